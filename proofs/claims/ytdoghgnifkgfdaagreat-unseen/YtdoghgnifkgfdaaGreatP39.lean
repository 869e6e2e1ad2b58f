import Derived.Conc.SmallLaws
import Derived.Test.YtdoghgnifkgfdaaGreatP33
import Derived.Test.YtdoghgnifkgfdaaGreatP35
import Derived.Test.YtdoghgnifkgfdaaGreatP38
set_option maxRecDepth 100000
set_option maxHeartbeats 16000000
namespace Go.Proofs.YtdoghgnifkgfdaaGreat.Mute
open Go Go.Conc Go.RowKit
def W1 (w:World) (cell budget:Nat):World:=w.alloc (.cells #[.int .i64 cell,.int .i64 budget] 102)
def W5 (w:World) (cell budget:Nat) (g:Nat) (inV:Value):World:=((((W1 w cell budget).alloc (.cells #[.pointer (some ⟨g,0,none⟩)] 143)).alloc (.cells #[.int .i64 budget] 3)).alloc (.cells #[inV] 29)).alloc (.chan 0 #[] false 0 0 false)
def W7 (w:World) (cell budget:Nat) (g:Nat) (inV:Value):World:=((W5 w cell budget g inV).alloc (.cells #[.chan none] 190)).setCell ⟨w.heap.size+5,0,none⟩ (.chan (some (w.heap.size+4)))
noncomputable def Y0F:Code:=match Tryz.f31.body with
 |some c=>c
 |none=>.skip
noncomputable def Y4t:Array Oper:=match Y0F with
 |.seq _ (.seq (.region _ ops _) _)=>ops
 |_=>#[]
noncomputable def Y34:Code:=match Y0F with
 |.seq _ (.seq _ c)=>c
 |_=>.skip
noncomputable def rwAt (kb C nC cC cell budget g n0:Nat) (inV:Value):Frame:=(base 31).at {tmps:=#[.pointer (some ⟨kb,0,none⟩),.agg #[.int .i64 cell,.int .i64 budget],inV,undef,.pointer (some ⟨n0,0,none⟩),undef,undef,.pointer (some ⟨kb,0,none⟩),.pointer (some ⟨kb,0,none⟩),.pointer (some ⟨kb,2,none⟩),.slice (some ⟨C,0,none⟩) nC cC,.pointer (some ⟨n0,0,none⟩),.int .i64 cell,.pointer (some ⟨C,cell,none⟩),.pointer (some ⟨g,0,none⟩),.pointer (some ⟨n0,1,none⟩),.int .i64 budget,inV,undef,undef,undef,undef,undef,undef,undef,undef,undef,undef,undef,undef,undef,undef,undef,undef,undef,undef,undef,undef,undef,undef],defers:=[]} [.inRegion Y4t [11],.code Y34]
section
variable {P:Program} {main:Bool} {R:World→World→Prop} {D:World→World→Array Event→Prop} {Stop:Goroutine→World→Prop} {b:Frame} {a:Act} {k:List Item} {cs:List Frame} {w:World}
theorem Y1.enterT (T:Terms R D) {ops:Array Oper} {i:Nat} {rest:List Nat} {o:Oper} {f:FuncId} {fn:Func} {c:Code} {args:Array Operand} {ats:Array TypeId} (tm:Array Value)
  (ho:ops[i]?=some o) (hw:Region.wanted o (yielded ops a.tmps)=true) (hk:b.kind≠.early) (hop:o.op=.call {callee:=.value (.func f),args,argTypes:=ats})
  (hf : P.funcs[f]? = some fn) (hname : (fn.name == "runtime.NumGoroutine") = false) (hb : fn.body = some c) (htm : args.map a.eval ++ Array.replicate (fn.ntmps - (args.map a.eval).size) undef = tm)
  (h:Y1 P main R D Stop (G ((base f).at {tmps:=tm,defers:=[]} [.code c]) (b.at a (.inRegion ops (i::rest)::k)::cs)) w):
  Y1 P main R D Stop (G (b.at a (.inRegion ops (i::rest)::k)) cs) w:=by
 refine Y1.enter T ho hw hk hop hf hname hb ?_;rw [htm];exact h
end
noncomputable def Y23:Code:=match Tryz.f57.body with
 |some c=>c
 |none=>.skip
noncomputable def Y46:Array Oper:=match Y23 with
 |.seq _ (.seq _ (.seq (.region _ ops _) _))=>ops
 |_=>#[]
noncomputable def Y40:Code:=match Y23 with
 |.seq _ (.seq _ (.seq _ c))=>c
 |_=>.skip
noncomputable def wiAt (g budget n0:Nat) (inV:Value):Frame:=(base 57).at {tmps:=#[.pointer (some ⟨g,0,none⟩),.int .i64 budget,inV,.pointer (some ⟨n0+1,0,none⟩),.pointer (some ⟨n0+2,0,none⟩),.pointer (some ⟨n0+3,0,none⟩),.chan none,.pointer (some ⟨n0+5,0,none⟩),.chan (some (n0+4)),.func (.func 83) #[] #[.pointer (some ⟨n0+5,0,none⟩),.pointer (some ⟨n0+1,0,none⟩),.pointer (some ⟨n0+2,0,none⟩),.pointer (some ⟨n0+3,0,none⟩)],undef],defers:=[]} [.inRegion Y46 [1],.code Y40]
theorem mkc (w:World):(Instr.makeChan 190 (.int .i64 0)).run Tryz.prog w=.ok (.chan (some w.heap.size)) (w.alloc (.chan 0 #[] false 0 0 false)):=by
 obtain ⟨i,hi,hz,hsz,hby⟩:=Y1Z;have:=run_makeChan (P:=Tryz.prog) (w:=w) Tryz.underlying190 hi .i64 0 (by omega) (by simp);simpa using this
theorem mkce (w:World) (es:Array Event):(Instr.makeChan 190 (.int .i64 0)).events Tryz.prog w es=es:=by
 obtain ⟨i,hi,hz,hsz,hby⟩:=Y1Z;have:=events_makeChan (P:=Tryz.prog) (w:=w) Tryz.underlying190 hi .i64 0 (by omega) (by simp) es;simpa using this
theorem Xq {w:World} {a:Addr} {v:Value} {o:Obj} (h:w.cell? a=some v):(w.alloc o).cell? a=some v:=by
 have hlt:a.block<w.heap.size:=by
  refine Classical.byContradiction fun hn=>?_;have:w.heap[a.block]?=none:=Array.getElem?_eq_none (by omega);unfold World.cell? at h;rw [this] at h;cases h
 unfold World.cell?;rw [heap_alloc_old w o hlt];exact h
theorem Y0q {W:World} {v:Value} {t n:Nat} (h:W.heap.size=n):(W.alloc (.cells #[v] t)).cell? ⟨n,0,none⟩=some v∧(W.alloc (.cells #[v] t)).frozen? ⟨n,0,none⟩=false:=by
 subst h;have hr:RowF (W.alloc (.cells #[v] t)) W.heap.size 1 t (fun _=>v):=.new W #[v] t _ fun j hj=>by
  have:j=0:=by simpa using hj
  subst this;rfl
 exact ⟨hr.cell (by omega),hr.frozen 0⟩
section
variable {Post:Goroutine→World→Prop} {w:World} {kb C T nC cC cell budget g:Nat}
theorem Ybs {inV:Value} (hinV:∃ip il ic,inV=.slice ip il ic) (cs:List Frame) (w0:World) (hF:Is (W1 w cell budget) w0) (h:∀d,Y3 Tryz.prog Post (G (wiAt g budget w.heap.size inV) cs) ((W7 w cell budget g inV).at d)):
  Y1 Tryz.prog true RS DS (Y3 Tryz.prog Post) (G ((base 57).at {tmps:=#[.pointer (some ⟨g,0,none⟩),.int .i64 budget,inV,undef,undef,undef,undef,undef,undef,undef,undef],defers:=[]} [.code Y23]) cs) w0:=by
 obtain ⟨ip,il,ic,rfl⟩:=hinV;have hk:(base 57).kind≠.early:=by simp [base]
 have hs1:(W1 w cell budget).heap.size=w.heap.size+1:=by simp [W1]
 repeat refine .c1 Y2 rfl ?_
 refine .regionL Y2 [0,1,2,3] (by rfl) ?_;refine .op rfl (by rfl) hk fun w1 hR K hK=>?_;replace hF:=hF.rely hR;clear hR;go_simp;try (unfold stored;go_simp)
 refine hK _ _ ⟨?_,?_⟩
 ·(intro e he;have hm:=mem_listed he;simp [go_sem, *] at hm)
 clear hK K;have hsz:=hF.size.trans (show _=w.heap.size+1 by simp [W1]);replace hF:=hF.alloc (.cells #[.pointer (some ⟨g,0,none⟩)] 143);rw [hsz];clear hsz;try walk_nrm
 refine .op rfl (by rfl) hk fun w1 hR K hK=>?_;replace hF:=hF.rely hR;clear hR;go_simp;try (unfold stored;go_simp)
 refine hK _ _ ⟨?_,?_⟩
 ·(intro e he;have hm:=mem_listed he;simp [go_sem, *] at hm)
 clear hK K;have hsz:=hF.size.trans (show _=w.heap.size+2 by simp [W1]);replace hF:=hF.alloc (.cells #[.int .i64 budget] 3);rw [hsz];clear hsz;try walk_nrm
 refine .op rfl (by rfl) hk fun w1 hR K hK=>?_;replace hF:=hF.rely hR;clear hR;go_simp;try (unfold stored;go_simp)
 refine hK _ _ ⟨?_,?_⟩
 ·(intro e he;have hm:=mem_listed he;simp [go_sem, *] at hm)
 clear hK K;have hsz:=hF.size.trans (show _=w.heap.size+3 by simp [W1]);replace hF:=hF.alloc (.cells #[.slice ip il ic] 29);rw [hsz];clear hsz;try walk_nrm
 refine .opV Y2 rfl (by rfl) hk ?_;try walk_nrm
 repeat refine .c1 Y2 rfl ?_
 refine .regionL Y2 [0,1,2] (by rfl) ?_;refine .op rfl (by rfl) hk fun w1 hR K hK=>?_;replace hF:=hF.rely hR;clear hR;have hmk:=mkc w1;have hme:=mkce w1;go_simp;try (unfold stored;go_simp)
 refine hK _ _ ⟨?_,?_⟩
 ·(intro e he;have hm:=mem_listed he;simp [go_sem, *] at hm)
 clear hK K;have hsz:=hF.size.trans (show _=w.heap.size+4 by simp [W1]);replace hF:=hF.alloc (.chan 0 #[] false 0 0 false);rw [hsz];clear hsz hmk hme;try walk_nrm
 refine .op rfl (by rfl) hk fun w1 hR K hK=>?_;replace hF:=hF.rely hR;clear hR;go_simp;try (unfold stored;go_simp)
 refine hK _ _ ⟨?_,?_⟩
 ·(intro e he;have hm:=mem_listed he;simp [go_sem, *] at hm)
 clear hK K;have hsz:=hF.size.trans (show _=w.heap.size+5 by simp [W1]);replace hF:=hF.alloc (.cells #[.chan none] 190);rw [hsz];clear hsz;try walk_nrm
 refine .op rfl (by rfl) hk fun w1 hR K hK=>?_;replace hF:=hF.rely hR;clear hR;obtain ⟨hb1,hb2⟩:=Y0q (W:=W5 w cell budget g (.slice ip il ic)) (v:=.chan none) (t:=190) (show _=w.heap.size+5 by simp [W5,W1]);have hc:=(hF.cell _).trans hb1;have hfz:=(hF.frozen _).trans hb2;go_simp;try (unfold stored;go_simp)
 refine hK _ _ ⟨?_,?_⟩
 ·co_evs (exact YR _ _ _)
 clear hK K;replace hF:=hF.set ⟨w.heap.size+5,0,none⟩ (.chan (some (w.heap.size+4)));clear hc hfz hb1 hb2;try walk_nrm
 repeat refine .c1 Y2 rfl ?_
 refine .regionL Y2 [0,1] (by rfl) ?_;refine .opV Y2 rfl (by rfl) hk ?_;try walk_nrm
 refine .stop rfl fun w1 hR=>?_;obtain ⟨d,rfl⟩:=hF.rely hR;exact h d
end
section
variable {Post:Goroutine→World→Prop} {w:World} {kb C T nC cC cell budget g:Nat}
theorem Yb4 (ck2:w.cell? ⟨kb,2,none⟩=some (.slice (some ⟨C,0,none⟩) nC cC)) (cc:w.cell? ⟨C,cell,none⟩=some (.pointer (some ⟨g,0,none⟩))) (hcell:cell<nC) (inV:Value) (hinV:∃ip il ic,inV=.slice ip il ic) (cs:List Frame) (h:∀d,Y3 Tryz.prog Post (G (wiAt g budget w.heap.size inV) (rwAt kb C nC cC cell budget g w.heap.size inV::cs)) ((W7 w cell budget g inV).at d)):Y3 Tryz.prog Post (G ((base 31).at {tmps:=#[.pointer (some ⟨kb,0,none⟩),.agg #[.int .i64 cell,.int .i64 budget],inV,undef,undef,undef,undef,undef,undef,undef,undef,undef,undef,undef,undef,undef,undef,undef,undef,undef,undef,undef,undef,undef,undef,undef,undef,undef,undef,undef,undef,undef,undef,undef,undef,undef,undef,undef,undef,undef],defers:=[]} [.code Y0F]) cs) w:=by
 obtain ⟨ip,il,ic,rfl⟩:=hinV;have hk:(base 31).kind≠.early:=by simp [base]
 have hk2:(base 57).kind≠.early:=by simp [base]
 have hlt:∀{a:Addr} {v:Value},w.cell? a=some v→(W1 w cell budget).cell? a=some v:=fun h=>Xq h;have hr:RowF (W1 w cell budget) w.heap.size 2 102 (fun j=>if j=0 then .int .i64 cell else .int .i64 budget):=.new w #[.int .i64 cell,.int .i64 budget] _ _ fun j hj=>by
  have:j=0∨j=1:=by simp at hj;omega
  rcases this with rfl|rfl<;>rfl
 have wk2:=hlt ck2;have wc:=hlt cc;have ww0:(W1 w cell budget).cell? ⟨w.heap.size,0,none⟩=some (.int .i64 cell):=hr.cell (by omega);have ww1:(W1 w cell budget).cell? ⟨w.heap.size,1,none⟩=some (.int .i64 budget):=hr.cell (by omega);have hci:(cell:Int)<(nC:Int):=by omega
 refine Y3.of_goes ?_;have hF:=Is.self w;repeat refine .c1 Y2 rfl ?_
 refine .regionL Y2 [0] (by rfl) ?_;refine .op rfl (by rfl) hk fun w1 hR K hK=>?_;replace hF:=hF.rely hR;clear hR;go_simp;try (unfold stored;go_simp)
 refine hK _ _ ⟨?_,?_⟩
 ·(intro e he;have hm:=mem_listed he;simp [go_sem, *] at hm)
 clear hK K;have hsz:=hF.size;replace hF:=hF.alloc (.cells #[.int .i64 cell,.int .i64 budget] 102);rw [hsz];clear hsz;change Is (W1 w cell budget) _ at hF;try walk_nrm
 repeat refine .c1 Y2 rfl ?_
 refine Y1.drawnT (S:=Is (W1 w cell budget)) Y2 Ju 12 (by rfl) hk (by kernel_rfl) ?_;intro w1 hR;replace hF:=(hF.rely hR).drew;clear hR;co_applyP Yq Y2 (fun _ _ _ _ h r=>⟨h.1,h.2.rely Y2.trans r⟩) (fun _ _ h r=>Is.rely h r) ?hqr1 (i:=0) rfl (by first|kernel_rfl|decide +kernel) (by first|kernel_rfl|decide +kernel) (by first|kernel_rfl|decide +kernel) (by first|kernel_rfl|decide +kernel) (.inl ⟨by rfl,fun _ hw=>⟨run_eq_of ?run1,?guar1⟩⟩) hF ?rest1
 case hqr1=>exact fun _ _ _ h r=>Y1.rely Y2.trans h r
 case run1=>
  intro K hK;skip;go_simp;exact hK
 case guar1=>
  skip
  co_quiet Y2
 try walk_nrm
 co_applyP Yq Y2 (fun _ _ _ _ h r=>⟨h.1,h.2.rely Y2.trans r⟩) (fun _ _ h r=>Is.rely h r) ?hqr2 (i:=1) rfl (by first|kernel_rfl|decide +kernel) (by first|kernel_rfl|decide +kernel) (by first|kernel_rfl|decide +kernel) (by first|kernel_rfl|decide +kernel) (.inl ⟨by rfl,fun _ hw=>⟨run_eq_of ?run2,?guar2⟩⟩) hF ?rest2
 case hqr2=>exact fun _ _ _ h r=>Y1.rely Y2.trans h r
 case run2=>
  intro K hK;skip;go_simp;exact hK
 case guar2=>
  skip
  co_quiet Y2
 try walk_nrm
 co_applyP Yq Y2 (fun _ _ _ _ h r=>⟨h.1,h.2.rely Y2.trans r⟩) (fun _ _ h r=>Is.rely h r) ?hqr3 (i:=2) rfl (by first|kernel_rfl|decide +kernel) (by first|kernel_rfl|decide +kernel) (by first|kernel_rfl|decide +kernel) (by first|kernel_rfl|decide +kernel) (.inl ⟨by rfl,fun _ hw=>⟨run_eq_of ?run3,?guar3⟩⟩) hF ?rest3
 case hqr3=>exact fun _ _ _ h r=>Y1.rely Y2.trans h r
 case run3=>
  intro K hK;skip;go_simp;exact hK
 case guar3=>
  skip
  co_quiet Y2
 try walk_nrm
 co_applyP Yq Y2 (fun _ _ _ _ h r=>⟨h.1,h.2.rely Y2.trans r⟩) (fun _ _ h r=>Is.rely h r) ?hqr4 (i:=3) rfl (by first|kernel_rfl|decide +kernel) (by first|kernel_rfl|decide +kernel) (by first|kernel_rfl|decide +kernel) (by first|kernel_rfl|decide +kernel) (.inl ⟨by rfl,fun _ hw=>⟨run_eq_of ?run4,?guar4⟩⟩) hF ?rest4
 case hqr4=>exact fun _ _ _ h r=>Y1.rely Y2.trans h r
 case run4=>
  intro K hK;have hc:World.cell? _ ⟨kb,2,none⟩=some (.slice (some ⟨C,0,none⟩) nC cC):=(hw.cell _).trans wk2;go_simp;exact hK
 case guar4=>
  have hc:World.cell? _ ⟨kb,2,none⟩=some (.slice (some ⟨C,0,none⟩) nC cC):=(hw.cell _).trans wk2
  co_evs (exact YR _ _ _)
 try walk_nrm
 co_applyP Yq Y2 (fun _ _ _ _ h r=>⟨h.1,h.2.rely Y2.trans r⟩) (fun _ _ h r=>Is.rely h r) ?hqr5 (i:=4) rfl (by first|kernel_rfl|decide +kernel) (by first|kernel_rfl|decide +kernel) (by first|kernel_rfl|decide +kernel) (by first|kernel_rfl|decide +kernel) (.inl ⟨by rfl,fun _ hw=>⟨run_eq_of ?run5,?guar5⟩⟩) hF ?rest5
 case hqr5=>exact fun _ _ _ h r=>Y1.rely Y2.trans h r
 case run5=>
  intro K hK;skip;go_simp;exact hK
 case guar5=>
  skip
  co_quiet Y2
 try walk_nrm
 co_applyP Yq Y2 (fun _ _ _ _ h r=>⟨h.1,h.2.rely Y2.trans r⟩) (fun _ _ h r=>Is.rely h r) ?hqr6 (i:=5) rfl (by first|kernel_rfl|decide +kernel) (by first|kernel_rfl|decide +kernel) (by first|kernel_rfl|decide +kernel) (by first|kernel_rfl|decide +kernel) (.inl ⟨by rfl,fun _ hw=>⟨run_eq_of ?run6,?guar6⟩⟩) hF ?rest6
 case hqr6=>exact fun _ _ _ h r=>Y1.rely Y2.trans h r
 case run6=>
  intro K hK;have hc:World.cell? _ ⟨w.heap.size,0,none⟩=some (.int .i64 cell):=(hw.cell _).trans ww0;go_simp;exact hK
 case guar6=>
  have hc:World.cell? _ ⟨w.heap.size,0,none⟩=some (.int .i64 cell):=(hw.cell _).trans ww0
  co_evs (exact YR _ _ _)
 try walk_nrm
 co_applyP Yq Y2 (fun _ _ _ _ h r=>⟨h.1,h.2.rely Y2.trans r⟩) (fun _ _ h r=>Is.rely h r) ?hqr7 (i:=6) rfl (by first|kernel_rfl|decide +kernel) (by first|kernel_rfl|decide +kernel) (by first|kernel_rfl|decide +kernel) (by first|kernel_rfl|decide +kernel) (.inl ⟨by rfl,fun _ hw=>⟨run_eq_of ?run7,?guar7⟩⟩) hF ?rest7
 case hqr7=>exact fun _ _ _ h r=>Y1.rely Y2.trans h r
 case run7=>
  intro K hK;skip;go_simp;exact hK
 case guar7=>
  skip
  co_still Y2
 try walk_nrm
 co_applyP Yq Y2 (fun _ _ _ _ h r=>⟨h.1,h.2.rely Y2.trans r⟩) (fun _ _ h r=>Is.rely h r) ?hqr8 (i:=7) rfl (by first|kernel_rfl|decide +kernel) (by first|kernel_rfl|decide +kernel) (by first|kernel_rfl|decide +kernel) (by first|kernel_rfl|decide +kernel) (.inl ⟨by rfl,fun _ hw=>⟨run_eq_of ?run8,?guar8⟩⟩) hF ?rest8
 case hqr8=>exact fun _ _ _ h r=>Y1.rely Y2.trans h r
 case run8=>
  intro K hK;have hc:World.cell? _ ⟨C,cell,none⟩=some (.pointer (some ⟨g,0,none⟩)):=(hw.cell _).trans wc;go_simp;exact hK
 case guar8=>
  have hc:World.cell? _ ⟨C,cell,none⟩=some (.pointer (some ⟨g,0,none⟩)):=(hw.cell _).trans wc
  co_evs (exact YR _ _ _)
 try walk_nrm
 co_applyP Yq Y2 (fun _ _ _ _ h r=>⟨h.1,h.2.rely Y2.trans r⟩) (fun _ _ h r=>Is.rely h r) ?hqr9 (i:=8) rfl (by first|kernel_rfl|decide +kernel) (by first|kernel_rfl|decide +kernel) (by first|kernel_rfl|decide +kernel) (by first|kernel_rfl|decide +kernel) (.inl ⟨by rfl,fun _ hw=>⟨run_eq_of ?run9,?guar9⟩⟩) hF ?rest9
 case hqr9=>exact fun _ _ _ h r=>Y1.rely Y2.trans h r
 case run9=>
  intro K hK;skip;go_simp;exact hK
 case guar9=>
  skip
  co_quiet Y2
 try walk_nrm
 co_applyP Yq Y2 (fun _ _ _ _ h r=>⟨h.1,h.2.rely Y2.trans r⟩) (fun _ _ h r=>Is.rely h r) ?hqr10 (i:=9) rfl (by first|kernel_rfl|decide +kernel) (by first|kernel_rfl|decide +kernel) (by first|kernel_rfl|decide +kernel) (by first|kernel_rfl|decide +kernel) (.inl ⟨by rfl,fun _ hw=>⟨run_eq_of ?run10,?guar10⟩⟩) hF ?rest10
 case hqr10=>exact fun _ _ _ h r=>Y1.rely Y2.trans h r
 case run10=>
  intro K hK;have hc:World.cell? _ ⟨w.heap.size,1,none⟩=some (.int .i64 budget):=(hw.cell _).trans ww1;go_simp;exact hK
 case guar10=>
  have hc:World.cell? _ ⟨w.heap.size,1,none⟩=some (.int .i64 budget):=(hw.cell _).trans ww1
  co_evs (exact YR _ _ _)
 try walk_nrm
 co_applyP Yq Y2 (fun _ _ _ _ h r=>⟨h.1,h.2.rely Y2.trans r⟩) (fun _ _ h r=>Is.rely h r) ?hqr11 (i:=10) rfl (by first|kernel_rfl|decide +kernel) (by first|kernel_rfl|decide +kernel) (by first|kernel_rfl|decide +kernel) (by first|kernel_rfl|decide +kernel) (.inl ⟨by rfl,fun _ hw=>⟨run_eq_of ?run11,?guar11⟩⟩) hF ?rest11
 case hqr11=>exact fun _ _ _ h r=>Y1.rely Y2.trans h r
 case run11=>
  intro K hK;skip;go_simp;exact hK
 case guar11=>
  skip
  co_quiet Y2
 try walk_nrm
 refine Y1P (i:=11) (by first|kernel_rfl|decide +kernel) rfl (by rfl) (Z8 rfl (by first|kernel_rfl|decide +kernel)) ⟨rfl,?_⟩;refine Y1.enterT Y2 #[.pointer (some ⟨g,0,none⟩),.int .i64 budget,.slice ip il ic,undef,undef,undef,undef,undef,undef,undef,undef] rfl (by rfl) hk rfl Tryz.func57 (by rfl) rfl (by kernel_rfl) ?_;exact Ybs ⟨_,_,_,rfl⟩ _ _ hF h
end
theorem Jg {w:World} {a:Addr} {v:Value} (h:w.cell? a=some v):a.block<w.heap.size:=by
 refine Classical.byContradiction fun hn=>?_;have:w.heap[a.block]?=none:=Array.getElem?_eq_none (by omega);unfold World.cell? at h;rw [this] at h;cases h
section
variable (w:World) (cell budget g:Nat) (inV:Value)
theorem XJ:(W7 w cell budget g inV).heap.size=w.heap.size+6:=by simp [W7,W5,W1,World.setCell]
theorem JQ {b:Nat} (hb:b<w.heap.size):(W7 w cell budget g inV).heap[b]?=w.heap[b]?:=by
 unfold W7;rw [heap_setCell_other _ _ _ _ (by show b≠w.heap.size+5;omega)];unfold W5 W1;repeat rw [heap_alloc_old _ _ (by simp;omega)]
 exact heap_alloc_old w _ hb
theorem YbH:(W7 w cell budget g inV).heap[w.heap.size+4]?=some (.chan 0 #[] false 0 0 false):=by
 unfold W7;rw [heap_setCell_other _ _ _ _ (by show w.heap.size+4≠w.heap.size+5;omega),heap_alloc_old _ _ (by simp [W5,W1])];unfold W5;generalize hX:(((W1 w cell budget).alloc (.cells #[.pointer (some ⟨g,0,none⟩)] 143)).alloc (.cells #[.int .i64 budget] 3)).alloc (.cells #[inV] 29)=X;have hs:X.heap.size=w.heap.size+4:=by rw [←hX];simp [W1]
 rw [←hs];exact heap_alloc_new X _
theorem Y1l {a:Addr} {v:Value} (h:w.cell? a=some v):(W7 w cell budget g inV).cell? a=some v:=by
 have hlt:=Jg h;unfold World.cell? at h ⊢;rw [JQ w cell budget g inV hlt];exact h
theorem Y0s {W:World} {a:Addr} {v x:Value} {b:Nat} (h:W.cell? a=some v) (hb:a.block≠b):(W.setCell ⟨b,0,none⟩ x).cell? a=some v:=by
 unfold World.cell? at h ⊢;rw [heap_setCell_other _ _ _ _ hb];exact h
theorem Y7C:(W7 w cell budget g inV).cell? ⟨w.heap.size,0,none⟩=some (.int .i64 cell):=by
 have hr:RowF (W1 w cell budget) w.heap.size 2 102 (fun j=>if j=0 then .int .i64 cell else .int .i64 budget):=.new w #[.int .i64 cell,.int .i64 budget] _ _ fun j hj=>by
  have:j=0∨j=1:=by simp at hj;omega
  rcases this with rfl|rfl<;>rfl
 have h0:(W1 w cell budget).cell? ⟨w.heap.size,0,none⟩=some (.int .i64 cell):=hr.cell (by omega);exact Y0s (Xq (Xq (Xq (Xq (Xq h0))))) (by show w.heap.size≠w.heap.size+5;omega)
theorem Y7Y:(W7 w cell budget g inV).cell? ⟨w.heap.size+1,0,none⟩=some (.pointer (some ⟨g,0,none⟩)):=by
 have h0:=(Y0q (W:=W1 w cell budget) (v:=.pointer (some ⟨g,0,none⟩)) (t:=143) (n:=w.heap.size+1) (by simp [W1])).1;exact Y0s (Xq (Xq (Xq (Xq h0)))) (by show w.heap.size+1≠w.heap.size+5;omega)
theorem Y6u:(W7 w cell budget g inV).cell? ⟨w.heap.size+2,0,none⟩=some (.int .i64 budget):=by
 have h0:=(Y0q (W:=(W1 w cell budget).alloc (.cells #[.pointer (some ⟨g,0,none⟩)] 143)) (v:=.int .i64 budget) (t:=3) (n:=w.heap.size+2) (by simp [W1])).1;exact Y0s (Xq (Xq (Xq h0))) (by show w.heap.size+2≠w.heap.size+5;omega)
theorem Y5m:(W7 w cell budget g inV).cell? ⟨w.heap.size+3,0,none⟩=some inV:=by
 have h0:=(Y0q (W:=((W1 w cell budget).alloc (.cells #[.pointer (some ⟨g,0,none⟩)] 143)).alloc (.cells #[.int .i64 budget] 3)) (v:=inV) (t:=29) (n:=w.heap.size+3) (by simp [W1])).1;exact Y0s (Xq (Xq h0)) (by show w.heap.size+3≠w.heap.size+5;omega)
theorem Y2H:(W7 w cell budget g inV).cell? ⟨w.heap.size+5,0,none⟩=some (.chan (some (w.heap.size+4))):=by
 have hr:RowF ((W5 w cell budget g inV).alloc (.cells #[.chan none] 190)) (W5 w cell budget g inV).heap.size 1 190 (fun _=>.chan none):=.new _ #[.chan none] _ _ fun j hj=>by
  have:j=0:=by simpa using hj
  subst this;rfl
 have hs:(W5 w cell budget g inV).heap.size=w.heap.size+5:=by simp [W5,W1]
 rw [hs] at hr;exact (hr.set 0 (.chan (some (w.heap.size+4)))).cell (by omega)
end
structure NetC (w:World) (K:NetK):Prop where
 n0:∃a ce,w.cell? ⟨K.nb,0,none⟩=some (.slice a K.k ce)∧(0<K.k→a=some ⟨K.eb,0,none⟩)
 n1:∃a cq,w.cell? ⟨K.nb,1,none⟩=some (.slice a K.k cq)∧(0<K.k→a=some ⟨K.qb,0,none⟩)
 n2:∃a cs,w.cell? ⟨K.nb,2,none⟩=some (.slice a K.k cs)∧(0<K.k→a=some ⟨K.sb,0,none⟩)
 e0:∀j,j<K.k→w.cell? ⟨K.eb,j*2,none⟩=some (.int .i64 (K.fr j))
 e1:∀j,j<K.k→w.cell? ⟨K.eb,j*2+1,none⟩=some (.int .i64 (K.to_ j))
 hqm:K.k*3≤K.qm
 hsm:K.k*4≤K.sm
 hk:K.k≤1000
theorem NetC.at1 {w:World} {K:NetK} (h:NetC w K) (h0:0<K.k):∃cq,w.cell? ⟨K.nb,1,none⟩=some (.slice (some ⟨K.qb,0,none⟩) K.k cq):=by
 obtain ⟨a,c,h1,h2⟩:=h.n1;exact ⟨c,by rw [h1,h2 h0]⟩
theorem NetC.at2 {w:World} {K:NetK} (h:NetC w K) (h0:0<K.k):∃cs,w.cell? ⟨K.nb,2,none⟩=some (.slice (some ⟨K.sb,0,none⟩) K.k cs):=by
 obtain ⟨a,c,h1,h2⟩:=h.n2;exact ⟨c,by rw [h1,h2 h0]⟩
theorem NetC.keep {w w':World} {K:NetK} (h:NetC w K) (hk:w'.heap[K.nb]?=w.heap[K.nb]?) (he:0<K.k→w'.heap[K.eb]?=w.heap[K.eb]?):NetC w' K:=by
 have kn:∀j,w'.cell? ⟨K.nb,j,none⟩=w.cell? ⟨K.nb,j,none⟩:=fun j=>by unfold World.cell?;rw [hk]
 have ke:∀j,0<K.k→w'.cell? ⟨K.eb,j,none⟩=w.cell? ⟨K.eb,j,none⟩:=fun j h0=>by unfold World.cell?;rw [he h0]
 exact ⟨by rw [kn];exact h.n0,by rw [kn];exact h.n1,by rw [kn];exact h.n2,fun j hj=>by rw [ke _ (by omega)];exact h.e0 j hj,fun j hj=>by rw [ke _ (by omega)];exact h.e1 j hj,h.hqm,h.hsm,h.hk⟩
structure Far (T g:Nat) (v:Value) (N:Nat→Prop) (b:Nat):Prop where
 g:b≠g
 T:b≠T
 o:v.ownBlock≠some b
 n:¬N b
def InW (w:World) (inV:Value) (ins:List (Int×Int)) (F:Nat→Prop):Prop:=∃a c,inV=.slice a ins.length c∧∀(j:Nat) (x:Int×Int),ins[j]?=some x→∃ib io,a=some ⟨ib,io,none⟩∧F ib∧w.cell? ⟨ib,io+j*2,none⟩=some (.int .i64 x.1)∧w.cell? ⟨ib,io+j*2+1,none⟩=some (.int .i64 x.2)
theorem InW.keep {w w':World} {inV:Value} {ins:List (Int×Int)} {F F':Nat→Prop} (h:InW w inV ins F) (hk:∀b,F b→w'.heap[b]?=w.heap[b]?) (hF:∀b,F b→b<w.heap.size→F' b):InW w' inV ins F':=by
 obtain ⟨a,c,h1,h2⟩:=h;refine ⟨a,c,h1,fun j x hj=>?_⟩;obtain ⟨ib,io,g1,g2,g3,g4⟩:=h2 j x hj;have e:∀j,w'.cell? ⟨ib,j,none⟩=w.cell? ⟨ib,j,none⟩:=fun j=>by unfold World.cell?;rw [hk ib g2]
 exact ⟨ib,io,g1,hF ib g2 (Jg g3),by rw [e];exact g3,by rw [e];exact g4⟩
structure Ycf (w:World) (kb C T nC cC cell g cb co cc:Nat) (p:Prg) (K:NetK) (D:Nat→Chn) (lr:Nat→Option Row) (z:Nat→Int) (f:Nat→Value) (m:Nat) (xs:List Value) (inV:Value):Prop where
 k2:w.cell? ⟨kb,2,none⟩=some (.slice (some ⟨C,0,none⟩) nC cC)
 k4:w.cell? ⟨kb,4,none⟩=some (.slice (some ⟨T,0,none⟩) nC nC)
 cl:w.cell? ⟨C,cell,none⟩=some (.pointer (some ⟨g,0,none⟩))
 hcell:cell<nC
 row:RowF w g 48 186 (cellV p.num (.pointer (some ⟨K.nb,0,none⟩)) (YB cb co p.n cc) z)
 tr:RowF w T nC 61 f
 own:w.ownsRow 0 111 3 (f cell) m xs
 code:∀j,j<p.n*4→w.cell? ⟨cb,co+j,none⟩=some (.int .i64 (p.ci j))
 cbIn:∃o,w.heap[cb]?=some o
 n48:p.n≤48
 ok:Yc8 p.n K.k p.ci
 zok:Zok p.n z
 nt:NtW w K D lr
 nc:NetC w K
 hfr:p.fr=K.fr
 inr:InW w inV p.ins (Far T g (f cell) (netB K lr))
 hln:p.ins.length≤1000
 len:LenQ K.k 900000000 D
 hg:g≠T∧(f cell).ownBlock≠some g∧¬netB K lr g
 hT:(f cell).ownBlock≠some T
 hN:∀b,netB K lr b→b≠T∧(f cell).ownBlock≠some b
 hkb:Far T g (f cell) (netB K lr) kb
 hcb:Far T g (f cell) (netB K lr) cb
 hnb:Far T g (f cell) (netB K lr) K.nb
 heb:0<K.k→Far T g (f cell) (netB K lr) K.eb
def lotQ (w:World) (T g:Nat) (v:Value) (N:Nat→Prop):Lot:={B:=w.heap.size+6,c:=w.heap.size+4,ev:=111,S:=fun b=>b=g∨N b,M:=fun b=>b=T∨v.ownBlock=some b}
theorem Ygz (w:World) (T g:Nat) (v:Value) (N:Nat→Prop):Evs (lotQ w T g v N):=⟨rfl,rfl,rfl,rfl⟩
section
variable {w:World} {kb C T nC cC cell g cb co cc:Nat} {p:Prg} {K:NetK} {D:Nat→Chn} {lr:Nat→Option Row} {z:Nat→Int} {f:Nat→Value} {m:Nat} {xs:List Value} {budget:Nat} {inV:Value}
theorem Ydz (_h:Ycf w kb C T nC cC cell g cb co cc p K D lr z f m xs inV) {b:Nat} (hb:∃o,(W7 w cell budget g inV).heap[b]?=some o) (hc:b≠w.heap.size+4) (hf:Far T g (f cell) (netB K lr) b):Still (lotQ w T g (f cell) (netB K lr)) (W7 w cell budget g inV) b:=by
 obtain ⟨o,ho⟩:=hb;have hlt:=(Array.getElem?_eq_some_iff.1 ho).1;rw [XJ] at hlt;refine ⟨⟨o,ho⟩,hc,fun o' _ hb=>?_⟩;rcases hb with hb|hb
 ·rcases hb.2 with ⟨_,hb⟩|⟨hb,_⟩
  ·exact hf.T.elim (hb.elim id fun x=>absurd x hf.o)
  ·exact absurd hlt (by show ¬b<w.heap.size+6;exact Nat.not_lt.2 hb)
 ·rcases hb.2 with ⟨_,hb⟩|⟨hb,_⟩
  ·exact hb.elim hf.g hf.n
  ·exact absurd hlt (by show ¬b<w.heap.size+6;exact Nat.not_lt.2 hb)
theorem YcR (h:Ycf w kb C T nC cC cell g cb co cc p K D lr z f m xs inV) {b:Nat} (hb:(f cell).ownBlock=some b):b<w.heap.size:=by
 rcases h.own.2 with ⟨hx,_⟩|⟨g0,cap0,cur,hx,_,hg,_⟩
 ·rw [hx] at hb;simp [Value.ownBlock] at hb
 ·rw [hx] at hb;have:g0=b:=by simpa [Value.ownBlock] using hb
  subst this;exact (Array.getElem?_eq_some_iff.1 hg).1
theorem Yct (h:Ycf w kb C T nC cC cell g cb co cc p K D lr z f m xs inV) {b:Nat} (hb:b<w.heap.size) (hf:Far T g (f cell) (netB K lr) b):Still (lotQ w T g (f cell) (netB K lr)) (W7 w cell budget g inV) b:=
 Ydz h ⟨_,Array.getElem?_eq_getElem (by rw [XJ];omega)⟩ (by omega) hf
theorem Ycz (h:Ycf w kb C T nC cC cell g cb co cc p K D lr z f m xs inV) {i:Nat} (hi:i<6) (h4:i≠4):Still (lotQ w T g (f cell) (netB K lr)) (W7 w cell budget g inV) (w.heap.size+i):=by
 have hg:=h.row.lt;have hT:=h.tr.lt;refine Ydz h ⟨_,Array.getElem?_eq_getElem (by rw [XJ];omega)⟩ (by omega) ⟨by omega,by omega,fun hb=>by have:=YcR h hb;omega,fun hb=>by have:=h.nt.lt hb;omega⟩
theorem YfM (h:Ycf w kb C T nC cC cell g cb co cc p K D lr z f m xs inV) (d:Nat):∃rn,NR K rn D∧Kn (lotQ w T g (f cell) (netB K lr)) (W7 w cell budget g inV) (ZQ K g p.num (YB cb co p.n cc) z::rn) ((W7 w cell budget g inV).at d):=by
 obtain ⟨rn,hN,hR,hne⟩:=h.nt.lay;refine ⟨rn,hN,.at _ _,fun i r hi=>?_,fun i j r s hi hj hn=>?_,?_,?_⟩
 ·have key:RowF w r.g r.m r.t r.f∧(r.g=g∨netB K lr r.g)∧r.g≠T∧(f cell).ownBlock≠some r.g:=by
   cases i with
   |zero=>cases hi;exact ⟨h.row,.inl rfl,h.hg.1,h.hg.2.1⟩
   |succ i=>have:=hR i r hi;exact ⟨this.1,.inr this.2,(h.hN _ this.2).1,(h.hN _ this.2).2⟩
  obtain ⟨hrow,hS,hT,ho⟩:=key;have hlt:=hrow.lt;have hrow:RowF (W7 w cell budget g inV) r.g r.m r.t r.f:=hrow.of_heap (JQ w cell budget g inV hlt);have hlt:r.g<w.heap.size+6:=by omega
  have hne4:r.g≠w.heap.size+4:=by omega
  refine ⟨⟨hrow,?_,hne4,fun o ho' hm=>?_⟩,fun o ho'=>⟨hne4,.inl ⟨hlt,hS⟩⟩⟩
  ·obtain ⟨cs,h1,_⟩:=hrow;exact ⟨_,h1⟩
  ·rcases hm.2 with ⟨_,hm⟩|⟨hm,_⟩
   ·exact hm.elim hT ho
   ·exact absurd hlt (Nat.not_lt.2 hm)
 ·cases i with
  |zero=>
   cases j with
   |zero=>exact absurd rfl hn
   |succ j=>
    cases hi;have:=(hR j s hj).2;exact fun e=>h.hg.2.2 (by have e:g=s.g:=e;rw [e];exact this)
  |succ i=>
   cases j with
   |zero=>
    cases hj;have:=(hR i r hi).2;exact fun e=>h.hg.2.2 (by have e:r.g=g:=e;rw [←e];exact this)
   |succ j=>exact hne i j r s hi hj (by omega)
 ·show w.heap.size+6≤(W7 w cell budget g inV).heap.size;rw [XJ];omega
 ·show w.heap.size+4<(W7 w cell budget g inV).heap.size;rw [XJ];omega
theorem Yh1 (h:Ycf w kb C T nC cC cell g cb co cc p K D lr z f m xs inV) (d:Nat):Ms (lotQ w T g (f cell) (netB K lr)) (W7 w cell budget g inV) T nC f cell m xs ((W7 w cell budget g inV).at d):=by
 have hT:=h.tr.lt;have hrow:RowF (W7 w cell budget g inV) T nC 61 f:=h.tr.of_heap (JQ w cell budget g inV hT);have key:∀b,(b=T∨(f cell).ownBlock=some b)→(∃o,(W7 w cell budget g inV).heap[b]?=some o)→Calm (lotQ w T g (f cell) (netB K lr)) (lotQ w T g (f cell) (netB K lr)).send ((W7 w cell budget g inV).at d) b∧Mine (lotQ w T g (f cell) (netB K lr)).main ((W7 w cell budget g inV).at d) b:=fun b hb hth=>by
  have hlt:b<w.heap.size:=hb.elim (fun e=>by rw [e];exact hT) fun e=>YcR h e;have hlt6:b<w.heap.size+6:=by omega
  have hne:b≠w.heap.size+4:=by omega
  refine ⟨⟨hth,hne,fun o ho hm=>?_⟩,fun o ho=>⟨hne,.inl ⟨hlt6,hb⟩⟩⟩;rcases hm.2 with ⟨_,hm⟩|⟨hm,_⟩
  ·rcases hm with hm|hm
   ·subst hm;exact hb.elim (fun e=>h.hg.1 e) h.hg.2.1
   ·exact hb.elim (h.hN b hm).1 (h.hN b hm).2
  ·exact absurd hlt6 (Nat.not_lt.2 hm)
 refine ⟨.at _ _,⟨⟨hrow,(key T (.inl rfl) ?_).1⟩,(key T (.inl rfl) ?_).2⟩,?_,?_,?_,fun b hb=>key b (.inr hb) ⟨_,Array.getElem?_eq_getElem (by rw [XJ];have:=YcR h hb;omega)⟩⟩
 ·exact ⟨_,Array.getElem?_eq_getElem (by rw [XJ];omega)⟩
 ·exact ⟨_,Array.getElem?_eq_getElem (by rw [XJ];omega)⟩
 ·show w.heap.size+6≤(W7 w cell budget g inV).heap.size;rw [XJ];omega
 ·show w.heap.size+4<(W7 w cell budget g inV).heap.size;rw [XJ];omega
 ·exact Xd (L:=lotQ w T g (f cell) (netB K lr)) h.own fun b hb=>JQ w cell budget g inV (YcR h hb)
theorem YfP (h:Ycf w kb C T nC cC cell g cb co cc p K D lr z f m xs inV):NetW (lotQ w T g (f cell) (netB K lr)) (W7 w cell budget g inV) K:=by
 have hc:NetC (W7 w cell budget g inV) K:=by
  obtain ⟨a,ce,n0,_⟩:=h.nc.n0;exact h.nc.keep (JQ w cell budget g inV (Jg n0)) fun h0=>JQ w cell budget g inV (Jg (h.nc.e0 0 h0))
 obtain ⟨a,ce,n0,_⟩:=h.nc.n0;exact ⟨Yct h (Jg n0) h.hnb,hc.n0,hc.at1,hc.at2,fun h0=>Yct h (Jg (h.nc.e0 0 h0)) (h.heb h0),hc.e0,hc.e1,hc.hqm,hc.hsm,hc.hk⟩
theorem YfV (h:Ycf w kb C T nC cC cell g cb co cc p K D lr z f m xs inV):InR (lotQ w T g (f cell) (netB K lr)) (W7 w cell budget g inV) inV p.ins:=by
 obtain ⟨a,c,h1,h2⟩:=h.inr;refine ⟨a,c,h1,fun j x hj=>?_⟩;obtain ⟨ib,io,g1,g2,g3,g4⟩:=h2 j x hj;exact ⟨ib,io,g1,Yct h (Jg g3) g2,Y1l w cell budget g inV g3,Y1l w cell budget g inV g4⟩
end
end Go.Proofs.YtdoghgnifkgfdaaGreat.Mute
