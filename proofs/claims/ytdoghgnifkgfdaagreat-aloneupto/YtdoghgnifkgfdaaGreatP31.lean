import Derived.Conc.SmallLaws
import Derived.Test.YtdoghgnifkgfdaaGreatP30
set_option maxRecDepth 100000
set_option maxHeartbeats 4000000
namespace Go.Proofs.YtdoghgnifkgfdaaGreat.Mute
open Go Go.Conc Go.RowKit
def W1 (w:World) (cell budget:Nat):World:=w.alloc (.cells #[.int .i64 cell,.int .i64 budget] 102)
def W5 (w:World) (cell budget:Nat) (g:Nat) (inV:Value):World:=((((W1 w cell budget).alloc (.cells #[.pointer (some ⟨g,0,none⟩)] 143)).alloc (.cells #[.int .i64 budget] 3)).alloc (.cells #[inV] 29)).alloc (.chan 0 #[] false 0 0 false)
def W7 (w:World) (cell budget:Nat) (g:Nat) (inV:Value):World:=((W5 w cell budget g inV).alloc (.cells #[.chan none] 190)).setCell ⟨w.heap.size+5,0,none⟩ (.chan (some (w.heap.size+4)))
noncomputable def Y0F:Code:=match Tryz.f31.body with
 |some c=>c
 |none=>.skip
noncomputable def Y4t:Array Oper:=match Y0F with
 |.seq _ (.seq (.region _ ops _) _)=>ops
 |_=>#[]
noncomputable def Y34:Code:=match Y0F with
 |.seq _ (.seq _ c)=>c
 |_=>.skip
noncomputable def rwAt (kb C nC cC cell budget g n0:Nat) (inV:Value):Frame:=(base 31).at {tmps:=#[.pointer (some ⟨kb,0,none⟩),.agg #[.int .i64 cell,.int .i64 budget],inV,undef,.pointer (some ⟨n0,0,none⟩),undef,undef,.pointer (some ⟨kb,0,none⟩),.pointer (some ⟨kb,0,none⟩),.pointer (some ⟨kb,2,none⟩),.slice (some ⟨C,0,none⟩) nC cC,.pointer (some ⟨n0,0,none⟩),.int .i64 cell,.pointer (some ⟨C,cell,none⟩),.pointer (some ⟨g,0,none⟩),.pointer (some ⟨n0,1,none⟩),.int .i64 budget,inV,undef,undef,undef,undef,undef,undef,undef,undef,undef,undef,undef,undef,undef,undef,undef,undef,undef,undef,undef,undef,undef,undef],defers:=[]} [.inRegion Y4t [11],.code Y34]
section
variable {P:Program} {main:Bool} {R:World→World→Prop} {D:World→World→Array Event→Prop} {Stop:Goroutine→World→Prop} {b:Frame} {a:Act} {k:List Item} {cs:List Frame} {w:World}
theorem Y1.enterT (T:Terms R D) {ops:Array Oper} {i:Nat} {rest:List Nat} {o:Oper} {f:FuncId} {fn:Func} {c:Code} {args:Array Operand} {ats:Array TypeId} (tm:Array Value)
  (ho:ops[i]?=some o) (hw:Region.wanted o (yielded ops a.tmps)=true) (hk:b.kind≠.early) (hop:o.op=.call {callee:=.value (.func f),args,argTypes:=ats})
  (hf : P.funcs[f]? = some fn) (hname : (fn.name == "runtime.NumGoroutine") = false) (hb : fn.body = some c) (htm : args.map a.eval ++ Array.replicate (fn.ntmps - (args.map a.eval).size) undef = tm)
  (h:Y1 P main R D Stop (G ((base f).at {tmps:=tm,defers:=[]} [.code c]) (b.at a (.inRegion ops (i::rest)::k)::cs)) w):
  Y1 P main R D Stop (G (b.at a (.inRegion ops (i::rest)::k)) cs) w:=by
 refine Y1.enter T ho hw hk hop hf hname hb ?_;rw [htm];exact h
end
noncomputable def Y23:Code:=match Tryz.f57.body with
 |some c=>c
 |none=>.skip
noncomputable def Y46:Array Oper:=match Y23 with
 |.seq _ (.seq _ (.seq (.region _ ops _) _))=>ops
 |_=>#[]
noncomputable def Y40:Code:=match Y23 with
 |.seq _ (.seq _ (.seq _ c))=>c
 |_=>.skip
noncomputable def wiAt (g budget n0:Nat) (inV:Value):Frame:=(base 57).at {tmps:=#[.pointer (some ⟨g,0,none⟩),.int .i64 budget,inV,.pointer (some ⟨n0+1,0,none⟩),.pointer (some ⟨n0+2,0,none⟩),.pointer (some ⟨n0+3,0,none⟩),.chan none,.pointer (some ⟨n0+5,0,none⟩),.chan (some (n0+4)),.func (.func 83) #[] #[.pointer (some ⟨n0+5,0,none⟩),.pointer (some ⟨n0+1,0,none⟩),.pointer (some ⟨n0+2,0,none⟩),.pointer (some ⟨n0+3,0,none⟩)],undef],defers:=[]} [.inRegion Y46 [1],.code Y40]
theorem mkc (w:World):(Instr.makeChan 190 (.int .i64 0)).run Tryz.prog w=.ok (.chan (some w.heap.size)) (w.alloc (.chan 0 #[] false 0 0 false)):=by
 obtain ⟨i,hi,hz,hsz,hby⟩:=Y1Z;have:=run_makeChan (P:=Tryz.prog) (w:=w) Tryz.underlying190 hi .i64 0 (by omega) (by simp);simpa using this
theorem mkce (w:World) (es:Array Event):(Instr.makeChan 190 (.int .i64 0)).events Tryz.prog w es=es:=by
 obtain ⟨i,hi,hz,hsz,hby⟩:=Y1Z;have:=events_makeChan (P:=Tryz.prog) (w:=w) Tryz.underlying190 hi .i64 0 (by omega) (by simp) es;simpa using this
theorem Xq {w:World} {a:Addr} {v:Value} {o:Obj} (h:w.cell? a=some v):(w.alloc o).cell? a=some v:=by
 have hlt:a.block<w.heap.size:=by
  refine Classical.byContradiction fun hn=>?_;have:w.heap[a.block]?=none:=Array.getElem?_eq_none (by omega);unfold World.cell? at h;rw [this] at h;cases h
 unfold World.cell?;rw [heap_alloc_old w o hlt];exact h
theorem Y0q {W:World} {v:Value} {t n:Nat} (h:W.heap.size=n):(W.alloc (.cells #[v] t)).cell? ⟨n,0,none⟩=some v∧(W.alloc (.cells #[v] t)).frozen? ⟨n,0,none⟩=false:=by
 subst h;have hr:RowF (W.alloc (.cells #[v] t)) W.heap.size 1 t (fun _=>v):=.new W #[v] t _ fun j hj=>by
  have:j=0:=by simpa using hj
  subst this;rfl
 exact ⟨hr.cell (by omega),hr.frozen 0⟩
section
variable {Post:Goroutine→World→Prop} {w:World} {kb C T nC cC cell budget g:Nat}
theorem Ybs {inV:Value} (hinV:∃ip il ic,inV=.slice ip il ic) (cs:List Frame) (w0:World) (hF:Is (W1 w cell budget) w0) (h:∀d,Y3 Tryz.prog Post (G (wiAt g budget w.heap.size inV) cs) ((W7 w cell budget g inV).at d)):
  Y1 Tryz.prog true RS DS (Y3 Tryz.prog Post) (G ((base 57).at {tmps:=#[.pointer (some ⟨g,0,none⟩),.int .i64 budget,inV,undef,undef,undef,undef,undef,undef,undef,undef],defers:=[]} [.code Y23]) cs) w0:=by
 obtain ⟨ip,il,ic,rfl⟩:=hinV;have hk:(base 57).kind≠.early:=by simp [base]
 have hs1:(W1 w cell budget).heap.size=w.heap.size+1:=by simp [W1]
 repeat refine .c1 Y2 rfl ?_
 refine .regionL Y2 [0,1,2,3] (by rfl) ?_;refine .op rfl (by rfl) hk fun w1 hR K hK=>?_;replace hF:=hF.rely hR;clear hR;go_simp;try (unfold stored;go_simp)
 refine hK _ _ ⟨?_,?_⟩
 ·(intro e he;have hm:=mem_listed he;simp [go_sem, *] at hm)
 clear hK K;have hsz:=hF.size.trans (show _=w.heap.size+1 by simp [W1]);replace hF:=hF.alloc (.cells #[.pointer (some ⟨g,0,none⟩)] 143);rw [hsz];clear hsz;try walk_nrm
 refine .op rfl (by rfl) hk fun w1 hR K hK=>?_;replace hF:=hF.rely hR;clear hR;go_simp;try (unfold stored;go_simp)
 refine hK _ _ ⟨?_,?_⟩
 ·(intro e he;have hm:=mem_listed he;simp [go_sem, *] at hm)
 clear hK K;have hsz:=hF.size.trans (show _=w.heap.size+2 by simp [W1]);replace hF:=hF.alloc (.cells #[.int .i64 budget] 3);rw [hsz];clear hsz;try walk_nrm
 refine .op rfl (by rfl) hk fun w1 hR K hK=>?_;replace hF:=hF.rely hR;clear hR;go_simp;try (unfold stored;go_simp)
 refine hK _ _ ⟨?_,?_⟩
 ·(intro e he;have hm:=mem_listed he;simp [go_sem, *] at hm)
 clear hK K;have hsz:=hF.size.trans (show _=w.heap.size+3 by simp [W1]);replace hF:=hF.alloc (.cells #[.slice ip il ic] 29);rw [hsz];clear hsz;try walk_nrm
 refine .opV Y2 rfl (by rfl) hk ?_;try walk_nrm
 repeat refine .c1 Y2 rfl ?_
 refine .regionL Y2 [0,1,2] (by rfl) ?_;refine .op rfl (by rfl) hk fun w1 hR K hK=>?_;replace hF:=hF.rely hR;clear hR;have hmk:=mkc w1;have hme:=mkce w1;go_simp;try (unfold stored;go_simp)
 refine hK _ _ ⟨?_,?_⟩
 ·(intro e he;have hm:=mem_listed he;simp [go_sem, *] at hm)
 clear hK K;have hsz:=hF.size.trans (show _=w.heap.size+4 by simp [W1]);replace hF:=hF.alloc (.chan 0 #[] false 0 0 false);rw [hsz];clear hsz hmk hme;try walk_nrm
 refine .op rfl (by rfl) hk fun w1 hR K hK=>?_;replace hF:=hF.rely hR;clear hR;go_simp;try (unfold stored;go_simp)
 refine hK _ _ ⟨?_,?_⟩
 ·(intro e he;have hm:=mem_listed he;simp [go_sem, *] at hm)
 clear hK K;have hsz:=hF.size.trans (show _=w.heap.size+5 by simp [W1]);replace hF:=hF.alloc (.cells #[.chan none] 190);rw [hsz];clear hsz;try walk_nrm
 refine .op rfl (by rfl) hk fun w1 hR K hK=>?_;replace hF:=hF.rely hR;clear hR;obtain ⟨hb1,hb2⟩:=Y0q (W:=W5 w cell budget g (.slice ip il ic)) (v:=.chan none) (t:=190) (show _=w.heap.size+5 by simp [W5,W1]);have hc:=(hF.cell _).trans hb1;have hfz:=(hF.frozen _).trans hb2;go_simp;try (unfold stored;go_simp)
 refine hK _ _ ⟨?_,?_⟩
 ·co_evs (exact YR _ _ _)
 clear hK K;replace hF:=hF.set ⟨w.heap.size+5,0,none⟩ (.chan (some (w.heap.size+4)));clear hc hfz hb1 hb2;try walk_nrm
 repeat refine .c1 Y2 rfl ?_
 refine .regionL Y2 [0,1] (by rfl) ?_;refine .opV Y2 rfl (by rfl) hk ?_;try walk_nrm
 refine .stop rfl fun w1 hR=>?_;obtain ⟨d,rfl⟩:=hF.rely hR;exact h d
end
section
variable {Post:Goroutine→World→Prop} {w:World} {kb C T nC cC cell budget g:Nat}
theorem Yb4 (ck2:w.cell? ⟨kb,2,none⟩=some (.slice (some ⟨C,0,none⟩) nC cC)) (cc:w.cell? ⟨C,cell,none⟩=some (.pointer (some ⟨g,0,none⟩))) (hcell:cell<nC) (inV:Value) (hinV:∃ip il ic,inV=.slice ip il ic) (cs:List Frame) (h:∀d,Y3 Tryz.prog Post (G (wiAt g budget w.heap.size inV) (rwAt kb C nC cC cell budget g w.heap.size inV::cs)) ((W7 w cell budget g inV).at d)):Y3 Tryz.prog Post (G ((base 31).at {tmps:=#[.pointer (some ⟨kb,0,none⟩),.agg #[.int .i64 cell,.int .i64 budget],inV,undef,undef,undef,undef,undef,undef,undef,undef,undef,undef,undef,undef,undef,undef,undef,undef,undef,undef,undef,undef,undef,undef,undef,undef,undef,undef,undef,undef,undef,undef,undef,undef,undef,undef,undef,undef,undef],defers:=[]} [.code Y0F]) cs) w:=by
 obtain ⟨ip,il,ic,rfl⟩:=hinV;have hk:(base 31).kind≠.early:=by simp [base]
 have hk2:(base 57).kind≠.early:=by simp [base]
 have hlt:∀{a:Addr} {v:Value},w.cell? a=some v→(W1 w cell budget).cell? a=some v:=fun h=>Xq h;have hr:RowF (W1 w cell budget) w.heap.size 2 102 (fun j=>if j=0 then .int .i64 cell else .int .i64 budget):=.new w #[.int .i64 cell,.int .i64 budget] _ _ fun j hj=>by
  have:j=0∨j=1:=by simp at hj;omega
  rcases this with rfl|rfl<;>rfl
 have wk2:=hlt ck2;have wc:=hlt cc;have ww0:(W1 w cell budget).cell? ⟨w.heap.size,0,none⟩=some (.int .i64 cell):=hr.cell (by omega);have ww1:(W1 w cell budget).cell? ⟨w.heap.size,1,none⟩=some (.int .i64 budget):=hr.cell (by omega);have hci:(cell:Int)<(nC:Int):=by omega
 refine Y3.of_goes ?_;have hF:=Is.self w;repeat refine .c1 Y2 rfl ?_
 refine .regionL Y2 [0] (by rfl) ?_;refine .op rfl (by rfl) hk fun w1 hR K hK=>?_;replace hF:=hF.rely hR;clear hR;go_simp;try (unfold stored;go_simp)
 refine hK _ _ ⟨?_,?_⟩
 ·(intro e he;have hm:=mem_listed he;simp [go_sem, *] at hm)
 clear hK K;have hsz:=hF.size;replace hF:=hF.alloc (.cells #[.int .i64 cell,.int .i64 budget] 102);rw [hsz];clear hsz;change Is (W1 w cell budget) _ at hF;try walk_nrm
 repeat refine .c1 Y2 rfl ?_
 refine Y1.drawnT (S:=Is (W1 w cell budget)) Y2 Ju 12 (by rfl) hk (by kernel_rfl) ?_;intro w1 hR;replace hF:=(hF.rely hR).drew;clear hR;co_applyP Yq Y2 (fun _ _ _ _ h r=>⟨h.1,h.2.rely Y2.trans r⟩) (fun _ _ h r=>Is.rely h r) ?hqr1 (i:=0) rfl (by first|kernel_rfl|decide +kernel) (by first|kernel_rfl|decide +kernel) (by first|kernel_rfl|decide +kernel) (by first|kernel_rfl|decide +kernel) (.inl ⟨by rfl,fun _ hw=>⟨run_eq_of ?run1,?guar1⟩⟩) hF ?rest1
 case hqr1=>exact fun _ _ _ h r=>Y1.rely Y2.trans h r
 case run1=>
  intro K hK;skip;go_simp;exact hK
 case guar1=>
  skip
  co_quiet Y2
 try walk_nrm
 co_applyP Yq Y2 (fun _ _ _ _ h r=>⟨h.1,h.2.rely Y2.trans r⟩) (fun _ _ h r=>Is.rely h r) ?hqr2 (i:=1) rfl (by first|kernel_rfl|decide +kernel) (by first|kernel_rfl|decide +kernel) (by first|kernel_rfl|decide +kernel) (by first|kernel_rfl|decide +kernel) (.inl ⟨by rfl,fun _ hw=>⟨run_eq_of ?run2,?guar2⟩⟩) hF ?rest2
 case hqr2=>exact fun _ _ _ h r=>Y1.rely Y2.trans h r
 case run2=>
  intro K hK;skip;go_simp;exact hK
 case guar2=>
  skip
  co_quiet Y2
 try walk_nrm
 co_applyP Yq Y2 (fun _ _ _ _ h r=>⟨h.1,h.2.rely Y2.trans r⟩) (fun _ _ h r=>Is.rely h r) ?hqr3 (i:=2) rfl (by first|kernel_rfl|decide +kernel) (by first|kernel_rfl|decide +kernel) (by first|kernel_rfl|decide +kernel) (by first|kernel_rfl|decide +kernel) (.inl ⟨by rfl,fun _ hw=>⟨run_eq_of ?run3,?guar3⟩⟩) hF ?rest3
 case hqr3=>exact fun _ _ _ h r=>Y1.rely Y2.trans h r
 case run3=>
  intro K hK;skip;go_simp;exact hK
 case guar3=>
  skip
  co_quiet Y2
 try walk_nrm
 co_applyP Yq Y2 (fun _ _ _ _ h r=>⟨h.1,h.2.rely Y2.trans r⟩) (fun _ _ h r=>Is.rely h r) ?hqr4 (i:=3) rfl (by first|kernel_rfl|decide +kernel) (by first|kernel_rfl|decide +kernel) (by first|kernel_rfl|decide +kernel) (by first|kernel_rfl|decide +kernel) (.inl ⟨by rfl,fun _ hw=>⟨run_eq_of ?run4,?guar4⟩⟩) hF ?rest4
 case hqr4=>exact fun _ _ _ h r=>Y1.rely Y2.trans h r
 case run4=>
  intro K hK;have hc:World.cell? _ ⟨kb,2,none⟩=some (.slice (some ⟨C,0,none⟩) nC cC):=(hw.cell _).trans wk2;go_simp;exact hK
 case guar4=>
  have hc:World.cell? _ ⟨kb,2,none⟩=some (.slice (some ⟨C,0,none⟩) nC cC):=(hw.cell _).trans wk2
  co_evs (exact YR _ _ _)
 try walk_nrm
 co_applyP Yq Y2 (fun _ _ _ _ h r=>⟨h.1,h.2.rely Y2.trans r⟩) (fun _ _ h r=>Is.rely h r) ?hqr5 (i:=4) rfl (by first|kernel_rfl|decide +kernel) (by first|kernel_rfl|decide +kernel) (by first|kernel_rfl|decide +kernel) (by first|kernel_rfl|decide +kernel) (.inl ⟨by rfl,fun _ hw=>⟨run_eq_of ?run5,?guar5⟩⟩) hF ?rest5
 case hqr5=>exact fun _ _ _ h r=>Y1.rely Y2.trans h r
 case run5=>
  intro K hK;skip;go_simp;exact hK
 case guar5=>
  skip
  co_quiet Y2
 try walk_nrm
 co_applyP Yq Y2 (fun _ _ _ _ h r=>⟨h.1,h.2.rely Y2.trans r⟩) (fun _ _ h r=>Is.rely h r) ?hqr6 (i:=5) rfl (by first|kernel_rfl|decide +kernel) (by first|kernel_rfl|decide +kernel) (by first|kernel_rfl|decide +kernel) (by first|kernel_rfl|decide +kernel) (.inl ⟨by rfl,fun _ hw=>⟨run_eq_of ?run6,?guar6⟩⟩) hF ?rest6
 case hqr6=>exact fun _ _ _ h r=>Y1.rely Y2.trans h r
 case run6=>
  intro K hK;have hc:World.cell? _ ⟨w.heap.size,0,none⟩=some (.int .i64 cell):=(hw.cell _).trans ww0;go_simp;exact hK
 case guar6=>
  have hc:World.cell? _ ⟨w.heap.size,0,none⟩=some (.int .i64 cell):=(hw.cell _).trans ww0
  co_evs (exact YR _ _ _)
 try walk_nrm
 co_applyP Yq Y2 (fun _ _ _ _ h r=>⟨h.1,h.2.rely Y2.trans r⟩) (fun _ _ h r=>Is.rely h r) ?hqr7 (i:=6) rfl (by first|kernel_rfl|decide +kernel) (by first|kernel_rfl|decide +kernel) (by first|kernel_rfl|decide +kernel) (by first|kernel_rfl|decide +kernel) (.inl ⟨by rfl,fun _ hw=>⟨run_eq_of ?run7,?guar7⟩⟩) hF ?rest7
 case hqr7=>exact fun _ _ _ h r=>Y1.rely Y2.trans h r
 case run7=>
  intro K hK;skip;go_simp;exact hK
 case guar7=>
  skip
  co_still Y2
 try walk_nrm
 co_applyP Yq Y2 (fun _ _ _ _ h r=>⟨h.1,h.2.rely Y2.trans r⟩) (fun _ _ h r=>Is.rely h r) ?hqr8 (i:=7) rfl (by first|kernel_rfl|decide +kernel) (by first|kernel_rfl|decide +kernel) (by first|kernel_rfl|decide +kernel) (by first|kernel_rfl|decide +kernel) (.inl ⟨by rfl,fun _ hw=>⟨run_eq_of ?run8,?guar8⟩⟩) hF ?rest8
 case hqr8=>exact fun _ _ _ h r=>Y1.rely Y2.trans h r
 case run8=>
  intro K hK;have hc:World.cell? _ ⟨C,cell,none⟩=some (.pointer (some ⟨g,0,none⟩)):=(hw.cell _).trans wc;go_simp;exact hK
 case guar8=>
  have hc:World.cell? _ ⟨C,cell,none⟩=some (.pointer (some ⟨g,0,none⟩)):=(hw.cell _).trans wc
  co_evs (exact YR _ _ _)
 try walk_nrm
 co_applyP Yq Y2 (fun _ _ _ _ h r=>⟨h.1,h.2.rely Y2.trans r⟩) (fun _ _ h r=>Is.rely h r) ?hqr9 (i:=8) rfl (by first|kernel_rfl|decide +kernel) (by first|kernel_rfl|decide +kernel) (by first|kernel_rfl|decide +kernel) (by first|kernel_rfl|decide +kernel) (.inl ⟨by rfl,fun _ hw=>⟨run_eq_of ?run9,?guar9⟩⟩) hF ?rest9
 case hqr9=>exact fun _ _ _ h r=>Y1.rely Y2.trans h r
 case run9=>
  intro K hK;skip;go_simp;exact hK
 case guar9=>
  skip
  co_quiet Y2
 try walk_nrm
 co_applyP Yq Y2 (fun _ _ _ _ h r=>⟨h.1,h.2.rely Y2.trans r⟩) (fun _ _ h r=>Is.rely h r) ?hqr10 (i:=9) rfl (by first|kernel_rfl|decide +kernel) (by first|kernel_rfl|decide +kernel) (by first|kernel_rfl|decide +kernel) (by first|kernel_rfl|decide +kernel) (.inl ⟨by rfl,fun _ hw=>⟨run_eq_of ?run10,?guar10⟩⟩) hF ?rest10
 case hqr10=>exact fun _ _ _ h r=>Y1.rely Y2.trans h r
 case run10=>
  intro K hK;have hc:World.cell? _ ⟨w.heap.size,1,none⟩=some (.int .i64 budget):=(hw.cell _).trans ww1;go_simp;exact hK
 case guar10=>
  have hc:World.cell? _ ⟨w.heap.size,1,none⟩=some (.int .i64 budget):=(hw.cell _).trans ww1
  co_evs (exact YR _ _ _)
 try walk_nrm
 co_applyP Yq Y2 (fun _ _ _ _ h r=>⟨h.1,h.2.rely Y2.trans r⟩) (fun _ _ h r=>Is.rely h r) ?hqr11 (i:=10) rfl (by first|kernel_rfl|decide +kernel) (by first|kernel_rfl|decide +kernel) (by first|kernel_rfl|decide +kernel) (by first|kernel_rfl|decide +kernel) (.inl ⟨by rfl,fun _ hw=>⟨run_eq_of ?run11,?guar11⟩⟩) hF ?rest11
 case hqr11=>exact fun _ _ _ h r=>Y1.rely Y2.trans h r
 case run11=>
  intro K hK;skip;go_simp;exact hK
 case guar11=>
  skip
  co_quiet Y2
 try walk_nrm
 refine Y1P (i:=11) (by first|kernel_rfl|decide +kernel) rfl (by rfl) (Z8 rfl (by first|kernel_rfl|decide +kernel)) ⟨rfl,?_⟩;refine Y1.enterT Y2 #[.pointer (some ⟨g,0,none⟩),.int .i64 budget,.slice ip il ic,undef,undef,undef,undef,undef,undef,undef,undef] rfl (by rfl) hk rfl Tryz.func57 (by rfl) rfl (by kernel_rfl) ?_;exact Ybs ⟨_,_,_,rfl⟩ _ _ hF h
end
structure Ready (w:World) (kb C T nC cC cell g nb cb co n cc:Nat) (num:Int) (ci z:Nat→Int) (f:Nat→Value) (m:Nat) (xs:List Value):Prop where
 k2:w.cell? ⟨kb,2,none⟩=some (.slice (some ⟨C,0,none⟩) nC cC)
 k4:w.cell? ⟨kb,4,none⟩=some (.slice (some ⟨T,0,none⟩) nC nC)
 cl:w.cell? ⟨C,cell,none⟩=some (.pointer (some ⟨g,0,none⟩))
 hcell:cell<nC
 row:RowF w g 48 186 (cellV num (.pointer (some ⟨nb,0,none⟩)) (YB cb co n cc) z)
 tr:RowF w T nC 61 f
 own:w.ownsRow 0 111 3 (f cell) m xs
 code:∀j,j<n*4→w.cell? ⟨cb,co+j,none⟩=some (.int .i64 (ci j))
 cbIn:∃o,w.heap[cb]?=some o
 net:∃q cap,w.cell? ⟨nb,0,none⟩=some (.slice q 0 cap)
 n48:n≤48
 ok:Xc n ci
 zok:Zok n z
 hg:g≠T∧(f cell).ownBlock≠some g
 hT:(f cell).ownBlock≠some T
 hkb:kb≠g∧kb≠T∧(f cell).ownBlock≠some kb
 hcb:cb≠g∧cb≠T∧(f cell).ownBlock≠some cb
 hnb:nb≠g∧nb≠T∧(f cell).ownBlock≠some nb
theorem Jg {w:World} {a:Addr} {v:Value} (h:w.cell? a=some v):a.block<w.heap.size:=by
 refine Classical.byContradiction fun hn=>?_;have:w.heap[a.block]?=none:=Array.getElem?_eq_none (by omega);unfold World.cell? at h;rw [this] at h;cases h
section
variable (w:World) (cell budget g:Nat) (inV:Value)
theorem XJ:(W7 w cell budget g inV).heap.size=w.heap.size+6:=by simp [W7,W5,W1,World.setCell]
theorem JQ {b:Nat} (hb:b<w.heap.size):(W7 w cell budget g inV).heap[b]?=w.heap[b]?:=by
 unfold W7;rw [heap_setCell_other _ _ _ _ (by show b≠w.heap.size+5;omega)];unfold W5 W1;repeat rw [heap_alloc_old _ _ (by simp;omega)]
 exact heap_alloc_old w _ hb
theorem YbH:(W7 w cell budget g inV).heap[w.heap.size+4]?=some (.chan 0 #[] false 0 0 false):=by
 unfold W7;rw [heap_setCell_other _ _ _ _ (by show w.heap.size+4≠w.heap.size+5;omega),heap_alloc_old _ _ (by simp [W5,W1])];unfold W5;generalize hX:(((W1 w cell budget).alloc (.cells #[.pointer (some ⟨g,0,none⟩)] 143)).alloc (.cells #[.int .i64 budget] 3)).alloc (.cells #[inV] 29)=X;have hs:X.heap.size=w.heap.size+4:=by rw [←hX];simp [W1]
 rw [←hs];exact heap_alloc_new X _
theorem Y1l {a:Addr} {v:Value} (h:w.cell? a=some v):(W7 w cell budget g inV).cell? a=some v:=by
 have hlt:=Jg h;unfold World.cell? at h ⊢;rw [JQ w cell budget g inV hlt];exact h
theorem Y0s {W:World} {a:Addr} {v x:Value} {b:Nat} (h:W.cell? a=some v) (hb:a.block≠b):(W.setCell ⟨b,0,none⟩ x).cell? a=some v:=by
 unfold World.cell? at h ⊢;rw [heap_setCell_other _ _ _ _ hb];exact h
theorem Y7C:(W7 w cell budget g inV).cell? ⟨w.heap.size,0,none⟩=some (.int .i64 cell):=by
 have hr:RowF (W1 w cell budget) w.heap.size 2 102 (fun j=>if j=0 then .int .i64 cell else .int .i64 budget):=.new w #[.int .i64 cell,.int .i64 budget] _ _ fun j hj=>by
  have:j=0∨j=1:=by simp at hj;omega
  rcases this with rfl|rfl<;>rfl
 have h0:(W1 w cell budget).cell? ⟨w.heap.size,0,none⟩=some (.int .i64 cell):=hr.cell (by omega);exact Y0s (Xq (Xq (Xq (Xq (Xq h0))))) (by show w.heap.size≠w.heap.size+5;omega)
theorem Y7Y:(W7 w cell budget g inV).cell? ⟨w.heap.size+1,0,none⟩=some (.pointer (some ⟨g,0,none⟩)):=by
 have h0:=(Y0q (W:=W1 w cell budget) (v:=.pointer (some ⟨g,0,none⟩)) (t:=143) (n:=w.heap.size+1) (by simp [W1])).1;exact Y0s (Xq (Xq (Xq (Xq h0)))) (by show w.heap.size+1≠w.heap.size+5;omega)
theorem Y6u:(W7 w cell budget g inV).cell? ⟨w.heap.size+2,0,none⟩=some (.int .i64 budget):=by
 have h0:=(Y0q (W:=(W1 w cell budget).alloc (.cells #[.pointer (some ⟨g,0,none⟩)] 143)) (v:=.int .i64 budget) (t:=3) (n:=w.heap.size+2) (by simp [W1])).1;exact Y0s (Xq (Xq (Xq h0))) (by show w.heap.size+2≠w.heap.size+5;omega)
theorem Y5m:(W7 w cell budget g inV).cell? ⟨w.heap.size+3,0,none⟩=some inV:=by
 have h0:=(Y0q (W:=((W1 w cell budget).alloc (.cells #[.pointer (some ⟨g,0,none⟩)] 143)).alloc (.cells #[.int .i64 budget] 3)) (v:=inV) (t:=29) (n:=w.heap.size+3) (by simp [W1])).1;exact Y0s (Xq (Xq h0)) (by show w.heap.size+3≠w.heap.size+5;omega)
theorem Y2H:(W7 w cell budget g inV).cell? ⟨w.heap.size+5,0,none⟩=some (.chan (some (w.heap.size+4))):=by
 have hr:RowF ((W5 w cell budget g inV).alloc (.cells #[.chan none] 190)) (W5 w cell budget g inV).heap.size 1 190 (fun _=>.chan none):=.new _ #[.chan none] _ _ fun j hj=>by
  have:j=0:=by simpa using hj
  subst this;rfl
 have hs:(W5 w cell budget g inV).heap.size=w.heap.size+5:=by simp [W5,W1]
 rw [hs] at hr;exact (hr.set 0 (.chan (some (w.heap.size+4)))).cell (by omega)
end
def YC (w:World) (T g:Nat) (v:Value):Lot:={B:=w.heap.size+6,c:=w.heap.size+4,ev:=111,S:=fun b=>b=g,M:=fun b=>b=T∨v.ownBlock=some b}
section
variable {w:World} {kb C T nC cC cell g nb cb co n cc:Nat} {num:Int} {ci z:Nat→Int} {f:Nat→Value} {m:Nat} {xs:List Value} {budget:Nat} {inV:Value}
theorem JM (_h:Ready w kb C T nC cC cell g nb cb co n cc num ci z f m xs) {b:Nat} (hb:∃o,(W7 w cell budget g inV).heap[b]?=some o) (hc:b≠w.heap.size+4) (h1:b≠g) (h2:b≠T) (h3:(f cell).ownBlock≠some b):Still (YC w T g (f cell)) (W7 w cell budget g inV) b:=by
 obtain ⟨o,ho⟩:=hb;have hlt:=(Array.getElem?_eq_some_iff.1 ho).1;rw [XJ] at hlt;refine ⟨⟨o,ho⟩,hc,fun o' _ hb=>?_⟩;rcases hb with hb|hb
 ·rcases hb.2 with ⟨_,hb⟩|⟨hb,_⟩
  ·exact h2.elim (hb.elim id fun x=>absurd x h3)
  ·exact absurd hlt (by show ¬b<w.heap.size+6;exact Nat.not_lt.2 hb)
 ·rcases hb.2 with ⟨_,hb⟩|⟨hb,_⟩
  ·exact h1 hb
  ·exact absurd hlt (by show ¬b<w.heap.size+6;exact Nat.not_lt.2 hb)
theorem Y0A (h:Ready w kb C T nC cC cell g nb cb co n cc num ci z f m xs) {b:Nat} (hb:(f cell).ownBlock=some b):b<w.heap.size:=by
 rcases h.own.2 with ⟨hx,_⟩|⟨g0,cap0,cur,hx,_,hg,_⟩
 ·rw [hx] at hb;simp [Value.ownBlock] at hb
 ·rw [hx] at hb;have:g0=b:=by simpa [Value.ownBlock] using hb
  subst this;exact (Array.getElem?_eq_some_iff.1 hg).1
theorem JJ (h:Ready w kb C T nC cC cell g nb cb co n cc num ci z f m xs) {i:Nat} (hi:i<6) (h4:i≠4):Still (YC w T g (f cell)) (W7 w cell budget g inV) (w.heap.size+i):=by
 have hg:=h.row.lt;have hT:=h.tr.lt;refine JM h ?_ (by omega) (by omega) (by omega) fun hb=>by have:=Y0A h hb;omega
 exact ⟨_,Array.getElem?_eq_getElem (by rw [XJ];omega)⟩
theorem Y5c (h:Ready w kb C T nC cC cell g nb cb co n cc num ci z f m xs) (d:Nat):Kn (YC w T g (f cell)) (W7 w cell budget g inV) [Y5 g num (.pointer (some ⟨nb,0,none⟩)) (YB cb co n cc) z] ((W7 w cell budget g inV).at d):=by
 have hg:=h.row.lt;have hrow:RowF (W7 w cell budget g inV) g 48 186 (cellV num (.pointer (some ⟨nb,0,none⟩)) (YB cb co n cc) z):=h.row.of_heap (JQ w cell budget g inV hg);refine ⟨.at _ _,fun i r hi=>?_,fun i j r s hi hj hne=>?_,?_,?_⟩
 ·have:r=Y5 g num (.pointer (some ⟨nb,0,none⟩)) (YB cb co n cc) z:=by
   rw [List.getElem?_singleton] at hi;split at hi
   ·exact (Option.some.inj hi).symm
   ·cases hi
  subst this;have hlt:g<w.heap.size+6:=by omega
  refine ⟨⟨hrow,?_,?_,fun o ho hm=>?_⟩,fun o ho=>⟨?_,.inl ⟨hlt,rfl⟩⟩⟩
  ·obtain ⟨cs,h1,_⟩:=hrow;exact ⟨_,h1⟩
  ·show g≠w.heap.size+4;omega
  ·rcases hm.2 with ⟨_,hm⟩|⟨hm,_⟩
   ·exact hm.elim h.hg.1 h.hg.2
   ·exact absurd hlt (Nat.not_lt.2 hm)
  ·show g≠w.heap.size+4;omega
 ·have hi':=(List.getElem?_eq_some_iff.1 hi).1;have hj':=(List.getElem?_eq_some_iff.1 hj).1;simp at hi' hj';omega
 ·show w.heap.size+6≤(W7 w cell budget g inV).heap.size;rw [XJ];omega
 ·show w.heap.size+4<(W7 w cell budget g inV).heap.size;rw [XJ];omega
theorem Ya5 (h:Ready w kb C T nC cC cell g nb cb co n cc num ci z f m xs) (d:Nat):Ms (YC w T g (f cell)) (W7 w cell budget g inV) T nC f cell m xs ((W7 w cell budget g inV).at d):=by
 have hT:=h.tr.lt;have hrow:RowF (W7 w cell budget g inV) T nC 61 f:=h.tr.of_heap (JQ w cell budget g inV hT);have key:∀b,(b=T∨(f cell).ownBlock=some b)→(∃o,(W7 w cell budget g inV).heap[b]?=some o)→Calm (YC w T g (f cell)) (YC w T g (f cell)).send ((W7 w cell budget g inV).at d) b∧Mine (YC w T g (f cell)).main ((W7 w cell budget g inV).at d) b:=fun b hb hth=>by
  have hlt:b<w.heap.size:=hb.elim (fun e=>by rw [e];exact hT) fun e=>Y0A h e;have hlt6:b<w.heap.size+6:=by omega
  have hne:b≠w.heap.size+4:=by omega
  refine ⟨⟨hth,hne,fun o ho hm=>?_⟩,fun o ho=>⟨hne,.inl ⟨hlt6,hb⟩⟩⟩;rcases hm.2 with ⟨_,hm⟩|⟨hm,_⟩
  ·have hm:b=g:=hm;subst hm;exact hb.elim (fun e=>h.hg.1 e) h.hg.2
  ·exact absurd hlt6 (Nat.not_lt.2 hm)
 refine ⟨.at _ _,⟨⟨hrow,(key T (.inl rfl) ?_).1⟩,(key T (.inl rfl) ?_).2⟩,?_,?_,?_,fun b hb=>key b (.inr hb) ⟨_,Array.getElem?_eq_getElem (by rw [XJ];have:=Y0A h hb;omega)⟩⟩
 ·exact ⟨_,Array.getElem?_eq_getElem (by rw [XJ];omega)⟩
 ·exact ⟨_,Array.getElem?_eq_getElem (by rw [XJ];omega)⟩
 ·show w.heap.size+6≤(W7 w cell budget g inV).heap.size;rw [XJ];omega
 ·show w.heap.size+4<(W7 w cell budget g inV).heap.size;rw [XJ];omega
 ·exact Xd (L:=YC w T g (f cell)) h.own fun b hb=>JQ w cell budget g inV (Y0A h hb)
end
section
variable {L:Lot} {w0 w:World} {T nC cell m:Nat} {f:Nat→Value} {xs:List Value}
theorem Ms.still (h:Ms L w0 T nC f cell m xs w) {b:Nat} (hs:Still L w0 b):w.heap[b]?=w0.heap[b]?:=by
 obtain ⟨o,ho⟩:=hs.there;rw [ho,h.ph.keep ho hs.nc (hs.no o ho)]
theorem Ms.stillCell (h:Ms L w0 T nC f cell m xs w) {a:Addr} (hs:Still L w0 a.block):w.cell? a=w0.cell? a:=by
 unfold World.cell?;rw [h.still hs]
theorem Ms.stillLooks (h:Ms L w0 T nC f cell m xs w) {b:Nat} (hs:Still L w0 b) {es:Array Event} (hes:∀e∈es,∃j,e=⟨.cell ⟨b,j,none⟩,false,false⟩):L.D0 w w es:=
 .look w fun e he=>by
  obtain ⟨o,ho⟩:=hs.there;obtain ⟨j,rfl⟩:=hes e he;exact EvBy.read (a:=⟨b,j,none⟩) (by rw [h.still hs];exact ho) fun hm=>hs.no o ho (.inr hm)
end
section
variable {Post:Goroutine→World→Prop} {w:World} {kb C T nC cC cell g nb cb co n cc:Nat} {num:Int} {ci z:Nat→Int} {f:Nat→Value} {m:Nat} {xs:List Value} {budget:Nat} {inV:Value}
theorem Y7O (h:Ready w kb C T nC cC cell g nb cb co n cc num ci z f m xs) (vs:List Value) (hvs:∀v∈vs,Jo v) (hm:m+vs.length≤1000000000) (cs:List Frame) (d:Nat):
  Y1 Tryz.prog true (YC w T g (f cell)).R0 (YC w T g (f cell)).D0 (StopA Tryz.prog (YC w T g (f cell)).c JP (YC w T g (f cell)).R0 (YC w T g (f cell)).D0 (YC w T g (f cell)).ML (FinW (YC w T g (f cell)) (W7 w cell budget g inV) kb w.heap.size T nC cell (m+vs.length) f (xs++vs.flatMap Yv) (.agg #[.int .i64 cell,.int .i64 budget]) inV undef undef (.pointer (some ⟨kb,0,none⟩)) (.pointer (some ⟨kb,0,none⟩)) (.pointer (some ⟨kb,2,none⟩)) (.slice (some ⟨C,0,none⟩) nC cC) (.pointer (some ⟨w.heap.size,0,none⟩)) (.int .i64 cell) (.pointer (some ⟨C,cell,none⟩)) (.pointer (some ⟨g,0,none⟩)) (.pointer (some ⟨w.heap.size,1,none⟩)) (.int .i64 budget) inV cs) vs)
   (G ((base 57).at {tmps:=#[.pointer (some ⟨g,0,none⟩),.int .i64 budget,inV,.pointer (some ⟨w.heap.size+1,0,none⟩),.pointer (some ⟨w.heap.size+2,0,none⟩),.pointer (some ⟨w.heap.size+3,0,none⟩),.chan none,.pointer (some ⟨w.heap.size+5,0,none⟩),.chan (some (w.heap.size+4)),.func (.func 83) #[] #[.pointer (some ⟨w.heap.size+5,0,none⟩),.pointer (some ⟨w.heap.size+1,0,none⟩),.pointer (some ⟨w.heap.size+2,0,none⟩),.pointer (some ⟨w.heap.size+3,0,none⟩)],undef],defers:=[]} [.inRegion Y46 [],.code Y40]) (rwAt kb C nC cC cell budget g w.heap.size inV::cs)) ((W7 w cell budget g inV).at d):=by
 have hk:(base 57).kind≠.early:=by simp [base]
 have hF:=Ya5 (budget:=budget) (inV:=inV) h d;have s0:=JJ (budget:=budget) (inV:=inV) h (i:=5) (by omega) (by omega);have c0:=Y2H w cell budget g inV;repeat refine .c1 (YC w T g (f cell)).terms0 rfl ?_
 refine .regionL (YC w T g (f cell)).terms0 [0,1] (by rfl) ?_;refine .op rfl (by rfl) hk fun w1 hR K hK=>?_;replace hF:=hF.rely hR;clear hR;have hc:World.cell? _ ⟨w.heap.size+5,0,none⟩=some (.chan (some (w.heap.size+4))):=(hF.stillCell (a:=⟨w.heap.size+5,0,none⟩) s0).trans c0;go_simp;try (unfold stored;go_simp)
 refine hK _ _ ⟨?_,?_⟩
 ·refine hF.stillLooks s0 ?_;co_evs (exact ⟨_,rfl⟩)
 clear hK K;clear hc;try walk_nrm
 refine .opV (YC w T g (f cell)).terms0 rfl (by rfl) hk ?_;try walk_nrm
 repeat refine .c1 (YC w T g (f cell)).terms0 rfl ?_
 refine Y1.ret (YC w T g (f cell)).terms0 fun todo=>?_;refine Y1.leave (YC w T g (f cell)).terms0 Tryz.func57 rfl (Xj (YC w T g (f cell)).terms0 (t:=6) (by rfl) _) ?_;show Y1 _ _ _ _ _ (G ((base 31).at {tmps:=#[.pointer (some ⟨kb,0,none⟩),.agg #[.int .i64 cell,.int .i64 budget],inV,undef,.pointer (some ⟨w.heap.size,0,none⟩),undef,undef,.pointer (some ⟨kb,0,none⟩),.pointer (some ⟨kb,0,none⟩),.pointer (some ⟨kb,2,none⟩),.slice (some ⟨C,0,none⟩) nC cC,.pointer (some ⟨w.heap.size,0,none⟩),.int .i64 cell,.pointer (some ⟨C,cell,none⟩),.pointer (some ⟨g,0,none⟩),.pointer (some ⟨w.heap.size,1,none⟩),.int .i64 budget,inV,.chan (some (w.heap.size+4)),undef,undef,undef,undef,undef,undef,undef,undef,undef,undef,undef,undef,undef,undef,undef,undef,undef,undef,undef,undef,undef],defers:=[]} [.inRegion Y4t [],.code Y34]) cs) _;refine Y1.regionEnd (YC w T g (f cell)).terms0 ?_;refine Y1.block (YC w T g (f cell)).terms0 ?_;refine Y1.loop (YC w T g (f cell)).terms0 ?_;exact Ybo rfl (JM h ⟨_,Array.getElem?_eq_getElem (by rw [XJ];have:=Jg h.k2;simp only at this;omega)⟩ (by have:=Jg h.k2;simp only at this;omega) h.hkb.1 h.hkb.2.1 h.hkb.2.2) (JJ h (i:=0) (by omega) (by omega)) (Y1l w cell budget g inV h.k4) (Y7C w cell budget g inV) h.hcell (.agg #[.int .i64 cell,.int .i64 budget]) inV undef undef (.pointer (some ⟨kb,0,none⟩)) (.pointer (some ⟨kb,0,none⟩)) (.pointer (some ⟨kb,2,none⟩)) (.slice (some ⟨C,0,none⟩) nC cC) (.pointer (some ⟨w.heap.size,0,none⟩)) (.int .i64 cell) (.pointer (some ⟨C,cell,none⟩)) (.pointer (some ⟨g,0,none⟩)) (.pointer (some ⟨w.heap.size,1,none⟩)) (.int .i64 budget) inV cs f vs f m xs _ undef undef undef undef undef undef undef undef undef undef undef undef undef undef undef undef undef undef undef undef undef undef hvs hm (fun _ _=>rfl) hF
end
end Go.Proofs.YtdoghgnifkgfdaaGreat.Mute
