import Derived.Test.YtdoghgnifkgfdaaGreatP39
set_option maxRecDepth 100000
set_option maxHeartbeats 16000000
namespace Go.Proofs.YtdoghgnifkgfdaaGreat.Mute
open Go Go.Conc Go.RowKit
section
variable {L:Lot} {w0 w:World} {T nC cell m:Nat} {f:Nat→Value} {xs:List Value}
theorem Ms.still (h:Ms L w0 T nC f cell m xs w) {b:Nat} (hs:Still L w0 b):w.heap[b]?=w0.heap[b]?:=by
 obtain ⟨o,ho⟩:=hs.there;rw [ho,h.ph.keep ho hs.nc (hs.no o ho)]
theorem Ms.stillCell (h:Ms L w0 T nC f cell m xs w) {a:Addr} (hs:Still L w0 a.block):w.cell? a=w0.cell? a:=by
 unfold World.cell?;rw [h.still hs]
theorem Ms.stillLooks (h:Ms L w0 T nC f cell m xs w) {b:Nat} (hs:Still L w0 b) {es:Array Event} (hes:∀e∈es,∃j,e=⟨.cell ⟨b,j,none⟩,false,false⟩):L.D0 w w es:=
 .look w fun e he=>by
  obtain ⟨o,ho⟩:=hs.there;obtain ⟨j,rfl⟩:=hes e he;exact EvBy.read (a:=⟨b,j,none⟩) (by rw [h.still hs];exact ho) fun hm=>hs.no o ho (.inr hm)
end
section
variable {Post:Goroutine→World→Prop} {w:World} {kb C T nC cC cell g cb co cc:Nat} {p:Prg} {K:NetK} {D:Nat→Chn} {lr:Nat→Option Row} {z:Nat→Int} {f:Nat→Value} {m:Nat} {xs:List Value} {budget:Nat} {inV:Value}
theorem YeR (h:Ycf w kb C T nC cC cell g cb co cc p K D lr z f m xs inV) (vs:List Value) (hvs:∀v∈vs,Jo v) (hm:m+vs.length≤1000000000) (cs:List Frame) (d:Nat):
  Y1 Tryz.prog true (lotQ w T g (f cell) (netB K lr)).R0 (lotQ w T g (f cell) (netB K lr)).D0 (StopA Tryz.prog (lotQ w T g (f cell) (netB K lr)).c JP (lotQ w T g (f cell) (netB K lr)).R0 (lotQ w T g (f cell) (netB K lr)).D0 (lotQ w T g (f cell) (netB K lr)).ML (FinW (lotQ w T g (f cell) (netB K lr)) (W7 w cell budget g inV) kb w.heap.size T nC cell (m+vs.length) f (xs++vs.flatMap Yv) (.agg #[.int .i64 cell,.int .i64 budget]) inV undef undef (.pointer (some ⟨kb,0,none⟩)) (.pointer (some ⟨kb,0,none⟩)) (.pointer (some ⟨kb,2,none⟩)) (.slice (some ⟨C,0,none⟩) nC cC) (.pointer (some ⟨w.heap.size,0,none⟩)) (.int .i64 cell) (.pointer (some ⟨C,cell,none⟩)) (.pointer (some ⟨g,0,none⟩)) (.pointer (some ⟨w.heap.size,1,none⟩)) (.int .i64 budget) inV cs) vs)
   (G ((base 57).at {tmps:=#[.pointer (some ⟨g,0,none⟩),.int .i64 budget,inV,.pointer (some ⟨w.heap.size+1,0,none⟩),.pointer (some ⟨w.heap.size+2,0,none⟩),.pointer (some ⟨w.heap.size+3,0,none⟩),.chan none,.pointer (some ⟨w.heap.size+5,0,none⟩),.chan (some (w.heap.size+4)),.func (.func 83) #[] #[.pointer (some ⟨w.heap.size+5,0,none⟩),.pointer (some ⟨w.heap.size+1,0,none⟩),.pointer (some ⟨w.heap.size+2,0,none⟩),.pointer (some ⟨w.heap.size+3,0,none⟩)],undef],defers:=[]} [.inRegion Y46 [],.code Y40]) (rwAt kb C nC cC cell budget g w.heap.size inV::cs)) ((W7 w cell budget g inV).at d):=by
 have hk:(base 57).kind≠.early:=by simp [base]
 have hF:=Yh1 (budget:=budget) (inV:=inV) h d;have s0:=Ycz (budget:=budget) (inV:=inV) h (i:=5) (by omega) (by omega);have c0:=Y2H w cell budget g inV;repeat refine .c1 (lotQ w T g (f cell) (netB K lr)).terms0 rfl ?_
 refine .regionL (lotQ w T g (f cell) (netB K lr)).terms0 [0,1] (by rfl) ?_;refine .op rfl (by rfl) hk fun w1 hR K hK=>?_;replace hF:=hF.rely hR;clear hR;have hc:World.cell? _ ⟨w.heap.size+5,0,none⟩=some (.chan (some (w.heap.size+4))):=(hF.stillCell (a:=⟨w.heap.size+5,0,none⟩) s0).trans c0;go_simp;try (unfold stored;go_simp)
 refine hK _ _ ⟨?_,?_⟩
 ·refine hF.stillLooks s0 ?_;co_evs (exact ⟨_,rfl⟩)
 clear hK K;clear hc;try walk_nrm
 refine .opV (lotQ w T g (f cell) (netB K lr)).terms0 rfl (by rfl) hk ?_;try walk_nrm
 repeat refine .c1 (lotQ w T g (f cell) (netB K lr)).terms0 rfl ?_
 refine Y1.ret (lotQ w T g (f cell) (netB K lr)).terms0 fun todo=>?_;refine Y1.leave (lotQ w T g (f cell) (netB K lr)).terms0 Tryz.func57 rfl (Xj (lotQ w T g (f cell) (netB K lr)).terms0 (t:=6) (by rfl) _) ?_;show Y1 _ _ _ _ _ (G ((base 31).at {tmps:=#[.pointer (some ⟨kb,0,none⟩),.agg #[.int .i64 cell,.int .i64 budget],inV,undef,.pointer (some ⟨w.heap.size,0,none⟩),undef,undef,.pointer (some ⟨kb,0,none⟩),.pointer (some ⟨kb,0,none⟩),.pointer (some ⟨kb,2,none⟩),.slice (some ⟨C,0,none⟩) nC cC,.pointer (some ⟨w.heap.size,0,none⟩),.int .i64 cell,.pointer (some ⟨C,cell,none⟩),.pointer (some ⟨g,0,none⟩),.pointer (some ⟨w.heap.size,1,none⟩),.int .i64 budget,inV,.chan (some (w.heap.size+4)),undef,undef,undef,undef,undef,undef,undef,undef,undef,undef,undef,undef,undef,undef,undef,undef,undef,undef,undef,undef,undef],defers:=[]} [.inRegion Y4t [],.code Y34]) cs) _;refine Y1.regionEnd (lotQ w T g (f cell) (netB K lr)).terms0 ?_;refine Y1.block (lotQ w T g (f cell) (netB K lr)).terms0 ?_;refine Y1.loop (lotQ w T g (f cell) (netB K lr)).terms0 ?_;exact Ybo rfl (Yct h (Jg h.k2) h.hkb) (Ycz h (i:=0) (by omega) (by omega)) (Y1l w cell budget g inV h.k4) (Y7C w cell budget g inV) h.hcell (.agg #[.int .i64 cell,.int .i64 budget]) inV undef undef (.pointer (some ⟨kb,0,none⟩)) (.pointer (some ⟨kb,0,none⟩)) (.pointer (some ⟨kb,2,none⟩)) (.slice (some ⟨C,0,none⟩) nC cC) (.pointer (some ⟨w.heap.size,0,none⟩)) (.int .i64 cell) (.pointer (some ⟨C,cell,none⟩)) (.pointer (some ⟨g,0,none⟩)) (.pointer (some ⟨w.heap.size,1,none⟩)) (.int .i64 budget) inV cs f vs f m xs _ undef undef undef undef undef undef undef undef undef undef undef undef undef undef undef undef undef undef undef undef undef undef hvs hm (fun _ _=>rfl) hF
end
theorem CallsR.introT {P:Program} {w:World} {f:FuncId} {args:Array Value} {R:Value→World→Prop} {fn:Func} {c:Code} (tm:Array Value) (hf:P.funcs[f]?=some fn) (hb:fn.body=some c) (htm:args++Array.replicate (fn.ntmps-args.size) undef=tm)
  (h:∀(cs:List Frame) (Post:Goroutine→World→Prop),(∀(a:Act) (todo:List Item) (v:Value) (w':World),a.defers=[]→(∀d,(results fn a.tmps).run P (w'.at d)=.ok v (w'.at d))→R v w'→Y3 P Post (G {(base f).at a todo with mode:=.returning} cs) w')→
   Y3 P Post (G ((base f).at {tmps:=tm,defers:=[]} [.code c]) cs) w):CallsR P f args w R:=by
 subst htm;exact CallsR.intro hf hb h
theorem Y1.valueK {P:Program} {main:Bool} {R:World→World→Prop} {D:World→World→Array Event→Prop} {Stop:Goroutine→World→Prop} {b:Frame} {a:Act} {k:List Item} {cs:List Frame} {w:World} {ops:Array Oper} {i:Nat} {rest:List Nat} {o:Oper} {v:Value} (T:Terms R D) (ho:ops[i]?=some o) (hw:Region.wanted o (yielded ops a.tmps)=true) (hk:b.kind≠.early)
  (hr:∀w₁,(execOp a.eval o).run P w₁=.ok (.value v) w₁) (he:∀w₁,(execOp a.eval o).events P w₁ #[]=#[]) (h:Y1 P main R D Stop (G (b.at (a.put o.dst v) (.inRegion ops rest::k)) cs) w):Y1 P main R D Stop (G (b.at a (.inRegion ops (i::rest)::k)) cs) w:=
 Y1.op ho hw hk fun w₁ r K hK=>by
  rw [hr w₁];exact hK _ _ ⟨by rw [listed_nil (he w₁)];exact T.idle _,h.rely T.trans r⟩
theorem YgY (o:OutQ):(∀v∈o.sent,Jo v)∧o.sent.length≤1:=by
 unfold OutQ.sent;split
 ·refine ⟨fun v hv=>?_,by simp⟩;rw [List.mem_singleton.1 hv];exact ⟨_,_,_,rfl⟩
 ·exact ⟨fun v hv=>by simp at hv,by simp⟩
theorem YdF (p:Prg):∀(k:Nat) (z:Nat→Int) (C:Nat→Chn),(∀v∈(runQ p k z C).1,Jo v)∧(runQ p k z C).1.length≤k
 |0,z,C=>⟨fun v hv=>by simp [runQ] at hv,by simp [runQ]⟩
 |k+1,z,C=>by
  simp only [runQ];cases hs:YbQ p.n p.ci p.ins z C with
  |on op e z' C'=>
   have h1:=YgY (.on op e z' C');have h2:=YdF p k z' C';by_cases h0:op=0
   ·simp only [h0,if_true];rw [h0] at h1;exact ⟨h1.1,by have:=h1.2;omega⟩
   ·simp only [h0,if_false];refine ⟨fun v hv=>?_,?_⟩
    ·rcases List.mem_append.1 hv with hv|hv
     ·exact h1.1 v hv
     ·exact h2.1 v hv
    ·rw [List.length_append];have:=h1.2;have:=h2.2;omega
  |broke y z'=>
   refine ⟨fun v hv=>?_,by simp⟩;rw [List.mem_singleton.1 hv];exact ⟨_,_,_,rfl⟩
theorem YcU (p:Prg) (k:Nat) (z:Nat→Int) (C:Nat→Chn):(∀v∈(YbN p k z C).1,Jo v)∧(YbN p k z C).1.length≤k+1:=by
 have h:(∀v∈(goQ p k z C).1,Jo v)∧(goQ p k z C).1.length≤k:=by
  unfold goQ;split
  ·exact ⟨fun v hv=>by simp at hv,by simp⟩
  ·exact YdF p k z C
 unfold YbN;refine ⟨fun v hv=>?_,?_⟩
 ·rcases List.mem_append.1 hv with hv|hv
  ·exact h.1 v hv
  ·rw [List.mem_singleton.1 hv];exact ⟨_,_,_,rfl⟩
 ·simp;exact h.2
structure YcT (w:World) (T nC cell g:Nat) (num:Int) (code:Value) (K:NetK) (lr:Nat→Option Row) (z:Nat→Int) (D:Nat→Chn) (f:Nat→Value) (m:Nat) (xs:List Value) (w':World) (f':Nat→Value) (lr':Nat→Option Row):Prop where
 size:w.heap.size≤w'.heap.size
 os:w'.os=w.os
 out:w'.output=w.output
 tape:w'.tape=w.tape
 row:RowF w' g 48 186 (cellV num (.pointer (some ⟨K.nb,0,none⟩)) code z)
 tr:RowF w' T nC 61 f'
 others:∀j,j≠cell→f' j=f j
 own:w'.ownsRow 0 111 3 (f' cell) m xs
 blk:∀b,(f' cell).ownBlock=some b→(f cell).ownBlock=some b∨w.heap.size≤b
 old:∀b,b<w.heap.size→Far T g (f cell) (netB K lr) b→w'.heap[b]?=w.heap[b]?
 nt:NtW w' K D lr'
 nblk:∀b,netB K lr' b→netB K lr b∨w.heap.size≤b
section
variable {Post:Goroutine→World→Prop} {w:World} {kb C T nC cC cell g cb co cc:Nat} {p:Prg} {K:NetK} {D:Nat→Chn} {lr:Nat→Option Row} {z:Nat→Int} {f:Nat→Value} {m:Nat} {xs:List Value} {budget:Nat} {inV:Value}
theorem Yfr (h:Ycf w kb C T nC cC cell g cb co cc p K D lr z f m xs inV) {z':Nat→Int} {D':Nat→Chn} {rn':List Row} {f':Nat→Value} {m':Nat} {xs':List Value} {w':World} (hN:NR K rn' D') (hk:Kn (lotQ w T g (f cell) (netB K lr)) (W7 w cell budget g inV) (ZQ K g p.num (YB cb co p.n cc) z'::rn') w') (hf:∀j,j≠cell→f' j=f j) (hM:Ms (lotQ w T g (f cell) (netB K lr)) (W7 w cell budget g inV) T nC f' cell m' xs' w'):∃lr',YcT w T nC cell g p.num (YB cb co p.n cc) K lr z' D' f m' xs' w' f' lr':=by
 have hs:=hM.ph.size;rw [XJ] at hs;obtain ⟨lr',h1,h2⟩:=NtW.back (w:=w') hN (fun i r hi=>(hk.row (i+1) r hi).rw.row) fun i j r s hi hj hne=>hk.pw (i+1) (j+1) r s hi hj (by omega);refine ⟨lr',by omega,hM.ph.os,hM.ph.out,hM.ph.tape,(hk.row 0 _ rfl).rw.row,hM.row.rw.row,hf,hM.own,fun b hb=>?_,fun b hb hfar=>?_,h1,fun b hb=>?_⟩
 ·obtain ⟨o,ho⟩:=(hM.blk b hb).1.there;rcases ((hM.blk b hb).2 o ho).2 with ⟨_,hm⟩|⟨hm,_⟩
  ·rcases hm with hm|hm
   ·exfalso;subst hm;obtain ⟨cs,g1,_⟩:=hM.row.rw.row;rcases hM.own.2 with ⟨hx,_⟩|⟨g0,cap0,cur,hx,_,hg,_⟩
    ·rw [hx] at hb;simp [Value.ownBlock] at hb
    ·rw [hx] at hb;have:g0=b:=by simpa [Value.ownBlock] using hb
     subst this;rw [g1] at hg;injection hg with hg
     injection hg with _ hg
     exact absurd hg (by show ¬(61:Nat)=111;decide)
   ·exact .inl hm
  ·have hm:w.heap.size+6≤b:=hm;exact .inr (by omega)
 ·rw [hM.still (Yct (budget:=budget) (inV:=inV) h hb hfar),JQ w cell budget g inV hb]
 ·rcases h2 b hb with hq|⟨i,r,hi,rfl⟩
  ·exact .inl (.inl hq)
  ·have ow:=hk.row (i+1) r hi;obtain ⟨o,ho⟩:=ow.rw.calm.there;rcases (ow.own o ho).2 with ⟨_,hm⟩|⟨hm,_⟩
   ·rcases hm with hm|hm
    ·exact absurd hm (hk.pw (i+1) 0 r _ hi rfl (by omega))
    ·exact .inl hm
   ·have hm:w.heap.size+6≤r.g:=hm;exact .inr (by omega)
theorem YfF (h:Ycf w kb C T nC cC cell g cb co cc p K D lr z f m xs inV) (hbud:budget≤200) (hm:m+budget<1000000000) (cs:List Frame) (hp:∀a' w',FinW (lotQ w T g (f cell) (netB K lr)) (W7 w cell budget g inV) kb w.heap.size T nC cell (m+(YbN p budget z D).1.length) f (xs++(YbN p budget z D).1.flatMap Yv) (.agg #[.int .i64 cell,.int .i64 budget]) inV undef undef (.pointer (some ⟨kb,0,none⟩)) (.pointer (some ⟨kb,0,none⟩)) (.pointer (some ⟨kb,2,none⟩)) (.slice (some ⟨C,0,none⟩) nC cC) (.pointer (some ⟨w.heap.size,0,none⟩)) (.int .i64 cell) (.pointer (some ⟨C,cell,none⟩)) (.pointer (some ⟨g,0,none⟩)) (.pointer (some ⟨w.heap.size,1,none⟩)) (.int .i64 budget) inV cs a' w'→(fun w'=>∃rn',NR K rn' (YbN p budget z D).2.2∧Kn (lotQ w T g (f cell) (netB K lr)) (W7 w cell budget g inV) (ZQ K g p.num (YB cb co p.n cc) (YbN p budget z D).2.1::rn') w') w'→Y3 Tryz.prog Post a' w') (d:Nat):
  Y3 Tryz.prog Post (G (wiAt g budget w.heap.size inV) (rwAt kb C nC cC cell budget g w.heap.size inV::cs)) ((W7 w cell budget g inV).at d):=by
 have hk:(base 57).kind≠.early:=by simp [base]
 have hev:=YcU p budget z D;have hin:∀{b:Nat},b<w.heap.size→∃o,(W7 w cell budget g inV).heap[b]?=some o:=fun hb=>⟨_,Array.getElem?_eq_getElem (by rw [XJ];omega)⟩;have hcb:cb<w.heap.size:=by
  obtain ⟨o,ho⟩:=h.cbIn;exact (Array.getElem?_eq_some_iff.1 ho).1
 refine Y3.fork (z:=JP) (vs:=(YbN p budget z D).1) (Fin:=FinW (lotQ w T g (f cell) (netB K lr)) (W7 w cell budget g inV) kb w.heap.size T nC cell (m+(YbN p budget z D).1.length) f (xs++(YbN p budget z D).1.flatMap Yv) (.agg #[.int .i64 cell,.int .i64 budget]) inV undef undef (.pointer (some ⟨kb,0,none⟩)) (.pointer (some ⟨kb,0,none⟩)) (.pointer (some ⟨kb,2,none⟩)) (.slice (some ⟨C,0,none⟩) nC cC) (.pointer (some ⟨w.heap.size,0,none⟩)) (.int .i64 cell) (.pointer (some ⟨C,cell,none⟩)) (.pointer (some ⟨g,0,none⟩)) (.pointer (some ⟨w.heap.size,1,none⟩)) (.int .i64 budget) inV cs) ((lotQ w T g (f cell) (netB K lr)).rules (fun w'=>∃rn',NR K rn' (YbN p budget z D).2.2∧Kn (lotQ w T g (f cell) (netB K lr)) (W7 w cell budget g inV) (ZQ K g p.num (YB cb co p.n cc) (YbN p budget z D).2.1::rn') w') fun _ _ r ⟨rn,h1,k⟩=>⟨rn,h1,k.rely r⟩) rfl (fun d2=>?_) hp;refine ⟨_,_,_,_,stepG_spawn (d:=winD (w.heap.size+5) (w.heap.size+1) (w.heap.size+2) (w.heap.size+3)) (w':=(W7 w cell budget g inV).at d2) rfl (by rfl) hk ?run rfl,?ev,⟨0,0,false,YbH w cell budget g inV⟩,YeR h _ hev.1 (by have:=hev.2;omega) cs d2,?child⟩
 case run=>kernel_rfl
 case ev=>
  rw [listed_nil (by kernel_rfl)];simp
 case child=>
  obtain ⟨rn,hN,hK⟩:=YfM (budget:=budget) h d2;exact Yfe (Ygz w T g (f cell) (netB K lr)) rfl rfl (YfP h) h.hfr rfl (YfV h) h.hln hN (Yct h hcb h.hcb) (fun j hj=>Y1l w cell budget g inV (h.code j hj)) h.n48 h.ok h.zok h.len budget hbud (Ycz h (i:=5) (by omega) (by omega)) (Ycz h (i:=1) (by omega) (by omega)) (Ycz h (i:=2) (by omega) (by omega)) (Ycz h (i:=3) (by omega) (by omega)) (Y2H w cell budget g inV) (Y7Y w cell budget g inV) (Y6u w cell budget g inV) (Y5m w cell budget g inV) _ hK
theorem Yfo (h:Ycf w kb C T nC cC cell g cb co cc p K D lr z f m xs inV) (hbud:budget≤200) (hm:m+budget<1000000000):
  CallsR Tryz.prog 31 #[.pointer (some ⟨kb,0,none⟩),.agg #[.int .i64 cell,.int .i64 budget],inV] w (fun v w'=>v=.tuple #[]∧∃f' lr',YcT w T nC cell g p.num (YB cb co p.n cc) K lr (YbN p budget z D).2.1 (YbN p budget z D).2.2 f (m+(YbN p budget z D).1.length) (xs++(YbN p budget z D).1.flatMap Yv) w' f' lr'):=by
 refine CallsR.introT (c:=Y0F) #[.pointer (some ⟨kb,0,none⟩),.agg #[.int .i64 cell,.int .i64 budget],inV,undef,undef,undef,undef,undef,undef,undef,undef,undef,undef,undef,undef,undef,undef,undef,undef,undef,undef,undef,undef,undef,undef,undef,undef,undef,undef,undef,undef,undef,undef,undef,undef,undef,undef,undef,undef,undef] Tryz.func31 (by rfl) (by kernel_rfl) fun cs Post hp=>?_;have hinV:∃ip il ic,inV=.slice ip il ic:=by obtain ⟨a,c,e,_⟩:=h.inr;exact ⟨_,_,_,e⟩
 refine Yb4 h.k2 h.cl h.hcell inV hinV cs fun d=>YfF h hbud hm cs (fun a' w' hfin ⟨rn',hN',hkn⟩=>?_) d;obtain ⟨u6,u20,u21,u22,u23,u24,u25,u26,u27,u28,u29,u30,u31,u32,u33,u34,u35,u36,u37,u38,u39,f',rfl,hf',hM⟩:=hfin;obtain ⟨lr',hA⟩:=Yfr h hN' hkn hf' hM;have hk:(base 31).kind≠.early:=by simp [base]
 refine Y3.of_goes ?_;have hF:=Is.self w';refine Y1.valueK Y2 (v:=.bool false) rfl (by rfl) hk (fun w=>by kernel_rfl) (fun w=>by kernel_rfl) ?_;show Y1 _ _ _ _ _ (G ((base 31).at {tmps:=#[.pointer (some ⟨kb,0,none⟩),(.agg #[.int .i64 cell,.int .i64 budget]),inV,undef,.pointer (some ⟨w.heap.size,0,none⟩),undef,u6,(.pointer (some ⟨kb,0,none⟩)),(.pointer (some ⟨kb,0,none⟩)),(.pointer (some ⟨kb,2,none⟩)),(.slice (some ⟨C,0,none⟩) nC cC),(.pointer (some ⟨w.heap.size,0,none⟩)),(.int .i64 cell),(.pointer (some ⟨C,cell,none⟩)),(.pointer (some ⟨g,0,none⟩)),(.pointer (some ⟨w.heap.size,1,none⟩)),(.int .i64 budget),inV,.chan (some (lotQ w T g (f cell) (netB K lr)).c),.tuple #[JP,.bool false],.bool false,u21,u22,u23,u24,u25,u26,u27,u28,u29,u30,u31,u32,u33,u34,u35,u36,u37,u38,u39],defers:=[]} [.inRegion Y4b [],.code Y3N,.inLoop JA,.inBlock 0]) cs) _;repeat refine .c1 Y2 rfl ?_
 refine Y1.condF Y2 (by rfl) ?_;refine Y1.exit Y2 rfl ?_;refine Y1.fin Y2 ?_;refine .stop rfl fun w1 hR=>?_;obtain ⟨d,rfl⟩:=hF.rely hR;exact (hp _ _ _ w' rfl (fun d=>results_none (by rfl) _ _ _) ⟨rfl,f',lr',hA⟩).at d
end
structure Ker where
 kb:Nat
 C:Nat
 T:Nat
 nC:Nat
 cC:Nat
 nb:Nat
 g:Nat→Nat
 cb:Nat→Nat
 co:Nat→Nat
 n:Nat→Nat
 cc:Nat→Nat
 num:Nat→Int
 ci:Nat→Nat→Int
section
variable {w w':World} {k:Ker} {z:Nat→Nat→Int} {f f':Nat→Value} {m:Nat→Nat} {xs:Nat→List Value}
theorem J5 {w:World} {v:Value} {m:Nat} {xs:List Value} (h:w.ownsRow 0 111 3 v m xs) {b:Nat} (hb:v.ownBlock=some b):∃cs fz,w.heap[b]?=some (.cells cs 111 fz):=by
 rcases h.2 with ⟨hx,_⟩|⟨g0,cap0,cur,hx,_,hg,_⟩
 ·rw [hx] at hb;simp [Value.ownBlock] at hb
 ·rw [hx] at hb;have:g0=b:=by simpa [Value.ownBlock] using hb
  subst this;exact ⟨_,_,hg⟩
theorem Zh {g n t:Nat} {f:Nat→Value} (hr:RowF w g n t f) (ht:t≠111) {v:Value} {m:Nat} {xs:List Value} (ho:w.ownsRow 0 111 3 v m xs):v.ownBlock≠some g:=fun e=>by
 obtain ⟨cs,fz,h1⟩:=J5 ho e;obtain ⟨cs',h2,_⟩:=hr;rw [h1] at h2;injection h2 with h2
 injection h2 with _ h2
 exact ht h2.symm
theorem Y2B {g g' n n' t t':Nat} {f f':Nat→Value} (hr:RowF w g n t f) (hr':RowF w g' n' t' f') (ht:t≠t'):g≠g':=Y0w hr hr' ht
def updN {α:Type} (x:Nat→α) (i:Nat) (v:α) (j:Nat):α:=if j=i then v else x j
theorem Yh {α:Type} (x:Nat→α) (i:Nat) (v:α):updN x i v i=v:=if_pos rfl
theorem YG {α:Type} (x:Nat→α) {i j:Nat} (v:α) (h:j≠i):updN x i v j=x j:=if_neg h
section
variable {cell:Nat} {z':Nat→Int} {m':Nat} {xs':List Value}
theorem cell_of_heap {a:Addr} (e:w'.heap[a.block]?=w.heap[a.block]?):w'.cell? a=w.cell? a:=by
 unfold World.cell?;rw [e]
end
end
def YbM (w:World) (b:Nat):Prop:=∃cs t fz,w.heap[b]?=some (.cells cs t fz)∧t≠186∧t≠61∧t≠111∧t≠156∧t≠158∧t≠2
structure KSta (w:World) (k:Ker) (K:NetK):Prop where
 k2:w.cell? ⟨k.kb,2,none⟩=some (.slice (some ⟨k.C,0,none⟩) k.nC k.cC)
 k4:w.cell? ⟨k.kb,4,none⟩=some (.slice (some ⟨k.T,0,none⟩) k.nC k.nC)
 skb:YbM w k.kb
 sC:YbM w k.C
 snb:YbM w K.nb
 seb:0<K.k→YbM w K.eb
 scb:∀i,i<k.nC→YbM w (k.cb i)
 cl:∀i,i<k.nC→w.cell? ⟨k.C,i,none⟩=some (.pointer (some ⟨k.g i,0,none⟩))
 code:∀i,i<k.nC→∀j,j<k.n i*4→w.cell? ⟨k.cb i,k.co i+j,none⟩=some (.int .i64 (k.ci i j))
 nc:NetC w K
 n48:∀i,i<k.nC→k.n i≤48
 ok:∀i,i<k.nC→Yc8 (k.n i) K.k (k.ci i)
 inj:∀i j,i<k.nC→j<k.nC→i≠j→k.g i≠k.g j
structure KSq where
 z:Nat→Nat→Int
 m:Nat→Nat
 xs:Nat→List Value
 D:Nat→Chn
structure KDyn (w:World) (k:Ker) (K:NetK) (s:KSq) (f:Nat→Value) (lr:Nat→Option Row):Prop where
 row:∀i,i<k.nC→RowF w (k.g i) 48 186 (cellV (k.num i) (.pointer (some ⟨K.nb,0,none⟩)) (YB (k.cb i) (k.co i) (k.n i) (k.cc i)) (s.z i))
 tr:RowF w k.T k.nC 61 f
 own:∀i,i<k.nC→w.ownsRow 0 111 3 (f i) (s.m i) (s.xs i)
 zok:∀i,i<k.nC→Zok (k.n i) (s.z i)
 ownNe:∀i j,i<k.nC→j<k.nC→i≠j→∀b,(f i).ownBlock=some b→(f j).ownBlock≠some b
 nt:NtW w K s.D lr
def DB (k:Ker) (K:NetK) (f:Nat→Value) (lr:Nat→Option Row) (b:Nat):Prop:=b=k.T∨netB K lr b∨∃i,i<k.nC∧(b=k.g i∨(f i).ownBlock=some b)
section
variable {w w':World} {k:Ker} {K:NetK} {s:KSq} {f f':Nat→Value} {lr lr':Nat→Option Row}
theorem YbM.lt {b:Nat} (h:YbM w b):b<w.heap.size:=by
 obtain ⟨cs,t,fz,h1,_⟩:=h;exact (Array.getElem?_eq_some_iff.1 h1).1
theorem YbM.of_heap {b:Nat} (h:YbM w b) (e:w'.heap[b]?=w.heap[b]?):YbM w' b:=by
 obtain ⟨cs,t,fz,h1,h2⟩:=h;exact ⟨cs,t,fz,e.trans h1,h2⟩
theorem YbM.ne_row {b g m t:Nat} {f:Nat→Value} (h:YbM w b) (hr:RowF w g m t f) (ht:t=186∨t=61∨t=156∨t=158∨t=2):b≠g:=fun e=>by
 subst e;obtain ⟨cs,t',fz,h1,h2,h3,h4,h5,h6,h7⟩:=h;obtain ⟨cs',h8,_⟩:=hr;rw [h8] at h1;injection h1 with h1
 injection h1 with _ h1
 rcases ht with rfl|rfl|rfl|rfl|rfl
 ·exact h2 h1.symm
 ·exact h3 h1.symm
 ·exact h5 h1.symm
 ·exact h6 h1.symm
 ·exact h7 h1.symm
theorem YbM.ne_own {b:Nat} (h:YbM w b) {v:Value} {m:Nat} {xs:List Value} (ho:w.ownsRow 0 111 3 v m xs):v.ownBlock≠some b:=fun e=>by
 obtain ⟨cs,fz,h1⟩:=J5 ho e;obtain ⟨cs',t',fz',h2,_,_,h4,_⟩:=h;rw [h1] at h2;injection h2 with h2
 injection h2 with _ h2
 exact h4 h2.symm
theorem YbM.ne_net {b:Nat} (h:YbM w b) {D:Nat→Chn} (hn:NtW w K D lr):¬netB K lr b:=fun hb=>by
 obtain ⟨m,t,f,hr,ht⟩:=hn.at hb;exact h.ne_row hr (by rcases ht with ht|ht|ht<;>simp [ht]) rfl
theorem YbM.far (h:KDyn w k K s f lr) {cell:Nat} (hc:cell<k.nC) {b:Nat} (hs:YbM w b):Far k.T (k.g cell) (f cell) (netB K lr) b:=
 ⟨hs.ne_row (h.row cell hc) (.inl rfl),hs.ne_row h.tr (.inr (.inl rfl)),hs.ne_own (h.own cell hc),hs.ne_net h.nt⟩
theorem YbM.notDB (h:KDyn w k K s f lr) {b:Nat} (hs:YbM w b):¬DB k K f lr b:=by
 rintro (hb|hb|⟨i,hi,hb|hb⟩)
 ·exact hs.ne_row h.tr (.inr (.inl rfl)) hb
 ·exact hs.ne_net h.nt hb
 ·exact hs.ne_row (h.row i hi) (.inl rfl) hb
 ·exact hs.ne_own (h.own i hi) hb
theorem KSta.keepG (h:KSta w k K) (h2:w'.cell? ⟨k.kb,2,none⟩=w.cell? ⟨k.kb,2,none⟩) (h4:w'.cell? ⟨k.kb,4,none⟩=w.cell? ⟨k.kb,4,none⟩) (hs:YbM w' k.kb) (hk:∀b,(b=k.C∨b=K.nb∨(0<K.k∧b=K.eb)∨∃i,i<k.nC∧b=k.cb i)→w'.heap[b]?=w.heap[b]?):KSta w' k K:=by
 have hC:=hk k.C (.inl rfl);have hn:=hk K.nb (.inr (.inl rfl));have he:=fun h0:0<K.k=>hk K.eb (.inr (.inr (.inl ⟨h0,rfl⟩)));have hc:=fun i (hi:i<k.nC)=>hk (k.cb i) (.inr (.inr (.inr ⟨i,hi,rfl⟩)));exact ⟨h2.trans h.k2,h4.trans h.k4,hs,h.sC.of_heap hC,h.snb.of_heap hn,fun h0=>(h.seb h0).of_heap (he h0),fun i hi=>(h.scb i hi).of_heap (hc i hi),fun i hi=>(cell_of_heap (a:=⟨k.C,i,none⟩) hC).trans (h.cl i hi),fun i hi j hj=>(cell_of_heap (a:=⟨k.cb i,k.co i+j,none⟩) (hc i hi)).trans (h.code i hi j hj),h.nc.keep hn he,h.n48,h.ok,h.inj⟩
theorem KSta.keep (h:KSta w k K) (hk:∀b,YbM w b→w'.heap[b]?=w.heap[b]?):KSta w' k K:=by
 have e:=hk _ h.skb;refine h.keepG (cell_of_heap (a:=⟨k.kb,2,none⟩) e) (cell_of_heap (a:=⟨k.kb,4,none⟩) e) (h.skb.of_heap e) fun b hb=>?_;rcases hb with rfl|rfl|⟨h0,rfl⟩|⟨i,hi,rfl⟩
 ·exact hk _ h.sC
 ·exact hk _ h.snb
 ·exact hk _ (h.seb h0)
 ·exact hk _ (h.scb i hi)
theorem KDyn.keep (h:KDyn w k K s f lr) (hk:∀b,DB k K f lr b→w'.heap[b]?=w.heap[b]?):KDyn w' k K s f lr:=
 ⟨fun i hi=>(h.row i hi).of_heap (hk _ (.inr (.inr ⟨i,hi,.inl rfl⟩))),h.tr.of_heap (hk _ (.inl rfl)),fun i hi=>Xd (L:=⟨0,0,111,fun _=>False,fun _=>False⟩) (h.own i hi) fun b hb=>hk b (.inr (.inr ⟨i,hi,.inr hb⟩)),h.zok,h.ownNe,h.nt.keep fun b hb=>hk b (.inr (.inl hb))⟩
theorem KDyn.lt (h:KDyn w k K s f lr) {b:Nat} (hb:DB k K f lr b):b<w.heap.size:=by
 rcases hb with rfl|hb|⟨i,hi,rfl|hb⟩
 ·exact h.tr.lt
 ·exact h.nt.lt hb
 ·exact (h.row i hi).lt
 ·obtain ⟨cs,fz,h1⟩:=J5 (h.own i hi) hb;exact (Array.getElem?_eq_some_iff.1 h1).1
def Yca (k:Ker) (K:NetK) (ins:List (Int×Int)) (i:Nat):Prg:=⟨k.n i,k.ci i,k.num i,K.fr,ins⟩
theorem KDyn.ready (hS:KSta w k K) (h:KDyn w k K s f lr) {cell:Nat} (hc:cell<k.nC) {inV:Value} {ins:List (Int×Int)} (hin:InW w inV ins (YbM w)) (hln:ins.length≤1000) (hlen:LenQ K.k 900000000 s.D):Ycf w k.kb k.C k.T k.nC k.cC cell (k.g cell) (k.cb cell) (k.co cell) (k.cc cell) (Yca k K ins cell) K s.D lr (s.z cell) f (s.m cell) (s.xs cell) inV where
 k2:=hS.k2
 k4:=hS.k4
 cl:=hS.cl cell hc
 hcell:=hc
 row:=h.row cell hc
 tr:=h.tr
 own:=h.own cell hc
 code:=hS.code cell hc
 cbIn:=by obtain ⟨cs,t,fz,h1,_⟩:=hS.scb cell hc;exact ⟨_,h1⟩
 n48:=hS.n48 cell hc
 ok:=hS.ok cell hc
 zok:=h.zok cell hc
 nt:=h.nt
 nc:=hS.nc
 hfr:=rfl
 inr:=hin.keep (fun _ _=>rfl) fun b hb _=>hb.far h hc
 hln:=hln
 len:=hlen
 hg:=⟨Y2B (h.row cell hc) h.tr (by decide),Zh (h.row cell hc) (by decide) (h.own cell hc),fun hb=>by
  obtain ⟨m,t,f,hr,ht⟩:=h.nt.at hb;exact Y2B (h.row cell hc) hr (by rcases ht with rfl|rfl|rfl<;>decide) rfl⟩
 hT:=Zh h.tr (by decide) (h.own cell hc)
 hN:=fun b hb=>by
  obtain ⟨m,t,f',hr,ht⟩:=h.nt.at hb;exact ⟨Y2B hr h.tr (by rcases ht with rfl|rfl|rfl<;>decide),Zh hr (by rcases ht with rfl|rfl|rfl<;>decide) (h.own cell hc)⟩
 hkb:=hS.skb.far h hc
 hcb:=(hS.scb cell hc).far h hc
 hnb:=hS.snb.far h hc
 heb:=fun h0=>(hS.seb h0).far h hc
section
variable {cell:Nat} {z':Nat→Int} {D':Nat→Chn} {m':Nat} {xs':List Value}
theorem KDyn.after (h:KDyn w k K s f lr) (hc:cell<k.nC) (hinj:∀i j,i<k.nC→j<k.nC→i≠j→k.g i≠k.g j) (hA:YcT w k.T k.nC cell (k.g cell) (k.num cell) (YB (k.cb cell) (k.co cell) (k.n cell) (k.cc cell)) K lr z' D' f m' xs' w' f' lr') (hz:Zok (k.n cell) z'):KDyn w' k K ⟨updN s.z cell z',updN s.m cell m',updN s.xs cell xs',D'⟩ f' lr':=by
 have nrow:∀i,i<k.nC→¬netB K lr (k.g i):=fun i hi hb=>by
  obtain ⟨m,t,f,hr,ht⟩:=h.nt.at hb;exact Y2B (h.row i hi) hr (by rcases ht with rfl|rfl|rfl<;>decide) rfl
 have nown:∀i,i<k.nC→∀b,(f i).ownBlock=some b→¬netB K lr b:=fun i hi b ho hb=>by
  obtain ⟨m,t,f',hr,ht⟩:=h.nt.at hb;exact Zh hr (by rcases ht with rfl|rfl|rfl<;>decide) (h.own i hi) ho
 have kept:∀i,i<k.nC→i≠cell→w'.heap[k.g i]?=w.heap[k.g i]?:=fun i hi hne=>hA.old _ (h.row i hi).lt ⟨hinj i cell hi hc hne,Y2B (h.row i hi) h.tr (by decide),Zh (h.row i hi) (by decide) (h.own cell hc),nrow i hi⟩;have keptO:∀i,i<k.nC→i≠cell→∀b,(f i).ownBlock=some b→b<w.heap.size∧w'.heap[b]?=w.heap[b]?:=fun i hi hne b hb=>by
  obtain ⟨cs,fz,h1⟩:=J5 (h.own i hi) hb;have hlt:=(Array.getElem?_eq_some_iff.1 h1).1;exact ⟨hlt,hA.old b hlt ⟨fun e=>Zh (h.row cell hc) (by decide) (h.own i hi) (by rw [←e];exact hb),fun e=>Zh h.tr (by decide) (h.own i hi) (by rw [←e];exact hb),h.ownNe i cell hi hc hne b hb,nown i hi b hb⟩⟩
 refine ⟨fun i hi=>?_,hA.tr,fun i hi=>?_,fun i hi=>?_,fun i j hi hj hne b hb hb'=>?_,hA.nt⟩
 ·show RowF w' _ _ _ (cellV _ _ _ (updN s.z cell z' i));by_cases e:i=cell
  ·subst e;rw [Yh];exact hA.row
  ·rw [YG _ _ e];exact (h.row i hi).of_heap (kept i hi e)
 ·show w'.ownsRow 0 _ 3 (f' i) (updN s.m cell m' i) (updN s.xs cell xs' i);by_cases e:i=cell
  ·subst e;rw [Yh,Yh];exact hA.own
  ·rw [YG _ _ e,YG _ _ e,hA.others i e];exact Xd (L:=⟨0,0,111,fun _=>False,fun _=>False⟩) (h.own i hi) fun b hb=>(keptO i hi e b hb).2
 ·show Zok _ (updN s.z cell z' i);by_cases e:i=cell
  ·subst e;rw [Yh];exact hz
  ·rw [YG _ _ e];exact h.zok i hi
 ·by_cases e:i=cell
  ·subst e;have hj':j≠i:=fun x=>hne x.symm;rw [hA.others j hj'] at hb';rcases hA.blk b hb with hb|hb
   ·exact h.ownNe i j hi hj hne b hb hb'
   ·have:=(keptO j hj hj' b hb').1;omega
  ·rw [hA.others i e] at hb;by_cases e2:j=cell
   ·subst e2;rcases hA.blk b hb' with hb'|hb'
    ·exact h.ownNe i j hi hj hne b hb hb'
    ·have:=(keptO i hi e b hb).1;omega
   ·rw [hA.others j e2] at hb';exact h.ownNe i j hi hj hne b hb hb'
end
def winQ (k:Ker) (K:NetK) (ins:List (Int×Int)) (p:Nat×Nat) (s:KSq):KSq:=
 ⟨updN s.z p.1 (YbN (Yca k K ins p.1) p.2 (s.z p.1) s.D).2.1,updN s.m p.1 (s.m p.1+(YbN (Yca k K ins p.1) p.2 (s.z p.1) s.D).1.length),updN s.xs p.1 (s.xs p.1++(YbN (Yca k K ins p.1) p.2 (s.z p.1) s.D).1.flatMap Yv),(YbN (Yca k K ins p.1) p.2 (s.z p.1) s.D).2.2⟩
def Yce (k:Ker) (K:NetK) (ins:List (Int×Int)) (wn:Nat→Nat×Nat):Nat→Nat→KSq→KSq
 |0,_,s=>s
 |rem+1,j,s=>Yce k K ins wn rem (j+1) (winQ k K ins (wn j) s)
structure FwQ (wR:World) (fR:Nat→Value) (lrR:Nat→Option Row) (k:Ker) (K:NetK) (wsB wo nW:Nat) (wn:Nat→Nat×Nat) (s:KSq) (f:Nat→Value) (lr:Nat→Option Row) (w:World):Prop where
 sta:KSta wR k K
 dyn:KDyn w k K s f lr
 dynR:∃sR,KDyn wR k K sR fR lrR
 sW:YbM wR wsB
 c0:∀j,j<nW→wR.cell? ⟨wsB,wo+j*2,none⟩=some (.int .i64 (wn j).1)
 c1:∀j,j<nW→wR.cell? ⟨wsB,wo+j*2+1,none⟩=some (.int .i64 (wn j).2)
 ph:w.os=wR.os∧w.output=wR.output∧w.tape=wR.tape∧wR.heap.size≤w.heap.size
 ft:∀b,b<wR.heap.size→¬DB k K fR lrR b→w.heap[b]?=wR.heap[b]?
 fo:∀i b,i<k.nC→(f i).ownBlock=some b→(fR i).ownBlock=some b∨wR.heap.size≤b
 fn:∀b,netB K lr b→netB K lrR b∨wR.heap.size≤b
end
section
variable {wR w w':World} {fR f f':Nat→Value} {lrR lr lr':Nat→Option Row} {k:Ker} {K:NetK} {wsB wo nW:Nat} {wn:Nat→Nat×Nat} {s:KSq} {p:Nat×Nat}
theorem FwQ.st (h:FwQ wR fR lrR k K wsB wo nW wn s f lr w) {b:Nat} (hb:YbM wR b):w.heap[b]?=wR.heap[b]?:=by
 obtain ⟨sR,hR⟩:=h.dynR;exact h.ft b hb.lt (hb.notDB hR)
theorem FwQ.cell (h:FwQ wR fR lrR k K wsB wo nW wn s f lr w) {a:Addr} (hs:YbM wR a.block):w.cell? a=wR.cell? a:=cell_of_heap (h.st hs)
theorem FwQ.frozen (h:FwQ wR fR lrR k K wsB wo nW wn s f lr w) {a:Addr} (hs:YbM wR a.block):w.frozen? a=wR.frozen? a:=by
 unfold World.frozen?;rw [h.st hs]
theorem FwQ.staW (h:FwQ wR fR lrR k K wsB wo nW wn s f lr w):KSta w k K:=h.sta.keep fun _ hb=>h.st hb
theorem FwQ.grow (h:FwQ wR fR lrR k K wsB wo nW wn s f lr w) (hg:∀b,b<w.heap.size→w'.heap[b]?=w.heap[b]?) (hph:w'.os=w.os∧w'.output=w.output∧w'.tape=w.tape∧w.heap.size≤w'.heap.size):FwQ wR fR lrR k K wsB wo nW wn s f lr w':=
 ⟨h.sta,h.dyn.keep fun b hb=>hg b (h.dyn.lt hb),h.dynR,h.sW,h.c0,h.c1,⟨hph.1.trans h.ph.1,hph.2.1.trans h.ph.2.1,hph.2.2.1.trans h.ph.2.2.1,Nat.le_trans h.ph.2.2.2 hph.2.2.2⟩,fun b hb hf=>(hg b (Nat.lt_of_lt_of_le hb h.ph.2.2.2)).trans (h.ft b hb hf),h.fo,h.fn⟩
theorem FwQ.rely (h:FwQ wR fR lrR k K wsB wo nW wn s f lr w) (r:RS w w'):FwQ wR fR lrR k K wsB wo nW wn s f lr w':=by
 obtain ⟨d,rfl⟩:=r;exact h.grow (fun _ _=>rfl) ⟨rfl,rfl,rfl,Nat.le_refl _⟩
theorem FwQ.after (h:FwQ wR fR lrR k K wsB wo nW wn s f lr w) (hc:p.1<k.nC) {ins:List (Int×Int)} {b:Nat} (hl:LenQ K.k b s.D) (hA:YcT w k.T k.nC p.1 (k.g p.1) (k.num p.1) (YB (k.cb p.1) (k.co p.1) (k.n p.1) (k.cc p.1)) K lr (YbN (Yca k K ins p.1) p.2 (s.z p.1) s.D).2.1 (YbN (Yca k K ins p.1) p.2 (s.z p.1) s.D).2.2 f (s.m p.1+(YbN (Yca k K ins p.1) p.2 (s.z p.1) s.D).1.length) (s.xs p.1++(YbN (Yca k K ins p.1) p.2 (s.z p.1) s.D).1.flatMap Yv) w' f' lr'):
  FwQ wR fR lrR k K wsB wo nW wn (winQ k K ins p s) f' lr' w'∧LenQ K.k (b+p.2) (winQ k K ins p s).D:=by
 have hw:=Yd0 (p:=Yca k K ins p.1) (h.sta.ok _ hc) p.2 (h.dyn.zok _ hc) hl;refine ⟨⟨h.sta,h.dyn.after hc h.sta.inj hA hw.1,h.dynR,h.sW,h.c0,h.c1,⟨hA.os.trans h.ph.1,hA.out.trans h.ph.2.1,hA.tape.trans h.ph.2.2.1,Nat.le_trans h.ph.2.2.2 hA.size⟩,fun b hb hf=>?_,fun i b hi hb=>?_,fun b hb=>?_⟩,hw.2⟩
 ·refine (hA.old b (Nat.lt_of_lt_of_le hb h.ph.2.2.2) ⟨fun e=>hf (.inr (.inr ⟨_,hc,.inl e⟩)),fun e=>hf (.inl e),fun e=>?_,fun e=>?_⟩).trans (h.ft b hb hf)
  ·rcases h.fo _ b hc e with e|e
   ·exact hf (.inr (.inr ⟨_,hc,.inr e⟩))
   ·omega
  ·rcases h.fn b e with e|e
   ·exact hf (.inr (.inl e))
   ·omega
 ·by_cases e:i=p.1
  ·subst e;rcases hA.blk b hb with e|e
   ·exact h.fo _ b hi e
   ·exact .inr (Nat.le_trans h.ph.2.2.2 e)
  ·rw [hA.others i e] at hb;exact h.fo _ b hi hb
 ·rcases hA.nblk b hb with e|e
  ·exact h.fn b e
  ·exact .inr (Nat.le_trans h.ph.2.2.2 e)
end
end Go.Proofs.YtdoghgnifkgfdaaGreat.Mute
