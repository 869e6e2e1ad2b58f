import Derived.Test.YtdoghgnifkgfdaaGreatP00
import Derived.Test.YtdoghgnifkgfdaaGreatP06
import Derived.Test.YtdoghgnifkgfdaaGreatP09
import Derived.Test.YtdoghgnifkgfdaaGreatP21
set_option maxRecDepth 100000
set_option maxHeartbeats 16000000
open Option renaming none->Ai,some->yi
open Go renaming World->ui,Value->ti,undef->ri
open Bool renaming true->ji,false->gi
namespace Go.Proofs.YtdoghgnifkgfdaaGreat.Mute
open Tryz Go Go.Conc Go.RowKit
@[go_sem] theorem j30(P:Program)(w:ui)(es:Array Event)(a:Addr)(m:Mode)(b:Option Addr)(l c:Nat):(store a (.slice b l c) m).events P w es=storedEv P w es a (.slice b l c) m:=events_store P w es a _ m rfl
section
variable {L:km}{w0:ui}{kb wb T nC cell:Nat}
def R50(L:km)(w0:ui)(kb wb T nC cell m:Nat)(f0:Nat->ti)(xs:List ti)(x1 x2 x3 x5 x7 x8 x9 x10 x11 x12 x13 x14 x15 x16 x17:ti)(cs:List Frame)(g:Goroutine)(w:ui):Prop:=
 ∃(u6 xw qx vv u23 yv Nv ku qu lu nu dw Wv u32 Xv gw px u36 aC u38 dD:ti)(f:Nat->ti),g=G ((base 31).at {tmps:=#[.pointer (yi ⟨kb,0,Ai⟩),x1,x2,x3,.pointer (yi ⟨wb,0,Ai⟩),x5,u6,x7,x8,x9,x10,x11,x12,x13,x14,x15,x16,x17,.chan (yi L.c),(.tuple #[LH,.bool gi]),xw,qx,vv,u23,yv,Nv,ku,qu,lu,nu,dw,Wv,u32,Xv,gw,px,u36,aC,u38,dD],defers:=[]} [.inRegion d80 [1],.code l30,.inLoop eE,.inBlock 0]) cs/\(∀j,j≠cell->f j=f0 j)/\Ms L w0 T nC f cell m xs w
theorem kZ(Q00:L.ev=111)(sK:Still L w0 kb)(sW:Still L w0 wb)(cK:w0.cell? ⟨kb,4,Ai⟩=yi (.slice (yi ⟨T,0,Ai⟩) nC nC))(cW:w0.cell? ⟨wb,0,Ai⟩=yi (.int .i64 cell))(hcell:cell<nC)(x1 x2 x3 x5 x7 x8 x9 x10 x11 x12 x13 x14 x15 x16 x17:ti)(cs:List Frame)(f0:Nat->ti):
  ∀(vs:List ti)(f:Nat->ti)(m:Nat)(xs:List ti)(w:ui)(u6 uw xw qx vv u23 yv Nv ku qu lu nu dw Wv u32 Xv gw px u36 aC u38 dD:ti),(∀v∈vs,AK v)->m+vs.length<=1000000000->(∀j,j≠cell->f j=f0 j)->Ms L w0 T nC f cell m xs w->
   Ci prog ji L.R0 L.D0 (StopA prog L.c LH L.R0 L.D0 L.ML (R50 L w0 kb wb T nC cell (m+vs.length) f0 (xs++vs.flatMap Qj) x1 x2 x3 x5 x7 x8 x9 x10 x11 x12 x13 x14 x15 x16 x17 cs) vs) (G ((base 31).at {tmps:=#[.pointer (yi ⟨kb,0,Ai⟩),x1,x2,x3,.pointer (yi ⟨wb,0,Ai⟩),x5,u6,x7,x8,x9,x10,x11,x12,x13,x14,x15,x16,x17,.chan (yi L.c),uw,xw,qx,vv,u23,yv,Nv,ku,qu,lu,nu,dw,Wv,u32,Xv,gw,px,u36,aC,u38,dD],defers:=[]} [.code eE,.inLoop eE,.inBlock 0]) cs) w:=by
 have hk:(base 31).kind≠.early:=E1;intro vs;induction vs with
 |nil=>
  intro f m xs w u6 uw xw qx vv u23 yv Nv ku qu lu nu dw Wv u32 Xv gw px u36 aC u38 dD _ _ hf0 hF;refine Ci.seq L.ik ?_;refine Ci.Gi L.ik [0,1] I0 ?_;refine Ci.h50 rfl I0 hk (fun w=>J0) (fun w=>J0) fun w2 hR=>?_;exact⟨u6,xw,qx,vv,u23,yv,Nv,ku,qu,lu,nu,dw,Wv,u32,Xv,gw,px,u36,aC,u38,dD,f,rfl,hf0,by simpa using hF.rely hR⟩
 |cons v vs ih=>
  intro f m xs w u6 uw xw qx vv u23 yv Nv ku qu lu nu dw Wv u32 Xv gw px u36 aC u38 dD hv hm hf0 hF;obtain⟨k,a,b,rfl⟩:=hv v List.mem_cons_self;have Jj:L.ev≠61:=by rw[Q00];decide
  unfold evV;refine Ci.seq L.ik ?_;refine Ci.Gi L.ik [0,1] I0 ?_;refine Ci.k00 rfl I0 hk (fun w=>J0) (fun w=>J0) ?_;refine W9 ?_;refine .pj L.ik rfl I0 hk ?_;refine W9 ?_;repeat refine .c1 L.ik rfl ?_
  refine Ci.zk L.ik I0 ?_;repeat refine .c1 L.ik rfl ?_
  refine .Gi L.ik [0,1,2] I0 ?_;refine .pj L.ik rfl I0 hk ?_;refine W9 ?_;refine K8 fun w1 K hK hF=>?_;refine I8 ?_ ?_
  ·refine Does.alloc L.Cj L.Bj hF.hc ?_;exact j9
  clear hK K;obtain⟨hF',hO⟩:=hF.new 0 0 0;rw[Q00]at hF' hO;replace hF:=hF';clear hF';generalize hE:w1.heap.size=E at *;generalize hW:(w1.alloc (.cells #[.int .i64 0,.int .i64 0,.int .i64 0] 111))=w2 at *;clear hW hE w1;refine W9 ?_;refine .op rfl I0 hk fun w1 hR K hK=>?_;replace hF:=hF.rely hR;replace hO:=hO.rely hR;clear hR;obtain⟨a0,a1,a2⟩:=hF.ev;obtain⟨z0,z1,z2⟩:=hF.yh0;obtain⟨fX,hO3,ht3,hc3⟩:=hF.o90 Jj hO k a b;refine I8 ?_ ?_
  ·refine hF.wu.rf0 ht3 hc3 ?_;(intro e he;have hm:=mem_listed he;simp[go_sem, *]at hm;rcases hm with rfl|rfl|rfl<;>exact⟨_,_,rfl⟩)
  clear hK K;clear a0 a1 a2 z0 z1 z2 ht3 hc3;replace hF:=fX;replace hO:=hO3;clear fX hO3;refine W9 ?_;repeat refine .c1 L.ik rfl ?_
  have hci:(cell:Int)<(nC:Int):=E0;refine Ci.Ym (S:=Mt L w0 T nC f E (ev3 k a b)) (Die:=fun _ _=>False) L.ik L.ra0 19 I0 hk J0 (fun _ _ _ h=>h) (fun _ _ _ h=>h.elim) fun w1 hR=>?_;replace hF:=(hF.rely hR).rely (Turn.drew _);replace hO:=(hO.rely hR).rely (Turn.drew _);clear hR;refine Ii L.ik 0 (fun _ _ h r=>Mt.rely h r) hF ?_;refine W9 ?_;refine Ii L.ik 1 (fun _ _ h r=>Mt.rely h r) hF ?_;refine W9 ?_;refine Ii L.ik 2 (fun _ _ h r=>Mt.rely h r) hF ?_;refine W9 ?_;refine aj L.ik 3 rfl (fun _ _ h r=>Mt.rely h r) hF ?_ fun _ hw=>⟨run_eq_of (by
   intro K hK;refine zb fun hc=>?_;go_simp;exact hK),by
   refine zb fun hc=>?_;refine hw.Aj sK ?_;co_evs (exact⟨_,rfl⟩)⟩
  refine W9 ?_;refine Ii L.ik 4 (fun _ _ h r=>Mt.rely h r) hF ?_;refine W9 ?_;refine aj L.ik 5 rfl (fun _ _ h r=>Mt.rely h r) hF ?_ fun _ hw=>⟨run_eq_of (by
   intro K hK;refine Tc fun hc=>?_;go_simp;exact hK),by
   refine Tc fun hc=>?_;refine hw.Aj sW ?_;co_evs (exact⟨_,rfl⟩)⟩
  refine W9 ?_;refine Ii L.ik 6 (fun _ _ h r=>Mt.rely h r) hF ?_;refine W9 ?_;refine Ii L.ik 7 (fun _ _ h r=>Mt.rely h r) hF ?_;refine W9 ?_;refine Ii L.ik 8 (fun _ _ h r=>Mt.rely h r) hF ?_;refine W9 ?_;refine aj L.ik 9 rfl (fun _ _ h r=>Mt.rely h r) hF ?_ fun _ hw=>⟨run_eq_of (by
   intro K hK;refine zb fun hc=>?_;go_simp;exact hK),by
   refine zb fun hc=>?_;refine hw.Aj sK ?_;co_evs (exact⟨_,rfl⟩)⟩
  refine W9 ?_;refine Ii L.ik 10 (fun _ _ h r=>Mt.rely h r) hF ?_;refine W9 ?_;refine aj L.ik 11 rfl (fun _ _ h r=>Mt.rely h r) hF ?_ fun _ hw=>⟨run_eq_of (by
   intro K hK;refine Tc fun hc=>?_;go_simp;exact hK),by
   refine Tc fun hc=>?_;refine hw.Aj sW ?_;co_evs (exact⟨_,rfl⟩)⟩
  refine W9 ?_;refine aj L.ik 12 rfl (fun _ _ h r=>Mt.rely h r) hF ?_ fun _ hw=>⟨run_eq_of (by
   intro K hK;go_simp;exact hK),by
   co_still L.ik⟩
  refine W9 ?_;refine aj L.ik 13 rfl (fun _ _ h r=>Mt.rely h r) hF ?_ fun _ hw=>⟨run_eq_of (by
   intro K hK;have hc:World.cell? _ ⟨T,cell,Ai⟩=yi (f cell):=hw.row.cell hcell;go_simp;exact hK),by
   have hc:World.cell? _ ⟨T,cell,Ai⟩=yi (f cell):=hw.row.cell hcell;refine hw.row.H20 ?_;co_evs (exact⟨_,rfl⟩)⟩
  refine W9 ?_;refine aj L.ik 14 rfl (fun _ _ h r=>Mt.rely h r) hF ?_ fun _ hw=>⟨run_eq_of (by
   intro K hK;obtain⟨a0,a1,a2⟩:=hw.ev;go_simp;exact hK),by
   obtain⟨a0,a1,a2⟩:=hw.ev;refine hw.wu.H20 ?_;(intro e he;have hm:=mem_listed he;simp[go_sem, *]at hm;rcases hm with rfl|rfl|rfl<;>exact⟨_,rfl⟩)⟩
  refine W9 ?_;refine Zm (i:=15) T0 rfl I0 ?_;intro w1 hR K hK;replace hF:=hF.rely hR;replace hO:=hO.rely hR;clear hR;go_simp;obtain⟨ql,hO2,hS⟩:=hF.src hO k a b;rw[Q00]at ql hO2 hS;refine hK _ _ ⟨?_,?_,?_⟩
  ·refine Does.alloc L.Cj L.Bj hF.hc ?_;exact j9
  ·exact .inl ql
  clear hK K;replace hF:=ql;replace hO:=hO2;clear ql hO2;generalize hSz:w1.heap.size=S at *;generalize hW:(w1.alloc (.cells #[.int .i64 k,.int .i64 a,.int .i64 b] 111))=w2 at *;clear hW hSz w1;refine W9 ?_;refine Zm (i:=16) T0 rfl I0 ?_;intro w1 hR K hK;replace hF:=hF.rely hR;replace hO:=hO.rely hR;replace hS:=hS.rely hR;clear hR;obtain⟨i,hi,hz,hsz,RG⟩:=dM;rw[<-Q00]at hi hS;have hu:prog.underlying 61=yi (.slice L.ev):=by rw[Q00];exact underlying61
  have hm1:m<=1000000000:=by simp at hm;omega
  obtain⟨g,cap,w',hr,rj,ht,vJ,hg,Wi⟩:=ZO (P:=prog) hi hz hsz RG (t:=61) (ty:=61) hu hO S k a b hS.Ad0 hm1;obtain⟨ql,hO2,yB⟩:=hF.appended Jj hO ht rj vJ hg Wi;refine uponK_append (.tmp 35) (.tmp 37) 61 rfl rfl rfl hr (hK _ _ ⟨fP hi hz hsz RG hu hO S k a b hS hm1 ht yB (.tmp 35) (.tmp 37) rfl rfl rfl,.inl ql,?_⟩);replace hF:=ql;replace hO:=hO2;clear hK K ql hO2 hS hr rj ht vJ hg Wi yB hi hz hsz RG hu;refine W9 ?_;refine Zm (i:=17) T0 rfl I0 ?_;intro w1 hR K hK;replace hF:=hF.rely hR;replace hO:=hO.rely hR;clear hR;refine E9 ?_ ?_ ?_
  ·co_still L.ik
  ·exact .inl hF
  clear hK K;refine W9 ?_;refine Zm (i:=18) T0 rfl I0 ?_;intro w1 hR K hK;replace hF:=hF.rely hR;replace hO:=hO.rely hR;clear hR;have hc:=hF.row.cell hcell;have hfz:=hF.row.frozen cell;refine E9 ?_ ?_ ?_
  ·refine hF.row.does L.Cj L.Bj cell _ ?_;exact Ec
  ·exact Cc
  clear hK K;replace hF:=hF.put Jj hO cell;clear hc hfz hO;refine H9 ?_;refine Ci.inBlock L.ik ?_;refine Ci.inLoop L.ik ?_;rw[show m+(vs.length+1)=m+1+vs.length by omega,show xs++List.flatMap Qj (Value.agg #[Value.int .i64 k,.int .i64 a,.int .i64 b]::vs)=xs++[Value.int .i64 k,.int .i64 a,.int .i64 b]++vs.flatMap Qj by simp[Qj]];refine ih _ _ _ _ _ _ _ _ _ _ _ _ _ _ _ _ _ _ _ _ _ _ _ _ _ _ (fun v hv'=>hv v (List.mem_cons_of_mem _ hv')) (by simp at hm;omega) (fun j hj=>?_) hF;simp only[if_neg hj];exact hf0 j hj
end
abbrev RS(w w₁:ui):Prop:=∃d,w₁=w.at d
abbrev DS(_ _:ui)(es:Array Event):Prop:=∀e∈es,ko e
theorem Di:Terms RS DS:=⟨fun _ _ _ ⟨_,h⟩ ⟨e,k⟩=>⟨e,by rw[k,h];rfl⟩,fun _ e he=>by simp at he⟩
theorem uD:LetsDraw DS:=fun _ e he=>by simp at he
theorem bj.fl{P:Program}{Post:Goroutine->ui->Prop}{g:Goroutine}{w:ui}(h:Ci P ji RS DS (bj P Post) g w):bj P Post g w:=by
 induction h with
 |stop hs h=>exact h _ ⟨_,rfl⟩
 |step nx hs h1 h2 ih=>exact .step hs fun d=>⟨_,_,_,(h1 _ ⟨d,rfl⟩).1,(h1 _ ⟨d,rfl⟩).2,ih _ ⟨d,rfl⟩⟩
def Is(W w:ui):Prop:=∃d,w=W.at d
section
variable {W w w':ui}
theorem Is.self(W:ui):Is W W:=⟨W.drawn,rfl⟩
theorem Is.rely(h:Is W w)(r:RS w w'):Is W w':=by
 obtain⟨d,rfl⟩:=h;obtain⟨e,rfl⟩:=r;exact⟨e,rfl⟩
theorem Is.drew(h:Is W w):Is W {w with drawn:=w.drawn+1}:=by
 obtain⟨d,rfl⟩:=h;exact⟨d+1,rfl⟩
theorem Is.cell(h:Is W w)(a:Addr):w.cell? a=W.cell? a:=by
 obtain⟨d,rfl⟩:=h;rfl
theorem Is.frozen(h:Is W w)(a:Addr):w.frozen? a=W.frozen? a:=by
 obtain⟨d,rfl⟩:=h;rfl
theorem Is.size(h:Is W w):w.heap.size=W.heap.size:=by
 obtain⟨d,rfl⟩:=h;rfl
theorem Is.alloc(h:Is W w)(o:Obj):Is (W.alloc o) (w.alloc o):=by
 obtain⟨d,rfl⟩:=h;exact⟨d,rfl⟩
theorem Is.set(h:Is W w)(a:Addr)(v:ti):Is (W.setCell a v) (w.setCell a v):=by
 obtain⟨d,rfl⟩:=h;exact⟨d,rfl⟩
end
def W1(w:ui)(cell budget:Nat):World:=w.alloc (.cells #[.int .i64 cell,.int .i64 budget] 102)
def W5(w:ui)(cell budget:Nat)(g:Nat)(inV:ti):World:=((((W1 w cell budget).alloc (.cells #[.pointer (yi ⟨g,0,Ai⟩)] 143)).alloc (.cells #[.int .i64 budget] 3)).alloc (.cells #[inV] 29)).alloc (.chan 0 #[] gi 0 0 gi)
def W7(w:ui)(cell budget:Nat)(g:Nat)(inV:ti):World:=((W5 w cell budget g inV).alloc (.cells #[.chan Ai] 190)).setCell ⟨w.heap.size+5,0,Ai⟩ (.chan (yi (w.heap.size+4)))
noncomputable def qV:Code:=match Tryz.f31.body with
 |some c=>c
 |none=>.skip
noncomputable def s10:Array Oper:=match qV with
 |.seq _ (.seq (.region _ ops _) _)=>ops
 |_=>#[]
noncomputable def R10:Code:=match qV with
 |.seq _ (.seq _ c)=>c
 |_=>.skip
noncomputable def V90(kb C nC cC cell budget g n0:Nat)(inV:ti):Frame:=(base 31).at {tmps:=#[.pointer (yi ⟨kb,0,Ai⟩),.agg #[.int .i64 cell,.int .i64 budget],inV,ri,.pointer (yi ⟨n0,0,Ai⟩),ri,ri,.pointer (yi ⟨kb,0,Ai⟩),.pointer (yi ⟨kb,0,Ai⟩),.pointer (yi ⟨kb,2,Ai⟩),.slice (yi ⟨C,0,Ai⟩) nC cC,.pointer (yi ⟨n0,0,Ai⟩),.int .i64 cell,.pointer (yi ⟨C,cell,Ai⟩),.pointer (yi ⟨g,0,Ai⟩),.pointer (yi ⟨n0,1,Ai⟩),.int .i64 budget,inV,ri,ri,ri,ri,ri,ri,ri,ri,ri,ri,ri,ri,ri,ri,ri,ri,ri,ri,ri,ri,ri,ri],defers:=[]} [.inRegion s10 [11],.code R10]
section
variable {P:Program}{main:Bool}{R:ui->ui->Prop}{D:ui->ui->Array Event->Prop}{Stop:Goroutine->ui->Prop}{b:Frame}{a:Act}{k:List Item}{cs:List Frame}{w:ui}
theorem Ci.O80(T:Terms R D){ops:Array Oper}{i:Nat}{rest:List Nat}{o:Oper}{f:FuncId}{fn:Func}{c:Code}{args:Array Operand}{qG:Array TypeId}(tm:Array ti)
  (ho:ops[i]?=yi o)(hw:Region.wanted o (yielded ops a.tmps)=ji)(hk:b.kind≠.early)(hop:o.op=.call {callee:=.value (.func f),args,argTypes:=qG})
  (hf : P.funcs[f]? = yi fn) (Xw : (fn.name == "runtime.NumGoroutine") = gi) (hb : fn.body = yi c) (htm : args.map a.eval ++ Array.replicate (fn.ntmps - (args.map a.eval).size) ri = tm)
  (h:Ci P main R D Stop (G ((base f).at {tmps:=tm,defers:=[]} [.code c]) (b.at a (.inRegion ops (i::rest)::k)::cs)) w):
  Ci P main R D Stop (G (b.at a (.inRegion ops (i::rest)::k)) cs) w:=by
 refine Ci.enter T ho hw hk hop hf Xw hb ?_;rw[htm];exact h
end
noncomputable def g30:Code:=match Tryz.f57.body with
 |some c=>c
 |none=>.skip
noncomputable def h70:Array Oper:=match g30 with
 |.seq _ (.seq _ (.seq (.region _ ops _) _))=>ops
 |_=>#[]
noncomputable def e30:Code:=match g30 with
 |.seq _ (.seq _ (.seq _ c))=>c
 |_=>.skip
noncomputable def q90(g budget n0:Nat)(inV:ti):Frame:=(base 57).at {tmps:=#[.pointer (yi ⟨g,0,Ai⟩),.int .i64 budget,inV,.pointer (yi ⟨n0+1,0,Ai⟩),.pointer (yi ⟨n0+2,0,Ai⟩),.pointer (yi ⟨n0+3,0,Ai⟩),.chan Ai,.pointer (yi ⟨n0+5,0,Ai⟩),.chan (yi (n0+4)),.func (.func 83) #[] #[.pointer (yi ⟨n0+5,0,Ai⟩),.pointer (yi ⟨n0+1,0,Ai⟩),.pointer (yi ⟨n0+2,0,Ai⟩),.pointer (yi ⟨n0+3,0,Ai⟩)],ri],defers:=[]} [.inRegion h70 [1],.code e30]
theorem mkc(w:ui):(Instr.makeChan 190 (.int .i64 0)).run prog w=.ok (.chan (yi w.heap.size)) (w.alloc (.chan 0 #[] gi 0 0 gi)):=by
 obtain⟨i,hi,hz,hsz,RG⟩:=dM;have:=run_makeChan (P:=prog) (w:=w) underlying190 hi .i64 0 E0 P0;exact Yc
theorem zj0(w:ui)(es:Array Event):(Instr.makeChan 190 (.int .i64 0)).events prog w es=es:=by
 obtain⟨i,hi,hz,hsz,RG⟩:=dM;have:=events_makeChan (P:=prog) (w:=w) underlying190 hi .i64 0 E0 P0 es;exact Yc
theorem Nn{w:ui}{a:Addr}{v:ti}{o:Obj}(h:w.cell? a=yi v):(w.alloc o).cell? a=yi v:=by
 have Wi:a.block<w.heap.size:=by
  refine Classical.byContradiction fun hn=>?_;have:w.heap[a.block]?=none:=Array.getElem?_eq_none E0;unfold World.cell? at h;rw[this]at h;cases h
 unfold World.cell?;rw[heap_alloc_old w o Wi];exact h
theorem eC{W:ui}{v:ti}{t n:Nat}(h:W.heap.size=n):(W.alloc (.cells #[v] t)).cell? ⟨n,0,Ai⟩=yi v/\(W.alloc (.cells #[v] t)).frozen? ⟨n,0,Ai⟩=false:=by
 subst h;have hr:Ei (W.alloc (.cells #[v] t)) W.heap.size 1 t (fun _=>v):=.new W #[v] t _ fun j hj=>by
  have:j=0:=E2;subst this;rfl
 exact⟨hr.cell E0,hr.frozen 0⟩
section
variable {Post:Goroutine->ui->Prop}{w:ui}{kb C T nC cC cell budget g:Nat}
theorem J80{inV:ti}(UX:∃ip il ic,inV=.slice ip il ic)(cs:List Frame)(w0:ui)(hF:Is (W1 w cell budget) w0)(h:∀d,bj prog Post (G (q90 g budget w.heap.size inV) cs) ((W7 w cell budget g inV).at d)):
  Ci prog ji RS DS (bj prog Post) (G ((base 57).at {tmps:=#[.pointer (yi ⟨g,0,Ai⟩),.int .i64 budget,inV,ri,ri,ri,ri,ri,ri,ri,ri],defers:=[]} [.code g30]) cs) w0:=by
 obtain⟨ip,il,ic,rfl⟩:=UX;have hk:(base 57).kind≠.early:=E1;have jV:(W1 w cell budget).heap.size=w.heap.size+1:=by simp[W1]
 refine V8 ?_;refine Qe ?_;refine K8 fun w1 K hK hF=>?_;refine I8 ?_ ?_
 ·exact j9
 clear hK K;have hsz:=hF.size.trans (show _=w.heap.size+1 by simp[W1]);replace hF:=hF.alloc (.cells #[.pointer (yi ⟨g,0,Ai⟩)] 143);rw[hsz];clear hsz;refine W9 ?_;refine K8 fun w1 K hK hF=>?_;refine I8 ?_ ?_
 ·exact j9
 clear hK K;have hsz:=hF.size.trans (show _=w.heap.size+2 by simp[W1]);replace hF:=hF.alloc (.cells #[.int .i64 budget] 3);rw[hsz];clear hsz;refine W9 ?_;refine K8 fun w1 K hK hF=>?_;refine I8 ?_ ?_
 ·exact j9
 clear hK K;have hsz:=hF.size.trans (show _=w.heap.size+3 by simp[W1]);replace hF:=hF.alloc (.cells #[.slice ip il ic] 29);rw[hsz];clear hsz;refine W9 ?_;refine X8 ?_;refine V8 ?_;refine Ed ?_;refine K8 fun w1 K hK hF=>?_;have bS:=mkc w1;have hme:=zj0 w1;refine I8 ?_ ?_
 ·exact j9
 clear hK K;have hsz:=hF.size.trans (show _=w.heap.size+4 by simp[W1]);replace hF:=hF.alloc (.chan 0 #[] gi 0 0 gi);rw[hsz];clear hsz bS hme;refine W9 ?_;refine K8 fun w1 K hK hF=>?_;refine I8 ?_ ?_
 ·exact j9
 clear hK K;have hsz:=hF.size.trans (show _=w.heap.size+5 by simp[W1]);replace hF:=hF.alloc (.cells #[.chan Ai] 190);rw[hsz];clear hsz;refine W9 ?_;refine K8 fun w1 K hK hF=>?_;obtain⟨Zs,Xu⟩:=eC (W:=W5 w cell budget g (.slice ip il ic)) (v:=.chan Ai) (t:=190) (show _=w.heap.size+5 by simp[W5,W1]);have hc:=(hF.cell _).trans Zs;have hfz:=(hF.frozen _).trans Xu;refine I8 ?_ ?_
 ·exact Ad
 clear hK K;replace hF:=hF.set ⟨w.heap.size+5,0,Ai⟩ (.chan (yi (w.heap.size+4)));clear hc hfz Zs Xu;refine W9 ?_;refine V8 ?_;refine .Gi Di [0,1] I0 ?_;refine X8 ?_;refine .stop rfl fun w1 hR=>?_;obtain⟨d,rfl⟩:=hF.rely hR;exact h d
end
section
variable {Post:Goroutine->ui->Prop}{w:ui}{kb C T nC cC cell budget g:Nat}
theorem ke0(ck2:w.cell? ⟨kb,2,Ai⟩=yi (.slice (yi ⟨C,0,Ai⟩) nC cC))(cc:w.cell? ⟨C,cell,Ai⟩=yi (.pointer (yi ⟨g,0,Ai⟩)))(hcell:cell<nC)(inV:ti)(UX:∃ip il ic,inV=.slice ip il ic)(cs:List Frame)(h:∀d,bj prog Post (G (q90 g budget w.heap.size inV) (V90 kb C nC cC cell budget g w.heap.size inV::cs)) ((W7 w cell budget g inV).at d)):bj prog Post (G ((base 31).at {tmps:=#[.pointer (yi ⟨kb,0,Ai⟩),.agg #[.int .i64 cell,.int .i64 budget],inV,ri,ri,ri,ri,ri,ri,ri,ri,ri,ri,ri,ri,ri,ri,ri,ri,ri,ri,ri,ri,ri,ri,ri,ri,ri,ri,ri,ri,ri,ri,ri,ri,ri,ri,ri,ri,ri],defers:=[]} [.code qV]) cs) w:=by
 obtain⟨ip,il,ic,rfl⟩:=UX;have hk:(base 31).kind≠.early:=E1;have qA:(base 57).kind≠.early:=E1;have Wi:∀{a:Addr}{v:ti},w.cell? a=yi v->(W1 w cell budget).cell? a=yi v:=fun h=>Nn h;have hr:Ei (W1 w cell budget) w.heap.size 2 102 (fun j=>if j=0 then .int .i64 cell else .int .i64 budget):=.new w #[.int .i64 cell,.int .i64 budget] _ _ fun j hj=>by
  have:j=0\/j=1:=by simp at hj;omega
  rcases this with rfl|rfl<;>rfl
 have wk2:=Wi ck2;have wc:=Wi cc;have ww0:(W1 w cell budget).cell? ⟨w.heap.size,0,Ai⟩=yi (.int .i64 cell):=hr.cell E0;have ww1:(W1 w cell budget).cell? ⟨w.heap.size,1,Ai⟩=yi (.int .i64 budget):=hr.cell E0;have hci:(cell:Int)<(nC:Int):=E0;refine vb ?_;have hF:=Is.self w;refine V8 ?_;refine Zb ?_;refine K8 fun w1 K hK hF=>?_;refine I8 ?_ ?_
 ·exact j9
 clear hK K;have hsz:=hF.size;replace hF:=hF.alloc (.cells #[.int .i64 cell,.int .i64 budget] 102);rw[hsz];clear hsz;change Is (W1 w cell budget) _ at hF;refine W9 ?_;refine V8 ?_;refine Ci.eR (S:=Is (W1 w cell budget)) Di uD 12 I0 hk J0 ?_;intro w1 hR;replace hF:=(hF.rely hR).drew;clear hR;co_applyP sj Di (fun _ _ _ _ h r=>⟨h.1,h.2.rely Di.trans r⟩) (fun _ _ h r=>Is.rely h r) ?QK (i:=0) rfl T0 T0 T0 T0 (.inl ⟨I0,fun _ hw=>⟨run_eq_of ?zx,?qC⟩⟩) hF ?AU
 case QK=>exact fun _ _ _ h r=>Ci.rely Di.trans h r
 case zx=>
  exact oa
 case qC=>
  skip
  co_quiet Di
 refine W9 ?_;co_applyP sj Di (fun _ _ _ _ h r=>⟨h.1,h.2.rely Di.trans r⟩) (fun _ _ h r=>Is.rely h r) ?iM (i:=1) rfl T0 T0 T0 T0 (.inl ⟨I0,fun _ hw=>⟨run_eq_of ?mB,?xC⟩⟩) hF ?PU
 case iM=>exact fun _ _ _ h r=>Ci.rely Di.trans h r
 case mB=>
  exact oa
 case xC=>
  skip
  co_quiet Di
 refine W9 ?_;co_applyP sj Di (fun _ _ _ _ h r=>⟨h.1,h.2.rely Di.trans r⟩) (fun _ _ h r=>Is.rely h r) ?CM (i:=2) rfl T0 T0 T0 T0 (.inl ⟨I0,fun _ hw=>⟨run_eq_of ?wE,?NB⟩⟩) hF ?GU
 case CM=>exact fun _ _ _ h r=>Ci.rely Di.trans h r
 case wE=>
  exact oa
 case NB=>
  skip
  co_quiet Di
 refine W9 ?_;co_applyP sj Di (fun _ _ _ _ h r=>⟨h.1,h.2.rely Di.trans r⟩) (fun _ _ h r=>Is.rely h r) ?BM (i:=3) rfl T0 T0 T0 T0 (.inl ⟨I0,fun _ hw=>⟨run_eq_of ?MD,?aD⟩⟩) hF ?XU
 case BM=>exact fun _ _ _ h r=>Ci.rely Di.trans h r
 case MD=>
  intro K hK;have hc:World.cell? _ ⟨kb,2,Ai⟩=yi (.slice (yi ⟨C,0,Ai⟩) nC cC):=(hw.cell _).trans wk2;exact kg
 case aD=>
  have hc:World.cell? _ ⟨kb,2,Ai⟩=yi (.slice (yi ⟨C,0,Ai⟩) nC cC):=(hw.cell _).trans wk2;exact Ad
 refine W9 ?_;co_applyP sj Di (fun _ _ _ _ h r=>⟨h.1,h.2.rely Di.trans r⟩) (fun _ _ h r=>Is.rely h r) ?nM (i:=4) rfl T0 T0 T0 T0 (.inl ⟨I0,fun _ hw=>⟨run_eq_of ?ZG,?JB⟩⟩) hF ?uV
 case nM=>exact fun _ _ _ h r=>Ci.rely Di.trans h r
 case ZG=>
  exact oa
 case JB=>
  skip
  co_quiet Di
 refine W9 ?_;co_applyP sj Di (fun _ _ _ _ h r=>⟨h.1,h.2.rely Di.trans r⟩) (fun _ _ h r=>Is.rely h r) ?IL (i:=5) rfl T0 T0 T0 T0 (.inl ⟨I0,fun _ hw=>⟨run_eq_of ?vM,?OB⟩⟩) hF ?aV
 case IL=>exact fun _ _ _ h r=>Ci.rely Di.trans h r
 case vM=>
  intro K hK;have hc:World.cell? _ ⟨w.heap.size,0,Ai⟩=yi (.int .i64 cell):=(hw.cell _).trans ww0;exact kg
 case OB=>
  have hc:World.cell? _ ⟨w.heap.size,0,Ai⟩=yi (.int .i64 cell):=(hw.cell _).trans ww0;exact Ad
 refine W9 ?_;co_applyP sj Di (fun _ _ _ _ h r=>⟨h.1,h.2.rely Di.trans r⟩) (fun _ _ h r=>Is.rely h r) ?rL (i:=6) rfl T0 T0 T0 T0 (.inl ⟨I0,fun _ hw=>⟨run_eq_of ?TM,?bD⟩⟩) hF ?iV
 case rL=>exact fun _ _ _ h r=>Ci.rely Di.trans h r
 case TM=>
  exact oa
 case bD=>
  skip
  co_still Di
 refine W9 ?_;co_applyP sj Di (fun _ _ _ _ h r=>⟨h.1,h.2.rely Di.trans r⟩) (fun _ _ h r=>Is.rely h r) ?R90 (i:=7) rfl T0 T0 T0 T0 (.inl ⟨I0,fun _ hw=>⟨run_eq_of ?l90,?c00⟩⟩) hF ?cc0
 case R90=>exact fun _ _ _ h r=>Ci.rely Di.trans h r
 case l90=>
  intro K hK;have hc:World.cell? _ ⟨C,cell,Ai⟩=yi (.pointer (yi ⟨g,0,Ai⟩)):=(hw.cell _).trans wc;exact kg
 case c00=>
  have hc:World.cell? _ ⟨C,cell,Ai⟩=yi (.pointer (yi ⟨g,0,Ai⟩)):=(hw.cell _).trans wc;exact Ad
 refine W9 ?_;co_applyP sj Di (fun _ _ _ _ h r=>⟨h.1,h.2.rely Di.trans r⟩) (fun _ _ h r=>Is.rely h r) ?E80 (i:=8) rfl T0 T0 T0 T0 (.inl ⟨I0,fun _ hw=>⟨run_eq_of ?wa0,?b10⟩⟩) hF ?Ff0
 case E80=>exact fun _ _ _ h r=>Ci.rely Di.trans h r
 case wa0=>
  exact oa
 case b10=>
  skip
  co_quiet Di
 refine W9 ?_;co_applyP sj Di (fun _ _ _ _ h r=>⟨h.1,h.2.rely Di.trans r⟩) (fun _ _ h r=>Is.rely h r) ?Je0 (i:=9) rfl T0 T0 T0 T0 (.inl ⟨I0,fun _ hw=>⟨run_eq_of ?cf0,?l80⟩⟩) hF ?zh0
 case Je0=>exact fun _ _ _ h r=>Ci.rely Di.trans h r
 case cf0=>
  intro K hK;have hc:World.cell? _ ⟨w.heap.size,1,Ai⟩=yi (.int .i64 budget):=(hw.cell _).trans ww1;exact kg
 case l80=>
  have hc:World.cell? _ ⟨w.heap.size,1,Ai⟩=yi (.int .i64 budget):=(hw.cell _).trans ww1;exact Ad
 refine W9 ?_;co_applyP sj Di (fun _ _ _ _ h r=>⟨h.1,h.2.rely Di.trans r⟩) (fun _ _ h r=>Is.rely h r) ?Pd0 (i:=10) rfl T0 T0 T0 T0 (.inl ⟨I0,fun _ hw=>⟨run_eq_of ?ve0,?N90⟩⟩) hF ?xk0
 case Pd0=>exact fun _ _ _ h r=>Ci.rely Di.trans h r
 case ve0=>
  exact oa
 case N90=>
  skip
  co_quiet Di
 refine W9 ?_;refine aE (i:=11) T0 rfl I0 (zl rfl T0) ⟨rfl,?_⟩;refine Ci.O80 Di #[.pointer (yi ⟨g,0,Ai⟩),.int .i64 budget,.slice ip il ic,ri,ri,ri,ri,ri,ri,ri,ri] rfl I0 hk rfl func57 I0 rfl J0 ?_;exact J80 ⟨_,_,_,rfl⟩ _ _ hF h
end
theorem cell_lt{w:ui}{a:Addr}{v:ti}(h:w.cell? a=yi v):a.block<w.heap.size:=by
 refine Classical.byContradiction fun hn=>?_;have:w.heap[a.block]?=none:=Array.getElem?_eq_none E0;unfold World.cell? at h;rw[this]at h;cases h
section
variable (w:ui)(cell budget g:Nat)(inV:ti)
theorem Nq:(W7 w cell budget g inV).heap.size=w.heap.size+6:=by simp[W7,W5,W1,World.setCell]
theorem bB{b:Nat}(hb:b<w.heap.size):(W7 w cell budget g inV).heap[b]?=w.heap[b]?:=by
 unfold W7;rw[heap_setCell_other _ _ _ _ (by show b≠w.heap.size+5;omega)];unfold W5 W1;repeat rw[heap_alloc_old _ _ A1]
 exact heap_alloc_old w _ hb
theorem Y40:(W7 w cell budget g inV).heap[w.heap.size+4]?=yi (.chan 0 #[] gi 0 0 gi):=by
 unfold W7;rw[heap_setCell_other _ _ _ _ (by show w.heap.size+4≠w.heap.size+5;omega),heap_alloc_old _ _ (by simp[W5,W1])];unfold W5;generalize hX:(((W1 w cell budget).alloc (.cells #[.pointer (yi ⟨g,0,Ai⟩)] 143)).alloc (.cells #[.int .i64 budget] 3)).alloc (.cells #[inV] 29)=X;have hs:X.heap.size=w.heap.size+4:=by rw[<-hX];simp[W1]
 rw[<-hs];exact heap_alloc_new X _
theorem sx{a:Addr}{v:ti}(h:w.cell? a=yi v):(W7 w cell budget g inV).cell? a=yi v:=by
 have Wi:=cell_lt h;unfold World.cell? at h ⊢;rw[bB w cell budget g inV Wi];exact h
theorem iG{W:ui}{a:Addr}{v x:ti}{b:Nat}(h:W.cell? a=yi v)(hb:a.block≠b):(W.setCell ⟨b,0,Ai⟩ x).cell? a=yi v:=by
 unfold World.cell? at h ⊢;rw[heap_setCell_other _ _ _ _ hb];exact h
theorem me0:(W7 w cell budget g inV).cell? ⟨w.heap.size,0,Ai⟩=yi (.int .i64 cell):=by
 have hr:Ei (W1 w cell budget) w.heap.size 2 102 (fun j=>if j=0 then .int .i64 cell else .int .i64 budget):=.new w #[.int .i64 cell,.int .i64 budget] _ _ fun j hj=>by
  have:j=0\/j=1:=by simp at hj;omega
  rcases this with rfl|rfl<;>rfl
 have h0:(W1 w cell budget).cell? ⟨w.heap.size,0,Ai⟩=yi (.int .i64 cell):=hr.cell E0;exact iG (Nn (Nn (Nn (Nn (Nn h0))))) (by show w.heap.size≠w.heap.size+5;omega)
theorem Wc0:(W7 w cell budget g inV).cell? ⟨w.heap.size+1,0,Ai⟩=yi (.pointer (yi ⟨g,0,Ai⟩)):=by
 have h0:=(eC (W:=W1 w cell budget) (v:=.pointer (yi ⟨g,0,Ai⟩)) (t:=143) (n:=w.heap.size+1) (by simp[W1])).1;exact iG (Nn (Nn (Nn (Nn h0)))) (by show w.heap.size+1≠w.heap.size+5;omega)
theorem vd0:(W7 w cell budget g inV).cell? ⟨w.heap.size+2,0,Ai⟩=yi (.int .i64 budget):=by
 have h0:=(eC (W:=(W1 w cell budget).alloc (.cells #[.pointer (yi ⟨g,0,Ai⟩)] 143)) (v:=.int .i64 budget) (t:=3) (n:=w.heap.size+2) (by simp[W1])).1;exact iG (Nn (Nn (Nn h0))) (by show w.heap.size+2≠w.heap.size+5;omega)
theorem Ue0:(W7 w cell budget g inV).cell? ⟨w.heap.size+3,0,Ai⟩=yi inV:=by
 have h0:=(eC (W:=((W1 w cell budget).alloc (.cells #[.pointer (yi ⟨g,0,Ai⟩)] 143)).alloc (.cells #[.int .i64 budget] 3)) (v:=inV) (t:=29) (n:=w.heap.size+3) (by simp[W1])).1;exact iG (Nn (Nn h0)) (by show w.heap.size+3≠w.heap.size+5;omega)
theorem J70:(W7 w cell budget g inV).cell? ⟨w.heap.size+5,0,Ai⟩=yi (.chan (yi (w.heap.size+4))):=by
 have hr:Ei ((W5 w cell budget g inV).alloc (.cells #[.chan Ai] 190)) (W5 w cell budget g inV).heap.size 1 190 (fun _=>.chan Ai):=.new _ #[.chan Ai] _ _ fun j hj=>by
  have:j=0:=E2;subst this;rfl
 have hs:(W5 w cell budget g inV).heap.size=w.heap.size+5:=by simp[W5,W1]
 rw[hs]at hr;exact(hr.set 0 (.chan (yi (w.heap.size+4)))).cell E0
end
section
variable {L:km}{w0 w:ui}{T nC cell m:Nat}{f:Nat->ti}{xs:List ti}
theorem Ms.still(h:Ms L w0 T nC f cell m xs w){b:Nat}(hs:Still L w0 b):w.heap[b]?=w0.heap[b]?:=by
 exact Af
theorem Ms.nj(h:Ms L w0 T nC f cell m xs w){a:Addr}(hs:Still L w0 a.block):w.cell? a=w0.cell? a:=by
 unfold World.cell?;rw[h.still hs]
theorem Ms.Aj(h:Ms L w0 T nC f cell m xs w){b:Nat}(hs:Still L w0 b){es:Array Event}(zn:∀e∈es,∃j,e=⟨.cell ⟨b,j,Ai⟩,gi,gi⟩):L.D0 w w es:=
 .look w fun e he=>by
  exact Be
end
theorem Fj.UD{P:Program}{w:ui}{f:FuncId}{args:Array ti}{R:ti->ui->Prop}{fn:Func}{c:Code}(tm:Array ti)(hf:P.funcs[f]?=yi fn)(hb:fn.body=yi c)(htm:args++Array.replicate (fn.ntmps-args.size) ri=tm)
  (h:∀(cs:List Frame)(Post:Goroutine->ui->Prop),(∀(a:Act)(todo:List Item)(v:ti)(w':ui),a.defers=[]->(∀d,(results fn a.tmps).run P (w'.at d)=.ok v (w'.at d))->R v w'->bj P Post (G {(base f).at a todo with mode:=.returning} cs) w')->
   bj P Post (G ((base f).at {tmps:=tm,defers:=[]} [.code c]) cs) w):Fj P f args w R:=by
 subst htm;exact Fj.intro hf hb h
theorem Ci.Xa0{P:Program}{main:Bool}{R:ui->ui->Prop}{D:ui->ui->Array Event->Prop}{Stop:Goroutine->ui->Prop}{b:Frame}{a:Act}{k:List Item}{cs:List Frame}{w:ui}{ops:Array Oper}{i:Nat}{rest:List Nat}{o:Oper}{v:ti}(T:Terms R D)(ho:ops[i]?=yi o)(hw:Region.wanted o (yielded ops a.tmps)=ji)(hk:b.kind≠.early)
  (hr:∀w₁,(execOp a.eval o).run P w₁=.ok (.value v) w₁)(he:∀w₁,(execOp a.eval o).events P w₁ #[]=#[])(h:Ci P main R D Stop (G (b.at (a.put o.dst v) (.inRegion ops rest::k)) cs) w):Ci P main R D Stop (G (b.at a (.inRegion ops (i::rest)::k)) cs) w:=
 Ci.op ho hw hk fun w₁ r K hK=>by
  rw[hr w₁];exact hK _ _ ⟨by rw[listed_nil (he w₁)];exact T.idle _,h.rely T.trans r⟩
structure Vu where
 kb:Nat
 C:Nat
 T:Nat
 nC:Nat
 cC:Nat
 nb:Nat
 g:Nat->Nat
 cb:Nat->Nat
 co:Nat->Nat
 n:Nat->Nat
 cc:Nat->Nat
 num:Nat->Int
 ci:Nat->Nat->Int
section
variable {w w':ui}{k:Vu}{z:Nat->Nat->Int}{f f':Nat->ti}{m:Nat->Nat}{xs:Nat->List ti}
theorem uM{w:ui}{v:ti}{m:Nat}{xs:List ti}(h:w.ownsRow 0 111 3 v m xs){b:Nat}(hb:v.ownBlock=yi b):∃cs fz,w.heap[b]?=yi (.cells cs 111 fz):=by
 rcases h.2 with⟨hx,_⟩|⟨g0,yj,cur,hx,_,hg,_⟩
 ·rw[hx]at hb;exact Wh
 ·rw[hx]at hb;have:g0=b:=by simpa[Value.ownBlock]using hb
  subst this;exact⟨_,_,hg⟩
theorem Vp{g n t:Nat}{f:Nat->ti}(hr:Ei w g n t f)(ht:t≠111){v:ti}{m:Nat}{xs:List ti}(ho:w.ownsRow 0 111 3 v m xs):v.ownBlock≠yi g:=fun e=>by
 obtain⟨cs,fz,h1⟩:=uM ho e;obtain⟨cs',h2,_⟩:=hr;rw[h1]at h2;injection h2 with h2
 injection h2 with _ h2
 exact ht h2.symm
theorem Wp{g g' n n' t t':Nat}{f f':Nat->ti}(hr:Ei w g n t f)(pS:Ei w g' n' t' f')(ht:t≠t'):g≠g':=rows_apart hr pS ht
def fj{α:Type}(x:Nat->α)(i:Nat)(v:α)(j:Nat):α:=if j=i then v else x j
theorem Oi{α:Type}(x:Nat->α)(i:Nat)(v:α):fj x i v i=v:=if_pos rfl
theorem cj{α:Type}(x:Nat->α){i j:Nat}(v:α)(h:j≠i):fj x i v j=x j:=if_neg h
section
variable {cell:Nat}{z':Nat->Int}{m':Nat}{xs':List ti}
theorem cell_of_heap{a:Addr}(e:w'.heap[a.block]?=w.heap[a.block]?):w'.cell? a=w.cell? a:=by
 unfold World.cell?;rw[e]
end
end
structure RC where
 z:Nat->Int
 s:Int
 v:ti
 b:Bool
 nt:ti
def Et(c:RC)(j:Nat):Value:=if j<21 then .int .i64 (c.z (25+j))else if j=21 then c.nt else if j=22 then c.v else if j=23 then .int .i64 c.s else if j=24 then .int .i64 (c.z 47)else .bool c.b
def Sj(R:Nat->RC)(j:Nat):Value:=Et (R (j/26)) (j%26)
theorem mV(R:Nat->RC)(n:Nat){i:Nat}(hi:i<26):Sj R (n*26+i)=Et (R n) i:=by
 unfold Sj;rw[show (n*26+i)/26=n by omega,show (n*26+i)%26=i by omega]
theorem Iw{R:Nat->RC}{n i:Nat}{v:ti}{c':RC}(hi:i<26)(h:∀j,j<26->Et c' j=if j=i then v else Et (R n) j)(j:Nat):(if j=n*26+i then v else Sj R j)=Sj (fj R n c') j:=by
 unfold Sj;by_cases e:j/26=n
 ·rw[e,Oi,h _ (Nat.mod_lt _ E0)];by_cases e2:j%26=i
  ·rw[if_pos e2,if_pos E0]
  ·rw[if_neg e2,if_neg E0]
 ·rw[cj _ _ e,if_neg E0]
section
variable {w:ui}{G m t n i a:Nat}{R:Nat->RC}
theorem B80(c:RC){i:Nat}(hi:i<21)(x:Int)(j:Nat):Et {c with z:=Ji c.z (25+i) x} j=if j=i then .int .i64 x else Et c j:=by
 unfold Et;by_cases h:j<21
 ·rw[if_pos h,if_pos h];by_cases e:j=i
  ·subst e;rw[if_pos rfl];show Value.int .i64 (Ji c.z (25+j) x (25+j))=_;rw[jo]
  ·rw[if_neg e];show Value.int .i64 (Ji c.z (25+i) x (25+j))=_;rw[Qk _ _ E0]
 ·have e:j≠i:=by omega
  rw[if_neg e,if_neg h,if_neg h];show (if j=21 then _ else if j=22 then _ else if j=23 then _ else if j=24 then Value.int .i64 (Ji c.z (25+i) x 47)else _)=_;rw[Qk _ _ E0]
theorem Ei.rz(h:Ei w G m t (Sj R))(hi:i<21)(ha:a=n*26+i)(x:Int):Ei (w.setCell ⟨G,a,Ai⟩ (.int .i64 x)) G m t (Sj (fj R n {R n with z:=Ji (R n).z (25+i) x})):=by
 subst ha;exact(h.set _ _).congr fun j _=>Iw E0 (fun j _=>B80 _ hi x j) j
theorem Ei.rv(h:Ei w G m t (Sj R))(ha:a=n*26+22)(v:ti):Ei (w.setCell ⟨G,a,Ai⟩ v) G m t (Sj (fj R n {R n with v:=v})):=by
 subst ha;refine(h.set _ _).congr fun j _=>Iw E0 (fun j _=>?_) j;unfold Et;by_cases e:j=22
 ·subst e;rfl
 ·simp only[e,if_false]
theorem Ei.rs(h:Ei w G m t (Sj R))(ha:a=n*26+23)(x:Int):Ei (w.setCell ⟨G,a,Ai⟩ (.int .i64 x)) G m t (Sj (fj R n {R n with s:=x})):=by
 subst ha;refine(h.set _ _).congr fun j _=>Iw E0 (fun j _=>?_) j;unfold Et;by_cases e:j=23
 ·subst e;rfl
 ·simp only[e,if_false]
theorem Ei.r47(h:Ei w G m t (Sj R))(ha:a=n*26+24)(x:Int):Ei (w.setCell ⟨G,a,Ai⟩ (.int .i64 x)) G m t (Sj (fj R n {R n with z:=Ji (R n).z 47 x})):=by
 subst ha;refine(h.set _ _).congr fun j _=>Iw E0 (fun j _=>?_) j;unfold Et;by_cases e:j=24
 ·subst e;show Value.int .i64 (Ji (R n).z 47 x 47)=_;rw[jo];rfl
 ·by_cases h:j<21
  ·rw[if_pos h,if_pos h,if_neg e];show Value.int .i64 (Ji (R n).z 47 x (25+j))=_;rw[Qk _ _ E0]
  ·simp only[e,h,if_false]
theorem Ei.rb(h:Ei w G m t (Sj R))(ha:a=n*26+25)(x:Bool):Ei (w.setCell ⟨G,a,Ai⟩ (.bool x)) G m t (Sj (fj R n {R n with b:=x})):=by
 subst ha;refine(h.set _ _).congr fun j _=>Iw E0 (fun j hj=>?_) j;unfold Et;by_cases e:j=25
 ·subst e;rfl
 ·rw[if_neg e];by_cases h:j<21
  ·rw[if_pos h,if_pos h]
  ·simp only[h,if_false];repeat' split
   all_goals first
    |rfl
    |omega
theorem Ei.rn(h:Ei w G m t (Sj R))(ha:a=n*26+21)(v:ti):Ei (w.setCell ⟨G,a,Ai⟩ v) G m t (Sj (fj R n {R n with nt:=v})):=by
 subst ha;refine(h.set _ _).congr fun j _=>Iw E0 (fun j _=>?_) j;unfold Et;by_cases e:j=21
 ·subst e;rfl
 ·simp only[e,if_false]
theorem Yk{α:Type}(x:Nat->α)(i:Nat)(a b:α):fj (fj x i a) i b=fj x i b:=by
 funext j
 unfold fj;split<;>rfl
theorem Ei.Rz{zz:Nat->Int}(h:Ei w G m t (Sj (fj R n {R n with z:=zz})))(hi:i<21)(ha:a=n*26+i)(x:Int):Ei (w.setCell ⟨G,a,Ai⟩ (.int .i64 x)) G m t (Sj (fj R n {R n with z:=Ji zz (25+i) x})):=by
 have:=Ei.rz h hi ha x;rw[Yk,Oi]at this;exact nh
theorem Ov{c:RC}{z1 z2:Nat->Int}(h:∀j,(25<=j/\j<46)\/j=47->z1 j=z2 j)(j:Nat):Et {c with z:=z1} j=Et {c with z:=z2} j:=by
 unfold Et;by_cases h1:j<21
 ·rw[if_pos h1,if_pos h1];show Value.int .i64 (z1 (25+j))=.int .i64 (z2 (25+j));rw[h _ E0]
 ·rw[if_neg h1,if_neg h1];show (if j=21 then _ else if j=22 then _ else if j=23 then _ else if j=24 then Value.int .i64 (z1 47)else _)=_;rw[h 47 (.inr rfl)]
theorem Ei.rc{z1 z2:Nat->Int}(h:Ei w G m t (Sj (fj R n {R n with z:=z1})))(he:∀j,(25<=j/\j<46)\/j=47->z1 j=z2 j):Ei w G m t (Sj (fj R n {R n with z:=z2})):=h.congr fun j _=>by
 unfold Sj;by_cases e:j/26=n
 ·rw[e,Oi,Oi];exact Ov he _
 ·rw[cj _ _ e,cj _ _ e]
theorem Ei.r0(h:Ei w G m t (Sj R))(n:Nat):Ei w G m t (Sj (fj R n {R n with z:=(R n).z})):=h.congr fun j _=>by
 unfold Sj;by_cases e:j/26=n
 ·rw[e,Oi]
 ·rw[cj _ _ e]
theorem Ei.rat(h:Ei w G m t (Sj R))(hi:i<26)(ha:a=n*26+i)(hm:a<m):w.cell? ⟨G,a,Ai⟩=yi (Et (R n) i):=by
 subst ha;rw[h.cell hm,mV _ _ hi]
end
theorem Rk{w w':ui}{b e s n:Nat}{v:ti}{xs:List ti}(h:w.ownsRow b e s v n xs)(hb:∀g,v.ownBlock=yi g->w'.heap[g]?=w.heap[g]?):w'.ownsRow b e s v n xs:=by
 rcases h with⟨hl,hv|⟨g,cap,cur,rfl,hg,hh,h1⟩⟩
 ·exact⟨hl,.inl hv⟩
 ·exact⟨hl,.inr ⟨g,cap,cur,rfl,hg,(hb g rfl).trans hh,h1⟩⟩
end Go.Proofs.YtdoghgnifkgfdaaGreat.Mute
