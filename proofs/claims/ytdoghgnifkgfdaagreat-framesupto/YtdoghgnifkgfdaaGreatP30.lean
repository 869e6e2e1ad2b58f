import Derived.Test.YtdoghgnifkgfdaaGreatP00
import Derived.Test.YtdoghgnifkgfdaaGreatP21
import Derived.Test.YtdoghgnifkgfdaaGreatP27
import Derived.Test.YtdoghgnifkgfdaaGreatP29
set_option maxRecDepth 100000
set_option maxHeartbeats 16000000
open Option renaming none->Ai,some->yi
open Go renaming World->ui,Value->ti,undef->ri
open Bool renaming true->ji,false->gi
namespace Go.Proofs.YtdoghgnifkgfdaaGreat.Mute
open Tryz Go Go.Conc Go.RowKit
noncomputable def l00:Code:=match Tryz.f58.body with
 |some (.seq (.seq _ (.block _ (.loop c))) _)=>c
 |_=>.skip
noncomputable def j00:Code:=match Tryz.f58.body with
 |some (.seq _ c)=>c
 |_=>.skip
section
variable {L:km}{w0:ui}{K:Nl}{i:Nat}
theorem Qs.at{rows:List Row}{v:ti}{xs:List Int}{p:Option Nat}(h:Qs rows v xs p){j:Nat}(hj:j<xs.length):∃(k:Nat)(r:Row),rows[k]?=yi r/\v=Value.slice (yi ⟨r.g,0,Ai⟩) xs.length r.m/\j<r.m/\r.f j=.int .i64 (xs.getD j 0):=by
 rcases h with⟨_,_,h⟩|⟨k,r,_,h1,_,h2,h3,_,h4⟩
 ·rw[h]at hj;simp at hj
 ·exact⟨k,r,h1,h2,E0,h4 j hj⟩
theorem pY(vm:((2:Nat)==L.ev)=gi)(yr:i<K.k)(cH:K.k*3<=K.qm){xs:List Int}(hn:xs.length<=1000000000)(sa:Option Addr)(sc:Nat){Stop:Goroutine->ui->Prop}(cs:List Frame)(Cf:Nat->Jl)
  (jm:∀(rn:List Row)(fq fs:Nat->ti)(p:Nat->Option Nat)(C:Nat->Jl)(w':ui)(u1 u2 u3 Py pz wx Kx tw vw u16 Aw zw uw xw qx vv u23 yv Nv ku qu lu nu dw Wv u32 Xv gw px u36 aC u38 dD:ti),tC K rn C fq fs p->uN C i {C i with sent:=[]}=Cf->Si L w0 rn [] w'->Ci prog ji L.R1 L.D1 Stop (G ((base 58).at {tmps:=#[.pointer (yi ⟨K.qb,i*3,Ai⟩),u1,u2,u3,.pointer (yi ⟨K.qb,i*3,Ai⟩),.pointer (yi ⟨K.qb,i*3,Ai⟩),.pointer (yi ⟨K.qb,i*3+1,Ai⟩),.slice sa xs.length sc,.int .i64 xs.length,.int .i64 xs.length,Py,pz,wx,Kx,tw,vw,u16,Aw,zw,uw,xw,qx,vv,u23,yv,Nv,ku,qu,lu,nu,dw,Wv,u32,Xv,gw,px,u36,aC,u38,dD],defers:=[]} [.code j00]) cs) w'):
  ∀(rem j:Nat)(rn:List Row)(fq fs:Nat->ti)(p:Nat->Option Nat)(C:Nat->Jl)(w:ui)(u1 u2 u3 Py pz wx Kx tw vw u16 Aw zw uw xw qx vv u23 yv Nv ku qu lu nu dw Wv u32 Xv gw px u36 aC u38 dD:ti),j+rem=xs.length->tC K rn C fq fs p->(C i).sent=xs->fq (i*3+1)=.slice sa xs.length sc->(C i).wait.length<=4->uN C i {(xs.drop j).foldl Dp (C i)with sent:=[]}=Cf->Si L w0 rn [] w->
   Ci prog ji L.R1 L.D1 Stop (G ((base 58).at {tmps:=#[.pointer (yi ⟨K.qb,i*3,Ai⟩),u1,u2,u3,.pointer (yi ⟨K.qb,i*3,Ai⟩),.pointer (yi ⟨K.qb,i*3,Ai⟩),.pointer (yi ⟨K.qb,i*3+1,Ai⟩),.slice sa xs.length sc,.int .i64 xs.length,.int .i64 j,Py,pz,wx,Kx,tw,vw,u16,Aw,zw,uw,xw,qx,vv,u23,yv,Nv,ku,qu,lu,nu,dw,Wv,u32,Xv,gw,px,u36,aC,u38,dD],defers:=[]} [.code l00,.inLoop l00,.inBlock 0,.code j00]) cs) w:=by
 have hk:(base 58).kind≠.early:=E1;intro rem;induction rem with
 |zero=>
  intro j rn fq fs p C w u1 u2 u3 Py pz wx Kx tw vw u16 Aw zw uw xw qx vv u23 yv Nv ku qu lu nu dw Wv u32 Xv gw px u36 aC u38 dD hj hx hs QX hwl qL hF;obtain rfl:j=xs.length:=E0;refine J8 ?_;refine s9 ?_;refine M8 ?_;refine J8 ?_;refine vd ?_;refine jm rn fq fs p C _ _ _ _ _ _ _ _ _ _ _ _ _ _ _ _ _ _ _ _ _ _ _ _ _ _ _ _ _ _ _ _ _ _ hx ?_ hF;rw[<-qL,List.drop_length];rfl
 |succ rem ih=>
  intro j rn fq fs p C w u1 u2 u3 Py pz wx Kx tw vw u16 Aw zw uw xw qx vv u23 yv Nv ku qu lu nu dw Wv u32 Xv gw px u36 aC u38 dD hj hx hs QX hwl qL hF;have Wi:j<xs.length:=E0;have FC:(j:Int)<(xs.length:Int):=E0;have hwr:IntKind.i64.wrap ((j:Int)+1)=((j+1:Nat):Int):=by rw[IntKind.wrap_i64];omega
  have hc:=hx.ch i yr;have T70:xs.drop j=xs.getD j 0::xs.drop (j+1):=by rw[List.drop_eq_getElem_cons Wi];simp[Wi]
  rw[T70,List.foldl_cons]at qL;have p20:=hc.sent;rw[hs]at p20;obtain⟨ks,r2,s1,s2,s3,s4⟩:=p20.at Wi;rw[QX]at s2;injection s2 with sa1 _ sc1
  subst sa1;subst sc1;clear T70 p20;generalize xs.getD j 0=x at s4 qL;obtain⟨wa,wn,wc,tX⟩:=hc.wait.slice;have TJ:wn=(C i).wait.length:=by
   rcases hc.wait with⟨_,e1,e2⟩|⟨_,_,_,_,_,e1,_⟩
   ·rw[tX]at e1;injection e1 with _ e1 _;rw[e2];exact e1
   ·rw[tX]at e1;injection e1 with _ e1 _
  subst TJ;refine J8 ?_;refine s9 ?_;refine M8 ?_;refine J8 ?_;refine Ci.zk L.Bi Z6 ?_;refine J8 ?_;refine Q9 ?_;refine N8 fun w1 K_ hK hF=>?_;refine I8 ?_ ?_
  ·exact bh
  clear hK K_;refine W9 ?_;refine N8 fun w1 K_ hK hF=>?_;have MF:World.cell? _ ⟨r2.g,j,Ai⟩=yi (.int .i64 x):=(hF.cell s1 s3).trans (by rw[s4]);refine I8 ?_ ?_
  ·refine hF.looks s1 ?_;exact W8
  clear hK K_;clear MF;refine W9 ?_;refine M8 ?_;refine J8 ?_;refine N9 ?_;refine P8 ?_;refine N8 fun w1 K_ hK hF=>?_;refine uh fun MF=>?_;refine I8 ?_ ?_
  ·refine Si.looks (r:=Ko K fq) hF hx.q ?_;exact W8
  clear hK K_;clear MF;refine W9 ?_;refine Y8 ?_;refine J8 ?_;by_cases XC:(C i).wait.length<4
  ·skip;have hpq:Dp (C i) x={C i with wait:=(C i).wait++[x]}:=by unfold Dp;rw[if_pos XC]
   have hde:decide (((C i).wait.length:Int)<4)=true:=by simp;omega
   refine Ci.zk L.Bi D6 ?_;refine J8 ?_;refine .Gi L.Bi [0,1,2,3,4,5,6,7,8,9,10] I0 ?_;refine P9 ?_;refine N8 fun w1 K_ hK hF=>?_;refine uh fun MF=>?_;refine I8 ?_ ?_
   ·refine Si.looks (r:=Ko K fq) hF hx.q ?_;exact W8
   clear hK K_;clear MF;refine W9 ?_;refine M8 ?_;refine N8 fun w1 K_ hK hF=>?_;refine I8 ?_ ?_
   ·refine bf ?_;exact j9
   clear hK K_;have hN:=hF.alloc #[.int .i64 x] 2 (fun _=>.int .i64 x) vm (fun j hj=>by
    have:j=0:=E2;subst this;rfl)
   replace hF:Si L w0 rn [⟨w1.heap.size,1,2,fun _=>.int .i64 x⟩] _:=hN;clear hN;generalize hB:w1.heap.size=B at *;generalize hW:(w1.alloc (.cells #[.int .i64 x] 2))=w3 at *;clear hW hB w1;refine W9 ?_;have hl:=hc.wait;rw[tX]at hl;have hp:p (2*i)≠yi 0:=fun e=>by have:=hx.two _ _ e;omega
   have hn4:(C i).wait.length<=1000000000:=E0;refine N8 fun w1 K_ hK hF=>?_;have hS:(rn++[(⟨B,1,2,fun _=>.int .i64 x⟩:Row)])[rn.length]?=yi ⟨B,1,2,fun _=>.int .i64 x⟩:=kq _;obtain⟨v',Zj,p',w',zu,hK',NW,hT',UL,OG⟩:=Kn.appended hF vm (hl.app _) hS hn4 51;refine uponK_append (.tmp 23) (.tmp 25) 51 rfl rfl rfl zu (hK _ _ ⟨Kn.YG hF (hl.app _) hS hn4 hT' UL (.tmp 23) (.tmp 25) rfl rfl rfl,?_⟩);clear hK K_ zu hT' UL;obtain⟨rows2,p2,yW,pI,hL2,hle,vJ,hpp,hpi⟩:=xA hx.q hp hl hK' NW OG;obtain⟨va,vn,vc,rfl⟩:=NW.slice;clear hK' NW OG hF hS;have hF:=yW;clear yW;refine W9 ?_;refine Y8 ?_;refine N8 fun w1 K_ hK hF=>?_;have Bn:World.frozen? _ ⟨K.qb,i*3,Ai⟩=false:=hF.frozen (r:=Ko K fq) pI (i*3);have MF:World.cell? _ ⟨K.qb,i*3,Ai⟩=yi _:=hF.cell (r:=Ko K fq) pI (j:=i*3) Z4;refine I8 ?_ ?_
   ·refine hF.does (r:=Ko K fq) pI (i*3) _ ?_;exact Wa
   clear hK K_;clear Bn MF;replace hF:=hF.set (r:=Ko K fq) pI (i*3) (.slice va vn vc);refine W9 ?_;have hL3:Qs (rows2.set 0 ((Ko K fq).put (i*3) (.slice va vn vc))) (.slice va vn vc) ((C i).wait++[x]) p2:=hL2.same fun y hy=>Yi (fun e=>hpi (by rw[hy,e])) _;have Iz:=hx.wait (i:=i) yr (Qi pI _) hL3 hpp fun k h1 h2 h3=>by rw[Yi h1];exact vJ k h2 h3
   replace hF:=hF.lay;refine J8 ?_;refine L8 ?_;refine J8 ?_;refine Zf ?_;refine ih (j+1) _ _ _ _ _ _ _ _ _ _ _ _ _ _ _ _ _ _ _ _ _ _ _ _ _ _ _ _ _ _ _ _ _ _ _ _ _ _ _ E0 Iz ?_ ((upd_ne _ _ E0).trans QX) ?_ ?_ hF
   ·rw[Vl];exact hs
   ·rw[Vl];show ((C i).wait++[x]).length<=4;simp;omega
   ·rw[<-qL,Vl,hpq];funext m;unfold uN;split<;>rfl
  ·skip;have hpq:Dp (C i) x={C i with lost:=IntKind.i64.wrap ((C i).lost+1)}:=by unfold Dp;rw[if_neg XC]
   have hde:decide (((C i).wait.length:Int)<4)=false:=by simp;omega
   refine Ci.xk L.Bi D6 ?_;refine J8 ?_;refine Ic ?_;refine P8 ?_;refine N8 fun w1 K_ hK hF=>?_;have MF:World.cell? _ ⟨K.qb,i*3+2,Ai⟩=yi (.int .i64 (C i).lost):=(Si.cell (r:=Ko K fq) hF hx.q (j:=i*3+2) Z4).trans (congrArg yi hc.lost);refine I8 ?_ ?_
   ·refine Si.looks (r:=Ko K fq) hF hx.q ?_;exact W8
   clear hK K_;clear MF;refine W9 ?_;refine P8 ?_;refine N8 fun w1 K_ hK hF=>?_;have Bn:World.frozen? _ ⟨K.qb,i*3+2,Ai⟩=false:=Si.frozen (r:=Ko K fq) hF hx.q (i*3+2);have MF:World.cell? _ ⟨K.qb,i*3+2,Ai⟩=yi _:=Si.cell (r:=Ko K fq) hF hx.q (j:=i*3+2) Z4;refine I8 ?_ ?_
   ·refine Si.does (r:=Ko K fq) hF hx.q (i*3+2) _ ?_;exact Ec
   clear hK K_;clear Bn MF;replace hF:=(Kn.set (r:=Ko K fq) hF.drop hx.q (i*3+2) (.int .i64 (IntKind.i64.wrap ((C i).lost+1)))).lay;refine W9 ?_;have Iz:=hx.cV (i:=i) yr (IntKind.i64.wrap ((C i).lost+1));refine J8 ?_;refine L8 ?_;refine J8 ?_;refine Zf ?_;refine ih (j+1) _ _ _ _ _ _ _ _ _ _ _ _ _ _ _ _ _ _ _ _ _ _ _ _ _ _ _ _ _ _ _ _ _ _ _ _ _ _ _ E0 Iz ?_ ((upd_ne _ _ E0).trans QX) ?_ ?_ hF
   ·rw[Vl];exact hs
   ·rw[Vl];exact hwl
   ·rw[<-qL,Vl,hpq];funext m;unfold uN;split<;>rfl
theorem z90{rn:List Row}{C:Nat->Jl}(vm:((2:Nat)==L.ev)=gi)(yr:i<K.k)(cH:K.k*3<=K.qm)(hN:NR K rn C)(hn:(C i).sent.length<=1000000000)(hwl:(C i).wait.length<=4)(w:ui)(hF:Kn L w0 rn w):
  Xi prog ji L.R1 L.D1 58 #[.pointer (yi ⟨K.qb,i*3,Ai⟩)] w (fun v w'=>v=.tuple #[]/\∃Fp,NR K Fp (uN C i (Js (C i)))/\Kn L w0 Fp w') (fun _ _=>False):=by
 obtain⟨fq,fs,p,hx⟩:=hN E0;replace hF:=hF.lay;have hc:=hx.ch i yr;obtain⟨sa,sn,sc,QX⟩:=hc.sent.slice;have hsn:sn=(C i).sent.length:=by
  rcases hc.sent with⟨_,e1,e2⟩|⟨_,_,_,_,_,e1,_⟩
  ·rw[QX]at e1;injection e1 with _ e1 _;rw[e2];exact e1
  ·rw[QX]at e1;injection e1 with _ e1 _
 subst hsn;have hk:(base 58).kind≠.early:=E1;refine Xi.intro L.Bi #[.pointer (yi ⟨K.qb,i*3,Ai⟩),ri,ri,ri,ri,ri,ri,ri,ri,ri,ri,ri,ri,ri,ri,ri,ri,ri,ri,ri,ri,ri,ri,ri,ri,ri,ri,ri,ri,ri,ri,ri,ri,ri,ri,ri,ri,ri,ri,ri] func58 rfl J0 fun cl cs Stop jm _=>?_;refine J8 ?_;refine N9 ?_;refine P8 ?_;refine N8 fun w1 K_ hK hF=>?_;have MF:World.cell? _ ⟨K.qb,i*3+1,Ai⟩=yi (.slice sa (C i).sent.length sc):=(Si.cell (r:=Ko K fq) hF hx.q (j:=i*3+1) Z4).trans (congrArg yi QX);refine I8 ?_ ?_
 ·refine Si.looks (r:=Ko K fq) hF hx.q ?_;exact W8
 clear hK K_;clear MF;refine W9 ?_;refine Y8 ?_;refine J8 ?_;refine Hh ?_;refine pY vm yr cH hn sa sc _ (uN C i (Js (C i))) (fun rn fq fs p C' w' u1 u2 u3 Py pz wx Kx tw vw u16 Aw zw uw xw qx vv u23 yv Nv ku qu lu nu dw Wv u32 Xv gw px u36 aC u38 dD hx qL hF=>?_) (C i).sent.length 0 rn fq fs p C _ _ _ _ _ _ _ _ _ _ _ _ _ _ _ _ _ _ _ _ _ _ _ _ _ _ _ _ _ _ _ _ _ _ E0 hx rfl QX hwl rfl hF;refine W9 ?_;refine J8 ?_;refine Fb ?_;refine P8 ?_;refine N8 fun w1 K_ hK hF=>?_;have Bn:World.frozen? _ ⟨K.qb,i*3+1,Ai⟩=false:=Si.frozen (r:=Ko K fq) hF hx.q (i*3+1);have MF:World.cell? _ ⟨K.qb,i*3+1,Ai⟩=yi _:=Si.cell (r:=Ko K fq) hF hx.q (j:=i*3+1) Z4;refine I8 ?_ ?_
 ·refine Si.does (r:=Ko K fq) hF hx.q (i*3+1) _ ?_;exact Wa
 clear hK K_;clear Bn MF;replace hF:=Kn.set (r:=Ko K fq) hF.drop hx.q (i*3+1) (.slice Ai 0 0);refine W9 ?_;refine J8 ?_;refine Cd ?_;have Iz:=hx.clear (i:=i) yr;rw[qL]at Iz;exact jm _ [] _ _ rfl (Dj L.Bi I0 _) ⟨rfl,_,fun _=>⟨_,_,_,Iz⟩,hF⟩
end
section
variable {L:km}{w0:ui}{K:Nl}{i:Nat}
theorem Kn.Vv{rows:List Row}{w:ui}{r:Row}{ir o:Nat}(h:Kn L w0 rows w)(hr:rows[ir]?=yi r)(a b c d:ti):
  Kn L w0 (rows.set ir {r with f:=upd (upd (upd (upd r.f o a) (o+1) b) (o+2) c) (o+3) d}) ((((w.setCell ⟨r.g,o,Ai⟩ a).setCell ⟨r.g,o+1,Ai⟩ b).setCell ⟨r.g,o+2,Ai⟩ c).setCell ⟨r.g,o+3,Ai⟩ d)/\∀{es:Array Event},(∀e∈es,∃j wr,e=⟨.cell ⟨r.g,j,Ai⟩,wr,gi⟩)->L.D1 w ((((w.setCell ⟨r.g,o,Ai⟩ a).setCell ⟨r.g,o+1,Ai⟩ b).setCell ⟨r.g,o+2,Ai⟩ c).setCell ⟨r.g,o+3,Ai⟩ d) es:=by
 have s0:=h.set hr o a;have k0:=Qi hr (r.put o a);have s1:=s0.set k0 (o+1) b;have k1:=Qi k0 ((r.put o a).put (o+1) b);have s2:=s1.set k1 (o+2) c;have k2:=Qi k1 (((r.put o a).put (o+1) b).put (o+2) c);have s3:=s2.set k2 (o+3) d;simp only[List.set_set]at s3;refine⟨s3,fun zn=>Kn.tM h hr ?_ ?_ zn⟩
 ·exact(((Kn.Hl h hr o _).trans (Kn.Hl s0 k0 (o+1) _)).trans (Kn.Hl s1 k1 (o+2) _)).trans (Kn.Hl s2 k2 (o+3) _)
 ·exact(Kn.Oq s2 k2 (o+3) _).trans ((Kn.Oq s1 k1 (o+2) _).trans ((Kn.Oq s0 k0 (o+1) _).trans (Kn.Oq h hr o _)))
theorem vU{rn:List Row}{C:Nat->Jl}(yr:i<K.k)(qN:K.k*4<=K.sm)(hN:NR K rn C)(w:ui)(hF:Kn L w0 rn w):
  Xi prog ji L.R1 L.D1 59 #[.pointer (yi ⟨K.sb,i*4,Ai⟩)] w (fun v w'=>v=.tuple #[]/\∃Fp,NR K Fp (uN C i (Tv (C i)))/\Kn L w0 Fp w') (fun _ _=>False):=by
 obtain⟨fq,fs,p,hx⟩:=hN E0;replace hF:=hF.lay;have hc:=hx.ch i yr;have hk:(base 59).kind≠.early:=E1;refine Xi.intro L.Bi #[.pointer (yi ⟨K.sb,i*4,Ai⟩),ri,ri,ri,ri,ri,ri,ri,ri,ri,ri,ri,ri,ri,ri,ri,ri,ri,ri,ri,ri,ri,ri,ri,ri,ri,ri] func59 rfl J0 fun cl cs Stop jm _=>?_;refine J8 ?_;refine rf ?_;refine P8 ?_;refine N8 fun w1 K_ hK hF=>?_;refine Oh fun hc3=>?_;refine I8 ?_ ?_
 ·refine Si.looks (r:=um K fs) hF hx.s ?_;exact W8
 clear hK K_;clear hc3;refine W9 ?_;refine M8 ?_;refine J8 ?_;cases han:(C i).anew
 ·skip;refine Ci.xk L.Bi (by first|rfl|simp[Act.eval,han]) ?_;refine J8 ?_;refine N9 ?_;refine P8 ?_;refine N8 fun w1 K_ hK hF=>?_;refine Ia fun xN=>?_;refine I8 ?_ ?_
  ·refine Si.looks (r:=um K fs) hF hx.s ?_;exact W8
  clear hK K_;clear xN;refine W9 ?_;refine Y8 ?_;refine J8 ?_;by_cases hag:(C i).age=-1
  ·skip;refine Ci.xk L.Bi (by first|rfl|simp[Act.eval,hag]) ?_;refine J8 ?_;refine Cd ?_;have e:Tv (C i)=C i:=by unfold Tv;rw[if_neg (by rw[han];simp),if_pos hag]
   refine jm _ [] _ _ rfl (Dj L.Bi I0 _) ⟨rfl,rn,fun _=>⟨fq,fs,p,?_⟩,hF.drop⟩;rw[e,show uN C i (C i)=C from funext fun m=>by unfold uN;split<;>simp[*]];exact hx
  ·skip;refine Ci.zk L.Bi (by first|rfl|simp[Act.eval,hag]) ?_;refine J8 ?_;refine Ic ?_;refine P8 ?_;refine N8 fun w1 K_ hK hF=>?_;refine Ia fun xN=>?_;refine I8 ?_ ?_
   ·refine Si.looks (r:=um K fs) hF hx.s ?_;exact W8
   clear hK K_;clear xN;refine W9 ?_;refine P8 ?_;refine N8 fun w1 K_ hK hF=>?_;refine Ia fun xN=>?_;have SJ:World.frozen? _ ⟨K.sb,i*4+1,Ai⟩=false:=Si.frozen (r:=um K fs) hF hx.s (i*4+1);refine I8 ?_ ?_
   ·refine Si.does (r:=um K fs) hF hx.s (i*4+1) _ ?_;exact Ec
   clear hK K_;clear xN SJ;replace hF:=Kn.set (r:=um K fs) hF.drop hx.s (i*4+1) (.int .i64 (IntKind.i64.wrap ((C i).age+1)));refine W9 ?_;refine J8 ?_;refine Cd ?_;have e:Tv (C i)={C i with age:=IntKind.i64.wrap ((C i).age+1)}:=by unfold Tv;rw[if_neg (by rw[han];simp),if_neg hag]
   refine jm _ [] _ _ rfl (Dj L.Bi I0 _) ⟨rfl,_,fun _=>⟨fq,upd fs (i*4+1) (.int .i64 (IntKind.i64.wrap ((C i).age+1))),p,?_⟩,hF⟩;rw[e];exact hx.lL (g:=upd fs (i*4+1) (.int .i64 (IntKind.i64.wrap ((C i).age+1)))) yr rfl rfl rfl ((upd_ne _ _ E0).trans hc.shown) (upd_same _ _ _) ((upd_ne _ _ E0).trans hc.En) ((upd_ne _ _ E0).trans hc.anew) fun j hj=>upd_ne _ _ E0
 ·skip;refine Ci.zk L.Bi (by first|rfl|simp[Act.eval,han]) ?_;refine J8 ?_;refine Ic ?_;refine P9 ?_;refine N8 fun w1 K_ hK hF=>?_;refine xh fun MF=>?_;refine I8 ?_ ?_
  ·refine Si.looks (r:=um K fs) hF hx.s ?_;exact W8
  clear hK K_;clear MF;refine W9 ?_;refine Y8 ?_;refine N8 fun w1 K_ hK hF=>?_;have rN:World.cell? _ ⟨K.sb,i*4,Ai⟩=yi (.int .i64 (C i).shown):=(Si.cell (r:=um K fs) hF hx.s (j:=i*4) F4).trans (congrArg yi hc.shown);refine Ia fun xN=>?_;refine xh fun MF=>?_;refine Oh fun hc3=>?_;have hz0:World.frozen? _ ⟨K.sb,i*4,Ai⟩=false:=Si.frozen (r:=um K fs) hF hx.s (i*4);have SJ:World.frozen? _ ⟨K.sb,i*4+1,Ai⟩=false:=Si.frozen (r:=um K fs) hF hx.s (i*4+1);have Bn:World.frozen? _ ⟨K.sb,i*4+2,Ai⟩=false:=Si.frozen (r:=um K fs) hF hx.s (i*4+2);have AH:World.frozen? _ ⟨K.sb,i*4+3,Ai⟩=false:=Si.frozen (r:=um K fs) hF hx.s (i*4+3);refine I8 ?_ ?_
  ·refine(Kn.Vv (r:=um K fs) (o:=i*4) hF.drop hx.s (.int .i64 (C i).En) (.int .i64 0) (.int .i64 0) (.bool gi)).2 ?_;(intro e he;have hm:=mem_listed he;simp[go_sem,N_, *]at hm;rcases hm with rfl|rfl|rfl|rfl<;>exact⟨_,_,rfl⟩)
  clear hK K_;clear rN xN MF hc3 hz0 SJ Bn AH;replace hF:=(Kn.Vv (r:=um K fs) (o:=i*4) hF.drop hx.s (.int .i64 (C i).En) (.int .i64 0) (.int .i64 0) (.bool gi)).1;refine W9 ?_;refine J8 ?_;refine Cd ?_;have e:Tv (C i)={C i with shown:=(C i).En,age:=0,En:=0,anew:=gi}:=by unfold Tv;rw[if_pos han]
  refine jm _ [] _ _ rfl (Dj L.Bi I0 _) ⟨rfl,_,fun _=>⟨fq,upd (upd (upd (upd fs (i*4) (.int .i64 (C i).En)) (i*4+1) (.int .i64 0)) (i*4+2) (.int .i64 0)) (i*4+3) (.bool gi),p,?_⟩,hF⟩;rw[e];refine hx.lL yr rfl rfl rfl ?_ ?_ ?_ ?_ fun j hj=>?_
  ·show upd (upd (upd (upd fs (i*4) _) (i*4+1) _) (i*4+2) _) (i*4+3) _ (i*4)=_;rw[upd_ne _ _ E0,upd_ne _ _ E0,upd_ne _ _ E0,upd_same]
  ·show upd (upd (upd (upd fs (i*4) _) (i*4+1) _) (i*4+2) _) (i*4+3) _ (i*4+1)=_;rw[upd_ne _ _ E0,upd_ne _ _ E0,upd_same]
  ·show upd (upd (upd (upd fs (i*4) _) (i*4+1) _) (i*4+2) _) (i*4+3) _ (i*4+2)=_;rw[upd_ne _ _ E0,upd_same]
  ·show upd (upd (upd (upd fs (i*4) _) (i*4+1) _) (i*4+2) _) (i*4+3) _ (i*4+3)=_;rw[upd_same]
  ·show upd (upd (upd (upd fs (i*4) _) (i*4+1) _) (i*4+2) _) (i*4+3) _ j=_;rw[upd_ne _ _ E0,upd_ne _ _ E0,upd_ne _ _ E0,upd_ne _ _ E0]
end
noncomputable def TU:Code:=match Tryz.f32.body with
 |some (.seq (.seq _ (.block _ (.loop c))) _)=>c
 |_=>.skip
noncomputable def L_:Code:=match Tryz.f32.body with
 |some (.seq _ c)=>c
 |_=>.skip
noncomputable def KU:Code:=match Tryz.f32.body with
 |some (.seq _ (.seq _ (.block _ (.loop c))))=>c
 |_=>.skip
section
variable {L:km}{w0:ui}{K:Nl}{cq lS:Nat}
theorem H_(vm:((2:Nat)==L.ev)=gi)(hW:zF L w0 K)(Vw:0<K.k)(n1:w0.cell? ⟨K.nb,1,Ai⟩=yi (.slice (yi ⟨K.qb,0,Ai⟩) K.k cq)){C:Nat->Jl}(hl:∀i,i<K.k->(C i).sent.length<=1000000000/\(C i).wait.length<=4){Stop:Goroutine->ui->Prop}(cs:List Frame)
  (jm:∀(rn:List Row)(w':ui)(u1 u2 u3 Py pz wx Kx tw vw u16 Aw zw uw xw qx vv u23 yv Nv ku qu lu nu dw Wv u32 Xv gw px:ti),NR K rn (Ft K.k Js C)->Si L w0 rn [] w'->Ci prog ji L.R1 L.D1 Stop (G ((base 32).at {tmps:=#[.pointer (yi ⟨K.nb,0,Ai⟩),u1,u2,u3,.pointer (yi ⟨K.nb,0,Ai⟩),.pointer (yi ⟨K.nb,0,Ai⟩),.pointer (yi ⟨K.nb,1,Ai⟩),.slice (yi ⟨K.qb,0,Ai⟩) K.k cq,.int .i64 K.k,.int .i64 K.k,Py,pz,wx,Kx,tw,vw,u16,Aw,zw,uw,xw,qx,vv,u23,yv,Nv,ku,qu,lu,nu,dw,Wv,u32,Xv,gw,px],defers:=[]} [.code L_]) cs) w'):
  ∀(rem i:Nat)(rn:List Row)(w:ui)(u1 u2 u3 Py pz wx Kx tw vw u16 Aw zw uw xw qx vv u23 yv Nv ku qu lu nu dw Wv u32 Xv gw px:ti),i+rem=K.k->NR K rn (Ft i Js C)->Si L w0 rn [] w->
   Ci prog ji L.R1 L.D1 Stop (G ((base 32).at {tmps:=#[.pointer (yi ⟨K.nb,0,Ai⟩),u1,u2,u3,.pointer (yi ⟨K.nb,0,Ai⟩),.pointer (yi ⟨K.nb,0,Ai⟩),.pointer (yi ⟨K.nb,1,Ai⟩),.slice (yi ⟨K.qb,0,Ai⟩) K.k cq,.int .i64 K.k,.int .i64 i,Py,pz,wx,Kx,tw,vw,u16,Aw,zw,uw,xw,qx,vv,u23,yv,Nv,ku,qu,lu,nu,dw,Wv,u32,Xv,gw,px],defers:=[]} [.code TU,.inLoop TU,.inBlock 0,.code L_]) cs) w:=by
 have hk:(base 32).kind≠.early:=E1;have hk8:=hW.hk;intro rem;induction rem with
 |zero=>
  intro i rn w u1 u2 u3 Py pz wx Kx tw vw u16 Aw zw uw xw qx vv u23 yv Nv ku qu lu nu dw Wv u32 Xv gw px hi hN hF;obtain rfl:i=K.k:=E0;refine J8 ?_;refine s9 ?_;refine M8 ?_;refine J8 ?_;refine vd ?_;exact jm rn _ _ _ _ _ _ _ _ _ _ _ _ _ _ _ _ _ _ _ _ _ _ _ _ _ _ _ _ _ _ hN hF
 |succ rem ih=>
  intro i rn w u1 u2 u3 Py pz wx Kx tw vw u16 Aw zw uw xw qx vv u23 yv Nv ku qu lu nu dw Wv u32 Xv gw px hi hN hF;have Wi:i<K.k:=E0;have FC:(i:Int)<(K.k:Int):=E0;have hwr:IntKind.i64.wrap ((i:Int)+1)=((i+1:Nat):Int):=by rw[IntKind.wrap_i64];omega
  refine J8 ?_;refine s9 ?_;refine M8 ?_;refine J8 ?_;refine Ci.zk L.Bi Z6 ?_;refine J8 ?_;refine L8 ?_;refine J8 ?_;refine ga ?_;refine P8 ?_;refine N8 fun w1 K_ hK hF=>?_;have KA:World.cell? _ ⟨K.nb,1,Ai⟩=yi (.slice (yi ⟨K.qb,0,Ai⟩) K.k cq):=(hF.nj hW.sn).trans n1;refine I8 ?_ ?_
  ·refine hF.Aj hW.sn ?_;exact W8
  clear hK K_;clear KA;refine W9 ?_;refine M8 ?_;refine N8 fun w1 K_ hK hF=>?_;refine I8 ?_ ?_
  ·exact bh
  clear hK K_;refine W9 ?_;refine Ci.Bv L.Bi rfl I0 hk rfl func58 I0 rfl #[.pointer (yi ⟨K.qb,i*3,Ai⟩)] J0 (z90 vm Wi hW.cH hN (by rw[dA];exact(hl i Wi).1) (by rw[dA];exact(hl i Wi).2) _ hF.drop) ?_ (fun _ _ _ h=>h.elim);rintro v w2 ⟨rfl,rn2,hN2,ql⟩;rw[dA,<-xF]at hN2;replace hF:=ql.lay;clear ql;refine W9 ?_;refine J8 ?_;refine L8 ?_;refine J8 ?_;refine Zf ?_;exact ih (i+1) rn2 _ _ _ _ _ _ _ _ _ _ _ _ _ _ _ _ _ _ _ _ _ _ _ _ _ _ _ _ _ _ E0 hN2 hF
theorem J00(hW:zF L w0 K)(Vw:0<K.k)(n2:w0.cell? ⟨K.nb,2,Ai⟩=yi (.slice (yi ⟨K.sb,0,Ai⟩) K.k lS)){C:Nat->Jl}{Stop:Goroutine->ui->Prop}(cs:List Frame)
  (jm:∀(a:Act)(todo:List Item)(w':ui)(v:ti),a.defers=[]->qp prog L.R1 L.D1 32 Tryz.f32 a.tmps w' v->(v=.tuple #[]/\∃Fp,NR K Fp (Ft K.k Tv C)/\Kn L w0 Fp w')->Ci prog ji L.R1 L.D1 Stop (G {(base 32).at a todo with mode:=.returning} cs) w'):
  ∀(rem i:Nat)(rn:List Row)(w:ui)(u1 u2 u3 u4 u5 u6 u7 u8 u9 Py pz wx Kx tw vw u16 Aw zw uw ku qu lu nu dw Wv u32 Xv gw px:ti),i+rem=K.k->NR K rn (Ft i Tv C)->Si L w0 rn [] w->
   Ci prog ji L.R1 L.D1 Stop (G ((base 32).at {tmps:=#[.pointer (yi ⟨K.nb,0,Ai⟩),u1,u2,u3,u4,u5,u6,u7,u8,u9,Py,pz,wx,Kx,tw,vw,u16,Aw,zw,uw,.pointer (yi ⟨K.nb,0,Ai⟩),.pointer (yi ⟨K.nb,0,Ai⟩),.pointer (yi ⟨K.nb,2,Ai⟩),.slice (yi ⟨K.sb,0,Ai⟩) K.k lS,.int .i64 K.k,.int .i64 i,ku,qu,lu,nu,dw,Wv,u32,Xv,gw,px],defers:=[]} [.code KU,.inLoop KU,.inBlock 2]) cs) w:=by
 have hk:(base 32).kind≠.early:=E1;have hk8:=hW.hk;intro rem;induction rem with
 |zero=>
  intro i rn w u1 u2 u3 u4 u5 u6 u7 u8 u9 Py pz wx Kx tw vw u16 Aw zw uw ku qu lu nu dw Wv u32 Xv gw px hi hN hF;obtain rfl:i=K.k:=E0;refine J8 ?_;refine s9 ?_;refine M8 ?_;refine J8 ?_;refine vd ?_;refine J8 ?_;refine Cd ?_;exact jm _ [] _ _ rfl (Dj L.Bi I0 _) ⟨rfl,rn,hN,hF.drop⟩
 |succ rem ih=>
  intro i rn w u1 u2 u3 u4 u5 u6 u7 u8 u9 Py pz wx Kx tw vw u16 Aw zw uw ku qu lu nu dw Wv u32 Xv gw px hi hN hF;have Wi:i<K.k:=E0;have FC:(i:Int)<(K.k:Int):=E0;have hwr:IntKind.i64.wrap ((i:Int)+1)=((i+1:Nat):Int):=by rw[IntKind.wrap_i64];omega
  refine J8 ?_;refine s9 ?_;refine M8 ?_;refine J8 ?_;refine Ci.zk L.Bi Z6 ?_;refine J8 ?_;refine L8 ?_;refine J8 ?_;refine ga ?_;refine P8 ?_;refine N8 fun w1 K_ hK hF=>?_;have hn2:World.cell? _ ⟨K.nb,2,Ai⟩=yi (.slice (yi ⟨K.sb,0,Ai⟩) K.k lS):=(hF.nj hW.sn).trans n2;refine I8 ?_ ?_
  ·refine hF.Aj hW.sn ?_;exact W8
  clear hK K_;clear hn2;refine W9 ?_;refine M8 ?_;refine N8 fun w1 K_ hK hF=>?_;refine I8 ?_ ?_
  ·exact bh
  clear hK K_;refine W9 ?_;refine Ci.Bv L.Bi rfl I0 hk rfl func59 I0 rfl #[.pointer (yi ⟨K.sb,i*4,Ai⟩)] J0 (vU Wi hW.qN hN _ hF.drop) ?_ (fun _ _ _ h=>h.elim);rintro v w2 ⟨rfl,rn2,hN2,ql⟩;rw[dA,<-xF]at hN2;replace hF:=ql.lay;clear ql;refine W9 ?_;refine J8 ?_;refine L8 ?_;refine J8 ?_;refine Zf ?_;exact ih (i+1) rn2 _ _ _ _ _ _ _ _ _ _ _ _ _ _ _ _ _ _ _ _ _ _ _ _ _ _ _ _ _ _ E0 hN2 hF
theorem XQ(vm:((2:Nat)==L.ev)=gi)(hW:zF L w0 K)(Vw:0<K.k){rn:List Row}{C:Nat->Jl}(hl:∀i,i<K.k->(C i).sent.length<=1000000000/\(C i).wait.length<=4)(hN:NR K rn C)(w:ui)(hF:Kn L w0 rn w):
  Xi prog ji L.R1 L.D1 32 #[.pointer (yi ⟨K.nb,0,Ai⟩)] w (fun v w'=>v=.tuple #[]/\∃Fp,NR K Fp (VD K.k C)/\Kn L w0 Fp w') (fun _ _=>False):=by
 obtain⟨cq,n1⟩:=hW.n1 Vw;obtain⟨lS,n2⟩:=hW.n2 Vw;replace hF:=hF.lay;have hk:(base 32).kind≠.early:=E1;refine Xi.intro L.Bi #[.pointer (yi ⟨K.nb,0,Ai⟩),ri,ri,ri,ri,ri,ri,ri,ri,ri,ri,ri,ri,ri,ri,ri,ri,ri,ri,ri,ri,ri,ri,ri,ri,ri,ri,ri,ri,ri,ri,ri,ri,ri,ri,ri] func32 rfl J0 fun cl cs Stop jm _=>?_;refine J8 ?_;refine N9 ?_;refine P8 ?_;refine N8 fun w1 K_ hK hF=>?_;have KA:World.cell? _ ⟨K.nb,1,Ai⟩=yi (.slice (yi ⟨K.qb,0,Ai⟩) K.k cq):=(hF.nj hW.sn).trans n1;refine I8 ?_ ?_
 ·refine hF.Aj hW.sn ?_;exact W8
 clear hK K_;clear KA;refine W9 ?_;refine Y8 ?_;refine J8 ?_;refine Hh ?_;refine H_ vm hW Vw n1 hl _ (fun rn w' u1 u2 u3 Py pz wx Kx tw vw u16 Aw zw uw xw qx vv u23 yv Nv ku qu lu nu dw Wv u32 Xv gw px hN hF=>?_) K.k 0 rn _ _ _ _ _ _ _ _ _ _ _ _ _ _ _ _ _ _ _ _ _ _ _ _ _ _ _ _ _ _ E0 (by rw[bF];exact hN) hF;refine W9 ?_;refine J8 ?_;refine N9 ?_;refine P8 ?_;refine N8 fun w1 K_ hK hF=>?_;have hn2:World.cell? _ ⟨K.nb,2,Ai⟩=yi (.slice (yi ⟨K.sb,0,Ai⟩) K.k lS):=(hF.nj hW.sn).trans n2;refine I8 ?_ ?_
 ·refine hF.Aj hW.sn ?_;exact W8
 clear hK K_;clear hn2;refine W9 ?_;refine Y8 ?_;refine J8 ?_;refine Hh ?_;exact J00 hW Vw n2 _ jm K.k 0 rn _ _ _ _ _ _ _ _ _ _ _ _ _ _ _ _ _ _ _ _ _ _ _ _ _ _ _ _ _ _ E0 (by rw[bF];exact hN) hF
end
structure fF where
 n:Nat
 ci:Nat->Int
 num:Int
 fr:Nat->Int
 ins:List (Int×Int)
def Fo(p:fF):Nat->(Nat->Int)->(Nat->Jl)->List ti×Int×(Nat->Int)×(Nat->Jl)
 |0,z,C=>([],2,z,C)
 |k+1,z,C=>match jk p.n p.ci p.ins z C with
  |.on op e z' C'=>if op=0 then ((TB.on op e z' C').sent,1,z',C')else ((TB.on op e z' C').sent++(Fo p k z' C').1,(Fo p k z' C').2)
  |.Xk y z'=>([au y (Uk z' 47)],3,Uk z',Rn p.fr p.num C)
def XE(p:fF)(k:Nat)(z:Nat->Int)(C:Nat->Jl)(vs:List ti):List Value:=match jk p.n p.ci p.ins z C with
 |.on op _ z' C'=>if op=0 then vs else (Fo p k z' C').1++vs
 |.Xk y z'=>au y (Uk z' 47)::vs
theorem XZ(p:fF)(k:Nat)(z:Nat->Int)(C:Nat->Jl)(vs:List ti):(Fo p (k+1) z C).1++vs=(jk p.n p.ci p.ins z C).sent++XE p k z C vs:=by
 unfold XE;simp only[Fo];cases jk p.n p.ci p.ins z C with
 |on op e z' C'=>
  by_cases h:op=0
  ·simp[h]
  ·simp[h,List.append_assoc]
 |Xk y z'=>rfl
theorem MU{p:fF}{kc:Nat}(gl:uq p.n kc p.ci):∀(k b:Nat)(z:Nat->Int)(C:Nat->Jl),Fv p.n z->qq kc b C->Fv p.n (Fo p k z C).2.2.1/\qq kc (b+k) (Fo p k z C).2.2.2
 |0,_,_,_,h,hl=>⟨h,hl⟩
 |k+1,b,z,C,h,hl=>by
  have:=Hz (ins:=p.ins) gl h hl;simp only[Fo];revert this;cases jk p.n p.ci p.ins z C with
  |on op e z' C'=>
   rintro⟨hz,hc⟩;by_cases h0:op=0
   ·simp only[h0,if_true];exact⟨hz,hc.le E0⟩
   ·simp only[h0,if_false];have:=MU gl k (b+1) z' C' hz hc;exact⟨this.1,this.2.le E0⟩
  |Xk y z'=>exact fun hz=>⟨m00 hz,(hl.forget _ _).le E0⟩
def uy(p:fF)(budget:Nat)(z:Nat->Int)(C:Nat->Jl):List ti×Int×(Nat->Int)×(Nat->Jl):=if z 3<z 47 then ([],4,z,C)else Fo p budget z C
def lj(p:fF)(budget:Nat)(z:Nat->Int)(C:Nat->Jl):List ti×(Nat->Int)×(Nat->Jl):=
 ((uy p budget z C).1++[Ho (IntKind.i64.wrap ((uy p budget z C).2.2.1 46-z 46)) (uy p budget z C).2.1],(uy p budget z C).2.2)
theorem ZA{p:fF}{kc:Nat}(gl:uq p.n kc p.ci)(budget:Nat){b:Nat}{z:Nat->Int}{C:Nat->Jl}(hz:Fv p.n z)(hl:qq kc b C):Fv p.n (lj p budget z C).2.1/\qq kc (b+budget) (lj p budget z C).2.2:=by
 show Fv p.n (uy p budget z C).2.2.1/\qq kc (b+budget) (uy p budget z C).2.2.2;unfold uy;split
 ·exact⟨hz,hl.le E0⟩
 ·exact MU gl budget b z C hz hl
section
variable {L:km}{w0:ui}{rows rows2:List Row}{ic g nb:Nat}{num:Int}{code:ti}{z:Nat->Int}
theorem QC(zy:rows[ic]?=yi (Ri g num (.pointer (yi ⟨nb,0,Ai⟩)) code z))(hi:rows2[ic]?=yi (Ri g num (.pointer (yi ⟨nb,0,Ai⟩)) code z))(hfg:∀w,Kn L w0 rows w->Xi prog gi L.R1 L.D1 125 #[.pointer (yi ⟨nb,0,Ai⟩),.int .i64 num] w (fun _ w'=>Kn L w0 rows2 w') (fun _ _=>False))(w:ui)(hF:Kn L w0 rows w):
  Xi prog gi L.R1 L.D1 112 #[.pointer (yi ⟨g,0,Ai⟩)] w (fun _ w'=>Kn L w0 (rows2.set ic (Ri g num (.pointer (yi ⟨nb,0,Ai⟩)) code (Uk z))) w') (fun _ _=>False):=by
 replace hF:=hF.lay;have hk:(base 112).kind≠.early:=E1;refine Xi.intro L.Bi #[.pointer (yi ⟨g,0,Ai⟩),ri,ri,ri,ri,ri,ri,ri,ri,ri,ri,ri,ri,ri,ri,ri,ri,ri,ri,ri,ri,ri,ri,ri,ri] func112 rfl J0 fun cl cs Stop jm _=>?_;refine J8 ?_;refine Ci.Ym (S:=Si L w0 rows []) (Die:=fun _ _=>False) L.Bi L.Wm 9 I0 hk J0 (fun _ _ _ h=>h) (fun _ _ _ h=>h.elim) fun w1 hR=>?_;replace hF:=(hF.rely hR).rely (Turn.drew _);clear hR;refine Q8 ?_;refine S9 ?_;refine aj L.Bi 3 rfl (fun _ _ h r=>Si.rely h r) hF ?_ fun _ hw=>⟨run_eq_of (by
  intro K_ hK;have hc:World.cell? _ ⟨g,1,Ai⟩=yi (.pointer (yi ⟨nb,0,Ai⟩)):=hw.cell zy (show 1<48 by omega);go_simp;exact hK),by
  have hc:World.cell? _ ⟨g,1,Ai⟩=yi (.pointer (yi ⟨nb,0,Ai⟩)):=hw.cell zy (show 1<48 by omega);refine hw.looks zy ?_;co_evs (exact⟨_,rfl⟩)⟩
 refine y9 ?_;refine Ba ?_;refine W9 ?_;refine Ii L.Bi 6 (fun _ _ h r=>Si.rely h r) hF ?_;refine W9 ?_;refine aj L.Bi 7 rfl (fun _ _ h r=>Si.rely h r) hF ?_ fun _ hw=>⟨run_eq_of (by
  intro K_ hK;have hc:World.cell? _ ⟨g,0,Ai⟩=yi (.int .i64 num):=hw.cell zy (show 0<48 by omega);go_simp;exact hK),by
  have hc:World.cell? _ ⟨g,0,Ai⟩=yi (.int .i64 num):=hw.cell zy (show 0<48 by omega);refine hw.looks zy ?_;co_evs (exact⟨_,rfl⟩)⟩
 refine W9 ?_;refine Rl (i:=8) T0 rfl I0 rfl func125 I0 rfl #[.pointer (yi ⟨nb,0,Ai⟩),.int .i64 num] J0 (hfg _ hF.drop) ?_;intro v w2 ql;replace hF:Si L w0 rows2 [] w2:=Kn.lay ql;clear ql;refine⟨.inr (zl rfl T0),?_⟩;refine H9 ?_;refine J8 ?_;replace hF:=hF.drop;refine Ic ?_;refine P9 ?_;refine Ci.op rfl I0 hk ?_;intro w1 hR K_ hK;replace hF:=hF.rely hR;clear hR;have hsz:(prog.info? 184).map (·.size)=yi (yp z).length:=by rw[Jq];exact MA
 rw[eM (b:=g) (off:=4) rfl rfl (yp z) _ (ZC hF hi) underlying184 rfl hsz];refine hK _ _ ⟨?_,?_⟩
 ·refine hF.JU hi (.refl _) rfl fun e he=>?_;exact lQ (b:=g) (off:=4) rfl rfl (yp z) _ (ZC hF hi) underlying184 rfl hsz e (mem_listed he)
 clear hK K_;refine W9 ?_;refine Y8 ?_;refine Ci.op rfl I0 hk ?_;intro w1 hR K_ hK;replace hF:=hF.rely hR;clear hR;have Ks:(prog.info? 184).map (·.size)=yi (yp z).toArray.size:=by rw[List.size_toArray,Jq];exact MA
 have nR:=all_oneCell_toArray (MR z);have Nk:=(hF.row ic _ hi).rw.row;have hth:w1.there g 25 (yp z).toArray.size:=fun j hj=>by
  rw[List.size_toArray,Jq]at hj;exact⟨by rw[Nk.cell (j:=25+j) (show 25+j<48 by omega)];rfl,Nk.frozen _⟩
 obtain⟨ql,ht2,MF⟩:=Kn.setCells (yp z) 25 _ _ _ hF hi;rw[OI (b:=g) (off:=25) rfl rfl (yp z).toArray rfl hth Ks nR];refine hK _ _ ⟨?_,?_⟩
 ·refine hF.JU hi ht2 MF fun e he=>?_;exact aM (b:=g) (off:=25) rfl rfl (yp z).toArray rfl 48 _ _ Nk (by rw[List.size_toArray,Jq];omega) Ks nR e (mem_listed he)
 clear hK K_ hth Nk nR Ks ht2 MF;replace hF:Kn L w0 (rows2.set ic (Ri g num (.pointer (yi ⟨nb,0,Ai⟩)) code (tA z))) _:=ql.congr hi rfl rfl rfl fun j _=>E30 j;clear ql;refine W9 ?_;replace hF:=hF.lay;refine J8 ?_;refine Ic ?_;refine P8 ?_;refine N8 fun w1 K_ hK hF=>?_;have hc:World.cell? _ ⟨g,47,Ai⟩=yi (.int .i64 (tA z 47)):=Si.cz hi hF E0 E0;rw[show tA z 47=z 47 from rfl]at hc;refine I8 ?_ ?_
 ·refine Xg ?_;exact W8
 clear hK K_;clear hc;refine W9 ?_;refine P8 ?_;refine N8 fun w1 K_ hK hF=>?_;have hc:World.cell? _ ⟨g,47,Ai⟩=yi (.int .i64 (tA z 47)):=Si.cz hi hF E0 E0;rw[show tA z 47=z 47 from rfl]at hc;have Bn:World.frozen? _ ⟨g,47,Ai⟩=false:=Si.XI hi hF 47;refine I8 ?_ ?_
 ·refine Si.Hq hi hF 47 _ ?_;exact Ec
 clear hK K_;clear hc Bn;replace hF:=Si.yu hi hF (j:=47) E0 (IntKind.i64.wrap (z 47+1));refine W9 ?_;refine J8 ?_;refine Cd ?_;refine jm _ _ _ _ rfl (Dj L.Bi I0 _) ?_;have e:Ji (tA z) 47 (IntKind.i64.wrap (z 47+1))=Uk z:=funext fun j=>gX z j;rw[e]at hF;exact hF.drop
end
section
variable {L:km}{w0:ui}{rn ls:List Row}{K:Nl}{C:Nat->Jl}{g:Nat}{num:Int}{code:ti}{z:Nat->Int}
theorem yP(he:Evs L)(hW:zF L w0 K)(hN:NR K rn C)(w:ui)(hF:Si L w0 (bk K g num code z::rn) ls w):
  Xi prog gi L.R1 L.D1 112 #[.pointer (yi ⟨g,0,Ai⟩)] w (fun _ w'=>∃Fp,NR K Fp (Rn K.fr num C)/\Si L w0 (bk K g num code (Uk z)::Fp) ls w') (fun _ _=>False):=by
 obtain⟨a,ce,n0,ha⟩:=hW.n0;by_cases Vw:K.k=0
 ·refine(QC (rows:=(bk K g num code z::rn)++ls) (rows2:=(bk K g num code z::rn)++ls) (ic:=0) rfl rfl (fun w hF=>V20 a ce hW.sn (by rw[n0,Vw]) num w hF) w hF).to fun v w' h=>⟨rn,fun h0=>absurd h0 E0,h⟩
 ·have hk:0<K.k:=by omega
  have ha:=ha hk;subst ha;obtain⟨fq,fs,p,hx⟩:=hN hk;obtain⟨cq,n1⟩:=hW.n1 hk;obtain⟨lS,n2⟩:=hW.n2 hk;have l0:=(List.getElem?_eq_some_iff.1 hx.q).1;have l1:=(List.getElem?_eq_some_iff.1 hx.s).1;have q1:((bk K g num code z::rn)++ls)[1]?=yi (Ko K fq):=by
   exact Oe
  have s1:((bk K g num code z::rn)++ls)[2]?=yi (um K fs):=by
   exact Pe
  have hfx:=hx.forget num;have e2:dr ((bk K g num code z::rn)++ls) 1 2 (Ko K fq) (um K fs) K.fr num K.k=(bk K g num code z::((rn.set 0 ((Ko K fq).Xm K.fr num K.k)).set 1 ((um K fs).Vm K.fr num K.k)))++ls:=by
   unfold dr;rw[List.set_append_left _ _ A1,List.set_append_left _ _ A1];rfl
  refine(QC (rows:=(bk K g num code z::rn)++ls) (rows2:=dr ((bk K g num code z::rn)++ls) 1 2 (Ko K fq) (um K fs) K.fr num K.k) (ic:=0) rfl (by rw[e2];rfl) (fun w hF=>(MY (iq:=1) (is:=2) he.ends q1 s1 E0 hW.cH hW.qN hW.sn n0 n1 n2 (hW.se hk) hW.e0 hW.e1 hW.hk w hF).to fun v w' h=>h.2) w hF).to fun v w' h=>?_;rw[e2]at h;exact⟨_,fun _=>⟨_,_,_,hfx⟩,h⟩
end
section
variable {L:km}{w0:ui}{rn:List Row}{K:Nl}{C:Nat->Jl}{g p c y:Nat}{num:Int}{code:ti}{z:Nat->Int}
theorem LV{FS:ui->Prop}{vs:List ti}{fr:Frame}{cs:List Frame}(he:Evs L)(hW:zF L w0 K)(hN:NR K rn C)(why v0:Int)(hm:fr.mode=.panicking (brk why))(hd:fr.defers=[P50 p c y])(w:ui)(hF:Si L w0 (bk K g num code z::rn) (fG L g p c y v0) w)
  (h:∀Fp w',NR K Fp (Rn K.fr num C)->Si L w0 (bk K g num code (Uk z)::Fp) (fG L g p c y 3) w'->Ci prog gi L.R1 L.D1 (StopB prog L.c L.R1 L.D1 L.SL FS vs) (G {fr with defers:=[],mode:=.returning} cs) w'):
  Ci prog gi L.R1 L.D1 (StopB prog L.c L.R1 L.D1 L.SL FS (au why (Uk z 47)::vs)) (G fr cs) w:=by
 have hk:(baseD 111).kind≠.early:=by simp[baseD]
 refine Ac ?_;refine J8 ?_;refine ga ?_;refine Ci.XO L.Bi rfl I0 rfl rfl hm ?_;refine W9 ?_;refine N8 fun w1 K_ hK hF=>?_;refine I8 ?_ ?_
 ·exact xd
 clear hK K_;refine W9 ?_;refine fe ?_;refine J8 ?_;refine s9 ?_;refine M8 ?_;refine J8 ?_;refine T9 ?_;refine J8 ?_;refine Yb ?_;refine N8 fun w1 K_ hK hF=>?_;have hc:World.cell? _ ⟨p,0,Ai⟩=yi (.pointer (yi ⟨g,0,Ai⟩)):=hF.l1 (k:=0) rfl;refine I8 ?_ ?_
 ·refine V9 ?_;exact W8
 clear hK K_;clear hc;refine W9 ?_;refine Ci.Bv L.Bi rfl I0 hk rfl func112 I0 rfl #[.pointer (yi ⟨g,0,Ai⟩)] J0 (yP he hW hN _ hF) ?_ (fun _ _ _ h=>h.elim);rintro v w2 ⟨rn1,hN1,ql⟩;replace hF:=ql;clear ql;refine W9 ?_;refine J8 ?_;refine Ci.eR (S:=Si L w0 (bk K g num code (Uk z)::rn1) (fG L g p c y v0)) L.Bi L.Wm 8 I0 hk J0 ?_;intro w1 hR;replace hF:=(hF.rely hR).rely (Turn.drew _);clear hR;co_applyP sj L.Bi (fun _ _ _ _ h r=>⟨h.1,h.2.rely L.Bi.trans r⟩) (fun _ _ h r=>Si.rely h r) ?QK (i:=0) rfl T0 T0 T0 T0 (.inl ⟨I0,fun _ hw=>⟨run_eq_of ?zx,?qC⟩⟩) hF ?AU
 case QK=>exact fun _ _ _ h r=>Ci.rely L.Bi.trans h r
 case zx=>
  intro K_ hK;have hc:World.cell? _ ⟨c,0,Ai⟩=yi (.chan (yi L.c)):=hw.l1 (k:=1) rfl;exact kg
 case qC=>
  have hc:World.cell? _ ⟨c,0,Ai⟩=yi (.chan (yi L.c)):=hw.l1 (k:=1) rfl;refine hw.vk (k:=1) rfl ?_;exact W8
 refine W9 ?_;co_applyP sj L.Bi (fun _ _ _ _ h r=>⟨h.1,h.2.rely L.Bi.trans r⟩) (fun _ _ h r=>Si.rely h r) ?iM (i:=1) rfl T0 T0 T0 T0 (.inl ⟨I0,fun _ hw=>⟨run_eq_of ?mB,?xC⟩⟩) hF ?PU
 case iM=>exact fun _ _ _ h r=>Ci.rely L.Bi.trans h r
 case mB=>
  exact Nc
 case xC=>
  exact Cb
 refine W9 ?_;co_applyP sj L.Bi (fun _ _ _ _ h r=>⟨h.1,h.2.rely L.Bi.trans r⟩) (fun _ _ h r=>Si.rely h r) ?CM (i:=2) rfl T0 T0 T0 T0 (.inl ⟨I0,fun _ hw=>⟨run_eq_of ?wE,?NB⟩⟩) hF ?GU
 case CM=>exact fun _ _ _ h r=>Ci.rely L.Bi.trans h r
 case wE=>
  intro K_ hK;have hc:World.cell? _ ⟨p,0,Ai⟩=yi (.pointer (yi ⟨g,0,Ai⟩)):=hw.l1 (k:=0) rfl;exact kg
 case NB=>
  have hc:World.cell? _ ⟨p,0,Ai⟩=yi (.pointer (yi ⟨g,0,Ai⟩)):=hw.l1 (k:=0) rfl;refine hw.vk (k:=0) rfl ?_;exact W8
 refine W9 ?_;co_applyP sj L.Bi (fun _ _ _ _ h r=>⟨h.1,h.2.rely L.Bi.trans r⟩) (fun _ _ h r=>Si.rely h r) ?BM (i:=3) rfl T0 T0 T0 T0 (.inl ⟨I0,fun _ hw=>⟨run_eq_of ?MD,?aD⟩⟩) hF ?XU
 case BM=>exact fun _ _ _ h r=>Ci.rely L.Bi.trans h r
 case MD=>
  exact Nc
 case aD=>
  exact Cb
 refine W9 ?_;co_applyP sj L.Bi (fun _ _ _ _ h r=>⟨h.1,h.2.rely L.Bi.trans r⟩) (fun _ _ h r=>Si.rely h r) ?nM (i:=4) rfl T0 T0 T0 T0 (.inl ⟨I0,fun _ hw=>⟨run_eq_of ?ZG,?JB⟩⟩) hF ?uV
 case nM=>exact fun _ _ _ h r=>Ci.rely L.Bi.trans h r
 case ZG=>
  exact Nc
 case JB=>
  exact Cb
 refine W9 ?_;co_applyP sj L.Bi (fun _ _ _ _ h r=>⟨h.1,h.2.rely L.Bi.trans r⟩) (fun _ _ h r=>Si.rely h r) ?IL (i:=5) rfl T0 T0 T0 T0 (.inl ⟨I0,fun _ hw=>⟨run_eq_of ?vM,?OB⟩⟩) hF ?aV
 case IL=>exact fun _ _ _ h r=>Ci.rely L.Bi.trans h r
 case vM=>
  intro K_ hK;have hc:World.cell? _ ⟨g,47,Ai⟩=yi (.int .i64 (Uk z 47)):=Si.gp (ic:=0) hw rfl E0 E0;exact kg
 case OB=>
  have hc:World.cell? _ ⟨g,47,Ai⟩=yi (.int .i64 (Uk z 47)):=Si.gp (ic:=0) hw rfl E0 E0;refine Si.looks (i:=0) (r:=bk K g num code (Uk z)) hw rfl ?_;exact W8
 refine W9 ?_;co_applyP sj L.Bi (fun _ _ _ _ h r=>⟨h.1,h.2.rely L.Bi.trans r⟩) (fun _ _ h r=>Si.rely h r) ?rL (i:=6) rfl T0 T0 T0 T0 (.inl ⟨I0,fun _ hw=>⟨run_eq_of ?TM,?bD⟩⟩) hF ?iV
 case rL=>exact fun _ _ _ h r=>Ci.rely L.Bi.trans h r
 case TM=>
  exact Nc
 case bD=>
  exact Cb
 refine W9 ?_;refine aE (i:=7) T0 rfl I0 (zl rfl T0) ⟨rfl,?_⟩;refine Ci.send rfl I0 hk rfl rfl rfl ?_;refine W9 ?_;refine J8 ?_;refine s9 ?_;refine N8 fun w1 K_ hK hF=>?_;have hc:World.cell? _ ⟨y,0,Ai⟩=yi (.int .i64 v0):=hF.l1 (k:=2) rfl;have Bn:World.frozen? _ ⟨y,0,Ai⟩=false:=hF.Vt (k:=2) rfl 0;refine I8 ?_ ?_
 ·refine hF.yU (k:=2) rfl 0 _ ?_;exact Ec
 clear hK K_;clear hc Bn;replace hF:Si L w0 (bk K g num code (Uk z)::rn1) (fG L g p c y 3) _:=hF.set1 (k:=2) rfl (.int .i64 3);refine W9 ?_;refine J8 ?_;refine Cd ?_;exact Ci.leaveD L.Bi func111 rfl (Dj L.Bi I0 _) (.inr ⟨_,rfl,rfl⟩) (h rn1 _ hN1 hF)
end
end Go.Proofs.YtdoghgnifkgfdaaGreat.Mute
