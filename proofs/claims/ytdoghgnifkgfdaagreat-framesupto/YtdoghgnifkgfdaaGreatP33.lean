import Derived.Test.YtdoghgnifkgfdaaGreatP00
import Derived.Test.YtdoghgnifkgfdaaGreatP11
import Derived.Test.YtdoghgnifkgfdaaGreatP22
import Derived.Test.YtdoghgnifkgfdaaGreatP29
import Derived.Test.YtdoghgnifkgfdaaGreatP32
set_option maxRecDepth 100000
set_option maxHeartbeats 16000000
open Option renaming none->Ai,some->yi
open Go renaming World->ui,Value->ti,undef->ri
open Bool renaming true->ji,false->gi
namespace Go.Proofs.YtdoghgnifkgfdaaGreat.Mute
open Tryz Go Go.Conc Go.RowKit
def ju(k:Vu)(K:Nl)(wn:Nat->Nat×Nat)(nw:Nat)(ins:List (Int×Int))(s:Hy):Hy:=
 {Eo k K ins wn nw 0 s with D:=VD K.k (Eo k K ins wn nw 0 s).D}
def Ro(k:Nat)(C:Nat->Jl):Prop:=∀i,i<k->(C i).wait.length<=4
theorem Ro.set{k i:Nat}{C:Nat->Jl}(h:Ro k C){c:Jl}(hc:c.wait.length<=4):Ro k (uN C i c):=fun j hj=>by
 by_cases e:j=i
 ·subst e;rw[Vl];exact hc
 ·rw[Es _ _ e];exact h j hj
theorem ZN{ins:List (Int×Int)}{op N:Int}{R A k:Nat}{z:Nat->Int}{C:Nat->Jl}(h:Ro k C)(hN:op≠14->0<=N/\N<k)(hop:Xy op):Ro k (tu ins op R A N z C).2:=by
 unfold tu;simp only[];by_cases zN:op=14
 ·subst zN;simpa using h
 have hc:=h N.toNat (by have:=hN zN;omega);rcases hop with rfl|rfl|rfl|rfl|rfl|rfl
 ·exact h.set hc
 ·exact h.set hc
 ·cases hw:(C N.toNat).wait with
  |nil=>simpa[hw]using h
  |cons x l=>
   rw[hw]at hc;simp at hc;exact h.set (by show l.length<=4;omega)
 ·exact h
 ·exact absurd rfl zN
 ·exact h.set hc
theorem xE{p:fF}{kc:Nat}(gl:uq p.n kc p.ci):∀(k:Nat)(z:Nat->Int)(C:Nat->Jl),Fv p.n z->Ro kc C->Ro kc (Fo p k z C).2.2.2
 |0,_,_,_,h=>h
 |k+1,z,C,hz,h=>by
  have hs:=Hz (ins:=p.ins) (b:=0) (C:=fun _=>⟨[],[],0,0,0,0,gi⟩) gl hz fun _ _=>⟨Nat.le_refl _,Nat.le_refl _⟩;have h1:=hz.lo;have h2:=hz.hi;simp only[Fo];by_cases hx:z 45≠p.n/\Xy (p.ci ((z 45).toNat*4))
  ·obtain⟨_,hR,hA,_,hN⟩:=gl (z 45).toNat E0;have e:jk p.n p.ci p.ins z C=.on (p.ci ((z 45).toNat*4)) Ai (tu p.ins (p.ci ((z 45).toNat*4)) (p.ci ((z 45).toNat*4+1)).toNat (p.ci ((z 45).toNat*4+2)).toNat (p.ci ((z 45).toNat*4+3)) (Ni z) C).1 (tu p.ins (p.ci ((z 45).toNat*4)) (p.ci ((z 45).toNat*4+1)).toNat (p.ci ((z 45).toNat*4+2)).toNat (p.ci ((z 45).toNat*4+3)) (Ni z) C).2:=by
    unfold jk;rw[if_pos hx]
   have hw:=ZN (ins:=p.ins) (R:=(p.ci ((z 45).toNat*4+1)).toNat) (A:=(p.ci ((z 45).toNat*4+2)).toNat) (z:=Ni z) h (fun e=>hN hx.2 e) hx.2;have hzz:=Y_ (ins:=p.ins) (op:=p.ci ((z 45).toNat*4)) (N:=p.ci ((z 45).toNat*4+3)) (C:=C) (Oy hz hx.1) (R:=(p.ci ((z 45).toNat*4+1)).toNat) (A:=(p.ci ((z 45).toNat*4+2)).toNat) E0 E0;rw[e];by_cases h0:p.ci ((z 45).toNat*4)=0
   ·simp only[h0,if_true];rw[h0]at hw;exact hw
   ·simp only[h0,if_false];exact xE gl k _ _ hzz hw
  ·have e:∀D,jk p.n p.ci p.ins z D=(tj p.n p.ci z).with D:=fun D=>by unfold jk;rw[if_neg hx]
   rw[e]at hs ⊢;revert hs;cases tj p.n p.ci z with
   |on op e z'=>
    intro hs;by_cases h0:op=0
    ·simp only[Out.with,h0,if_true];exact h
    ·simp only[Out.with,h0,if_false];exact xE gl k _ _ hs.1 h
   |Xk y z'=>
    intro _ i hi;show (Rn p.fr p.num C i).wait.length<=4;unfold Rn;split
    ·exact h i hi
    ·exact h i hi
theorem LC{p:fF}{kc:Nat}(gl:uq p.n kc p.ci)(budget:Nat){z:Nat->Int}{C:Nat->Jl}(hz:Fv p.n z)(h:Ro kc C):Ro kc (lj p budget z C).2.2:=by
 show Ro kc (uy p budget z C).2.2.2;unfold uy;split
 ·exact h
 ·exact xE gl budget z C hz h
theorem EC:∀(k:Nat)(C:Nat->Jl),∃b,qq k b C
 |0,_=>⟨0,fun _ h=>absurd h (Nat.not_lt_zero _)⟩
 |k+1,C=>by
  obtain⟨b,hb⟩:=EC k C;refine⟨b+(C k).sent.length+(C k).wait.length,fun i hi=>?_⟩;by_cases e:i=k
  ·subst e;omega
  ·have:=hb i E0;omega
section
variable {k:Vu}{K:Nl}{ins:List (Int×Int)}{wn:Nat->Nat×Nat}
theorem ZH(gl:∀i,i<k.nC->uq (k.n i) K.k (k.ci i)):∀(rem j:Nat)(s:Hy),(∀i,j<=i->i<j+rem->(wn i).1<k.nC)->(∀i,i<k.nC->Fv (k.n i) (s.z i))->Ro K.k s.D->Ro K.k (Eo k K ins wn rem j s).D
 |0,_,_,_,_,h=>h
 |rem+1,j,s,hw,hz,h=>by
  have hc:=hw j (Nat.le_refl _) E0;refine ZH gl rem (j+1) (gx k K ins (wn j) s) (fun i h1 h2=>hw i E0 E0) (fun i hi=>?_) (LC (p:=Qp k K ins (wn j).1) (gl _ hc) _ (hz _ hc) h);show Fv _ (fj s.z (wn j).1 _ i);by_cases e:i=(wn j).1
  ·subst e;rw[Oi];obtain⟨b,hb⟩:=EC K.k s.D;exact(ZA (p:=Qp k K ins (wn j).1) (gl _ hc) _ (hz _ hc) hb).1
  ·rw[cj _ _ e];exact hz i hi
end
theorem nP{k:Nat}{C:Nat->Jl}(h:Ro k C):qq k 4 (VD k C):=fun i hi=>by
 have e:VD k C i=Tv (Js (C i)):=by unfold VD Ft;rw[if_pos hi,if_pos hi]
 have hs:∀c:Jl,(Tv c).sent=c.sent/\(Tv c).wait=c.wait:=fun c=>by
  unfold Tv;split
  ·exact⟨rfl,rfl⟩
  ·split
   ·exact⟨rfl,rfl⟩
   ·exact⟨rfl,rfl⟩
 rw[e,(hs _).1,(hs _).2];exact⟨Nat.zero_le _,y30 (h i hi)⟩
def SB(k:Vu)(K:Nl)(t:Tab)(b:Nat):Prop:=b=k.C\/b=K.nb\/(0<K.k/\b=K.eb)\/b=t.tb\/(∃i,i<k.nC/\b=k.cb i)\/∃i,i<t.nT/\b=t.ws i
structure zq(w:ui)(k:Vu)(K:Nl)(t:Tab)(s:Hy)(f:Nat->ti)(lr:Nat->Option Row)(r:Nat)(S:Nat->Prop):Prop where
 mI:EB w k K
 dyn:Ux w k K s f lr
 len:qq K.k 4 s.D
 lI:Ei w k.kb 5 94 (su (.slice (yi ⟨t.tb,0,Ai⟩) t.nT t.cT) (.int .i64 r) (.slice (yi ⟨k.C,0,Ai⟩) k.nC k.cC) (.pointer (yi ⟨K.nb,0,Ai⟩)) (.slice (yi ⟨k.T,0,Ai⟩) k.nC k.nC))
 iY:Ll w t.tb
 rows:∀i,i<t.nT->w.cell? ⟨t.tb,i,Ai⟩=yi (.slice (yi ⟨t.ws i,t.wo i,Ai⟩) (t.nw i) (t.cw i))
 sW:∀i,i<t.nT->Ll w (t.ws i)
 c0:∀i,i<t.nT->∀j,j<t.nw i->w.cell? ⟨t.ws i,t.wo i+j*2,Ai⟩=yi (.int .i64 (t.wn i j).1)
 c1:∀i,i<t.nT->∀j,j<t.nw i->w.cell? ⟨t.ws i,t.wo i+j*2+1,Ai⟩=yi (.int .i64 (t.wn i j).2)
 rlt:r<t.nT
 nT:t.nT<=1000
 nw:∀i,i<t.nT->t.nw i<=6
 wnb:∀i,i<t.nT->∀j,j<t.nw i->(t.wn i j).1<k.nC/\(t.wn i j).2<=200
 vB:∀b,b=k.kb\/SB k K t b\/DB k K f lr b->S b
 sz:∀b,S b->b<w.heap.size
 TX:∀b,SB k K t b->b≠k.kb
section
variable {w w':ui}{k:Vu}{K:Nl}{t:Tab}{s:Hy}{f:Nat->ti}{lr:Nat->Option Row}{r:Nat}{S:Nat->Prop}
theorem zq.keep(h:zq w k K t s f lr r S)(hk:∀b,S b->w'.heap[b]?=w.heap[b]?)(hs:w.heap.size<=w'.heap.size):zq w' k K t s f lr r S:=by
 have hkb:=hk k.kb (h.vB _ (.inl rfl));have hSB:∀b,SB k K t b->w'.heap[b]?=w.heap[b]?:=fun b hb=>hk b (h.vB _ (.inr (.inl hb)));have htb:=hSB t.tb (.inr (.inr (.inr (.inl rfl))));have jR:∀i,i<t.nT->w'.heap[t.ws i]?=w.heap[t.ws i]?:=fun i hi=>hSB _ (.inr (.inr (.inr (.inr (.inr ⟨i,hi,rfl⟩)))));refine⟨h.mI.h30 (cell_of_heap (a:=⟨k.kb,2,Ai⟩) hkb) (cell_of_heap (a:=⟨k.kb,4,Ai⟩) hkb) (h.mI.WN.of_heap hkb) fun b hb=>hSB b ?_,h.dyn.keep fun b hb=>hk b (h.vB _ (.inr (.inr hb))),h.len,h.lI.of_heap hkb,h.iY.of_heap htb,fun i hi=>(cell_of_heap (a:=⟨t.tb,i,Ai⟩) htb).trans (h.rows i hi),fun i hi=>(h.sW i hi).of_heap (jR i hi),fun i hi j hj=>(cell_of_heap (a:=⟨t.ws i,t.wo i+j*2,Ai⟩) (jR i hi)).trans (h.c0 i hi j hj),fun i hi j hj=>(cell_of_heap (a:=⟨t.ws i,t.wo i+j*2+1,Ai⟩) (jR i hi)).trans (h.c1 i hi j hj),h.rlt,h.nT,h.nw,h.wnb,h.vB,fun b hb=>Nat.lt_of_lt_of_le (h.sz b hb) hs,h.TX⟩;rcases hb with hb|hb|hb|hb
 ·exact .inl hb
 ·exact .inr (.inl hb)
 ·exact .inr (.inr (.inl hb))
 ·exact .inr (.inr (.inr (.inr (.inl hb))))
theorem zq.sub{S':Nat->Prop}(h:zq w k K t s f lr r S)(hs:∀b,S b->S' b)(hz:∀b,S' b->b<w.heap.size):zq w k K t s f lr r S':=
 ⟨h.mI,h.dyn,h.len,h.lI,h.iY,h.rows,h.sW,h.c0,h.c1,h.rlt,h.nT,h.nw,h.wnb,fun b hb=>hs b (h.vB b hb),hz,h.TX⟩
theorem zq.frame(h:zq w k K t s f lr r S)(hm:∀i,s.m i+1300<=1000000000){ip:Option Addr}{il ic:Nat}{ins:List (Int×Int)}(Pm:InW w (.slice ip il ic) ins (Ll w))(rU:il<=4):
  Fj prog 15 #[.pointer (yi ⟨k.kb,0,Ai⟩),.slice ip il ic] w (fun v w'=>v=.int .i64 0/\∃f' Vr,zq w' k K t (ju k K (t.wn r) (t.nw r) ins s) f' Vr ((r+1)%t.nT) (fun b=>S b\/(w.heap.size<=b/\b<w'.heap.size))/\ak S w w'):=by
 have KQ:=h.rlt;have hnw:=h.nw r KQ;have g70:Ro K.k (Eo k K ins (t.wn r) (t.nw r) 0 s).D:=ZH h.mI.ok _ _ _ (fun i _ hi=>(h.wnb r KQ i E0).1) h.dyn.zok fun i hi=>(h.len i hi).2;refine(jL h.mI h.dyn (h.lI.cell (j:=0) E0) (h.lI.cell (j:=1) E0) (h.lI.cell (j:=3) E0) (h.lI.frozen 1) h.iY (h.rows r KQ) KQ h.nT (h.sW r KQ) (h.c0 r KQ) (h.c1 r KQ) E0 (h.wnb r KQ) (fun i=>by have:=hm i;have:t.nw r*201<=6*201:=Nat.mul_le_mul_right _ hnw;omega) h.len g70 Pm rU).mono ?_;rintro v w' ⟨rfl,f',Vr,w1,d,hF,rfl⟩;refine⟨rfl,f',Vr,?_⟩;have hnr:(((r:Int)+1).tmod t.nT)=(((r+1)%t.nT:Nat):Int):=by
  rw[Int.tmod_eq_emod_of_nonneg E0];simp
 rw[hnr];have Aq:w.heap.size<=w1.heap.size:=hF.ph.2.2.2;have hK1:=h.lI.of_heap (hF.st h.mI.WN);have yW:=(Ei.T00 hK1 (.int .i64 (((r+1)%t.nT:Nat):Int))).2.1;have ne2:∀{b:Nat},b≠k.kb->(w1.setCell ⟨k.kb,1,Ai⟩ (.int .i64 (((r+1)%t.nT:Nat):Int))).heap[b]?=w1.heap[b]?:=fun hb=>heap_setCell_other _ _ _ _ hb;have Ks:(w1.setCell ⟨k.kb,1,Ai⟩ (.int .i64 (((r+1)%t.nT:Nat):Int))).heap.size=w1.heap.size:=size_setCell _ _ _;have hS1:=hF.j80;have dne:∀b,DB k K f' Vr b->b≠k.kb:=fun b hb e=>hS1.WN.R70 hF.dyn (e▸hb);have d90:=hF.dyn.keep (w':=w1.setCell ⟨k.kb,1,Ai⟩ (.int .i64 (((r+1)%t.nT:Nat):Int))) fun b hb=>ne2 (dne b hb);have stF:∀b,Ll w b->b≠k.kb->(w1.setCell ⟨k.kb,1,Ai⟩ (.int .i64 (((r+1)%t.nT:Nat):Int))).heap[b]?=w.heap[b]?:=fun b hs Jj=>(ne2 Jj).trans (hF.st hs);have lk0:Ll (w1.setCell ⟨k.kb,1,Ai⟩ (.int .i64 (((r+1)%t.nT:Nat):Int))) k.kb:=by
  obtain⟨cs,hh,_⟩:=yW;exact Qg
 have ya0:EB (w1.setCell ⟨k.kb,1,Ai⟩ (.int .i64 (((r+1)%t.nT:Nat):Int))) k K:=by
  refine hS1.h30 ((yW.cell (j:=2) E0).trans (hK1.cell (j:=2) E0).symm) ((yW.cell (j:=4) E0).trans (hK1.cell (j:=4) E0).symm) lk0 fun b hb=>ne2 (h.TX b ?_);rcases hb with hb|hb|hb|hb
  ·exact .inl hb
  ·exact .inr (.inl hb)
  ·exact .inr (.inr (.inl hb))
  ·exact .inr (.inr (.inr (.inr (.inl hb))))
 have Xd0:=h.TX t.tb (.inr (.inr (.inr (.inl rfl))));have V80:∀i,i<t.nT->t.ws i≠k.kb:=fun i hi=>h.TX _ (.inr (.inr (.inr (.inr (.inr ⟨i,hi,rfl⟩)))));have hDB:∀b,DB k K f' Vr b->S b\/(w.heap.size<=b/\b<w1.heap.size):=fun b hb=>by
  have Wi:=hF.dyn.lt hb;rcases hb with hb|hb|⟨i,hi,hb|hb⟩
  ·exact .inl (h.vB b (.inr (.inr (.inl hb))))
  ·rcases hF.fn b hb with e|e
   ·exact .inl (h.vB b (.inr (.inr (.inr (.inl e)))))
   ·exact .inr ⟨e,Wi⟩
  ·exact .inl (h.vB b (.inr (.inr (.inr (.inr ⟨i,hi,.inl hb⟩)))))
  ·rcases hF.fo i b hi hb with e|e
   ·exact .inl (h.vB b (.inr (.inr (.inr (.inr ⟨i,hi,.inr e⟩)))))
   ·exact .inr ⟨e,Wi⟩
 have af0:zq (w1.setCell ⟨k.kb,1,Ai⟩ (.int .i64 (((r+1)%t.nT:Nat):Int))) k K t (ju k K (t.wn r) (t.nw r) ins s) f' Vr ((r+1)%t.nT) (fun b=>S b\/(w.heap.size<=b/\b<w1.heap.size)):=
  ⟨ya0,d90,nP g70,yW,h.iY.of_heap (stF _ h.iY Xd0),fun i hi=>(cell_of_heap (a:=⟨t.tb,i,Ai⟩) (stF _ h.iY Xd0)).trans (h.rows i hi),fun i hi=>(h.sW i hi).of_heap (stF _ (h.sW i hi) (V80 i hi)),fun i hi j hj=>(cell_of_heap (a:=⟨t.ws i,t.wo i+j*2,Ai⟩) (stF _ (h.sW i hi) (V80 i hi))).trans (h.c0 i hi j hj),fun i hi j hj=>(cell_of_heap (a:=⟨t.ws i,t.wo i+j*2+1,Ai⟩) (stF _ (h.sW i hi) (V80 i hi))).trans (h.c1 i hi j hj),Nat.mod_lt _ E0,h.nT,h.nw,h.wnb,fun b hb=>by
   rcases hb with hb|hb|hb
   ·exact .inl (h.vB b (.inl hb))
   ·exact .inl (h.vB b (.inr (.inl hb)))
   ·exact hDB b hb,fun b hb=>by
   rw[Ks];rcases hb with hb|hb
   ·exact Nat.lt_of_lt_of_le (h.sz b hb) Aq
   ·exact hb.2,h.TX⟩
 refine⟨(af0.keep (w':=(w1.setCell ⟨k.kb,1,Ai⟩ (.int .i64 (((r+1)%t.nT:Nat):Int))).at d) (fun _ _=>rfl) (Nat.le_refl _)).sub (fun b hb=>?_) (fun b hb=>?_),⟨hF.ph.1,hF.ph.2.2.1,hF.ph.2.1,?_,fun b hb hn=>?_⟩⟩
 ·show S b\/(w.heap.size<=b/\b<(w1.setCell ⟨k.kb,1,Ai⟩ (.int .i64 (((r+1)%t.nT:Nat):Int))).heap.size);rw[Ks];exact hb
 ·have hb:S b\/(w.heap.size<=b/\b<(w1.setCell ⟨k.kb,1,Ai⟩ (.int .i64 (((r+1)%t.nT:Nat):Int))).heap.size):=hb;show b<(w1.setCell ⟨k.kb,1,Ai⟩ (.int .i64 (((r+1)%t.nT:Nat):Int))).heap.size;rcases hb with hb|hb
  ·rw[Ks];exact Nat.lt_of_lt_of_le (h.sz b hb) Aq
  ·exact hb.2
 ·show w.heap.size<=(w1.setCell ⟨k.kb,1,Ai⟩ (.int .i64 (((r+1)%t.nT:Nat):Int))).heap.size;rw[Ks];exact Aq
 ·show (w1.setCell ⟨k.kb,1,Ai⟩ (.int .i64 (((r+1)%t.nT:Nat):Int))).heap[b]?=w.heap[b]?;rw[ne2 (fun e=>hn (h.vB b (.inl e)))];exact hF.ft b hb fun e=>hn (h.vB b (.inr (.inr e)))
end
def Az(k:Nat)(img z:Nat->Int)(j:Nat):Int:=if 25<=j/\j<45 then (if 29<=j/\j<29+k then img (j-29)else 0)else z j
def Dw(m:Nat)(img z:Nat->Int)(j:Nat):Int:=if 25<=j/\j<46 then (if 29<=j/\j<29+m then img (j-29)else 0)else z j
section
variable {w:ui}{G m t n i a:Nat}{R:Nat->RC}
theorem aQ{img z:Nat->Int}{k:Nat}(hk:k<16)(j:Nat)(_:(25<=j/\j<46)\/j=47):Ji (Az k img z) (25+(4+k)) (img k) j=Az (k+1) img z j:=by
 rw[Lu];by_cases e:j=25+(4+k)
 ·rw[if_pos e];unfold Az;rw[if_pos E0,if_pos E0,show j-29=k by omega]
 ·rw[if_neg e];unfold Az;by_cases h:25<=j/\j<45
  ·rw[if_pos h,if_pos h];by_cases h1:29<=j/\j<29+k
   ·rw[if_pos h1,if_pos E0]
   ·rw[if_neg h1,if_neg E0]
  ·rw[if_neg h,if_neg h]
theorem xT{img z:Nat->Int}{k:Nat}(hk:k<=16)(j:Nat)(_:(25<=j/\j<46)\/j=47):Ji (Az k img z) (25+20) 0 j=Dw k img z j:=by
 rw[Lu];by_cases e:j=25+20
 ·rw[if_pos e];unfold Dw;rw[if_pos E0,if_neg E0]
 ·rw[if_neg e];unfold Az Dw;by_cases h:25<=j/\j<45
  ·have h2:25<=j/\j<46:=by omega
   simp only[if_pos h,if_pos h2]
  ·rw[if_neg h,if_neg E0]
end
theorem Jy(Kb Gc n nC xB bo oo nI gd0 t:Nat)(q:Option Addr)(z:Nat->Int)(R:Nat->RC)(w:ui)(h0:w.cell? ⟨Kb,0,Ai⟩=yi (.slice (yi ⟨bo,oo,Ai⟩) nC xB))(h4:w.cell? ⟨Kb,4,Ai⟩=yi (.slice (yi ⟨Gc,0,Ai⟩) nC nC))
  (hi:w.cell? ⟨bo,oo+n*3+1,Ai⟩=yi (.slice q nI gd0))(hs:Sl w q nI (fun j=>.int .i64 (z j)))(hr:Ei w Gc (nC*26) t (Sj R))(hn:n<nC)(h16:nI<=16)(g1:Kb≠Gc)(g2:bo≠Gc)(g3:∀b o,q=yi ⟨b,o,Ai⟩->b≠Gc):
  Calls prog 73 #[.pointer (yi ⟨Kb,0,Ai⟩),.int .i64 n] w fun e w'=>e=.returned (.tuple #[])/\w.grownBy w' (yi Gc)/\Ei w' Gc (nC*26) t (Sj (fj R n {R n with z:=Dw nI z (R n).z,nt:=.slice Ai 0 0})):=by
 have HR:Hid (Ei w Gc (nC*26) t (Sj R)):=hr;generalize hff:Sj R=ff at hr;have HFF:Hid (Sj R=ff):=hff;clear hff;have hf:=hr;clear hr;have e0:=hf.cell (j:=n*26) E0;have f0:=hf.frozen (n*26);have e1:=hf.cell (j:=n*26+1) E0;have f1:=hf.frozen (n*26+1);have e2:=hf.cell (j:=n*26+2) E0;have f2:=hf.frozen (n*26+2);have e3:=hf.cell (j:=n*26+3) E0;have f3:=hf.frozen (n*26+3);have e4:=hf.cell (j:=n*26+4) E0;have f4:=hf.frozen (n*26+4);have e5:=hf.cell (j:=n*26+5) E0;have f5:=hf.frozen (n*26+5);have e6:=hf.cell (j:=n*26+6) E0;have f6:=hf.frozen (n*26+6);have e7:=hf.cell (j:=n*26+7) E0;have f7:=hf.frozen (n*26+7);have e8:=hf.cell (j:=n*26+8) E0;have f8:=hf.frozen (n*26+8);have e9:=hf.cell (j:=n*26+9) E0;have f9:=hf.frozen (n*26+9);have e10:=hf.cell (j:=n*26+10) E0;have f10:=hf.frozen (n*26+10);have e11:=hf.cell (j:=n*26+11) E0;have f11:=hf.frozen (n*26+11);have e12:=hf.cell (j:=n*26+12) E0;have f12:=hf.frozen (n*26+12);have e13:=hf.cell (j:=n*26+13) E0;have f13:=hf.frozen (n*26+13);have e14:=hf.cell (j:=n*26+14) E0;have f14:=hf.frozen (n*26+14);have e15:=hf.cell (j:=n*26+15) E0;have f15:=hf.frozen (n*26+15);have e16:=hf.cell (j:=n*26+16) E0;have f16:=hf.frozen (n*26+16);have e17:=hf.cell (j:=n*26+17) E0;have f17:=hf.frozen (n*26+17);have e18:=hf.cell (j:=n*26+18) E0;have f18:=hf.frozen (n*26+18);have e19:=hf.cell (j:=n*26+19) E0;have f19:=hf.frozen (n*26+19);have e20:=hf.cell (j:=n*26+20) E0;have f20:=hf.frozen (n*26+20);have e21:=hf.cell (j:=n*26+21) E0;have f21:=hf.frozen (n*26+21);have e5':w.cell? ⟨Gc,n*26+4+1,Ai⟩=yi (ff (n*26+5)):=e5;have f5':w.frozen? ⟨Gc,n*26+4+1,Ai⟩=false:=f5;have e6':w.cell? ⟨Gc,n*26+4+2,Ai⟩=yi (ff (n*26+6)):=e6;have f6':w.frozen? ⟨Gc,n*26+4+2,Ai⟩=false:=f6;have e7':w.cell? ⟨Gc,n*26+4+3,Ai⟩=yi (ff (n*26+7)):=e7;have f7':w.frozen? ⟨Gc,n*26+4+3,Ai⟩=false:=f7;have e8':w.cell? ⟨Gc,n*26+4+4,Ai⟩=yi (ff (n*26+8)):=e8;have f8':w.frozen? ⟨Gc,n*26+4+4,Ai⟩=false:=f8;have e9':w.cell? ⟨Gc,n*26+4+5,Ai⟩=yi (ff (n*26+9)):=e9;have f9':w.frozen? ⟨Gc,n*26+4+5,Ai⟩=false:=f9;have Rc0:w.cell? ⟨Gc,n*26+4+6,Ai⟩=yi (ff (n*26+10)):=e10;have ec0:w.frozen? ⟨Gc,n*26+4+6,Ai⟩=false:=f10;have qd0:w.cell? ⟨Gc,n*26+4+7,Ai⟩=yi (ff (n*26+11)):=e11;have Pf0:w.frozen? ⟨Gc,n*26+4+7,Ai⟩=false:=f11;have ic0:w.cell? ⟨Gc,n*26+4+8,Ai⟩=yi (ff (n*26+12)):=e12;have Ie0:w.frozen? ⟨Gc,n*26+4+8,Ai⟩=false:=f12;have if0:w.cell? ⟨Gc,n*26+4+9,Ai⟩=yi (ff (n*26+13)):=e13;have Ac0:w.frozen? ⟨Gc,n*26+4+9,Ai⟩=false:=f13;have ud0:w.cell? ⟨Gc,n*26+4+10,Ai⟩=yi (ff (n*26+14)):=e14;have Ve0:w.frozen? ⟨Gc,n*26+4+10,Ai⟩=false:=f14;have Vd0:w.cell? ⟨Gc,n*26+4+11,Ai⟩=yi (ff (n*26+15)):=e15;have Ce0:w.frozen? ⟨Gc,n*26+4+11,Ai⟩=false:=f15;have rc0:w.cell? ⟨Gc,n*26+4+12,Ai⟩=yi (ff (n*26+16)):=e16;have kf0:w.frozen? ⟨Gc,n*26+4+12,Ai⟩=false:=f16;have If0:w.cell? ⟨Gc,n*26+4+13,Ai⟩=yi (ff (n*26+17)):=e17;have uf0:w.frozen? ⟨Gc,n*26+4+13,Ai⟩=false:=f17;have we0:w.cell? ⟨Gc,n*26+4+14,Ai⟩=yi (ff (n*26+18)):=e18;have wd0:w.frozen? ⟨Gc,n*26+4+14,Ai⟩=false:=f18;have oe0:w.cell? ⟨Gc,n*26+4+15,Ai⟩=yi (ff (n*26+19)):=e19;have Hc0:w.frozen? ⟨Gc,n*26+4+15,Ai⟩=false:=f19;have HS:Hid (Sl w q nI (fun j=>.int .i64 (z j))):=hs;have HG3:Hid (∀b o,q=yi ⟨b,o,Ai⟩->b≠Gc):=g3;clear hs g3 hf e5 e6 e7 e8 e9 e10 e11 e12 e13 e14 e15 e16 e17 e18 e19 f5 f6 f7 f8 f9 f10 f11 f12 f13 f14 f15 f16 f17 f18 f19
 go_enter func73,ntmps73
 go_wp2_with fail
 go_loopw [5] (fun i wr=>∃k:Nat,k<=nI/\i=.int .i64 k/\Hid (w.grownBy wr (yi Gc))/\Hid (Ei wr Gc (nC*26) t (Sj (fj R n {R n with z:=Az k z (R n).z})))) (fun i _=>nI-(intOf i).toNat)
 case atStart=>
  refine⟨0,Nat.zero_le _,rfl,?_,?_⟩
  ·show World.grownBy _ _ _;iterate 20 refine grownBy_setCell ?_ _ _
   exact World.grownBy.refl _ _
  ·show Ei _ _ _ _ _;have H:=Ei.r0 HR.out n;replace H:=Ei.Rz (i:=0) (a:=n*26) H E0 E0 0;replace H:=Ei.Rz (i:=1) (a:=n*26+1) H E0 E0 0;replace H:=Ei.Rz (i:=2) (a:=n*26+2) H E0 E0 0;replace H:=Ei.Rz (i:=3) (a:=n*26+3) H E0 E0 0;replace H:=Ei.Rz (i:=4) (a:=n*26+4) H E0 E0 0;replace H:=Ei.Rz (i:=5) (a:=n*26+4+1) H E0 E0 0;replace H:=Ei.Rz (i:=6) (a:=n*26+4+2) H E0 E0 0;replace H:=Ei.Rz (i:=7) (a:=n*26+4+3) H E0 E0 0;replace H:=Ei.Rz (i:=8) (a:=n*26+4+4) H E0 E0 0;replace H:=Ei.Rz (i:=9) (a:=n*26+4+5) H E0 E0 0;replace H:=Ei.Rz (i:=10) (a:=n*26+4+6) H E0 E0 0;replace H:=Ei.Rz (i:=11) (a:=n*26+4+7) H E0 E0 0;replace H:=Ei.Rz (i:=12) (a:=n*26+4+8) H E0 E0 0;replace H:=Ei.Rz (i:=13) (a:=n*26+4+9) H E0 E0 0;replace H:=Ei.Rz (i:=14) (a:=n*26+4+10) H E0 E0 0;replace H:=Ei.Rz (i:=15) (a:=n*26+4+11) H E0 E0 0;replace H:=Ei.Rz (i:=16) (a:=n*26+4+12) H E0 E0 0;replace H:=Ei.Rz (i:=17) (a:=n*26+4+13) H E0 E0 0;replace H:=Ei.Rz (i:=18) (a:=n*26+4+14) H E0 E0 0;replace H:=Ei.Rz (i:=19) (a:=n*26+4+15) H E0 E0 0;refine Ei.rc H ?_;intro j hj;have:j=25\/j=26\/j=27\/j=28\/j=29\/j=30\/j=31\/j=32\/j=33\/j=34\/j=35\/j=36\/j=37\/j=38\/j=39\/j=40\/j=41\/j=42\/j=43\/j=44\/j=45\/j=47:=by omega
   rcases this with rfl|rfl|rfl|rfl|rfl|rfl|rfl|rfl|rfl|rfl|rfl|rfl|rfl|rfl|rfl|rfl|rfl|rfl|rfl|rfl|rfl|rfl<;>rfl
 case round=>
  obtain⟨k,hk,rfl,HG,HRr⟩:=hrel;have m0:=HG.out.cell h0 (by simpa using g1);have m4:=HG.out.cell h4 (by simpa using g1);have mi:=HG.out.cell hi J5;have Dy:=HRr.out;generalize hfq:Sj (fj R n {R n with z:=Az k z (R n).z})=fq at Dy;clear hfq;by_cases Wi:k<nI
  ·obtain⟨bq,oq,rfl,hc⟩:=HS.out.at E0;have c0:=HG.out.cell (hc k Wi) (by simpa using HG3.out bq oq rfl);have ek:=Dy.cell (j:=n*26+4+k) E0;have fk:=Dy.frozen (n*26+4+k);have w0':∀(W:ui)(v:ti),(W.setCell ⟨Gc,n*26+4+k,Ai⟩ v).cell? ⟨Kb,0,Ai⟩=W.cell? ⟨Kb,0,Ai⟩:=fun W v=>World.cell?_setCell_other _ _ _ _ (fun e=>U2);have w1':∀(W:ui)(v:ti),(W.setCell ⟨Gc,n*26+4+k,Ai⟩ v).cell? ⟨bo,oo+n*3+1,Ai⟩=W.cell? ⟨bo,oo+n*3+1,Ai⟩:=fun W v=>World.cell?_setCell_other _ _ _ _ (fun e=>U2);have hbq:bq≠Gc:=HG3.out bq oq rfl;have w2':∀(W:ui)(v:ti),(W.setCell ⟨Gc,n*26+4+k,Ai⟩ v).cell? ⟨bq,oq+k,Ai⟩=W.cell? ⟨bq,oq+k,Ai⟩:=fun W v=>World.cell?_setCell_other _ _ _ _ (fun e=>U2);have ik0:(0:Int)<=(k:Int):=by omega
   have ik1:(k:Int)<16:=E0;have ik2:(k:Int)<(nI:Int):=E0;clear e0 f0 e1 f1 e2 f2 e3 f3 e4 f4 e20 f20 e21 f21 e5' f5' e6' f6' e7' f7' e8' f8' e9' f9' Rc0 ec0 qd0 Pf0 ic0 Ie0 if0 Ac0 ud0 Ve0 Vd0 Ce0 rc0 kf0 If0 uf0 we0 wd0 oe0 Hc0 hc Dy;go_wp2_with fail;go_region_held3 (fun W=>W.cell? ⟨Kb,0,Ai⟩=yi (.slice (yi ⟨bo,oo,Ai⟩) nC xB)/\W.cell? ⟨bo,oo+n*3+1,Ai⟩=yi (.slice (yi ⟨bq,oq,Ai⟩) nI gd0)/\W.cell? ⟨bq,oq+k,Ai⟩=yi (.int .i64 (z k))) (go_keep) (fail)
   clear w0' w1' w2';go_wp2_with fail;exact⟨⟨k+1,E0,J1,grownBy_drew (grownBy_setCell HG.out _ _),Ei.rc (Ei.Rz (i:=4+k) HRr.out E0 E0 _) (aQ E0)⟩,U1⟩
  ·obtain rfl:k=nI:=by omega
   have en:=Dy.cell (j:=n*26+20) E0;have fn:=Dy.frozen (n*26+20);have en':=Dy.cell (j:=n*26+21) E0;have LM:=Dy.frozen (n*26+21);clear e0 f0 e1 f1 e2 f2 e3 f3 e4 f4 e20 f20 e21 f21 e5' f5' e6' f6' e7' f7' e8' f8' e9' f9' Rc0 ec0 qd0 Pf0 ic0 Ie0 if0 Ac0 ud0 Ve0 Vd0 Ce0 rc0 kf0 If0 uf0 we0 wd0 oe0 Hc0 Dy;go_wp2_with fail;go_end0
   exact⟨rfl,grownBy_setCell (grownBy_setCell HG.out _ _) _ _,(by have:=Ei.rn (a:=n*26+21) (Ei.rc (Ei.Rz (i:=20) (a:=n*26+20) HRr.out E0 E0 0) (xT h16)) rfl (.slice Ai 0 0);rw[Yk,Oi]at this;exact this)⟩
theorem bP{n:Nat}{ci z:Nat->Int}(gl:∀nx,nx<n->(z 45).toNat=nx->0<=ci (nx*4+1)/\ci (nx*4+1)<4)(h:Fv n z):(∀i,i<25\/i=47->(Uy (tj n ci z)).2 i=z i)/\(Uy (tj n ci z)).2 46=IntKind.i64.wrap (z 46+1)/\(∀y z',tj n ci z=.Xk y z'->0<y/\y<=3):=by
 by_cases hz:z 45=n
 ·have e:tj n ci z=.Xk 3 (Ji z 46 (IntKind.i64.wrap (z 46+1))):=by unfold tj;rw[if_pos hz]
  rw[e];refine⟨fun i hi=>Qk _ _ E0,jo z 46 _,fun y z' h=>?_⟩;injection h with h _
  omega
 ·have h1:=h.lo;have h2:=h.hi;obtain⟨nx,Fq⟩:∃nx:Nat,(z 45).toNat=nx:=⟨_,rfl⟩;have hR:=gl nx E0 Fq;have f1:∀i,i<25\/i=47->Ni z i=z i:=fun i hi=>by unfold Ni;rw[Qk _ _ E0,Qk _ _ E0]
  have f2:Ni z 46=IntKind.i64.wrap (z 46+1):=by unfold Ni;rw[Qk _ _ E0,jo]
  have g:∀(a:Nat)(v:Int),25<=a->a<=45->(∀i,i<25\/i=47->Ji (Ni z) a v i=z i)/\Ji (Ni z) a v 46=IntKind.i64.wrap (z 46+1):=fun a v ha hb=>⟨fun i hi=>by rw[Qk _ _ E0];exact f1 i hi,by rw[Qk _ _ E0];exact f2⟩;have on:∀(op:Int)(e:Option Int)(a:Nat)(v:Int),25<=a->a<=45->(∀i,i<25\/i=47->(Uy (.on op e (Ji (Ni z) a v))).2 i=z i)/\(Uy (.on op e (Ji (Ni z) a v))).2 46=IntKind.i64.wrap (z 46+1)/\(∀y z',Out.on op e (Ji (Ni z) a v)=.Xk y z'->0<y/\y<=3):=fun op e a v ha hb=>⟨(g a v ha hb).1,(g a v ha hb).2,fun y z' h=>V3⟩;have on0:∀(op:Int)(e:Option Int),(∀i,i<25\/i=47->(Uy (.on op e (Ni z))).2 i=z i)/\(Uy (.on op e (Ni z))).2 46=IntKind.i64.wrap (z 46+1)/\(∀y z',Out.on op e (Ni z)=.Xk y z'->0<y/\y<=3):=fun op e=>⟨f1,f2,fun y z' h=>V3⟩;have br:∀(y:Int),0<y->y<=3->(∀i,i<25\/i=47->(Uy (.Xk y (Ni z))).2 i=z i)/\(Uy (.Xk y (Ni z))).2 46=IntKind.i64.wrap (z 46+1)/\(∀y' z',Out.Xk y (Ni z)=.Xk y' z'->0<y'/\y'<=3):=fun y h0 h3=>⟨f1,f2,fun y' z' h=>by cases h;exact⟨h0,h3⟩⟩;unfold tj;rw[if_neg hz];simp only[Fq];by_cases e1:ci (nx*4)=1
  ·rw[if_pos e1];exact Vf
  rw[if_neg e1];by_cases e2:ci (nx*4)=2
  ·rw[if_pos e2];exact Vf
  rw[if_neg e2];by_cases e3:ci (nx*4)=3
  ·rw[if_pos e3];exact Vf
  rw[if_neg e3];by_cases e4:ci (nx*4)=4
  ·rw[if_pos e4];exact Vf
  rw[if_neg e4];by_cases e5:ci (nx*4)=5
  ·rw[if_pos e5];split
   ·exact br 1 E0 E0
   ·exact Vf
  rw[if_neg e5];by_cases e6:ci (nx*4)=6
  ·rw[if_pos e6];split
   ·exact br 2 E0 E0
   ·exact Vf
  rw[if_neg e6];by_cases e7:ci (nx*4)=7
  ·rw[if_pos e7];split
   ·exact br 2 E0 E0
   ·exact Vf
  rw[if_neg e7];by_cases e8:ci (nx*4)=8
  ·rw[if_pos e8];exact Vf
  rw[if_neg e8];by_cases e9:ci (nx*4)=9
  ·rw[if_pos e9];split
   ·exact Vf
   ·exact on0 _ _
  rw[if_neg e9];by_cases e15:ci (nx*4)=15
  ·rw[if_pos e15];exact on0 _ _
  rw[if_neg e15];exact on0 _ _
theorem RE{n kc:Nat}{ci z:Nat->Int}{ins:List (Int×Int)}{C:Nat->Jl}(gl:uq n kc ci)(h:Fv n z):(∀i,i<25\/i=47->(yq C (jk n ci ins z C)).2.1 i=z i)/\(yq C (jk n ci ins z C)).2.1 46=IntKind.i64.wrap (z 46+1)/\(∀y z',jk n ci ins z C=.Xk y z'->0<y/\y<=3):=by
 by_cases hx:z 45≠n/\Xy (ci ((z 45).toNat*4))
 ·have h1:=h.lo;have h2:=h.hi;obtain⟨-,hR,hA,-,-⟩:=gl (z 45).toNat E0;have e:jk n ci ins z C=.on (ci ((z 45).toNat*4)) Ai (tu ins (ci ((z 45).toNat*4)) (ci ((z 45).toNat*4+1)).toNat (ci ((z 45).toNat*4+2)).toNat (ci ((z 45).toNat*4+3)) (Ni z) C).1 (tu ins (ci ((z 45).toNat*4)) (ci ((z 45).toNat*4+1)).toNat (ci ((z 45).toNat*4+2)).toNat (ci ((z 45).toNat*4+3)) (Ni z) C).2:=by unfold jk;rw[if_pos hx]
  rw[e];have f1:∀i,i<25\/i=47->Ni z i=z i:=fun i hi=>by unfold Ni;rw[Qk _ _ E0,Qk _ _ E0]
  have f2:Ni z 46=IntKind.i64.wrap (z 46+1):=by unfold Ni;rw[Qk _ _ E0,jo]
  have key:∀(op N:Int)(R A:Nat),R<4->A<4->∀i,(i<25\/i=47)\/i=46->(tu ins op R A N (Ni z) C).1 i=Ni z i:=fun op N R A hR hA i hi=>by
   have z1:∀x,Ji (Ni z) (25+R) x i=Ni z i:=fun x=>Qk _ _ E0;have z2:∀x y,Ji (Ji (Ni z) (25+R) x) (25+A) y i=Ni z i:=fun x y=>(Qk _ _ E0).trans (z1 x);unfold tu;simp only[];split
   ·rfl
   split
   ·rfl
   split
   ·split
    ·exact z2 _ _
    ·exact z2 _ _
   split
   ·exact z2 _ _
   split
   ·exact z2 _ _
   ·exact z1 _
  refine⟨fun i hi=>(key _ _ _ _ E0 E0 i (.inl hi)).trans (f1 i hi),(key _ _ _ _ E0 E0 46 (.inr rfl)).trans f2,fun y z' h=>V3⟩
 ·have e:jk n ci ins z C=(tj n ci z).with C:=by unfold jk;rw[if_neg hx]
  obtain⟨k1,k2,k3⟩:=bP (n:=n) (ci:=ci) (z:=z) (fun nx Fq _=>(gl nx Fq).2.1) h;rw[e,gB];refine⟨k1,k2,fun y z' h=>?_⟩;cases hs:tj n ci z with
  |on op e z2=>rw[hs]at h;cases h
  |Xk y2 z2=>rw[hs]at h;cases h;exact k3 _ _ hs
theorem kT{n kc:Nat}{ci z:Nat->Int}{ins:List (Int×Int)}{C:Nat->Jl}(gl:uq n kc ci)(hz:Fv n z)(h:Ro kc C):Ro kc (yq C (jk n ci ins z C)).2.2:=by
 by_cases hx:z 45≠n/\Xy (ci ((z 45).toNat*4))
 ·have h1:=hz.lo;have h2:=hz.hi;obtain⟨-,-,-,-,hN⟩:=gl (z 45).toNat E0;unfold jk;rw[if_pos hx];exact ZN h (fun e=>hN hx.2 e) hx.2
 ·have e:jk n ci ins z C=(tj n ci z).with C:=by unfold jk;rw[if_neg hx]
  rw[e,gB];exact h
structure BA(p:fF)(budget:Nat)(z0:Nat->Int)(C0:Nat->Jl)(j:Nat)(e:Int)(z:Nat->Int)(C:Nat->Jl)(evs:List ti):Prop where
 le:j<=budget
 ev:evs.length<=j
 s46:z 46=IntKind.i64.wrap (z0 46+j)
 old:∀i,i<25\/i=47->z i=z0 i
 run:(e=0/\Fv p.n z/\Fo p budget z0 C0=(evs++(Fo p (budget-j) z C).1,(Fo p (budget-j) z C).2))\/(e=-1/\Fo p budget z0 C0=(evs,1,z,C))\/(0<e/\e<=3/\Fo p budget z0 C0=(evs++[au e (Uk z 47)],3,Uk z,Rn p.fr p.num C))
theorem BA.start{p:fF}{budget:Nat}{z0:Nat->Int}{C0:Nat->Jl}(hz:Fv p.n z0)(h46:IntKind.i64.wrap (z0 46)=z0 46):BA p budget z0 C0 0 0 z0 C0 []:=
 ⟨E0,P0,by simp[h46],fun _ _=>rfl,.inl ⟨rfl,hz,P0⟩⟩
theorem tQ(st:TB):st.sent.length<=1:=by
 cases st with
 |on op e z C=>cases e<;>simp[TB.sent]
 |Xk y z=>simp[TB.sent]
theorem BA.step{p:fF}{kc budget:Nat}{z0 z:Nat->Int}{C0 C:Nat->Jl}{j:Nat}{evs:List ti}(gl:uq p.n kc p.ci)(h:BA p budget z0 C0 j 0 z C evs)(hj:j<budget):BA p budget z0 C0 (j+1) (yq C (jk p.n p.ci p.ins z C)).1 (yq C (jk p.n p.ci p.ins z C)).2.1 (yq C (jk p.n p.ci p.ins z C)).2.2 (evs++(jk p.n p.ci p.ins z C).sent):=by
 rcases h.run with⟨-,hz,hr⟩|⟨he,_⟩|⟨he,_⟩
 ·obtain⟨k1,k2,k3⟩:=RE (ins:=p.ins) (C:=C) gl hz;refine⟨E0,?_,?_,fun i hi=>(k1 i hi).trans (h.old i hi),?_⟩
  ·have:=tQ (jk p.n p.ci p.ins z C);have:=h.ev;simp only[List.length_append];omega
  ·rw[k2,h.s46,IntKind.wrap_i64,IntKind.wrap_i64,IntKind.wrap_i64];omega
  ·have hb:budget-j=(budget-(j+1))+1:=by omega
   rw[hb]at hr;have hzc:∀op e z' C',jk p.n p.ci p.ins z C=.on op e z' C'->Fv p.n z':=fun op e z' C' hs=>by
    obtain⟨b,hb⟩:∃b,qq kc b C:=EC kc C;have:=Hz (ins:=p.ins) gl hz hb;rw[hs]at this;exact this.1
   revert hr hzc k3;simp only[Fo];cases hs:jk p.n p.ci p.ins z C with
   |on op e z' C'=>
    intro hr k3 hzk;by_cases h0:op=0
    ·right;left
     refine⟨by simp[yq,h0],?_⟩;simp only[h0,if_true]at hr;simp only[h0,yq];exact hr
    ·left
     refine⟨by simp[yq,h0],hzk _ _ _ _ rfl,?_⟩;simp only[h0,if_false]at hr;rw[hr,List.append_assoc];rfl
   |Xk y z'=>
    intro hr k3 hzk;right;right;obtain⟨k4,k5⟩:=k3 y z' rfl;refine⟨k4,k5,?_⟩;rw[hr];simp[TB.sent,yq]
 ·omega
 ·omega
structure yn(w:ui)(Gc nC n:Nat)(Q:Nat->RC)(c':RC)(m':Nat)(xs':List ti)(w':ui):Prop where
 row:Ei w' Gc (nC*26) 131 (Sj (fj Q n c'))
 but:ak (fun j=>j=Gc\/(Q n).v.ownBlock=yi j) w w'
 own:w'.ownsRow 0 111 3 c'.v m' xs'
 blk:∀b,c'.v.ownBlock=yi b->(Q n).v.ownBlock=yi b\/w.heap.size<=b
section
variable {w W w1:ui}{Gc nC n m:Nat}{Q:Nat->RC}{c:RC}{xs:List ti}
theorem yn.ne(h:yn w Gc nC n Q c m xs W):c.v.ownBlock≠yi Gc:=xj h.own h.row U0
theorem yn.x80(h:yn w Gc nC n Q c m xs W){j:Nat}{v:ti}{c':RC}(hr:Ei (W.setCell ⟨Gc,j,Ai⟩ v) Gc (nC*26) 131 (Sj (fj Q n c')))(hv:c'.v=c.v):yn w Gc nC n Q c' m xs (W.setCell ⟨Gc,j,Ai⟩ v):=by
 refine⟨hr,⟨h.but.os,h.but.tape,h.but.output,by rw[size_setCell];exact h.but.size,fun k hk hn=>?_⟩,?_,fun b hb=>h.blk b (by rw[<-hv];exact hb)⟩
 ·rw[heap_setCell_other _ _ _ _ (fun e=>hn (.inl e))];exact h.but.block k hk hn
 ·rw[hv];exact Rk h.own fun b hb=>heap_setCell_other _ (a:=⟨Gc,j,Ai⟩) _ _ (fun e=>h.ne (by rw[<-(show b=Gc from e)];exact hb))
theorem yn.s(h:yn w Gc nC n Q c m xs W){a:Nat}(ha:a=n*26+23)(x:Int):yn w Gc nC n Q {c with s:=x} m xs (W.setCell ⟨Gc,a,Ai⟩ (.int .i64 x)):=by
 refine h.x80 ?_ rfl;have:=Ei.rs h.row ha x;rwa [Yk,Oi]at this
theorem yn.z47(h:yn w Gc nC n Q c m xs W){a:Nat}(ha:a=n*26+24)(x:Int):yn w Gc nC n Q {c with z:=Ji c.z 47 x} m xs (W.setCell ⟨Gc,a,Ai⟩ (.int .i64 x)):=by
 refine h.x80 ?_ rfl;have:=Ei.r47 h.row ha x;rwa [Yk,Oi]at this
theorem yn.b(h:yn w Gc nC n Q c m xs W){a:Nat}(ha:a=n*26+25)(x:Bool):yn w Gc nC n Q {c with b:=x} m xs (W.setCell ⟨Gc,a,Ai⟩ (.bool x)):=by
 refine h.x80 ?_ rfl;have:=Ei.rb h.row ha x;rwa [Yk,Oi]at this
theorem yn.drew(h:yn w Gc nC n Q c m xs W):yn w Gc nC n Q c m xs W.drew:=⟨h.row,h.but.drew,h.own,h.blk⟩
theorem yn.log(h:yn w Gc nC n Q c m xs W){o:Obj}{ev:List ti}{g cap a:Nat}(hg:(W.alloc o).grownBy w1 c.v.ownBlock)(ho:w1.ownsRow 0 111 3 (.slice (yi ⟨g,0,Ai⟩) (m+1:Nat) cap) (m+1) (xs++ev))(hat:c.v.ownBlock=yi g\/W.heap.size<=g)(ha:a=n*26+22):
  Ei w1 Gc (nC*26) 131 (Sj (fj Q n c))/\yn w Gc nC n Q {c with v:=.slice (yi ⟨g,0,Ai⟩) (m+1:Nat) cap} (m+1) (xs++ev) (w1.setCell ⟨Gc,a,Ai⟩ (.slice (yi ⟨g,0,Ai⟩) (m+1:Nat) cap)):=by
 have Wi:=h.row.lt;have hs:W.heap.size<=w1.heap.size:=Nat.le_trans P0 hg.size;have kept:∀b,b<W.heap.size->c.v.ownBlock≠yi b->w1.heap[b]?=W.heap[b]?:=fun b hb Jj=>(hg.block b A1 (fun e=>Jj e.symm)).trans (heap_alloc_old W _ hb);have hr:=h.row.of_heap (kept Gc Wi h.ne);refine⟨hr,?_,⟨hg.os.trans h.but.os,hg.tape.trans h.but.tape,hg.output.trans h.but.output,E6,fun k hk hn=>?_⟩,?_,fun b hb=>?_⟩
 ·have:=Ei.rv hr ha (.slice (yi ⟨g,0,Ai⟩) (m+1:Nat) cap);rwa [Yk,Oi]at this
 ·rw[heap_setCell_other _ _ _ _ (fun e=>hn (.inl e)),kept k (Nat.lt_of_lt_of_le hk h.but.size) (fun e=>by
   rcases h.blk k e with e|e
   ·exact hn (.inr e)
   ·omega)]
  exact h.but.block k hk hn
 ·exact Rk ho fun b hb=>heap_setCell_other _ (a:=⟨Gc,a,Ai⟩) _ _ (fun e=>by
   have yE:g=b:=s6;subst yE;have e:=e;subst e;rcases hat with h1|h1
   ·exact h.ne h1
   ·omega)
 ·have yE:g=b:=by simpa[Value.ownBlock]using hb
  subst yE;rcases hat with h1|h1
  ·exact h.blk g h1
  ·exact .inr (Nat.le_trans h.but.size h1)
end
section
variable {w w':ui}{k:Vu}{r:RK}{Q:Nat->RC}{m:Nat->Nat}{xs:Nat->List ti}{n m' nC:Nat}{nl:Nat->List (Int×Int)}{Ls:Nat->Ln}{kind fr:Nat->Int}{F:Int}{inV:ti}{il l':List (Int×Int)}{C':Nat->Jl}{c':RC}{xs':List ti}
theorem Om.clear(h:Om w nC r Q nl Ls F inV il)(hc:c'.nt=.slice Ai 0 0):Om w nC r (fj Q n c') (fj nl n []) Ls F inV il:=by
 have no:∀b,c'.nt.ownBlock≠yi b:=fun b e=>by rw[hc]at e;cases e
 refine⟨h.h5,h.h6,h.h7,h.ino,h.row,h.lo,h.own,h.Un,h.oh,fun i hi=>?_,fun i j hi hj Jj b h1 h2=>?_,fun i b hi h1=>?_⟩
 ·by_cases e:i=n
  ·subst e;rw[Oi,Oi,hc];exact World.ownsRow_nil _ _ _ _
  ·rw[cj _ _ e,cj _ _ e];exact h.yD i hi
 ·by_cases e:i=n
  ·subst e;rw[Oi]at h1;exact no b h1
  ·by_cases e2:j=n
   ·subst e2;rw[Oi]at h2;exact no b h2
   ·rw[cj _ _ e]at h1;rw[cj _ _ e2]at h2;exact h.YF i j hi hj Jj b h1 h2
 ·by_cases e:i=n
  ·subst e;rw[Oi]at h1;exact absurd h1 (no b)
  ·rw[cj _ _ e]at h1;exact h.u_ i b hi h1
theorem Om.Bd0(hN:Om w k.nC r Q nl Ls F inV il)(h:Tn w k r Q m xs)(hn:n<k.nC)(hb:ak (fun j=>j=r.Gc\/(Q n).v.ownBlock=yi j) w w')(hc:(c'.nt=(Q n).nt/\l'=nl n)\/(c'.nt=.slice Ai 0 0/\l'=[])):Om w' k.nC r (fj Q n c') (fj nl n l') Ls F inV il:=by
 rcases hc with⟨h1,rfl⟩|⟨h1,rfl⟩
 ·rw[Zn];exact hN.same h hn hb h1
 ·have h2:=(hN.same (c':={c' with nt:=(Q n).nt}) h hn hb rfl).clear (n:=n) (c':=c') h1;rw[Yk]at h2;exact h2
theorem yn.post(h0:yn w r.Gc k.nC n Q c' m' xs' w')(hN:Om w k.nC r Q nl Ls F inV il)(h:Tn w k r Q m xs)(hn:n<k.nC)(hc:(c'.nt=(Q n).nt/\l'=nl n)\/(c'.nt=.slice Ai 0 0/\l'=[]))(hR:Dl r.kc kind fr (fj nl n l') Ls F C'):dt w k.nC r n Q nl Ls kind fr F inV il C' c'.z c'.s c'.b m' xs' 0 w':=
 ⟨c'.v,c'.nt,l',Ls,by rcases hc with⟨_,rfl⟩|⟨_,rfl⟩<;>simp,⟨h0.row,h0.but.mono fun _ x=>x.elim (fun x=>.inl (.inl x)) (fun x=>.inr (.inl x)),h0.own,h0.blk,fun b hb=>by
  rcases hc with⟨e,_⟩|⟨e,_⟩
  ·rw[<-e];exact .inl hb
  ·have:(Value.slice Ai 0 0).ownBlock=yi b:=by rw[<-e];exact hb
   cases this⟩,hN.Bd0 h hn h0.but hc,hR,fun _ _ _ x=>.inl x⟩
theorem Tn.Ni0(h:Tn w k r Q m xs)(hN:Om w k.nC r Q nl Ls F inV il)(hn:n<k.nC)(h0:yn w r.Gc k.nC n Q c' m' xs' w')(hz:∀j,3<=j->j<25->c'.z j=(Q n).z j):Tn w' k r (fj Q n c') (fj m n m') (fj xs n xs'):=h.aft hN hn h0.row (h0.but.mono fun _ x=>x.elim (fun x=>.inl (.inl x)) (fun x=>.inr (.inl x))) h0.own h0.blk hz
theorem dt.le{z:Nat->Int}{s:Int}{b:Bool}{d d':Nat}(h:dt w nC r n Q nl Ls kind fr F inV il C' z s b m' xs' d w')(hd:d<=d'):dt w nC r n Q nl Ls kind fr F inV il C' z s b m' xs' d' w':=by
 obtain⟨v,nt,l,L,h0,h1⟩:=h;exact⟨v,nt,l,L,E0,h1⟩
end
end Go.Proofs.YtdoghgnifkgfdaaGreat.Mute
