import Derived.Test.YtdoghgnifkgfdaaGreatA17
set_option maxRecDepth 100000
set_option maxHeartbeats 16000000
open Option renaming none->Hn,some->Gn
open Go renaming World->En,Value->Dn,heap_setCell_other->yn,Calls->Zm,Addr->Vm
open Bool renaming true->Um,false->Tm
open Nat renaming le_trans->Qm,zero_le->Pm,le_refl->Om,lt_of_lt_of_le->Lm,add_assoc->Jm
namespace Go.Proofs.YtdoghgnifkgfdaaGreat.Mute
open Tryz Go Go.Conc Go.RowKit
structure IX where
 tb:Nat
 cT:Nat
 nT:Nat
 ws:Nat->Nat
 wo:Nat->Nat
 cw:Nat->Nat
 nw:Nat->Nat
 wn:Nat->Nat->Nat×Nat
def bA(k:RA)(K:Ys)(wn:Nat->Nat×Nat)(nw:Nat)(ins:List (Int×Int))(s:yC):yC:=
 {Hv k K ins wn nw 0 s with D:=MH K.k (Hv k K ins wn nw 0 s).D}
def Yv(k:Nat)(C:Nat->Us):Prop:=∀i,i<k->(C i).wait.length<=4
theorem Yv.set{k i:Nat}{C:Nat->Us}(h:Yv k C){c:Us}(hc:c.wait.length<=4):Yv k (uN C i c):=fun j hj=>by
 by_cases e:j=i
 ·subst e;rw[qt];exact hc
 ·rw[Vy _ _ e];exact h j hj
theorem TU{ins:List (Int×Int)}{op N:Int}{R A k:Nat}{z:Nat->Int}{C:Nat->Us}(h:Yv k C)(hN:op≠14->0<=N/\N<k)(ep:pF op):Yv k (qA ins op R A N z C).2:=by
 unfold qA;simp only[];by_cases mU:op=14
 ·subst mU;simpa using h
 have hc:=h N.toNat (by have:=hN mU;omega);rcases ep with rfl|rfl|rfl|rfl|rfl|rfl
 ·exact h.set hc
 ·exact h.set hc
 ·cases hw:(C N.toNat).wait with
  |nil=>simpa[hw]using h
  |cons x l=>
   rw[hw]at hc;simp at hc;exact h.set (by show l.length<=4;omega)
 ·exact h
 ·exact absurd rfl mU
 ·exact h.set hc
theorem KJ{p:TI}{kc:Nat}(Yr:yx p.n kc p.ci):∀(k:Nat)(z:Nat->Int)(C:Nat->Us),aB p.n z->Yv kc C->Yv kc (Kv p k z C).2.2.2
 |0,_,_,_,h=>h
 |k+1,z,C,hz,h=>by
  have hs:=zF (ins:=p.ins) (b:=0) (C:=fun _=>⟨[],[],0,0,0,0,Tm⟩) Yr hz fun _ _=>⟨Om _,Om _⟩;have h1:=hz.lo;have h2:=hz.hi;simp only[Kv];by_cases hx:z 45≠p.n/\pF (p.ci ((z 45).toNat*4))
  ·obtain⟨_,hR,hA,_,hN⟩:=Yr (z 45).toNat E0;have e:Pq p.n p.ci p.ins z C=.on (p.ci ((z 45).toNat*4)) Hn (qA p.ins (p.ci ((z 45).toNat*4)) (p.ci ((z 45).toNat*4+1)).toNat (p.ci ((z 45).toNat*4+2)).toNat (p.ci ((z 45).toNat*4+3)) (Xn z) C).1 (qA p.ins (p.ci ((z 45).toNat*4)) (p.ci ((z 45).toNat*4+1)).toNat (p.ci ((z 45).toNat*4+2)).toNat (p.ci ((z 45).toNat*4+3)) (Xn z) C).2:=by
    unfold Pq;rw[if_pos hx]
   have hw:=TU (ins:=p.ins) (R:=(p.ci ((z 45).toNat*4+1)).toNat) (A:=(p.ci ((z 45).toNat*4+2)).toNat) (z:=Xn z) h (fun e=>hN hx.2 e) hx.2;have hzz:=J70 (ins:=p.ins) (op:=p.ci ((z 45).toNat*4)) (N:=p.ci ((z 45).toNat*4+3)) (C:=C) (YE hz hx.1) (R:=(p.ci ((z 45).toNat*4+1)).toNat) (A:=(p.ci ((z 45).toNat*4+2)).toNat) E0 E0;rw[e];by_cases h0:p.ci ((z 45).toNat*4)=0
   ·simp only[h0,if_true];rw[h0]at hw;exact hw
   ·simp only[h0,if_false];exact KJ Yr k _ _ hzz hw
  ·have e:∀D,Pq p.n p.ci p.ins z D=(dp p.n p.ci z).with D:=fun D=>by unfold Pq;rw[if_neg hx]
   rw[e]at hs ⊢;revert hs;cases dp p.n p.ci z with
   |on op e z'=>
    intro hs;by_cases h0:op=0
    ·simp only[kU.with,h0,if_true];exact h
    ·simp only[kU.with,h0,if_false];exact KJ Yr k _ _ hs.1 h
   |Xr y z'=>
    intro _ i hi;show (Ru p.fr p.num C i).wait.length<=4;unfold Ru;split
    ·exact h i hi
    ·exact h i hi
theorem MI{p:TI}{kc:Nat}(Yr:yx p.n kc p.ci)(budget:Nat){z:Nat->Int}{C:Nat->Us}(hz:aB p.n z)(h:Yv kc C):Yv kc (Uo p budget z C).2.2:=by
 show Yv kc (uE p budget z C).2.2.2;unfold uE;split
 ·exact h
 ·exact KJ Yr budget z C hz h
theorem qI:∀(k:Nat)(C:Nat->Us),∃b,ox k b C
 |0,_=>⟨0,fun _ h=>absurd h (Nat.not_lt_zero _)⟩
 |k+1,C=>by
  obtain⟨b,hb⟩:=qI k C;refine⟨b+(C k).sent.length+(C k).wait.length,fun i hi=>?_⟩;by_cases e:i=k
  ·subst e;omega
  ·have:=hb i E0;omega
section
variable {k:RA}{K:Ys}{ins:List (Int×Int)}{wn:Nat->Nat×Nat}
theorem GN(Yr:∀i,i<k.nC->yx (k.n i) K.k (k.ci i)):∀(ez j:Nat)(s:yC),(∀i,j<=i->i<j+ez->(wn i).1<k.nC)->(∀i,i<k.nC->aB (k.n i) (s.z i))->Yv K.k s.D->Yv K.k (Hv k K ins wn ez j s).D
 |0,_,_,_,_,h=>h
 |ez+1,j,s,hw,hz,h=>by
  have hc:=hw j N8 E0;refine GN Yr ez (j+1) (jD k K ins (wn j) s) (fun i h1 h2=>hw i E0 E0) (fun i hi=>?_) (MI (p:=Yw k K ins (wn j).1) (Yr _ hc) _ (hz _ hc) h);show aB _ (Qo s.z (wn j).1 _ i);by_cases e:i=(wn j).1
  ·subst e;rw[Yn];obtain⟨b,hb⟩:=qI K.k s.D;exact(jH (p:=Yw k K ins (wn j).1) (Yr _ hc) _ (hz _ hc) hb).1
  ·refine Xk ?_;exact hz i hi
end
theorem KU{k:Nat}{C:Nat->Us}(h:Yv k C):ox k 4 (MH k C):=fun i hi=>by
 have e:MH k C i=yB (az (C i)):=by unfold MH pz;rw[if_pos hi,if_pos hi]
 have hs:∀c:Us,(yB c).sent=c.sent/\(yB c).wait=c.wait:=fun c=>by
  unfold yB;split
  ·exact Xl
  ·split
   ·exact Xl
   ·exact Xl
 rw[e,(hs _).1,(hs _).2];exact⟨Pm _,D70 (h i hi)⟩
def SB(k:RA)(K:Ys)(t:IX)(b:Nat):Prop:=b=k.C\/b=K.nb\/(0<K.k/\b=K.eb)\/b=t.tb\/(∃i,i<k.nC/\b=k.cb i)\/∃i,i<t.nT/\b=t.ws i
structure Ix(w:En)(k:RA)(K:Ys)(t:IX)(s:yC)(f:Nat->Dn)(lr:Nat->Option Jp)(r:Nat)(S:Nat->Prop):Prop where
 OI:wH w k K
 dyn:qD w k K s f lr
 len:ox K.k 4 s.D
 qG:Tn w k.kb 5 94 (tA (.slice (Gn ⟨t.tb,0,Hn⟩) t.nT t.cT) (.int .i64 r) (.slice (Gn ⟨k.C,0,Hn⟩) k.nC k.cC) (.pointer (Gn ⟨K.nb,0,Hn⟩)) (.slice (Gn ⟨k.T,0,Hn⟩) k.nC k.nC))
 stb:Ws w t.tb
 rows:∀i,i<t.nT->w.cell? ⟨t.tb,i,Hn⟩=Gn (.slice (Gn ⟨t.ws i,t.wo i,Hn⟩) (t.nw i) (t.cw i))
 sW:∀i,i<t.nT->Ws w (t.ws i)
 c0:∀i,i<t.nT->∀j,j<t.nw i->w.cell? ⟨t.ws i,t.wo i+j*2,Hn⟩=Gn (.int .i64 (t.wn i j).1)
 c1:∀i,i<t.nT->∀j,j<t.nw i->w.cell? ⟨t.ws i,t.wo i+j*2+1,Hn⟩=Gn (.int .i64 (t.wn i j).2)
 rlt:r<t.nT
 nT:t.nT<=1000
 nw:∀i,i<t.nT->t.nw i<=6
 wnb:∀i,i<t.nT->∀j,j<t.nw i->(t.wn i j).1<k.nC/\(t.wn i j).2<=200
 pH:∀b,b=k.kb\/SB k K t b\/DB k K f lr b->S b
 sz:∀b,S b->b<w.heap.size
 p20:∀b,SB k K t b->b≠k.kb
section
variable {w w':En}{k:RA}{K:Ys}{t:IX}{s:yC}{f:Nat->Dn}{lr:Nat->Option Jp}{r:Nat}{S:Nat->Prop}
theorem Ix.keep(h:Ix w k K t s f lr r S)(hk:∀b,S b->w'.heap[b]?=w.heap[b]?)(hs:w.heap.size<=w'.heap.size):Ix w' k K t s f lr r S:=by
 have hkb:=hk k.kb (h.pH _ (.inl rfl));have hSB:∀b,SB k K t b->w'.heap[b]?=w.heap[b]?:=fun b hb=>hk b (h.pH _ (.inr (.inl hb)));have htb:=hSB t.tb (.inr (.inr (.inr (.inl rfl))));have QY:∀i,i<t.nT->w'.heap[t.ws i]?=w.heap[t.ws i]?:=fun i hi=>hSB _ (.inr (.inr (.inr (.inr (.inr ⟨i,hi,rfl⟩)))));refine⟨h.OI.N80 (Zn (a:=⟨k.kb,2,Hn⟩) hkb) (Zn (a:=⟨k.kb,4,Hn⟩) hkb) (h.OI.EW.of_heap hkb) fun b hb=>hSB b ?_,h.dyn.keep fun b hb=>hk b (h.pH _ (.inr (.inr hb))),h.len,h.qG.of_heap hkb,h.stb.of_heap htb,fun i hi=>(Zn (a:=⟨t.tb,i,Hn⟩) htb).trans (h.rows i hi),fun i hi=>(h.sW i hi).of_heap (QY i hi),fun i hi j hj=>(Zn (a:=⟨t.ws i,t.wo i+j*2,Hn⟩) (QY i hi)).trans (h.c0 i hi j hj),fun i hi j hj=>(Zn (a:=⟨t.ws i,t.wo i+j*2+1,Hn⟩) (QY i hi)).trans (h.c1 i hi j hj),h.rlt,h.nT,h.nw,h.wnb,h.pH,fun b hb=>Lm (h.sz b hb) hs,h.p20⟩;rcases hb with hb|hb|hb|hb
 ·exact .inl hb
 ·exact .inr (.inl hb)
 ·exact .inr (.inr (.inl hb))
 ·exact .inr (.inr (.inr (.inr (.inl hb))))
theorem Ix.sub{S':Nat->Prop}(h:Ix w k K t s f lr r S)(hs:∀b,S b->S' b)(hz:∀b,S' b->b<w.heap.size):Ix w k K t s f lr r S':=
 ⟨h.OI,h.dyn,h.len,h.qG,h.stb,h.rows,h.sW,h.c0,h.c1,h.rlt,h.nT,h.nw,h.wnb,fun b hb=>hs b (h.pH b hb),hz,h.p20⟩
theorem Ix.frame(h:Ix w k K t s f lr r S)(hm:∀i,s.m i+1300<=1000000000){ip:Option Vm}{il ic:Nat}{ins:List (Int×Int)}(iu:InW w (.slice ip il ic) ins (Ws w))(CY:il<=4):
  Ip prog 15 #[.pointer (Gn ⟨k.kb,0,Hn⟩),.slice ip il ic] w (fun v w'=>v=.int .i64 0/\∃f' Oy,Ix w' k K t (bA k K (t.wn r) (t.nw r) ins s) f' Oy ((r+1)%t.nT) (fun b=>S b\/(w.heap.size<=b/\b<w'.heap.size))/\Jq S w w'):=by
 have uX:=h.rlt;have hnw:=h.nw r uX;have Od0:Yv K.k (Hv k K ins (t.wn r) (t.nw r) 0 s).D:=GN h.OI.ok _ _ _ (fun i _ hi=>(h.wnb r uX i E0).1) h.dyn.zok fun i hi=>(h.len i hi).2;refine(TR h.OI h.dyn (h.qG.cell (j:=0) E0) (h.qG.cell (j:=1) E0) (h.qG.cell (j:=3) E0) (h.qG.frozen 1) h.stb (h.rows r uX) uX h.nT (h.sW r uX) (h.c0 r uX) (h.c1 r uX) E0 (h.wnb r uX) (fun i=>by have:=hm i;have:t.nw r*201<=6*201:=Nat.mul_le_mul_right _ hnw;omega) h.len Od0 iu CY).mono ?_;rintro v w' ⟨rfl,f',Oy,w1,d,hF,rfl⟩;refine⟨rfl,f',Oy,?_⟩;have hnr:(((r:Int)+1).tmod t.nT)=(((r+1)%t.nT:Nat):Int):=by
  rw[Int.tmod_eq_emod_of_nonneg E0];simp
 rw[hnr];have Jx:w.heap.size<=w1.heap.size:=hF.ph.2.2.2;have hK1:=h.qG.of_heap (hF.st h.OI.EW);have hK2:=(Tn.L90 hK1 (.int .i64 (((r+1)%t.nT:Nat):Int))).2.1;have ne2:∀{b:Nat},b≠k.kb->(w1.setCell ⟨k.kb,1,Hn⟩ (.int .i64 (((r+1)%t.nT:Nat):Int))).heap[b]?=w1.heap[b]?:=fun hb=>yn _ _ _ _ hb;have uy:(w1.setCell ⟨k.kb,1,Hn⟩ (.int .i64 (((r+1)%t.nT:Nat):Int))).heap.size=w1.heap.size:=size_setCell _ _ _;have hS1:=hF.Kg0;have dne:∀b,DB k K f' Oy b->b≠k.kb:=fun b hb e=>hS1.EW.Sd0 hF.dyn (e▸hb);have pf0:=hF.dyn.keep (w':=w1.setCell ⟨k.kb,1,Hn⟩ (.int .i64 (((r+1)%t.nT:Nat):Int))) fun b hb=>ne2 (dne b hb);have stF:∀b,Ws w b->b≠k.kb->(w1.setCell ⟨k.kb,1,Hn⟩ (.int .i64 (((r+1)%t.nT:Nat):Int))).heap[b]?=w.heap[b]?:=fun b hs Yp=>(ne2 Yp).trans (hF.st hs);have gq0:Ws (w1.setCell ⟨k.kb,1,Hn⟩ (.int .i64 (((r+1)%t.nT:Nat):Int))) k.kb:=by
  obtain⟨cs,hh,_⟩:=hK2;exact Ih
 have Pf0:wH (w1.setCell ⟨k.kb,1,Hn⟩ (.int .i64 (((r+1)%t.nT:Nat):Int))) k K:=by
  refine hS1.N80 ((hK2.cell (j:=2) E0).trans (hK1.cell (j:=2) E0).symm) ((hK2.cell (j:=4) E0).trans (hK1.cell (j:=4) E0).symm) gq0 fun b hb=>ne2 (h.p20 b ?_);rcases hb with hb|hb|hb|hb
  ·exact .inl hb
  ·exact .inr (.inl hb)
  ·exact .inr (.inr (.inl hb))
  ·exact .inr (.inr (.inr (.inr (.inl hb))))
 have sl0:=h.p20 t.tb (.inr (.inr (.inr (.inl rfl))));have Qg0:∀i,i<t.nT->t.ws i≠k.kb:=fun i hi=>h.p20 _ (.inr (.inr (.inr (.inr (.inr ⟨i,hi,rfl⟩)))));have hDB:∀b,DB k K f' Oy b->S b\/(w.heap.size<=b/\b<w1.heap.size):=fun b hb=>by
  have yo:=hF.dyn.lt hb;rcases hb with hb|hb|⟨i,hi,hb|hb⟩
  ·exact .inl (h.pH b (.inr (.inr (.inl hb))))
  ·rcases hF.fn b hb with e|e
   ·exact .inl (h.pH b (.inr (.inr (.inr (.inl e)))))
   ·exact .inr ⟨e,yo⟩
  ·exact .inl (h.pH b (.inr (.inr (.inr (.inr ⟨i,hi,.inl hb⟩)))))
  ·rcases hF.fo i b hi hb with e|e
   ·exact .inl (h.pH b (.inr (.inr (.inr (.inr ⟨i,hi,.inr e⟩)))))
   ·exact .inr ⟨e,yo⟩
 have Qj0:Ix (w1.setCell ⟨k.kb,1,Hn⟩ (.int .i64 (((r+1)%t.nT:Nat):Int))) k K t (bA k K (t.wn r) (t.nw r) ins s) f' Oy ((r+1)%t.nT) (fun b=>S b\/(w.heap.size<=b/\b<w1.heap.size)):=
  ⟨Pf0,pf0,KU Od0,hK2,h.stb.of_heap (stF _ h.stb sl0),fun i hi=>(Zn (a:=⟨t.tb,i,Hn⟩) (stF _ h.stb sl0)).trans (h.rows i hi),fun i hi=>(h.sW i hi).of_heap (stF _ (h.sW i hi) (Qg0 i hi)),fun i hi j hj=>(Zn (a:=⟨t.ws i,t.wo i+j*2,Hn⟩) (stF _ (h.sW i hi) (Qg0 i hi))).trans (h.c0 i hi j hj),fun i hi j hj=>(Zn (a:=⟨t.ws i,t.wo i+j*2+1,Hn⟩) (stF _ (h.sW i hi) (Qg0 i hi))).trans (h.c1 i hi j hj),Nat.mod_lt _ E0,h.nT,h.nw,h.wnb,fun b hb=>by
   rcases hb with hb|hb|hb
   ·exact .inl (h.pH b (.inl hb))
   ·exact .inl (h.pH b (.inr (.inl hb)))
   ·exact hDB b hb,fun b hb=>by
   rw[uy];rcases hb with hb|hb
   ·exact Lm (h.sz b hb) Jx
   ·exact hb.2,h.p20⟩
 refine⟨(Qj0.keep (w':=(w1.setCell ⟨k.kb,1,Hn⟩ (.int .i64 (((r+1)%t.nT:Nat):Int))).at d) (fun _ _=>rfl) N8).sub (fun b hb=>?_) (fun b hb=>?_),⟨hF.ph.1,hF.ph.2.2.1,hF.ph.2.1,?_,fun b hb hn=>?_⟩⟩
 ·show S b\/(w.heap.size<=b/\b<(w1.setCell ⟨k.kb,1,Hn⟩ (.int .i64 (((r+1)%t.nT:Nat):Int))).heap.size);rw[uy];exact hb
 ·have hb:S b\/(w.heap.size<=b/\b<(w1.setCell ⟨k.kb,1,Hn⟩ (.int .i64 (((r+1)%t.nT:Nat):Int))).heap.size):=hb;show b<(w1.setCell ⟨k.kb,1,Hn⟩ (.int .i64 (((r+1)%t.nT:Nat):Int))).heap.size;rcases hb with hb|hb
  ·rw[uy];exact Lm (h.sz b hb) Jx
  ·exact hb.2
 ·show w.heap.size<=(w1.setCell ⟨k.kb,1,Hn⟩ (.int .i64 (((r+1)%t.nT:Nat):Int))).heap.size;rw[uy];exact Jx
 ·show (w1.setCell ⟨k.kb,1,Hn⟩ (.int .i64 (((r+1)%t.nT:Nat):Int))).heap[b]?=w.heap[b]?;rw[ne2 (fun e=>hn (h.pH b (.inl e)))];exact hF.ft b hb fun e=>hn (h.pH b (.inr (.inr e)))
end
def ZE(k:Nat)(img z:Nat->Int)(j:Nat):Int:=if 25<=j/\j<45 then (if 29<=j/\j<29+k then img (j-29)else 0)else z j
def ZB(m:Nat)(img z:Nat->Int)(j:Nat):Int:=if 25<=j/\j<46 then (if 29<=j/\j<29+m then img (j-29)else 0)else z j
section
variable {w:En}{G m t n i a:Nat}{R:Nat->RC}
theorem cV{img z:Nat->Int}{k:Nat}(hk:k<16)(j:Nat)(_:(25<=j/\j<46)\/j=47):Wn (ZE k img z) (25+(4+k)) (img k) j=ZE (k+1) img z j:=by
 rw[QA];by_cases e:j=25+(4+k)
 ·rw[if_pos e];unfold ZE;rw[if_pos E0,if_pos E0,show j-29=k by omega]
 ·rw[if_neg e];unfold ZE;by_cases h:25<=j/\j<45
  ·rw[if_pos h,if_pos h];by_cases h1:29<=j/\j<29+k
   ·rw[if_pos h1,if_pos E0]
   ·rw[if_neg h1,if_neg E0]
  ·exact Rl
theorem vY{img z:Nat->Int}{k:Nat}(hk:k<=16)(j:Nat)(_:(25<=j/\j<46)\/j=47):Wn (ZE k img z) (25+20) 0 j=ZB k img z j:=by
 rw[QA];by_cases e:j=25+20
 ·rw[if_pos e];unfold ZB;rw[if_pos E0,if_neg E0]
 ·rw[if_neg e];unfold ZE ZB;by_cases h:25<=j/\j<45
  ·have h2:25<=j/\j<46:=by omega
   simp only[if_pos h,if_pos h2]
  ·rw[if_neg h,if_neg E0]
end
theorem aF(Kb Gc n nC NI bo oo nI Qi0 t:Nat)(q:Option Vm)(z:Nat->Int)(R:Nat->RC)(w:En)(h0:w.cell? ⟨Kb,0,Hn⟩=Gn (.slice (Gn ⟨bo,oo,Hn⟩) nC NI))(h4:w.cell? ⟨Kb,4,Hn⟩=Gn (.slice (Gn ⟨Gc,0,Hn⟩) nC nC))
  (hi:w.cell? ⟨bo,oo+n*3+1,Hn⟩=Gn (.slice q nI Qi0))(hs:Sl w q nI (fun j=>.int .i64 (z j)))(hr:Tn w Gc (nC*26) t (yq R))(hn:n<nC)(h16:nI<=16)(g1:Kb≠Gc)(g2:bo≠Gc)(g3:∀b o,q=Gn ⟨b,o,Hn⟩->b≠Gc):
  Zm prog 73 #[.pointer (Gn ⟨Kb,0,Hn⟩),.int .i64 n] w fun e w'=>e=.returned (.tuple #[])/\w.grownBy w' (Gn Gc)/\Tn w' Gc (nC*26) t (yq (Qo R n {R n with z:=ZB nI z (R n).z,nt:=.slice Hn 0 0})):=by
 have HR:Hid (Tn w Gc (nC*26) t (yq R)):=hr;generalize hff:yq R=ff at hr;have HFF:Hid (yq R=ff):=hff;clear hff;have hf:=hr;clear hr;have e0:=hf.cell (j:=n*26) E0;have f0:=hf.frozen (n*26);have e1:=hf.cell (j:=n*26+1) E0;have f1:=hf.frozen (n*26+1);have e2:=hf.cell (j:=n*26+2) E0;have f2:=hf.frozen (n*26+2);have e3:=hf.cell (j:=n*26+3) E0;have f3:=hf.frozen (n*26+3);have e4:=hf.cell (j:=n*26+4) E0;have f4:=hf.frozen (n*26+4);have e5:=hf.cell (j:=n*26+5) E0;have f5:=hf.frozen (n*26+5);have e6:=hf.cell (j:=n*26+6) E0;have f6:=hf.frozen (n*26+6);have e7:=hf.cell (j:=n*26+7) E0;have f7:=hf.frozen (n*26+7);have e8:=hf.cell (j:=n*26+8) E0;have f8:=hf.frozen (n*26+8);have e9:=hf.cell (j:=n*26+9) E0;have f9:=hf.frozen (n*26+9);have e10:=hf.cell (j:=n*26+10) E0;have f10:=hf.frozen (n*26+10);have e11:=hf.cell (j:=n*26+11) E0;have f11:=hf.frozen (n*26+11);have e12:=hf.cell (j:=n*26+12) E0;have f12:=hf.frozen (n*26+12);have e13:=hf.cell (j:=n*26+13) E0;have f13:=hf.frozen (n*26+13);have e14:=hf.cell (j:=n*26+14) E0;have f14:=hf.frozen (n*26+14);have e15:=hf.cell (j:=n*26+15) E0;have f15:=hf.frozen (n*26+15);have e16:=hf.cell (j:=n*26+16) E0;have f16:=hf.frozen (n*26+16);have e17:=hf.cell (j:=n*26+17) E0;have f17:=hf.frozen (n*26+17);have e18:=hf.cell (j:=n*26+18) E0;have f18:=hf.frozen (n*26+18);have e19:=hf.cell (j:=n*26+19) E0;have f19:=hf.frozen (n*26+19);have e20:=hf.cell (j:=n*26+20) E0;have f20:=hf.frozen (n*26+20);have e21:=hf.cell (j:=n*26+21) E0;have f21:=hf.frozen (n*26+21);have e5':w.cell? ⟨Gc,n*26+4+1,Hn⟩=Gn (ff (n*26+5)):=e5;have f5':w.frozen? ⟨Gc,n*26+4+1,Hn⟩=false:=f5;have e6':w.cell? ⟨Gc,n*26+4+2,Hn⟩=Gn (ff (n*26+6)):=e6;have f6':w.frozen? ⟨Gc,n*26+4+2,Hn⟩=false:=f6;have e7':w.cell? ⟨Gc,n*26+4+3,Hn⟩=Gn (ff (n*26+7)):=e7;have f7':w.frozen? ⟨Gc,n*26+4+3,Hn⟩=false:=f7;have e8':w.cell? ⟨Gc,n*26+4+4,Hn⟩=Gn (ff (n*26+8)):=e8;have f8':w.frozen? ⟨Gc,n*26+4+4,Hn⟩=false:=f8;have e9':w.cell? ⟨Gc,n*26+4+5,Hn⟩=Gn (ff (n*26+9)):=e9;have f9':w.frozen? ⟨Gc,n*26+4+5,Hn⟩=false:=f9;have Wi0:w.cell? ⟨Gc,n*26+4+6,Hn⟩=Gn (ff (n*26+10)):=e10;have kj0:w.frozen? ⟨Gc,n*26+4+6,Hn⟩=false:=f10;have Xi0:w.cell? ⟨Gc,n*26+4+7,Hn⟩=Gn (ff (n*26+11)):=e11;have lj0:w.frozen? ⟨Gc,n*26+4+7,Hn⟩=false:=f11;have Yi0:w.cell? ⟨Gc,n*26+4+8,Hn⟩=Gn (ff (n*26+12)):=e12;have mj0:w.frozen? ⟨Gc,n*26+4+8,Hn⟩=false:=f12;have Zi0:w.cell? ⟨Gc,n*26+4+9,Hn⟩=Gn (ff (n*26+13)):=e13;have nj0:w.frozen? ⟨Gc,n*26+4+9,Hn⟩=false:=f13;have aj0:w.cell? ⟨Gc,n*26+4+10,Hn⟩=Gn (ff (n*26+14)):=e14;have oj0:w.frozen? ⟨Gc,n*26+4+10,Hn⟩=false:=f14;have bj0:w.cell? ⟨Gc,n*26+4+11,Hn⟩=Gn (ff (n*26+15)):=e15;have pj0:w.frozen? ⟨Gc,n*26+4+11,Hn⟩=false:=f15;have cj0:w.cell? ⟨Gc,n*26+4+12,Hn⟩=Gn (ff (n*26+16)):=e16;have qj0:w.frozen? ⟨Gc,n*26+4+12,Hn⟩=false:=f16;have dj0:w.cell? ⟨Gc,n*26+4+13,Hn⟩=Gn (ff (n*26+17)):=e17;have rj0:w.frozen? ⟨Gc,n*26+4+13,Hn⟩=false:=f17;have ej0:w.cell? ⟨Gc,n*26+4+14,Hn⟩=Gn (ff (n*26+18)):=e18;have sj0:w.frozen? ⟨Gc,n*26+4+14,Hn⟩=false:=f18;have fj0:w.cell? ⟨Gc,n*26+4+15,Hn⟩=Gn (ff (n*26+19)):=e19;have tj0:w.frozen? ⟨Gc,n*26+4+15,Hn⟩=false:=f19;have HS:Hid (Sl w q nI (fun j=>.int .i64 (z j))):=hs;have HG3:Hid (∀b o,q=Gn ⟨b,o,Hn⟩->b≠Gc):=g3;clear hs g3 hf e5 e6 e7 e8 e9 e10 e11 e12 e13 e14 e15 e16 e17 e18 e19 f5 f6 f7 f8 f9 f10 f11 f12 f13 f14 f15 f16 f17 f18 f19
 go_enter func73,ntmps73
 go_wp2_with fail
 go_loopw [5] (fun i wr=>∃k:Nat,k<=nI/\i=.int .i64 k/\Hid (w.grownBy wr (Gn Gc))/\Hid (Tn wr Gc (nC*26) t (yq (Qo R n {R n with z:=ZE k z (R n).z})))) (fun i _=>nI-(intOf i).toNat)
 case atStart=>
  refine⟨0,Pm _,rfl,?_,?_⟩
  ·show World.grownBy _ _ _;iterate 20 refine Wq ?_ _ _
   exact World.grownBy.refl _ _
  ·show Tn _ _ _ _ _;have H:=Tn.r0 HR.out n;replace H:=Tn.ZF (i:=0) (a:=n*26) H E0 E0 0;replace H:=Tn.ZF (i:=1) (a:=n*26+1) H E0 E0 0;replace H:=Tn.ZF (i:=2) (a:=n*26+2) H E0 E0 0;replace H:=Tn.ZF (i:=3) (a:=n*26+3) H E0 E0 0;replace H:=Tn.ZF (i:=4) (a:=n*26+4) H E0 E0 0;replace H:=Tn.ZF (i:=5) (a:=n*26+4+1) H E0 E0 0;replace H:=Tn.ZF (i:=6) (a:=n*26+4+2) H E0 E0 0;replace H:=Tn.ZF (i:=7) (a:=n*26+4+3) H E0 E0 0;replace H:=Tn.ZF (i:=8) (a:=n*26+4+4) H E0 E0 0;replace H:=Tn.ZF (i:=9) (a:=n*26+4+5) H E0 E0 0;replace H:=Tn.ZF (i:=10) (a:=n*26+4+6) H E0 E0 0;replace H:=Tn.ZF (i:=11) (a:=n*26+4+7) H E0 E0 0;replace H:=Tn.ZF (i:=12) (a:=n*26+4+8) H E0 E0 0;replace H:=Tn.ZF (i:=13) (a:=n*26+4+9) H E0 E0 0;replace H:=Tn.ZF (i:=14) (a:=n*26+4+10) H E0 E0 0;replace H:=Tn.ZF (i:=15) (a:=n*26+4+11) H E0 E0 0;replace H:=Tn.ZF (i:=16) (a:=n*26+4+12) H E0 E0 0;replace H:=Tn.ZF (i:=17) (a:=n*26+4+13) H E0 E0 0;replace H:=Tn.ZF (i:=18) (a:=n*26+4+14) H E0 E0 0;replace H:=Tn.ZF (i:=19) (a:=n*26+4+15) H E0 E0 0;refine Tn.rc H ?_;intro j hj;have:j=25\/j=26\/j=27\/j=28\/j=29\/j=30\/j=31\/j=32\/j=33\/j=34\/j=35\/j=36\/j=37\/j=38\/j=39\/j=40\/j=41\/j=42\/j=43\/j=44\/j=45\/j=47:=by omega
   rcases this with rfl|rfl|rfl|rfl|rfl|rfl|rfl|rfl|rfl|rfl|rfl|rfl|rfl|rfl|rfl|rfl|rfl|rfl|rfl|rfl|rfl|rfl<;>rfl
 case round=>
  obtain⟨k,hk,rfl,HG,HRr⟩:=hrel;have m0:=HG.out.cell h0 (by simpa using g1);have m4:=HG.out.cell h4 (by simpa using g1);have mi:=HG.out.cell hi M5;have aE:=HRr.out;generalize hfq:yq (Qo R n {R n with z:=ZE k z (R n).z})=fq at aE;clear hfq;by_cases yo:k<nI
  ·obtain⟨bq,oq,rfl,hc⟩:=HS.out.at E0;have c0:=HG.out.cell (hc k yo) (by simpa using HG3.out bq oq rfl);have ek:=aE.cell (j:=n*26+4+k) E0;have fk:=aE.frozen (n*26+4+k);have w0':∀(W:En)(v:Dn),(W.setCell ⟨Gc,n*26+4+k,Hn⟩ v).cell? ⟨Kb,0,Hn⟩=W.cell? ⟨Kb,0,Hn⟩:=fun W v=>World.cell?_setCell_other _ _ _ _ (fun e=>U2);have w1':∀(W:En)(v:Dn),(W.setCell ⟨Gc,n*26+4+k,Hn⟩ v).cell? ⟨bo,oo+n*3+1,Hn⟩=W.cell? ⟨bo,oo+n*3+1,Hn⟩:=fun W v=>World.cell?_setCell_other _ _ _ _ (fun e=>U2);have hbq:bq≠Gc:=HG3.out bq oq rfl;have w2':∀(W:En)(v:Dn),(W.setCell ⟨Gc,n*26+4+k,Hn⟩ v).cell? ⟨bq,oq+k,Hn⟩=W.cell? ⟨bq,oq+k,Hn⟩:=fun W v=>World.cell?_setCell_other _ _ _ _ (fun e=>U2);have ik0:(0:Int)<=(k:Int):=by omega
   have ik1:(k:Int)<16:=E0;have ik2:(k:Int)<(nI:Int):=E0;clear e0 f0 e1 f1 e2 f2 e3 f3 e4 f4 e20 f20 e21 f21 e5' f5' e6' f6' e7' f7' e8' f8' e9' f9' Wi0 kj0 Xi0 lj0 Yi0 mj0 Zi0 nj0 aj0 oj0 bj0 pj0 cj0 qj0 dj0 rj0 ej0 sj0 fj0 tj0 hc aE;go_wp2_with fail;go_region_held3 (fun W=>W.cell? ⟨Kb,0,Hn⟩=Gn (.slice (Gn ⟨bo,oo,Hn⟩) nC NI)/\W.cell? ⟨bo,oo+n*3+1,Hn⟩=Gn (.slice (Gn ⟨bq,oq,Hn⟩) nI Qi0)/\W.cell? ⟨bq,oq+k,Hn⟩=Gn (.int .i64 (z k))) (go_keep) (fail);clear w0' w1' w2';go_wp2_with fail;exact⟨⟨k+1,E0,E1,VR (Wq HG.out _ _),Tn.rc (Tn.ZF (i:=4+k) HRr.out E0 E0 _) (cV E0)⟩,U1⟩
  ·obtain rfl:k=nI:=by omega
   have en:=aE.cell (j:=n*26+20) E0;have fn:=aE.frozen (n*26+20);have en':=aE.cell (j:=n*26+21) E0;have MR:=aE.frozen (n*26+21);clear e0 f0 e1 f1 e2 f2 e3 f3 e4 f4 e20 f20 e21 f21 e5' f5' e6' f6' e7' f7' e8' f8' e9' f9' Wi0 kj0 Xi0 lj0 Yi0 mj0 Zi0 nj0 aj0 oj0 bj0 pj0 cj0 qj0 dj0 rj0 ej0 sj0 fj0 tj0 aE;go_wp2_with fail;go_end0;exact⟨rfl,Wq (Wq HG.out _ _) _ _,(by have:=Tn.rn (a:=n*26+21) (Tn.rc (Tn.ZF (i:=20) (a:=n*26+20) HRr.out E0 E0 0) (vY h16)) rfl (.slice Hn 0 0);rw[Es,Yn]at this;exact this)⟩
theorem JW{n:Nat}{ci z:Nat->Int}(Yr:∀nx,nx<n->(z 45).toNat=nx->0<=ci (nx*4+1)/\ci (nx*4+1)<4)(h:aB n z):(∀i,i<25\/i=47->(yF (dp n ci z)).2 i=z i)/\(yF (dp n ci z)).2 46=IntKind.i64.wrap (z 46+1)/\(∀y z',dp n ci z=.Xr y z'->0<y/\y<=3):=by
 by_cases hz:z 45=n
 ·have e:dp n ci z=.Xr 3 (Wn z 46 (IntKind.i64.wrap (z 46+1))):=by unfold dp;rw[if_pos hz]
  rw[e];refine⟨fun i hi=>Kr _ _ E0,uv z 46 _,fun y z' h=>?_⟩;injection h with h _
  omega
 ·have h1:=h.lo;have h2:=h.hi;obtain⟨nx,Nx⟩:∃nx:Nat,(z 45).toNat=nx:=⟨_,rfl⟩;have hR:=Yr nx E0 Nx;have f1:∀i,i<25\/i=47->Xn z i=z i:=fun i hi=>by unfold Xn;rw[Kr _ _ E0,Kr _ _ E0]
  have f2:Xn z 46=IntKind.i64.wrap (z 46+1):=by unfold Xn;rw[Kr _ _ E0,uv]
  have g:∀(a:Nat)(v:Int),25<=a->a<=45->(∀i,i<25\/i=47->Wn (Xn z) a v i=z i)/\Wn (Xn z) a v 46=IntKind.i64.wrap (z 46+1):=fun a v ha hb=>⟨fun i hi=>by rw[Kr _ _ E0];exact f1 i hi,by rw[Kr _ _ E0];exact f2⟩;have on:∀(op:Int)(e:Option Int)(a:Nat)(v:Int),25<=a->a<=45->(∀i,i<25\/i=47->(yF (.on op e (Wn (Xn z) a v))).2 i=z i)/\(yF (.on op e (Wn (Xn z) a v))).2 46=IntKind.i64.wrap (z 46+1)/\(∀y z',kU.on op e (Wn (Xn z) a v)=.Xr y z'->0<y/\y<=3):=fun op e a v ha hb=>⟨(g a v ha hb).1,(g a v ha hb).2,fun y z' h=>X3⟩;have on0:∀(op:Int)(e:Option Int),(∀i,i<25\/i=47->(yF (.on op e (Xn z))).2 i=z i)/\(yF (.on op e (Xn z))).2 46=IntKind.i64.wrap (z 46+1)/\(∀y z',kU.on op e (Xn z)=.Xr y z'->0<y/\y<=3):=fun op e=>⟨f1,f2,fun y z' h=>X3⟩;have br:∀(y:Int),0<y->y<=3->(∀i,i<25\/i=47->(yF (.Xr y (Xn z))).2 i=z i)/\(yF (.Xr y (Xn z))).2 46=IntKind.i64.wrap (z 46+1)/\(∀y' z',kU.Xr y (Xn z)=.Xr y' z'->0<y'/\y'<=3):=fun y h0 h3=>⟨f1,f2,fun y' z' h=>by cases h;exact⟨h0,h3⟩⟩;unfold dp;rw[if_neg hz];simp only[Nx];by_cases e1:ci (nx*4)=1
  ·rw[if_pos e1];exact Og
  rw[if_neg e1];by_cases e2:ci (nx*4)=2
  ·rw[if_pos e2];exact Og
  rw[if_neg e2];by_cases e3:ci (nx*4)=3
  ·rw[if_pos e3];exact Og
  rw[if_neg e3];by_cases e4:ci (nx*4)=4
  ·rw[if_pos e4];exact Og
  rw[if_neg e4];by_cases e5:ci (nx*4)=5
  ·rw[if_pos e5];split
   ·exact br 1 E0 E0
   ·exact Og
  rw[if_neg e5];by_cases e6:ci (nx*4)=6
  ·rw[if_pos e6];split
   ·exact br 2 E0 E0
   ·exact Og
  rw[if_neg e6];by_cases e7:ci (nx*4)=7
  ·rw[if_pos e7];split
   ·exact br 2 E0 E0
   ·exact Og
  rw[if_neg e7];by_cases e8:ci (nx*4)=8
  ·rw[if_pos e8];exact Og
  rw[if_neg e8];by_cases e9:ci (nx*4)=9
  ·rw[if_pos e9];split
   ·exact Og
   ·exact on0 _ _
  rw[if_neg e9];by_cases e15:ci (nx*4)=15
  ·rw[if_pos e15];exact on0 _ _
  rw[if_neg e15];exact on0 _ _
theorem EK{n kc:Nat}{ci z:Nat->Int}{ins:List (Int×Int)}{C:Nat->Us}(Yr:yx n kc ci)(h:aB n z):(∀i,i<25\/i=47->(Gx C (Pq n ci ins z C)).2.1 i=z i)/\(Gx C (Pq n ci ins z C)).2.1 46=IntKind.i64.wrap (z 46+1)/\(∀y z',Pq n ci ins z C=.Xr y z'->0<y/\y<=3):=by
 by_cases hx:z 45≠n/\pF (ci ((z 45).toNat*4))
 ·have h1:=h.lo;have h2:=h.hi;obtain⟨-,hR,hA,-,-⟩:=Yr (z 45).toNat E0;have e:Pq n ci ins z C=.on (ci ((z 45).toNat*4)) Hn (qA ins (ci ((z 45).toNat*4)) (ci ((z 45).toNat*4+1)).toNat (ci ((z 45).toNat*4+2)).toNat (ci ((z 45).toNat*4+3)) (Xn z) C).1 (qA ins (ci ((z 45).toNat*4)) (ci ((z 45).toNat*4+1)).toNat (ci ((z 45).toNat*4+2)).toNat (ci ((z 45).toNat*4+3)) (Xn z) C).2:=by unfold Pq;rw[if_pos hx]
  rw[e];have f1:∀i,i<25\/i=47->Xn z i=z i:=fun i hi=>by unfold Xn;rw[Kr _ _ E0,Kr _ _ E0]
  have f2:Xn z 46=IntKind.i64.wrap (z 46+1):=by unfold Xn;rw[Kr _ _ E0,uv]
  have key:∀(op N:Int)(R A:Nat),R<4->A<4->∀i,(i<25\/i=47)\/i=46->(qA ins op R A N (Xn z) C).1 i=Xn z i:=fun op N R A hR hA i hi=>by
   have z1:∀x,Wn (Xn z) (25+R) x i=Xn z i:=fun x=>Kr _ _ E0;have z2:∀x y,Wn (Wn (Xn z) (25+R) x) (25+A) y i=Xn z i:=fun x y=>(Kr _ _ E0).trans (z1 x);unfold qA;simp only[];split
   ·rfl
   split
   ·rfl
   split
   ·split
    ·exact z2 _ _
    ·exact z2 _ _
   split
   ·exact z2 _ _
   split
   ·exact z2 _ _
   ·exact z1 _
  refine⟨fun i hi=>(key _ _ _ _ E0 E0 i (.inl hi)).trans (f1 i hi),(key _ _ _ _ E0 E0 46 (.inr rfl)).trans f2,fun y z' h=>X3⟩
 ·have e:Pq n ci ins z C=(dp n ci z).with C:=by unfold Pq;rw[if_neg hx]
  obtain⟨k1,k2,k3⟩:=JW (n:=n) (ci:=ci) (z:=z) (fun nx Nx _=>(Yr nx Nx).2.1) h;rw[e,bH];refine⟨k1,k2,fun y z' h=>?_⟩;cases hs:dp n ci z with
  |on op e z2=>rw[hs]at h;cases h
  |Xr y2 z2=>rw[hs]at h;cases h;exact k3 _ _ hs
theorem h_{n kc:Nat}{ci z:Nat->Int}{ins:List (Int×Int)}{C:Nat->Us}(Yr:yx n kc ci)(hz:aB n z)(h:Yv kc C):Yv kc (Gx C (Pq n ci ins z C)).2.2:=by
 by_cases hx:z 45≠n/\pF (ci ((z 45).toNat*4))
 ·have h1:=hz.lo;have h2:=hz.hi;obtain⟨-,-,-,-,hN⟩:=Yr (z 45).toNat E0;unfold Pq;rw[if_pos hx];exact TU h (fun e=>hN hx.2 e) hx.2
 ·have e:Pq n ci ins z C=(dp n ci z).with C:=by unfold Pq;rw[if_neg hx]
  rw[e,bH];exact h
structure rG(p:TI)(budget:Nat)(z0:Nat->Int)(C0:Nat->Us)(j:Nat)(e:Int)(z:Nat->Int)(C:Nat->Us)(evs:List Dn):Prop where
 le:j<=budget
 ev:evs.length<=j
 s46:z 46=IntKind.i64.wrap (z0 46+j)
 old:∀i,i<25\/i=47->z i=z0 i
 run:(e=0/\aB p.n z/\Kv p budget z0 C0=(evs++(Kv p (budget-j) z C).1,(Kv p (budget-j) z C).2))\/(e=-1/\Kv p budget z0 C0=(evs,1,z,C))\/(0<e/\e<=3/\Kv p budget z0 C0=(evs++[Zz e (Nr z 47)],3,Nr z,Ru p.fr p.num C))
theorem rG.start{p:TI}{budget:Nat}{z0:Nat->Int}{C0:Nat->Us}(hz:aB p.n z0)(h46:IntKind.i64.wrap (z0 46)=z0 46):rG p budget z0 C0 0 0 z0 C0 []:=
 ⟨E0,P0,by simp[h46],fun _ _=>rfl,.inl ⟨rfl,hz,P0⟩⟩
theorem AW(st:BH):st.sent.length<=1:=by
 cases st with
 |on op e z C=>cases e<;>simp[BH.sent]
 |Xr y z=>simp[BH.sent]
theorem rG.step{p:TI}{kc budget:Nat}{z0 z:Nat->Int}{C0 C:Nat->Us}{j:Nat}{evs:List Dn}(Yr:yx p.n kc p.ci)(h:rG p budget z0 C0 j 0 z C evs)(hj:j<budget):rG p budget z0 C0 (j+1) (Gx C (Pq p.n p.ci p.ins z C)).1 (Gx C (Pq p.n p.ci p.ins z C)).2.1 (Gx C (Pq p.n p.ci p.ins z C)).2.2 (evs++(Pq p.n p.ci p.ins z C).sent):=by
 rcases h.run with⟨-,hz,hr⟩|⟨he,_⟩|⟨he,_⟩
 ·obtain⟨k1,k2,k3⟩:=EK (ins:=p.ins) (C:=C) Yr hz;refine⟨E0,?_,?_,fun i hi=>(k1 i hi).trans (h.old i hi),?_⟩
  ·have:=AW (Pq p.n p.ci p.ins z C);have:=h.ev;simp only[List.length_append];omega
  ·rw[k2,h.s46,IntKind.wrap_i64,IntKind.wrap_i64,IntKind.wrap_i64];omega
  ·have hb:budget-j=(budget-(j+1))+1:=by omega
   rw[hb]at hr;have hzc:∀op e z' C',Pq p.n p.ci p.ins z C=.on op e z' C'->aB p.n z':=fun op e z' C' hs=>by
    obtain⟨b,hb⟩:∃b,ox kc b C:=qI kc C;have:=zF (ins:=p.ins) Yr hz hb;rw[hs]at this;exact this.1
   revert hr hzc k3;simp only[Kv];cases hs:Pq p.n p.ci p.ins z C with
   |on op e z' C'=>
    intro hr k3 hzk;by_cases h0:op=0
    ·right;left
     refine⟨by simp[Gx,h0],?_⟩;simp only[h0,if_true]at hr;simp only[h0,Gx];exact hr
    ·left
     refine⟨by simp[Gx,h0],hzk _ _ _ _ rfl,?_⟩;simp only[h0,if_false]at hr;rw[hr,List.append_assoc];rfl
   |Xr y z'=>
    intro hr k3 hzk;right;right;obtain⟨k4,k5⟩:=k3 y z' rfl;refine⟨k4,k5,?_⟩;rw[hr];simp[BH.sent,Gx]
 ·omega
 ·omega
structure su(w:En)(Gc nC n:Nat)(Q:Nat->RC)(c':RC)(m':Nat)(bG:List Dn)(w':En):Prop where
 row:Tn w' Gc (nC*26) 131 (yq (Qo Q n c'))
 but:Jq (fun j=>j=Gc\/(Q n).v.ownBlock=Gn j) w w'
 own:w'.ownsRow 0 111 3 c'.v m' bG
 blk:∀b,c'.v.ownBlock=Gn b->(Q n).v.ownBlock=Gn b\/w.heap.size<=b
section
variable {w W w1:En}{Gc nC n m:Nat}{Q:Nat->RC}{c:RC}{xs:List Dn}
theorem su.ne(h:su w Gc nC n Q c m xs W):c.v.ownBlock≠Gn Gc:=xp h.own h.row U0
theorem su.Hg0(h:su w Gc nC n Q c m xs W){j:Nat}{v:Dn}{c':RC}(hr:Tn (W.setCell ⟨Gc,j,Hn⟩ v) Gc (nC*26) 131 (yq (Qo Q n c')))(hv:c'.v=c.v):su w Gc nC n Q c' m xs (W.setCell ⟨Gc,j,Hn⟩ v):=by
 refine⟨hr,⟨h.but.os,h.but.tape,h.but.output,by rw[size_setCell];exact h.but.size,fun k hk hn=>?_⟩,?_,fun b hb=>h.blk b (by rw[<-hv];exact hb)⟩
 ·rw[yn _ _ _ _ (fun e=>hn (.inl e))];exact jk
 ·rw[hv];exact Lr h.own fun b hb=>yn _ (a:=⟨Gc,j,Hn⟩) _ _ (fun e=>h.ne (by rw[<-(show b=Gc from e)];exact hb))
theorem su.s(h:su w Gc nC n Q c m xs W){a:Nat}(ha:a=n*26+23)(x:Int):su w Gc nC n Q {c with s:=x} m xs (W.setCell ⟨Gc,a,Hn⟩ (.int .i64 x)):=by
 refine h.Hg0 ?_ rfl;have:=Tn.rs h.row ha x;rwa [Es,Yn]at this
theorem su.z47(h:su w Gc nC n Q c m xs W){a:Nat}(ha:a=n*26+24)(x:Int):su w Gc nC n Q {c with z:=Wn c.z 47 x} m xs (W.setCell ⟨Gc,a,Hn⟩ (.int .i64 x)):=by
 refine h.Hg0 ?_ rfl;have:=Tn.r47 h.row ha x;rwa [Es,Yn]at this
theorem su.b(h:su w Gc nC n Q c m xs W){a:Nat}(ha:a=n*26+25)(x:Bool):su w Gc nC n Q {c with b:=x} m xs (W.setCell ⟨Gc,a,Hn⟩ (.bool x)):=by
 refine h.Hg0 ?_ rfl;have:=Tn.rb h.row ha x;rwa [Es,Yn]at this
theorem su.drew(h:su w Gc nC n Q c m xs W):su w Gc nC n Q c m xs W.drew:=⟨h.row,h.but.drew,h.own,h.blk⟩
theorem su.log(h:su w Gc nC n Q c m xs W){o:Obj}{ev:List Dn}{g cap a:Nat}(hg:(W.alloc o).grownBy w1 c.v.ownBlock)(ho:w1.ownsRow 0 111 3 (.slice (Gn ⟨g,0,Hn⟩) (m+1:Nat) cap) (m+1) (xs++ev))(jr:c.v.ownBlock=Gn g\/W.heap.size<=g)(ha:a=n*26+22):
  Tn w1 Gc (nC*26) 131 (yq (Qo Q n c))/\su w Gc nC n Q {c with v:=.slice (Gn ⟨g,0,Hn⟩) (m+1:Nat) cap} (m+1) (xs++ev) (w1.setCell ⟨Gc,a,Hn⟩ (.slice (Gn ⟨g,0,Hn⟩) (m+1:Nat) cap)):=by
 have yo:=h.row.lt;have hs:W.heap.size<=w1.heap.size:=Qm P0 hg.size;have kept:∀b,b<W.heap.size->c.v.ownBlock≠Gn b->w1.heap[b]?=W.heap[b]?:=fun b hb Yp=>(hg.block b A1 (fun e=>Yp e.symm)).trans (heap_alloc_old W _ hb);have hr:=h.row.of_heap (kept Gc yo h.ne);refine⟨hr,?_,⟨hg.os.trans h.but.os,hg.tape.trans h.but.tape,hg.output.trans h.but.output,I6,fun k hk hn=>?_⟩,?_,fun b hb=>?_⟩
 ·have:=Tn.rv hr ha (.slice (Gn ⟨g,0,Hn⟩) (m+1:Nat) cap);rwa [Es,Yn]at this
 ·rw[yn _ _ _ _ (fun e=>hn (.inl e)),kept k (Lm hk h.but.size) (fun e=>by
   rcases h.blk k e with e|e
   ·exact hn (.inr e)
   ·omega)]
  exact jk
 ·exact Lr ho fun b hb=>yn _ (a:=⟨Gc,a,Hn⟩) _ _ (fun e=>by
   have jJ:g=b:=D6;subst jJ;have e:=e;subst e;rcases jr with h1|h1
   ·exact h.ne h1
   ·omega)
 ·have jJ:g=b:=by simpa[Value.ownBlock]using hb
  subst jJ;rcases jr with h1|h1
  ·exact h.blk g h1
  ·exact .inr (Qm h.but.size h1)
end
section
variable {w w':En}{k:RA}{r:RK}{Q:Nat->RC}{m:Nat->Nat}{xs:Nat->List Dn}{n m' nC:Nat}{nl:Nat->List (Int×Int)}{Ls:Nat->Ln}{kind fr:Nat->Int}{F:Int}{inV:Dn}{il l':List (Int×Int)}{C':Nat->Us}{c':RC}{bG:List Dn}
theorem lu.clear(h:lu w nC r Q nl Ls F inV il)(hc:c'.nt=.slice Hn 0 0):lu w nC r (Qo Q n c') (Qo nl n []) Ls F inV il:=by
 have no:∀b,c'.nt.ownBlock≠Gn b:=fun b e=>by rw[hc]at e;cases e
 refine⟨h.h5,h.h6,h.h7,h.ino,h.row,h.lo,h.own,h.Wu,h.oh,fun i hi=>?_,fun i j hi hj Yp b h1 h2=>?_,fun i b hi h1=>?_⟩
 ·by_cases e:i=n
  ·subst e;rw[Yn,Yn,hc];exact World.ownsRow_nil _ _ _ _
  ·rw[Oo _ _ e,Oo _ _ e];exact h.yJ i hi
 ·by_cases e:i=n
  ·subst e;rw[Yn]at h1;exact no b h1
  ·by_cases e2:j=n
   ·subst e2;rw[Yn]at h2;exact no b h2
   ·rw[Oo _ _ e]at h1;rw[Oo _ _ e2]at h2;exact h.qL i j hi hj Yp b h1 h2
 ·by_cases e:i=n
  ·subst e;rw[Yn]at h1;exact absurd h1 (no b)
  ·rw[Oo _ _ e]at h1;exact h.noh i b hi h1
theorem lu.ol0(hN:lu w k.nC r Q nl Ls F inV il)(h:Uu w k r Q m xs)(hn:n<k.nC)(hb:Jq (fun j=>j=r.Gc\/(Q n).v.ownBlock=Gn j) w w')(hc:(c'.nt=(Q n).nt/\l'=nl n)\/(c'.nt=.slice Hn 0 0/\l'=[])):lu w' k.nC r (Qo Q n c') (Qo nl n l') Ls F inV il:=by
 rcases hc with⟨h1,rfl⟩|⟨h1,rfl⟩
 ·rw[ov];exact hN.same h hn hb h1
 ·have h2:=(hN.same (c':={c' with nt:=(Q n).nt}) h hn hb rfl).clear (n:=n) (c':=c') h1;rw[Es]at h2;exact h2
theorem su.post(h0:su w r.Gc k.nC n Q c' m' bG w')(hN:lu w k.nC r Q nl Ls F inV il)(h:Uu w k r Q m xs)(hn:n<k.nC)(hc:(c'.nt=(Q n).nt/\l'=nl n)\/(c'.nt=.slice Hn 0 0/\l'=[]))(hR:Ns r.kc kind fr (Qo nl n l') Ls F C'):jz w k.nC r n Q nl Ls kind fr F inV il C' c'.z c'.s c'.b m' bG 0 w':=
 ⟨c'.v,c'.nt,l',Ls,by rcases hc with⟨_,rfl⟩|⟨_,rfl⟩<;>simp,⟨h0.row,h0.but.mono fun _ x=>x.elim (fun x=>.inl (.inl x)) (fun x=>.inr (.inl x)),h0.own,h0.blk,fun b hb=>by
  rcases hc with⟨e,_⟩|⟨e,_⟩
  ·rw[<-e];exact .inl hb
  ·have:(Value.slice Hn 0 0).ownBlock=Gn b:=by rw[<-e];exact hb
   cases this⟩,hN.ol0 h hn h0.but hc,hR,fun _ _ _ x=>.inl x⟩
theorem Uu.no0(h:Uu w k r Q m xs)(hN:lu w k.nC r Q nl Ls F inV il)(hn:n<k.nC)(h0:su w r.Gc k.nC n Q c' m' bG w')(hz:∀j,3<=j->j<25->c'.z j=(Q n).z j):Uu w' k r (Qo Q n c') (Qo m n m') (Qo xs n bG):=h.aft hN hn h0.row (h0.but.mono fun _ x=>x.elim (fun x=>.inl (.inl x)) (fun x=>.inr (.inl x))) h0.own h0.blk hz
theorem jz.le{z:Nat->Int}{s:Int}{b:Bool}{d d':Nat}(h:jz w nC r n Q nl Ls kind fr F inV il C' z s b m' bG d w')(hd:d<=d'):jz w nC r n Q nl Ls kind fr F inV il C' z s b m' bG d' w':=by
 obtain⟨v,nt,l,L,h0,h1⟩:=h;exact⟨v,nt,l,L,E0,h1⟩
end
section
variable {w W:En}{k:RA}{r:RK}{Q:Nat->RC}{m:Nat->Nat}{xs:Nat->List Dn}{n:Nat}{nl:Nat->List (Int×Int)}{Ls:Nat->Ln}{kind fr:Nat->Int}{F:Int}{inV:Dn}{il:List (Int×Int)}{C:Nat->Us}
theorem su.refl(h:Uu w k r Q m xs)(hn:n<k.nC):su w r.Gc k.nC n Q (Q n) (m n) (xs n) w:=
 ⟨h.row.congr fun j _=>by
  unfold yq;by_cases e:j/26=n
  ·rw[e,Yn]
  ·rw[Oo _ _ e],Jq.refl _ _,h.own n hn,fun _ x=>.inl x⟩
theorem su.cg{w:En}{Gc nC m:Nat}{c c':RC}{xs:List Dn}(h:su w Gc nC n Q c m xs W)(he:∀j,Ez c' j=Ez c j)(hv:c'.v=c.v):su w Gc nC n Q c' m xs W:=
 ⟨h.row.congr fun j _=>by
  unfold yq;by_cases e:j/26=n
  ·rw[e,Yn,Yn,he]
  ·rw[Oo _ _ e,Oo _ _ e],h.but,by rw[hv];exact h.own,fun b hb=>h.blk b (by rw[<-hv];exact hb)⟩
theorem su.fresh{w':En}{Gc nC m:Nat}{c c':RC}{xs:List Dn}(h:su w Gc nC n Q c m xs W)(hg:W.grownBy w' (Gn Gc))(hr:Tn w' Gc (nC*26) 131 (yq (Qo Q n c')))(hv:c'.v=c.v):su w Gc nC n Q c' m xs w':=by
 refine⟨hr,⟨hg.os.trans h.but.os,hg.tape.trans h.but.tape,hg.output.trans h.but.output,Qm h.but.size hg.size,fun k hk hn=>?_⟩,?_,fun b hb=>h.blk b (by rw[<-hv];exact hb)⟩
 ·rw[hg.block k (Lm hk h.but.size) (fun e=>hn (.inl (Option.some.inj e)))];exact jk
 ·rw[hv];exact Lr h.own fun b hb=>hg.block b (Qv h.own hb) (fun e=>h.ne (by rw[<-Option.some.inj e];exact hb))
theorem QL{c c':RC}(h1:∀j,(25<=j/\j<46)\/j=47->c'.z j=c.z j)(h2:c'.v=c.v)(h3:c'.s=c.s)(h4:c'.b=c.b)(h5:c'.nt=c.nt)(j:Nat):Ez c' j=Ez c j:=by
 obtain⟨z,s,v,b,nt⟩:=c;obtain⟨z',s',v',b',tZ⟩:=c';simp only at h1 h2 h3 h4 h5;subst h2 h3 h4 h5;exact qB (c:=⟨z,s',v',b',tZ⟩) h1 j
theorem PX{z:Nat->Int}{lim:Int}{nG:Nat}{img:Nat->Int}(_h16:nG<=16)(hz:∀j,3<=j->j<25->z j=Az lim nG img j)(x:Int)(hx:IntKind.i64.wrap (z 47+1)=x)(j:Nat)(hj:(25<=j/\j<46)\/j=47):Nr z j=ZB nG img (Wn z 47 x) j:=by
 unfold Nr ZB;by_cases e:j=47
 ·subst e;rw[if_pos rfl,if_neg E0,uv,hx]
 ·have h1:25<=j/\j<46:=by omega
  rw[if_neg e,if_pos h1,if_pos h1,hz _ E0 E0];unfold Az;rw[if_neg E0];by_cases h2:29<=j/\j<29+nG
  ·rw[if_pos E0,if_pos h2,show j-21-8=j-29 by omega]
  ·rw[if_neg E0,if_neg E0,if_neg h2]
def Hw(k:RA)(n:Nat)(fr:Nat->Int)(ins:List (Int×Int)):TI:=⟨k.n n,k.ci n,n,fr,ins⟩
theorem V00{Gc nC m:Nat}{z0 z:Nat->Int}{NF s23 s0 x lim:Int}{j nG:Nat}{img:Nat->Int}{v':Dn}{xs:List Dn}{evs:List Dn}
  (h:su w Gc nC n Q ⟨ZB nG img (Wn z 47 NF),s23,v',decide (lim<NF),.slice Hn 0 0⟩ (m+evs.length+1+1) (xs++evs.flatMap tq++[.int .i64 2,.int .i64 x,.int .i64 NF]++[.int .i64 3,.int .i64 j,.int .i64 3]) W)
  (hG:nG<=16)(hf:∀j,3<=j->j<25->z0 j=Az lim nG img j)(ho:∀i,i<25\/i=47->z i=z0 i)(h46:z 46=IntKind.i64.wrap (z0 46+j))(sA:s0=z0 46)(hb:IntKind.i64.wrap (z 47+1)=NF)(hs:IntKind.i64.wrap (s0+j)=s23):
  su w Gc nC n Q ⟨Nr z,Nr z 46,v',decide (Nr z 3<Nr z 47),.slice Hn 0 0⟩ (m+(evs++[Zz x (Nr z 47)]++[Nv j 3]).length) (xs++(evs++[Zz x (Nr z 47)]++[Nv j 3]).flatMap tq) W:=by
 have e47:Nr z 47=NF:=by rw[<-hb];rfl
 have e46:Nr z 46=z 46:=rfl;have e3:Nr z 3=lim:=by
  have:Nr z 3=z 3:=rfl;rw[this,ho 3 E0,hf 3 E0 E0];rfl
 have:=h.cg (c':=⟨Nr z,Nr z 46,v',decide (Nr z 3<Nr z 47),.slice Hn 0 0⟩) (QL (fun j hj=>PX hG (fun j h3 dV=>(ho j (.inl dV)).trans (hf j h3 dV)) NF hb j hj) rfl (by show Nr z 46=s23;rw[e46,h46,<-hs,sA]) (by show decide (Nr z 3<Nr z 47)=decide (lim<NF);rw[e3,e47]) rfl) rfl;rw[e47]at this ⊢;have el:m+(evs++[Zz x NF]++[Nv j 3]).length=m+evs.length+1+1:=by simp[Jm]
 have ex:xs++(evs++[Zz x NF]++[Nv j 3]).flatMap tq=xs++evs.flatMap tq++[.int .i64 2,.int .i64 x,.int .i64 NF]++[.int .i64 3,.int .i64 j,.int .i64 3]:=by
  simp[List.flatMap_append,Zz,Nv,tq,List.append_assoc]
 rw[el,ex];exact Vh
theorem tc0{ins:List (Int×Int)}{nD:Nat}(h:Uu w k r Q m xs)(hN:lu w k.nC r Q nl Ls F inV il)(nU:Ns r.kc kind fr nl Ls F C)(aE:∀c,c<r.kc->0<=fr c)(hn:n<k.nC)(hz:aB (k.n n) (Q n).z)(hs:(Q n).s=(Q n).z 46)(hb:(Q n).b=decide ((Q n).z 3<(Q n).z 47))(h46:IntKind.i64.wrap ((Q n).z 46)=(Q n).z 46)(budget:Nat)(hbu:budget<=200)(hm:m n+300<=1000000000)
  (qX:tH n kind fr nD (k.n n) (k.ci n))(iu:∀N:Int,0<=N->N<nD->Yt il N=Yt ins N)(hl:(nl n).length+300<=1000000000)(hF:0<=F/\F<=1000000000000)(RY:Yv r.kc C):
  Zm prog 74 #[.pointer (Gn ⟨r.Kb,0,Hn⟩),.int .i64 n,.int .i64 budget] w fun e w'=>e=.returned (.tuple #[])/\
   jz w k.nC r n Q nl Ls kind fr F inV il (Uo (Hw k n fr ins) budget (Q n).z C).2.2 (Uo (Hw k n fr ins) budget (Q n).z C).2.1 ((Uo (Hw k n fr ins) budget (Q n).z C).2.1 46) (decide ((Uo (Hw k n fr ins) budget (Q n).z C).2.1 3<(Uo (Hw k n fr ins) budget (Q n).z C).2.1 47)) (m n+(Uo (Hw k n fr ins) budget (Q n).z C).1.length) (xs n++(Uo (Hw k n fr ins) budget (Q n).z C).1.flatMap tq) budget w':=by
 have I00:Hid (lu w k.nC r Q nl Ls F inV il/\Ns r.kc kind fr nl Ls F C/\Yv r.kc C):=⟨hN,nU,RY⟩;have HST:Hid ((∀c,c<r.kc->0<=fr c)/\tH n kind fr nD (k.n n) (k.ci n)/\(∀N:Int,0<=N->N<nD->Yt il N=Yt ins N)/\(nl n).length+300<=1000000000/\0<=F/\F<=1000000000000):=⟨aE,qX,iu,hl,hF⟩;clear hN nU RY aE qX iu hl hF;have H:Hid (Uu w k r Q m xs):=h;have h4:=h.h4;have HS1:Hid ((Q n).s=(Q n).z 46):=hs;have Ax:Hid ((Q n).b=decide ((Q n).z 3<(Q n).z 47)):=hb;have H46:Hid (IntKind.i64.wrap ((Q n).z 46)=(Q n).z 46):=h46;clear hs hb h46;have A0:Hid (su w r.Gc k.nC n Q (Q n) (m n) (xs n) w):=su.refl h hn;by_cases Ht:(Q n).z 3<(Q n).z 47
 ·have hF:Uo (Hw k n fr ins) budget (Q n).z C=([Nv (IntKind.i64.wrap ((Q n).z 46-(Q n).z 46)) 4],(Q n).z,C):=by
   unfold Uo uE;rw[if_pos Ht];rfl
  have h0w:IntKind.i64.wrap ((Q n).z 46-(Q n).z 46)=0:=by rw[Int.sub_self];rfl
  rw[h0w]at hF;rw[hF];have e25:w.cell? ⟨r.Gc,n*26+23+2,Hn⟩=Gn (.bool Um):=by
   exact Lh
  have e22:w.cell? ⟨r.Gc,n*26+22,Hn⟩=Gn (Q n).v:=Tn.rat h.row (n:=n) (i:=22) E0 E0 E0;have hni:(n:Int)<(k.nC:Int):=E0;clear h hF h0w;generalize hQv:(Q n).v=v at *;have HQ:Hid ((Q n).v=v):=hQv;have rO:Hid (∀o,(w.alloc o).ownsRow 0 111 3 v (m n) (xs n)):=fun o=>xo (by rw[<-hQv];exact A0.out.own) P8;clear hQv
  go_enter func74,ntmps74
  go_wp2_with (at_builtin;refine Eo _ rfl _ _ 61 rfl 0 111 _ 3 24 underlying61 Gu rfl E0 v (m n) (xs n) rfl O5 w.heap.size [.int .i64 3,.int .i64 0,.int .i64 4] 111 rfl rfl G2 D2 Y1 E0 E0 ?_)
  intro g cap w1 kq uo jr Av;have HL:Hid _:=su.log (a:=n*26+22) A0.out (by rw[HQ.out];exact uo) kq (by rw[HQ.out];exact jr.imp id (fun e=>S4)) rfl;have f1:w1.cell? ⟨r.Gc,n*26+22,Hn⟩=Gn v:=(Tn.rat HL.out.1 (n:=n) (i:=22) E0 rfl E0).trans (by rw[Yn];exact congrArg Gn HQ.out);have f2:=HL.out.1.frozen (n*26+22);clear kq uo jr Av;go_wp2_with fail
  (try simp only[Exit.inBlock,Exit.then])
  refine bodyPost_ret (results_none rfl _ _ _) rfl ?_;exact⟨rfl,((HL.out.2.cg (c':=⟨(Q n).z,(Q n).z 46,.slice (Gn ⟨g,0,Hn⟩) (m n+1:Nat) cap,decide ((Q n).z 3<(Q n).z 47),(Q n).nt⟩) (QL (fun _ _=>rfl) rfl HS1.out.symm Ax.out.symm rfl) rfl).post (l':=nl n) I00.out.1 H.out hn (.inl ⟨rfl,rfl⟩) (by rw[ov];exact I00.out.2.1)).le s9⟩
 ·have e25:w.cell? ⟨r.Gc,n*26+23+2,Hn⟩=Gn (.bool Tm):=by
   exact Lh
  have hni:(n:Int)<(k.nC:Int):=E0;have HOK:Hid (yx (k.n n) r.kc (k.ci n)):=h.ok n hn;have L0:Hid (rG (Hw k n fr ins) budget (Q n).z C 0 0 (Q n).z C []):=rG.start hz H46.out;clear h
  go_enter func74,ntmps74
  go_wp2_with fail
  go_loopw [7,8] (fun s e wr=>∃(j:Nat)(x:Int),j<=budget/\s=.int .i64 j/\e=.int .i64 x/\∃z D evs v nt l L,Hid (rG (Hw k n fr ins) budget (Q n).z C j x z D evs)/\Hid (uO w r.Gc r.Lb k.nC n Q {Q n with z:=z,v:=v,nt:=nt} (m n+evs.length) (xs n++evs.flatMap tq) wr)/\Hid (lu wr k.nC r (Qo Q n {Q n with z:=z,v:=v,nt:=nt}) (Qo nl n l) L F inV il/\Ns r.kc kind fr (Qo nl n l) L F D/\Yv r.kc D/\l.length<=(nl n).length+j/\∀c b,c<r.kc->(L c).wv.ownBlock=Gn b->(Ls c).wv.ownBlock=Gn b\/w.heap.size<=b)) (fun s _ _=>budget-(intOf s).toNat)
  case atStart=>
   refine⟨0,0,Pm _,rfl,rfl,(Q n).z,C,[],(Q n).v,(Q n).nt,nl n,Ls,L0,?_,?_⟩
   ·show uO w r.Gc r.Lb k.nC n Q (Q n) (m n+[].length) (xs n++[]) w;exact⟨A0.out.row,Jq.refl _ _,by simpa using A0.out.own,fun _ x=>.inl x,fun _ x=>.inl x⟩
   ·show lu w k.nC r (Qo Q n (Q n)) (Qo nl n (nl n)) Ls F inV il/\Ns r.kc kind fr (Qo nl n (nl n)) Ls F C/\Yv r.kc C/\_;rw[ov,ov];exact⟨I00.out.1,I00.out.2.1,I00.out.2.2,E0,fun _ _ _ x=>.inl x⟩
  case round=>
   obtain⟨j,x,hj,rfl,rfl,z,D,evs,v,nt,l,L,HL,HA,eO⟩:=hrel;have HN:Hid (Uu wr k r (Qo Q n {Q n with z:=z,v:=v,nt:=nt}) (Qo m n (m n+evs.length)) (Qo xs n (xs n++evs.flatMap tq))):=H.out.after I00.out.1 hn HA.out (fun i _ h2=>HL.out.old i (.inl h2));have Et:=HL.out.ev;by_cases XH:j<budget/\x=0
   ·obtain⟨yo,rfl⟩:=XH;have hzk:aB (k.n n) z:=by
     rcases HL.out.run with⟨_,h1,_⟩|⟨h1,_⟩|⟨h1,_⟩
     ·exact h1
     ·omega
     ·omega
    have S:=q30 (ins:=ins) (nD:=nD) HN.out eO.out.1 eO.out.2.1 hn (by rw[Yn];exact⟨hzk.lo,hzk.hi⟩) (by rw[Yn];omega) HST.out.2.1 HST.out.2.2.1 (by rw[Yn];have:=HST.out.2.2.2.1;have:=eO.out.2.2.2.1;omega) HST.out.2.2.2.2 (fun c hc=>by have:=eO.out.2.2.1 c hc;omega);simp only[Yn]at S;have HS:Hid _:=S;clear S;have lG:(j:Int)<(budget:Int):=E0;go_wp2_with fail;refine Calls.mono HS.out ?_;rintro e w' ⟨rfl,hP'⟩;have hP2:=jz.trans (nl:=nl) (Ls:=Ls) HA.out eO.out.2.2.2.1 eO.out.2.2.2.2 hP';obtain⟨v',tZ,l',L',g0,g1,g2,g3,g4⟩:=hP2;have HA2:Hid (uO w r.Gc r.Lb k.nC n Q {Q n with z:=(Gx D (Pq (k.n n) (k.ci n) ins z D)).2.1,v:=v',nt:=tZ} (m n+(evs++(Pq (k.n n) (k.ci n) ins z D).sent).length) (xs n++(evs++(Pq (k.n n) (k.ci n) ins z D).sent).flatMap tq) w'):=by
     rw[List.length_append,List.flatMap_append,<-Jm,<-List.append_assoc];exact g1
    have HL2:Hid (rG (Hw k n fr ins) budget (Q n).z C (j+1) (Gx D (Pq (k.n n) (k.ci n) ins z D)).1 (Gx D (Pq (k.n n) (k.ci n) ins z D)).2.1 (Gx D (Pq (k.n n) (k.ci n) ins z D)).2.2 (evs++(Pq (k.n n) (k.ci n) ins z D).sent)):=rG.step (p:=(Hw k n fr ins)) HOK.out HL.out yo;have KG:Hid (lu w' k.nC r (Qo Q n {Q n with z:=(Gx D (Pq (k.n n) (k.ci n) ins z D)).2.1,v:=v',nt:=tZ}) (Qo nl n l') L' F inV il/\Ns r.kc kind fr (Qo nl n l') L' F (Gx D (Pq (k.n n) (k.ci n) ins z D)).2.2/\Yv r.kc (Gx D (Pq (k.n n) (k.ci n) ins z D)).2.2/\l'.length<=(nl n).length+(j+1)/\∀c b,c<r.kc->(L' c).wv.ownBlock=Gn b->(Ls c).wv.ownBlock=Gn b\/w.heap.size<=b):=⟨g2,g3,h_ HOK.out hzk eO.out.2.2.1,g0,g4⟩;clear g0 g1 g2 g3 g4 hP' HS HN HA HL eO;go_wp2_with fail;exact⟨⟨j+1,_,E0,E1,rfl,_,_,_,v',tZ,l',L',HL2,HA2,KG⟩,U1⟩
   ·have HAr:Hid (su wr r.Gc k.nC n (Qo Q n {Q n with z:=z,v:=v,nt:=nt}) {Q n with z:=z,v:=v,nt:=nt} (m n+evs.length) (xs n++evs.flatMap tq) wr):=⟨by rw[Es];exact HA.out.row,Jq.refl _ _,HA.out.own,fun b hb=>.inl (by rw[Yn];exact hb)⟩;have FIN:Hid (∀(c':RC)(l':List (Int×Int))(C2:Nat->Us)(m':Nat)(bG:List Dn)(w':En),su wr r.Gc k.nC n (Qo Q n {Q n with z:=z,v:=v,nt:=nt}) c' m' bG w'->((c'.nt=nt/\l'=l)\/(c'.nt=.slice Hn 0 0/\l'=[]))->Ns r.kc kind fr (Qo nl n l') L F C2->jz w k.nC r n Q nl Ls kind fr F inV il C2 c'.z c'.s c'.b m' bG budget w'):=fun c' l' C2 m' bG w' h0 hc hR=>by
     have hp:=h0.post (l':=l') (C':=C2) eO.out.1 HN.out hn (by rw[Yn,Yn];exact hc) (by rw[Es];exact hR);exact(jz.trans (nl:=nl) (Ls:=Ls) HA.out eO.out.2.2.2.1 eO.out.2.2.2.2 hp).le hj
    have HRD:Hid (Ns r.kc kind fr (Qo nl n l) L F D/\Ns r.kc kind fr (Qo nl n []) L F (Ru fr n D)):=⟨eO.out.2.1,by have:=eO.out.2.1.forget (n:=n) HST.out.1;rw[Es]at this;exact this⟩;have HNx:Hid (∀W c m' bG,su wr r.Gc k.nC n (Qo Q n {Q n with z:=z,v:=v,nt:=nt}) c m' bG W->(∀i,3<=i->i<25->c.z i=(Q n).z i)->Uu W k r (Qo (Qo Q n {Q n with z:=z,v:=v,nt:=nt}) n c) (Qo (Qo m n (m n+evs.length)) n m') (Qo (Qo xs n (xs n++evs.flatMap tq)) n bG)):=fun W c m' bG hA hz=>HN.out.no0 eO.out.1 hn hA (fun i h3 dV=>by rw[Yn,hz i h3 dV];exact(HL.out.old i (.inl dV)).symm);clear HN eO;generalize Qo Q n {Q n with z:=z,v:=v,nt:=nt}=Qr at HAr FIN HNx;have e22:wr.cell? ⟨r.Gc,n*26+22,Hn⟩=Gn v:=(Tn.rat HAr.out.row (n:=n) (i:=22) E0 rfl E0).trans M4;have e23:wr.cell? ⟨r.Gc,n*26+23,Hn⟩=Gn (.int .i64 (Q n).s):=(Tn.rat HAr.out.row (n:=n) (i:=23) E0 rfl E0).trans M4;have f23:=HAr.out.row.frozen (n*26+23);have HA1:Hid (∀X,su wr r.Gc k.nC n Qr {Q n with z:=z,v:=v,nt:=nt,s:=X} (m n+evs.length) (xs n++evs.flatMap tq) (wr.setCell ⟨r.Gc,n*26+23,Hn⟩ (.int .i64 X))):=fun X=>HAr.out.s rfl X;have rO:Hid (∀X o,((wr.setCell ⟨r.Gc,n*26+23,Hn⟩ (.int .i64 X)).alloc o).ownsRow 0 111 3 v (m n+evs.length) (xs n++evs.flatMap tq)):=fun X o=>xo (HA1.out X).own P8;have R10:IntKind.i64.wrap (z 46-(Q n).z 46)=j:=by
     rw[HL.out.s46,IntKind.wrap_i64,IntKind.wrap_i64];omega
    have S10:uE (Hw k n fr ins) budget (Q n).z C=Kv (Hw k n fr ins) budget (Q n).z C:=by unfold uE;exact qk
    rcases HL.out.run with⟨rfl,_,hr⟩|⟨rfl,hr⟩|⟨pV,hx3,hr⟩
    ·have hjb:j=budget:=by omega
     have hjn:¬((j:Int)<(budget:Int)):=E0;have oV:Uo (Hw k n fr ins) budget (Q n).z C=(evs++[Nv j 2],z,D):=by
      unfold Uo;rw[S10,hr,show budget-j=0 by omega];simp only[Kv,List.append_nil,R10]
     have HW:Hid (Uo (Hw k n fr ins) budget (Q n).z C=(evs++[Nv j 2],z,D)):=oV;clear hr R10 S10 XH hjb oV;go_wp2_with (at_builtin;refine Eo _ rfl _ _ 61 rfl 0 111 _ 3 24 underlying61 Gu rfl E0 v (m n+evs.length) (xs n++evs.flatMap tq) rfl (by exact rO.out _ _) wr.heap.size [.int .i64 3,.int .i64 j,.int .i64 2] 111 rfl rfl J3 D2 Y1 E0 E0 ?_);refine Qd fun g cap w1 HLg f1 f2=>?_;go_wp2_with fail
     (try simp only[Exit.inBlock,Exit.then])
     refine aj ?_;refine⟨rfl,?_⟩;have:=FIN.out _ l D _ _ _ (HLg.out.2.cg (c':=⟨z,z 46,.slice (Gn ⟨g,0,Hn⟩) (m n+evs.length+1:Nat) cap,decide (z 3<z 47),nt⟩) (QL (fun _ _=>rfl) rfl a8 (by rw[Ax.out,HL.out.old 3 E0,HL.out.old 47 E0]) rfl) rfl) (.inl ⟨rfl,rfl⟩) HRD.out.1;simpa[List.flatMap_append,Nv,tq,Jm]using this
    ·have oV:Uo (Hw k n fr ins) budget (Q n).z C=(evs++[Nv j 1],z,D):=by
      unfold Uo;rw[S10,hr];simp only[R10]
     have HW:Hid (Uo (Hw k n fr ins) budget (Q n).z C=(evs++[Nv j 1],z,D)):=oV;clear hr R10 S10 XH oV;go_wp2_with (at_builtin;refine Eo _ rfl _ _ 61 rfl 0 111 _ 3 24 underlying61 Gu rfl E0 v (m n+evs.length) (xs n++evs.flatMap tq) rfl (by exact rO.out _ _) wr.heap.size [.int .i64 3,.int .i64 j,.int .i64 1] 111 rfl rfl J3 D2 Y1 E0 E0 ?_)
     all_goals
      refine Qd fun g cap w1 HLg f1 f2=>?_;go_wp2_with fail
      (try simp only[Exit.inBlock,Exit.then])
      refine aj ?_;refine⟨rfl,?_⟩;have:=FIN.out _ l D _ _ _ (HLg.out.2.cg (c':=⟨z,z 46,.slice (Gn ⟨g,0,Hn⟩) (m n+evs.length+1:Nat) cap,decide (z 3<z 47),nt⟩) (QL (fun _ _=>rfl) rfl a8 (by rw[Ax.out,HL.out.old 3 E0,HL.out.old 47 E0]) rfl) rfl) (.inl ⟨rfl,rfl⟩) HRD.out.1;simpa[List.flatMap_append,Nv,tq,Jm]using this
    ·have oV:Uo (Hw k n fr ins) budget (Q n).z C=(evs++[Zz x (Nr z 47)]++[Nv j 3],Nr z,Ru fr n D):=by
      unfold Uo;rw[S10,hr];have:Nr z 46=z 46:=rfl;simp only[this,R10];rfl
     have HW:Hid (Uo (Hw k n fr ins) budget (Q n).z C=(evs++[Zz x (Nr z 47)]++[Nv j 3],Nr z,Ru fr n D)):=oV;have e24:wr.cell? ⟨r.Gc,n*26+23+1,Hn⟩=Gn (.int .i64 (z 47)):=(Tn.rat HAr.out.row (n:=n) (i:=24) E0 E0 E0).trans M4;have f24:=HAr.out.row.frozen (n*26+23+1);have HA2:Hid (∀S B,su wr r.Gc k.nC n Qr {Q n with z:=Wn z 47 B,v:=v,nt:=nt,s:=S} (m n+evs.length) (xs n++evs.flatMap tq) ((wr.setCell ⟨r.Gc,n*26+23,Hn⟩ (.int .i64 S)).setCell ⟨r.Gc,n*26+23+1,Hn⟩ (.int .i64 B))):=fun S B=>(HA1.out S).z47 E0 B;have hxn:(x==0)=false:=by simp;omega
     have SY:¬(x<0):=E0;have HX:Hid (0<x/\x<=3):=⟨pV,hx3⟩;clear hr R10 S10 XH oV;go_wp2_with fail
     all_goals
      have HA3:=HA2.out (wrap64 ((Q n).s+j)) (wrap64 (z 47+1));have jQ:IntKind.i64.wrap (z 47+1)=wrap64 (z 47+1):=w64 _;have hS1:IntKind.i64.wrap ((Q n).s+j)=wrap64 ((Q n).s+j):=w64 _;generalize ((wr.setCell ⟨r.Gc,n*26+23,Hn⟩ (.int .i64 (wrap64 ((Q n).s+j)))).setCell ⟨r.Gc,n*26+23+1,Hn⟩ (.int .i64 (wrap64 (z 47+1))))=W at *;generalize wrap64 (z 47+1)=NF at *;generalize wrap64 ((Q n).s+j)=s23 at *;have kn0:Hid (IntKind.i64.wrap (z 47+1)=NF):=jQ;have Vn0:Hid (IntKind.i64.wrap ((Q n).s+j)=s23):=hS1;have HAW:Hid (su wr r.Gc k.nC n Qr {Q n with z:=Wn z 47 NF,v:=v,nt:=nt,s:=s23} (m n+evs.length) (xs n++evs.flatMap tq) W):=HA3;have d22:W.cell? ⟨r.Gc,n*26+22,Hn⟩=Gn v:=(Tn.rat HA3.row (n:=n) (i:=22) E0 rfl E0).trans M4;have d24:W.cell? ⟨r.Gc,n*26+23+1,Hn⟩=Gn (.int .i64 NF):=(Tn.rat HA3.row (n:=n) (i:=24) E0 E0 E0).trans l8;have fF:r.Gc<W.heap.size:=HA3.row.lt;have uo0:∀o,(W.alloc o).cell? ⟨r.Gc,n*26+22,Hn⟩=Gn v:=fun o=>((Below.refl _ W).alloc N8 _ |>.cell (p:=⟨r.Gc,n*26+22,Hn⟩) fF).trans d22;have vo0:∀o,(W.alloc o).cell? ⟨r.Gc,n*26+23+1,Hn⟩=Gn (.int .i64 NF):=fun o=>((Below.refl _ W).alloc N8 _ |>.cell (p:=⟨r.Gc,n*26+23+1,Hn⟩) fF).trans d24;have ni0:Hid (∀o,(W.alloc o).ownsRow 0 111 3 v (m n+evs.length) (xs n++evs.flatMap tq)):=fun o=>xo HA3.own P8;clear jQ hS1 HA3 HA2 HA1 rO e22 e23 e24 f23 f24
      go_region_law
       (refine Br rfl _ _ 61 rfl 0 111 _ 3 24 underlying61 Gu rfl E0 v (m n+evs.length) (xs n++evs.flatMap tq) rfl (by exact ni0.out _) W.heap.size [.int .i64 2,.int .i64 x,.int .i64 NF] 111 rfl rfl G2 D2 Y1 E0 E0 ?_
        intro g cap w1 kq uo jr Av;have HLg:Hid _:=su.log (a:=n*26+22) (ev:=[.int .i64 2,.int .i64 x,.int .i64 NF]) HAW.out ⟨uo.os,uo.tape,uo.output,uo.size,uo.block⟩ (by first|exact kq|(rw[List.append_assoc];exact kq)) (jr.imp id (fun e=>S4)) rfl;clear d22 d24 uo0 vo0;have q22:w1.cell? ⟨r.Gc,n*26+22,Hn⟩=Gn v:=(Tn.rat HLg.out.1 (n:=n) (i:=22) E0 rfl E0).trans M4;have cl0:=HLg.out.1.frozen (n*26+22);clear kq uo jr Av)
     all_goals
      have HA5:=HLg.out.2;generalize hV:(Value.slice (Gn ⟨g,0,Hn⟩) (m n+evs.length+1:Nat) cap)=v5 at *;have HV5:Hid (∃a b c,v5=.slice a b c):=⟨_,_,_,hV.symm⟩;generalize hW5:(w1.setCell ⟨r.Gc,n*26+22,Hn⟩ v5)=W5 at *;have Zh0:Hid (su wr r.Gc k.nC n Qr {Q n with z:=Wn z 47 NF,v:=v5,nt:=nt,s:=s23} (m n+evs.length+1) (xs n++evs.flatMap tq++[.int .i64 2,.int .i64 x,.int .i64 NF]) W5):=HA5;have HN5:=HNx.out _ _ _ _ HA5 (fun i h3 dV=>M8);have p0:=HN5.h0;have pl:=HN5.hl n hn;have p24:W5.cell? ⟨r.Gc,n*26+23+1,Hn⟩=Gn (.int .i64 NF):=(Tn.rat HA5.row (n:=n) (i:=24) E0 E0 E0).trans l8;have p25:=Tn.rat HA5.row (n:=n) (i:=25) (a:=n*26+23+2) E0 E0 E0;have f25:=HA5.row.frozen (n*26+23+2);have gK:=HN5.sK.Kx;have gb:=HN5.sb.Kx;have nP:∀(V:En)(u:Dn),(V.setCell ⟨r.Gc,n*26+23+2,Hn⟩ u).cell? ⟨r.Kb,0,Hn⟩=V.cell? ⟨r.Kb,0,Hn⟩:=fun V u=>World.cell?_setCell_other _ _ _ _ (fun e=>U2);have k1':∀(V:En)(u:Dn),(V.setCell ⟨r.Gc,n*26+23+2,Hn⟩ u).cell? ⟨r.bo,r.oo+n*3+2,Hn⟩=V.cell? ⟨r.bo,r.oo+n*3+2,Hn⟩:=fun V u=>World.cell?_setCell_other _ _ _ _ (fun e=>U2);have k2':∀(V:En)(u:Dn),(V.setCell ⟨r.Gc,n*26+23+2,Hn⟩ u).cell? ⟨r.Gc,n*26+23+1,Hn⟩=V.cell? ⟨r.Gc,n*26+23+1,Hn⟩:=fun V u=>World.cell?_setCell_other _ _ _ _ (fun e=>by have e1:=congrArg Addr.off e;simp only at e1;omega);clear HA5 HN5 HLg q22 cl0 hW5 hV ni0 HAW fF;go_wp2_with fail;go_region_held3 (fun W=>W.cell? ⟨r.Kb,0,Hn⟩=Gn (.slice (Gn ⟨r.bo,r.oo,Hn⟩) k.nC r.cq)/\W.cell? ⟨r.bo,r.oo+n*3+2,Hn⟩=Gn (.int .i64 (r.lim n))/\W.cell? ⟨r.Gc,n*26+23+1,Hn⟩=Gn (.int .i64 NF)) (go_keep) (fail);clear nP k1' k2' p0 pl p24 p25 f25;go_wp2_with fail
     all_goals
      have HA6:Hid (su wr r.Gc k.nC n Qr {Q n with z:=Wn z 47 NF,v:=v5,nt:=nt,s:=s23,b:=decide (r.lim n<NF)} (m n+evs.length+1) (xs n++evs.flatMap tq++[.int .i64 2,.int .i64 x,.int .i64 NF]) (W5.setCell ⟨r.Gc,n*26+23+2,Hn⟩ (.bool (decide (r.lim n<NF)))).drew):=(Zh0.out.b E0 _).drew;have HN6:=HNx.out _ _ _ _ HA6.out (fun i h3 dV=>M8);refine(aF r.Kb r.Gc n k.nC r.cq r.bo r.oo (r.nG n) (r.ic n) 131 (r.iq n) (r.img n) _ _ HN6.h0 HN6.h4 (HN6.hi n hn) (HN6.qV n hn) HN6.row hn (HN6.g16 n hn) gK gb (fun b o e=>(HN6.si n hn b o e).Kx)).mono ?_;clear HN6;rintro e W7 ⟨rfl,hg7,hr7⟩;rw[Es,Yn]at hr7;have HA7:Hid (su wr r.Gc k.nC n Qr {Q n with z:=ZB (r.nG n) (r.img n) (Wn z 47 NF),v:=v5,s:=s23,b:=decide (r.lim n<NF),nt:=.slice Hn 0 0} (m n+evs.length+1) (xs n++evs.flatMap tq++[.int .i64 2,.int .i64 x,.int .i64 NF]) W7):=HA6.out.fresh hg7 hr7 rfl;clear hg7 hr7;have d22:W7.cell? ⟨r.Gc,n*26+22,Hn⟩=Gn v5:=(Tn.rat HA7.out.row (n:=n) (i:=22) E0 rfl E0).trans M4;have mi0:Hid (∀o,(W7.alloc o).ownsRow 0 111 3 v5 (m n+evs.length+1) (xs n++evs.flatMap tq++[.int .i64 2,.int .i64 x,.int .i64 NF])):=fun o=>xo HA7.out.own P8;clear HA6 Zh0;go_wp2_with (at_builtin;refine Eo _ rfl _ _ 61 rfl 0 111 _ 3 24 underlying61 Gu rfl E0 v5 (m n+evs.length+1) (xs n++evs.flatMap tq++[.int .i64 2,.int .i64 x,.int .i64 NF]) rfl (by exact mi0.out _) W7.heap.size [.int .i64 3,.int .i64 j,.int .i64 3] 111 rfl rfl G2 D2 Y1 E0 E0 ?_);intro g cap w1 kq uo jr Av;have HL8:Hid _:=su.log (a:=n*26+22) (ev:=[.int .i64 3,.int .i64 j,.int .i64 3]) HA7.out ⟨uo.os,uo.tape,uo.output,uo.size,uo.block⟩ (by first|exact kq|(simp only[List.append_assoc]at kq ⊢;exact kq)) (jr.imp id (fun e=>S4)) rfl;have q22:w1.cell? ⟨r.Gc,n*26+22,Hn⟩=Gn v5:=(Tn.rat HL8.out.1 (n:=n) (i:=22) E0 rfl E0).trans M4;have cl0:=HL8.out.1.frozen (n*26+22);clear kq uo jr Av d22 mi0 HA7;go_wp2_with fail
      (try simp only[Exit.inBlock,Exit.then])
      refine aj ?_;exact⟨rfl,FIN.out _ [] (Ru fr n D) _ _ _ (V00 (lim:=r.lim n) (nG:=r.nG n) (img:=r.img n) (z0:=(Q n).z) (s0:=(Q n).s) HL8.out.2 (H.out.g16 n hn) (H.out.fst n hn) HL.out.old HL.out.s46 HS1.out kn0.out Vn0.out) (.inr ⟨rfl,rfl⟩) HRD.out.2⟩
end
def JD(s:yC)(vs ts:Nat->Dn)(i:Nat):RC:=⟨s.z i,s.z i 46,vs i,decide (s.z i 3<s.z i 47),ts i⟩
def SOk(k:RA)(s:yC):Prop:=∀i,i<k.nC->aB (k.n i) (s.z i)/\IntKind.i64.wrap (s.z i 46)=s.z i 46
theorem OQ(x:Int):IntKind.i64.wrap (IntKind.i64.wrap x)=IntKind.i64.wrap x:=by
 rw[IntKind.wrap_i64,IntKind.wrap_i64];omega
theorem xW{p:TI}{kc:Nat}(Yr:yx p.n kc p.ci):∀(k:Nat)(z:Nat->Int)(C:Nat->Us),aB p.n z->IntKind.i64.wrap (z 46)=z 46->IntKind.i64.wrap ((Kv p k z C).2.2.1 46)=(Kv p k z C).2.2.1 46/\∀i,i<25->(Kv p k z C).2.2.1 i=z i
 |0,_,_,_,h=>⟨h,fun _ _=>rfl⟩
 |k+1,z,C,hz,h=>by
  obtain⟨k1,k2,-⟩:=EK (ins:=p.ins) (C:=C) Yr hz;obtain⟨b,hb⟩:=qI kc C;have hzk:=zF (ins:=p.ins) Yr hz hb;simp only[Kv];revert k1 k2 hzk;cases Pq p.n p.ci p.ins z C with
  |on op e z' C'=>
   intro k1 k2 hzk;have h46:IntKind.i64.wrap (z' 46)=z' 46:=by
    have:z' 46=IntKind.i64.wrap (z 46+1):=k2;rw[this,OQ]
   by_cases h0:op=0
   ·simp only[h0,if_true];exact⟨h46,fun i hi=>k1 i (.inl hi)⟩
   ·simp only[h0,if_false];obtain⟨g1,g2⟩:=xW Yr k z' C' hzk.1 h46;exact⟨g1,fun i hi=>(g2 i hi).trans (k1 i (.inl hi))⟩
  |Xr y z'=>
   intro k1 k2 _;have:z' 46=IntKind.i64.wrap (z 46+1):=k2;refine⟨?_,fun i hi=>?_⟩
   ·show IntKind.i64.wrap (z' 46)=z' 46;rw[this,OQ]
   ·have:Nr z' i=z' i:=by unfold Nr;rw[if_neg E0,if_neg E0]
    exact this.trans (k1 i (.inl hi))
theorem JK{p:TI}{kc:Nat}(Yr:yx p.n kc p.ci){z:Nat->Int}(C:Nat->Us)(hz:aB p.n z)(h:IntKind.i64.wrap (z 46)=z 46)(b:Nat):IntKind.i64.wrap ((Uo p b z C).2.1 46)=(Uo p b z C).2.1 46/\∀i,i<25->(Uo p b z C).2.1 i=z i:=by
 show IntKind.i64.wrap ((uE p b z C).2.2.1 46)=(uE p b z C).2.2.1 46/\∀i,i<25->(uE p b z C).2.2.1 i=z i;unfold uE;split
 ·exact⟨h,fun _ _=>rfl⟩
 ·exact xW Yr b z C hz h
theorem vW{p:TI}:∀(k:Nat)(z:Nat->Int)(C:Nat->Us),(Kv p k z C).1.length<=k
 |0,_,_=>Om _
 |k+1,z,C=>by
  simp only[Kv];have h1:=AW (Pq p.n p.ci p.ins z C);revert h1;cases Pq p.n p.ci p.ins z C with
  |on op e z' C'=>
   intro h1;have h2:=vW (p:=p) k z' C';by_cases h0:op=0
   ·simp only[h0,if_true];rw[h0]at h1;omega
   ·simp only[h0,if_false,List.length_append];omega
  |Xr y z'=>intro _;simp
theorem ZW{p:TI}(k:Nat)(z:Nat->Int)(C:Nat->Us):(Uo p k z C).1.length<=k+1:=by
 show ((uE p k z C).1++[_]).length<=k+1;have:(uE p k z C).1.length<=k:=by
  unfold uE;split
  ·simp
  ·exact vW k z C
 simp;omega
section
variable {w0 w w':En}{k:RA}{K:Ys}{r:RK}{s:yC}{vs ts gU:Nat->Dn}{p:Nat×Nat}{v' tZ:Dn}{nl:Nat->List (Int×Int)}{Ls YL:Nat->Ln}{kind:Nat->Int}{F:Int}{inV:Dn}{il ins:List (Int×Int)}{wn:Nat->Nat×Nat}
theorem SOk.win(h:SOk k s){kc:Nat}(Yr:∀i,i<k.nC->yx (k.n i) kc (k.ci i))(hp:p.1<k.nC):SOk k (jD k K ins p s):=fun i hi=>by
 show aB (k.n i) (Qo s.z p.1 _ i)/\IntKind.i64.wrap (Qo s.z p.1 _ i 46)=Qo s.z p.1 _ i 46;by_cases e:i=p.1
 ·subst e;rw[Yn];obtain⟨b,hb⟩:=qI kc s.D;exact⟨(jH (p:=Yw k K ins p.1) (Yr _ hp) _ (h _ hp).1 hb).1,(JK (p:=Yw k K ins p.1) (Yr _ hp) s.D (h _ hp).1 (h _ hp).2 _).1⟩
 ·refine Xk ?_;exact h i hi
structure mX(w0:En)(gU:Nat->Dn)(YL:Nat->Ln)(k:RA)(K:Ys)(r:RK)(kind:Nat->Int)(s:yC)(vs ts:Nat->Dn)(nl:Nat->List (Int×Int))(Ls:Nat->Ln)(F:Int)(inV:Dn)(il:List (Int×Int))(d:Nat)(w:En):Prop where
 kn:Uu w k r (JD s vs ts) s.m s.xs
 net:lu w k.nC r (JD s vs ts) nl Ls F inV il
 rel:Ns r.kc kind K.fr nl Ls F s.D
 wt:Yv r.kc s.D
 but:Jq (fun j=>(j=r.Gc\/j=r.Lb)\/∃i,i<k.nC/\(gU i).ownBlock=Gn j) w0 w
 blk:∀i b,i<k.nC->(vs i).ownBlock=Gn b->(gU i).ownBlock=Gn b\/w0.heap.size<=b
 tN:∀i b,i<k.nC->(ts i).ownBlock=Gn b->w0.heap.size<=b
 Dc0:∀c b,c<r.kc->(Ls c).wv.ownBlock=Gn b->(YL c).wv.ownBlock=Gn b\/w0.heap.size<=b
 dl:∀i,i<k.nC->(nl i).length<=d
theorem v90(lJ:k.num p.1=p.1):Qo (JD s vs ts) p.1 ⟨(Uo (Hw k p.1 K.fr ins) p.2 (s.z p.1) s.D).2.1,(Uo (Hw k p.1 K.fr ins) p.2 (s.z p.1) s.D).2.1 46,v',decide ((Uo (Hw k p.1 K.fr ins) p.2 (s.z p.1) s.D).2.1 3<(Uo (Hw k p.1 K.fr ins) p.2 (s.z p.1) s.D).2.1 47),tZ⟩=JD (jD k K ins p s) (Qo vs p.1 v') (Qo ts p.1 tZ):=by
 have e:Yw k K ins p.1=Hw k p.1 K.fr ins:=by unfold Yw Hw;rw[lJ]
 funext i
 unfold JD jD;rw[e];by_cases e:i=p.1
 ·subst e;simp only[Yn]
 ·simp only[Oo _ _ e]
theorem mX.after{d:Nat}(h:mX w0 gU YL k K r kind s vs ts nl Ls F inV il d w)(hp:p.1<k.nC)(lJ:k.num p.1=p.1)(hS:SOk k s)
  (hA:jz w k.nC r p.1 (JD s vs ts) nl Ls kind K.fr F inV il (Uo (Hw k p.1 K.fr ins) p.2 (s.z p.1) s.D).2.2 (Uo (Hw k p.1 K.fr ins) p.2 (s.z p.1) s.D).2.1 ((Uo (Hw k p.1 K.fr ins) p.2 (s.z p.1) s.D).2.1 46) (decide ((Uo (Hw k p.1 K.fr ins) p.2 (s.z p.1) s.D).2.1 3<(Uo (Hw k p.1 K.fr ins) p.2 (s.z p.1) s.D).2.1 47)) (s.m p.1+(Uo (Hw k p.1 K.fr ins) p.2 (s.z p.1) s.D).1.length) (s.xs p.1++(Uo (Hw k p.1 K.fr ins) p.2 (s.z p.1) s.D).1.flatMap tq) p.2 w'):
  ∃CB ts' nl' EC,mX w0 gU YL k K r kind (jD k K ins p s) CB ts' nl' EC F inV il (d+p.2) w':=by
 have e:Yw k K ins p.1=Hw k p.1 K.fr ins:=by unfold Yw Hw;rw[lJ]
 obtain⟨v',tZ,l',EC,h0,h1,h2,h3,h4⟩:=hA;have hz:=hS _ hp;have kn:=h.kn.after h.net hp h1 (fun j _ dV=>(JK (p:=Hw k p.1 K.fr ins) (h.kn.ok _ hp) s.D hz.1 hz.2 p.2).2 j dV);rw[v90 lJ]at kn h2;refine⟨Qo vs p.1 v',Qo ts p.1 tZ,Qo nl p.1 l',EC,?_,h2,?_,?_,h.but.trans h1.but (fun _ x=>x) (fun j hj x=>?_),fun i b hi hb=>?_,fun i b hi hb=>?_,fun c b hc hb=>?_,fun i hi=>?_⟩
 ·unfold jD;rw[e];unfold jD at kn;rw[e]at kn;exact kn
 ·unfold jD;rw[e];exact h3
 ·unfold jD;rw[e];exact MI (p:=Hw k p.1 K.fr ins) (h.kn.ok _ hp) _ hz.1 h.wt
 ·rcases x with x|x|x
  ·exact .inl x
  ·rcases h.blk p.1 j hp x with x|x
   ·exact .inr ⟨p.1,hp,x⟩
   ·omega
  ·have:=h.tN p.1 j hp x;omega
 ·by_cases e:i=p.1
  ·subst e;rw[Yn]at hb;rcases h1.blk b hb with x|x
   ·exact h.blk _ b hi x
   ·exact .inr y9
  ·rw[Oo _ _ e]at hb;exact h.blk i b hi hb
 ·by_cases e:i=p.1
  ·subst e;rw[Yn]at hb;rcases h1.tN b hb with x|x
   ·exact h.tN _ b hi x
   ·exact Qm h.but.size x
  ·rw[Oo _ _ e]at hb;exact h.tN i b hi hb
 ·rcases h4 c b hc hb with x|x
  ·exact h.Dc0 c b hc x
  ·exact .inr y9
 ·by_cases e:i=p.1
  ·subst e;rw[Yn];have:=h.dl _ hp;omega
  ·refine Xk ?_;have:=h.dl i hi;omega
theorem mX.stat{d:Nat}(h:mX w0 gU YL k K r kind s vs ts nl Ls F inV il d w){b:Nat}(hs:du r w0 b)(Io:∀i b,i<k.nC->(gU i).ownBlock=Gn b->r.hi<=b):w.heap[b]?=w0.heap[b]?:=by
 refine h.but.block b hs.lt (fun e=>?_);rcases e with (e|e)|⟨i,hi,e⟩
 ·exact hs.2.1.1 e
 ·exact hs.2.1.2 e
 ·exact hs.yz (fun b=>Io i b hi) e
end
def Iw(kind F1:Int)(l:Ln)(x:Int):Ln:=if kind=2 then {l with shown:=Um,shows:=x,since:=F1}else if l.ws.length<4 then {l with ws:=l.ws++[x]}else {l with lost:=IntKind.i64.wrap (l.lost+1)}
def Gv(a b:Ln):Prop:=a.ws=b.ws/\a.lost=b.lost/\a.shown=b.shown/\a.shows=b.shows/\a.since=b.since
theorem Gv.refl(a:Ln):Gv a a:=⟨rfl,rfl,rfl,rfl,rfl⟩
theorem vg0(l:List Int):∀(c:Us)(ln:Ln){kind F1:Int},kind≠2->c.wait=ln.ws->c.lost=ln.lost->(l.foldl Jw c).wait=(l.foldl (Iw kind F1) ln).ws/\(l.foldl Jw c).lost=(l.foldl (Iw kind F1) ln).lost:=by
 induction l with
 |nil=>intro c ln _ _ _ h1 h2;exact⟨h1,h2⟩
 |cons x l ih=>
  intro c ln kind F1 hk h1 h2;refine ih _ _ hk ?_ ?_
  ·unfold Jw Iw;rw[if_neg hk,h1];split<;>simp_all
  ·unfold Jw Iw;rw[if_neg hk,h1];split<;>simp_all
theorem xg0(l:List Int):∀(ln:Ln){F1:Int},(l=[]->l.foldl (Iw 2 F1) ln=ln)/\(∀x l',l=l'++[x]->(l.foldl (Iw 2 F1) ln).shown=Um/\(l.foldl (Iw 2 F1) ln).shows=x/\(l.foldl (Iw 2 F1) ln).since=F1):=by
 intro ln F1;refine⟨fun e=>by subst e;rfl,fun x l' e=>?_⟩;subst e;rw[List.foldl_append];exact vl
theorem LU(c:Us):(az c).shown=c.shown/\(az c).age=c.age/\(az c).Hu=c.Hu/\(az c).anew=c.anew:=by
 have key:∀(l:List Int)(c:Us),(l.foldl Jw c).shown=c.shown/\(l.foldl Jw c).age=c.age/\(l.foldl Jw c).Hu=c.Hu/\(l.foldl Jw c).anew=c.anew:=by
  intro l;induction l with
  |nil=>intro c;exact⟨rfl,rfl,rfl,rfl⟩
  |cons x l ih=>
   intro c;obtain⟨h1,h2,h3,h4⟩:=ih (Jw c x);have hp:(Jw c x).shown=c.shown/\(Jw c x).age=c.age/\(Jw c x).Hu=c.Hu/\(Jw c x).anew=c.anew:=by unfold Jw;split<;>exact⟨rfl,rfl,rfl,rfl⟩
   exact⟨h1.trans hp.1,h2.trans hp.2.1,h3.trans hp.2.2.1,h4.trans hp.2.2.2⟩
 exact key c.sent c
theorem jY(c:Us):(yB c).wait=c.wait/\(yB c).lost=c.lost/\(yB c).sent=c.sent:=by
 unfold yB;split
 ·exact vl
 ·split<;>exact⟨rfl,rfl,rfl⟩
theorem a10{kind F:Int}{l:List Int}{ln ln':Ln}{c:Us}(h:l60 kind l ln F c)(hF:0<=F/\F<=1000000000000)(hs:Gv ln' (l.foldl (Iw kind (F+1)) ln)):l60 kind [] ln' (F+1) (yB (az c)):=by
 obtain⟨s1,s2,s3,s4,s5⟩:=hs;refine⟨fun hk=>?_,fun hk=>?_⟩
 ·obtain⟨h1,h2,h3⟩:=h.q hk;obtain⟨e1,e2,e3⟩:=jY (az c);obtain⟨p1,p2⟩:=vg0 l c ln (kind:=kind) (F1:=F+1) E0 h1 h2;rw[e1,e2,e3,s1,s2,<-p1,<-p2,<-h3];exact vl
 ·subst hk;obtain⟨h1,h2,h3,h4,h5⟩:=h.s rfl;obtain⟨q1,q2,q3,q4⟩:=LU c;obtain⟨p1,p2⟩:=xg0 l ln (F1:=F+1);rcases List.eq_nil_or_concat l with hl|⟨l',x,hl⟩
  ·rw[p1 hl]at s3 s4 s5;have hna:c.anew=false:=by
    cases ha:c.anew with
    |true=>exact absurd hl (h3.1 ha)
    |false=>rfl
   have ee:yB (az c)=if (az c).age=-1 then az c else {az c with age:=IntKind.i64.wrap ((az c).age+1)}:=by
    show (if (az c).anew=Um then _ else _)=_;rw[if_neg (by rw[q4,hna];decide)]
   rw[ee,s3,s4,s5];by_cases xX:ln.shown=Um
   ·rw[if_pos xX]at h1 h2;have hb:=h5 xX;have Yp:¬(az c).age=-1:=by rw[q2,h2];omega
    rw[if_neg Yp,if_pos xX,if_pos xX];refine⟨q1.trans h1,?_,?_,fun x l' e=>by simp at e,fun _=>E0⟩
    ·show IntKind.i64.wrap ((az c).age+1)=_;rw[q2,h2,IntKind.wrap_i64];omega
    ·show ((az c).anew=Um↔_);rw[q4,hna];simp
   ·rw[if_neg xX]at h1 h2;rw[if_pos (by rw[q2,h2]),if_neg xX,if_neg xX];refine⟨q1.trans h1,q2.trans h2,?_,fun x l' e=>by simp at e,fun e=>absurd e xX⟩;rw[q4,hna];simp
  ·have hl:l=l'++[x]:=by simpa using hl
   obtain⟨g1,g2,g3⟩:=p2 x l' hl;have ha:c.anew=true:=h3.2 (by rw[hl];simp);have ee:yB (az c)={az c with shown:=(az c).Hu,age:=0,Hu:=0,anew:=Tm}:=by
    show (if (az c).anew=Um then _ else _)=_;rw[if_pos (by rw[q4];exact ha)]
   rw[ee,s3,s4,s5,g1,g2,g3];refine⟨?_,?_,P0,fun x l' e=>by simp at e,fun _=>E0⟩
   ·show (az c).Hu=_;rw[q3,h4 x l' hl];simp
   ·show (0:Int)=_;simp
theorem rZ{kc:Nat}{kind fr:Nat->Int}{nl:Nat->List (Int×Int)}{Ls L:Nat->Ln}{F:Int}{C:Nat->Us}(h:Ns kc kind fr nl Ls F C)(hF:0<=F/\F<=1000000000000)(hs:∀c,c<kc->Gv (L c) ((xE c (nl (fr c).toNat)).foldl (Iw (kind c) (F+1)) (Ls c))):Ns kc kind fr (fun _=>[]) L (F+1) (MH kc C):=fun c hc=>by
 have e:MH kc C c=yB (az (C c)):=by unfold MH pz;rw[if_pos hc,if_pos hc]
 rw[e];exact a10 (h c hc) hF (hs c hc)
structure BL(w0:En)(r:RK)(YL L:Nat->Ln)(w:En):Prop where
 but:Jq (fun j=>j=r.Lb\/∃c,c<r.kc/\(YL c).wv.ownBlock=Gn j) w0 w
 row:Tn w r.Lb (r.kc*5) 175 (eu L)
 own:∀c,c<r.kc->w.ownsRow 0 2 1 (L c).wv (L c).ws.length (vE (L c).ws)
 ne:∀c c',c<r.kc->c'<r.kc->c≠c'->∀b,(L c).wv.ownBlock=Gn b->(L c').wv.ownBlock≠Gn b
 blk:∀c b,c<r.kc->(L c).wv.ownBlock=Gn b->(YL c).wv.ownBlock=Gn b\/w0.heap.size<=b
section
variable {w0 w w1:En}{r:RK}{YL L:Nat->Ln}{c a:Nat}{v:Dn}{ln:Ln}
theorem BL.set(h:BL w0 r YL L w)(hr:Tn (w.setCell ⟨r.Lb,a,Hn⟩ v) r.Lb (r.kc*5) 175 (eu (Qo L c ln)))(h1:ln.wv=(L c).wv)(h2:ln.ws=(L c).ws):BL w0 r YL (Qo L c ln) (w.setCell ⟨r.Lb,a,Hn⟩ v):=by
 have eq:∀d,(Qo L c ln d).wv=(L d).wv/\(Qo L c ln d).ws=(L d).ws:=fun d=>by
  by_cases e:d=c
  ·subst e;rw[Yn];exact⟨h1,h2⟩
  ·refine Xk ?_;exact Xl
 refine⟨⟨h.but.os,h.but.tape,h.but.output,by rw[size_setCell];exact h.but.size,fun k hk hn=>(yn _ _ _ _ (fun e=>hn (.inl e))).trans (h.but.block k hk hn)⟩,hr,fun d hd=>?_,fun d d' hd eP Yp b=>?_,fun d b hd=>?_⟩
 ·rw[(eq d).1,(eq d).2];exact Lr (h.own d hd) fun b hb=>yn _ (a:=⟨r.Lb,a,Hn⟩) _ _ (fun e=>xp (h.own d hd) h.row U0 (by rw[<-(show b=r.Lb from e)];exact hb))
 ·rw[(eq d).1,(eq d').1];exact h.ne d d' hd eP Yp b
 ·rw[(eq d).1];exact h.blk d b hd
theorem BL.push(h:BL w0 r YL L w)(hc:c<r.kc){o:Obj}{g cap:Nat}{x:Int}(hg:(w.alloc o).grownBy w1 (L c).wv.ownBlock)(ho:w1.ownsRow 0 2 1 (.slice (Gn ⟨g,0,Hn⟩) ((L c).ws.length+1:Nat) cap) ((L c).ws.length+1) (vE (L c).ws++[.int .i64 x]))(jr:(L c).wv.ownBlock=Gn g\/w.heap.size<=g)(ha:a=c*5+0):
  Tn w1 r.Lb (r.kc*5) 175 (eu L)/\BL w0 r YL (Qo L c {L c with wv:=.slice (Gn ⟨g,0,Hn⟩) ((L c).ws.length+1:Nat) cap,ws:=(L c).ws++[x]}) (w1.setCell ⟨r.Lb,a,Hn⟩ (.slice (Gn ⟨g,0,Hn⟩) ((L c).ws.length+1:Nat) cap)):=by
 have hs:w.heap.size<=w1.heap.size:=Qm P0 hg.size;have kept:∀b,b<w.heap.size->(L c).wv.ownBlock≠Gn b->w1.heap[b]?=w.heap[b]?:=fun b hb Yp=>(hg.block b A1 (fun e=>Yp e.symm)).trans (heap_alloc_old w _ hb);have hLb:(L c).wv.ownBlock≠Gn r.Lb:=xp (h.own c hc) h.row U0;have hr:Tn w1 r.Lb (r.kc*5) 175 (eu L):=h.row.of_heap (kept _ h.row.lt hLb);have gL:g≠r.Lb:=fun e=>by
  rcases jr with x|x
  ·exact hLb (by rw[<-e];exact x)
  ·have:=h.row.lt;omega
 have ob:∀b,(Value.slice (Gn ⟨g,0,Hn⟩) ((L c).ws.length+1:Nat) cap).ownBlock=Gn b->g=b:=fun b hb=>by simpa[Value.ownBlock]using hb
 refine⟨hr,⟨⟨hg.os.trans h.but.os,hg.tape.trans h.but.tape,hg.output.trans h.but.output,I6,fun k hk hn=>?_⟩,Tn.lw hr ha _ _,fun d hd=>?_,fun d d' hd eP Yp b hb Xq=>?_,fun d b hd hb=>?_⟩⟩
 ·rw[yn _ _ _ _ (fun e=>hn (.inl e)),kept k (Lm hk h.but.size) (fun e=>by
   rcases h.blk c k hc e with x|x
   ·exact hn (.inr ⟨c,hc,x⟩)
   ·omega)]
  exact jk
 ·by_cases e:d=c
  ·subst e;rw[Yn];have e2:vE ((L d).ws++[x])=vE (L d).ws++[.int .i64 x]:=by unfold vE;simp
   have e3:((L d).ws++[x]).length=(L d).ws.length+1:=P0;show World.ownsRow _ 0 _ 1 _ ((L d).ws++[x]).length (vE ((L d).ws++[x]));rw[e2,e3];exact Lr ho fun b hb=>yn _ (a:=⟨r.Lb,a,Hn⟩) _ _ (fun e=>gL ((ob b hb).trans e))
  ·refine Xk ?_;have hk:∀b,(L d).wv.ownBlock=Gn b->w1.heap[b]?=w.heap[b]?:=fun b hb=>kept b (Qv (h.own d hd) hb) (fun x=>h.ne d c hd hc e b hb x);exact Lr (h.own d hd) fun b hb=>(yn _ (a:=⟨r.Lb,a,Hn⟩) _ _ (fun e=>xp (h.own d hd) h.row U0 (by rw[<-(show b=r.Lb from e)];exact hb))).trans (hk b hb)
 ·by_cases e:d=c
  ·subst e;rw[Yn]at hb;rw[Oo _ _ (fun x=>Yp x.symm)]at Xq;have:=ob b hb;subst this;rcases jr with x|x
   ·exact h.ne d d' hd eP Yp g x Xq
   ·have:=Qv (h.own d' eP) Xq;omega
  ·rw[Oo _ _ e]at hb;by_cases e2:d'=c
   ·subst e2;rw[Yn]at Xq;have:=ob b Xq;subst this;rcases jr with x|x
    ·exact h.ne d d' hd eP Yp g hb x
    ·have:=Qv (h.own d hd) hb;omega
   ·rw[Oo _ _ e2]at Xq;exact h.ne d d' hd eP Yp b hb Xq
 ·by_cases e:d=c
  ·subst e;rw[Yn]at hb;have:=ob b hb;subst this;rcases jr with x|x
   ·exact h.blk d g hd x
   ·exact .inr y9
  ·rw[Oo _ _ e]at hb;exact h.blk d b hd hb
end
end Go.Proofs.YtdoghgnifkgfdaaGreat.Mute
