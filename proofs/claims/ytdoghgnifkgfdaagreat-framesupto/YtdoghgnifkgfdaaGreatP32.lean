import Derived.Test.YtdoghgnifkgfdaaGreatP00
import Derived.Test.YtdoghgnifkgfdaaGreatP22
import Derived.Test.YtdoghgnifkgfdaaGreatP23
import Derived.Test.YtdoghgnifkgfdaaGreatP30
import Derived.Test.YtdoghgnifkgfdaaGreatP31
set_option maxRecDepth 100000
set_option maxHeartbeats 16000000
open Option renaming none->Ai,some->yi
open Go renaming World->ui,Value->ti,undef->ri
open Bool renaming true->ji,false->gi
namespace Go.Proofs.YtdoghgnifkgfdaaGreat.Mute
open Tryz Go Go.Conc Go.RowKit
def Ll(w:ui)(b:Nat):Prop:=∃cs t fz,w.heap[b]?=yi (.cells cs t fz)/\t≠186/\t≠61/\t≠111/\t≠156/\t≠158/\t≠2
structure EB(w:ui)(k:Vu)(K:Nl):Prop where
 k2:w.cell? ⟨k.kb,2,Ai⟩=yi (.slice (yi ⟨k.C,0,Ai⟩) k.nC k.cC)
 k4:w.cell? ⟨k.kb,4,Ai⟩=yi (.slice (yi ⟨k.T,0,Ai⟩) k.nC k.nC)
 WN:Ll w k.kb
 sC:Ll w k.C
 snb:Ll w K.nb
 seb:0<K.k->Ll w K.eb
 scb:∀i,i<k.nC->Ll w (k.cb i)
 cl:∀i,i<k.nC->w.cell? ⟨k.C,i,Ai⟩=yi (.pointer (yi ⟨k.g i,0,Ai⟩))
 code:∀i,i<k.nC->∀j,j<k.n i*4->w.cell? ⟨k.cb i,k.co i+j,Ai⟩=yi (.int .i64 (k.ci i j))
 nc:sH w K
 n48:∀i,i<k.nC->k.n i<=48
 ok:∀i,i<k.nC->uq (k.n i) K.k (k.ci i)
 inj:∀i j,i<k.nC->j<k.nC->i≠j->k.g i≠k.g j
structure Hy where
 z:Nat->Nat->Int
 m:Nat->Nat
 xs:Nat->List ti
 D:Nat->Jl
structure Ux(w:ui)(k:Vu)(K:Nl)(s:Hy)(f:Nat->ti)(lr:Nat->Option Row):Prop where
 row:∀i,i<k.nC->Ei w (k.g i) 48 186 (cellV (k.num i) (.pointer (yi ⟨K.nb,0,Ai⟩)) (Um (k.cb i) (k.co i) (k.n i) (k.cc i)) (s.z i))
 tr:Ei w k.T k.nC 61 f
 own:∀i,i<k.nC->w.ownsRow 0 111 3 (f i) (s.m i) (s.xs i)
 zok:∀i,i<k.nC->Fv (k.n i) (s.z i)
 Un:∀i j,i<k.nC->j<k.nC->i≠j->∀b,(f i).ownBlock=yi b->(f j).ownBlock≠yi b
 nt:VJ w K s.D lr
def DB(k:Vu)(K:Nl)(f:Nat->ti)(lr:Nat->Option Row)(b:Nat):Prop:=b=k.T\/Ak K lr b\/∃i,i<k.nC/\(b=k.g i\/(f i).ownBlock=yi b)
section
variable {w w':ui}{k:Vu}{K:Nl}{s:Hy}{f f':Nat->ti}{lr Vr:Nat->Option Row}
theorem Ll.lt{b:Nat}(h:Ll w b):b<w.heap.size:=by
 obtain⟨cs,t,fz,h1,_⟩:=h;exact(Array.getElem?_eq_some_iff.1 h1).1
theorem Ll.of_heap{b:Nat}(h:Ll w b)(e:w'.heap[b]?=w.heap[b]?):Ll w' b:=by
 obtain⟨cs,t,fz,h1,h2⟩:=h;exact⟨cs,t,fz,e.trans h1,h2⟩
theorem Ll.Dq{b g m t:Nat}{f:Nat->ti}(h:Ll w b)(hr:Ei w g m t f)(ht:t=186\/t=61\/t=156\/t=158\/t=2):b≠g:=fun e=>by
 subst e;obtain⟨cs,t',fz,h1,h2,h3,h4,h5,h6,h7⟩:=h;obtain⟨cs',h8,_⟩:=hr;rw[h8]at h1;injection h1 with h1
 injection h1 with _ h1
 rcases ht with rfl|rfl|rfl|rfl|rfl
 ·exact h2 h1.symm
 ·exact h3 h1.symm
 ·exact h5 h1.symm
 ·exact h6 h1.symm
 ·exact h7 h1.symm
theorem Ll.ot{b:Nat}(h:Ll w b){v:ti}{m:Nat}{xs:List ti}(ho:w.ownsRow 0 111 3 v m xs):v.ownBlock≠yi b:=fun e=>by
 obtain⟨cs,fz,h1⟩:=uM ho e;obtain⟨cs',t',fz',h2,_,_,h4,_⟩:=h;rw[h1]at h2;injection h2 with h2
 injection h2 with _ h2
 exact h4 h2.symm
theorem Ll.OQ{b:Nat}(h:Ll w b){D:Nat->Jl}(hn:VJ w K D lr):¬Ak K lr b:=fun hb=>by
 obtain⟨m,t,f,hr,ht⟩:=hn.at hb;exact h.Dq hr (by rcases ht with ht|ht|ht<;>simp[ht]) rfl
theorem Ll.far(h:Ux w k K s f lr){cell:Nat}(hc:cell<k.nC){b:Nat}(hs:Ll w b):Far k.T (k.g cell) (f cell) (Ak K lr) b:=
 ⟨hs.Dq (h.row cell hc) (.inl rfl),hs.Dq h.tr (.inr (.inl rfl)),hs.ot (h.own cell hc),hs.OQ h.nt⟩
theorem Ll.R70(h:Ux w k K s f lr){b:Nat}(hs:Ll w b):¬DB k K f lr b:=by
 rintro (hb|hb|⟨i,hi,hb|hb⟩)
 ·exact hs.Dq h.tr (.inr (.inl rfl)) hb
 ·exact hs.OQ h.nt hb
 ·exact hs.Dq (h.row i hi) (.inl rfl) hb
 ·exact hs.ot (h.own i hi) hb
theorem EB.h30(h:EB w k K)(h2:w'.cell? ⟨k.kb,2,Ai⟩=w.cell? ⟨k.kb,2,Ai⟩)(h4:w'.cell? ⟨k.kb,4,Ai⟩=w.cell? ⟨k.kb,4,Ai⟩)(hs:Ll w' k.kb)(hk:∀b,(b=k.C\/b=K.nb\/(0<K.k/\b=K.eb)\/∃i,i<k.nC/\b=k.cb i)->w'.heap[b]?=w.heap[b]?):EB w' k K:=by
 have hC:=hk k.C (.inl rfl);have hn:=hk K.nb (.inr (.inl rfl));have he:=fun h0:0<K.k=>hk K.eb (.inr (.inr (.inl ⟨h0,rfl⟩)));have hc:=fun i (hi:i<k.nC)=>hk (k.cb i) (.inr (.inr (.inr ⟨i,hi,rfl⟩)));exact⟨h2.trans h.k2,h4.trans h.k4,hs,h.sC.of_heap hC,h.snb.of_heap hn,fun h0=>(h.seb h0).of_heap (he h0),fun i hi=>(h.scb i hi).of_heap (hc i hi),fun i hi=>(cell_of_heap (a:=⟨k.C,i,Ai⟩) hC).trans (h.cl i hi),fun i hi j hj=>(cell_of_heap (a:=⟨k.cb i,k.co i+j,Ai⟩) (hc i hi)).trans (h.code i hi j hj),h.nc.keep hn he,h.n48,h.ok,h.inj⟩
theorem EB.keep(h:EB w k K)(hk:∀b,Ll w b->w'.heap[b]?=w.heap[b]?):EB w' k K:=by
 have e:=hk _ h.WN;refine h.h30 (cell_of_heap (a:=⟨k.kb,2,Ai⟩) e) (cell_of_heap (a:=⟨k.kb,4,Ai⟩) e) (h.WN.of_heap e) fun b hb=>?_;rcases hb with rfl|rfl|⟨h0,rfl⟩|⟨i,hi,rfl⟩
 ·exact hk _ h.sC
 ·exact hk _ h.snb
 ·exact hk _ (h.seb h0)
 ·exact hk _ (h.scb i hi)
theorem Ux.keep(h:Ux w k K s f lr)(hk:∀b,DB k K f lr b->w'.heap[b]?=w.heap[b]?):Ux w' k K s f lr:=
 ⟨fun i hi=>(h.row i hi).of_heap (hk _ (.inr (.inr ⟨i,hi,.inl rfl⟩))),h.tr.of_heap (hk _ (.inl rfl)),fun i hi=>Lr (L:=⟨0,0,111,fun _=>False,fun _=>False⟩) (h.own i hi) fun b hb=>hk b (.inr (.inr ⟨i,hi,.inr hb⟩)),h.zok,h.Un,h.nt.keep fun b hb=>hk b (.inr (.inl hb))⟩
theorem Ux.lt(h:Ux w k K s f lr){b:Nat}(hb:DB k K f lr b):b<w.heap.size:=by
 rcases hb with rfl|hb|⟨i,hi,rfl|hb⟩
 ·exact h.tr.lt
 ·exact h.nt.lt hb
 ·exact(h.row i hi).lt
 ·obtain⟨cs,fz,h1⟩:=uM (h.own i hi) hb;exact(Array.getElem?_eq_some_iff.1 h1).1
def Qp(k:Vu)(K:Nl)(ins:List (Int×Int))(i:Nat):fF:=⟨k.n i,k.ci i,k.num i,K.fr,ins⟩
theorem Ux.ready(hS:EB w k K)(h:Ux w k K s f lr){cell:Nat}(hc:cell<k.nC){inV:ti}{ins:List (Int×Int)}(Pm:InW w inV ins (Ll w))(GF:ins.length<=1000)(hlen:qq K.k 900000000 s.D):xt w k.kb k.C k.T k.nC k.cC cell (k.g cell) (k.cb cell) (k.co cell) (k.cc cell) (Qp k K ins cell) K s.D lr (s.z cell) f (s.m cell) (s.xs cell) inV where
 k2:=hS.k2
 k4:=hS.k4
 cl:=hS.cl cell hc
 hcell:=hc
 row:=h.row cell hc
 tr:=h.tr
 own:=h.own cell hc
 code:=hS.code cell hc
 Mc0:=by obtain⟨cs,t,fz,h1,_⟩:=hS.scb cell hc;exact⟨_,h1⟩
 n48:=hS.n48 cell hc
 ok:=hS.ok cell hc
 zok:=h.zok cell hc
 nt:=h.nt
 nc:=hS.nc
 Dy:=rfl
 inr:=Pm.keep (fun _ _=>rfl) fun b hb _=>hb.far h hc
 GF:=GF
 len:=hlen
 hg:=⟨Wp (h.row cell hc) h.tr U0,Vp (h.row cell hc) U0 (h.own cell hc),fun hb=>by
  obtain⟨m,t,f,hr,ht⟩:=h.nt.at hb;exact Wp (h.row cell hc) hr G4 rfl⟩
 hT:=Vp h.tr U0 (h.own cell hc)
 hN:=fun b hb=>by
  obtain⟨m,t,f',hr,ht⟩:=h.nt.at hb;exact⟨Wp hr h.tr G4,Vp hr G4 (h.own cell hc)⟩
 hkb:=hS.WN.far h hc
 YC:=(hS.scb cell hc).far h hc
 TW:=hS.snb.far h hc
 heb:=fun h0=>(hS.seb h0).far h hc
section
variable {cell:Nat}{z':Nat->Int}{D':Nat->Jl}{m':Nat}{xs':List ti}
theorem Ux.after(h:Ux w k K s f lr)(hc:cell<k.nC)(hinj:∀i j,i<k.nC->j<k.nC->i≠j->k.g i≠k.g j)(hA:iL w k.T k.nC cell (k.g cell) (k.num cell) (Um (k.cb cell) (k.co cell) (k.n cell) (k.cc cell)) K lr z' D' f m' xs' w' f' Vr)(hz:Fv (k.n cell) z'):Ux w' k K ⟨fj s.z cell z',fj s.m cell m',fj s.xs cell xs',D'⟩ f' Vr:=by
 have h90:∀i,i<k.nC->¬Ak K lr (k.g i):=fun i hi hb=>by
  obtain⟨m,t,f,hr,ht⟩:=h.nt.at hb;exact Wp (h.row i hi) hr G4 rfl
 have ba0:∀i,i<k.nC->∀b,(f i).ownBlock=yi b->¬Ak K lr b:=fun i hi b ho hb=>by
  obtain⟨m,t,f',hr,ht⟩:=h.nt.at hb;exact Vp hr G4 (h.own i hi) ho
 have kept:∀i,i<k.nC->i≠cell->w'.heap[k.g i]?=w.heap[k.g i]?:=fun i hi Jj=>hA.old _ (h.row i hi).lt ⟨hinj i cell hi hc Jj,Wp (h.row i hi) h.tr U0,Vp (h.row i hi) U0 (h.own cell hc),h90 i hi⟩;have NG:∀i,i<k.nC->i≠cell->∀b,(f i).ownBlock=yi b->b<w.heap.size/\w'.heap[b]?=w.heap[b]?:=fun i hi Jj b hb=>by
  obtain⟨cs,fz,h1⟩:=uM (h.own i hi) hb;have Wi:=(Array.getElem?_eq_some_iff.1 h1).1;exact⟨Wi,hA.old b Wi ⟨fun e=>Vp (h.row cell hc) U0 (h.own i hi) D4,fun e=>Vp h.tr U0 (h.own i hi) D4,h.Un i cell hi hc Jj b hb,ba0 i hi b hb⟩⟩
 refine⟨fun i hi=>?_,hA.tr,fun i hi=>?_,fun i hi=>?_,fun i j hi hj Jj b hb uk=>?_,hA.nt⟩
 ·show Ei w' _ _ _ (cellV _ _ _ (fj s.z cell z' i));by_cases e:i=cell
  ·subst e;rw[Oi];exact hA.row
  ·rw[cj _ _ e];exact(h.row i hi).of_heap (kept i hi e)
 ·show w'.ownsRow 0 _ 3 (f' i) (fj s.m cell m' i) (fj s.xs cell xs' i);by_cases e:i=cell
  ·subst e;rw[Oi,Oi];exact hA.own
  ·rw[cj _ _ e,cj _ _ e,hA.others i e];exact Lr (L:=⟨0,0,111,fun _=>False,fun _=>False⟩) (h.own i hi) fun b hb=>(NG i hi e b hb).2
 ·show Fv _ (fj s.z cell z' i);by_cases e:i=cell
  ·subst e;rw[Oi];exact hz
  ·rw[cj _ _ e];exact h.zok i hi
 ·by_cases e:i=cell
  ·subst e;have Vs:j≠i:=fun x=>Jj x.symm;rw[hA.others j Vs]at uk;rcases hA.blk b hb with hb|hb
   ·exact Ee
   ·have:=(NG j hj Vs b uk).1;omega
  ·rw[hA.others i e]at hb;by_cases e2:j=cell
   ·subst e2;rcases hA.blk b uk with uk|uk
    ·exact Ee
    ·have:=(NG i hi e b hb).1;omega
   ·rw[hA.others j e2]at uk;exact Ee
end
def gx(k:Vu)(K:Nl)(ins:List (Int×Int))(p:Nat×Nat)(s:Hy):Hy:=
 ⟨fj s.z p.1 (lj (Qp k K ins p.1) p.2 (s.z p.1) s.D).2.1,fj s.m p.1 (s.m p.1+(lj (Qp k K ins p.1) p.2 (s.z p.1) s.D).1.length),fj s.xs p.1 (s.xs p.1++(lj (Qp k K ins p.1) p.2 (s.z p.1) s.D).1.flatMap Qj),(lj (Qp k K ins p.1) p.2 (s.z p.1) s.D).2.2⟩
def Eo(k:Vu)(K:Nl)(ins:List (Int×Int))(wn:Nat->Nat×Nat):Nat->Nat->Hy->Hy
 |0,_,s=>s
 |rem+1,j,s=>Eo k K ins wn rem (j+1) (gx k K ins (wn j) s)
structure Zp(wR:ui)(fR:Nat->ti)(YI:Nat->Option Row)(k:Vu)(K:Nl)(Iq wo nW:Nat)(wn:Nat->Nat×Nat)(s:Hy)(f:Nat->ti)(lr:Nat->Option Row)(w:ui):Prop where
 mI:EB wR k K
 dyn:Ux w k K s f lr
 C50:∃sR,Ux wR k K sR fR YI
 sW:Ll wR Iq
 c0:∀j,j<nW->wR.cell? ⟨Iq,wo+j*2,Ai⟩=yi (.int .i64 (wn j).1)
 c1:∀j,j<nW->wR.cell? ⟨Iq,wo+j*2+1,Ai⟩=yi (.int .i64 (wn j).2)
 ph:w.os=wR.os/\w.output=wR.output/\w.tape=wR.tape/\wR.heap.size<=w.heap.size
 ft:∀b,b<wR.heap.size->¬DB k K fR YI b->w.heap[b]?=wR.heap[b]?
 fo:∀i b,i<k.nC->(f i).ownBlock=yi b->(fR i).ownBlock=yi b\/wR.heap.size<=b
 fn:∀b,Ak K lr b->Ak K YI b\/wR.heap.size<=b
end
section
variable {wR w w':ui}{fR f f':Nat->ti}{YI lr Vr:Nat->Option Row}{k:Vu}{K:Nl}{Iq wo nW:Nat}{wn:Nat->Nat×Nat}{s:Hy}{p:Nat×Nat}
theorem Zp.st(h:Zp wR fR YI k K Iq wo nW wn s f lr w){b:Nat}(hb:Ll wR b):w.heap[b]?=wR.heap[b]?:=by
 obtain⟨sR,hR⟩:=h.C50;exact h.ft b hb.lt (hb.R70 hR)
theorem Zp.cell(h:Zp wR fR YI k K Iq wo nW wn s f lr w){a:Addr}(hs:Ll wR a.block):w.cell? a=wR.cell? a:=cell_of_heap (h.st hs)
theorem Zp.frozen(h:Zp wR fR YI k K Iq wo nW wn s f lr w){a:Addr}(hs:Ll wR a.block):w.frozen? a=wR.frozen? a:=by
 unfold World.frozen?;rw[h.st hs]
theorem Zp.j80(h:Zp wR fR YI k K Iq wo nW wn s f lr w):EB w k K:=h.mI.keep fun _ hb=>h.st hb
theorem Zp.grow(h:Zp wR fR YI k K Iq wo nW wn s f lr w)(hg:∀b,b<w.heap.size->w'.heap[b]?=w.heap[b]?)(eO:w'.os=w.os/\w'.output=w.output/\w'.tape=w.tape/\w.heap.size<=w'.heap.size):Zp wR fR YI k K Iq wo nW wn s f lr w':=
 ⟨h.mI,h.dyn.keep fun b hb=>hg b (h.dyn.lt hb),h.C50,h.sW,h.c0,h.c1,⟨eO.1.trans h.ph.1,eO.2.1.trans h.ph.2.1,eO.2.2.1.trans h.ph.2.2.1,Nat.le_trans h.ph.2.2.2 eO.2.2.2⟩,fun b hb hf=>(hg b (Nat.lt_of_lt_of_le hb h.ph.2.2.2)).trans (h.ft b hb hf),h.fo,h.fn⟩
theorem Zp.rely(h:Zp wR fR YI k K Iq wo nW wn s f lr w)(r:RS w w'):Zp wR fR YI k K Iq wo nW wn s f lr w':=by
 obtain⟨d,rfl⟩:=r;exact h.grow (fun _ _=>rfl) ⟨rfl,rfl,rfl,Nat.le_refl _⟩
theorem Zp.after(h:Zp wR fR YI k K Iq wo nW wn s f lr w)(hc:p.1<k.nC){ins:List (Int×Int)}{b:Nat}(hl:qq K.k b s.D)(hA:iL w k.T k.nC p.1 (k.g p.1) (k.num p.1) (Um (k.cb p.1) (k.co p.1) (k.n p.1) (k.cc p.1)) K lr (lj (Qp k K ins p.1) p.2 (s.z p.1) s.D).2.1 (lj (Qp k K ins p.1) p.2 (s.z p.1) s.D).2.2 f (s.m p.1+(lj (Qp k K ins p.1) p.2 (s.z p.1) s.D).1.length) (s.xs p.1++(lj (Qp k K ins p.1) p.2 (s.z p.1) s.D).1.flatMap Qj) w' f' Vr):
  Zp wR fR YI k K Iq wo nW wn (gx k K ins p s) f' Vr w'/\qq K.k (b+p.2) (gx k K ins p s).D:=by
 have hw:=ZA (p:=Qp k K ins p.1) (h.mI.ok _ hc) p.2 (h.dyn.zok _ hc) hl;refine⟨⟨h.mI,h.dyn.after hc h.mI.inj hA hw.1,h.C50,h.sW,h.c0,h.c1,⟨hA.os.trans h.ph.1,hA.out.trans h.ph.2.1,hA.tape.trans h.ph.2.2.1,Nat.le_trans h.ph.2.2.2 hA.size⟩,fun b hb hf=>?_,fun i b hi hb=>?_,fun b hb=>?_⟩,hw.2⟩
 ·refine(hA.old b (Nat.lt_of_lt_of_le hb h.ph.2.2.2) ⟨fun e=>hf (.inr (.inr ⟨_,hc,.inl e⟩)),fun e=>hf (.inl e),fun e=>?_,fun e=>?_⟩).trans (h.ft b hb hf)
  ·rcases h.fo _ b hc e with e|e
   ·exact hf (.inr (.inr ⟨_,hc,.inr e⟩))
   ·omega
  ·rcases h.fn b e with e|e
   ·exact hf (.inr (.inl e))
   ·omega
 ·by_cases e:i=p.1
  ·subst e;rcases hA.blk b hb with e|e
   ·exact h.fo _ b hi e
   ·exact .inr (Nat.le_trans h.ph.2.2.2 e)
  ·rw[hA.others i e]at hb;exact h.fo _ b hi hb
 ·rcases hA.iI b hb with e|e
  ·exact h.fn b e
  ·exact .inr (Nat.le_trans h.ph.2.2.2 e)
end
def Ba0(w:ui)(T:Nat)(N:Nat->Prop):km:={B:=w.heap.size,c:=T,ev:=111,S:=N,M:=fun _=>False}
section
variable {w:ui}{k:Vu}{K:Nl}{s:Hy}{f:Nat->ti}{lr:Nat->Option Row}
theorem TI{nb n1 n2:Nat}{q1 q2:Option Addr}(h1:w.cell? ⟨nb,1,Ai⟩=yi (.slice q1 0 n1))(h2:w.cell? ⟨nb,2,Ai⟩=yi (.slice q2 0 n2)):Xi prog ji RS DS 32 #[.pointer (yi ⟨nb,0,Ai⟩)] w (fun v w'=>v=.tuple #[]/\Is w w') (fun _ _=>False):=by
 have hF:=Is.self w;have hk:(base 32).kind≠.early:=E1;refine Xi.intro Di #[.pointer (yi ⟨nb,0,Ai⟩),ri,ri,ri,ri,ri,ri,ri,ri,ri,ri,ri,ri,ri,ri,ri,ri,ri,ri,ri,ri,ri,ri,ri,ri,ri,ri,ri,ri,ri,ri,ri,ri,ri,ri,ri] func32 rfl J0 fun cl cs Stop jm _=>?_;refine V8 ?_;refine .Gi Di [0,1,2,3,4,5] I0 ?_;refine R9 ?_;refine N8 fun w1 K_ hK hF=>?_;have hc:World.cell? _ ⟨nb,1,Ai⟩=yi (.slice q1 0 n1):=(hF.cell _).trans h1;refine I8 ?_ ?_
 ·exact Ad
 clear hK K_;clear hc;refine W9 ?_;refine X9 ?_;refine V8 ?_;refine Ci.loop Di ?_;refine V8 ?_;refine Zb ?_;refine X8 ?_;refine V8 ?_;refine ai ?_;refine V8 ?_;refine .Gi Di [0,1,2,3,4,5] I0 ?_;refine R9 ?_;refine N8 fun w1 K_ hK hF=>?_;have hc:World.cell? _ ⟨nb,2,Ai⟩=yi (.slice q2 0 n2):=(hF.cell _).trans h2;refine I8 ?_ ?_
 ·exact Ad
 clear hK K_;clear hc;refine W9 ?_;refine X9 ?_;refine V8 ?_;refine Ci.loop Di ?_;refine V8 ?_;refine Zb ?_;refine X8 ?_;refine V8 ?_;refine ai ?_;refine Ci.fin Di ?_;exact jm _ [] _ _ rfl (Dj Di I0 _) ⟨rfl,hF⟩
theorem vK(h:Ux w k K s f lr){b:Nat}(hs:Ll w b):Still (Ba0 w k.T (Ak K lr)) w b:=by
 refine⟨⟨_,Array.getElem?_eq_getElem hs.lt⟩,hs.Dq h.tr (.inr (.inl rfl)),fun o _ hb=>?_⟩;have Wi:=hs.lt;rcases hb with hb|hb
 ·rcases hb.2 with⟨_,hb⟩|⟨hb,_⟩
  ·exact hb.elim
  ·exact absurd Wi (Nat.not_lt.2 hb)
 ·rcases hb.2 with⟨_,hb⟩|⟨hb,_⟩
  ·exact hs.OQ h.nt hb
  ·exact absurd Wi (Nat.not_lt.2 hb)
theorem mT(hS:EB w k K)(h:Ux w k K s f lr)(hl:∀i,i<K.k->(s.D i).sent.length<=1000000000/\(s.D i).wait.length<=4):Xi prog ji RS DS 32 #[.pointer (yi ⟨K.nb,0,Ai⟩)] w
  (fun v w'=>v=.tuple #[]/\∃Vr,VJ w' K (VD K.k s.D) Vr/\(w'.os=w.os/\w'.output=w.output/\w'.tape=w.tape/\w.heap.size<=w'.heap.size)/\(∀b,b<w.heap.size->¬Ak K lr b->w'.heap[b]?=w.heap[b]?)/\∀b,Ak K Vr b->Ak K lr b\/w.heap.size<=b) (fun _ _=>False):=by
 by_cases h0:0<K.k
 ·obtain⟨rn,hN,hR,Jj⟩:=h.nt.lay;have nT:∀b,Ak K lr b->b≠k.T:=fun b hb e=>by
   obtain⟨m,t,f',hr,ht⟩:=h.nt.at hb;exact Wp hr h.tr G4 e
  have hK:Kn (Ba0 w k.T (Ak K lr)) w rn w:=by
   refine⟨.refl w,fun i r hi=>?_,Jj,Nat.le_refl _,h.tr.lt⟩;obtain⟨a1,a2⟩:=hR i r hi;refine⟨⟨a1,⟨_,Array.getElem?_eq_getElem a1.lt⟩,nT _ a2,fun o ho hm=>?_⟩,fun o ho=>⟨nT _ a2,.inl ⟨a1.lt,a2⟩⟩⟩;rcases hm.2 with⟨_,hm⟩|⟨hm,_⟩
   ·exact hm
   ·exact absurd a1.lt (Nat.not_lt.2 hm)
  have hW:zF (Ba0 w k.T (Ak K lr)) w K:=⟨vK h hS.snb,hS.nc.n0,hS.nc.JM,hS.nc.at2,fun h0=>vK h (hS.seb h0),hS.nc.e0,hS.nc.e1,hS.nc.cH,hS.nc.qN,hS.nc.hk⟩;refine((XQ rfl hW h0 hl hN w hK).solo ?_).to ?_
  ·rintro v a b ⟨rfl,Fp,x,y⟩ r;exact⟨rfl,Fp,x,y.rely r⟩
  ·rintro v w' ⟨⟨rfl,Fp,hN',hK'⟩,hc⟩;obtain⟨Vr,h1,h2⟩:=VJ.back (w:=w') hN' (fun i r hi=>(hK'.row i r hi).rw.row) hK'.pw;refine⟨rfl,Vr,h1,⟨hK'.ph.os,hK'.ph.out,hK'.ph.tape,hK'.ph.size⟩,fun b hb hn=>?_,fun b hb=>?_⟩
   ·by_cases e:b=k.T
    ·subst e;exact hc
    ·obtain⟨o',ho,_,hk⟩:=hK'.ph.at_ b _ (Array.getElem?_eq_getElem hb);rw[ho,hk e ?_,Array.getElem?_eq_getElem hb];rintro (hm|hm)
     ·rcases hm.2 with⟨_,hm⟩|⟨hm,_⟩
      ·exact hm.elim
      ·exact absurd hb (Nat.not_lt.2 hm)
     ·rcases hm.2 with⟨_,hm⟩|⟨hm,_⟩
      ·exact hn hm
      ·exact absurd hb (Nat.not_lt.2 hm)
   ·rcases h2 b hb with hq|⟨i,r,hi,rfl⟩
    ·exact .inl (.inl hq)
    ·have ow:=hK'.row i r hi;obtain⟨o,ho⟩:=ow.rw.calm.there;rcases (ow.own o ho).2 with⟨_,hm⟩|⟨hm,_⟩
     ·exact .inl hm
     ·exact .inr hm
 ·obtain⟨a1,c1,n1,_⟩:=hS.nc.n1;obtain⟨a2,c2,n2,_⟩:=hS.nc.n2;have hk:K.k=0:=by omega
  rw[hk]at n1 n2;refine(TI n1 n2).to ?_;rintro v w' ⟨rfl,d,rfl⟩;refine⟨rfl,lr,⟨h.nt.out,h.nt.ne,h.nt.row,fun x=>absurd x h0⟩,⟨rfl,rfl,rfl,Nat.le_refl _⟩,fun _ _ _=>rfl,fun b hb=>.inl hb⟩
end
noncomputable def K30:Code:=match Tryz.f15.body with
 |some (.seq _ (.seq _ (.seq (.seq _ (.block _ (.loop c))) _)))=>c
 |_=>.skip
noncomputable def c10:Code:=match Tryz.f15.body with
 |some (.seq _ (.seq _ (.seq _ c)))=>c
 |_=>.skip
section
variable {Post:Goroutine->ui->Prop}{wR w:ui}{fR f:Nat->ti}{YI lr:Nat->Option Row}{k:Vu}{K:Nl}{Iq wo nW cW:Nat}{wn:Nat->Nat×Nat}{inV:ti}{ins:List (Int×Int)}{s:Hy}
theorem Zp.box(h:Zp wR fR YI k K Iq wo nW wn s f lr w):Zp wR fR YI k K Iq wo nW wn s f lr (w.alloc (.cells #[.int .i64 0,.int .i64 0] 102))/\Ei (w.alloc (.cells #[.int .i64 0,.int .i64 0] 102)) w.heap.size 2 102 (pair 0 0):=
 ⟨h.grow (fun _ hb=>heap_alloc_old w _ hb) ⟨rfl,rfl,rfl,P0⟩,.new w _ _ _ fun j hj=>by
  have:j=0\/j=1:=by simp at hj;omega
  rcases this with rfl|rfl<;>rfl⟩
theorem Zp.Fi0(h:Zp wR fR YI k K Iq wo nW wn s f lr w)(d a b:Nat):Zp wR fR YI k K Iq wo nW wn s f lr ((((w.alloc (.cells #[.int .i64 0,.int .i64 0] 102)).at d).setCell ⟨w.heap.size,0,Ai⟩ (.int .i64 a)).setCell ⟨w.heap.size,1,Ai⟩ (.int .i64 b))/\Ei ((((w.alloc (.cells #[.int .i64 0,.int .i64 0] 102)).at d).setCell ⟨w.heap.size,0,Ai⟩ (.int .i64 a)).setCell ⟨w.heap.size,1,Ai⟩ (.int .i64 b)) w.heap.size 2 102 (pair a b):=by
 refine⟨h.grow (fun x hx=>?_) ⟨rfl,rfl,rfl,by show w.heap.size<=((World.at (w.alloc _) d).setCell _ _ |>.setCell _ _).heap.size;rw[size_setCell,size_setCell];show w.heap.size<=(w.alloc _).heap.size;simp⟩,?_⟩
 ·rw[heap_setCell_other _ _ _ _ (by show x≠w.heap.size;omega),heap_setCell_other _ _ _ _ (by show x≠w.heap.size;omega)];exact heap_alloc_old w _ hx
 ·have h2:Ei ((w.alloc (.cells #[.int .i64 0,.int .i64 0] 102)).at d) w.heap.size 2 102 (pair 0 0):=h.box.2;refine((h2.set 0 (.int .i64 a)).set 1 (.int .i64 b)).congr fun j hj=>?_;have:j=0\/j=1:=by omega
  rcases this with rfl|rfl<;>rfl
theorem QP(Pm:InW wR inV ins (Ll wR))(GF:ins.length<=1000)(hnW:nW<=1000)(TJ:∀j,j<nW->(wn j).1<k.nC/\(wn j).2<=200)(x7 x8 x9 x10 x11 x12 x13 x14 x15 x16 x17 x18:ti)(cs:List Frame):
  ∀(rem j:Nat)(s:Hy)(f:Nat->ti)(lr:Nat->Option Row)(w:ui)(u6 vv u23 yv Nv ku qu lu nu:ti),j+rem=nW->(∀i,s.m i+rem*201<=1000000000)->qq K.k (900000000-rem*200) s.D->Zp wR fR YI k K Iq wo nW wn s f lr w->
   (∀(f':Nat->ti)(Vr:Nat->Option Row)(w':ui)(u6 vv u23 yv Nv ku qu lu nu:ti),Zp wR fR YI k K Iq wo nW wn (Eo k K ins wn rem j s) f' Vr w'->qq K.k 900000000 (Eo k K ins wn rem j s).D->bj prog Post (G ((base 15).at {tmps:=(List.toArray ((.pointer (yi ⟨k.kb,0,Ai⟩))::(inV)::(ri)::(ri)::(.int .i64 0)::(ri)::(u6)::(x7)::(x8)::(x9)::(x10)::(x11)::(x12)::(x13)::(x14)::(x15)::(x16)::(x17)::(x18)::(.slice (yi ⟨Iq,wo,Ai⟩) nW cW)::(.int .i64 nW)::(.int .i64 nW)::(vv)::(u23)::(yv)::(Nv)::(ku)::(qu)::(lu)::(nu)::(ri)::(ri)::(ri)::(ri)::(ri)::(ri)::(ri)::(ri)::(ri)::(ri)::(ri)::(ri)::(ri)::(ri)::(ri)::(ri)::(ri)::(ri)::(ri)::[])),defers:=[]} [.code c10]) cs) w')->
   bj prog Post (G ((base 15).at {tmps:=(List.toArray ((.pointer (yi ⟨k.kb,0,Ai⟩))::(inV)::(ri)::(ri)::(.int .i64 0)::(ri)::(u6)::(x7)::(x8)::(x9)::(x10)::(x11)::(x12)::(x13)::(x14)::(x15)::(x16)::(x17)::(x18)::(.slice (yi ⟨Iq,wo,Ai⟩) nW cW)::(.int .i64 nW)::(.int .i64 j)::(vv)::(u23)::(yv)::(Nv)::(ku)::(qu)::(lu)::(nu)::(ri)::(ri)::(ri)::(ri)::(ri)::(ri)::(ri)::(ri)::(ri)::(ri)::(ri)::(ri)::(ri)::(ri)::(ri)::(ri)::(ri)::(ri)::(ri)::[])),defers:=[]} [.code K30,.inLoop K30,.inBlock 0,.code c10]) cs) w:=by
 have hk:(base 15).kind≠.early:=E1;have UX:∃ip il ic,inV=.slice ip il ic:=by obtain⟨a,c,e,_⟩:=Pm;exact⟨_,_,_,e⟩
 intro rem;induction rem with
 |zero=>
  intro j s f lr w u6 vv u23 yv Nv ku qu lu nu hj hm hl hF hp;obtain rfl:j=nW:=E0;refine vb ?_;refine V8 ?_;refine Zb ?_;refine X8 ?_;refine V8 ?_;refine ai ?_;refine .stop rfl fun w1 hR=>?_;exact hp _ _ _ _ _ _ _ _ _ _ _ _ (hF.rely hR) (hl.le E0)
 |succ rem ih=>
  intro j s f lr w u6 vv u23 yv Nv ku qu lu nu hj hm hl hF hp;have Wi:j<nW:=E0;have FC:(j:Int)<(nW:Int):=E0;obtain⟨hcell,jP⟩:=TJ j Wi;refine vb ?_;refine V8 ?_;refine Zb ?_;refine X8 ?_;refine V8 ?_;refine Ci.zk Di G2 ?_;refine V8 ?_;refine Qe ?_;refine N8 fun w1 K_ hK hF=>?_;refine I8 ?_ ?_
  ·co_still Di
  clear hK K_;refine W9 ?_;refine N8 fun w1 K_ hK hF=>?_;have a0:=(hF.cell (a:=⟨Iq,wo+j*2,Ai⟩) hF.sW).trans (hF.c0 j Wi);have a1:=(hF.cell (a:=⟨Iq,wo+j*2+1,Ai⟩) hF.sW).trans (hF.c1 j Wi);refine I8 ?_ ?_
  ·exact qd
  clear hK K_;clear a0 a1;refine W9 ?_;refine N8 fun w1 K_ hK hF=>?_;refine I8 ?_ ?_
  ·exact j9
  clear hK K_;refine W9 ?_;refine Ci.op rfl I0 hk ?_;intro w2 hR K_ hK;obtain⟨d,rfl⟩:=hR;have hE:=hF.box.2;have a0:World.cell? ((w1.alloc (.cells #[.int .i64 0,.int .i64 0] 102)).at d) ⟨w1.heap.size,0,Ai⟩=yi (.int .i64 0):=hE.cell (j:=0) E0;have a1:World.cell? ((w1.alloc (.cells #[.int .i64 0,.int .i64 0] 102)).at d) ⟨w1.heap.size,1,Ai⟩=yi (.int .i64 0):=hE.cell (j:=1) E0;have z0:World.frozen? ((w1.alloc (.cells #[.int .i64 0,.int .i64 0] 102)).at d) ⟨w1.heap.size,0,Ai⟩=false:=hE.frozen 0;have z1:World.frozen? ((w1.alloc (.cells #[.int .i64 0,.int .i64 0] 102)).at d) ⟨w1.heap.size,1,Ai⟩=false:=hE.frozen 1;obtain⟨ql,hE2⟩:=hF.Fi0 d (wn j).1 (wn j).2;generalize hW:((w1.alloc (.cells #[.int .i64 0,.int .i64 0] 102)).at d)=w2 at *;generalize hN:w1.heap.size=E at *;refine I8 ?_ ?_
  ·exact qd
  clear hK K_ a0 a1 z0 z1 hF hE;generalize hW2:((w2.setCell ⟨E,0,Ai⟩ (.int .i64 (wn j).1)).setCell ⟨E,1,Ai⟩ (.int .i64 (wn j).2))=w3 at *;clear hW hW2 hN;have hF:=ql;have hE:=hE2;clear ql hE2;refine W9 ?_;refine V8 ?_;refine Qe ?_;refine X8 ?_;refine .op rfl I0 hk fun w1 hR K_ hK=>?_;replace hF:=hF.rely hR;replace hE:=oK hE hR;clear hR;have a0:=hE.cell (j:=0) E0;have a1:=hE.cell (j:=1) E0;simp only[pair]at a0 a1;refine I8 ?_ ?_
  ·exact qd
  clear hK K_;clear a0 a1;refine W9 ?_;refine X8 ?_;refine .stop rfl fun w1 hR=>?_;replace hF:=hF.rely hR;replace hE:=oK hE hR;clear hR;refine bj.call rfl I0 hk (fun d=>?run) (fun d=>?evs) (KD (hF.dyn.ready hF.j80 hcell (Pm.keep (fun b hb=>hF.st hb) fun b hb _=>hb.of_heap (hF.st hb)) GF (hl.le E0)) jP (by have:=hm (wn j).1;omega)) (fun v w' hv=>?_)
  case run=>kernel_rfl
  case evs=>
   exact Xc
  obtain⟨rfl,f',Vr,hA⟩:=hv;obtain⟨ql,YU⟩:=hF.after hcell hl hA;replace hF:=ql;clear hA hE ql;refine vb ?_;have hwr:IntKind.i64.wrap ((j:Int)+1)=((j+1:Nat):Int):=by rw[IntKind.wrap_i64];omega
  refine W9 ?_;refine V8 ?_;refine .Gi Di [0,1] I0 ?_;refine X9 ?_;refine V8 ?_;refine Ci.inLoop Di ?_;refine .stop rfl fun w1 hR=>?_;refine ih (j+1) (gx k K ins (wn j) s) f' Vr w1 _ _ _ _ _ _ _ _ _ E0 (fun i=>?_) (YU.le E0) (hF.rely hR) hp;show fj s.m (wn j).1 _ i+rem*201<=1000000000;have h1:=hm i;have h2:=(nB (Qp k K ins (wn j).1) (wn j).2 (s.z (wn j).1) s.D).2;unfold fj;split
  ·subst i;omega
  ·omega
end
section
variable {w w1:ui}{k:Vu}{Iq wo nW cW:Nat}{wn:Nat->Nat×Nat}{inV:ti}{z:Nat->Nat->Int}{f:Nat->ti}{m:Nat->Nat}{xs:Nat->List ti}{tb nT cT r n1 n2 ip il ic:Nat}
theorem W70(w:ui):RS w {w with drawn:=w.drawn+1}:=⟨w.drawn+1,rfl⟩
end
section
variable {w w1 w2:ui}{k:Vu}{K:Nl}{Iq wo nW cW:Nat}{wn:Nat->Nat×Nat}{s:Hy}{f f':Nat->ti}{lr Vr:Nat->Option Row}{tb nT cT r il ic:Nat}{ip:Option Addr}{ins:List (Int×Int)}
theorem Zp.ended(h:Zp w f lr k K Iq wo nW wn s f' Vr w1){lr2:Nat->Option Row}{D':Nat->Jl}(hn:VJ w2 K D' lr2)(eO:w2.os=w1.os/\w2.output=w1.output/\w2.tape=w1.tape/\w1.heap.size<=w2.heap.size)(hk:∀b,b<w1.heap.size->¬Ak K Vr b->w2.heap[b]?=w1.heap[b]?)(hb:∀b,Ak K lr2 b->Ak K Vr b\/w1.heap.size<=b):Zp w f lr k K Iq wo nW wn {s with D:=D'} f' lr2 w2:=by
 have h90:∀i,i<k.nC->¬Ak K Vr (k.g i):=fun i hi hb=>by
  obtain⟨m,t,f,hr,ht⟩:=h.dyn.nt.at hb;exact Wp (h.dyn.row i hi) hr G4 rfl
 have ba0:∀i,i<k.nC->∀b,(f' i).ownBlock=yi b->¬Ak K Vr b:=fun i hi b ho hb=>by
  obtain⟨m,t,f',hr,ht⟩:=h.dyn.nt.at hb;exact Vp hr G4 (h.dyn.own i hi) ho
 have nT:¬Ak K Vr k.T:=fun hb=>by
  obtain⟨m,t,f',hr,ht⟩:=h.dyn.nt.at hb;exact Wp hr h.dyn.tr G4 rfl
 refine⟨h.mI,⟨fun i hi=>(h.dyn.row i hi).of_heap (hk _ (h.dyn.row i hi).lt (h90 i hi)),h.dyn.tr.of_heap (hk _ h.dyn.tr.lt nT),fun i hi=>Lr (L:=⟨0,0,111,fun _=>False,fun _=>False⟩) (h.dyn.own i hi) fun b hb=>hk b (h.dyn.lt (.inr (.inr ⟨i,hi,.inr hb⟩))) (ba0 i hi b hb),h.dyn.zok,h.dyn.Un,hn⟩,h.C50,h.sW,h.c0,h.c1,⟨eO.1.trans h.ph.1,eO.2.1.trans h.ph.2.1,eO.2.2.1.trans h.ph.2.2.1,Nat.le_trans h.ph.2.2.2 eO.2.2.2⟩,fun b hb hf=>(hk b (Nat.lt_of_lt_of_le hb h.ph.2.2.2) fun e=>?_).trans (h.ft b hb hf),h.fo,fun b e=>?_⟩
 ·rcases h.fn b e with e|e
  ·exact hf (.inr (.inl e))
  ·omega
 ·rcases hb b e with e|e
  ·exact h.fn b e
  ·exact .inr (Nat.le_trans h.ph.2.2.2 e)
theorem jL(hS:EB w k K)(hD:Ux w k K s f lr)(h0:w.cell? ⟨k.kb,0,Ai⟩=yi (.slice (yi ⟨tb,0,Ai⟩) nT cT))(hr:w.cell? ⟨k.kb,1,Ai⟩=yi (.int .i64 r))(h3:w.cell? ⟨k.kb,3,Ai⟩=yi (.pointer (yi ⟨K.nb,0,Ai⟩)))(hfz:w.frozen? ⟨k.kb,1,Ai⟩=gi)
  (iY:Ll w tb)(Nk:w.cell? ⟨tb,r,Ai⟩=yi (.slice (yi ⟨Iq,wo,Ai⟩) nW cW))(hrT:r<nT)(hnT:nT<=1000)(sW:Ll w Iq)(c0:∀j,j<nW->w.cell? ⟨Iq,wo+j*2,Ai⟩=yi (.int .i64 (wn j).1))(c1:∀j,j<nW->w.cell? ⟨Iq,wo+j*2+1,Ai⟩=yi (.int .i64 (wn j).2))
  (hnW:nW<=1000)(TJ:∀j,j<nW->(wn j).1<k.nC/\(wn j).2<=200)(hm:∀i,s.m i+nW*201<=1000000000)(hl:qq K.k 4 s.D)(hlw:∀i,i<K.k->((Eo k K ins wn nW 0 s).D i).wait.length<=4)(Pm:InW w (.slice ip il ic) ins (Ll w))(rU:il<=4):
  Fj prog 15 #[.pointer (yi ⟨k.kb,0,Ai⟩),.slice ip il ic] w (fun v w'=>v=.int .i64 0/\∃f' lr2 w1 d,Zp w f lr k K Iq wo nW wn {(Eo k K ins wn nW 0 s)with D:=VD K.k (Eo k K ins wn nW 0 s).D} f' lr2 w1/\w'=(w1.setCell ⟨k.kb,1,Ai⟩ (.int .i64 (((r:Int)+1).tmod nT))).at d):=by
 refine Fj.UD (List.toArray ((.pointer (yi ⟨k.kb,0,Ai⟩))::(.slice ip il ic)::ri::ri::ri::ri::ri::ri::ri::ri::ri::ri::ri::ri::ri::ri::ri::ri::ri::ri::ri::ri::ri::ri::ri::ri::ri::ri::ri::ri::ri::ri::ri::ri::ri::ri::ri::ri::ri::ri::ri::ri::ri::ri::ri::ri::ri::ri::ri::[])) func15 I0 J0 fun cs Post hp=>?_;have hk:(base 15).kind≠.early:=E1;refine vb ?_;have hF:Zp w f lr k K Iq wo nW wn s f lr w:=⟨hS,hD,⟨_,hD⟩,sW,c0,c1,⟨rfl,rfl,rfl,Nat.le_refl _⟩,fun _ _ _=>rfl,fun i b hi hb=>.inl hb,fun b hb=>.inl hb⟩;have m90:¬((4:Int)<(il:Int)):=E0;have hri:(r:Int)<(nT:Int):=E0;have GF:ins.length<=1000:=by obtain⟨a,c,e,_⟩:=Pm;injection e with _ e _;omega
 refine W9 ?_;refine V8 ?_;refine Zb ?_;refine X8 ?_;refine V8 ?_;refine Ed ?_;refine R9 ?_;refine V8 ?_;refine Ci.xk Di (by first|rfl|simp[Act.eval,m90]) ?_;refine V8 ?_;refine Ci.Ym (S:=(fun w1=>Zp w f lr k K Iq wo nW wn s f lr w1)) (Die:=fun _ _=>False) Di uD 12 I0 hk J0 (fun _ _ _ h=>h) (fun _ _ _ h=>h.elim) fun w1 hR=>?_;replace hF:=(hF.rely hR).rely (W70 _);clear hR;refine Ii Di 0 (fun _ _ h r=>Zp.rely h r) hF ?_;refine W9 ?_;refine Ii Di 1 (fun _ _ h r=>Zp.rely h r) hF ?_;refine W9 ?_;refine Ii Di 2 (fun _ _ h r=>Zp.rely h r) hF ?_;refine W9 ?_;refine aj Di 3 rfl (fun _ _ h r=>Zp.rely h r) hF ?_ fun _ hw=>⟨run_eq_of (by
  intro K hK;refine Ua fun hc=>?_;go_simp;exact hK),by
  refine Ua fun hc=>?_
  co_evs (exact Yj _ _ _)⟩
 refine W9 ?_;refine Ii Di 4 (fun _ _ h r=>Zp.rely h r) hF ?_;refine W9 ?_;refine Ii Di 5 (fun _ _ h r=>Zp.rely h r) hF ?_;refine W9 ?_;refine Ii Di 6 (fun _ _ h r=>Zp.rely h r) hF ?_;refine W9 ?_;refine aj Di 7 rfl (fun _ _ h r=>Zp.rely h r) hF ?_ fun _ hw=>⟨run_eq_of (by
  intro K hK;refine Dc fun hc=>?_;go_simp;exact hK),by
  refine Dc fun hc=>?_
  co_evs (exact Yj _ _ _)⟩
 refine W9 ?_;refine aj Di 8 rfl (fun _ _ h r=>Zp.rely h r) hF ?_ fun _ hw=>⟨run_eq_of (by
  intro K hK;go_simp;exact hK),by
  co_still Di⟩
 refine W9 ?_;refine aj Di 9 rfl (fun _ _ h r=>Zp.rely h r) hF ?_ fun _ hw=>⟨run_eq_of (by
  intro K hK;have hc:World.cell? _ ⟨tb,r,Ai⟩=yi (.slice (yi ⟨Iq,wo,Ai⟩) nW cW):=(Zp.cell hw (a:=⟨tb,r,Ai⟩) iY).trans Nk;go_simp;exact hK),by
  have hc:World.cell? _ ⟨tb,r,Ai⟩=yi (.slice (yi ⟨Iq,wo,Ai⟩) nW cW):=(Zp.cell hw (a:=⟨tb,r,Ai⟩) iY).trans Nk
  co_evs (exact Yj _ _ _)⟩
 refine W9 ?_;refine Ii Di 10 (fun _ _ h r=>Zp.rely h r) hF ?_;refine W9 ?_;refine Ii Di 11 (fun _ _ h r=>Zp.rely h r) hF ?_;refine H9 ?_;refine V8 ?_;refine Ci.loop Di ?_;refine .stop rfl fun w2 hR=>?_;refine QP (wR:=w) (cW:=cW) Pm GF hnW TJ _ _ _ _ _ _ _ _ _ _ _ _ cs nW 0 s f lr w2 _ _ _ _ _ _ _ _ _ E0 hm (hl.le E0) (hF.rely hR) ?_;clear hF hR;intro f' Vr w3 u6 vv u23 yv Nv ku qu lu nu hF YU;refine vb ?_;refine W9 ?_;refine V8 ?_;refine Ff ?_;refine R9 ?_;refine N8 fun w1 K_ hK hF=>?_;have hc:World.cell? _ ⟨k.kb,3,Ai⟩=yi (.pointer (yi ⟨K.nb,0,Ai⟩)):=(Zp.cell hF (a:=⟨k.kb,3,Ai⟩) hS.WN).trans h3;refine I8 ?_ ?_
 ·exact Ad
 clear hK K_;clear hc;refine W9 ?_;refine Ci.Bv Di rfl I0 hk rfl func32 I0 rfl #[.pointer (yi ⟨K.nb,0,Ai⟩)] J0 (mT hF.j80 hF.dyn (fun i hi=>⟨Nat.le_trans (YU i hi).1 E0,hlw i hi⟩)) ?_ (fun _ _ _ h=>h.elim);rintro v w4 ⟨rfl,lr2,e1,e2,e3,e4⟩;replace hF:=hF.ended e1 e2 e3 e4;clear e1 e2 e3 e4;have hwr:IntKind.i64.wrap ((r:Int)+1)=((r+1:Nat):Int):=by rw[IntKind.wrap_i64];omega
 have hnz:nT≠0:=E0;refine W9 ?_;refine V8 ?_;refine Ci.Ym (S:=(fun w1=>Zp w f lr k K Iq wo nW wn {(Eo k K ins wn nW 0 s)with D:=VD K.k (Eo k K ins wn nW 0 s).D} f' lr2 w1)) (Die:=fun _ _=>False) Di uD 15 I0 hk J0 (fun _ _ _ h=>h) (fun _ _ _ h=>h.elim) fun w1 hR=>?_;replace hF:=(hF.rely hR).rely (W70 _);clear hR;refine Ii Di 0 (fun _ _ h r=>Zp.rely h r) hF ?_;refine W9 ?_;refine Ii Di 1 (fun _ _ h r=>Zp.rely h r) hF ?_;refine W9 ?_;refine Ii Di 2 (fun _ _ h r=>Zp.rely h r) hF ?_;refine W9 ?_;refine Ii Di 3 (fun _ _ h r=>Zp.rely h r) hF ?_;refine W9 ?_;refine aj Di 4 rfl (fun _ _ h r=>Zp.rely h r) hF ?_ fun _ hw=>⟨run_eq_of (by
  intro K hK;refine Dc fun hc=>?_;go_simp;exact hK),by
  refine Dc fun hc=>?_
  co_evs (exact Yj _ _ _)⟩
 refine W9 ?_;refine Ii Di 5 (fun _ _ h r=>Zp.rely h r) hF ?_;refine W9 ?_;refine Ii Di 6 (fun _ _ h r=>Zp.rely h r) hF ?_;refine W9 ?_;refine Ii Di 7 (fun _ _ h r=>Zp.rely h r) hF ?_;refine W9 ?_;refine Ii Di 8 (fun _ _ h r=>Zp.rely h r) hF ?_;refine W9 ?_;refine aj Di 9 rfl (fun _ _ h r=>Zp.rely h r) hF ?_ fun _ hw=>⟨run_eq_of (by
  intro K hK;refine Ua fun hc=>?_;go_simp;exact hK),by
  refine Ua fun hc=>?_
  co_evs (exact Yj _ _ _)⟩
 refine W9 ?_;refine Ii Di 10 (fun _ _ h r=>Zp.rely h r) hF ?_;refine W9 ?_;refine aj Di 11 rfl (fun _ _ h r=>Zp.rely h r) hF ?_ fun _ hw=>⟨run_eq_of (by
  intro K hK;go_simp;exact hK),by
  co_still Di⟩
 refine W9 ?_;refine Ii Di 12 (fun _ _ h r=>Zp.rely h r) hF ?_;refine W9 ?_;refine Ii Di 13 (fun _ _ h r=>Zp.rely h r) hF ?_;refine W9 ?_;refine Zm (i:=14) T0 rfl I0 ?_;intro w1 hR K_ hK;replace hF:=hF.rely hR;clear hR;have hc:World.cell? _ ⟨k.kb,1,Ai⟩=yi (.int .i64 r):=(Zp.cell hF (a:=⟨k.kb,1,Ai⟩) hS.WN).trans hr;have Gi0:=(hF.frozen (a:=⟨k.kb,1,Ai⟩) hS.WN).trans hfz;refine E9 ?_ ?_ ?_
 ·exact Ad
 ·exact Cc
 clear hK K_;have hG:=hF;replace hF:=Is.self (w1.setCell ⟨k.kb,1,Ai⟩ (.int .i64 (((r:Int)+1).tmod nT)));clear hc Gi0;refine H9 ?_;refine V8 ?_;refine Zb ?_;refine X8 ?_;refine V8 ?_;refine Ci.ret Di fun todo=>?_;refine .stop rfl fun w6 hR=>?_;obtain⟨d,rfl⟩:=hF.rely hR;exact hp _ _ _ _ rfl (fun d=>(resultsC_tmp (t:=4) I0 _ _).1) ⟨rfl,f',lr2,_,d,hG,rfl⟩
end
structure Tab where
 tb:Nat
 cT:Nat
 nT:Nat
 ws:Nat->Nat
 wo:Nat->Nat
 cw:Nat->Nat
 nw:Nat->Nat
 wn:Nat->Nat->Nat×Nat
end Go.Proofs.YtdoghgnifkgfdaaGreat.Mute
