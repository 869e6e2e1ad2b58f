import Derived.Test.YtdoghgnifkgfdaaGreatProg
import Derived.KernelRfl
import Derived.Test.YtdoghgnifkgfdaaGreatP04
import Derived.Test.YtdoghgnifkgfdaaGreatP08
import Derived.Test.YtdoghgnifkgfdaaGreatP09
import Derived.Test.YtdoghgnifkgfdaaGreatP20
import Derived.Test.YtdoghgnifkgfdaaGreatP28
import Derived.Test.YtdoghgnifkgfdaaGreatP41
set_option maxRecDepth 100000
set_option maxHeartbeats 16000000
namespace Go.Proofs.YtdoghgnifkgfdaaGreat.Mute
open Go Go.Conc Go.RowKit
def YcL (k:Ker) (K:NetK) (wn:Nat→Nat×Nat) (nw:Nat) (ins:List (Int×Int)) (s:KSq):KSq:=
 {Yce k K ins wn nw 0 s with D:=endC K.k (Yce k K ins wn nw 0 s).D}
def Ycd (k:Nat) (C:Nat→Chn):Prop:=∀i,i<k→(C i).wait.length≤4
theorem Ycd.set {k i:Nat} {C:Nat→Chn} (h:Ycd k C) {c:Chn} (hc:c.wait.length≤4):Ycd k (uN C i c):=fun j hj=>by
 by_cases e:j=i
 ·subst e;rw [YbU];exact hc
 ·rw [Yc2 _ _ e];exact h j hj
theorem YgI {ins:List (Int×Int)} {op N:Int} {R A k:Nat} {z:Nat→Int} {C:Nat→Chn} (h:Ycd k C) (hN:op≠14→0≤N∧N<k) (hop:isEx op):Ycd k (exF ins op R A N z C).2:=by
 unfold exF;simp only [];by_cases h14:op=14
 ·subst h14;simpa using h
 have hc:=h N.toNat (by have:=hN h14;omega);rcases hop with rfl|rfl|rfl|rfl|rfl|rfl
 ·exact h.set hc
 ·exact h.set hc
 ·cases hw:(C N.toNat).wait with
  |nil=>simpa [hw] using h
  |cons x l=>
   rw [hw] at hc;simp at hc;exact h.set (by show l.length≤4;omega)
 ·exact h
 ·exact absurd rfl h14
 ·exact h.set hc
theorem Ydl {p:Prg} {kc:Nat} (hok:Yc8 p.n kc p.ci):∀(k:Nat) (z:Nat→Int) (C:Nat→Chn),Zok p.n z→Ycd kc C→Ycd kc (runQ p k z C).2.2.2
 |0,_,_,_,h=>h
 |k+1,z,C,hz,h=>by
  have hs:=YcC (ins:=p.ins) (b:=0) (C:=fun _=>⟨[],[],0,0,0,0,false⟩) hok hz fun _ _=>⟨Nat.le_refl _,Nat.le_refl _⟩;have h1:=hz.lo;have h2:=hz.hi;simp only [runQ];by_cases hx:z 45≠p.n∧isEx (p.ci ((z 45).toNat*4))
  ·obtain ⟨_,hR,hA,_,hN⟩:=hok (z 45).toNat (by omega);have e:YbQ p.n p.ci p.ins z C=.on (p.ci ((z 45).toNat*4)) none (exF p.ins (p.ci ((z 45).toNat*4)) (p.ci ((z 45).toNat*4+1)).toNat (p.ci ((z 45).toNat*4+2)).toNat (p.ci ((z 45).toNat*4+3)) (Y9 z) C).1 (exF p.ins (p.ci ((z 45).toNat*4)) (p.ci ((z 45).toNat*4+1)).toNat (p.ci ((z 45).toNat*4+2)).toNat (p.ci ((z 45).toNat*4+3)) (Y9 z) C).2:=by
    unfold YbQ;rw [if_pos hx]
   have hw:=YgI (ins:=p.ins) (R:=(p.ci ((z 45).toNat*4+1)).toNat) (A:=(p.ci ((z 45).toNat*4+2)).toNat) (z:=Y9 z) h (fun e=>hN hx.2 e) hx.2;have hzz:=Yej (ins:=p.ins) (op:=p.ci ((z 45).toNat*4)) (N:=p.ci ((z 45).toNat*4+3)) (C:=C) (Yar hz hx.1) (R:=(p.ci ((z 45).toNat*4+1)).toNat) (A:=(p.ci ((z 45).toNat*4+2)).toNat) (by omega) (by omega);rw [e];by_cases h0:p.ci ((z 45).toNat*4)=0
   ·simp only [h0,if_true];rw [h0] at hw;exact hw
   ·simp only [h0,if_false];exact Ydl hok k _ _ hzz hw
  ·have e:∀D,YbQ p.n p.ci p.ins z D=(Y7 p.n p.ci z).with D:=fun D=>by unfold YbQ;rw [if_neg hx]
   rw [e] at hs ⊢;revert hs;cases Y7 p.n p.ci z with
   |on op e z'=>
    intro hs;by_cases h0:op=0
    ·simp only [Out.with,h0,if_true];exact h
    ·simp only [Out.with,h0,if_false];exact Ydl hok k _ _ hs.1 h
   |broke y z'=>
    intro _ i hi;show (Yc9 p.fr p.num C i).wait.length≤4;unfold Yc9;split
    ·exact h i hi
    ·exact h i hi
theorem Ygk {p:Prg} {kc:Nat} (hok:Yc8 p.n kc p.ci) (budget:Nat) {z:Nat→Int} {C:Nat→Chn} (hz:Zok p.n z) (h:Ycd kc C):Ycd kc (YbN p budget z C).2.2:=by
 show Ycd kc (goQ p budget z C).2.2.2;unfold goQ;split
 ·exact h
 ·exact Ydl hok budget z C hz h
theorem Ycs:∀(k:Nat) (C:Nat→Chn),∃b,LenQ k b C
 |0,_=>⟨0,fun _ h=>absurd h (Nat.not_lt_zero _)⟩
 |k+1,C=>by
  obtain ⟨b,hb⟩:=Ycs k C;refine ⟨b+(C k).sent.length+(C k).wait.length,fun i hi=>?_⟩;by_cases e:i=k
  ·subst e;omega
  ·have:=hb i (by omega);omega
section
variable {k:Ker} {K:NetK} {ins:List (Int×Int)} {wn:Nat→Nat×Nat}
theorem YdW (hok:∀i,i<k.nC→Yc8 (k.n i) K.k (k.ci i)):∀(rem j:Nat) (s:KSq),(∀i,j≤i→i<j+rem→(wn i).1<k.nC)→(∀i,i<k.nC→Zok (k.n i) (s.z i))→Ycd K.k s.D→Ycd K.k (Yce k K ins wn rem j s).D
 |0,_,_,_,_,h=>h
 |rem+1,j,s,hw,hz,h=>by
  have hc:=hw j (Nat.le_refl _) (by omega);refine YdW hok rem (j+1) (winQ k K ins (wn j) s) (fun i h1 h2=>hw i (by omega) (by omega)) (fun i hi=>?_) (Ygk (p:=Yca k K ins (wn j).1) (hok _ hc) _ (hz _ hc) h);show Zok _ (updN s.z (wn j).1 _ i);by_cases e:i=(wn j).1
  ·subst e;rw [Yh];obtain ⟨b,hb⟩:=Ycs K.k s.D;exact (Yd0 (p:=Yca k K ins (wn j).1) (hok _ hc) _ (hz _ hc) hb).1
  ·rw [YG _ _ e];exact hz i hi
end
theorem YgD {k:Nat} {C:Nat→Chn} (h:Ycd k C):LenQ k 4 (endC k C):=fun i hi=>by
 have e:endC k C i=endS (endQ (C i)):=by unfold endC Ycg;rw [if_pos hi,if_pos hi]
 have hs:∀c:Chn,(endS c).sent=c.sent∧(endS c).wait=c.wait:=fun c=>by
  unfold endS;split
  ·exact ⟨rfl,rfl⟩
  ·split
   ·exact ⟨rfl,rfl⟩
   ·exact ⟨rfl,rfl⟩
 rw [e,(hs _).1,(hs _).2];exact ⟨Nat.zero_le _,YeD (h i hi)⟩
def SB (k:Ker) (K:NetK) (t:Tab) (b:Nat):Prop:=b=k.C∨b=K.nb∨(0<K.k∧b=K.eb)∨b=t.tb∨(∃i,i<k.nC∧b=k.cb i)∨∃i,i<t.nT∧b=t.ws i
structure YbS (w:World) (k:Ker) (K:NetK) (t:Tab) (s:KSq) (f:Nat→Value) (lr:Nat→Option Row) (r:Nat) (S:Nat→Prop):Prop where
 sta:KSta w k K
 dyn:KDyn w k K s f lr
 len:LenQ K.k 4 s.D
 rowK:RowF w k.kb 5 94 (Xo (.slice (some ⟨t.tb,0,none⟩) t.nT t.cT) (.int .i64 r) (.slice (some ⟨k.C,0,none⟩) k.nC k.cC) (.pointer (some ⟨K.nb,0,none⟩)) (.slice (some ⟨k.T,0,none⟩) k.nC k.nC))
 stb:YbM w t.tb
 rows:∀i,i<t.nT→w.cell? ⟨t.tb,i,none⟩=some (.slice (some ⟨t.ws i,t.wo i,none⟩) (t.nw i) (t.cw i))
 sW:∀i,i<t.nT→YbM w (t.ws i)
 c0:∀i,i<t.nT→∀j,j<t.nw i→w.cell? ⟨t.ws i,t.wo i+j*2,none⟩=some (.int .i64 (t.wn i j).1)
 c1:∀i,i<t.nT→∀j,j<t.nw i→w.cell? ⟨t.ws i,t.wo i+j*2+1,none⟩=some (.int .i64 (t.wn i j).2)
 rlt:r<t.nT
 nT:t.nT≤1000
 nw:∀i,i<t.nT→t.nw i≤6
 wnb:∀i,i<t.nT→∀j,j<t.nw i→(t.wn i j).1<k.nC∧(t.wn i j).2≤200
 inS:∀b,b=k.kb∨SB k K t b∨DB k K f lr b→S b
 sz:∀b,S b→b<w.heap.size
 kbNe:∀b,SB k K t b→b≠k.kb
section
variable {w w':World} {k:Ker} {K:NetK} {t:Tab} {s:KSq} {f:Nat→Value} {lr:Nat→Option Row} {r:Nat} {S:Nat→Prop}
theorem YbS.keep (h:YbS w k K t s f lr r S) (hk:∀b,S b→w'.heap[b]?=w.heap[b]?) (hs:w.heap.size≤w'.heap.size):YbS w' k K t s f lr r S:=by
 have hkb:=hk k.kb (h.inS _ (.inl rfl));have hSB:∀b,SB k K t b→w'.heap[b]?=w.heap[b]?:=fun b hb=>hk b (h.inS _ (.inr (.inl hb)));have htb:=hSB t.tb (.inr (.inr (.inr (.inl rfl))));have hws:∀i,i<t.nT→w'.heap[t.ws i]?=w.heap[t.ws i]?:=fun i hi=>hSB _ (.inr (.inr (.inr (.inr (.inr ⟨i,hi,rfl⟩)))));refine ⟨h.sta.keepG (cell_of_heap (a:=⟨k.kb,2,none⟩) hkb) (cell_of_heap (a:=⟨k.kb,4,none⟩) hkb) (h.sta.skb.of_heap hkb) fun b hb=>hSB b ?_,h.dyn.keep fun b hb=>hk b (h.inS _ (.inr (.inr hb))),h.len,h.rowK.of_heap hkb,h.stb.of_heap htb,fun i hi=>(cell_of_heap (a:=⟨t.tb,i,none⟩) htb).trans (h.rows i hi),fun i hi=>(h.sW i hi).of_heap (hws i hi),fun i hi j hj=>(cell_of_heap (a:=⟨t.ws i,t.wo i+j*2,none⟩) (hws i hi)).trans (h.c0 i hi j hj),fun i hi j hj=>(cell_of_heap (a:=⟨t.ws i,t.wo i+j*2+1,none⟩) (hws i hi)).trans (h.c1 i hi j hj),h.rlt,h.nT,h.nw,h.wnb,h.inS,fun b hb=>Nat.lt_of_lt_of_le (h.sz b hb) hs,h.kbNe⟩;rcases hb with hb|hb|hb|hb
 ·exact .inl hb
 ·exact .inr (.inl hb)
 ·exact .inr (.inr (.inl hb))
 ·exact .inr (.inr (.inr (.inr (.inl hb))))
theorem YbS.sub {S':Nat→Prop} (h:YbS w k K t s f lr r S) (hs:∀b,S b→S' b) (hz:∀b,S' b→b<w.heap.size):YbS w k K t s f lr r S':=
 ⟨h.sta,h.dyn,h.len,h.rowK,h.stb,h.rows,h.sW,h.c0,h.c1,h.rlt,h.nT,h.nw,h.wnb,fun b hb=>hs b (h.inS b hb),hz,h.kbNe⟩
theorem YbS.frame (h:YbS w k K t s f lr r S) (hm:∀i,s.m i+1300≤1000000000) {ip:Option Addr} {il ic:Nat} {ins:List (Int×Int)} (hin:InW w (.slice ip il ic) ins (YbM w)) (hil:il≤4):
  CallsR Tryz.prog 15 #[.pointer (some ⟨k.kb,0,none⟩),.slice ip il ic] w (fun v w'=>v=.int .i64 0∧∃f' lr',YbS w' k K t (YcL k K (t.wn r) (t.nw r) ins s) f' lr' ((r+1) % t.nT) (fun b=>S b∨(w.heap.size≤b∧b<w'.heap.size))∧But S w w'):=by
 have hrl:=h.rlt;have hnw:=h.nw r hrl;have hwait:Ycd K.k (Yce k K ins (t.wn r) (t.nw r) 0 s).D:=YdW h.sta.ok _ _ _ (fun i _ hi=>(h.wnb r hrl i (by omega)).1) h.dyn.zok fun i hi=>(h.len i hi).2;refine (Yg0 h.sta h.dyn (h.rowK.cell (j:=0) (by omega)) (h.rowK.cell (j:=1) (by omega)) (h.rowK.cell (j:=3) (by omega)) (h.rowK.frozen 1) h.stb (h.rows r hrl) hrl h.nT (h.sW r hrl) (h.c0 r hrl) (h.c1 r hrl) (by omega) (h.wnb r hrl) (fun i=>by have:=hm i;have:t.nw r*201≤6*201:=Nat.mul_le_mul_right _ hnw;omega) h.len hwait hin hil).mono ?_;rintro v w' ⟨rfl,f',lr',w1,d,hF,rfl⟩;refine ⟨rfl,f',lr',?_⟩;have hnr:(((r:Int)+1).tmod t.nT)=(((r+1) % t.nT:Nat):Int):=by
  rw [Int.tmod_eq_emod_of_nonneg (by omega)];simp
 rw [hnr];have hsz1:w.heap.size≤w1.heap.size:=hF.ph.2.2.2;have hK1:=h.rowK.of_heap (hF.st h.sta.skb);have hK2:=(RowF.set5k hK1 (.int .i64 (((r+1) % t.nT:Nat):Int))).2.1;have ne2:∀{b:Nat},b≠k.kb→(w1.setCell ⟨k.kb,1,none⟩ (.int .i64 (((r+1) % t.nT:Nat):Int))).heap[b]?=w1.heap[b]?:=fun hb=>heap_setCell_other _ _ _ _ hb;have hsz2:(w1.setCell ⟨k.kb,1,none⟩ (.int .i64 (((r+1) % t.nT:Nat):Int))).heap.size=w1.heap.size:=size_setCell _ _ _;have hS1:=hF.staW;have dne:∀b,DB k K f' lr' b→b≠k.kb:=fun b hb e=>hS1.skb.notDB hF.dyn (e▸hb);have hdyn:=hF.dyn.keep (w':=w1.setCell ⟨k.kb,1,none⟩ (.int .i64 (((r+1) % t.nT:Nat):Int))) fun b hb=>ne2 (dne b hb);have stF:∀b,YbM w b→b≠k.kb→(w1.setCell ⟨k.kb,1,none⟩ (.int .i64 (((r+1) % t.nT:Nat):Int))).heap[b]?=w.heap[b]?:=fun b hs hne=>(ne2 hne).trans (hF.st hs);have hskb:YbM (w1.setCell ⟨k.kb,1,none⟩ (.int .i64 (((r+1) % t.nT:Nat):Int))) k.kb:=by
  obtain ⟨cs,hh,_⟩:=hK2;exact ⟨cs,_,_,hh,by decide,by decide,by decide,by decide,by decide,by decide⟩
 have hsta:KSta (w1.setCell ⟨k.kb,1,none⟩ (.int .i64 (((r+1) % t.nT:Nat):Int))) k K:=by
  refine hS1.keepG ((hK2.cell (j:=2) (by omega)).trans (hK1.cell (j:=2) (by omega)).symm) ((hK2.cell (j:=4) (by omega)).trans (hK1.cell (j:=4) (by omega)).symm) hskb fun b hb=>ne2 (h.kbNe b ?_);rcases hb with hb|hb|hb|hb
  ·exact .inl hb
  ·exact .inr (.inl hb)
  ·exact .inr (.inr (.inl hb))
  ·exact .inr (.inr (.inr (.inr (.inl hb))))
 have tbne:=h.kbNe t.tb (.inr (.inr (.inr (.inl rfl))));have wsne:∀i,i<t.nT→t.ws i≠k.kb:=fun i hi=>h.kbNe _ (.inr (.inr (.inr (.inr (.inr ⟨i,hi,rfl⟩)))));have hDB:∀b,DB k K f' lr' b→S b∨(w.heap.size≤b∧b<w1.heap.size):=fun b hb=>by
  have hlt:=hF.dyn.lt hb;rcases hb with hb|hb|⟨i,hi,hb|hb⟩
  ·exact .inl (h.inS b (.inr (.inr (.inl hb))))
  ·rcases hF.fn b hb with e|e
   ·exact .inl (h.inS b (.inr (.inr (.inr (.inl e)))))
   ·exact .inr ⟨e,hlt⟩
  ·exact .inl (h.inS b (.inr (.inr (.inr (.inr ⟨i,hi,.inl hb⟩)))))
  ·rcases hF.fo i b hi hb with e|e
   ·exact .inl (h.inS b (.inr (.inr (.inr (.inr ⟨i,hi,.inr e⟩)))))
   ·exact .inr ⟨e,hlt⟩
 have hfull:YbS (w1.setCell ⟨k.kb,1,none⟩ (.int .i64 (((r+1) % t.nT:Nat):Int))) k K t (YcL k K (t.wn r) (t.nw r) ins s) f' lr' ((r+1) % t.nT) (fun b=>S b∨(w.heap.size≤b∧b<w1.heap.size)):=
  ⟨hsta,hdyn,YgD hwait,hK2,h.stb.of_heap (stF _ h.stb tbne),fun i hi=>(cell_of_heap (a:=⟨t.tb,i,none⟩) (stF _ h.stb tbne)).trans (h.rows i hi),fun i hi=>(h.sW i hi).of_heap (stF _ (h.sW i hi) (wsne i hi)),fun i hi j hj=>(cell_of_heap (a:=⟨t.ws i,t.wo i+j*2,none⟩) (stF _ (h.sW i hi) (wsne i hi))).trans (h.c0 i hi j hj),fun i hi j hj=>(cell_of_heap (a:=⟨t.ws i,t.wo i+j*2+1,none⟩) (stF _ (h.sW i hi) (wsne i hi))).trans (h.c1 i hi j hj),Nat.mod_lt _ (by omega),h.nT,h.nw,h.wnb,fun b hb=>by
   rcases hb with hb|hb|hb
   ·exact .inl (h.inS b (.inl hb))
   ·exact .inl (h.inS b (.inr (.inl hb)))
   ·exact hDB b hb,fun b hb=>by
   rw [hsz2];rcases hb with hb|hb
   ·exact Nat.lt_of_lt_of_le (h.sz b hb) hsz1
   ·exact hb.2,h.kbNe⟩
 refine ⟨(hfull.keep (w':=(w1.setCell ⟨k.kb,1,none⟩ (.int .i64 (((r+1) % t.nT:Nat):Int))).at d) (fun _ _=>rfl) (Nat.le_refl _)).sub (fun b hb=>?_) (fun b hb=>?_),⟨hF.ph.1,hF.ph.2.2.1,hF.ph.2.1,?_,fun b hb hn=>?_⟩⟩
 ·show S b∨(w.heap.size≤b∧b<(w1.setCell ⟨k.kb,1,none⟩ (.int .i64 (((r+1) % t.nT:Nat):Int))).heap.size);rw [hsz2];exact hb
 ·have hb:S b∨(w.heap.size≤b∧b<(w1.setCell ⟨k.kb,1,none⟩ (.int .i64 (((r+1) % t.nT:Nat):Int))).heap.size):=hb;show b<(w1.setCell ⟨k.kb,1,none⟩ (.int .i64 (((r+1) % t.nT:Nat):Int))).heap.size;rcases hb with hb|hb
  ·rw [hsz2];exact Nat.lt_of_lt_of_le (h.sz b hb) hsz1
  ·exact hb.2
 ·show w.heap.size≤(w1.setCell ⟨k.kb,1,none⟩ (.int .i64 (((r+1) % t.nT:Nat):Int))).heap.size;rw [hsz2];exact hsz1
 ·show (w1.setCell ⟨k.kb,1,none⟩ (.int .i64 (((r+1) % t.nT:Nat):Int))).heap[b]?=w.heap[b]?;rw [ne2 (fun e=>hn (h.inS b (.inl e)))];exact hF.ft b hb fun e=>hn (h.inS b (.inr (.inr e)))
end
theorem Ye6:∀(n i:Nat),i<n→(Ja n)[i*3]?=some (.slice none 0 0)∧(Ja n)[i*3+1]?=some (.slice none 0 0)∧(Ja n)[i*3+2]?=some (.int .i64 0)
 |0,i,h=>absurd h (Nat.not_lt_zero i)
 |n+1,i,h=>by
  have hl:∀n,(Ja n).length=n*3:=fun n=>by
   induction n with
   |zero=>rfl
   |succ n ih=>simp [Ja,ih];omega
  by_cases e:i=n
  ·subst e;have:=hl i;simp [Ja,this]
  ·have h2:=Ye6 n i (by omega);have:=hl n;simp only [Ja];rw [List.getElem?_append_left (by omega),List.getElem?_append_left (by omega),List.getElem?_append_left (by omega)];exact h2
theorem Ye3:∀(n i:Nat),i<n→(J6 n)[i*4]?=some (.int .i64 0)∧(J6 n)[i*4+1]?=some (.int .i64 (-1))∧(J6 n)[i*4+2]?=some (.int .i64 0)∧(J6 n)[i*4+3]?=some (.bool false)
 |0,i,h=>absurd h (Nat.not_lt_zero i)
 |n+1,i,h=>by
  have hl:∀n,(J6 n).length=n*4:=fun n=>by
   induction n with
   |zero=>rfl
   |succ n ih=>simp [J6,ih];omega
  by_cases e:i=n
  ·subst e;have:=hl i;simp [J6,this]
  ·have h2:=Ye3 n i (by omega);have:=hl n;simp only [J6];rw [List.getElem?_append_left (by omega),List.getElem?_append_left (by omega),List.getElem?_append_left (by omega),List.getElem?_append_left (by omega)];exact h2
theorem Ydd (z:Nat→Int):∀(n i:Nat),i<n→(ZY z n)[i*2]?=some (.int .i64 (z (i*3+1)))∧(ZY z n)[i*2+1]?=some (.int .i64 (z (i*3+2)))
 |0,i,h=>absurd h (Nat.not_lt_zero i)
 |n+1,i,h=>by
  have hl:∀n,(ZY z n).length=n*2:=fun n=>by
   induction n with
   |zero=>rfl
   |succ n ih=>simp [ZY,ih];omega
  by_cases e:i=n
  ·subst e;have:=hl i;simp [ZY,this]
  ·have h2:=Ydd z n i (by omega);have:=hl n;simp only [ZY];rw [List.getElem?_append_left (by omega),List.getElem?_append_left (by omega)];exact h2
def newC:Chn:=⟨[],[],0,0,-1,0,false⟩
def sq0 (c:Cfg):KSq:=⟨fun i=>newZ (c.lim i) (c.nImg i) (c.img i),fun _=>0,fun _=>[],fun _=>newC⟩
theorem Ydq {c:Cfg} {i:Nat} (h:X3 c i):Yc8 (c.nCode i) c.nCh (c.code i):=fun k hk=>by
 obtain ⟨-,-,-,h4⟩:=h;obtain ⟨h5,h6,h7,h8,h9,h10,h11,h12,h13⟩:=h4 k hk;refine ⟨h5,h6,h7,h8,fun hx h14=>?_⟩;rcases hx with e|e|e|e|e|e
 ·exact ⟨(h9 e).1,(h9 e).2.1⟩
 ·exact ⟨(h10 e).1,(h10 e).2.1⟩
 ·exact ⟨(h11 (.inl e)).1,(h11 (.inl e)).2.1⟩
 ·exact ⟨(h12 e).1,(h12 e).2.1⟩
 ·exact absurd e h14
 ·exact ⟨(h11 (.inr e)).1,(h11 (.inr e)).2.1⟩
theorem Y8.ch8 {c:Cfg} (h:Y8 c 0 0):c.nCh≤8:=by
 unfold Y8 at h;rcases h with h|h|⟨_,_,i,_,h,_⟩|h|⟨_,_,_,_,i,_,h,_⟩|h|⟨_,_,_,_,_,_,i,_,h,_⟩|⟨_,_,_,_,_,_,_,i,_,h,_⟩|h
 ·exact absurd h.2.1 (by omega)
 ·exact absurd h.2.2.1 (by omega)
 ·exact absurd h (by omega)
 ·exact absurd h.2.2.2.2.1 (by omega)
 ·exact absurd h (by omega)
 ·exact absurd h.2.2.2.2.2.2.1 (by omega)
 ·exact absurd h (by omega)
 ·exact absurd h (by omega)
 ·exact h.2.2.2.1
theorem Ydb {w:World} {b e s n:Nat} {v:Value} {xs:List Value} (h:w.ownsRow b e s v n xs) (hn:0<n):∃g cap m f,v=.slice (some ⟨g,0,none⟩) n cap∧b≤g∧RowF w g m e f∧n*s≤m∧∀j x,xs[j]?=some x→f j=x:=by
 rcases h with ⟨hl,⟨_,h0⟩|⟨g,cap,cur,hv,hb,hh,h1,h2,h3,h4⟩⟩
 ·omega
 ·refine ⟨g,cap,cur.size,fun j=>cur.getD j undef,hv,hb,⟨cur,hh,rfl,fun j hj=>by simp [Array.getD,hj]⟩,by rw [h3];exact Nat.mul_le_mul_right _ h1,fun j x hx=>?_⟩;rw [←h4,List.getElem?_take] at hx;split at hx
  ·rw [Array.getElem?_toList] at hx;simp [Array.getD_eq_getD_getElem?,hx]
  ·cases hx
def KM2 (c:Cfg) (B K nb:Nat) (v tr:Value) (w:World):Prop:=
 ∃u xs,RowF w K 5 94 (Xo v (.int .i64 0) u (.pointer (some ⟨nb,0,none⟩)) tr)∧w.ownsRow (K+1) 143 1 u c.nC xs∧Ext B c nb tr w∧(∃ys,w.ownsRow (K+1) 100 1 v c.nT ys∧XV B c c.nT ys w)∧ZA B c nb c.nC xs w
section
variable {w:World}
theorem Yg9 {c:Cfg} {B K nb:Nat} {v tr:Value} (h:KM2 c B K nb v tr w) (hBK:B≤K) (hck:Y8 c 0 0):
  ∃k N t f,YbS w k N t (sq0 c) f (fun _=>none) 0 (fun b=>B≤b∧b<w.heap.size)∧k.kb=K∧k.nC=c.nC∧k.n=c.nCode∧k.ci=c.code∧(∀i,k.num i=i)∧N.k=c.nCh∧(∀i,N.fr i=c.ch (i*3+1))∧(∀i,N.to_ i=c.ch (i*3+2))∧t.nT=c.nT∧t.nw=c.nRow∧t.wn=wnOf c:=by
 obtain ⟨u,xs,hK,hu,⟨⟨hnb,ve,vq,vs,hnet,⟨pe,ce,he⟩,⟨pq,cq,hq⟩,⟨ps,cs',hs⟩,ho1,ho2,ho3⟩,T,hT,htr,hTr⟩,⟨ys,hv,hrows⟩,kb,hinj,hcells⟩:=h;obtain ⟨⟨hn1,hn6⟩,⟨ht1,ht8⟩,hall⟩:=hck.sizes;have h8:=Y8.ch8 hck;have hra:=Y8.rowsAll hck;obtain ⟨C,cC,rfl,hCl,hClt⟩:=hu.form (by omega);obtain ⟨tb,cT,rfl,htl,htlt⟩:=hv.form (by omega);obtain ⟨cv,hcv⟩:=choose_lt (.slice none 0 0) hcells;have hcvf:∀i,i<c.nC→∃p:Nat×Nat,cv i=.slice (some ⟨p.1,0,none⟩) (c.nCode i) p.2∧B≤p.1∧p.1<w.heap.size:=fun i hi=>by
  obtain ⟨-,-,-,-,h5⟩:=hcv i hi;obtain ⟨g,cap,h6,h7,h8⟩:=h5.form (by have:=(hall i hi).2.2.1.1;exact this);exact ⟨(g,cap),h6,h7,h8⟩
 obtain ⟨cp,hcp⟩:=choose_lt (0,0) hcvf;obtain ⟨rp,hrp⟩:=choose_lt (α:=Nat×Nat) (0,0) (P:=fun i p=>ys[i]?=some (.slice (some ⟨p.1,0,none⟩) (c.nRow i) p.2)∧w.ownsRow B 102 2 (.slice (some ⟨p.1,0,none⟩) (c.nRow i) p.2) (c.nRow i) ((List.range (c.nRow i*2)).map fun j=>.int .i64 (c.row i j))) (fun i (hi:i<c.nT)=>by
  obtain ⟨g,cap,h1,h2⟩:=hrows i hi;exact ⟨(g,cap),h1,h2⟩)
 subst htr;obtain ⟨csK,hKh,-⟩:=id hK;obtain ⟨csN,hNh,-⟩:=id hnet;obtain ⟨csC,hCh⟩:=Zy hu (g:=C) rfl;obtain ⟨csT,hTh⟩:=Zy hv (g:=tb) rfl;have hcode:∀i,i<c.nC→w.ownsRow B 97 4 (.slice (some ⟨(cp i).1,0,none⟩) (c.nCode i) (cp i).2) (c.nCode i) ((List.range (c.nCode i*4)).map fun j=>.int .i64 (c.code i j)):=fun i hi=>by
  have:=(hcv i hi).2.2.2.2;rwa [(hcp i hi).1] at this
 have hrowc:∀i,i<c.nC→RowF w (kb i) 48 186 (cellV i (.pointer (some ⟨nb,0,none⟩)) (.slice (some ⟨(cp i).1,0,none⟩) (c.nCode i) (cp i).2) (newZ (c.lim i) (c.nImg i) (c.img i))):=fun i hi=>by
  have:=(hcv i hi).2.2.2.1;rwa [(hcp i hi).1] at this
 have hwn:=fun i (hi:i<c.nT)=>Y2v (hra i hi);obtain ⟨N,hNk,hNb,hNf,hNt,hNw,hNq,hNe⟩:∃N:NetK,N.k=c.nCh∧N.nb=nb∧(∀i,N.fr i=c.ch (i*3+1))∧(∀i,N.to_ i=c.ch (i*3+2))∧NetC w N∧NtW w N (fun _=>newC) (fun _=>none)∧(0<N.k→(∃m f,B≤N.qb∧RowF w N.qb m 156 f)∧(∃m f,B≤N.sb∧RowF w N.sb m 158 f)∧∃m f,B≤N.eb∧RowF w N.eb m 151 f):=by
  by_cases h0:0<c.nCh
  ·obtain ⟨eb,ce,em,ef,e1,e2,e3,e4,e5⟩:=Ydb ho1 h0;obtain ⟨qb,cq,qm,qf,q1,q2,q3,q4,q5⟩:=Ydb ho2 h0;obtain ⟨sb,cs,sm,sf,s1,s2,s3,s4,s5⟩:=Ydb ho3 h0;subst e1 q1 s1;refine ⟨⟨nb,eb,qb,sb,c.nCh,qm,sm,fun i=>c.ch (i*3+1),fun i=>c.ch (i*3+2)⟩,rfl,rfl,fun _=>rfl,fun _=>rfl,⟨⟨_,ce,hnet.cell (j:=0) (by omega),fun _=>rfl⟩,⟨_,cq,hnet.cell (j:=1) (by omega),fun _=>rfl⟩,⟨_,cs,hnet.cell (j:=2) (by omega),fun _=>rfl⟩,fun j hj=>?_,fun j hj=>?_,q4,s4,by show c.nCh≤1000;omega⟩,⟨fun _ _=>rfl,fun _ _ _ _ h=>(by simp at h),fun _ _ h=>(by simp at h),fun _=>⟨qf,sf,q3,s3,fun i hi=>?_⟩⟩,fun _=>⟨⟨_,_,q2,q3⟩,⟨_,_,s2,s3⟩,⟨_,_,e2,e3⟩⟩⟩
   ·have hj:j<c.nCh:=hj;rw [e3.cell (j:=j*2) (by omega),e5 _ _ (Ydd c.ch c.nCh j hj).1]
   ·have hj:j<c.nCh:=hj;rw [e3.cell (j:=j*2+1) (by omega),e5 _ _ (Ydd c.ch c.nCh j hj).2]
   ·have hi:i<c.nCh:=hi;have hq:=Ye6 c.nCh i hi;have hs:=Ye3 c.nCh i hi;exact ⟨.inl ⟨rfl,q5 _ _ hq.1,rfl⟩,.inl ⟨rfl,q5 _ _ hq.2.1,rfl⟩,q5 _ _ hq.2.2,s5 _ _ hs.1,s5 _ _ hs.2.1,s5 _ _ hs.2.2.1,s5 _ _ hs.2.2.2⟩
  ·have h0':c.nCh=0:=by omega
   subst he hq hs;refine ⟨⟨nb,0,0,0,c.nCh,c.nCh*3,c.nCh*4,fun i=>c.ch (i*3+1),fun i=>c.ch (i*3+2)⟩,rfl,rfl,fun _=>rfl,fun _=>rfl,⟨⟨_,ce,hnet.cell (j:=0) (by omega),fun h=>absurd h h0⟩,⟨_,cq,hnet.cell (j:=1) (by omega),fun h=>absurd h h0⟩,⟨_,cs',hnet.cell (j:=2) (by omega),fun h=>absurd h h0⟩,fun j hj=>absurd (Nat.lt_of_le_of_lt (Nat.zero_le j) hj) h0,fun j hj=>absurd (Nat.lt_of_le_of_lt (Nat.zero_le j) hj) h0,Nat.le_refl _,Nat.le_refl _,by show c.nCh≤1000;omega⟩,⟨fun _ _=>rfl,fun _ _ _ _ h=>(by simp at h),fun _ _ h=>(by simp at h),fun h=>absurd h h0⟩,fun h=>absurd h h0⟩
 subst hNb
 let k:Ker:=⟨K,C,T,c.nC,cC,N.nb,kb,fun i=>(cp i).1,fun _=>0,c.nCode,fun i=>(cp i).2,fun i=>i,c.code⟩
 let t:Tab:=⟨tb,cT,c.nT,fun i=>(rp i).1,fun _=>0,fun i=>(rp i).2,c.nRow,wnOf c⟩
 have seb:0<N.k→YbM w N.eb:=fun h0=>by
  obtain ⟨-,-,m,f,-,cs,hh,-⟩:=hNe h0;exact ⟨cs,_,_,hh,by decide,by decide,by decide,by decide,by decide,by decide⟩
 have scb:∀i,i<c.nC→YbM w (cp i).1:=fun i hi=>by
  obtain ⟨cs,hh⟩:=Zy (hcode i hi) (g:=(cp i).1) rfl;exact ⟨cs,_,_,hh,by decide,by decide,by decide,by decide,by decide,by decide⟩
 have sws:∀i,i<c.nT→YbM w (rp i).1:=fun i hi=>by
  obtain ⟨cs,hh⟩:=Zy (hrp i hi).2 (g:=(rp i).1) rfl;exact ⟨cs,_,_,hh,by decide,by decide,by decide,by decide,by decide,by decide⟩
 have hsta:KSta w k N:=by
  refine ⟨hK.cell (j:=2) (by omega),hK.cell (j:=4) (by omega),⟨csK,_,_,hKh,by decide,by decide,by decide,by decide,by decide,by decide⟩,⟨csC,_,_,hCh,by decide,by decide,by decide,by decide,by decide,by decide⟩,⟨csN,_,_,hNh,by decide,by decide,by decide,by decide,by decide,by decide⟩,seb,scb,fun i hi=>XC hu (hcv i hi).1,fun i hi j hj=>?_,hNw,fun i hi=>(hall i hi).2.2.1.2,fun i hi=>?_,hinj⟩
  ·show w.cell? ⟨(cp i).1,0+j,none⟩=some (.int .i64 (c.code i j));rw [Nat.zero_add];exact XC (hcode i hi) (by simp [show j<c.nCode i*4 from hj])
  ·rw [hNk];exact Ydq (hall i hi)
 have hdyn:KDyn w k N (sq0 c) (fun _=>.slice none 0 0) (fun _=>none):=
  ⟨hrowc,hTr,fun i hi=>World.ownsRow_nil _ _ _ _,fun i hi=>(Y1M _ _ _ _ (hall i hi).2.1).1,fun i j _ _ _ b hb=>by simp [Value.ownBlock] at hb,hNq⟩
 refine ⟨k,N,t,fun _=>.slice none 0 0,⟨hsta,hdyn,fun _ _=>⟨Nat.zero_le _,Nat.zero_le _⟩,hK,⟨csT,_,_,hTh,by decide,by decide,by decide,by decide,by decide,by decide⟩,fun i hi=>XC hv (hrp i hi).1,sws,fun i hi j hj=>?_,fun i hi j hj=>?_,by show 0<c.nT;omega,by show c.nT≤1000;omega,fun i hi=>(hwn i hi).1,fun i hi j hj=>((hwn i hi).2 j hj).2.2,fun b hb=>?_,fun b hb=>hb.2,fun b hb=>?_⟩,rfl,rfl,rfl,rfl,fun _=>rfl,hNk,hNf,hNt,rfl,rfl,rfl⟩
 ·show w.cell? ⟨(rp i).1,0+j*2,none⟩=some (.int .i64 ((wnOf c i j).1:Int));have hj':j<c.nRow i:=hj;rw [Nat.zero_add,((hwn i hi).2 j hj).1];exact XC (hrp i hi).2 (by simp [show j*2<c.nRow i*2 by omega])
 ·show w.cell? ⟨(rp i).1,0+j*2+1,none⟩=some (.int .i64 ((wnOf c i j).2:Int));have hj':j<c.nRow i:=hj;rw [Nat.zero_add,((hwn i hi).2 j hj).2.1];exact XC (hrp i hi).2 (by simp [show j*2+1<c.nRow i*2 by omega])
 ·rcases hb with hb|(hb|hb|⟨h0,hb⟩|hb|⟨i,hi,hb⟩|⟨i,hi,hb⟩)|(hb|hb|⟨i,hi,hb|hb⟩)
  ·subst hb;exact ⟨hBK,hK.lt⟩
  ·subst hb;exact ⟨by omega,hClt⟩
  ·subst hb;exact ⟨hnb,hnet.lt⟩
  ·subst hb;obtain ⟨-,-,m,f,e1,e2⟩:=hNe h0;exact ⟨e1,e2.lt⟩
  ·subst hb;exact ⟨by omega,htlt⟩
  ·subst hb;exact (hcp i hi).2
  ·subst hb;exact (hrp i hi).2.lt _ rfl
  ·subst hb;exact ⟨hT,hTr.lt⟩
  ·rcases hb with ⟨h0,hb⟩|⟨j,r,hj,_⟩
   ·obtain ⟨⟨m,f,e1,e2⟩,⟨m',f',e3,e4⟩,-⟩:=hNe h0;rcases hb with rfl|rfl
    ·exact ⟨e1,e2.lt⟩
    ·exact ⟨e3,e4.lt⟩
   ·cases hj
  ·subst hb;exact ⟨(hcv i hi).2.1,(hcv i hi).2.2.1⟩
  ·simp [Value.ownBlock] at hb
 ·rcases hb with rfl|rfl|⟨h0,rfl⟩|rfl|⟨i,hi,rfl⟩|⟨i,hi,rfl⟩
  ·exact Jb hCh hKh (by decide)
  ·exact Jb hNh hKh (by decide)
  ·obtain ⟨-,-,m,f,-,cs,hh,-⟩:=hNe h0;exact Jb hh hKh (by decide)
  ·exact Jb hTh hKh (by decide)
  ·obtain ⟨cs,hh⟩:=Zy (hcode i hi) (g:=(cp i).1) rfl;exact Jb hh hKh (by decide)
  ·obtain ⟨cs,hh⟩:=Zy (hrp i hi).2 (g:=(rp i).1) rfl;exact Jb hh hKh (by decide)
end
def Y1H:List Nat:=[8,9,11,12,13,14,16,17,18,19,20,22,23,24,25,27,28,29,30,32,33,34,35,36,37,38,39,40,41,42,43,44,45,46,47,48,49,50,51,52,53,54,55,56,58,59,60,61,62,63,64,65,66,67,68,69,70,71,72,73,74,75,76,77,78,79,80,81,82,85,86,87,88,89,90,91,92,93,94,95,96,97,98,99,100,101,102,103,104,105,106,107,108,109,110,112,114,115,116,117,118,119,120,121,122,123,124,125,126,127,128,130,131,132,133,134,135,136,137,138,139,140,142,143,144,146,147]
def Y3Q:List (Nat×Nat):=[(75,14),(76,9),(77,9),(89,1),(89,11),(92,1),(92,11),(95,1),(95,11),(99,29),(116,1),(116,6),(131,1),(131,11),(143,8),(146,1),(146,11)]
def Y2S:List (Nat×Nat):=[(126,15),(127,7),(128,11)]
def Y22:List Nat:=[90,93,96,117,147]
def plan:Plan:={fns:=fun f=>Y1H.contains f,fs:=fun h t=>Y3Q.contains (h,t),ps:=fun h t=>Y2S.contains (h,t),cf:=fun f=>Y22.contains f}
def Y4f (P:Program) (A:Plan) (f:Nat):Bool:=match P.funcs[f]? with
 |some fn=>match fn.body with
  |some c=>YH P A f c
  |none=>true
 |none=>true
theorem Ybw:Y1H.all (Y4f Tryz.prog plan)=true:=by kernel_rfl
theorem Y8R:Y22.all (fun f=>Zu Tryz.prog plan f && JG Tryz.prog plan f)=true:=by kernel_rfl
def farB (P:Program) (l:List (Nat×Nat)):Bool:=l.all fun x=>match P.funcs[x.1]? with
 |some fn=>decide (x.2<fn.ntmps+64)
 |none=>true
theorem Y2h:farB Tryz.prog Y3Q=true∧farB Tryz.prog Y2S=true:=⟨by kernel_rfl,by kernel_rfl⟩
theorem Y2T {P:Program} {l:List (Nat×Nat)} (h:farB P l=true) {f t:Nat} {fn:Func} (hf:P.funcs[f]?=some fn) (ht:fn.ntmps+64≤t):l.contains (f,t)=false:=by
 cases hc:l.contains (f,t) with
 |false=>rfl
 |true=>
  have hm:(f,t)∈l:=by simpa using hc
  have:=List.all_eq_true.1 h _ hm;simp only [hf,decide_eq_true_eq] at this;omega
theorem plain:X4 Tryz.prog plan where
 code f fn c hA hf hc:=by
  have hm:f∈Y1H:=by simpa [plan] using hA
  have:=List.all_eq_true.1 Ybw f hm;unfold Y4f at this;simpa only [hf,hc] using this
 cf f hc:=by
  have hm:f∈Y22:=by simpa [plan] using hc
  have:=List.all_eq_true.1 Y8R f hm;simpa using this
 far f t fn hf ht:=⟨Y2T Y2h.1 hf ht,Y2T Y2h.2 hf ht⟩
theorem YaZ:Tryz.prog.funcs.all (fun f=>match f.body with|some c=>(readies c).isEmpty|none=>true)=true:=by kernel_rfl
theorem Y08 (g:Nat):Tryz.prog.stepOf g=none:=by
 unfold Program.stepOf;rw [Array.findIdx?_eq_none_iff];intro f hf;have:=Array.all_eq_true_iff_forall_mem.1 YaZ f hf;cases hb:f.body with
 |none=>rfl
 |some c=>
  simp only [hb] at this;have e:readies c=[]:=by simpa using this
  simp [e]
theorem CallsR.ofPlain {w:World} {f:FuncId} {args:Array Value} {R':Value→World→Prop} (hen:Xn Tryz.prog plan f args) (R:Value→World→Prop) (hc:∀τ,Calls Tryz.prog f args (reW w τ 0) (fun e w'=>∃v,e=.returned v∧R v w')) (hR:∀v w₁ τ d d',R v (reW w₁ τ d)→R' v (reW w₁ w.tape d')):CallsR Tryz.prog f args w R':=
 (CallsR.of_calls plain Y08 hen R hc).mono fun v w' ⟨w₁,τ,d,d',h1,h2⟩=>by rw [h2];exact hR v w₁ τ d d' h1
theorem CallsR.ofBelow {w:World} {f:FuncId} {args:Array Value} (hen:Xn Tryz.prog plan f args) (Q:Value→World→Prop) (hc:∀τ,Calls Tryz.prog f args (reW w τ 0) (fun e w'=>∃v,e=.returned v∧Below w.heap.size (reW w τ 0) w'∧Q v w')) (hQ:∀v w₁ τ d d',Q v (reW w₁ τ d)→Q v (reW w₁ w.tape d')):CallsR Tryz.prog f args w (fun v w'=>Below w.heap.size w w'∧Q v w'):=by
 refine CallsR.ofPlain hen (fun v w'=>(w'.os=w.os∧w'.output=w.output∧w.heap.size≤w'.heap.size∧∀b,b<w.heap.size→w'.heap[b]?=w.heap[b]?)∧Q v w') (fun τ=>(hc τ).mono ?_) ?_
 ·rintro e w' ⟨v,rfl,h1,h2⟩;exact ⟨v,rfl,⟨h1.os,h1.output,h1.size,h1.block⟩,h2⟩
 ·rintro v w₁ τ d d' ⟨⟨h1,h2,h3,h4⟩,h5⟩;exact ⟨⟨h1,rfl,h2,h3,h4⟩,hQ v w₁ τ d d' h5⟩
end Go.Proofs.YtdoghgnifkgfdaaGreat.Mute
