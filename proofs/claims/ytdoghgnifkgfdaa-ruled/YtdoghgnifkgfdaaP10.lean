import Derived.Test.YtdoghgnifkgfdaaProg
import Derived.Maps.OwnSet
import Derived.Maps.Own
import Derived.Maps.OwnOps
import Derived.Maps.Views
import Derived.DeepKeys4
import Derived.WalkSmall
import Derived.Deep.RegionWith
import Derived.Test.YtdoghgnifkgfdaaP09
set_option maxRecDepth 100000
set_option maxHeartbeats 16000000
namespace Go.Proofs.Ytdoghgnifkgfdaa
open Go.RowKit
theorem cloneIns_own (p:Option Addr) (n cap:Nat) (z:Nat→Int) (w:World) (hs:Sl w p (n*4) (fun j=>.int .i64 (z j))) (hz:p=none→n=0∧cap=0) (hb:32*n≤140737488355328):
  Calls Try.prog 63 #[.slice p n cap] w (ClonedO w 73 4 n (fun j=>.int .i64 (z j))):=by
 cases p with
 |none=>
  obtain ⟨rfl,rfl⟩:=hz rfl;have heq:=fun W a n c=>Go.Lib.run_eql_slice_nil (P:=Try.prog) W 68 73 a n c 0 0 Try.underlying68
  go_enter Try.func63,Try.ntmps63
  go_wp2_with fail
  go_ret;exact ⟨_,rfl,Below.refl _ _,by simpa using World.ownsRow_nil _ _ _ _⟩
 |some ad=>
  by_cases h0:n=0
  ·subst h0;have heq:=fun W a n c=>Go.Lib.run_eql_slice_nil (P:=Try.prog) W 68 73 a n c 0 0 Try.underlying68
   go_enter Try.func63,Try.ntmps63
   go_wp2_with fail
   go_ret;exact ⟨_,rfl,(Below.refl _ _).alloc (Nat.le_refl _) _,by simpa using own_empty w 73 4⟩
  ·obtain ⟨b,o,e,hc⟩:=hs.at (by omega);obtain rfl:ad=⟨b,o,none⟩:=Option.some.inj e;have heq:=fun W a n c=>Go.Lib.run_eql_slice_nil (P:=Try.prog) W 68 73 a n c 0 0 Try.underlying68;have HC:Hid (∀j,j<n*4→w.cell? ⟨b,o+j,none⟩=some (.int .i64 (z j))):=hc;have HBn:Hid (32*n≤140737488355328):=hb;have HH:Hid (b<w.heap.size):=block_lt_of_cell (hc 0 (by omega));have hn0:0<n:=by omega
   clear hc hs hz e h0 hb
   go_enter Try.func63,Try.ntmps63
   go_wp2_with (at_builtin;refine wpList_append_many _ rfl _ _ 68 rfl w.heap.size 73 _ 4 32 Try.underlying68 info_codes rfl (by omega) (.slice (some ⟨w.heap.size,0,none⟩) 0 0) 0 [] rfl (by exact own_empty w 73 4) b o n cap (fun j=>.int .i64 (z j)) rfl (fun j hj=>by
    refine (Below.cell ((Below.refl _ w).alloc (Nat.le_refl _) _) HH.out).trans (HC.out j hj)) (fun j=>rfl) hn0 (by simp only [maxLen];have:=HBn.out;omega) (by have:=HBn.out;omega) (by simp) ?_)
   intro g cc w1 hown hg hat hlt;have HF:Hid (ClonedO w 73 4 n (fun j=>.int .i64 (z j)) (.returned (.slice (some ⟨g,0,none⟩) n cc)) w1):=
    ⟨_,rfl,((Below.refl _ w).alloc (Nat.le_refl _) _).grown hg (by simp) (fun j hj=>by simp [Value.ownBlock] at hj;omega),by simpa using hown⟩
   clear hown hg hat hlt;go_wp2_with fail
   go_ret;simpa using HF.out
theorem cloneWinS_own (ad:Addr) (n cap:Nat) (z:Nat→Int) (w:World) (hs:Sl w (some ad) (n*2) (fun j=>.int .i64 (z j))) (hb:16*n≤140737488355328):
  Calls Try.prog 43 #[.slice (some ad) n cap] w fun e w'=>∃g cc,e=.returned (.slice (some ⟨g,0,none⟩) n cc)∧Below w.heap.size w w'∧w'.ownsRow w.heap.size 65 2 (.slice (some ⟨g,0,none⟩) n cc) n ((List.range (n*2)).map fun j=>.int .i64 (z j)):=by
 by_cases h0:n=0
 ·subst h0;have heq:=fun W a n c=>Go.Lib.run_eql_slice_nil (P:=Try.prog) W 63 65 a n c 0 0 Try.underlying63
  go_enter Try.func43,Try.ntmps43
  go_wp2_with fail
  go_ret;exact ⟨_,_,rfl,(Below.refl _ _).alloc (Nat.le_refl _) _,by simpa using own_empty w 65 2⟩
 ·obtain ⟨b,o,e,hc⟩:=hs.at (by omega);obtain rfl:ad=⟨b,o,none⟩:=Option.some.inj e;have heq:=fun W a n c=>Go.Lib.run_eql_slice_nil (P:=Try.prog) W 63 65 a n c 0 0 Try.underlying63;have HC:Hid (∀j,j<n*2→w.cell? ⟨b,o+j,none⟩=some (.int .i64 (z j))):=hc;have HBn:Hid (16*n≤140737488355328):=hb;have HH:Hid (b<w.heap.size):=block_lt_of_cell (hc 0 (by omega));have hn0:0<n:=by omega
  clear hc hs e h0 hb
  go_enter Try.func43,Try.ntmps43
  go_wp2_with (at_builtin;refine wpList_append_many _ rfl _ _ 63 rfl w.heap.size 65 _ 2 16 Try.underlying63 info_windows rfl (by omega) (.slice (some ⟨w.heap.size,0,none⟩) 0 0) 0 [] rfl (by exact own_empty w 65 2) b o n cap (fun j=>.int .i64 (z j)) rfl (fun j hj=>by
   refine (Below.cell ((Below.refl _ w).alloc (Nat.le_refl _) _) HH.out).trans (HC.out j hj)) (fun j=>rfl) hn0 (by simp only [maxLen];have:=HBn.out;omega) (by have:=HBn.out;omega) (by simp) ?_)
  intro g cc w1 hown hg hat hlt;have HF:Hid (Below w.heap.size w w1∧w1.ownsRow w.heap.size 65 2 (.slice (some ⟨g,0,none⟩) n cc) n ((List.range (n*2)).map fun j=>.int .i64 (z j))):=⟨((Below.refl _ w).alloc (Nat.le_refl _) _).grown hg (by simp) (fun j hj=>by simp [Value.ownBlock] at hj;omega),by simpa using hown⟩;clear hown hg hat hlt;go_wp2_with fail
  go_ret;exact ⟨g,cc,by simp,HF.out.1,HF.out.2⟩
open Go.Maps
theorem laidOut:laidOutB Try.prog=true:=by kernel_rfl
theorem rowUse:192<Try.prog.types.size:=of_decide_eq_true (by kernel_rfl)
theorem keyTypeAtUse:Try.prog.keyTypeAt 3 192=true:=by kernel_rfl
theorem lawUse:Keyed Try.prog 192:=Keyed.of_law (deep_law_laid laidOut (m:=3) (by omega) rowUse keyTypeAtUse (by simp [Try.underlying192]))
theorem keyTypeUse:Try.prog.keyType 192=true:=by kernel_rfl
theorem cellsUse:Try.prog.cellsOf 192=3:=by kernel_rfl
theorem sizeTypes:∃m,Try.prog.types.size+1=m+2:=⟨Try.prog.types.size-1,by have:=rowUse;omega⟩
theorem cellsEnd:Try.prog.cellsOf 190=1:=by kernel_rfl
theorem cellsInt:Try.prog.cellsOf 3=1:=by kernel_rfl
theorem cellsInt64:Try.prog.cellsOf 2=1:=by kernel_rfl
theorem aggCells (a b c:Int):(Value.agg #[.int .i64 a,.int .i64 b,.int .i64 c]).cells=#[.int .i64 a,.int .i64 b,.int .i64 c]:=rfl
theorem keyUse (a b c:Int) (ha:(Lit.int .i64 a).wf=true) (hb:(Lit.int .i64 b).wf=true) (hc:(Lit.int .i64 c).wf=true):∃kl,keyOf Try.prog 192 (.agg #[.int .i64 a,.int .i64 b,.int .i64 c])=some kl:=by
 obtain ⟨m,hm⟩:=sizeTypes;unfold keyOf;rw [hm];simp [Try.underlying192,Try.underlying190,Try.underlying3,Try.underlying2,keyTypeUse,Value.formed,cellsUse,Program.keyLits,aggCells,cellsEnd,cellsInt,cellsInt64,ha,hb,hc]
def useV (e k n:Int):Value:=.agg #[.int .i64 e,.int .i64 k,.int .i64 n]
def UKey (e k n:Int) (kl:Lit):Prop:=keyOf Try.prog 192 (useV e k n)=some kl
theorem useV_inj {e k n e' k' n':Int} (h:useV e k n=useV e' k' n'):e=e'∧k=k'∧n=n':=by
 simp [useV] at h;exact h
theorem UKey.inj {e k n e' k' n':Int} {kl:Lit} (h:UKey e k n kl) (h':UKey e' k' n' kl):e=e'∧k=k'∧n=n':=useV_inj (lawUse.inj h h')
theorem UKey.fn {e k n:Int} {kl kl':Lit} (h:UKey e k n kl) (h':UKey e k n kl'):kl=kl':=Option.some.inj (h.symm.trans h')
def MapIs (D:DataW Unit) (c:Cfg) (m:Nat):Prop:=
 IsMap D∧∀e kd n kl,UKey e kd n kl→
  (Maps.has D kl=true↔∃i:Nat,i<m∧n=i∧kd=c.ch (i*3)∧(e=1∨e=2))∧
  ∀i:Nat,i<m→n=i→kd=c.ch (i*3)→(e=1→D.atKey kl (.lit (.int .i64 0))=.lit (.int .i64 (c.ch (i*3+1))))∧(e=2→D.atKey kl (.lit (.int .i64 0))=.lit (.int .i64 (c.ch (i*3+2))))
theorem MapIs.zero (c:Cfg):MapIs (.map []) c 0:=by
 refine ⟨isMap_empty,fun e kd n kl h=>⟨?_,fun i hi=>absurd hi (by omega)⟩⟩;constructor
 ·intro h;simp [has_eq] at h
 ·rintro ⟨i,hi,_⟩;omega
theorem MapIs.step {D:DataW Unit} {c:Cfg} {m:Nat} {k1 k2:Lit} (h:MapIs D c m) (h1:UKey 1 (c.ch (m*3)) m k1) (h2:UKey 2 (c.ch (m*3)) m k2):
  MapIs ((D.put k1 (.lit (.int .i64 (c.ch (m*3+1))))).put k2 (.lit (.int .i64 (c.ch (m*3+2))))) c (m+1):=by
 obtain ⟨hM,hD⟩:=h;have i1:WideAt.IsKeyLit k1:=lawUse.key h1;have i2:WideAt.IsKeyLit k2:=lawUse.key h2;have h12:k1≠k2:=by
  intro e;subst e;have:=(h1.inj h2).1;omega
 refine ⟨(hM.put _ _).put _ _,fun e kd n kl hk=>?_⟩;by_cases e2:kl=k2
 ·subst e2;obtain ⟨r1,r2,r3⟩:=hk.inj h2;subst r1 r2 r3;refine ⟨⟨fun _=>⟨m,by omega,rfl,rfl,.inr rfl⟩,fun _=>has_put_same (hM.put _ _) i2 _⟩,fun i hi hn hkd=>⟨fun h=>absurd h (by omega),fun _=>?_⟩⟩;obtain rfl:i=m:=by omega
  exact atKey_put_same (hM.put _ _) i2 _ _
 ·by_cases e1:kl=k1
  ·subst e1;obtain ⟨r1,r2,r3⟩:=hk.inj h1;subst r1 r2 r3;refine ⟨⟨fun _=>⟨m,by omega,rfl,rfl,.inl rfl⟩,fun _=>?_⟩,fun i hi hn hkd=>⟨fun _=>?_,fun h=>absurd h (by omega)⟩⟩
   ·rw [has_put_other h12];exact has_put_same hM i1 _
   ·obtain rfl:i=m:=by omega
    rw [atKey_put_other h12];exact atKey_put_same hM i1 _ _
  ·obtain ⟨g1,g2⟩:=hD e kd n kl hk;have hne:∀i:Nat,i<m+1→n=i→kd=c.ch (i*3)→(e=1∨e=2)→i<m:=by
    intro i hi hn hkd he;rcases Nat.lt_or_ge i m with hl|hl
    ·exact hl
    ·obtain rfl:i=m:=by omega
     subst hn hkd;rcases he with rfl|rfl
     ·exact absurd (hk.fn h1) e1
     ·exact absurd (hk.fn h2) e2
   rw [has_put_other e2,has_put_other e1];refine ⟨⟨fun h=>?_,fun ⟨i,hi,hn,hkd,he⟩=>g1.2 ⟨i,hne i hi hn hkd he,hn,hkd,he⟩⟩,fun i hi hn hkd=>?_⟩
   ·obtain ⟨i,hi,r⟩:=g1.1 h;exact ⟨i,by omega,r⟩
   ·rw [atKey_put_other e2,atKey_put_other e1];exact ⟨fun he=>(g2 i (hne i hi hn hkd (.inl he)) hn hkd).1 he,fun he=>(g2 i (hne i hi hn hkd (.inr he)) hn hkd).2 he⟩
def UsersR (w:World) (b:Nat) (c:Cfg):Prop:=∃n D,w.ownsMap Try.prog 192 (plainElem Try.prog 3) b n D∧MapIs D c c.nCh
def Users (c:Cfg) (w:World) (e:Ending) (w':World):Prop:=∃b,e=.returned (.map (some b))∧UsersR w' b c∧Below w.heap.size w w'
theorem wfi {a:Int} (h0:-9223372036854775808≤a) (h1:a≤9223372036854775807):(Lit.int .i64 a).wf=true:=WalkArith.wf_i64 ⟨h0,h1⟩
theorem usersOf_any (c:Cfg) (p:Option Addr) (cap:Nat) (w:World) (hs:Sl w p (c.nCh*3) (fun j=>.int .i64 (c.ch j))) (h8:c.nCh≤8) (hok:AllOk (ChOk c) c.nCh) (h6:c.nC≤6):
  Calls Try.prog 79 #[.slice p c.nCh cap] w (Users c w):=by
 have HS:Hid (Sl w p (c.nCh*3) (fun j=>.int .i64 (c.ch j))):=hs;have HO:Hid (AllOk (ChOk c) c.nCh):=hok;clear hs hok;have hmm:=@run_makeMap Try.prog
 go_enter Try.func79,Try.ntmps79
 go_wp2_with fail
 go_loopw [9] (fun i wr=>∃k:Nat,k≤c.nCh∧i=.int .i64 k∧Hid (Below w.heap.size w wr)∧Hid (∃D,wr.ownsMap Try.prog 192 (plainElem Try.prog 3) w.heap.size (2*k) D∧MapIs D c k)) (fun i _=>c.nCh-(intOf i).toNat)
 case atStart=>exact ⟨0,Nat.zero_le _,rfl,(Below.refl _ _).alloc (Nat.le_refl _) _,⟨_,World.ownsMap_made _ _ _ _,MapIs.zero c⟩⟩
 case round=>
  obtain ⟨k,hk,rfl,HW,HM⟩:=hrel;by_cases hlt:k<c.nCh
  ·obtain ⟨b,off,rfl,hc⟩:=(HS.out.below HW.out).at (by omega);have c0:=hc (k*3) (by omega);have c1:=hc (k*3+1) (by omega);have c2:=hc (k*3+2) (by omega);have hbl:b<wr.heap.size:=block_lt_of_cell c0;have hsz:w.heap.size≤wr.heap.size:=HW.out.size;rw [←Nat.add_assoc] at c1 c2;clear hc;obtain ⟨D,hown,hD⟩:=HM.out;obtain ⟨g1,⟨g2,g3⟩,⟨g4,g5⟩,g6⟩:=HO.out k hlt;obtain ⟨k1,hk1⟩:=keyUse 1 (c.ch (k*3)) k (wfi (by omega) (by omega)) (wfi (by omega) (by omega)) (wfi (by omega) (by omega));obtain ⟨k2,hk2⟩:=keyUse 2 (c.ch (k*3)) k (wfi (by omega) (by omega)) (wfi (by omega) (by omega)) (wfi (by omega) (by omega));have HD:Hid (MapIs ((D.put k1 (.lit (.int .i64 (c.ch (k*3+1))))).put k2 (.lit (.int .i64 (c.ch (k*3+2))))) c (k+1)):=hD.step hk1 hk2;have HOW:Hid (wr.ownsMap Try.prog 192 (plainElem Try.prog 3) w.heap.size (2*k) D):=hown;have HK1:Hid (keyOf Try.prog 192 (.agg #[.int .i64 1,.int .i64 (c.ch (k*3)),.int .i64 k])=some k1):=hk1;have HK2:Hid (keyOf Try.prog 192 (.agg #[.int .i64 2,.int .i64 (c.ch (k*3)),.int .i64 k])=some k2):=hk2;have W1:Hid ((Lit.int .i64 (c.ch (k*3+1))).wf=true):=wfi (by omega) (by omega);have W2:Hid ((Lit.int .i64 (c.ch (k*3+2))).wf=true):=wfi (by omega) (by omega);clear hown hD hk1 hk2 g1 g2 g3 g4 g5 g6;go_wp2_with (at_mapUpdate;refine wpList_mapUpdate_own _ rfl _ _ _ 181 rfl 192 3 lawUse Try.underlying181 _ w.heap.size (2*k) D rfl (HOW.out.alloc _) (by unfold maxLen;omega) _ _ k1 rfl rfl HK1.out _ [] (plainElem_int Try.underlying3 W1.out) ?_)
   intro w1 hown1 hgrow1;have hlt1:w.heap.size<wr.heap.size:=HOW.out.lt;obtain ⟨y0,_,y2⟩:=box3 (w:=wr) (Below.refl _ (wr.alloc (.cells #[.int .i64 (c.ch (k*3)),.int .i64 (c.ch (k*3+1)),.int .i64 (c.ch (k*3+2))] 75)));have x0:=hgrow1.cell y0 (by simp;omega);have x2:=hgrow1.cell y2 (by simp;omega);have HW1:Hid (Below w.heap.size w w1):=(HW.out.alloc hsz _).grown hgrow1 (by simp;omega) (fun j hj=>by cases hj;exact Nat.le_refl _);have HOW1:Hid (w1.ownsMap Try.prog 192 (plainElem Try.prog 3) w.heap.size (2*k+1) (D.put k1 (.lit (.int .i64 (c.ch (k*3+1)))))):=hown1;clear y0 y2 hown1 hgrow1 c0 c1 c2 HOW;go_wp2_with (at_mapUpdate;refine wpList_mapUpdate_own _ rfl _ _ _ 181 rfl 192 3 lawUse Try.underlying181 _ w.heap.size (2*k+1) (D.put k1 (.lit (.int .i64 (c.ch (k*3+1))))) rfl HOW1.out (by unfold maxLen;omega) _ _ k2 rfl rfl HK2.out _ [] (plainElem_int Try.underlying3 W2.out) ?_)
   intro w2 hown2 hgrow2;have HW2:Hid (Below w.heap.size w w2):=HW1.out.grown hgrow2 HW1.out.size (fun j hj=>by cases hj;exact Nat.le_refl _);have HOW2:Hid (w2.ownsMap Try.prog 192 (plainElem Try.prog 3) w.heap.size (2*(k+1)) ((D.put k1 (.lit (.int .i64 (c.ch (k*3+1))))).put k2 (.lit (.int .i64 (c.ch (k*3+2)))))):=hown2;clear hown2 hgrow2 HOW1 HW1 x0 x2;go_wp2_with fail
   exact ⟨⟨k+1,by omega,by go_num,HW2.out,⟨_,HOW2.out,HD.out⟩⟩,by simp [intOf];omega⟩
  ·obtain rfl:k=c.nCh:=by omega
   go_wp2_with fail
   go_ret;obtain ⟨D,hown,hD⟩:=HM.out;exact ⟨_,rfl,⟨_,D,hown,hD⟩,HW.out⟩
theorem numbers_int (a b:Int) (w:World):
  Calls Try.prog 78 #[.int .i64 a,.int .i64 b] w (Ans (0≤a∧a<b) (·=w)):=by
 go_enter Try.func78,Try.ntmps78
 go_wp2
 ·go_ret;exact Ans.of (b:=decide (a<b)) (by simp only [decide_eq_true_eq];omega) rfl
 ·go_ret;exact Ans.no (by omega) rfl
theorem numbers_int64 (a b:Int) (w:World):
  Calls Try.prog 93 #[.int .i64 a,.int .i64 b] w (Ans (0≤a∧a<b) (·=w)):=by
 go_enter Try.func93,Try.ntmps93
 go_wp2
 ·go_ret;exact Ans.of (b:=decide (a<b)) (by simp only [decide_eq_true_eq];omega) rfl
 ·go_ret;exact Ans.no (by omega) rfl
def RowTo (n k:Nat) (z:Nat→Int):Prop:=(∀i,i<k→WinOk n z i)∧sumTo z k≤200
theorem RowTo.step {n k:Nat} {z:Nat→Int} (h:RowTo n k z) (h1:0≤z (k*2)∧z (k*2)<n) (h2:1≤z (k*2+1)) (h3:z (k*2+1)≤200-sumTo z k):RowTo n (k+1) z:=by
 refine ⟨fun i hi=>?_,by simp only [sumTo];omega⟩;rcases Nat.lt_or_ge i k with hl|hl
 ·exact h.1 i hl
 ·obtain rfl:i=k:=by omega
  exact ⟨h1.1,h1.2,h2⟩
theorem sumTo_mono (z:Nat→Int) (k m:Nat) (hkm:k≤m) (h:∀i,i<m→1≤z (i*2+1)):sumTo z k≤sumTo z m:=by
 induction m with
 |zero=>obtain rfl:k=0:=by omega
        exact Int.le_refl _
 |succ m ih=>
  rcases Nat.lt_or_ge k (m+1) with hl|hl
  ·have h1:=ih (by omega) (fun i hi=>h i (by omega));have h2:=h m (by omega);simp only [sumTo];omega
  ·obtain rfl:k=m+1:=by omega
   exact Int.le_refl _
theorem row_bad {n m k:Nat} {z:Nat→Int} (hk:k<m) (h:¬(0≤z (k*2)∧z (k*2)<n)∨z (k*2+1)<1∨200-sumTo z k<z (k*2+1)):¬RowOk n m z:=by
 intro ⟨_,h2,h3⟩;have hw:=h2 k hk;unfold WinOk at hw;have:=sumTo_mono z (k+1) m hk (fun i hi=>(h2 i hi).2.2);simp only [sumTo] at this;omega
theorem rowMayBe_any (p:Option Addr) (m cap n:Nat) (z:Nat→Int) (w:World) (hs:Sl w p (m*2) (fun j=>.int .i64 (z j))) (hb:16*m≤140737488355328):
  Calls Try.prog 72 #[.slice p m cap,.int .i64 n] w (Ans (RowOk n m z) (Below w.heap.size w)):=by
 have hB:m≤8796093022208:=by omega
 have HS:Hid (Sl w p (m*2) (fun j=>.int .i64 (z j))):=hs;clear hs hb;by_cases h6:m≤6
 ·go_enter Try.func72,Try.ntmps72
  go_wp2_with fail
  go_loopw [5,13] (fun l i wr=>∃k:Nat,k≤m∧i=.int .i64 k∧l=.int .i64 (200-sumTo z k)∧Hid (RowTo n k z)∧Hid (Below w.heap.size w wr)) (fun _ i _=>m-(intOf i).toNat)
  case atStart=>exact ⟨0,Nat.zero_le _,rfl,rfl,⟨fun i hi=>absurd hi (by omega),by simp [sumTo]⟩,Below.refl _ _⟩
  case round=>
   obtain ⟨k,hk,rfl,rfl,HI,HW⟩:=hrel;have hs1:sumTo z k≤200:=HI.out.2;have hs0:0≤sumTo z k:=by have:=(sumTo_ge z k (fun i hi=>(HI.out.1 i hi).2.2)).1;omega
   have hsz:w.heap.size≤wr.heap.size:=HW.out.size;by_cases hlt:k<m
   ·obtain ⟨b,off,rfl,hc⟩:=(HS.out.below HW.out).at (by omega);have c0:=hc (k*2) (by omega);have c1:=hc (k*2+1) (by omega);have hbl:b<wr.heap.size:=block_lt_of_cell c0;rw [←Nat.add_assoc] at c1;clear hc;have HT:Hid (∀_,_):=fun h=>@row_bad n m k z hlt h;have HU:Hid (∀_ _ _,_):=fun h1 h2 h3=>HI.out.step (k:=k) h1 h2 h3;have HS1:Hid (sumTo z (k+1)=sumTo z k+z (k*2+1)):=rfl;by_cases hx:0≤z (k*2)∧z (k*2)<(n:Int)
    ·have HX:Hid (0≤z (k*2)∧z (k*2)<(n:Int)):=hx;clear hx;generalize hz:z (k*2)=x at *;generalize hy:z (k*2+1)=y at *;have HZ:Hid (z (k*2)=x):=hz;have HY:Hid (z (k*2+1)=y):=hy;clear hz hy;go_wp2_with (go_at_call 78;refine (Ans.says (numbers_int _ _ _) HX.out).mono ?_;rintro e w' ⟨rfl,rfl⟩)
     case roundEnd=>
      refine ⟨⟨k+1,by omega,by go_num,by rw [HS1.out];go_num,?_,?_⟩,by simp [intOf];omega⟩
      ·refine HU.out HX.out ?_ ?_<;>omega
      ·exact HW.out.alloc (by omega) _
     all_goals
      go_ret;exact Ans.no (HT.out (by omega)) (HW.out.alloc (by omega) _)
    ·have HX:Hid (¬(0≤z (k*2)∧z (k*2)<(n:Int))):=hx;clear hx;generalize hz:z (k*2)=x at *;generalize hy:z (k*2+1)=y at *;go_wp2_with (go_at_call 78;refine (Ans.denies (numbers_int _ _ _) HX.out).mono ?_;rintro e w' ⟨rfl,rfl⟩)
     go_ret;exact Ans.no (HT.out (Or.inl HX.out)) (HW.out.alloc (by omega) _)
   ·obtain rfl:k=m:=by omega
    go_wp2_with fail
    go_ret;exact Ans.yes ⟨h6,HI.out.1,HI.out.2⟩ HW.out
 ·go_enter Try.func72,Try.ntmps72
  go_wp2_with fail
  go_ret;exact Ans.no (fun h=>h6 h.1) (Below.refl _ _)
def Idx (P:Nat→Prop) (n:Nat) (w:World) (e:Ending) (w':World):Prop:=
 ∃x:Int,e=.returned (.int .i64 x)∧((x=-1∧AllOk P n)∨∃i:Nat,x=i∧Bad1 P n i)∧Below w.heap.size w w'
theorem Idx.none {P:Nat→Prop} {n:Nat} {w w':World} (h:AllOk P n) (hb:Below w.heap.size w w'):Idx P n w (.returned (.int .i64 (-1))) w':=⟨-1,rfl,.inl ⟨rfl,h⟩,hb⟩
theorem Idx.some {P:Nat→Prop} {n i:Nat} {w w':World} (h:Bad1 P n i) (hb:Below w.heap.size w w'):Idx P n w (.returned (.int .i64 i)) w':=⟨i,rfl,.inr ⟨i,rfl,h⟩,hb⟩
theorem rowClosure_any (p:Option Addr) (m cap n h:Nat) (z:Nat→Int) (w:World) (hh:w.cell? ⟨h,0,none⟩=some (.int .i64 n)) (hs:Sl w p (m*2) (fun j=>.int .i64 (z j))) (hb:16*m≤140737488355328):
  Calls Try.prog 71 #[.slice p m cap,.pointer (some ⟨h,0,none⟩)] w (Ans (¬RowOk n m z) (Below w.heap.size w)):=by
 have HS:Hid (Sl w p (m*2) (fun j=>.int .i64 (z j))):=hs;have HN:Hid (16*m≤140737488355328):=hb;clear hs hb;by_cases hok:RowOk n m z
 ·have HO:Hid (RowOk n m z):=hok;clear hok
  go_enter Try.func71,Try.ntmps71
  go_wp2_with (go_at_call 72;refine (Ans.says (rowMayBe_any p m cap n z _ HS.out HN.out) HO.out).mono ?_;rintro e w' ⟨rfl,hbel⟩)
  go_ret;exact Ans.no (fun h=>h HO.out) hbel
 ·have HO:Hid (¬RowOk n m z):=hok;clear hok
  go_enter Try.func71,Try.ntmps71
  go_wp2_with (go_at_call 72;refine (Ans.denies (rowMayBe_any p m cap n z _ HS.out HN.out) HO.out).mono ?_;rintro e w' ⟨rfl,hbel⟩)
  go_ret;exact Ans.yes HO.out hbel
theorem rowIndex_any (p:Option Addr) (n cap:Nat) (F:Nat→Value) (h:Nat) (P:Nat→Prop) (w:World) (hs:Sl w p n F) (hb:n≤8796093022208)
  (hcl:∀i,i<n→∀wr,Below w.heap.size w wr→Calls Try.prog 71 #[F i,.pointer (some ⟨h,0,none⟩)] wr (Ans (¬P i) (Below wr.heap.size wr))):
  Calls Try.prog 70 #[.slice p n cap,.func (.func 71) #[] #[.pointer (some ⟨h,0,none⟩)]] w (Idx P n w):=by
 have HS:Hid (Sl w p n F):=hs;have HC:Hid (∀i,i<n→∀wr,Below w.heap.size w wr→Calls Try.prog 71 #[F i,.pointer (some ⟨h,0,none⟩)] wr (Ans (¬P i) (Below wr.heap.size wr))):=hcl;clear hs hcl
 go_enter Try.func70,Try.ntmps70
 go_wp2_with fail
 go_loopw [8] (fun i wr=>∃k:Nat,k≤n∧i=.int .i64 k∧Hid (AllOk P k)∧Hid (Below w.heap.size w wr)) (fun i _=>n-(intOf i).toNat)
 case atStart=>exact ⟨0,Nat.zero_le _,rfl,AllOk.zero _,Below.refl _ _⟩
 case round=>
  obtain ⟨k,hk,rfl,HI,HW⟩:=hrel;by_cases hlt:k<n
  ·obtain ⟨b,off,rfl,hc⟩:=(HS.out.below HW.out).at (by omega);have c0:=hc k (by omega);clear hc;by_cases hok:P k
   ·have HO:Hid (P k):=hok;clear hok;go_wp2_with (go_at_call 71;refine (Ans.denies (HC.out k hlt wr HW.out) (fun h=>h HO.out)).mono ?_;rintro e w' ⟨rfl,hbel⟩)
    refine ⟨⟨k+1,by omega,by go_num,HI.out.step HO.out,?_⟩,by simp [intOf];omega⟩;exact HW.out.trans (hbel.mono HW.out.size)
   ·have HO:Hid (¬P k):=hok;clear hok;go_wp2_with (go_at_call 71;refine (Ans.says (HC.out k hlt wr HW.out) HO.out).mono ?_;rintro e w' ⟨rfl,hbel⟩)
    go_ret;exact Idx.some ⟨hlt,HO.out,HI.out⟩ (HW.out.trans (hbel.mono HW.out.size))
  ·obtain rfl:k=n:=by omega
   go_wp2_with fail
   go_ret;exact Idx.none HI.out HW.out
def ChV (n:Nat) (k f t:Int):Prop:=(k=1∨k=2)∧(0≤f∧f<n)∧(0≤t∧t<n)∧f≠t
theorem chanMayBe_any (k f t:Int) (n:Nat) (w:World):
  Calls Try.prog 75 #[.agg #[.int .i64 k,.int .i64 f,.int .i64 t],.int .i64 n] w (Ans (ChV n k f t) (Below w.heap.size w)):=by
 have HB:Hid (∀o,Below w.heap.size w (w.alloc o)):=fun o=>(Below.refl _ _).alloc (Nat.le_refl _) _;by_cases hk:k=1∨k=2
 ·have hk':(k != 1)=false∨((k != 1)=true∧(k != 2)=false):=by
   rcases hk with h|h
   ·exact .inl (by simpa using h)
   ·exact .inr ⟨by subst h;rfl,by simpa using h⟩
  have HK:Hid (k=1∨k=2):=hk;clear hk;by_cases hf:0≤f∧f<(n:Int)
  ·have HF:Hid (0≤f∧f<(n:Int)):=hf;clear hf;by_cases ht:0≤t∧t<(n:Int)
   ·have HT:Hid (0≤t∧t<(n:Int)):=ht;clear ht;rcases hk' with h1|⟨h1,h2⟩
    all_goals
     go_enter Try.func75,Try.ntmps75
     go_wp2_with (first|(go_at_call_of 78 (f);refine (Ans.says (numbers_int f _ _) HF.out).mono ?_;rintro e w' ⟨rfl,rfl⟩)|(go_at_call_of 78 (t);refine (Ans.says (numbers_int t _ _) HT.out).mono ?_;rintro e w' ⟨rfl,rfl⟩))
     go_ret;refine Ans.of (b:=(f != t)) ?_ (HB.out _);simp only [bne_iff_ne,ne_eq,ChV];exact ⟨fun h=>⟨HK.out,HF.out,HT.out,h⟩,fun h=>h.2.2.2⟩
   ·have HT:Hid (¬(0≤t∧t<(n:Int))):=ht;clear ht;rcases hk' with h1|⟨h1,h2⟩
    all_goals
     go_enter Try.func75,Try.ntmps75
     go_wp2_with (first|(go_at_call_of 78 (f);refine (Ans.says (numbers_int f _ _) HF.out).mono ?_;rintro e w' ⟨rfl,rfl⟩)|(go_at_call_of 78 (t);refine (Ans.denies (numbers_int t _ _) HT.out).mono ?_;rintro e w' ⟨rfl,rfl⟩))
     go_ret;exact Ans.no (fun h=>HT.out h.2.2.1) (HB.out _)
  ·have HF:Hid (¬(0≤f∧f<(n:Int))):=hf;clear hf;rcases hk' with h1|⟨h1,h2⟩
   all_goals
    go_enter Try.func75,Try.ntmps75
    go_wp2_with (go_at_call 78;refine (Ans.denies (numbers_int f _ _) HF.out).mono ?_;rintro e w' ⟨rfl,rfl⟩)
    go_ret;exact Ans.no (fun h=>HF.out h.2.1) (HB.out _)
 ·have h1:(k != 1)=true:=by simp;omega
  have h2:(k != 2)=true:=by simp;omega
  have HK:Hid (¬(k=1∨k=2)):=hk;clear hk
  go_enter Try.func75,Try.ntmps75
  go_wp2_with fail
  go_ret;exact Ans.no (fun h=>HK.out h.1) (HB.out _)
theorem chanClosure_any (k f t:Int) (n h:Nat) (w:World) (hh:w.cell? ⟨h,0,none⟩=some (.int .i64 n)):
  Calls Try.prog 74 #[.agg #[.int .i64 k,.int .i64 f,.int .i64 t],.pointer (some ⟨h,0,none⟩)] w (Ans (¬ChV n k f t) (Below w.heap.size w)):=by
 have hlt:h<w.heap.size:=block_lt_of_cell hh;by_cases hok:ChV n k f t
 ·have HO:Hid (ChV n k f t):=hok;clear hok
  go_enter Try.func74,Try.ntmps74
  go_wp2_with (go_at_call 75;refine (Ans.says (chanMayBe_any k f t n _) HO.out).mono ?_;rintro e w' ⟨rfl,hbel⟩)
  go_ret;exact Ans.no (fun h=>h HO.out) (below1 hbel)
 ·have HO:Hid (¬ChV n k f t):=hok;clear hok
  go_enter Try.func74,Try.ntmps74
  go_wp2_with (go_at_call 75;refine (Ans.denies (chanMayBe_any k f t n _) HO.out).mono ?_;rintro e w' ⟨rfl,hbel⟩)
  go_ret;exact Ans.yes HO.out (below1 hbel)
theorem devClosure_any (d:Int) (n h:Nat) (w:World) (hh:w.cell? ⟨h,0,none⟩=some (.int .i64 n)):
  Calls Try.prog 77 #[.int .i64 d,.pointer (some ⟨h,0,none⟩)] w (Ans (¬(0≤d∧d<(n:Int))) (Below w.heap.size w)):=by
 have hlt:h<w.heap.size:=block_lt_of_cell hh;by_cases hok:(0≤d∧d<(n:Int))
 ·have HO:Hid ((0≤d∧d<(n:Int))):=hok;clear hok
  go_enter Try.func77,Try.ntmps77
  go_wp2_with (go_at_call 78;refine (Ans.says (numbers_int d n _) HO.out).mono ?_;rintro e w' ⟨rfl,rfl⟩)
  go_ret;exact Ans.no (fun h=>h HO.out) (Below.refl _ _)
 ·have HO:Hid (¬(0≤d∧d<(n:Int))):=hok;clear hok
  go_enter Try.func77,Try.ntmps77
  go_wp2_with (go_at_call 78;refine (Ans.denies (numbers_int d n _) HO.out).mono ?_;rintro e w' ⟨rfl,rfl⟩)
  go_ret;exact Ans.yes HO.out (Below.refl _ _)
theorem chanIndex_any (p:Option Addr) (n cap:Nat) (z:Nat→Int) (h:Nat) (P:Nat→Prop) (w:World) (hs:Sl w p (n*3) (fun j=>.int .i64 (z j))) (hb:n≤17592186044416)
  (hcl:∀i,i<n→∀wr,Below w.heap.size w wr→Calls Try.prog 74 #[.agg #[.int .i64 (z (i*3)),.int .i64 (z (i*3+1)),.int .i64 (z (i*3+2))],.pointer (some ⟨h,0,none⟩)] wr (Ans (¬P i) (Below wr.heap.size wr))):
  Calls Try.prog 73 #[.slice p n cap,.func (.func 74) #[] #[.pointer (some ⟨h,0,none⟩)]] w (Idx P n w):=by
 have HS:Hid (Sl w p (n*3) (fun j=>.int .i64 (z j))):=hs;have HC:Hid (∀i,i<n→∀wr,Below w.heap.size w wr→Calls Try.prog 74 #[.agg #[.int .i64 (z (i*3)),.int .i64 (z (i*3+1)),.int .i64 (z (i*3+2))],.pointer (some ⟨h,0,none⟩)] wr (Ans (¬P i) (Below wr.heap.size wr))):=hcl;clear hs hcl
 go_enter Try.func73,Try.ntmps73
 go_wp2_with fail
 go_loopw [8] (fun i wr=>∃k:Nat,k≤n∧i=.int .i64 k∧Hid (AllOk P k)∧Hid (Below w.heap.size w wr)) (fun i _=>n-(intOf i).toNat)
 case atStart=>exact ⟨0,Nat.zero_le _,rfl,AllOk.zero _,Below.refl _ _⟩
 case round=>
  obtain ⟨k,hk,rfl,HI,HW⟩:=hrel;by_cases hlt:k<n
  ·obtain ⟨b,off,rfl,hc⟩:=(HS.out.below HW.out).at (by omega);have c0:=hc (k*3) (by omega);have c1:=hc (k*3+1) (by omega);have c2:=hc (k*3+2) (by omega);rw [←Nat.add_assoc] at c1 c2;clear hc;by_cases hok:P k
   ·have HO:Hid (P k):=hok;clear hok;go_wp2_with (go_at_call 74;refine (Ans.denies (HC.out k hlt wr HW.out) (fun h=>h HO.out)).mono ?_;rintro e w' ⟨rfl,hbel⟩)
    refine ⟨⟨k+1,by omega,by go_num,HI.out.step HO.out,?_⟩,by simp [intOf];omega⟩;exact HW.out.trans (hbel.mono HW.out.size)
   ·have HO:Hid (¬P k):=hok;clear hok;go_wp2_with (go_at_call 74;refine (Ans.says (HC.out k hlt wr HW.out) HO.out).mono ?_;rintro e w' ⟨rfl,hbel⟩)
    go_ret;exact Idx.some ⟨hlt,HO.out,HI.out⟩ (HW.out.trans (hbel.mono HW.out.size))
  ·obtain rfl:k=n:=by omega
   go_wp2_with fail
   go_ret;exact Idx.none HI.out HW.out
theorem devIndex_any (p:Option Addr) (n cap:Nat) (z:Nat→Int) (h:Nat) (P:Nat→Prop) (w:World) (hs:Sl w p (n) (fun j=>.int .i64 (z j))) (hb:n≤17592186044416)
  (hcl:∀i,i<n→∀wr,Below w.heap.size w wr→Calls Try.prog 77 #[.int .i64 (z i),.pointer (some ⟨h,0,none⟩)] wr (Ans (¬P i) (Below wr.heap.size wr))):
  Calls Try.prog 76 #[.slice p n cap,.func (.func 77) #[] #[.pointer (some ⟨h,0,none⟩)]] w (Idx P n w):=by
 have HS:Hid (Sl w p (n) (fun j=>.int .i64 (z j))):=hs;have HC:Hid (∀i,i<n→∀wr,Below w.heap.size w wr→Calls Try.prog 77 #[.int .i64 (z i),.pointer (some ⟨h,0,none⟩)] wr (Ans (¬P i) (Below wr.heap.size wr))):=hcl;clear hs hcl
 go_enter Try.func76,Try.ntmps76
 go_wp2_with fail
 go_loopw [8] (fun i wr=>∃k:Nat,k≤n∧i=.int .i64 k∧Hid (AllOk P k)∧Hid (Below w.heap.size w wr)) (fun i _=>n-(intOf i).toNat)
 case atStart=>exact ⟨0,Nat.zero_le _,rfl,AllOk.zero _,Below.refl _ _⟩
 case round=>
  obtain ⟨k,hk,rfl,HI,HW⟩:=hrel;by_cases hlt:k<n
  ·obtain ⟨b,off,rfl,hc⟩:=(HS.out.below HW.out).at (by omega);have c0:=hc (k) (by omega);clear hc;by_cases hok:P k
   ·have HO:Hid (P k):=hok;clear hok;go_wp2_with (go_at_call 77;refine (Ans.denies (HC.out k hlt wr HW.out) (fun h=>h HO.out)).mono ?_;rintro e w' ⟨rfl,hbel⟩)
    refine ⟨⟨k+1,by omega,by go_num,HI.out.step HO.out,?_⟩,by simp [intOf];omega⟩;exact HW.out.trans (hbel.mono HW.out.size)
   ·have HO:Hid (¬P k):=hok;clear hok;go_wp2_with (go_at_call 77;refine (Ans.says (HC.out k hlt wr HW.out) HO.out).mono ?_;rintro e w' ⟨rfl,hbel⟩)
    go_ret;exact Idx.some ⟨hlt,HO.out,HI.out⟩ (HW.out.trans (hbel.mono HW.out.size))
  ·obtain rfl:k=n:=by omega
   go_wp2_with fail
   go_ret;exact Idx.none HI.out HW.out
end Go.Proofs.Ytdoghgnifkgfdaa
