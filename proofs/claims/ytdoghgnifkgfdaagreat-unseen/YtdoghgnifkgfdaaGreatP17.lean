import Derived.Test.YtdoghgnifkgfdaaGreatProg
import Derived.Maps.OwnSet
import Derived.Maps.Own
import Derived.Maps.OwnOps
import Derived.Maps.Views
import Derived.DeepKeys4
import Derived.WalkSmall
import Derived.Deep.RegionWith
import Derived.Test.YtdoghgnifkgfdaaGreatP09
import Derived.Test.YtdoghgnifkgfdaaGreatP10
set_option maxRecDepth 100000
set_option maxHeartbeats 16000000
namespace Go.Proofs.YtdoghgnifkgfdaaGreat
open Go.RowKit
theorem ZO (w:World) (t k:Nat):(w.alloc (.cells #[] t)).ownsRow w.heap.size t k (.slice (some ⟨w.heap.size,0,none⟩) 0 0) 0 []:=
 ⟨by simp,.inr ⟨w.heap.size,0,#[],rfl,Nat.le_refl _,heap_alloc_new w _,Nat.le_refl _,Nat.zero_le _,by simp,by simp⟩⟩
theorem Y0d {P:Program} (w:World) {ops:Array Oper} {rest:List Oper} {o:Oper} {a:Act} {Q:Exit→Act→World→Prop} (hgd:o.guard=none) (s x:Operand) (t:TypeId)
  (ho:o.op=.call {callee:=.builtin .append,args:=#[s,x],argTypes:=#[t,t]})
  (base:Nat) (e:TypeId) (z:Value) (size bytes:Nat) (ht:P.underlying t=some (.slice e)) (hinfo:(P.info? e).map (fun i=>(i.zero,i.size,i.bytes))=some (some z,size,bytes))
  (hzs:z.cells.size=size) (hsz:0<size) (v:Value) (n:Nat) (xs:List Value) (hs:a.eval s=v) (hown:w.ownsRow base e size v n xs)
  (b off m c:Nat) (f:Nat→Value) (hx:a.eval x=.slice (some ⟨b,off,none⟩) m c) (hc:∀j,j<m*size→w.cell? ⟨b,off+j,none⟩=some (f j)) (h1:∀j,(f j).oneCell'=true)
  (hm:0<m) (h63:n+m≤maxLen) (hbytes:(n+m)*bytes≤140737488355328) (hbase:base≤w.heap.size)
  (h:∀g cap w',w'.ownsRow base e size (.slice (some ⟨g,0,none⟩) (n+m) cap) (n+m) (xs++(List.range (m*size)).map f)→w.grownBy w' v.ownBlock→(v.ownBlock=some g∨g=w.heap.size)→g<w'.heap.size→wpList P ops Q rest (a.put o.dst (.slice (some ⟨g,0,none⟩) (n+m) cap)) w'):wpList P ops Q (o::rest) a w:=by
 obtain ⟨i,h2,h3,h4,h5⟩:=info_parts hinfo;refine wpList_append_lies w hgd s x t ho base e i z size bytes ht h2 h3 h4 h5 hzs hsz v n xs hs hown ⟨b,off,none⟩ m c ((List.range (m*size)).map f) hx (by simp) (fun j u hu=>?_) (fun u hu=>?_) hm h63 hbytes hbase _ rfl h
 ·rw [List.getElem?_map] at hu;obtain ⟨y,hy,rfl⟩:=Option.map_eq_some_iff.1 hu;have hj:j<m*size:=by
   have:=(List.getElem?_eq_some_iff.1 hy).1;simpa using this
  rw [List.getElem?_range hj] at hy;cases hy;have e1:(⟨b,off,none⟩:Addr).add j=⟨b,off+j,none⟩:=by
   unfold Addr.add;split
   ·rename_i h0;simp_all
   ·rfl
  rw [e1];exact hc j hj
 ·obtain ⟨y,_,rfl⟩:=List.mem_map.1 hu;exact h1 y
theorem Zg:(Tryz.prog.info? 111).map (fun i=>(i.zero,i.size,i.bytes))=some (some (.agg #[.int .i64 0,.int .i64 0,.int .i64 0]),3,24):=by kernel_rfl
def Jf (w:World) (t k n:Nat) (f:Nat→Value) (e:Ending) (w':World):Prop:=
 ∃v,e=.returned v∧Below w.heap.size w w'∧w'.ownsRow w.heap.size t k v n ((List.range (n*k)).map f)
theorem Y5A (p:Option Addr) (n cap:Nat) (z:Nat→Int) (w:World) (hs:Sl w p (n*3) (fun j=>.int .i64 (z j))) (hz:p=none→n=0∧cap=0) (hb:24*n≤140737488355328):
  Calls Tryz.prog 60 #[.slice p n cap] w (Jf w 111 3 n (fun j=>.int .i64 (z j))):=by
 cases p with
 |none=>
  obtain ⟨rfl,rfl⟩:=hz rfl;have heq:=fun W a n c=>Go.Lib.run_eql_slice_nil (P:=Tryz.prog) W 61 111 a n c 0 0 Tryz.underlying61
  go_enter Tryz.func60,Tryz.ntmps60
  go_wp2_with fail
  go_ret;exact ⟨_,rfl,Below.refl _ _,by simpa using World.ownsRow_nil _ _ _ _⟩
 |some ad=>
  by_cases h0:n=0
  ·subst h0;have heq:=fun W a n c=>Go.Lib.run_eql_slice_nil (P:=Tryz.prog) W 61 111 a n c 0 0 Tryz.underlying61
   go_enter Tryz.func60,Tryz.ntmps60
   go_wp2_with fail
   go_ret;exact ⟨_,rfl,(Below.refl _ _).alloc (Nat.le_refl _) _,by simpa using ZO w 111 3⟩
  ·obtain ⟨b,o,e,hc⟩:=hs.at (by omega);obtain rfl:ad=⟨b,o,none⟩:=Option.some.inj e;have heq:=fun W a n c=>Go.Lib.run_eql_slice_nil (P:=Tryz.prog) W 61 111 a n c 0 0 Tryz.underlying61;have HC:Hid (∀j,j<n*3→w.cell? ⟨b,o+j,none⟩=some (.int .i64 (z j))):=hc;have HBn:Hid (24*n≤140737488355328):=hb;have HH:Hid (b<w.heap.size):=block_lt_of_cell (hc 0 (by omega));have hn0:0<n:=by omega
   clear hc hs hz e h0 hb
   go_enter Tryz.func60,Tryz.ntmps60
   go_wp2_with (at_builtin;refine Y0d _ rfl _ _ 61 rfl w.heap.size 111 _ 3 24 Tryz.underlying61 Zg rfl (by omega) (.slice (some ⟨w.heap.size,0,none⟩) 0 0) 0 [] rfl (by exact ZO w 111 3) b o n cap (fun j=>.int .i64 (z j)) rfl (fun j hj=>by
    refine (Below.cell ((Below.refl _ w).alloc (Nat.le_refl _) _) HH.out).trans (HC.out j hj)) (fun j=>rfl) hn0 (by simp only [maxLen];have:=HBn.out;omega) (by have:=HBn.out;omega) (by simp) ?_)
   intro g cc w1 hown hg hat hlt;have HF:Hid (Jf w 111 3 n (fun j=>.int .i64 (z j)) (.returned (.slice (some ⟨g,0,none⟩) n cc)) w1):=
    ⟨_,rfl,((Below.refl _ w).alloc (Nat.le_refl _) _).grown hg (by simp) (fun j hj=>by simp [Value.ownBlock] at hj;omega),by simpa using hown⟩
   clear hown hg hat hlt;go_wp2_with fail
   go_ret;simpa using HF.out
theorem YaJ (p:Option Addr) (n cap:Nat) (z:Nat→Int) (w:World) (hs:Sl w p (n*1) (fun j=>.int .i64 (z j))) (hz:p=none→n=0∧cap=0) (hb:8*n≤140737488355328):
  Calls Tryz.prog 85 #[.slice p n cap] w (Jf w 2 1 n (fun j=>.int .i64 (z j))):=by
 cases p with
 |none=>
  obtain ⟨rfl,rfl⟩:=hz rfl;have heq:=fun W a n c=>Go.Lib.run_eql_slice_nil (P:=Tryz.prog) W 51 2 a n c 0 0 Tryz.underlying51
  go_enter Tryz.func85,Tryz.ntmps85
  go_wp2_with fail
  go_ret;exact ⟨_,rfl,Below.refl _ _,by simpa using World.ownsRow_nil _ _ _ _⟩
 |some ad=>
  by_cases h0:n=0
  ·subst h0;have heq:=fun W a n c=>Go.Lib.run_eql_slice_nil (P:=Tryz.prog) W 51 2 a n c 0 0 Tryz.underlying51
   go_enter Tryz.func85,Tryz.ntmps85
   go_wp2_with fail
   go_ret;exact ⟨_,rfl,(Below.refl _ _).alloc (Nat.le_refl _) _,by simpa using ZO w 2 1⟩
  ·obtain ⟨b,o,e,hc⟩:=hs.at (by omega);obtain rfl:ad=⟨b,o,none⟩:=Option.some.inj e;have heq:=fun W a n c=>Go.Lib.run_eql_slice_nil (P:=Tryz.prog) W 51 2 a n c 0 0 Tryz.underlying51;have HC:Hid (∀j,j<n*1→w.cell? ⟨b,o+j,none⟩=some (.int .i64 (z j))):=hc;have HBn:Hid (8*n≤140737488355328):=hb;have HH:Hid (b<w.heap.size):=block_lt_of_cell (hc 0 (by omega));have hn0:0<n:=by omega
   clear hc hs hz e h0 hb
   go_enter Tryz.func85,Tryz.ntmps85
   go_wp2_with (at_builtin;refine Y0d _ rfl _ _ 51 rfl w.heap.size 2 _ 1 8 Tryz.underlying51 ZX rfl (by omega) (.slice (some ⟨w.heap.size,0,none⟩) 0 0) 0 [] rfl (by exact ZO w 2 1) b o n cap (fun j=>.int .i64 (z j)) rfl (fun j hj=>by
    refine (Below.cell ((Below.refl _ w).alloc (Nat.le_refl _) _) HH.out).trans (HC.out j hj)) (fun j=>rfl) hn0 (by simp only [maxLen];have:=HBn.out;omega) (by have:=HBn.out;omega) (by simp) ?_)
   intro g cc w1 hown hg hat hlt;have HF:Hid (Jf w 2 1 n (fun j=>.int .i64 (z j)) (.returned (.slice (some ⟨g,0,none⟩) n cc)) w1):=
    ⟨_,rfl,((Below.refl _ w).alloc (Nat.le_refl _) _).grown hg (by simp) (fun j hj=>by simp [Value.ownBlock] at hj;omega),by simpa using hown⟩
   clear hown hg hat hlt;go_wp2_with fail
   go_ret;simpa using HF.out
theorem Ybh (p:Option Addr) (n cap:Nat) (z:Nat→Int) (w:World) (hs:Sl w p (n*4) (fun j=>.int .i64 (z j))) (hz:p=none→n=0∧cap=0) (hb:32*n≤140737488355328):
  Calls Tryz.prog 79 #[.slice p n cap] w (Jf w 97 4 n (fun j=>.int .i64 (z j))):=by
 cases p with
 |none=>
  obtain ⟨rfl,rfl⟩:=hz rfl;have heq:=fun W a n c=>Go.Lib.run_eql_slice_nil (P:=Tryz.prog) W 50 97 a n c 0 0 Tryz.underlying50
  go_enter Tryz.func79,Tryz.ntmps79
  go_wp2_with fail
  go_ret;exact ⟨_,rfl,Below.refl _ _,by simpa using World.ownsRow_nil _ _ _ _⟩
 |some ad=>
  by_cases h0:n=0
  ·subst h0;have heq:=fun W a n c=>Go.Lib.run_eql_slice_nil (P:=Tryz.prog) W 50 97 a n c 0 0 Tryz.underlying50
   go_enter Tryz.func79,Tryz.ntmps79
   go_wp2_with fail
   go_ret;exact ⟨_,rfl,(Below.refl _ _).alloc (Nat.le_refl _) _,by simpa using ZO w 97 4⟩
  ·obtain ⟨b,o,e,hc⟩:=hs.at (by omega);obtain rfl:ad=⟨b,o,none⟩:=Option.some.inj e;have heq:=fun W a n c=>Go.Lib.run_eql_slice_nil (P:=Tryz.prog) W 50 97 a n c 0 0 Tryz.underlying50;have HC:Hid (∀j,j<n*4→w.cell? ⟨b,o+j,none⟩=some (.int .i64 (z j))):=hc;have HBn:Hid (32*n≤140737488355328):=hb;have HH:Hid (b<w.heap.size):=block_lt_of_cell (hc 0 (by omega));have hn0:0<n:=by omega
   clear hc hs hz e h0 hb
   go_enter Tryz.func79,Tryz.ntmps79
   go_wp2_with (at_builtin;refine Y0d _ rfl _ _ 50 rfl w.heap.size 97 _ 4 32 Tryz.underlying50 Y1R rfl (by omega) (.slice (some ⟨w.heap.size,0,none⟩) 0 0) 0 [] rfl (by exact ZO w 97 4) b o n cap (fun j=>.int .i64 (z j)) rfl (fun j hj=>by
    refine (Below.cell ((Below.refl _ w).alloc (Nat.le_refl _) _) HH.out).trans (HC.out j hj)) (fun j=>rfl) hn0 (by simp only [maxLen];have:=HBn.out;omega) (by have:=HBn.out;omega) (by simp) ?_)
   intro g cc w1 hown hg hat hlt;have HF:Hid (Jf w 97 4 n (fun j=>.int .i64 (z j)) (.returned (.slice (some ⟨g,0,none⟩) n cc)) w1):=
    ⟨_,rfl,((Below.refl _ w).alloc (Nat.le_refl _) _).grown hg (by simp) (fun j hj=>by simp [Value.ownBlock] at hj;omega),by simpa using hown⟩
   clear hown hg hat hlt;go_wp2_with fail
   go_ret;simpa using HF.out
theorem Ybk (ad:Addr) (n cap:Nat) (z:Nat→Int) (w:World) (hs:Sl w (some ad) (n*2) (fun j=>.int .i64 (z j))) (hb:16*n≤140737488355328):
  Calls Tryz.prog 52 #[.slice (some ad) n cap] w fun e w'=>∃g cc,e=.returned (.slice (some ⟨g,0,none⟩) n cc)∧Below w.heap.size w w'∧w'.ownsRow w.heap.size 102 2 (.slice (some ⟨g,0,none⟩) n cc) n ((List.range (n*2)).map fun j=>.int .i64 (z j)):=by
 by_cases h0:n=0
 ·subst h0;have heq:=fun W a n c=>Go.Lib.run_eql_slice_nil (P:=Tryz.prog) W 100 102 a n c 0 0 Tryz.underlying100
  go_enter Tryz.func52,Tryz.ntmps52
  go_wp2_with fail
  go_ret;exact ⟨_,_,rfl,(Below.refl _ _).alloc (Nat.le_refl _) _,by simpa using ZO w 102 2⟩
 ·obtain ⟨b,o,e,hc⟩:=hs.at (by omega);obtain rfl:ad=⟨b,o,none⟩:=Option.some.inj e;have heq:=fun W a n c=>Go.Lib.run_eql_slice_nil (P:=Tryz.prog) W 100 102 a n c 0 0 Tryz.underlying100;have HC:Hid (∀j,j<n*2→w.cell? ⟨b,o+j,none⟩=some (.int .i64 (z j))):=hc;have HBn:Hid (16*n≤140737488355328):=hb;have HH:Hid (b<w.heap.size):=block_lt_of_cell (hc 0 (by omega));have hn0:0<n:=by omega
  clear hc hs e h0 hb
  go_enter Tryz.func52,Tryz.ntmps52
  go_wp2_with (at_builtin;refine Y0d _ rfl _ _ 100 rfl w.heap.size 102 _ 2 16 Tryz.underlying100 Y1U rfl (by omega) (.slice (some ⟨w.heap.size,0,none⟩) 0 0) 0 [] rfl (by exact ZO w 102 2) b o n cap (fun j=>.int .i64 (z j)) rfl (fun j hj=>by
   refine (Below.cell ((Below.refl _ w).alloc (Nat.le_refl _) _) HH.out).trans (HC.out j hj)) (fun j=>rfl) hn0 (by simp only [maxLen];have:=HBn.out;omega) (by have:=HBn.out;omega) (by simp) ?_)
  intro g cc w1 hown hg hat hlt;have HF:Hid (Below w.heap.size w w1∧w1.ownsRow w.heap.size 102 2 (.slice (some ⟨g,0,none⟩) n cc) n ((List.range (n*2)).map fun j=>.int .i64 (z j))):=⟨((Below.refl _ w).alloc (Nat.le_refl _) _).grown hg (by simp) (fun j hj=>by simp [Value.ownBlock] at hj;omega),by simpa using hown⟩;clear hown hg hat hlt;go_wp2_with fail
  go_ret;exact ⟨g,cc,by simp,HF.out.1,HF.out.2⟩
open Go.Maps
theorem laidOut:laidOutB Tryz.prog=true:=by kernel_rfl
theorem Y37:231<Tryz.prog.types.size:=of_decide_eq_true (by kernel_rfl)
theorem Y7z:Tryz.prog.keyTypeAt 3 231=true:=by kernel_rfl
theorem Zq:Keyed Tryz.prog 231:=Keyed.of_law (deep_law_laid laidOut (m:=3) (by omega) Y37 Y7z (by simp [Tryz.underlying231]))
theorem Ybp:Tryz.prog.keyType 231=true:=by kernel_rfl
theorem Y79:Tryz.prog.cellsOf 231=3:=by kernel_rfl
theorem Yaa:∃m,Tryz.prog.types.size+1=m+2:=⟨Tryz.prog.types.size-1,by have:=Y37;omega⟩
theorem Yau:Tryz.prog.cellsOf 229=1:=by kernel_rfl
theorem Y5h:Tryz.prog.cellsOf 3=1:=by kernel_rfl
theorem Y4W:Tryz.prog.cellsOf 2=1:=by kernel_rfl
theorem Y9B (a b c:Int):(Value.agg #[.int .i64 a,.int .i64 b,.int .i64 c]).cells=#[.int .i64 a,.int .i64 b,.int .i64 c]:=rfl
theorem Y0J (a b c:Int) (ha:(Lit.int .i64 a).wf=true) (hb:(Lit.int .i64 b).wf=true) (hc:(Lit.int .i64 c).wf=true):∃kl,keyOf Tryz.prog 231 (.agg #[.int .i64 a,.int .i64 b,.int .i64 c])=some kl:=by
 obtain ⟨m,hm⟩:=Yaa;unfold keyOf;rw [hm];simp [Tryz.underlying231,Tryz.underlying229,Tryz.underlying3,Tryz.underlying2,Ybp,Value.formed,Y79,Program.keyLits,Y9B,Yau,Y5h,Y4W,ha,hb,hc]
def useV (e k n:Int):Value:=.agg #[.int .i64 e,.int .i64 k,.int .i64 n]
def UKey (e k n:Int) (kl:Lit):Prop:=keyOf Tryz.prog 231 (useV e k n)=some kl
theorem Y9r {e k n e' k' n':Int} (h:useV e k n=useV e' k' n'):e=e'∧k=k'∧n=n':=by
 simp [useV] at h;exact h
theorem UKey.inj {e k n e' k' n':Int} {kl:Lit} (h:UKey e k n kl) (h':UKey e' k' n' kl):e=e'∧k=k'∧n=n':=Y9r (Zq.inj h h')
theorem UKey.fn {e k n:Int} {kl kl':Lit} (h:UKey e k n kl) (h':UKey e k n kl'):kl=kl':=Option.some.inj (h.symm.trans h')
def Xt (D:DataW Unit) (c:Cfg) (m:Nat):Prop:=
 IsMap D∧∀e kd n kl,UKey e kd n kl→
  (Maps.has D kl=true↔∃i:Nat,i<m∧n=i∧kd=c.ch (i*3)∧(e=1∨e=2))∧
  ∀i:Nat,i<m→n=i→kd=c.ch (i*3)→(e=1→D.atKey kl (.lit (.int .i64 0))=.lit (.int .i64 (c.ch (i*3+1))))∧(e=2→D.atKey kl (.lit (.int .i64 0))=.lit (.int .i64 (c.ch (i*3+2))))
theorem Xt.zero (c:Cfg):Xt (.map []) c 0:=by
 refine ⟨isMap_empty,fun e kd n kl h=>⟨?_,fun i hi=>absurd hi (by omega)⟩⟩;constructor
 ·intro h;simp [has_eq] at h
 ·rintro ⟨i,hi,_⟩;omega
theorem Xt.step {D:DataW Unit} {c:Cfg} {m:Nat} {k1 k2:Lit} (h:Xt D c m) (h1:UKey 1 (c.ch (m*3)) m k1) (h2:UKey 2 (c.ch (m*3)) m k2):
  Xt ((D.put k1 (.lit (.int .i64 (c.ch (m*3+1))))).put k2 (.lit (.int .i64 (c.ch (m*3+2))))) c (m+1):=by
 obtain ⟨hM,hD⟩:=h;have i1:WideAt.IsKeyLit k1:=Zq.key h1;have i2:WideAt.IsKeyLit k2:=Zq.key h2;have h12:k1≠k2:=by
  intro e;subst e;have:=(h1.inj h2).1;omega
 refine ⟨(hM.put _ _).put _ _,fun e kd n kl hk=>?_⟩;by_cases e2:kl=k2
 ·subst e2;obtain ⟨r1,r2,r3⟩:=hk.inj h2;subst r1 r2 r3;refine ⟨⟨fun _=>⟨m,by omega,rfl,rfl,.inr rfl⟩,fun _=>has_put_same (hM.put _ _) i2 _⟩,fun i hi hn hkd=>⟨fun h=>absurd h (by omega),fun _=>?_⟩⟩;obtain rfl:i=m:=by omega
  exact atKey_put_same (hM.put _ _) i2 _ _
 ·by_cases e1:kl=k1
  ·subst e1;obtain ⟨r1,r2,r3⟩:=hk.inj h1;subst r1 r2 r3;refine ⟨⟨fun _=>⟨m,by omega,rfl,rfl,.inl rfl⟩,fun _=>?_⟩,fun i hi hn hkd=>⟨fun _=>?_,fun h=>absurd h (by omega)⟩⟩
   ·rw [has_put_other h12];exact has_put_same hM i1 _
   ·obtain rfl:i=m:=by omega
    rw [atKey_put_other h12];exact atKey_put_same hM i1 _ _
  ·obtain ⟨g1,g2⟩:=hD e kd n kl hk;have hne:∀i:Nat,i<m+1→n=i→kd=c.ch (i*3)→(e=1∨e=2)→i<m:=by
    intro i hi hn hkd he;rcases Nat.lt_or_ge i m with hl|hl
    ·exact hl
    ·obtain rfl:i=m:=by omega
     subst hn hkd;rcases he with rfl|rfl
     ·exact absurd (hk.fn h1) e1
     ·exact absurd (hk.fn h2) e2
   rw [has_put_other e2,has_put_other e1];refine ⟨⟨fun h=>?_,fun ⟨i,hi,hn,hkd,he⟩=>g1.2 ⟨i,hne i hi hn hkd he,hn,hkd,he⟩⟩,fun i hi hn hkd=>?_⟩
   ·obtain ⟨i,hi,r⟩:=g1.1 h;exact ⟨i,by omega,r⟩
   ·rw [atKey_put_other e2,atKey_put_other e1];exact ⟨fun he=>(g2 i (hne i hi hn hkd (.inl he)) hn hkd).1 he,fun he=>(g2 i (hne i hi hn hkd (.inr he)) hn hkd).2 he⟩
def YY (w:World) (b:Nat) (c:Cfg):Prop:=∃n D,w.ownsMap Tryz.prog 231 (plainElem Tryz.prog 3) b n D∧Xt D c c.nCh
def Y5u (c:Cfg) (w:World) (e:Ending) (w':World):Prop:=∃b,e=.returned (.map (some b))∧YY w' b c∧Below w.heap.size w w'
theorem wfi {a:Int} (h0:-9223372036854775808≤a) (h1:a≤9223372036854775807):(Lit.int .i64 a).wf=true:=WalkArith.wf_i64 ⟨h0,h1⟩
theorem Y8D (c:Cfg) (p:Option Addr) (cap:Nat) (w:World) (hs:Sl w p (c.nCh*3) (fun j=>.int .i64 (c.ch j))) (h8:c.nCh≤8) (hok:Yb (ChOk c) c.nCh) (h6:c.nC≤6):
  Calls Tryz.prog 98 #[.slice p c.nCh cap] w (Y5u c w):=by
 have HS:Hid (Sl w p (c.nCh*3) (fun j=>.int .i64 (c.ch j))):=hs;have HO:Hid (Yb (ChOk c) c.nCh):=hok;clear hs hok;have hmm:=@run_makeMap Tryz.prog
 go_enter Tryz.func98,Tryz.ntmps98
 go_wp2_with fail
 go_loopw [9] (fun i wr=>∃k:Nat,k≤c.nCh∧i=.int .i64 k∧Hid (Below w.heap.size w wr)∧Hid (∃D,wr.ownsMap Tryz.prog 231 (plainElem Tryz.prog 3) w.heap.size (2*k) D∧Xt D c k)) (fun i _=>c.nCh-(intOf i).toNat)
 case atStart=>exact ⟨0,Nat.zero_le _,rfl,(Below.refl _ _).alloc (Nat.le_refl _) _,⟨_,World.ownsMap_made _ _ _ _,Xt.zero c⟩⟩
 case round=>
  obtain ⟨k,hk,rfl,HW,HM⟩:=hrel;by_cases hlt:k<c.nCh
  ·obtain ⟨b,off,rfl,hc⟩:=(HS.out.below HW.out).at (by omega);have c0:=hc (k*3) (by omega);have c1:=hc (k*3+1) (by omega);have c2:=hc (k*3+2) (by omega);have hbl:b<wr.heap.size:=block_lt_of_cell c0;have hsz:w.heap.size≤wr.heap.size:=HW.out.size;rw [←Nat.add_assoc] at c1 c2;clear hc;obtain ⟨D,hown,hD⟩:=HM.out;obtain ⟨g1,⟨g2,g3⟩,⟨g4,g5⟩,g6⟩:=HO.out k hlt;obtain ⟨k1,hk1⟩:=Y0J 1 (c.ch (k*3)) k (wfi (by omega) (by omega)) (wfi (by omega) (by omega)) (wfi (by omega) (by omega));obtain ⟨k2,hk2⟩:=Y0J 2 (c.ch (k*3)) k (wfi (by omega) (by omega)) (wfi (by omega) (by omega)) (wfi (by omega) (by omega));have HD:Hid (Xt ((D.put k1 (.lit (.int .i64 (c.ch (k*3+1))))).put k2 (.lit (.int .i64 (c.ch (k*3+2))))) c (k+1)):=hD.step hk1 hk2;have HOW:Hid (wr.ownsMap Tryz.prog 231 (plainElem Tryz.prog 3) w.heap.size (2*k) D):=hown;have HK1:Hid (keyOf Tryz.prog 231 (.agg #[.int .i64 1,.int .i64 (c.ch (k*3)),.int .i64 k])=some k1):=hk1;have HK2:Hid (keyOf Tryz.prog 231 (.agg #[.int .i64 2,.int .i64 (c.ch (k*3)),.int .i64 k])=some k2):=hk2;have W1:Hid ((Lit.int .i64 (c.ch (k*3+1))).wf=true):=wfi (by omega) (by omega);have W2:Hid ((Lit.int .i64 (c.ch (k*3+2))).wf=true):=wfi (by omega) (by omega);clear hown hD hk1 hk2 g1 g2 g3 g4 g5 g6;go_wp2_with (at_mapUpdate;refine wpList_mapUpdate_own _ rfl _ _ _ 204 rfl 231 3 Zq Tryz.underlying204 _ w.heap.size (2*k) D rfl (HOW.out.alloc _) (by unfold maxLen;omega) _ _ k1 rfl rfl HK1.out _ [] (plainElem_int Tryz.underlying3 W1.out) ?_)
   intro w1 hown1 hgrow1;have hlt1:w.heap.size<wr.heap.size:=HOW.out.lt;obtain ⟨y0,_,y2⟩:=box3 (w:=wr) (Below.refl _ (wr.alloc (.cells #[.int .i64 (c.ch (k*3)),.int .i64 (c.ch (k*3+1)),.int .i64 (c.ch (k*3+2))] 138)));have x0:=hgrow1.cell y0 (by simp;omega);have x2:=hgrow1.cell y2 (by simp;omega);have HW1:Hid (Below w.heap.size w w1):=(HW.out.alloc hsz _).grown hgrow1 (by simp;omega) (fun j hj=>by cases hj;exact Nat.le_refl _);have HOW1:Hid (w1.ownsMap Tryz.prog 231 (plainElem Tryz.prog 3) w.heap.size (2*k+1) (D.put k1 (.lit (.int .i64 (c.ch (k*3+1)))))):=hown1;clear y0 y2 hown1 hgrow1 c0 c1 c2 HOW;go_wp2_with (at_mapUpdate;refine wpList_mapUpdate_own _ rfl _ _ _ 204 rfl 231 3 Zq Tryz.underlying204 _ w.heap.size (2*k+1) (D.put k1 (.lit (.int .i64 (c.ch (k*3+1))))) rfl HOW1.out (by unfold maxLen;omega) _ _ k2 rfl rfl HK2.out _ [] (plainElem_int Tryz.underlying3 W2.out) ?_)
   intro w2 hown2 hgrow2;have HW2:Hid (Below w.heap.size w w2):=HW1.out.grown hgrow2 HW1.out.size (fun j hj=>by cases hj;exact Nat.le_refl _);have HOW2:Hid (w2.ownsMap Tryz.prog 231 (plainElem Tryz.prog 3) w.heap.size (2*(k+1)) ((D.put k1 (.lit (.int .i64 (c.ch (k*3+1))))).put k2 (.lit (.int .i64 (c.ch (k*3+2)))))):=hown2;clear hown2 hgrow2 HOW1 HW1 x0 x2;go_wp2_with fail
   exact ⟨⟨k+1,by omega,by go_num,HW2.out,⟨_,HOW2.out,HD.out⟩⟩,by simp [intOf];omega⟩
  ·obtain rfl:k=c.nCh:=by omega
   go_wp2_with fail
   go_ret;obtain ⟨D,hown,hD⟩:=HM.out;exact ⟨_,rfl,⟨_,D,hown,hD⟩,HW.out⟩
theorem Yj (a b:Int) (w:World):
  Calls Tryz.prog 97 #[.int .i64 a,.int .i64 b] w (Ans (0≤a∧a<b) (·=w)):=by
 go_enter Tryz.func97,Tryz.ntmps97
 go_wp2
 ·go_ret;exact Ans.of (b:=decide (a<b)) (by simp only [decide_eq_true_eq];omega) rfl
 ·go_ret;exact Ans.no (by omega) rfl
theorem Y0Y (a b:Int) (w:World):
  Calls Tryz.prog 132 #[.int .i64 a,.int .i64 b] w (Ans (0≤a∧a<b) (·=w)):=by
 go_enter Tryz.func132,Tryz.ntmps132
 go_wp2
 ·go_ret;exact Ans.of (b:=decide (a<b)) (by simp only [decide_eq_true_eq];omega) rfl
 ·go_ret;exact Ans.no (by omega) rfl
def Y0y (n k:Nat) (z:Nat→Int):Prop:=(∀i,i<k→J7 n z i)∧sumTo z k≤200
theorem Y0y.step {n k:Nat} {z:Nat→Int} (h:Y0y n k z) (h1:0≤z (k*2)∧z (k*2)<n) (h2:1≤z (k*2+1)) (h3:z (k*2+1)≤200-sumTo z k):Y0y n (k+1) z:=by
 refine ⟨fun i hi=>?_,by simp only [sumTo];omega⟩;rcases Nat.lt_or_ge i k with hl|hl
 ·exact h.1 i hl
 ·obtain rfl:i=k:=by omega
  exact ⟨h1.1,h1.2,h2⟩
theorem Y83 (z:Nat→Int) (k m:Nat) (hkm:k≤m) (h:∀i,i<m→1≤z (i*2+1)):sumTo z k≤sumTo z m:=by
 induction m with
 |zero=>obtain rfl:k=0:=by omega
        exact Int.le_refl _
 |succ m ih=>
  rcases Nat.lt_or_ge k (m+1) with hl|hl
  ·have h1:=ih (by omega) (fun i hi=>h i (by omega));have h2:=h m (by omega);simp only [sumTo];omega
  ·obtain rfl:k=m+1:=by omega
   exact Int.le_refl _
theorem YbJ {n m k:Nat} {z:Nat→Int} (hk:k<m) (h:¬(0≤z (k*2)∧z (k*2)<n)∨z (k*2+1)<1∨200-sumTo z k<z (k*2+1)):¬Zt n m z:=by
 intro ⟨_,h2,h3⟩;have hw:=h2 k hk;unfold J7 at hw;have:=Y83 z (k+1) m hk (fun i hi=>(h2 i hi).2.2);simp only [sumTo] at this;omega
theorem Y4A (p:Option Addr) (m cap n:Nat) (z:Nat→Int) (w:World) (hs:Sl w p (m*2) (fun j=>.int .i64 (z j))) (hb:16*m≤140737488355328):
  Calls Tryz.prog 91 #[.slice p m cap,.int .i64 n] w (Ans (Zt n m z) (Below w.heap.size w)):=by
 have hB:m≤8796093022208:=by omega
 have HS:Hid (Sl w p (m*2) (fun j=>.int .i64 (z j))):=hs;clear hs hb;by_cases h6:m≤6
 ·go_enter Tryz.func91,Tryz.ntmps91
  go_wp2_with fail
  go_loopw [5,13] (fun l i wr=>∃k:Nat,k≤m∧i=.int .i64 k∧l=.int .i64 (200-sumTo z k)∧Hid (Y0y n k z)∧Hid (Below w.heap.size w wr)) (fun _ i _=>m-(intOf i).toNat)
  case atStart=>exact ⟨0,Nat.zero_le _,rfl,rfl,⟨fun i hi=>absurd hi (by omega),by simp [sumTo]⟩,Below.refl _ _⟩
  case round=>
   obtain ⟨k,hk,rfl,rfl,HI,HW⟩:=hrel;have hs1:sumTo z k≤200:=HI.out.2;have hs0:0≤sumTo z k:=by have:=(Y27 z k (fun i hi=>(HI.out.1 i hi).2.2)).1;omega
   have hsz:w.heap.size≤wr.heap.size:=HW.out.size;by_cases hlt:k<m
   ·obtain ⟨b,off,rfl,hc⟩:=(HS.out.below HW.out).at (by omega);have c0:=hc (k*2) (by omega);have c1:=hc (k*2+1) (by omega);have hbl:b<wr.heap.size:=block_lt_of_cell c0;rw [←Nat.add_assoc] at c1;clear hc;have HT:Hid (∀_,_):=fun h=>@YbJ n m k z hlt h;have HU:Hid (∀_ _ _,_):=fun h1 h2 h3=>HI.out.step (k:=k) h1 h2 h3;have HS1:Hid (sumTo z (k+1)=sumTo z k+z (k*2+1)):=rfl;by_cases hx:0≤z (k*2)∧z (k*2)<(n:Int)
    ·have HX:Hid (0≤z (k*2)∧z (k*2)<(n:Int)):=hx;clear hx;generalize hz:z (k*2)=x at *;generalize hy:z (k*2+1)=y at *;have HZ:Hid (z (k*2)=x):=hz;have HY:Hid (z (k*2+1)=y):=hy;clear hz hy;go_wp2_with (go_at_call 97;refine (Ans.says (Yj _ _ _) HX.out).mono ?_;rintro e w' ⟨rfl,rfl⟩)
     case roundEnd=>
      refine ⟨⟨k+1,by omega,by go_num,by rw [HS1.out];go_num,?_,?_⟩,by simp [intOf];omega⟩
      ·refine HU.out HX.out ?_ ?_<;>omega
      ·exact HW.out.alloc (by omega) _
     all_goals
      go_ret;exact Ans.no (HT.out (by omega)) (HW.out.alloc (by omega) _)
    ·have HX:Hid (¬(0≤z (k*2)∧z (k*2)<(n:Int))):=hx;clear hx;generalize hz:z (k*2)=x at *;generalize hy:z (k*2+1)=y at *;go_wp2_with (go_at_call 97;refine (Ans.denies (Yj _ _ _) HX.out).mono ?_;rintro e w' ⟨rfl,rfl⟩)
     go_ret;exact Ans.no (HT.out (Or.inl HX.out)) (HW.out.alloc (by omega) _)
   ·obtain rfl:k=m:=by omega
    go_wp2_with fail
    go_ret;exact Ans.yes ⟨h6,HI.out.1,HI.out.2⟩ HW.out
 ·go_enter Tryz.func91,Tryz.ntmps91
  go_wp2_with fail
  go_ret;exact Ans.no (fun h=>h6 h.1) (Below.refl _ _)
def Idx (P:Nat→Prop) (n:Nat) (w:World) (e:Ending) (w':World):Prop:=
 ∃x:Int,e=.returned (.int .i64 x)∧((x=-1∧Yb P n)∨∃i:Nat,x=i∧Bad1 P n i)∧Below w.heap.size w w'
theorem Idx.none {P:Nat→Prop} {n:Nat} {w w':World} (h:Yb P n) (hb:Below w.heap.size w w'):Idx P n w (.returned (.int .i64 (-1))) w':=⟨-1,rfl,.inl ⟨rfl,h⟩,hb⟩
theorem Idx.some {P:Nat→Prop} {n i:Nat} {w w':World} (h:Bad1 P n i) (hb:Below w.heap.size w w'):Idx P n w (.returned (.int .i64 i)) w':=⟨i,rfl,.inr ⟨i,rfl,h⟩,hb⟩
theorem Y9Y (p:Option Addr) (m cap n h:Nat) (z:Nat→Int) (w:World) (hh:w.cell? ⟨h,0,none⟩=some (.int .i64 n)) (hs:Sl w p (m*2) (fun j=>.int .i64 (z j))) (hb:16*m≤140737488355328):
  Calls Tryz.prog 90 #[.slice p m cap,.pointer (some ⟨h,0,none⟩)] w (Ans (¬Zt n m z) (Below w.heap.size w)):=by
 have HS:Hid (Sl w p (m*2) (fun j=>.int .i64 (z j))):=hs;have HN:Hid (16*m≤140737488355328):=hb;clear hs hb;by_cases hok:Zt n m z
 ·have HO:Hid (Zt n m z):=hok;clear hok
  go_enter Tryz.func90,Tryz.ntmps90
  go_wp2_with (go_at_call 91;refine (Ans.says (Y4A p m cap n z _ HS.out HN.out) HO.out).mono ?_;rintro e w' ⟨rfl,hbel⟩)
  go_ret;exact Ans.no (fun h=>h HO.out) hbel
 ·have HO:Hid (¬Zt n m z):=hok;clear hok
  go_enter Tryz.func90,Tryz.ntmps90
  go_wp2_with (go_at_call 91;refine (Ans.denies (Y4A p m cap n z _ HS.out HN.out) HO.out).mono ?_;rintro e w' ⟨rfl,hbel⟩)
  go_ret;exact Ans.yes HO.out hbel
theorem Y6h (p:Option Addr) (n cap:Nat) (F:Nat→Value) (h:Nat) (P:Nat→Prop) (w:World) (hs:Sl w p n F) (hb:n≤8796093022208)
  (hcl:∀i,i<n→∀wr,Below w.heap.size w wr→Calls Tryz.prog 90 #[F i,.pointer (some ⟨h,0,none⟩)] wr (Ans (¬P i) (Below wr.heap.size wr))):
  Calls Tryz.prog 89 #[.slice p n cap,.func (.func 90) #[] #[.pointer (some ⟨h,0,none⟩)]] w (Idx P n w):=by
 have HS:Hid (Sl w p n F):=hs;have HC:Hid (∀i,i<n→∀wr,Below w.heap.size w wr→Calls Tryz.prog 90 #[F i,.pointer (some ⟨h,0,none⟩)] wr (Ans (¬P i) (Below wr.heap.size wr))):=hcl;clear hs hcl
 go_enter Tryz.func89,Tryz.ntmps89
 go_wp2_with fail
 go_loopw [8] (fun i wr=>∃k:Nat,k≤n∧i=.int .i64 k∧Hid (Yb P k)∧Hid (Below w.heap.size w wr)) (fun i _=>n-(intOf i).toNat)
 case atStart=>exact ⟨0,Nat.zero_le _,rfl,Yb.zero _,Below.refl _ _⟩
 case round=>
  obtain ⟨k,hk,rfl,HI,HW⟩:=hrel;by_cases hlt:k<n
  ·obtain ⟨b,off,rfl,hc⟩:=(HS.out.below HW.out).at (by omega);have c0:=hc k (by omega);clear hc;by_cases hok:P k
   ·have HO:Hid (P k):=hok;clear hok;go_wp2_with (go_at_call 90;refine (Ans.denies (HC.out k hlt wr HW.out) (fun h=>h HO.out)).mono ?_;rintro e w' ⟨rfl,hbel⟩)
    refine ⟨⟨k+1,by omega,by go_num,HI.out.step HO.out,?_⟩,by simp [intOf];omega⟩;exact HW.out.trans (hbel.mono HW.out.size)
   ·have HO:Hid (¬P k):=hok;clear hok;go_wp2_with (go_at_call 90;refine (Ans.says (HC.out k hlt wr HW.out) HO.out).mono ?_;rintro e w' ⟨rfl,hbel⟩)
    go_ret;exact Idx.some ⟨hlt,HO.out,HI.out⟩ (HW.out.trans (hbel.mono HW.out.size))
  ·obtain rfl:k=n:=by omega
   go_wp2_with fail
   go_ret;exact Idx.none HI.out HW.out
def ChV (n:Nat) (k f t:Int):Prop:=(k=1∨k=2)∧(0≤f∧f<n)∧(0≤t∧t<n)∧f≠t
theorem Y39 (k f t:Int) (n:Nat) (w:World):
  Calls Tryz.prog 94 #[.agg #[.int .i64 k,.int .i64 f,.int .i64 t],.int .i64 n] w (Ans (ChV n k f t) (Below w.heap.size w)):=by
 have HB:Hid (∀o,Below w.heap.size w (w.alloc o)):=fun o=>(Below.refl _ _).alloc (Nat.le_refl _) _;by_cases hk:k=1∨k=2
 ·have hk':(k != 1)=false∨((k != 1)=true∧(k != 2)=false):=by
   rcases hk with h|h
   ·exact .inl (by simpa using h)
   ·exact .inr ⟨by subst h;rfl,by simpa using h⟩
  have HK:Hid (k=1∨k=2):=hk;clear hk;by_cases hf:0≤f∧f<(n:Int)
  ·have HF:Hid (0≤f∧f<(n:Int)):=hf;clear hf;by_cases ht:0≤t∧t<(n:Int)
   ·have HT:Hid (0≤t∧t<(n:Int)):=ht;clear ht;rcases hk' with h1|⟨h1,h2⟩
    all_goals
     go_enter Tryz.func94,Tryz.ntmps94
     go_wp2_with (first|(go_at_call_of 97 (f);refine (Ans.says (Yj f _ _) HF.out).mono ?_;rintro e w' ⟨rfl,rfl⟩)|(go_at_call_of 97 (t);refine (Ans.says (Yj t _ _) HT.out).mono ?_;rintro e w' ⟨rfl,rfl⟩))
     go_ret;refine Ans.of (b:=(f != t)) ?_ (HB.out _);simp only [bne_iff_ne,ne_eq,ChV];exact ⟨fun h=>⟨HK.out,HF.out,HT.out,h⟩,fun h=>h.2.2.2⟩
   ·have HT:Hid (¬(0≤t∧t<(n:Int))):=ht;clear ht;rcases hk' with h1|⟨h1,h2⟩
    all_goals
     go_enter Tryz.func94,Tryz.ntmps94
     go_wp2_with (first|(go_at_call_of 97 (f);refine (Ans.says (Yj f _ _) HF.out).mono ?_;rintro e w' ⟨rfl,rfl⟩)|(go_at_call_of 97 (t);refine (Ans.denies (Yj t _ _) HT.out).mono ?_;rintro e w' ⟨rfl,rfl⟩))
     go_ret;exact Ans.no (fun h=>HT.out h.2.2.1) (HB.out _)
  ·have HF:Hid (¬(0≤f∧f<(n:Int))):=hf;clear hf;rcases hk' with h1|⟨h1,h2⟩
   all_goals
    go_enter Tryz.func94,Tryz.ntmps94
    go_wp2_with (go_at_call 97;refine (Ans.denies (Yj f _ _) HF.out).mono ?_;rintro e w' ⟨rfl,rfl⟩)
    go_ret;exact Ans.no (fun h=>HF.out h.2.1) (HB.out _)
 ·have h1:(k != 1)=true:=by simp;omega
  have h2:(k != 2)=true:=by simp;omega
  have HK:Hid (¬(k=1∨k=2)):=hk;clear hk
  go_enter Tryz.func94,Tryz.ntmps94
  go_wp2_with fail
  go_ret;exact Ans.no (fun h=>HK.out h.1) (HB.out _)
theorem Y7n (k f t:Int) (n h:Nat) (w:World) (hh:w.cell? ⟨h,0,none⟩=some (.int .i64 n)):
  Calls Tryz.prog 93 #[.agg #[.int .i64 k,.int .i64 f,.int .i64 t],.pointer (some ⟨h,0,none⟩)] w (Ans (¬ChV n k f t) (Below w.heap.size w)):=by
 have hlt:h<w.heap.size:=block_lt_of_cell hh;by_cases hok:ChV n k f t
 ·have HO:Hid (ChV n k f t):=hok;clear hok
  go_enter Tryz.func93,Tryz.ntmps93
  go_wp2_with (go_at_call 94;refine (Ans.says (Y39 k f t n _) HO.out).mono ?_;rintro e w' ⟨rfl,hbel⟩)
  go_ret;exact Ans.no (fun h=>h HO.out) (Xh hbel)
 ·have HO:Hid (¬ChV n k f t):=hok;clear hok
  go_enter Tryz.func93,Tryz.ntmps93
  go_wp2_with (go_at_call 94;refine (Ans.denies (Y39 k f t n _) HO.out).mono ?_;rintro e w' ⟨rfl,hbel⟩)
  go_ret;exact Ans.yes HO.out (Xh hbel)
theorem Y9s (d:Int) (n h:Nat) (w:World) (hh:w.cell? ⟨h,0,none⟩=some (.int .i64 n)):
  Calls Tryz.prog 96 #[.int .i64 d,.pointer (some ⟨h,0,none⟩)] w (Ans (¬(0≤d∧d<(n:Int))) (Below w.heap.size w)):=by
 have hlt:h<w.heap.size:=block_lt_of_cell hh;by_cases hok:(0≤d∧d<(n:Int))
 ·have HO:Hid ((0≤d∧d<(n:Int))):=hok;clear hok
  go_enter Tryz.func96,Tryz.ntmps96
  go_wp2_with (go_at_call 97;refine (Ans.says (Yj d n _) HO.out).mono ?_;rintro e w' ⟨rfl,rfl⟩)
  go_ret;exact Ans.no (fun h=>h HO.out) (Below.refl _ _)
 ·have HO:Hid (¬(0≤d∧d<(n:Int))):=hok;clear hok
  go_enter Tryz.func96,Tryz.ntmps96
  go_wp2_with (go_at_call 97;refine (Ans.denies (Yj d n _) HO.out).mono ?_;rintro e w' ⟨rfl,rfl⟩)
  go_ret;exact Ans.yes HO.out (Below.refl _ _)
theorem Y8w (p:Option Addr) (n cap:Nat) (z:Nat→Int) (h:Nat) (P:Nat→Prop) (w:World) (hs:Sl w p (n*3) (fun j=>.int .i64 (z j))) (hb:n≤17592186044416)
  (hcl:∀i,i<n→∀wr,Below w.heap.size w wr→Calls Tryz.prog 93 #[.agg #[.int .i64 (z (i*3)),.int .i64 (z (i*3+1)),.int .i64 (z (i*3+2))],.pointer (some ⟨h,0,none⟩)] wr (Ans (¬P i) (Below wr.heap.size wr))):
  Calls Tryz.prog 92 #[.slice p n cap,.func (.func 93) #[] #[.pointer (some ⟨h,0,none⟩)]] w (Idx P n w):=by
 have HS:Hid (Sl w p (n*3) (fun j=>.int .i64 (z j))):=hs;have HC:Hid (∀i,i<n→∀wr,Below w.heap.size w wr→Calls Tryz.prog 93 #[.agg #[.int .i64 (z (i*3)),.int .i64 (z (i*3+1)),.int .i64 (z (i*3+2))],.pointer (some ⟨h,0,none⟩)] wr (Ans (¬P i) (Below wr.heap.size wr))):=hcl;clear hs hcl
 go_enter Tryz.func92,Tryz.ntmps92
 go_wp2_with fail
 go_loopw [8] (fun i wr=>∃k:Nat,k≤n∧i=.int .i64 k∧Hid (Yb P k)∧Hid (Below w.heap.size w wr)) (fun i _=>n-(intOf i).toNat)
 case atStart=>exact ⟨0,Nat.zero_le _,rfl,Yb.zero _,Below.refl _ _⟩
 case round=>
  obtain ⟨k,hk,rfl,HI,HW⟩:=hrel;by_cases hlt:k<n
  ·obtain ⟨b,off,rfl,hc⟩:=(HS.out.below HW.out).at (by omega);have c0:=hc (k*3) (by omega);have c1:=hc (k*3+1) (by omega);have c2:=hc (k*3+2) (by omega);rw [←Nat.add_assoc] at c1 c2;clear hc;by_cases hok:P k
   ·have HO:Hid (P k):=hok;clear hok;go_wp2_with (go_at_call 93;refine (Ans.denies (HC.out k hlt wr HW.out) (fun h=>h HO.out)).mono ?_;rintro e w' ⟨rfl,hbel⟩)
    refine ⟨⟨k+1,by omega,by go_num,HI.out.step HO.out,?_⟩,by simp [intOf];omega⟩;exact HW.out.trans (hbel.mono HW.out.size)
   ·have HO:Hid (¬P k):=hok;clear hok;go_wp2_with (go_at_call 93;refine (Ans.says (HC.out k hlt wr HW.out) HO.out).mono ?_;rintro e w' ⟨rfl,hbel⟩)
    go_ret;exact Idx.some ⟨hlt,HO.out,HI.out⟩ (HW.out.trans (hbel.mono HW.out.size))
  ·obtain rfl:k=n:=by omega
   go_wp2_with fail
   go_ret;exact Idx.none HI.out HW.out
theorem Y8F (p:Option Addr) (n cap:Nat) (z:Nat→Int) (h:Nat) (P:Nat→Prop) (w:World) (hs:Sl w p (n) (fun j=>.int .i64 (z j))) (hb:n≤17592186044416)
  (hcl:∀i,i<n→∀wr,Below w.heap.size w wr→Calls Tryz.prog 96 #[.int .i64 (z i),.pointer (some ⟨h,0,none⟩)] wr (Ans (¬P i) (Below wr.heap.size wr))):
  Calls Tryz.prog 95 #[.slice p n cap,.func (.func 96) #[] #[.pointer (some ⟨h,0,none⟩)]] w (Idx P n w):=by
 have HS:Hid (Sl w p (n) (fun j=>.int .i64 (z j))):=hs;have HC:Hid (∀i,i<n→∀wr,Below w.heap.size w wr→Calls Tryz.prog 96 #[.int .i64 (z i),.pointer (some ⟨h,0,none⟩)] wr (Ans (¬P i) (Below wr.heap.size wr))):=hcl;clear hs hcl
 go_enter Tryz.func95,Tryz.ntmps95
 go_wp2_with fail
 go_loopw [8] (fun i wr=>∃k:Nat,k≤n∧i=.int .i64 k∧Hid (Yb P k)∧Hid (Below w.heap.size w wr)) (fun i _=>n-(intOf i).toNat)
 case atStart=>exact ⟨0,Nat.zero_le _,rfl,Yb.zero _,Below.refl _ _⟩
 case round=>
  obtain ⟨k,hk,rfl,HI,HW⟩:=hrel;by_cases hlt:k<n
  ·obtain ⟨b,off,rfl,hc⟩:=(HS.out.below HW.out).at (by omega);have c0:=hc (k) (by omega);clear hc;by_cases hok:P k
   ·have HO:Hid (P k):=hok;clear hok;go_wp2_with (go_at_call 96;refine (Ans.denies (HC.out k hlt wr HW.out) (fun h=>h HO.out)).mono ?_;rintro e w' ⟨rfl,hbel⟩)
    refine ⟨⟨k+1,by omega,by go_num,HI.out.step HO.out,?_⟩,by simp [intOf];omega⟩;exact HW.out.trans (hbel.mono HW.out.size)
   ·have HO:Hid (¬P k):=hok;clear hok;go_wp2_with (go_at_call 96;refine (Ans.says (HC.out k hlt wr HW.out) HO.out).mono ?_;rintro e w' ⟨rfl,hbel⟩)
    go_ret;exact Idx.some ⟨hlt,HO.out,HI.out⟩ (HW.out.trans (hbel.mono HW.out.size))
  ·obtain rfl:k=n:=by omega
   go_wp2_with fail
   go_ret;exact Idx.none HI.out HW.out
end Go.Proofs.YtdoghgnifkgfdaaGreat
