import Derived.Deep.RegionHeld3
import Derived.Test.YtdoghgnifkgfdaaP07
import Derived.Test.YtdoghgnifkgfdaaP37
set_option maxRecDepth 100000
set_option maxHeartbeats 16000000
namespace Go.Proofs.Ytdoghgnifkgfdaa.Mute
open Go Go.Conc Go.RowKit
def evs (E:List (Int×Int×Int)):List Value:=E.flatMap fun e=>[.int .i64 e.1,.int .i64 e.2.1,.int .i64 e.2.2]
def evT (e:Int×Int×Int):Value:=.agg #[.int .i64 e.1,.int .i64 e.2.1,.int .i64 e.2.2]
theorem evs_append (E F:List (Int×Int×Int)):evs (E++F)=evs E++evs F:=by simp [evs]
theorem evs_of (E:List (Int×Int×Int)):(E.map evT).flatMap evCells=evs E:=by
 induction E with
 |nil=>rfl
 |cons e E ih=>
  rw [List.map_cons,List.flatMap_cons,ih];rfl
theorem evs_at:∀(E:List (Int×Int×Int)) (j:Nat),j<E.length*3→(evs E)[j]?=some (.int .i64 (if j % 3=0 then (E.getD (j / 3) (0,0,0)).1 else if j % 3=1 then (E.getD (j / 3) (0,0,0)).2.1 else (E.getD (j / 3) (0,0,0)).2.2))
 | [],j,h=>absurd h (by simp)
 |e::E,j,h=>by
  have hc:evs (e::E)=.int .i64 e.1::.int .i64 e.2.1::.int .i64 e.2.2::evs E:=rfl;rw [hc]
  match j,h with
  |0,_=>rfl
  |1,_=>rfl
  |2,_=>rfl
  |j+3,h=>
   have h':j<E.length*3:=by simp at h;omega
   have:=evs_at E j h';have e1:(j+3) % 3=j % 3:=by omega
   have e2:(j+3) / 3=j / 3+1:=by omega
   rw [e1,e2];simpa using this
theorem evs_len (E:List (Int×Int×Int)):(evs E).length=E.length*3:=by
 induction E with
 |nil=>rfl
 |cons e E ih=>simp [evs] at ih ⊢;omega
theorem evs_range (E:List (Int×Int×Int)):evs E=(List.range (E.length*3)).map fun j=>.int .i64 (if j % 3=0 then (E.getD (j / 3) (0,0,0)).1 else if j % 3=1 then (E.getD (j / 3) (0,0,0)).2.1 else (E.getD (j / 3) (0,0,0)).2.2):=by
 apply List.ext_getElem?;intro j;by_cases h:j<E.length*3
 ·rw [evs_at E j h];simp [h]
 ·rw [List.getElem?_eq_none (by rw [evs_len];omega),List.getElem?_eq_none (by simp;omega)]
def saids (E:List (Int×Int×Int)):List Int:=E.filterMap fun e=>if e.1=1 then some e.2.1 else none
theorem saids_append (E F:List (Int×Int×Int)):saids (E++F)=saids E++saids F:=by simp [saids]
def TrIs (xs:List Value) (m:Nat) (i:Nat) (L:List Int):Prop:=∃E,xs=evs E∧m=E.length∧E.length≤3*i∧saids E=L
theorem TrIs.add {xs:List Value} {m i:Nat} {L L':List Int} (h:TrIs xs m i L) {vs:List Value} (F:List (Int×Int×Int)) (hv:vs=F.map evT) (hF:F.length≤3) (hs:saids F=L'):TrIs (xs++vs.flatMap evCells) (m+vs.length) (i+1) (L++L'):=by
 obtain ⟨E,rfl,rfl,h3,h4⟩:=h;refine ⟨E++F,?_,?_,?_,?_⟩
 ·rw [hv,evs_of,evs_append]
 ·rw [hv];simp
 ·simp;omega
 ·rw [saids_append,h4,hs]
def saidA (r x:Nat):Nat→List Int
 |0=>[]
 |i+1=>saidA r x i++(if i<r*(x+1) then [((i % r:Nat):Int)+1] else [])
def waitA (r x:Nat):Nat→List Int
 |0=>[]
 |i+1=>if i<r*(x+1)∧i % r+1≠r then [((i % r:Nat):Int)+1] else []
theorem waitA_succ (r x i:Nat):waitA r x (i+1)=if i<r*(x+1)∧i % r+1≠r then [((i % r:Nat):Int)+1] else []:=rfl
def heardA (r x:Nat):Nat→List Int
 |0=>[]
 |i+1=>heardA r x i++(if waitA r x i=[] then [0,0] else [(waitA r x i).headD 0,1])
structure SA (r x i:Nat) (s:KSq):Prop where
 z45:s.z 0 45=if i % r=0∨r*(x+1)≤i then 0 else 11
 z29:s.z 0 29=if r*(x+1)≤i then 0 else ((i % r:Nat):Int)
 z47:s.z 0 47=if r*(x+1)≤i then (x:Int)+1 else ((i / r:Nat):Int)
 z3:s.z 0 3=x
 z24:s.z 0 24=0
 z8:s.z 0 8=0
 y45:s.z 1 45=if i=0 then 0 else 4
 y47:s.z 1 47=0
 y3:s.z 1 3=0
 y24:s.z 1 24=0
 y8:s.z 1 8=0
 sent:(s.D 0).sent=[]
 wait:(s.D 0).wait=waitA r x i
 e0:TrIs (s.xs 0) (s.m 0) i (saidA r x i)
 e1:TrIs (s.xs 1) (s.m 1) i (heardA r x i)
 mO:∀j,2≤j→s.m j=0
theorem sa0 (r x:Nat) (hr:1≤r):SA r x 0 (sq0 (anewC r x)):=by
 have h0:¬r*(x+1)≤0:=by
  have:0<r*(x+1):=Nat.mul_pos hr (by omega);omega
 exact ⟨by simp;rfl,by rw [if_neg h0];simp;rfl,by rw [if_neg h0];simp;rfl,rfl,rfl,rfl,rfl,rfl,rfl,rfl,rfl,rfl,rfl,⟨[],rfl,rfl,by simp,rfl⟩,⟨[],rfl,rfl,by simp,rfl⟩,fun _ _=>rfl⟩
structure Win0 (r x i:Nat) (z:Nat→Int) (C:Nat→Chn) (W:List Value×(Nat→Int)×(Nat→Chn)):Prop where
 ev:∃F:List (Int×Int×Int),W.1=F.map evT∧F.length≤3∧saids F=if i<r*(x+1) then [((i % r:Nat):Int)+1] else []
 z45:W.2.1 45=if (i+1) % r=0∨r*(x+1)≤i+1 then 0 else 11
 z29:W.2.1 29=if r*(x+1)≤i+1 then 0 else (((i+1) % r:Nat):Int)
 z47:W.2.1 47=if r*(x+1)≤i+1 then (x:Int)+1 else (((i+1) / r:Nat):Int)
 z3:W.2.1 3=x
 z24:W.2.1 24=0
 z8:W.2.1 8=0
 wait:(W.2.2 0).wait=(C 0).wait
 sent:(W.2.2 0).sent=waitA r x (i+1)
section
variable {r x i c:Nat} {z:Nat→Int} {C:Nat→Chn}
theorem win0_stop (hi:r*(x+1)≤i) (h45:z 45=0) (h29:z 29=0) (h47:z 47=(x:Int)+1) (h3:z 3=x) (h24:z 24=0) (h8:z 8=0) (hs:(C 0).sent=[]):Win0 r x i z C (windowQ (prgC (anewC r x) [] 0) 50 z C):=by
 have hg:goQ (prgC (anewC r x) [] 0) 50 z C=([],4,z,C):=by unfold goQ;rw [if_pos (by omega)]
 unfold windowQ;rw [hg];exact ⟨⟨[(3,IntKind.i64.wrap (z 46-z 46),4)],rfl,by simp,by rw [if_neg (by omega)];rfl⟩,by rw [if_pos (.inr (by omega))];exact h45,by rw [if_pos (by omega)];exact h29,by rw [if_pos (by omega)];exact h47,h3,h24,h8,rfl,by
  show (C 0).sent=waitA r x (i+1);rw [hs,waitA_succ,if_neg (by omega)]⟩
theorem win0_on (hi:i<r*(x+1)) (_hx:x≤5) (hr:1≤r∧r≤6) (hc:i % r=c) (hne:c+1≠r) (h47:z 47=((i / r:Nat):Int)) (h3:z 3=x) (hs:(C 0).sent=[]) (h:Run0 c x z C (runQ (prgC (anewC r x) [] 0) 50 z C)):Win0 r x i z C (windowQ (prgC (anewC r x) [] 0) 50 z C):=by
 have hd:i / r≤x:=by
  have:=Nat.div_lt_of_lt_mul hi;omega
 have hg:goQ (prgC (anewC r x) [] 0) 50 z C=runQ (prgC (anewC r x) [] 0) 50 z C:=by unfold goQ;rw [if_neg (by omega)]
 have hdm:=Nat.div_add_mod i r;have hmod:(i+1) % r=c+1:=by
  have hlt:c+1<r:=by have:=Nat.mod_lt i (show 0<r by omega);omega
  have:i+1=r*(i / r)+(c+1):=by omega
  rw [this,Nat.mul_add_mod,Nat.mod_eq_of_lt hlt]
 have hdiv:(i+1) / r=i / r:=by
  have hlt:c+1<r:=by have:=Nat.mod_lt i (show 0<r by omega);omega
  have:i+1=r*(i / r)+(c+1):=by omega
  rw [this,Nat.mul_add_div (by omega),Nat.div_eq_of_lt hlt,Nat.add_zero]
 have hle:¬r*(x+1)≤i+1:=by
  intro h;have:i+1=r*(x+1):=by omega
  have h0:(i+1) % r=0:=by rw [this];simp
  omega
 unfold windowQ;rw [hg];refine ⟨⟨[(1,(c:Int)+1,0),(3,IntKind.i64.wrap ((runQ (prgC (anewC r x) [] 0) 50 z C).2.2.1 46-z 46),1)],?_,by simp,?_⟩,?_,?_,?_,h.z3.trans h3,h.z24,h.z8,h.wait,?_⟩
 ·rw [h.ev,h.why];rfl
 ·rw [if_pos hi,hc];rfl
 ·rw [if_neg (by omega)];exact h.z45
 ·rw [if_neg hle,hmod];exact h.z29.trans (by simp)
 ·rw [if_neg hle,hdiv];exact h.z47.trans h47
 ·rw [h.sent,hs,waitA_succ,if_pos ⟨hi,by omega⟩,hc];rfl
theorem win0_broke (hi:i<r*(x+1)) (hx:x≤5) (hr:1≤r∧r≤6) (hc:i % r=c) (he:c+1=r) (h47:z 47=((i / r:Nat):Int)) (h3:z 3=x) (h:Run0b c x z C (runQ (prgC (anewC r x) [] 0) 50 z C)):Win0 r x i z C (windowQ (prgC (anewC r x) [] 0) 50 z C):=by
 have hd:i / r≤x:=by
  have:=Nat.div_lt_of_lt_mul hi;omega
 have hg:goQ (prgC (anewC r x) [] 0) 50 z C=runQ (prgC (anewC r x) [] 0) 50 z C:=by unfold goQ;rw [if_neg (by omega)]
 have hdm:=Nat.div_add_mod i r;have hi1:i+1=r*(i / r+1):=by rw [Nat.mul_add];omega
 have hmod:(i+1) % r=0:=by rw [hi1];simp
 have hdiv:(i+1) / r=i / r+1:=by rw [hi1];exact Nat.mul_div_cancel_left _ (by omega)
 have hwr:IntKind.i64.wrap (z 47+1)=((i / r:Nat):Int)+1:=by
  have q1:((i / r:Nat):Int)≤5:=by omega
  have q2:0≤((i / r:Nat):Int):=Int.natCast_nonneg _;rw [h47,IntKind.wrap_i64];generalize ((i / r:Nat):Int)=q at *;omega
 unfold windowQ;rw [hg];refine ⟨⟨[(1,(c:Int)+1,0),(2,1,((i / r:Nat):Int)+1),(3,IntKind.i64.wrap ((runQ (prgC (anewC r x) [] 0) 50 z C).2.2.1 46-z 46),3)],?_,by simp,?_⟩,?_,?_,?_,h.z3.trans h3,h.z24,h.z8,h.wait,?_⟩
 ·rw [h.ev,h.why,hwr];rfl
 ·rw [if_pos hi,hc];rfl
 ·rw [if_pos (.inl hmod)];exact h.z45
 ·rw [hmod];refine h.z29.trans ?_;split<;>rfl
 ·refine h.z47.trans (hwr.trans ?_);by_cases hl:r*(x+1)≤i+1
  ·rw [if_pos hl];have e:r*(i / r+1)=r*(x+1):=by rw [←hi1];omega
   have:=Nat.eq_of_mul_eq_mul_left (show 0<r by omega) e;omega
  ·rw [if_neg hl,hdiv];simp
 ·rw [h.sent,waitA_succ,if_neg (by omega)]
end
theorem run0_any {r c x:Nat} (hr:1≤r∧r≤6) (hc:c<r) (z:Nat→Int) (C:Nat→Chn):(c+1≠r→Run0 c x (zK z (if c=0 then 0 else 11) c) C (runQ (prgC (anewC r x) [] 0) 50 (zK z (if c=0 then 0 else 11) c) C))∧(c+1=r→Run0b c x (zK z (if c=0 then 0 else 11) c) C (runQ (prgC (anewC r x) [] 0) 50 (zK z (if c=0 then 0 else 11) c) C)):=by
 have h6:r=1∨r=2∨r=3∨r=4∨r=5∨r=6:=by omega
 rcases h6 with rfl|rfl|rfl|rfl|rfl|rfl
 ·obtain rfl:c=0:=by omega
  exact ⟨fun h=>absurd rfl h,fun _=>run0_1_0 x z C⟩
 ·have:c=0∨c=1:=by omega
  rcases this with rfl|rfl
  ·exact ⟨fun _=>run0_2_0 x z C,fun h=>absurd h (by omega)⟩
  ·exact ⟨fun h=>absurd rfl h,fun _=>run0_2_1 x z C⟩
 ·have:c=0∨c=1∨c=2:=by omega
  rcases this with rfl|rfl|rfl
  ·exact ⟨fun _=>run0_3_0 x z C,fun h=>absurd h (by omega)⟩
  ·exact ⟨fun _=>run0_3_1 x z C,fun h=>absurd h (by omega)⟩
  ·exact ⟨fun h=>absurd rfl h,fun _=>run0_3_2 x z C⟩
 ·have:c=0∨c=1∨c=2∨c=3:=by omega
  rcases this with rfl|rfl|rfl|rfl
  ·exact ⟨fun _=>run0_4_0 x z C,fun h=>absurd h (by omega)⟩
  ·exact ⟨fun _=>run0_4_1 x z C,fun h=>absurd h (by omega)⟩
  ·exact ⟨fun _=>run0_4_2 x z C,fun h=>absurd h (by omega)⟩
  ·exact ⟨fun h=>absurd rfl h,fun _=>run0_4_3 x z C⟩
 ·have:c=0∨c=1∨c=2∨c=3∨c=4:=by omega
  rcases this with rfl|rfl|rfl|rfl|rfl
  ·exact ⟨fun _=>run0_5_0 x z C,fun h=>absurd h (by omega)⟩
  ·exact ⟨fun _=>run0_5_1 x z C,fun h=>absurd h (by omega)⟩
  ·exact ⟨fun _=>run0_5_2 x z C,fun h=>absurd h (by omega)⟩
  ·exact ⟨fun _=>run0_5_3 x z C,fun h=>absurd h (by omega)⟩
  ·exact ⟨fun h=>absurd rfl h,fun _=>run0_5_4 x z C⟩
 ·have:c=0∨c=1∨c=2∨c=3∨c=4∨c=5:=by omega
  rcases this with rfl|rfl|rfl|rfl|rfl|rfl
  ·exact ⟨fun _=>run0_6_0 x z C,fun h=>absurd h (by omega)⟩
  ·exact ⟨fun _=>run0_6_1 x z C,fun h=>absurd h (by omega)⟩
  ·exact ⟨fun _=>run0_6_2 x z C,fun h=>absurd h (by omega)⟩
  ·exact ⟨fun _=>run0_6_3 x z C,fun h=>absurd h (by omega)⟩
  ·exact ⟨fun _=>run0_6_4 x z C,fun h=>absurd h (by omega)⟩
  ·exact ⟨fun h=>absurd rfl h,fun _=>run0_6_5 x z C⟩
theorem SA.win0 {r x i:Nat} {s:KSq} (h:SA r x i s) (hr:1≤r∧r≤6) (hx:x≤5):Win0 r x i (s.z 0) s.D (windowQ (prgC (anewC r x) [] 0) 50 (s.z 0) s.D):=by
 by_cases hi:r*(x+1)≤i
 ·refine win0_stop hi ?_ ?_ ?_ h.z3 h.z24 h.z8 h.sent
  ·rw [h.z45,if_pos (.inr hi)]
  ·rw [h.z29,if_pos hi]
  ·rw [h.z47,if_pos hi]
 ·have h45:s.z 0 45=if i % r=0 then 0 else 11:=by
   rw [h.z45];by_cases e:i % r=0
   ·rw [if_pos (.inl e),if_pos e]
   ·rw [if_neg (by omega),if_neg e]
  have h29:s.z 0 29=((i % r:Nat):Int):=by rw [h.z29,if_neg hi]
  have h47:s.z 0 47=((i / r:Nat):Int):=by rw [h.z47,if_neg hi]
  have hc:i % r<r:=Nat.mod_lt i (by omega);have ez:=zK_eq h45 h29 h.z24 h.z8;obtain ⟨a,b⟩:=run0_any (x:=x) hr hc (s.z 0) s.D;by_cases e:i % r+1=r
  ·have b:=b e;rw [←ez] at b;exact win0_broke (by omega) hx hr rfl e h47 h.z3 b
  ·have a:=a e;rw [←ez] at a;exact win0_on (by omega) hx hr rfl e h47 h.z3 h.sent a
structure Win1 (r x i:Nat) (z:Nat→Int) (C:Nat→Chn) (W:List Value×(Nat→Int)×(Nat→Chn)):Prop where
 ev:∃F:List (Int×Int×Int),W.1=F.map evT∧F.length≤3∧saids F=if waitA r x i=[] then [0,0] else [(waitA r x i).headD 0,1]
 z45:W.2.1 45=4
 z47:W.2.1 47=0
 z3:W.2.1 3=0
 z24:W.2.1 24=0
 z8:W.2.1 8=0
 wait:(W.2.2 0).wait=[]
 sent:(W.2.2 0).sent=(C 0).sent
theorem waitA_two (r x i:Nat):waitA r x i=[]∨∃v,waitA r x i=[v]:=by
 cases i with
 |zero=>exact .inl rfl
 |succ i=>
  rw [waitA_succ];split
  ·exact .inr ⟨_,rfl⟩
  ·exact .inl rfl
theorem win1_of {r x i:Nat} {a b:Int} {z:Nat→Int} {C:Nat→Chn} (h:Run1 a b z C (runQ (prgC (anewC r x) [] 1) 50 z C)) (h47:z 47=0) (h3:z 3=0) (hab:[a,b]=if waitA r x i=[] then [0,0] else [(waitA r x i).headD 0,1]):Win1 r x i z C (windowQ (prgC (anewC r x) [] 1) 50 z C):=by
 have hg:goQ (prgC (anewC r x) [] 1) 50 z C=runQ (prgC (anewC r x) [] 1) 50 z C:=by unfold goQ;rw [if_neg (by omega)]
 unfold windowQ;rw [hg];refine ⟨⟨[(1,a,0),(1,b,0),(3,IntKind.i64.wrap ((runQ (prgC (anewC r x) [] 1) 50 z C).2.2.1 46-z 46),1)],?_,by simp,?_⟩,h.z45,h.z47.trans h47,h.z3.trans h3,h.z24,h.z8,h.wait,h.sent⟩
 ·rw [h.ev,h.why];rfl
 ·rw [←hab];rfl
theorem SA.win1 {r x i:Nat} {s:KSq} (h:SA r x i s) {C:Nat→Chn} (hw:(C 0).wait=waitA r x i):Win1 r x i (s.z 1) C (windowQ (prgC (anewC r x) [] 1) 50 (s.z 1) C):=by
 have key:∀pc:Int,s.z 1 45=pc→(pc=0∨pc=4)→Win1 r x i (s.z 1) C (windowQ (prgC (anewC r x) [] 1) 50 (s.z 1) C):=fun pc hpc h04=>by
  have ez:=zK_eq (m:=s.z 1 29) hpc rfl h.y24 h.y8;rcases waitA_two r x i with e|⟨v,e⟩
  ·have ec:=cK_eq (hw.trans e) (rfl:(C 0).sent=(C 0).sent);rcases h04 with rfl|rfl
   ·have:=run1_0n x r (s.z 1 29) (s.z 1) C (C 0).sent (C 0).lost (C 0).shown (C 0).age (C 0).writ (C 0).anew;rw [←ez,←ec] at this;exact win1_of this h.y47 h.y3 (by rw [e];rfl)
   ·have:=run1_4n x r (s.z 1 29) (s.z 1) C (C 0).sent (C 0).lost (C 0).shown (C 0).age (C 0).writ (C 0).anew;rw [←ez,←ec] at this;exact win1_of this h.y47 h.y3 (by rw [e];rfl)
  ·have ec:=cK_eq (hw.trans e) (rfl:(C 0).sent=(C 0).sent);rcases h04 with rfl|rfl
   ·have:=run1_0s x r (s.z 1 29) v (s.z 1) C (C 0).sent (C 0).lost (C 0).shown (C 0).age (C 0).writ (C 0).anew;rw [←ez,←ec] at this;exact win1_of this h.y47 h.y3 (by rw [e];rfl)
   ·have:=run1_4s x r (s.z 1 29) v (s.z 1) C (C 0).sent (C 0).lost (C 0).shown (C 0).age (C 0).writ (C 0).anew;rw [←ez,←ec] at this;exact win1_of this h.y47 h.y3 (by rw [e];rfl)
 by_cases h0:i=0
 ·exact key 0 (by rw [h.y45,if_pos h0]) (.inl rfl)
 ·exact key 4 (by rw [h.y45,if_neg h0]) (.inr rfl)
theorem end1 {C:Nat→Chn} (hw:(C 0).wait=[]) (hs:(C 0).sent.length≤1):((endC 1 C) 0).wait=(C 0).sent∧((endC 1 C) 0).sent=[]:=by
 have e:endC 1 C 0=endS (endQ (C 0)):=rfl;have hS:∀c:Chn,(endS c).sent=c.sent∧(endS c).wait=c.wait:=fun c=>by
  unfold endS;split
  ·exact ⟨rfl,rfl⟩
  ·split
   ·exact ⟨rfl,rfl⟩
   ·exact ⟨rfl,rfl⟩
 rw [e,(hS _).1,(hS _).2];refine ⟨?_,rfl⟩;unfold endQ
 match hc:(C 0).sent,hs with
 | [],_=>exact hw
 | [v],_=>
  show (pushQ (C 0) v).wait=[v];unfold pushQ;rw [if_pos (by rw [hw];decide)];show (C 0).wait++[v]=[v];rw [hw];rfl
theorem SA.frame {r x i:Nat} {s:KSq} (h:SA r x i s) (hr:1≤r∧r≤6) (hx:x≤5):SA r x (i+1) (frameC (anewC r x) 0 [] s):=by
 have h0:=h.win0 hr hx;have h1:=h.win1 (C:=(windowQ (prgC (anewC r x) [] 0) 50 (s.z 0) s.D).2.2) (h0.wait.trans h.wait);generalize hW0:windowQ (prgC (anewC r x) [] 0) 50 (s.z 0) s.D=W0 at h0 h1;generalize hW1:windowQ (prgC (anewC r x) [] 1) 50 (s.z 1) W0.2.2=W1 at h1;have hs:(W1.2.2 0).sent.length≤1:=by
  rw [h1.sent,h0.sent];rcases waitA_two r x (i+1) with e|⟨v,e⟩<;>rw [e]<;>simp
 obtain ⟨q1,q2⟩:=end1 h1.wait hs;have e1:winC (anewC r x) [] (0,50) s=⟨updN s.z 0 W0.2.1,updN s.m 0 (s.m 0+W0.1.length),updN s.xs 0 (s.xs 0++W0.1.flatMap evCells),W0.2.2⟩:=by unfold winC;rw [hW0]
 have e2:winC (anewC r x) [] (1,50) ⟨updN s.z 0 W0.2.1,updN s.m 0 (s.m 0+W0.1.length),updN s.xs 0 (s.xs 0++W0.1.flatMap evCells),W0.2.2⟩=⟨updN (updN s.z 0 W0.2.1) 1 W1.2.1,updN (updN s.m 0 (s.m 0+W0.1.length)) 1 (s.m 1+W1.1.length),updN (updN s.xs 0 (s.xs 0++W0.1.flatMap evCells)) 1 (s.xs 1++W1.1.flatMap evCells),W1.2.2⟩:=by
  unfold winC;show (⟨updN (updN s.z 0 W0.2.1) 1 (windowQ (prgC (anewC r x) [] 1) 50 (s.z 1) W0.2.2).2.1,updN (updN s.m 0 (s.m 0+W0.1.length)) 1 (s.m 1+(windowQ (prgC (anewC r x) [] 1) 50 (s.z 1) W0.2.2).1.length),updN (updN s.xs 0 (s.xs 0++W0.1.flatMap evCells)) 1 (s.xs 1++(windowQ (prgC (anewC r x) [] 1) 50 (s.z 1) W0.2.2).1.flatMap evCells),(windowQ (prgC (anewC r x) [] 1) 50 (s.z 1) W0.2.2).2.2⟩:KSq)=_;rw [hW1]
 have ef:frameC (anewC r x) 0 [] s=⟨updN (updN s.z 0 W0.2.1) 1 W1.2.1,updN (updN s.m 0 (s.m 0+W0.1.length)) 1 (s.m 1+W1.1.length),updN (updN s.xs 0 (s.xs 0++W0.1.flatMap evCells)) 1 (s.xs 1++W1.1.flatMap evCells),endC 1 W1.2.2⟩:=by
  have er:rowC (anewC r x) [] (wnOf (anewC r x) 0) ((anewC r x).nRow 0) 0 s=winC (anewC r x) [] (1,50) (winC (anewC r x) [] (0,50) s):=rfl;unfold frameC;rw [er,e1,e2];rfl
 rw [ef];obtain ⟨F0,a1,a2,a3⟩:=h0.ev;obtain ⟨F1,b1,b2,b3⟩:=h1.ev;refine ⟨h0.z45,h0.z29,h0.z47,h0.z3,h0.z24,h0.z8,?_,h1.z47,h1.z3,h1.z24,?_,q2,?_,h.e0.add F0 a1 a2 a3,h.e1.add F1 b1 b2 b3,fun j hj=>?_⟩
 ·rw [if_neg (by omega)];exact h1.z45
 ·exact h1.z8
 ·exact q1.trans (h1.sent.trans h0.sent)
 ·show updN (updN s.m 0 _) 1 _ j=0;rw [updN_ne _ _ (by omega),updN_ne _ _ (by omega)];exact h.mO j hj
end Go.Proofs.Ytdoghgnifkgfdaa.Mute
namespace Go.Proofs.Ytdoghgnifkgfdaa
open Go.RowKit
theorem pickK_any (c:Int) (n:Nat) (w:World) (hn:0<n) (hn':n≤1000000) (h1:-9223372036854775808≤c) (h2:c≤9223372036854775807):
  Calls Try.prog 11 #[.int .i64 c,.int .i64 n] w fun e w'=>(∃r:Nat,r<n∧e=.returned (.int .i64 r))∧w'=w:=by
 have hz:¬((n:Int)=0):=by omega
 by_cases h:c<0
 ·have e1:IntKind.i64.wrap (c+1)=c+1:=by rw [IntKind.wrap_i64];omega
  have e2:IntKind.i64.wrap (-(c+1))=-(c+1):=by rw [IntKind.wrap_i64];omega
  have e3:(((-(c+1)) % (n:Int)).toNat:Int)=(-(c+1)).tmod n:=by
   rw [Int.toNat_of_nonneg (Int.emod_nonneg _ hz),Int.tmod_eq_emod_of_nonneg (by omega)]
  have e4:((-(c+1)) % (n:Int)).toNat<n:=by
   have h1:=Int.emod_nonneg (-(c+1)) hz;have h2:=Int.emod_lt_of_pos (-(c+1)) (show (0:Int)<n by omega);omega
  go_enter Try.func11,Try.ntmps11
  go_wp2_with fail
  go_ret;exact ⟨⟨_,e4,by rw [e3,Int.neg_tmod];rfl⟩,rfl⟩
 ·have e3:((c % (n:Int)).toNat:Int)=c % n:=by
   rw [Int.toNat_of_nonneg (Int.emod_nonneg _ hz)]
  have e4:(c % (n:Int)).toNat<n:=by
   have h1:=Int.emod_nonneg c hz;have h2:=Int.emod_lt_of_pos c (show (0:Int)<n by omega);omega
  go_enter Try.func11,Try.ntmps11
  go_wp2_with fail
  go_ret;exact ⟨⟨_,e4,by rw [e3];rfl⟩,rfl⟩
theorem logs_any (p q:Option Addr) (m nL c c':Nat) (z y:Nat→Int) (n:Nat→Nat) (w:World) (hs:Sl w p (m*3) (fun j=>.int .i64 (z j))) (hq:Sl w q nL (fun j=>.int .i64 (y j))) (hm:m≤1000000) (hL:nL≤1000000) (h0:n 0=0) (hn:n m=nL) (hst:∀k,k<m→(z (k*3)=1→n k<nL∧y (n k)=z (k*3+1)∧n (k+1)=n k+1)∧(z (k*3)≠1→n (k+1)=n k)):
  Calls Try.prog 16 #[.slice p m c,.slice q nL c'] w fun e w'=>e=.returned (.bool true)∧Below w.heap.size w w':=by
 have HS:Hid (Sl w p (m*3) (fun j=>.int .i64 (z j))):=hs;have HQ:Hid (Sl w q nL (fun j=>.int .i64 (y j))):=hq;have HN:Hid (n 0=0∧n m=nL∧∀k,k<m→(z (k*3)=1→n k<nL∧y (n k)=z (k*3+1)∧n (k+1)=n k+1)∧(z (k*3)≠1→n (k+1)=n k)):=⟨h0,hn,hst⟩;clear hs hq h0 hn hst
 go_enter Try.func16,Try.ntmps16
 go_wp2_with fail
 go_loopw [5,6] (fun a i wr=>∃k:Nat,k≤m∧a=.int .i64 (n k)∧i=.int .i64 k∧Hid (n k≤1000000)∧Hid (Below w.heap.size w wr)) (fun _ i _=>m-(intOf i).toNat)
 case atStart=>exact ⟨0,Nat.zero_le _,by rw [HN.out.1];rfl,rfl,(by show n 0≤1000000;rw [HN.out.1];omega),Below.refl _ _⟩
 case round=>
  obtain ⟨k,hk,rfl,rfl,HK,HB⟩:=hrel;by_cases hlt:k<m
  ·obtain ⟨b,o,rfl,hc⟩:=(HS.out.below HB.out).at (by omega);have c0:=hc (k*3) (by omega);have c1:=hc (k*3+1) (by omega);rw [←Nat.add_assoc] at c1;clear hc;have hli:(k:Int)<(m:Int):=by omega
   by_cases h1:z (k*3)=1
   ·obtain ⟨g1,g2,g3⟩:=(HN.out.2.2 k hlt).1 h1;obtain ⟨b',o',rfl,hc'⟩:=(HQ.out.below HB.out).at (by omega);have d0:=hc' (n k) g1;rw [g2] at d0;clear hc';rw [h1] at c0;have HG:Hid (n (k+1)=n k+1∧n k<nL):=⟨g3,g1⟩;clear g2 g3 h1;generalize z (k*3+1)=x1 at *;generalize hnk:n k=nk at *;have hli2:(nk:Int)<(nL:Int):=by omega
    have hle:¬nL≤nk:=by omega
    clear g1;go_wp2_with fail
    go_quiet (fail)
    go_wp2_with fail
    have hk6:=HK.out;exact ⟨⟨k+1,by omega,by rw [HG.out.1];go_num,by go_num,(by show n (k+1)≤1000000;have:=HG.out;omega),below_drewN HB.out _⟩,by simp [intOf];omega⟩
   ·have HG:Hid (n (k+1)=n k):=(HN.out.2.2 k hlt).2 h1;generalize z (k*3)=x0 at *;generalize z (k*3+1)=x1 at *;go_wp2_with fail
    exact ⟨⟨k+1,by omega,by rw [HG.out],by go_num,(by show n (k+1)≤1000000;rw [HG.out];exact HK.out),HB.out⟩,by simp [intOf];omega⟩
  ·obtain rfl:k=m:=by omega
   have e:n k=nL:=HN.out.2.1;rw [e] at *;go_wp2_with fail
   go_ret;exact ⟨rfl,HB.out⟩
namespace Mute
open Go Go.Conc
theorem enterPickK (x y:Value):EnterOk Try.prog plan 11 #[x,y]:=⟨by kernel_rfl,slots_noSlots plain Try.func11 (by kernel_rfl) _⟩
theorem enterLogs (x y:Value):EnterOk Try.prog plan 16 #[x,y]:=⟨by kernel_rfl,slots_noSlots plain Try.func16 (by kernel_rfl) _⟩
theorem pickK_calls (c:Int) (n:Nat) (w:World) (hn:0<n) (hn':n≤1000000) (h1:-9223372036854775808≤c) (h2:c≤9223372036854775807):
  CallsR Try.prog 11 #[.int .i64 c,.int .i64 n] w (fun v w'=>Below w.heap.size w w'∧∃r:Nat,r<n∧v=.int .i64 r):=by
 refine CallsR.ofBelow (enterPickK _ _) (fun v _=>∃r:Nat,r<n∧v=.int .i64 r) (fun τ=>(pickK_any c n (reW w τ 0) hn hn' h1 h2).mono ?_) fun v w₁ τ d d' h=>h;rintro e w' ⟨⟨r,hr,rfl⟩,rfl⟩;exact ⟨_,rfl,Below.refl _ _,r,hr,rfl⟩
def saidN (E:List (Int×Int×Int)) (k:Nat):Nat:=(saids (E.take k)).length
theorem logs_calls {w:World} {p q:Option Addr} {c c':Nat} (E:List (Int×Int×Int)) (hE:E.length≤1000000) (hs:Sl w p (E.length*3) (fun j=>.int .i64 (if j % 3=0 then (E.getD (j / 3) (0,0,0)).1 else if j % 3=1 then (E.getD (j / 3) (0,0,0)).2.1 else (E.getD (j / 3) (0,0,0)).2.2))) (hq:Sl w q (saids E).length (fun j=>.int .i64 ((saids E).getD j 0))):
  CallsR Try.prog 16 #[.slice p E.length c,.slice q (saids E).length c'] w (fun v w'=>Below w.heap.size w w'∧v=.bool true):=by
 have hlen:(saids E).length≤E.length:=by unfold saids;exact List.length_filterMap_le _ _
 refine CallsR.ofBelow (enterLogs _ _) (fun v _=>v=.bool true) (fun τ=>(logs_any p q E.length (saids E).length c c' _ _ (saidN E) (reW w τ 0) hs hq hE (by omega) rfl (by unfold saidN;rw [List.take_length]) fun k hk=>?_).mono ?_) fun v w₁ τ d d' h=>h
 ·have e0:(k*3) % 3=0:=by omega
  have e1:(k*3+1) % 3=1:=by omega
  have e2:(k*3) / 3=k:=by omega
  have e3:(k*3+1) / 3=k:=by omega
  have ht:E.take (k+1)=E.take k++[E.getD k (0,0,0)]:=by rw [List.take_add_one];simp [hk]
  have hE2:E=E.take k++E.getD k (0,0,0)::E.drop (k+1):=by
   have e:E.getD k (0,0,0)=E[k]:=by simp [hk]
   rw [e,←List.drop_eq_getElem_cons hk];exact (List.take_append_drop k E).symm
  simp only [e0,e1,e2,e3,if_pos];constructor
  ·intro h1;have hsT:saids (E.take (k+1))=saids (E.take k)++[(E.getD k (0,0,0)).2.1]:=by rw [ht,saids_append];simp only [saids,List.filterMap_cons,if_pos h1,List.filterMap_nil]
   have hsE:saids E=saids (E.take k)++(E.getD k (0,0,0)).2.1::saids (E.drop (k+1)):=by
    conv=>lhs;rw [hE2]
    rw [saids_append];congr 1;simp only [saids,List.filterMap_cons,if_pos h1]
   refine ⟨?_,?_,?_⟩
   ·unfold saidN;rw [hsE];simp
   ·unfold saidN;rw [hsE];simp
   ·unfold saidN;rw [hsT];simp
  ·intro h1;unfold saidN;rw [ht,saids_append];have:saids [E.getD k (0,0,0)]=[]:=by simp only [saids,List.filterMap_cons,if_neg h1,List.filterMap_nil]
   rw [this,List.append_nil]
 ·rintro e w' ⟨rfl,h⟩;exact ⟨_,rfl,h,rfl⟩
end Mute
end Go.Proofs.Ytdoghgnifkgfdaa
