import Derived.Deep.RegionHeld3
import Derived.Deep.AppendSrc
import Derived.Test.YtdoghgnifkgfdaaP14
import Derived.Test.YtdoghgnifkgfdaaP41
import Derived.Test.YtdoghgnifkgfdaaP43
set_option maxRecDepth 100000
set_option maxHeartbeats 16000000
namespace Go.Proofs.Ytdoghgnifkgfdaa.Mute
open Go Go.Conc Go.RowKit
structure KId where
 k:Ker
 N:NetK
 t:Tab
def KIn (w:World) (K:KId) (s:KSq) (r:Nat) (S:Nat→Prop):Prop:=∃f lr,KFullQ w K.k K.N K.t s f lr r S
section
variable {w w':World} {K:KId} {s:KSq} {r:Nat} {S:Nat→Prop}
theorem KIn.keep (h:KIn w K s r S) (hk:∀b,S b→w'.heap[b]?=w.heap[b]?) (hs:w.heap.size≤w'.heap.size):KIn w' K s r S:=by
 obtain ⟨f,lr,h⟩:=h;exact ⟨f,lr,h.keep hk hs⟩
theorem KIn.sz (h:KIn w K s r S) {b:Nat} (hb:S b):b<w.heap.size:=by
 obtain ⟨f,lr,h⟩:=h;exact h.sz b hb
theorem KIn.below (h:KIn w K s r S) (hb:Below w.heap.size w w'):KIn w' K s r S:=h.keep (fun b hS=>hb.block b (h.sz hS)) hb.size
end
structure Ap3 (W0:World) (G:Nat→Prop) (A B X:KId) (sa sb sx:KSq) (ra rb rx:Nat) (w:World):Prop where
 ex:∃SA SB SX:Nat→Prop,KIn w A sa ra SA∧KIn w B sb rb SB∧KIn w X sx rx SX∧(∀b,SA b→¬SB b∧¬SX b)∧(∀b,SB b→¬SX b)∧(∀b,SA b∨SB b∨SX b→W0.heap.size≤b)∧∀b,G b→¬SA b∧¬SB b∧¬SX b∧b<w.heap.size
 bel:Below W0.heap.size W0 w
section
variable {W0 w w':World} {G:Nat→Prop} {A B X:KId} {sa sb sx:KSq} {ra rb rx:Nat}
theorem Ap3.swap (h:Ap3 W0 G A B X sa sb sx ra rb rx w):Ap3 W0 G B A X sb sa sx rb ra rx w:=by
 obtain ⟨⟨SA,SB,SX,h1,h2,h3,h4,h5,h6,h7⟩,h8⟩:=h;exact ⟨⟨SB,SA,SX,h2,h1,h3,fun b hb=>⟨fun ha=>(h4 b ha).1 hb,h5 b hb⟩,fun b hb=>(h4 b hb).2,fun b hb=>h6 b (by rcases hb with hb|hb|hb;exact .inr (.inl hb);exact .inl hb;exact .inr (.inr hb)),fun b hb=>⟨(h7 b hb).2.1,(h7 b hb).1,(h7 b hb).2.2⟩⟩,h8⟩
theorem Ap3.fresh (h:Ap3 W0 G A B X sa sb sx ra rb rx w) (hb:Below w.heap.size w w'):Ap3 W0 (fun b=>w.heap.size≤b∧b<w'.heap.size) A B X sa sb sx ra rb rx w':=by
 obtain ⟨⟨SA,SB,SX,h1,h2,h3,h4,h5,h6,h7⟩,h8⟩:=h;exact ⟨⟨SA,SB,SX,h1.below hb,h2.below hb,h3.below hb,h4,h5,h6,fun b hg=>⟨fun hs=>by have:=h1.sz hs;omega,fun hs=>by have:=h2.sz hs;omega,fun hs=>by have:=h3.sz hs;omega,hg.2⟩⟩,Below.then h8 hb h8.size⟩
theorem Ap3.below (h:Ap3 W0 G A B X sa sb sx ra rb rx w) (hb:Below w.heap.size w w'):Ap3 W0 G A B X sa sb sx ra rb rx w':=by
 obtain ⟨⟨SA,SB,SX,h1,h2,h3,h4,h5,h6,h7⟩,h8⟩:=h;exact ⟨⟨SA,SB,SX,h1.below hb,h2.below hb,h3.below hb,h4,h5,h6,fun b hg=>⟨(h7 b hg).1,(h7 b hg).2.1,(h7 b hg).2.2.1,Nat.lt_of_lt_of_le (h7 b hg).2.2.2 hb.size⟩⟩,Below.then h8 hb h8.size⟩
theorem Ap3.at (h:Ap3 W0 G A B X sa sb sx ra rb rx w) (d:Nat):Ap3 W0 G A B X sa sb sx ra rb rx (w.at d):=h.below ⟨rfl,rfl,rfl,Nat.le_refl _,fun _ _=>rfl⟩
theorem Ap3.frame (h:Ap3 W0 G A B X sa sb sx ra rb rx w) {cf:Cfg} (hO:Of cf A.k A.N A.t) (hm:∀i,sa.m i+1300≤1000000000) {ip:Option Addr} {il ic:Nat} {ins:List (Int×Int)} (hin:InW w (.slice ip il ic) ins (StatQ w)) (hil:il≤4):
  CallsR Try.prog 15 #[.pointer (some ⟨A.k.kb,0,none⟩),.slice ip il ic] w (fun r w'=>r=.int .i64 0∧Ap3 W0 G A B X (frameC cf ra ins sa) sb sx ((ra+1) % cf.nT) rb rx w'∧∀b,G b→w'.heap[b]?=w.heap[b]?):=by
 obtain ⟨⟨SA,SB,SX,⟨f,lr,h1⟩,h2,h3,h4,h5,h6,h7⟩,h8⟩:=h;refine (h1.frame hm hin hil).mono ?_;rintro v w' ⟨rfl,f',lr',q1,q2⟩;rw [hO.frame,hO.nT] at q1;refine ⟨rfl,⟨⟨_,SB,SX,⟨f',lr',q1⟩,h2.keep (fun b hb=>q2.block b (h2.sz hb) fun hs=>(h4 b hs).1 hb) q2.size,h3.keep (fun b hb=>q2.block b (h3.sz hb) fun hs=>(h4 b hs).2 hb) q2.size,fun b hb=>?_,h5,fun b hb=>?_,fun b hb=>?_⟩,?_⟩,fun b hb=>q2.block b (h7 b hb).2.2.2 (h7 b hb).1⟩
 ·rcases hb with hb|hb
  ·exact h4 b hb
  ·exact ⟨fun hs=>by have:=h2.sz hs;omega,fun hs=>by have:=h3.sz hs;omega⟩
 ·rcases hb with (hb|hb)|hb
  ·exact h6 b (.inl hb)
  ·exact Nat.le_trans h8.size hb.1
  ·exact h6 b (.inr hb)
 ·obtain ⟨g1,g2,g3,g4⟩:=h7 b hb;exact ⟨fun hs=>by rcases hs with hs|hs;exact g1 hs;omega,g2,g3,Nat.lt_of_lt_of_le g4 q2.size⟩
 ·exact but_below h8 q2 (fun b hb=>h6 b (.inl hb)) h8.size
theorem Ap3.view (h:Ap3 W0 G A B X sa sb sx ra rb rx w) {cell:Nat} (hc:cell<A.k.nC) {tz:Nat→Int} (hx:sa.xs cell=((List.range (sa.m cell*3)).map fun j=>.int .i64 (tz j))) (hm:sa.m cell≤1000000000):
  CallsR Try.prog 14 #[.pointer (some ⟨A.k.kb,0,none⟩),.int .i64 cell] w (fun v w'=>Below w.heap.size w w'∧∃pu cu p cap,v=.tuple #[.agg #[.slice pu (sa.m cell) cu,.slice p 16 cap,.int .i64 (sa.z cell 46),.int .i64 (sa.z cell 47),.bool (decide (sa.z cell 3<sa.z cell 47))],.bool true]∧Sl w' pu (sa.m cell*3) (fun j=>.int .i64 (tz j))∧Sl w' p 16 (fun j=>.int .i64 (sa.z cell (29+j)))):=by
 obtain ⟨⟨SA,SB,SX,⟨f,lr,h1⟩,_⟩,_⟩:=h;refine (view_calls h1 hc hx hm).mono ?_;rintro v w' ⟨hb,u,p,cap,rfl,q1,q2⟩;obtain ⟨pu,cu,rfl,_,_,q3⟩:=own_sl q1;obtain ⟨p2,c2,e,_,_,q4⟩:=own_sl (size:=1) (F:=fun j=>.int .i64 (sa.z cell (29+j))) (n:=16) q2;injection e with e1 _ e2
 subst e1 e2;exact ⟨hb,pu,cu,p,cap,rfl,q3,q4⟩
end
def ShotR (w:World) (p:Option Addr) (S:Sh):Prop:=∃F:Nat→Value,Sl w p S.n F∧∀i,i<S.n→∃pi ci,F i=.slice pi (S.m i) ci∧Sl w pi (S.m i) (fun j=>.int .i64 (S.z i j))
theorem ShotR.below {w w':World} {p:Option Addr} {S:Sh} (h:ShotR w p S) (hb:Below w.heap.size w w'):ShotR w' p S:=by
 obtain ⟨F,h1,h2⟩:=h;refine ⟨F,h1.below hb,fun i hi=>?_⟩;obtain ⟨pi,ci,h3,h4⟩:=h2 i hi;exact ⟨pi,ci,h3,h4.below hb⟩
theorem insS_len (S:Sh) (i:Nat):(insS S i).length=min (S.m i) 4:=by simp [insS]
theorem inW_of {w:World} {base:Nat} {v:Value} {S:Sh} {i:Nat} (h:w.ownsRow base 79 2 v (min (S.m i) 4) ((List.range (min (S.m i) 4*2)).map fun j=>.int .i64 (if j % 2=0 then ((j / 2:Nat):Int) else S.z i (j / 2)))):InW w v (insS S i) (fun b=>(base≤b∧b<w.heap.size)∧StatQ w b):=by
 have hh:=h;obtain ⟨p,c,rfl⟩:=own_form h;rcases h.2 with ⟨e,h0⟩|⟨g,cap,cur,e,hb,hg,_⟩
 ·have hl:insS S i=[]:=List.eq_nil_of_length_eq_zero (by rw [insS_len];exact h0);rw [hl,h0];exact ⟨p,c,rfl,fun j x hj=>by simp at hj⟩
 ·injection e with e1 _ e3
  subst e1 e3;have key:∀(j:Nat) (x:Int×Int),(insS S i)[j]?=some x→w.cell? ⟨g,0+j*2,none⟩=some (.int .i64 x.1)∧w.cell? ⟨g,0+j*2+1,none⟩=some (.int .i64 x.2):=fun j x hj=>by
   have hj2:j<min (S.m i) 4:=by have:=(List.getElem?_eq_some_iff.1 hj).1;rw [insS_len] at this;exact this
   have hx:x=((j:Int),S.z i j):=by
    unfold insS at hj;rw [List.getElem?_map,List.getElem?_range hj2] at hj;exact (Option.some.inj hj).symm
   subst hx;have a0:j*2 % 2=0:=by omega
   have a1:(j*2+1) % 2=1:=by omega
   have a2:j*2 / 2=j:=by omega
   have a3:(j*2+1) / 2=j:=by omega
   rw [Nat.zero_add];exact ⟨own_cellAt hh (by rw [List.getElem?_map,List.getElem?_range (by omega)];simp [a0]),own_cellAt hh (by rw [List.getElem?_map,List.getElem?_range (by omega)];simp [a1,a3])⟩
  have hlen:=insS_len S i;exact ⟨some ⟨g,0,none⟩,c,by rw [hlen],fun j x hj=>⟨g,0,rfl,⟨⟨hb,(Array.getElem?_eq_some_iff.1 hg).1⟩,cur,_,_,hg,by decide,by decide,by decide,by decide,by decide,by decide⟩,(key j x hj).1,(key j x hj).2⟩⟩
theorem enterPickX (x y:Value):EnterOk Try.prog plan 11 #[x,y]:=⟨by kernel_rfl,slots_noSlots plain Try.func11 (by kernel_rfl) _⟩
theorem enterConfig (x:Value):EnterOk Try.prog plan 10 #[x]:=⟨by kernel_rfl,slots_noSlots plain Try.func10 (by kernel_rfl) _⟩
theorem enterInputs (x:Value):EnterOk Try.prog plan 17 #[x]:=⟨by kernel_rfl,slots_noSlots plain Try.func17 (by kernel_rfl) _⟩
theorem enterSame (x y:Value):EnterOk Try.prog plan 18 #[x,y]:=⟨by kernel_rfl,slots_noSlots plain Try.func18 (by kernel_rfl) _⟩
theorem pickX_calls (c:Int) (n:Nat) (w:World) (hn:0<n) (h1:-9223372036854775808≤c) (h2:c≤9223372036854775807):
  CallsR Try.prog 11 #[.int .i64 c,.int .i64 n] w (fun v w'=>Below w.heap.size w w'∧v=.int .i64 (pk c n)):=by
 refine CallsR.ofBelow (enterPickX _ _) (fun v _=>v=.int .i64 (pk c n)) (fun τ=>(pickP_any c n (reW w τ 0) hn h1 h2).mono ?_) fun v w₁ τ d d' h=>h;rintro e w' ⟨rfl,rfl⟩;exact ⟨_,rfl,Below.refl _ _,rfl⟩
theorem plan_keepH {w w':World} {A:Nat→Option Addr} {P:Pl} (h:PlanR w A P) (hk:∀a v,w.cell? a=some v→w'.cell? a=some v):PlanR w' A P:=
 ⟨fun i hi=>⟨(h.code i hi).1.keep hk,(h.code i hi).2⟩,⟨h.ways.1.keep hk,h.ways.2⟩,⟨h.devs.1.keep hk,h.devs.2⟩,h.lim⟩
theorem config_calls {A:Nat→Option Addr} {K:Nat→Nat} {P:Pl} {w:World} (h:PlanR w A P):
  CallsR Try.prog 10 #[planV A K P] w (fun v w'=>Below w.heap.size w w'∧∃v0 v1 v2 v3,v=.agg #[v0,v1,v2,v3]∧CfgR w' v0 v1 v2 v3 (cfgP P (fun _=>P))):=by
 refine CallsR.ofBelow (enterConfig _) (fun v w'=>∃v0 v1 v2 v3,v=.agg #[v0,v1,v2,v3]∧CfgR w' v0 v1 v2 v3 (cfgP P (fun _=>P))) (fun τ=>(config_any A K P (reW w τ 0) (plan_keepH h fun _ _ h=>h)).mono ?_) fun v w₁ τ d d' ⟨v0,v1,v2,v3,e,h⟩=>⟨v0,v1,v2,v3,e,h.keep fun _ _ h=>h⟩;rintro e w' ⟨v0,v1,v2,v3,rfl,h1,h2⟩;exact ⟨_,rfl,h1,v0,v1,v2,v3,rfl,h2⟩
theorem inputs_calls {p:Option Addr} {c:Nat} {S:Sh} {i:Nat} {w:World} (h:Sl w p (S.m i) (fun j=>.int .i64 (S.z i j))):
  CallsR Try.prog 17 #[.agg #[.slice p (S.m i) c]] w (fun v w'=>Below w.heap.size w w'∧∃ip il ic,v=.slice ip il ic∧il≤4∧InW w' (.slice ip il ic) (insS S i) (fun b=>(w.heap.size≤b∧b<w'.heap.size)∧StatQ w' b)):=by
 refine (CallsR.ofBelow (enterInputs _) (fun v w'=>w'.ownsRow w.heap.size 79 2 v (min (S.m i) 4) ((List.range (min (S.m i) 4*2)).map fun j=>.int .i64 (if j % 2=0 then ((j / 2:Nat):Int) else S.z i (j / 2)))) (fun τ=>(inputs_any p (S.m i) c (S.z i) (reW w τ 0) (h.keep fun _ _ h=>h)).mono ?_) fun v w₁ τ d d' h=>own_at_heap h fun _ _=>rfl).mono ?_
 ·rintro e w' ⟨v,rfl,h1,h2⟩;exact ⟨_,rfl,h1,h2⟩
 ·rintro v w' ⟨hb,ho⟩;have hi:=inW_of ho;obtain ⟨ip,ic,rfl⟩:=own_form ho;exact ⟨hb,ip,_,ic,rfl,Nat.min_le_right _ _,hi⟩
theorem same_calls {pa pb pm pn:Option Addr} {m ca cb cm cn:Nat} {z y:Nat→Int} {s b:Int} {st:Bool} {w:World} (ha:Sl w pa (m*3) (fun j=>.int .i64 (z j))) (hb:Sl w pb (m*3) (fun j=>.int .i64 (z j))) (hm:Sl w pm 16 (fun j=>.int .i64 (y j))) (hn:Sl w pn 16 (fun j=>.int .i64 (y j))) (hml:m≤1000000000):
  CallsR Try.prog 18 #[.agg #[.slice pa m ca,.slice pm 16 cm,.int .i64 s,.int .i64 b,.bool st],.agg #[.slice pb m cb,.slice pn 16 cn,.int .i64 s,.int .i64 b,.bool st]] w (fun v w'=>Below w.heap.size w w'∧v=.bool true):=by
 refine CallsR.ofBelow (enterSame _ _) (fun v _=>v=.bool true) (fun τ=>(same_any pa pb pm pn m ca cb cm cn z y s b st (reW w τ 0) (ha.keep fun _ _ h=>h) (hb.keep fun _ _ h=>h) (hm.keep fun _ _ h=>h) (hn.keep fun _ _ h=>h) hml).mono ?_) fun v w₁ τ d d' h=>h;rintro e w' ⟨rfl,h1⟩;exact ⟨_,rfl,h1,rfl⟩
theorem kernelP_calls {w:World} {P:Pl} {v0 v1 v2 v3:Value} (h:CfgR w v0 v1 v2 v3 (cfgP P (fun _=>P))) (hw:∀i,i<4→Wf (P.nC i*4) (P.code i)):
  CallsR Try.prog 12 #[.agg #[v0,v1,v2,v3]] w (fun v w'=>Below w.heap.size w w'∧∃K:KId,v=.tuple #[.pointer (some ⟨K.k.kb,0,none⟩),.bool true]∧Of (cfgP P (fun _=>P)) K.k K.N K.t∧KIn w' K (sq0 (cfgP P (fun _=>P))) 0 (fun b=>w.heap.size≤b∧b<w'.heap.size)):=by
 refine (kernel_calls h (cfgP_W P _ hw) (fun _ _=>rfl) (cfgP_ok P _)).mono ?_;rintro v w' ⟨hb,k,N,t,f,rfl,hO,hK⟩;exact ⟨hb,⟨k,N,t⟩,rfl,hO,f,_,hK⟩
def cK (C:Nat→Chn) (wl sl:List Int) (l sh ag wr:Int) (an:Bool) (j:Nat):Chn:=if j=0 then ⟨wl,sl,l,sh,ag,wr,an⟩ else C j
def evs (E:List (Int×Int×Int)):List Value:=E.flatMap fun e=>[.int .i64 e.1,.int .i64 e.2.1,.int .i64 e.2.2]
def saids (E:List (Int×Int×Int)):List Int:=E.filterMap fun e=>if e.1=1 then some e.2.1 else none
def TrIs (xs:List Value) (m:Nat) (i:Nat) (L:List Int):Prop:=∃E,xs=evs E∧m=E.length∧E.length≤3*i∧saids E=L
def saidA (r x:Nat):Nat→List Int
 |0=>[]
 |i+1=>saidA r x i++(if i<r*(x+1) then [((i % r:Nat):Int)+1] else [])
def waitA (r x:Nat):Nat→List Int
 |0=>[]
 |i+1=>if i<r*(x+1)∧i % r+1≠r then [((i % r:Nat):Int)+1] else []
def heardA (r x:Nat):Nat→List Int
 |0=>[]
 |i+1=>heardA r x i++(if waitA r x i=[] then [0,0] else [(waitA r x i).headD 0,1])
structure SA (r x i:Nat) (s:KSq):Prop where
 z45:s.z 0 45=if i % r=0∨r*(x+1)≤i then 0 else 11
 z29:s.z 0 29=if r*(x+1)≤i then 0 else ((i % r:Nat):Int)
 z47:s.z 0 47=if r*(x+1)≤i then (x:Int)+1 else ((i / r:Nat):Int)
 z3:s.z 0 3=x
 z24:s.z 0 24=0
 z8:s.z 0 8=0
 y45:s.z 1 45=if i=0 then 0 else 4
 y47:s.z 1 47=0
 y3:s.z 1 3=0
 y24:s.z 1 24=0
 y8:s.z 1 8=0
 sent:(s.D 0).sent=[]
 wait:(s.D 0).wait=waitA r x i
 e0:TrIs (s.xs 0) (s.m 0) i (saidA r x i)
 e1:TrIs (s.xs 1) (s.m 1) i (heardA r x i)
 mO:∀j,2≤j→s.m j=0
end Go.Proofs.Ytdoghgnifkgfdaa.Mute
namespace Go.Proofs.Ytdoghgnifkgfdaa
open Go.RowKit
namespace Mute
open Go Go.Conc
end Mute
end Go.Proofs.Ytdoghgnifkgfdaa
namespace Go.Proofs.Ytdoghgnifkgfdaa.Mute
open Go Go.Conc Go.RowKit
def heardR:Nat→List Int→List Int
 |0,_=>[]
 |t+1,[]=>0::0::heardR t []
 |t+1,a::l=>a::1::heardR t l
def TrB (xs:List Value) (m b:Nat) (L:List Int):Prop:=∃E,xs=evs E∧m=E.length∧E.length≤b∧saids E=L
def relW (s t:Nat) (vs:Nat→Int):Nat→List Int
 |0=>[]
 |i+1=>((relW s t vs i).drop t++List.replicate s (vs i)).take 4
def relLo (s t:Nat) (vs:Nat→Int):Nat→Nat
 |0=>0
 |i+1=>((relW s t vs i).drop t).length+s-4
def relH (s t:Nat) (vs:Nat→Int):Nat→List Int
 |0=>[]
 |i+1=>relH s t vs i++(heardR t (relW s t vs i)++[(relLo s t vs i:Int)])
structure SR (s t:Nat) (vs:Nat→Int) (i:Nat) (st:KSq):Prop where
 a45:st.z 0 45=0∨st.z 0 45=((s+2:Nat):Int)
 a47:st.z 0 47=0
 a3:st.z 0 3=0
 b45:st.z 1 45=0∨st.z 1 45=((3*t+3:Nat):Int)
 b47:st.z 1 47=0
 b3:st.z 1 3=0
 wait:(st.D 0).wait=relW s t vs i
 sent:(st.D 0).sent=[]
 lost:(st.D 0).lost=(relLo s t vs i:Int)
 e1:TrB (st.xs 1) (st.m 1) (i*14) (relH s t vs i)
 m0:st.m 0=i
 mO:∀j,2≤j→st.m j=0
def cs1:Code→Code
 |.seq x _=>x
 |c=>c
def cs2:Code→Code
 |.seq _ y=>y
 |c=>c
def cbl:Code→Code
 |.block _ c=>c
 |c=>c
def clo:Code→Code
 |.loop c=>c
 |c=>c
structure RunW (W0 W1:World) (K:KId) (S:Nat→Prop) (st:KSq) (r:Nat) (w:World):Prop where
 ex:∃S':Nat→Prop,KIn w K st r S'∧∀b,S' b→S b∨W1.heap.size≤b
 but:But S W1 w
 lo:∀b,S b→W0.heap.size≤b
 bel:Below W0.heap.size W0 w
 le:W0.heap.size≤W1.heap.size
section
variable {W0 W1 w w':World} {K:KId} {S:Nat→Prop} {st:KSq} {r:Nat}
theorem RunW.below (h:RunW W0 W1 K S st r w) (hb:Below w.heap.size w w'):RunW W0 W1 K S st r w':=by
 obtain ⟨⟨S',h1,h2⟩,h3,h4,h5,h6⟩:=h;exact ⟨⟨S',h1.below hb,h2⟩,⟨hb.os.trans h3.os,hb.tape.trans h3.tape,hb.output.trans h3.output,Nat.le_trans h3.size hb.size,fun b h1 h2=>(hb.block b (Nat.lt_of_lt_of_le h1 h3.size)).trans (h3.block b h1 h2)⟩,h4,Below.then h5 hb h5.size,h6⟩
theorem RunW.at (h:RunW W0 W1 K S st r w) (d:Nat):RunW W0 W1 K S st r (w.at d):=h.below ⟨rfl,rfl,rfl,Nat.le_refl _,fun _ _=>rfl⟩
theorem RunW.frame (h:RunW W0 W1 K S st r w) {cf:Cfg} (hO:Of cf K.k K.N K.t) (hm:∀i,st.m i+1300≤1000000000) {ip:Option Addr} {il ic:Nat} {ins:List (Int×Int)} (hin:InW w (.slice ip il ic) ins (StatQ w)) (hil:il≤4):
  CallsR Try.prog 15 #[.pointer (some ⟨K.k.kb,0,none⟩),.slice ip il ic] w (fun v w'=>v=.int .i64 0∧RunW W0 W1 K S (frameC cf r ins st) ((r+1) % cf.nT) w'):=by
 obtain ⟨⟨S',⟨f,lr,h1⟩,h2⟩,h3,h4,h5,h6⟩:=h;refine (h1.frame hm hin hil).mono ?_;rintro v w' ⟨rfl,f',lr',q1,q2⟩;rw [hO.frame,hO.nT] at q1;refine ⟨rfl,⟨_,⟨f',lr',q1⟩,fun b hb=>?_⟩,⟨q2.os.trans h3.os,q2.tape.trans h3.tape,q2.output.trans h3.output,Nat.le_trans h3.size q2.size,fun b hb hn=>?_⟩,h4,but_below h5 q2 (fun b hb=>?_) h5.size,h6⟩
 ·rcases hb with hb|hb
  ·exact h2 b hb
  ·exact .inr (Nat.le_trans h3.size hb.1)
 ·rw [q2.block b (Nat.lt_of_lt_of_le hb h3.size) (fun hs=>?_)]
  ·exact h3.block b hb hn
  ·rcases h2 b hs with h|h
   ·exact hn h
   ·omega
 ·rcases h2 b hb with h|h
  ·exact h4 b h
  ·exact Nat.le_trans h6 h
end
noncomputable def ruBody:Code:=match Try.f13.body with
 |some c=>c
 |none=>.skip
noncomputable def ruL:Code:=clo (cbl (cs2 (cs1 (cs2 ruBody))))
section
variable {Post:Goroutine→World→Prop} {W0 W1:World} {K:KId} {S0:Nat→Prop} {c:Cfg} {S:Sh} {q:Option Addr} {cq f:Nat}
theorem ru_loop (hO:Of c K.k K.N K.t) (hT:TabOk c) (hf:f≤S.n∧f≤40∧(f=S.n∨f=40)) (hsh:ShotR W0 q S) (cs:List Frame) (kk:List Item):
  ∀(rem i:Nat) (w:World) (u2 u3 u6 u7 u8 u9 u10 u11 u12 u13 u14 u15 u16 u17 u18 u19 u20 u21 u22 u23 u24 u25:Value),i+rem=f→RunW W0 W1 K S0 (frS c (insS S) i) (i % c.nT) w→
   (∀(w':World) (u2 u3 u6 u7 u8 u9 u10 u11 u12 u13 u14 u15 u16 u17 u18 u19 u20 u21 u22 u23 u24 u25:Value),RunW W0 W1 K S0 (frS c (insS S) f) (f % c.nT) w'→RunsB Try.prog Post (G ((base 13).at {tmps:=(List.toArray ((.pointer (some ⟨K.k.kb,0,none⟩))::(.slice q S.n cq)::(u2)::(u3)::(.bool false)::(.int .i64 f)::(u6)::(u7)::(u8)::(u9)::(u10)::(u11)::(u12)::(u13)::(u14)::(u15)::(u16)::(u17)::(u18)::(u19)::(u20)::(u21)::(u22)::(u23)::(u24)::(u25)::[])),defers:=[]} (kk)) cs) w')→
   RunsB Try.prog Post (G ((base 13).at {tmps:=(List.toArray ((.pointer (some ⟨K.k.kb,0,none⟩))::(.slice q S.n cq)::(u2)::(u3)::(.bool false)::(.int .i64 i)::(u6)::(u7)::(u8)::(u9)::(u10)::(u11)::(u12)::(u13)::(u14)::(u15)::(u16)::(u17)::(u18)::(u19)::(u20)::(u21)::(u22)::(u23)::(u24)::(u25)::[])),defers:=[]} (.code ruL::.inLoop ruL::.inBlock 0::kk)) cs) w:=by
 have hk:(base 13).kind≠.early:=by simp [base]
 intro rem;induction rem with
 |zero=>
  intro i w u2 u3 u6 u7 u8 u9 u10 u11 u12 u13 u14 u15 u16 u17 u18 u19 u20 u21 u22 u23 u24 u25 hi hM hp;obtain rfl:i=f:=by omega
  by_cases hin:i<S.n
  ·obtain rfl:i=40:=by omega
   have hinI:(40:Int)<(S.n:Int):=by omega
   refine RunsB.of_goes ?_;have hF:=Is.self w;repeat refine .c1 termsS rfl ?_
   refine .regionL termsS [0,1,2,3,4,5,6,7] (by rfl) ?_;iterate 8 (refine .opV termsS rfl (by rfl) hk ?_;try walk_nrm)
   repeat refine .c1 termsS rfl ?_
   refine GoesW.condF termsS (by first|rfl|simp [Act.eval]) ?_;refine GoesW.exit termsS rfl ?_;refine .stop rfl fun w1 hR=>?_;obtain ⟨d,rfl⟩:=hF.rely hR;clear hF hR;exact hp _ _ _ _ _ _ _ _ _ _ _ _ _ _ _ _ _ _ _ _ _ _ _ (hM.at d)
  ·have hinI:¬(i:Int)<(S.n:Int):=by omega
   refine RunsB.of_goes ?_;have hF:=Is.self w;repeat refine .c1 termsS rfl ?_
   refine .regionL termsS [0,1,2,3,4,5,6,7] (by rfl) ?_;iterate 5 (refine .opV termsS rfl (by rfl) hk ?_;try walk_nrm)
   iterate 2 (refine GoesW.unwanted termsS rfl (by rfl) ?_;try walk_nrm)
   refine .opV termsS rfl (by rfl) hk ?_;try walk_nrm
   repeat refine .c1 termsS rfl ?_
   refine GoesW.condF termsS (by first|rfl|simp [Act.eval]) ?_;refine GoesW.exit termsS rfl ?_;refine .stop rfl fun w1 hR=>?_;obtain ⟨d,rfl⟩:=hF.rely hR;clear hF hR;exact hp _ _ _ _ _ _ _ _ _ _ _ _ _ _ _ _ _ _ _ _ _ _ _ (hM.at d)
 |succ rem ih=>
  intro i w u2 u3 u6 u7 u8 u9 u10 u11 u12 u13 u14 u15 u16 u17 u18 u19 u20 u21 u22 u23 u24 u25 hi hM hp;have hin:i<S.n:=by omega
  have hinI:(i:Int)<(S.n:Int):=by omega
  have h40:i<40:=by omega
  have h40I:(i:Int)<40:=by omega
  have hwr:IntKind.i64.wrap ((i:Int)+1)=((i+1:Nat):Int):=by rw [IntKind.wrap_i64];omega
  obtain ⟨SF,hs,hfi⟩:=hsh.below hM.bel;obtain ⟨qb,qo,rfl,hq⟩:=hs.at (show 0<S.n by omega);obtain ⟨pi,ci,e,hpi⟩:=hfi i hin;have hsw:=hq i hin;rw [e] at hsw;clear hq hs hfi e;have Hm:∀x,(frS c (insS S) i).m x+1300≤1000000000:=fun x=>by have:=frS_m (insS S) hT i x;omega
  refine RunsB.of_goes ?_;have hF:=Is.self w;repeat refine .c1 termsS rfl ?_
  refine .regionL termsS [0,1,2,3,4,5,6,7] (by rfl) ?_;iterate 8 (refine .opV termsS rfl (by rfl) hk ?_;try walk_nrm)
  repeat refine .c1 termsS rfl ?_
  refine GoesW.condT termsS (by first|rfl|simp [Act.eval]) ?_;repeat refine .c1 termsS rfl ?_
  refine .regionL termsS [0,1,2,3,4,5,6,7] (by rfl) ?_;iterate 3 (refine .opV termsS rfl (by rfl) hk ?_;try walk_nrm)
  refine .op rfl (by rfl) hk fun w1 hR K_ hK=>?_;replace hF:=hF.rely hR;clear hR;go_simp;try (unfold stored;go_simp)
  refine hK _ _ ⟨?_,?_⟩
  ·exact listed_ok plain (slots_noSlots plain Try.func13 (by kernel_rfl) _) (by kernel_rfl) _
  clear hK K_;try walk_nrm
  refine .op rfl (by rfl) hk fun w1 hR K_ hK=>?_;replace hF:=hF.rely hR;clear hR;have hc:World.cell? w1 ⟨qb,qo+i,none⟩=some (.slice pi (S.m i) ci):=(hF.cell _).trans (hsw);go_simp;try (unfold stored;go_simp)
  refine hK _ _ ⟨?_,?_⟩
  ·exact listed_ok plain (slots_noSlots plain Try.func13 (by kernel_rfl) _) (by kernel_rfl) _
  clear hK K_;clear hc;try walk_nrm
  refine .stop rfl fun w4 hR=>?_;obtain ⟨d4,rfl⟩:=hF.rely hR;clear hF hR;refine RunsB.call rfl (by rfl) hk (fun d=>?run1) (fun d=>?evs1) (inputs_calls (w:=w.at d4) (c:=ci) (S:=S) (i:=i) hpi) (fun v wI hv=>?_)
  case run1=>kernel_rfl
  case evs1=>
   rw [listed_nil (by kernel_rfl)];simp
  obtain ⟨hI,ip,il,ic,rfl,hil,hin4⟩:=hv;refine RunsB.of_goes ?_;have hF:=Is.self wI;try walk_nrm
  replace hI:Below w.heap.size w wI:=⟨hI.os,hI.tape,hI.output,hI.size,hI.block⟩;have hM1:=hM.below hI;clear hM hI hpi hsw;refine .stop rfl fun w4 hR=>?_;obtain ⟨d4,rfl⟩:=hF.rely hR;clear hF hR;refine RunsB.call rfl (by rfl) hk (fun d=>?run2) (fun d=>?evs2) ((hM1.at d4).frame hO Hm (hin4.keep (w':=wI.at d4) (fun _ _=>rfl) (fun b hb _=>hb.2)) hil) (fun r wF hv=>?_)
  case run2=>kernel_rfl
  case evs2=>
   rw [listed_nil (by kernel_rfl)];simp
  obtain ⟨rfl,hM⟩:=hv;refine RunsB.of_goes ?_;have hF:=Is.self wF;try walk_nrm
  rw [Nat.mod_add_mod] at hM;change RunW W0 W1 K S0 (frS c (insS S) (i+1)) _ wF at hM;clear hM1 hin4;refine .opV termsS rfl (by rfl) hk ?_;try walk_nrm
  repeat refine .c1 termsS rfl ?_
  refine .regionL termsS [0,1] (by rfl) ?_;iterate 2 (refine .opV termsS rfl (by rfl) hk ?_;try walk_nrm)
  repeat refine .c1 termsS rfl ?_
  refine GoesW.condF termsS (by first|rfl|simp [Act.eval]) ?_;repeat refine .c1 termsS rfl ?_
  refine .regionL termsS [0,1,2] (by rfl) ?_;iterate 2 (refine .opV termsS rfl (by rfl) hk ?_;try walk_nrm)
  try rw [hwr]
  refine .opV termsS rfl (by rfl) hk ?_;try walk_nrm
  repeat refine .c1 termsS rfl ?_
  refine GoesW.inLoop termsS ?_;refine .stop rfl fun w1 hR=>?_;obtain ⟨d,rfl⟩:=hF.rely hR;clear hF hR;exact ih (i+1) _ _ _ _ _ _ _ _ _ _ _ _ _ _ _ _ _ _ _ _ _ _ _ (by omega) (hM.at d) hp
end
theorem run_calls {W0 w:World} {K:KId} {S0:Nat→Prop} {c:Cfg} {S:Sh} {q:Option Addr} {cq:Nat} (hO:Of c K.k K.N K.t) (hT:TabOk c) (hsh:ShotR W0 q S) (hK:KIn w K (sq0 c) 0 S0) (hlo:∀b,S0 b→W0.heap.size≤b) (hB:Below W0.heap.size W0 w):
  CallsR Try.prog 13 #[.pointer (some ⟨K.k.kb,0,none⟩),.slice q S.n cq] w (fun v w'=>v=.bool true∧RunW W0 w K S0 (frS c (insS S) (min S.n 40)) (min S.n 40 % c.nT) w'):=by
 refine CallsR.introT (List.toArray ((.pointer (some ⟨K.k.kb,0,none⟩))::(.slice q S.n cq)::undef::undef::undef::undef::undef::undef::undef::undef::undef::undef::undef::undef::undef::undef::undef::undef::undef::undef::undef::undef::undef::undef::undef::undef::[])) Try.func13 (by rfl) (by kernel_rfl) fun cs Post hp=>?_;have hk:(base 13).kind≠.early:=by simp [base]
 have hM:RunW W0 w K S0 (frS c (insS S) 0) (0 % c.nT) w:=⟨⟨S0,by rw [Nat.zero_mod];exact hK,fun _ h=>.inl h⟩,⟨rfl,rfl,rfl,Nat.le_refl _,fun _ _ _=>rfl⟩,hlo,hB,hB.size⟩;refine RunsB.of_goes ?_;have hF:=Is.self w;repeat refine .c1 termsS rfl ?_
 refine .regionL termsS [0] (by rfl) ?_;refine .opV termsS rfl (by rfl) hk ?_;try walk_nrm
 repeat refine .c1 termsS rfl ?_
 refine .regionL termsS [0] (by rfl) ?_;refine .opV termsS rfl (by rfl) hk ?_;try walk_nrm
 repeat refine .c1 termsS rfl ?_
 refine GoesW.loop termsS ?_;refine .stop rfl fun w1 hR=>?_;obtain ⟨d,rfl⟩:=hF.rely hR;clear hF hR;refine ru_loop (W0:=W0) (W1:=w) hO hT (f:=min S.n 40) ⟨by omega,by omega,by omega⟩ hsh cs _ (min S.n 40) 0 _ _ _ _ _ _ _ _ _ _ _ _ _ _ _ _ _ _ _ _ _ _ _ (by omega) (hM.at d) ?_;clear hM;intro wM u2 u3 u6 u7 u8 u9 u10 u11 u12 u13 u14 u15 u16 u17 u18 u19 u20 u21 u22 u23 u24 u25 hM;refine RunsB.of_goes ?_;have hF:=Is.self wM;try walk_nrm
 repeat refine .c1 termsS rfl ?_
 refine .regionL termsS [0] (by rfl) ?_;refine .opV termsS rfl (by rfl) hk ?_;try walk_nrm
 repeat refine .c1 termsS rfl ?_
 refine GoesW.ret termsS fun todo=>?_;refine .stop rfl fun w6 hR=>?_;obtain ⟨d,rfl⟩:=hF.rely hR;exact hp _ _ _ _ rfl (fun d=>(resultsC_tmp (t:=4) (by rfl) _ _).1) ⟨rfl,hM.at d⟩
end Go.Proofs.Ytdoghgnifkgfdaa.Mute
