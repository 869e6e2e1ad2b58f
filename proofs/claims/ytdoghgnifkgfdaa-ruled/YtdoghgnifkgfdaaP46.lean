import Derived.Deep.RegionHeld3
import Derived.Deep.AppendSrc
import Derived.Test.YtdoghgnifkgfdaaP09
import Derived.Test.YtdoghgnifkgfdaaP38
import Derived.Test.YtdoghgnifkgfdaaP39
import Derived.Test.YtdoghgnifkgfdaaP43
import Derived.Test.YtdoghgnifkgfdaaP45
set_option maxRecDepth 100000
set_option maxHeartbeats 16000000
namespace Go.Proofs.Ytdoghgnifkgfdaa.Mute
open Go Go.Conc Go.RowKit
structure KId where
 k:Ker
 N:NetK
 t:Tab
def KIn (w:World) (K:KId) (s:KSq) (r:Nat) (S:Nat→Prop):Prop:=∃f lr,KFullQ w K.k K.N K.t s f lr r S
section
variable {w w':World} {K:KId} {s:KSq} {r:Nat} {S:Nat→Prop}
theorem KIn.keep (h:KIn w K s r S) (hk:∀b,S b→w'.heap[b]?=w.heap[b]?) (hs:w.heap.size≤w'.heap.size):KIn w' K s r S:=by
 obtain ⟨f,lr,h⟩:=h;exact ⟨f,lr,h.keep hk hs⟩
theorem KIn.sz (h:KIn w K s r S) {b:Nat} (hb:S b):b<w.heap.size:=by
 obtain ⟨f,lr,h⟩:=h;exact h.sz b hb
theorem KIn.below (h:KIn w K s r S) (hb:Below w.heap.size w w'):KIn w' K s r S:=h.keep (fun b hS=>hb.block b (h.sz hS)) hb.size
end
def ShotR (w:World) (p:Option Addr) (S:Sh):Prop:=∃F:Nat→Value,Sl w p S.n F∧∀i,i<S.n→∃pi ci,F i=.slice pi (S.m i) ci∧Sl w pi (S.m i) (fun j=>.int .i64 (S.z i j))
theorem ShotR.below {w w':World} {p:Option Addr} {S:Sh} (h:ShotR w p S) (hb:Below w.heap.size w w'):ShotR w' p S:=by
 obtain ⟨F,h1,h2⟩:=h;refine ⟨F,h1.below hb,fun i hi=>?_⟩;obtain ⟨pi,ci,h3,h4⟩:=h2 i hi;exact ⟨pi,ci,h3,h4.below hb⟩
theorem insS_len (S:Sh) (i:Nat):(insS S i).length=min (S.m i) 4:=by simp [insS]
theorem inW_of {w:World} {base:Nat} {v:Value} {S:Sh} {i:Nat} (h:w.ownsRow base 79 2 v (min (S.m i) 4) ((List.range (min (S.m i) 4*2)).map fun j=>.int .i64 (if j % 2=0 then ((j / 2:Nat):Int) else S.z i (j / 2)))):InW w v (insS S i) (fun b=>(base≤b∧b<w.heap.size)∧StatQ w b):=by
 have hh:=h;obtain ⟨p,c,rfl⟩:=own_form h;rcases h.2 with ⟨e,h0⟩|⟨g,cap,cur,e,hb,hg,_⟩
 ·have hl:insS S i=[]:=List.eq_nil_of_length_eq_zero (by rw [insS_len];exact h0);rw [hl,h0];exact ⟨p,c,rfl,fun j x hj=>by simp at hj⟩
 ·injection e with e1 _ e3
  subst e1 e3;have key:∀(j:Nat) (x:Int×Int),(insS S i)[j]?=some x→w.cell? ⟨g,0+j*2,none⟩=some (.int .i64 x.1)∧w.cell? ⟨g,0+j*2+1,none⟩=some (.int .i64 x.2):=fun j x hj=>by
   have hj2:j<min (S.m i) 4:=by have:=(List.getElem?_eq_some_iff.1 hj).1;rw [insS_len] at this;exact this
   have hx:x=((j:Int),S.z i j):=by
    unfold insS at hj;rw [List.getElem?_map,List.getElem?_range hj2] at hj;exact (Option.some.inj hj).symm
   subst hx;have a0:j*2 % 2=0:=by omega
   have a1:(j*2+1) % 2=1:=by omega
   have a2:j*2 / 2=j:=by omega
   have a3:(j*2+1) / 2=j:=by omega
   rw [Nat.zero_add];exact ⟨own_cellAt hh (by rw [List.getElem?_map,List.getElem?_range (by omega)];simp [a0]),own_cellAt hh (by rw [List.getElem?_map,List.getElem?_range (by omega)];simp [a1,a3])⟩
  have hlen:=insS_len S i;exact ⟨some ⟨g,0,none⟩,c,by rw [hlen],fun j x hj=>⟨g,0,rfl,⟨⟨hb,(Array.getElem?_eq_some_iff.1 hg).1⟩,cur,_,_,hg,by decide,by decide,by decide,by decide,by decide,by decide⟩,(key j x hj).1,(key j x hj).2⟩⟩
theorem enterPickX (x y:Value):EnterOk Try.prog plan 11 #[x,y]:=⟨by kernel_rfl,slots_noSlots plain Try.func11 (by kernel_rfl) _⟩
theorem enterConfig (x:Value):EnterOk Try.prog plan 10 #[x]:=⟨by kernel_rfl,slots_noSlots plain Try.func10 (by kernel_rfl) _⟩
theorem enterInputs (x:Value):EnterOk Try.prog plan 17 #[x]:=⟨by kernel_rfl,slots_noSlots plain Try.func17 (by kernel_rfl) _⟩
theorem pickX_calls (c:Int) (n:Nat) (w:World) (hn:0<n) (h1:-9223372036854775808≤c) (h2:c≤9223372036854775807):
  CallsR Try.prog 11 #[.int .i64 c,.int .i64 n] w (fun v w'=>Below w.heap.size w w'∧v=.int .i64 (pk c n)):=by
 refine CallsR.ofBelow (enterPickX _ _) (fun v _=>v=.int .i64 (pk c n)) (fun τ=>(pickP_any c n (reW w τ 0) hn h1 h2).mono ?_) fun v w₁ τ d d' h=>h;rintro e w' ⟨rfl,rfl⟩;exact ⟨_,rfl,Below.refl _ _,rfl⟩
theorem plan_keepH {w w':World} {A:Nat→Option Addr} {P:Pl} (h:PlanR w A P) (hk:∀a v,w.cell? a=some v→w'.cell? a=some v):PlanR w' A P:=
 ⟨fun i hi=>⟨(h.code i hi).1.keep hk,(h.code i hi).2⟩,⟨h.ways.1.keep hk,h.ways.2⟩,⟨h.devs.1.keep hk,h.devs.2⟩,h.lim⟩
theorem config_calls {A:Nat→Option Addr} {K:Nat→Nat} {P:Pl} {w:World} (h:PlanR w A P):
  CallsR Try.prog 10 #[planV A K P] w (fun v w'=>Below w.heap.size w w'∧∃v0 v1 v2 v3,v=.agg #[v0,v1,v2,v3]∧CfgR w' v0 v1 v2 v3 (cfgP P (fun _=>P))):=by
 refine CallsR.ofBelow (enterConfig _) (fun v w'=>∃v0 v1 v2 v3,v=.agg #[v0,v1,v2,v3]∧CfgR w' v0 v1 v2 v3 (cfgP P (fun _=>P))) (fun τ=>(config_any A K P (reW w τ 0) (plan_keepH h fun _ _ h=>h)).mono ?_) fun v w₁ τ d d' ⟨v0,v1,v2,v3,e,h⟩=>⟨v0,v1,v2,v3,e,h.keep fun _ _ h=>h⟩;rintro e w' ⟨v0,v1,v2,v3,rfl,h1,h2⟩;exact ⟨_,rfl,h1,v0,v1,v2,v3,rfl,h2⟩
theorem inputs_calls {p:Option Addr} {c:Nat} {S:Sh} {i:Nat} {w:World} (h:Sl w p (S.m i) (fun j=>.int .i64 (S.z i j))):
  CallsR Try.prog 17 #[.agg #[.slice p (S.m i) c]] w (fun v w'=>Below w.heap.size w w'∧∃ip il ic,v=.slice ip il ic∧il≤4∧InW w' (.slice ip il ic) (insS S i) (fun b=>(w.heap.size≤b∧b<w'.heap.size)∧StatQ w' b)):=by
 refine (CallsR.ofBelow (enterInputs _) (fun v w'=>w'.ownsRow w.heap.size 79 2 v (min (S.m i) 4) ((List.range (min (S.m i) 4*2)).map fun j=>.int .i64 (if j % 2=0 then ((j / 2:Nat):Int) else S.z i (j / 2)))) (fun τ=>(inputs_any p (S.m i) c (S.z i) (reW w τ 0) (h.keep fun _ _ h=>h)).mono ?_) fun v w₁ τ d d' h=>own_at_heap h fun _ _=>rfl).mono ?_
 ·rintro e w' ⟨v,rfl,h1,h2⟩;exact ⟨_,rfl,h1,h2⟩
 ·rintro v w' ⟨hb,ho⟩;have hi:=inW_of ho;obtain ⟨ip,ic,rfl⟩:=own_form ho;exact ⟨hb,ip,_,ic,rfl,Nat.min_le_right _ _,hi⟩
theorem kernelP_calls {w:World} {P:Pl} {v0 v1 v2 v3:Value} (h:CfgR w v0 v1 v2 v3 (cfgP P (fun _=>P))) (hw:∀i,i<4→Wf (P.nC i*4) (P.code i)):
  CallsR Try.prog 12 #[.agg #[v0,v1,v2,v3]] w (fun v w'=>Below w.heap.size w w'∧∃K:KId,v=.tuple #[.pointer (some ⟨K.k.kb,0,none⟩),.bool true]∧Of (cfgP P (fun _=>P)) K.k K.N K.t∧KIn w' K (sq0 (cfgP P (fun _=>P))) 0 (fun b=>w.heap.size≤b∧b<w'.heap.size)):=by
 refine (kernel_calls h (cfgP_W P _ hw) (fun _ _=>rfl) (cfgP_ok P _)).mono ?_;rintro v w' ⟨hb,k,N,t,f,rfl,hO,hK⟩;exact ⟨hb,⟨k,N,t⟩,rfl,hO,f,_,hK⟩
end Go.Proofs.Ytdoghgnifkgfdaa.Mute
namespace Go.Proofs.Ytdoghgnifkgfdaa
open Go.RowKit
namespace Mute
open Go Go.Conc
end Mute
end Go.Proofs.Ytdoghgnifkgfdaa
namespace Go.Proofs.Ytdoghgnifkgfdaa.Mute
open Go Go.Conc Go.RowKit
def heardR:Nat→List Int→List Int
 |0,_=>[]
 |t+1,[]=>0::0::heardR t []
 |t+1,a::l=>a::1::heardR t l
def TrB (xs:List Value) (m b:Nat) (L:List Int):Prop:=∃E,xs=evs E∧m=E.length∧E.length≤b∧saids E=L
def relW (s t:Nat) (vs:Nat→Int):Nat→List Int
 |0=>[]
 |i+1=>((relW s t vs i).drop t++List.replicate s (vs i)).take 4
def relLo (s t:Nat) (vs:Nat→Int):Nat→Nat
 |0=>0
 |i+1=>((relW s t vs i).drop t).length+s-4
def relH (s t:Nat) (vs:Nat→Int):Nat→List Int
 |0=>[]
 |i+1=>relH s t vs i++(heardR t (relW s t vs i)++[(relLo s t vs i:Int)])
structure SR (s t:Nat) (vs:Nat→Int) (i:Nat) (st:KSq):Prop where
 a45:st.z 0 45=0∨st.z 0 45=((s+2:Nat):Int)
 a47:st.z 0 47=0
 a3:st.z 0 3=0
 b45:st.z 1 45=0∨st.z 1 45=((3*t+3:Nat):Int)
 b47:st.z 1 47=0
 b3:st.z 1 3=0
 wait:(st.D 0).wait=relW s t vs i
 sent:(st.D 0).sent=[]
 lost:(st.D 0).lost=(relLo s t vs i:Int)
 e1:TrB (st.xs 1) (st.m 1) (i*14) (relH s t vs i)
 m0:st.m 0=i
 mO:∀j,2≤j→st.m j=0
theorem rl_slL {w:World} {b e m c:Nat} {p:Option Addr} {L:List Int} (h:w.ownsRow b e 1 (.slice p m c) m (L.map (Value.int .i64 ·))) (hm:m=L.length):Sl w p m (fun j=>.int .i64 (L.getD j 0)):=by
 subst hm;rcases h with ⟨hl,⟨hv,h0⟩|⟨g0,cap,cur,hv,hb,hh,h1⟩⟩
 ·exact .inl h0
 ·injection hv with hv _ hc
  subst hv hc;have ho:w.ownsRow b e 1 (.slice (some ⟨g0,0,none⟩) L.length c) L.length (L.map (Value.int .i64 ·)):=⟨hl,.inr ⟨g0,c,cur,rfl,hb,hh,h1⟩⟩;exact .inr ⟨g0,0,rfl,fun j hj=>by rw [Nat.zero_add];exact own_cellAt ho (by simp [hj])⟩
def cs1:Code→Code
 |.seq x _=>x
 |c=>c
def cs2:Code→Code
 |.seq _ y=>y
 |c=>c
def cbl:Code→Code
 |.block _ c=>c
 |c=>c
def clo:Code→Code
 |.loop c=>c
 |c=>c
structure RunW (W0 W1:World) (K:KId) (S:Nat→Prop) (st:KSq) (r:Nat) (w:World):Prop where
 ex:∃S':Nat→Prop,KIn w K st r S'∧∀b,S' b→S b∨W1.heap.size≤b
 but:But S W1 w
 lo:∀b,S b→W0.heap.size≤b
 bel:Below W0.heap.size W0 w
 le:W0.heap.size≤W1.heap.size
section
variable {W0 W1 w w':World} {K:KId} {S:Nat→Prop} {st:KSq} {r:Nat}
theorem RunW.below (h:RunW W0 W1 K S st r w) (hb:Below w.heap.size w w'):RunW W0 W1 K S st r w':=by
 obtain ⟨⟨S',h1,h2⟩,h3,h4,h5,h6⟩:=h;exact ⟨⟨S',h1.below hb,h2⟩,⟨hb.os.trans h3.os,hb.tape.trans h3.tape,hb.output.trans h3.output,Nat.le_trans h3.size hb.size,fun b h1 h2=>(hb.block b (Nat.lt_of_lt_of_le h1 h3.size)).trans (h3.block b h1 h2)⟩,h4,Below.then h5 hb h5.size,h6⟩
theorem RunW.at (h:RunW W0 W1 K S st r w) (d:Nat):RunW W0 W1 K S st r (w.at d):=h.below ⟨rfl,rfl,rfl,Nat.le_refl _,fun _ _=>rfl⟩
theorem RunW.frame (h:RunW W0 W1 K S st r w) {cf:Cfg} (hO:Of cf K.k K.N K.t) (hm:∀i,st.m i+1300≤1000000000) {ip:Option Addr} {il ic:Nat} {ins:List (Int×Int)} (hin:InW w (.slice ip il ic) ins (StatQ w)) (hil:il≤4):
  CallsR Try.prog 15 #[.pointer (some ⟨K.k.kb,0,none⟩),.slice ip il ic] w (fun v w'=>v=.int .i64 0∧RunW W0 W1 K S (frameC cf r ins st) ((r+1) % cf.nT) w'):=by
 obtain ⟨⟨S',⟨f,lr,h1⟩,h2⟩,h3,h4,h5,h6⟩:=h;refine (h1.frame hm hin hil).mono ?_;rintro v w' ⟨rfl,f',lr',q1,q2⟩;rw [hO.frame,hO.nT] at q1;refine ⟨rfl,⟨_,⟨f',lr',q1⟩,fun b hb=>?_⟩,⟨q2.os.trans h3.os,q2.tape.trans h3.tape,q2.output.trans h3.output,Nat.le_trans h3.size q2.size,fun b hb hn=>?_⟩,h4,but_below h5 q2 (fun b hb=>?_) h5.size,h6⟩
 ·rcases hb with hb|hb
  ·exact h2 b hb
  ·exact .inr (Nat.le_trans h3.size hb.1)
 ·rw [q2.block b (Nat.lt_of_lt_of_le hb h3.size) (fun hs=>?_)]
  ·exact h3.block b hb hn
  ·rcases h2 b hs with h|h
   ·exact hn h
   ·omega
 ·rcases h2 b hb with h|h
  ·exact h4 b h
  ·exact Nat.le_trans h6 h
end
noncomputable def ruBody:Code:=match Try.f13.body with
 |some c=>c
 |none=>.skip
noncomputable def ruL:Code:=clo (cbl (cs2 (cs1 (cs2 ruBody))))
section
variable {Post:Goroutine→World→Prop} {W0 W1:World} {K:KId} {S0:Nat→Prop} {c:Cfg} {S:Sh} {q:Option Addr} {cq f:Nat}
theorem ru_loop (hO:Of c K.k K.N K.t) (hT:TabOk c) (hf:f≤S.n∧f≤40∧(f=S.n∨f=40)) (hsh:ShotR W0 q S) (cs:List Frame) (kk:List Item):
  ∀(rem i:Nat) (w:World) (u2 u3 u6 u7 u8 u9 u10 u11 u12 u13 u14 u15 u16 u17 u18 u19 u20 u21 u22 u23 u24 u25:Value),i+rem=f→RunW W0 W1 K S0 (frS c (insS S) i) (i % c.nT) w→
   (∀(w':World) (u2 u3 u6 u7 u8 u9 u10 u11 u12 u13 u14 u15 u16 u17 u18 u19 u20 u21 u22 u23 u24 u25:Value),RunW W0 W1 K S0 (frS c (insS S) f) (f % c.nT) w'→RunsB Try.prog Post (G ((base 13).at {tmps:=(List.toArray ((.pointer (some ⟨K.k.kb,0,none⟩))::(.slice q S.n cq)::(u2)::(u3)::(.bool false)::(.int .i64 f)::(u6)::(u7)::(u8)::(u9)::(u10)::(u11)::(u12)::(u13)::(u14)::(u15)::(u16)::(u17)::(u18)::(u19)::(u20)::(u21)::(u22)::(u23)::(u24)::(u25)::[])),defers:=[]} (kk)) cs) w')→
   RunsB Try.prog Post (G ((base 13).at {tmps:=(List.toArray ((.pointer (some ⟨K.k.kb,0,none⟩))::(.slice q S.n cq)::(u2)::(u3)::(.bool false)::(.int .i64 i)::(u6)::(u7)::(u8)::(u9)::(u10)::(u11)::(u12)::(u13)::(u14)::(u15)::(u16)::(u17)::(u18)::(u19)::(u20)::(u21)::(u22)::(u23)::(u24)::(u25)::[])),defers:=[]} (.code ruL::.inLoop ruL::.inBlock 0::kk)) cs) w:=by
 have hk:(base 13).kind≠.early:=by simp [base]
 intro rem;induction rem with
 |zero=>
  intro i w u2 u3 u6 u7 u8 u9 u10 u11 u12 u13 u14 u15 u16 u17 u18 u19 u20 u21 u22 u23 u24 u25 hi hM hp;obtain rfl:i=f:=by omega
  by_cases hin:i<S.n
  ·obtain rfl:i=40:=by omega
   have hinI:(40:Int)<(S.n:Int):=by omega
   refine RunsB.of_goes ?_;have hF:=Is.self w;repeat refine .c1 termsS rfl ?_
   refine .regionL termsS [0,1,2,3,4,5,6,7] (by rfl) ?_;iterate 8 (refine .opV termsS rfl (by rfl) hk ?_;try walk_nrm)
   repeat refine .c1 termsS rfl ?_
   refine GoesW.condF termsS (by first|rfl|simp [Act.eval]) ?_;refine GoesW.exit termsS rfl ?_;refine .stop rfl fun w1 hR=>?_;obtain ⟨d,rfl⟩:=hF.rely hR;clear hF hR;exact hp _ _ _ _ _ _ _ _ _ _ _ _ _ _ _ _ _ _ _ _ _ _ _ (hM.at d)
  ·have hinI:¬(i:Int)<(S.n:Int):=by omega
   refine RunsB.of_goes ?_;have hF:=Is.self w;repeat refine .c1 termsS rfl ?_
   refine .regionL termsS [0,1,2,3,4,5,6,7] (by rfl) ?_;iterate 5 (refine .opV termsS rfl (by rfl) hk ?_;try walk_nrm)
   iterate 2 (refine GoesW.unwanted termsS rfl (by rfl) ?_;try walk_nrm)
   refine .opV termsS rfl (by rfl) hk ?_;try walk_nrm
   repeat refine .c1 termsS rfl ?_
   refine GoesW.condF termsS (by first|rfl|simp [Act.eval]) ?_;refine GoesW.exit termsS rfl ?_;refine .stop rfl fun w1 hR=>?_;obtain ⟨d,rfl⟩:=hF.rely hR;clear hF hR;exact hp _ _ _ _ _ _ _ _ _ _ _ _ _ _ _ _ _ _ _ _ _ _ _ (hM.at d)
 |succ rem ih=>
  intro i w u2 u3 u6 u7 u8 u9 u10 u11 u12 u13 u14 u15 u16 u17 u18 u19 u20 u21 u22 u23 u24 u25 hi hM hp;have hin:i<S.n:=by omega
  have hinI:(i:Int)<(S.n:Int):=by omega
  have h40:i<40:=by omega
  have h40I:(i:Int)<40:=by omega
  have hwr:IntKind.i64.wrap ((i:Int)+1)=((i+1:Nat):Int):=by rw [IntKind.wrap_i64];omega
  obtain ⟨SF,hs,hfi⟩:=hsh.below hM.bel;obtain ⟨qb,qo,rfl,hq⟩:=hs.at (show 0<S.n by omega);obtain ⟨pi,ci,e,hpi⟩:=hfi i hin;have hsw:=hq i hin;rw [e] at hsw;clear hq hs hfi e;have Hm:∀x,(frS c (insS S) i).m x+1300≤1000000000:=fun x=>by have:=frS_m (insS S) hT i x;omega
  refine RunsB.of_goes ?_;have hF:=Is.self w;repeat refine .c1 termsS rfl ?_
  refine .regionL termsS [0,1,2,3,4,5,6,7] (by rfl) ?_;iterate 8 (refine .opV termsS rfl (by rfl) hk ?_;try walk_nrm)
  repeat refine .c1 termsS rfl ?_
  refine GoesW.condT termsS (by first|rfl|simp [Act.eval]) ?_;repeat refine .c1 termsS rfl ?_
  refine .regionL termsS [0,1,2,3,4,5,6,7] (by rfl) ?_;iterate 3 (refine .opV termsS rfl (by rfl) hk ?_;try walk_nrm)
  refine .op rfl (by rfl) hk fun w1 hR K_ hK=>?_;replace hF:=hF.rely hR;clear hR;go_simp;try (unfold stored;go_simp)
  refine hK _ _ ⟨?_,?_⟩
  ·exact listed_ok plain (slots_noSlots plain Try.func13 (by kernel_rfl) _) (by kernel_rfl) _
  clear hK K_;try walk_nrm
  refine .op rfl (by rfl) hk fun w1 hR K_ hK=>?_;replace hF:=hF.rely hR;clear hR;have hc:World.cell? w1 ⟨qb,qo+i,none⟩=some (.slice pi (S.m i) ci):=(hF.cell _).trans (hsw);go_simp;try (unfold stored;go_simp)
  refine hK _ _ ⟨?_,?_⟩
  ·exact listed_ok plain (slots_noSlots plain Try.func13 (by kernel_rfl) _) (by kernel_rfl) _
  clear hK K_;clear hc;try walk_nrm
  refine .stop rfl fun w4 hR=>?_;obtain ⟨d4,rfl⟩:=hF.rely hR;clear hF hR;refine RunsB.call rfl (by rfl) hk (fun d=>?run1) (fun d=>?evs1) (inputs_calls (w:=w.at d4) (c:=ci) (S:=S) (i:=i) hpi) (fun v wI hv=>?_)
  case run1=>kernel_rfl
  case evs1=>
   rw [listed_nil (by kernel_rfl)];simp
  obtain ⟨hI,ip,il,ic,rfl,hil,hin4⟩:=hv;refine RunsB.of_goes ?_;have hF:=Is.self wI;try walk_nrm
  replace hI:Below w.heap.size w wI:=⟨hI.os,hI.tape,hI.output,hI.size,hI.block⟩;have hM1:=hM.below hI;clear hM hI hpi hsw;refine .stop rfl fun w4 hR=>?_;obtain ⟨d4,rfl⟩:=hF.rely hR;clear hF hR;refine RunsB.call rfl (by rfl) hk (fun d=>?run2) (fun d=>?evs2) ((hM1.at d4).frame hO Hm (hin4.keep (w':=wI.at d4) (fun _ _=>rfl) (fun b hb _=>hb.2)) hil) (fun r wF hv=>?_)
  case run2=>kernel_rfl
  case evs2=>
   rw [listed_nil (by kernel_rfl)];simp
  obtain ⟨rfl,hM⟩:=hv;refine RunsB.of_goes ?_;have hF:=Is.self wF;try walk_nrm
  rw [Nat.mod_add_mod] at hM;change RunW W0 W1 K S0 (frS c (insS S) (i+1)) _ wF at hM;clear hM1 hin4;refine .opV termsS rfl (by rfl) hk ?_;try walk_nrm
  repeat refine .c1 termsS rfl ?_
  refine .regionL termsS [0,1] (by rfl) ?_;iterate 2 (refine .opV termsS rfl (by rfl) hk ?_;try walk_nrm)
  repeat refine .c1 termsS rfl ?_
  refine GoesW.condF termsS (by first|rfl|simp [Act.eval]) ?_;repeat refine .c1 termsS rfl ?_
  refine .regionL termsS [0,1,2] (by rfl) ?_;iterate 2 (refine .opV termsS rfl (by rfl) hk ?_;try walk_nrm)
  try rw [hwr]
  refine .opV termsS rfl (by rfl) hk ?_;try walk_nrm
  repeat refine .c1 termsS rfl ?_
  refine GoesW.inLoop termsS ?_;refine .stop rfl fun w1 hR=>?_;obtain ⟨d,rfl⟩:=hF.rely hR;clear hF hR;exact ih (i+1) _ _ _ _ _ _ _ _ _ _ _ _ _ _ _ _ _ _ _ _ _ _ _ (by omega) (hM.at d) hp
end
theorem run_calls {W0 w:World} {K:KId} {S0:Nat→Prop} {c:Cfg} {S:Sh} {q:Option Addr} {cq:Nat} (hO:Of c K.k K.N K.t) (hT:TabOk c) (hsh:ShotR W0 q S) (hK:KIn w K (sq0 c) 0 S0) (hlo:∀b,S0 b→W0.heap.size≤b) (hB:Below W0.heap.size W0 w):
  CallsR Try.prog 13 #[.pointer (some ⟨K.k.kb,0,none⟩),.slice q S.n cq] w (fun v w'=>v=.bool true∧RunW W0 w K S0 (frS c (insS S) (min S.n 40)) (min S.n 40 % c.nT) w'):=by
 refine CallsR.introT (List.toArray ((.pointer (some ⟨K.k.kb,0,none⟩))::(.slice q S.n cq)::undef::undef::undef::undef::undef::undef::undef::undef::undef::undef::undef::undef::undef::undef::undef::undef::undef::undef::undef::undef::undef::undef::undef::undef::[])) Try.func13 (by rfl) (by kernel_rfl) fun cs Post hp=>?_;have hk:(base 13).kind≠.early:=by simp [base]
 have hM:RunW W0 w K S0 (frS c (insS S) 0) (0 % c.nT) w:=⟨⟨S0,by rw [Nat.zero_mod];exact hK,fun _ h=>.inl h⟩,⟨rfl,rfl,rfl,Nat.le_refl _,fun _ _ _=>rfl⟩,hlo,hB,hB.size⟩;refine RunsB.of_goes ?_;have hF:=Is.self w;repeat refine .c1 termsS rfl ?_
 refine .regionL termsS [0] (by rfl) ?_;refine .opV termsS rfl (by rfl) hk ?_;try walk_nrm
 repeat refine .c1 termsS rfl ?_
 refine .regionL termsS [0] (by rfl) ?_;refine .opV termsS rfl (by rfl) hk ?_;try walk_nrm
 repeat refine .c1 termsS rfl ?_
 refine GoesW.loop termsS ?_;refine .stop rfl fun w1 hR=>?_;obtain ⟨d,rfl⟩:=hF.rely hR;clear hF hR;refine ru_loop (W0:=W0) (W1:=w) hO hT (f:=min S.n 40) ⟨by omega,by omega,by omega⟩ hsh cs _ (min S.n 40) 0 _ _ _ _ _ _ _ _ _ _ _ _ _ _ _ _ _ _ _ _ _ _ _ (by omega) (hM.at d) ?_;clear hM;intro wM u2 u3 u6 u7 u8 u9 u10 u11 u12 u13 u14 u15 u16 u17 u18 u19 u20 u21 u22 u23 u24 u25 hM;refine RunsB.of_goes ?_;have hF:=Is.self wM;try walk_nrm
 repeat refine .c1 termsS rfl ?_
 refine .regionL termsS [0] (by rfl) ?_;refine .opV termsS rfl (by rfl) hk ?_;try walk_nrm
 repeat refine .c1 termsS rfl ?_
 refine GoesW.ret termsS fun todo=>?_;refine .stop rfl fun w6 hR=>?_;obtain ⟨d,rfl⟩:=hF.rely hR;exact hp _ _ _ _ rfl (fun d=>(resultsC_tmp (t:=4) (by rfl) _ _).1) ⟨rfl,hM.at d⟩
end Go.Proofs.Ytdoghgnifkgfdaa.Mute
namespace Go.Proofs.Ytdoghgnifkgfdaa
open Go.RowKit
noncomputable def ruldBody:Code:=match Try.f4.body with
 |some c=>c
 |none=>.skip
noncomputable def ruldP1:Code:=Mute.cs1 (Mute.cs2 (Mute.cs2 (Mute.cs2 (Mute.cs2 (Mute.cs2 (Mute.cs2 (Mute.cs2 (Mute.cs2 (Mute.cs2 (ruldBody))))))))))
theorem budF_len (c:Cfg) (cell:Nat) (h:∀r,c.nRow r≤6):∀i,(Mute.budF c cell i).length≤i*6
 |0=>Nat.le_refl _
 |i+1=>by
  have h1:=budF_len c cell h i;have h2:∀r x,(Mute.budR c cell r x).length≤x:=fun r x=>by
   induction x with
   |zero=>exact Nat.le_refl _
   |succ x ih=>
    show (Mute.budR c cell r x++_).length≤_;rw [List.length_append];split<;>simp<;>omega
  have h3:=h2 (i % c.nT) (c.nRow (i % c.nT));have h4:=h (i % c.nT);show (Mute.budF c cell i++_).length≤_;rw [List.length_append];omega
theorem budR_len (c:Cfg) (cell r:Nat):∀x,(Mute.budR c cell r x).length≤x
 |0=>Nat.le_refl _
 |x+1=>by
  have:=budR_len c cell r x;show (Mute.budR c cell r x++_).length≤_;rw [List.length_append];split<;>simp<;>omega
structure TabM (w:World) (gc:Nat) (c:Cfg) (pt:Option Addr) (ct:Nat) (Fr:Nat→Option Addr×Nat):Prop where
 box:w.cell? ⟨gc,1,none⟩=some (.slice pt 3 ct)
 rows:Sl w pt 3 (fun r=>.slice (Fr r).1 (c.nRow r) (Fr r).2)
 row:∀r,r<3→Sl w (Fr r).1 (c.nRow r*2) (fun j=>.int .i64 (c.row r j))
 lt:gc<w.heap.size
theorem TabM.below {w w':World} {gc ct:Nat} {c:Cfg} {pt:Option Addr} {Fr:Nat→Option Addr×Nat} (h:TabM w gc c pt ct Fr) (hb:Below w.heap.size w w'):TabM w' gc c pt ct Fr:=
 ⟨(hb.cell (p:=⟨gc,1,none⟩) h.lt).trans h.box,h.rows.below hb,fun r hr=>(h.row r hr).below hb,Nat.lt_of_lt_of_le h.lt hb.size⟩
theorem ruld_P1 {q:Option Addr} {n cq gc cell f ct:Nat} {c:Cfg} {pt:Option Addr} {Fr:Nat→Option Addr×Nat} (hf:f≤n∧f≤40∧(f=n∨f=40)) (hn3:c.nT=3) (hn6:∀r,c.nRow r≤6) (w:World) (ht:TabM w gc c pt ct Fr) (u0 u1 u3 u4 u5 u6 u9 u10 u11 u12 u14 u15 u16 u17 u18 u19 u20 u21 u22 u23 u24 u25 u26 u27 u28 u29 u30 u31 u32 u33 u34 u35 u36 u37 u38 u39 u40 u41 u42 u43 u44 u45 u46 u47 u48 u49 u50 u51 u52 u53 u54 u55 u56 u57 u58 u59 u60 u61 u62 u63 u64 u65 u66 u67 u68 u69 u70 u71 u72 u73 u74 u75 u76 u77 u78 u79 u80 u81 u82 u83 u84 u85 u86 u87 u88 u89 u90 u91 u92 u93 u94 u95 u96 u97 u98 u99 u100 u101 u102 u103 u104 u105 u106 u107 u108 u109 u110 u111 u112 u113 u114 u115 u116 u117 u118 u119 u120 u121 u122 u123 u124 u125 u126 u127 u128 u129 u130 u131 u132 u133 u134 u135 u136 u137 u138 u139 u140 u141 u142 u143 u144 u145 u146 u147 u148 u149 u150 u151 u152 u153 u154 u155 u156 u157 u158 u159 u160 u161 u162 u163 u164 u165 u166 u167 u168 u169 u170 u171 u172 u173 u174 u175 u176 u177 u178 u179 u180 u181 u182 u183 u184 u185 u186 u187 u188 u189 u190 u191 u192 u193 u194 u195 u196 u197 u198 u199 u200 u201 u202 u203 u204 u205 u206 u207 u208 u209 u210 u211 u212 u213 u214 u215 u216 u217 u218 u219 u220 u221 u222 u223 u224 u225 u226 u227 u228 u229 u230 u231 u232 u233 u234 u235 u236 u237 u238 u239 u240 u241 u242 u243 u244 u245 u246 u247 u248 u249 u250 u251 u252 u253:Value):
  Code.wp Try.prog ruldP1 (fun e a' w'=>e=.normal∧∃(pb:Option Addr) (cb:Nat) (y14 y15 y16 y50 y51 y52 y53 y54 y55 y56 y57 y58 y59 y60 y61 y62 y63 y64 y65 y66 y67 y68 y69 y70 y71 y72 y73 y74 y75 y76 y77 y78 y79 y80 y81 y82 y83 y84 y85 y86:Value),a'={tmps:=#[u0,u1,.slice q n cq,u3,u4,u5,u6,.pointer (some ⟨gc,0,none⟩),.int .i64 cell,u9,u10,u11,u12,.slice pb (Mute.budF c cell f).length cb,y14,y15,y16,u17,u18,u19,u20,u21,u22,u23,u24,u25,u26,u27,u28,u29,u30,u31,u32,u33,u34,u35,u36,u37,u38,u39,u40,u41,u42,u43,u44,u45,u46,u47,u48,u49,y50,y51,y52,y53,y54,y55,y56,y57,y58,y59,y60,y61,y62,y63,y64,y65,y66,y67,y68,y69,y70,y71,y72,y73,y74,y75,y76,y77,y78,y79,y80,y81,y82,y83,y84,y85,y86,u87,u88,u89,u90,u91,u92,u93,u94,u95,u96,u97,u98,u99,u100,u101,u102,u103,u104,u105,u106,u107,u108,u109,u110,u111,u112,u113,u114,u115,u116,u117,u118,u119,u120,u121,u122,u123,u124,u125,u126,u127,u128,u129,u130,u131,u132,u133,u134,u135,u136,u137,u138,u139,u140,u141,u142,u143,u144,u145,u146,u147,u148,u149,u150,u151,u152,u153,u154,u155,u156,u157,u158,u159,u160,u161,u162,u163,u164,u165,u166,u167,u168,u169,u170,u171,u172,u173,u174,u175,u176,u177,u178,u179,u180,u181,u182,u183,u184,u185,u186,u187,u188,u189,u190,u191,u192,u193,u194,u195,u196,u197,u198,u199,u200,u201,u202,u203,u204,u205,u206,u207,u208,u209,u210,u211,u212,u213,u214,u215,u216,u217,u218,u219,u220,u221,u222,u223,u224,u225,u226,u227,u228,u229,u230,u231,u232,u233,u234,u235,u236,u237,u238,u239,u240,u241,u242,u243,u244,u245,u246,u247,u248,u249,u250,u251,u252,u253],defers:=[]}∧Below w.heap.size w w'∧w'.ownsRow w.heap.size 3 1 (.slice pb (Mute.budF c cell f).length cb) (Mute.budF c cell f).length ((Mute.budF c cell f).map (Value.int .i64 ·))) {tmps:=#[u0,u1,.slice q n cq,u3,u4,u5,u6,.pointer (some ⟨gc,0,none⟩),.int .i64 cell,u9,u10,u11,u12,.slice none 0 0,u14,u15,u16,u17,u18,u19,u20,u21,u22,u23,u24,u25,u26,u27,u28,u29,u30,u31,u32,u33,u34,u35,u36,u37,u38,u39,u40,u41,u42,u43,u44,u45,u46,u47,u48,u49,u50,u51,u52,u53,u54,u55,u56,u57,u58,u59,u60,u61,u62,u63,u64,u65,u66,u67,u68,u69,u70,u71,u72,u73,u74,u75,u76,u77,u78,u79,u80,u81,u82,u83,u84,u85,u86,u87,u88,u89,u90,u91,u92,u93,u94,u95,u96,u97,u98,u99,u100,u101,u102,u103,u104,u105,u106,u107,u108,u109,u110,u111,u112,u113,u114,u115,u116,u117,u118,u119,u120,u121,u122,u123,u124,u125,u126,u127,u128,u129,u130,u131,u132,u133,u134,u135,u136,u137,u138,u139,u140,u141,u142,u143,u144,u145,u146,u147,u148,u149,u150,u151,u152,u153,u154,u155,u156,u157,u158,u159,u160,u161,u162,u163,u164,u165,u166,u167,u168,u169,u170,u171,u172,u173,u174,u175,u176,u177,u178,u179,u180,u181,u182,u183,u184,u185,u186,u187,u188,u189,u190,u191,u192,u193,u194,u195,u196,u197,u198,u199,u200,u201,u202,u203,u204,u205,u206,u207,u208,u209,u210,u211,u212,u213,u214,u215,u216,u217,u218,u219,u220,u221,u222,u223,u224,u225,u226,u227,u228,u229,u230,u231,u232,u233,u234,u235,u236,u237,u238,u239,u240,u241,u242,u243,u244,u245,u246,u247,u248,u249,u250,u251,u252,u253],defers:=[]} w:=by
 have HT:Hid (TabM w gc c pt ct Fr):=ht;have HC:Hid (c.nT=3∧∀r,c.nRow r≤6):=⟨hn3,hn6⟩;clear ht hn3 hn6;simp only [ruldP1,ruldBody,Try.f4,Mute.cs1,Mute.cs2];go_wp2_with fail
 go_loopw [13,14] (fun b i wr=>∃(k m:Nat) (pb:Option Addr) (cb:Nat),k≤f∧i=.int .i64 k∧b=.slice pb m cb∧Hid ((Mute.budF c cell k).length=m∧wr.ownsRow w.heap.size 3 1 (.slice pb m cb) m ((Mute.budF c cell k).map (Value.int .i64 ·))∧Below w.heap.size w wr)) (fun _ i _=>f-(intOf i).toNat)
 case atStart=>exact ⟨0,0,none,0,Nat.zero_le _,rfl,rfl,rfl,World.ownsRow_nil _ _ _ _,Below.refl _ _⟩
 case round=>
  obtain ⟨k,m,pb,cb,hk,rfl,rfl,HR⟩:=hrel;by_cases hlt:k<f
  ·have hki:(k:Int)<(n:Int):=by omega
   have h40:(k:Int)<40:=by omega
   have hB:=HR.out.2.2;have hT:=HT.out.below hB;obtain ⟨r,HRr⟩:∃r,Hid (k % 3=r):=⟨_,rfl⟩;have hr3:r<3:=by have:=HRr.out;omega
   have hm1:(k:Int) % 3=(r:Int):=by have:=HRr.out;omega
   have hm2:(k:Int).tmod 3=(r:Int):=by rw [Int.tmod_eq_emod_of_nonneg (by omega)];exact hm1
   have hrl:(r:Int)<3:=by omega
   have g1:=hT.box;have HROW:Hid (Sl w (Fr r).1 (c.nRow r*2) (fun j=>.int .i64 (c.row r j))):=HT.out.row r hr3;obtain ⟨tb,to,ept,hrc⟩:=hT.rows.at (show 0<3 by omega);rw [ept] at g1;have g2:wr.cell? ⟨tb,to+r,none⟩=some (.slice (Fr r).1 (c.nRow r) (Fr r).2):=hrc r hr3;clear hrc ept hT hB;obtain ⟨nr,HNR⟩:∃nr,Hid (c.nRow r=nr):=⟨_,rfl⟩;have hnr6:nr≤6:=by have:=HC.out.2 r;have:=HNR.out;omega
   rw [HNR.out] at g2 HROW;obtain ⟨pr,hpr⟩:∃pr,(Fr r).1=pr:=⟨_,rfl⟩;obtain ⟨cr,hcr⟩:∃cr,(Fr r).2=cr:=⟨_,rfl⟩;rw [hpr,hcr] at g2;rw [hpr] at HROW;clear hpr hcr;have HR0:Hid ((Mute.budF c cell k++Mute.budR c cell r 0).length=m∧wr.ownsRow w.heap.size 3 1 (.slice pb m cb) m ((Mute.budF c cell k++Mute.budR c cell r 0).map (Value.int .i64 ·))∧Below w.heap.size w wr):=by
    have e:Mute.budF c cell k++Mute.budR c cell r 0=Mute.budF c cell k:=List.append_nil _;show _∧_;rw [e];exact HR.out
   have HBL:Hid ((Mute.budF c cell k).length≤240):=by
    have h1:=budF_len c cell HC.out.2 k;show _≤240;omega
   clear HR;go_wp2_with fail
   go_loopw [13,16] (fun b i wr=>∃(x m:Nat) (pb:Option Addr) (cb:Nat),x≤nr∧i=.int .i64 x∧b=.slice pb m cb∧Hid ((Mute.budF c cell k++Mute.budR c cell r x).length=m∧wr.ownsRow w.heap.size 3 1 (.slice pb m cb) m ((Mute.budF c cell k++Mute.budR c cell r x).map (Value.int .i64 ·))∧Below w.heap.size w wr)) (fun _ i _=>nr-(intOf i).toNat)
   case atStart=>exact ⟨0,m,pb,cb,Nat.zero_le _,rfl,rfl,HR0⟩
   case round=>
    clear HR0 g1 g2;obtain ⟨x,m,pb,cb,hx,rfl,rfl,HR⟩:=hrel;by_cases hxl:x<nr
    ·have hxi:(x:Int)<(nr:Int):=by omega
     obtain ⟨rb,ro,rfl,hc⟩:=(HROW.out.below HR.out.2.2).at (show 0<nr*2 by omega);have c0:=hc (x*2) (by omega);have c1:=hc (x*2+1) (by omega);rw [←Nat.add_assoc] at c1;clear hc;have hm:m≤246:=by
      have h1:=HBL.out;have h2:=budR_len c cell r x;have h3:=HR.out.1;rw [List.length_append] at h3;omega
     by_cases he:c.row r (x*2)=(cell:Int)
     ·have HX:Hid (Mute.budF c cell k++Mute.budR c cell r (x+1)=(Mute.budF c cell k++Mute.budR c cell r x)++[c.row r (x*2+1)]):=by
       show Mute.budF c cell k++(Mute.budR c cell r x++(if c.row r (x*2)=(cell:Int) then [c.row r (x*2+1)] else []))=_;rw [if_pos he,List.append_assoc]
      rw [he] at c0;clear he;obtain ⟨bx,HBX⟩:∃bx,Hid (c.row r (x*2+1)=bx):=⟨_,rfl⟩;rw [HBX.out] at c1 HX;have OW:Hid (∀a,(wr.alloc a).ownsRow w.heap.size 3 1 (.slice pb m cb) m ((Mute.budF c cell k++Mute.budR c cell r x).map (Value.int .i64 ·))):=fun a=>own_below HR.out.2.1 ((Below.refl _ _).alloc (Nat.le_refl _) a);have HSz:Hid (∀a,w.heap.size≤(wr.alloc a).heap.size):=fun a=>by have:=HR.out.2.2.size;simp;omega
      go_wp2_with (at_builtin;refine wpList_append_info _ rfl _ _ 37 rfl w.heap.size 3 _ 1 8 Try.underlying37 info_int1 rfl (by omega) (.slice pb m cb) m ((Mute.budF c cell k++Mute.budR c cell r x).map (Value.int .i64 ·)) rfl (by exact OW.out _) wr.heap.size [_] 3 rfl rfl (by exact alloc_at rfl) (by intro u hu;simp at hu;subst hu;rfl) (by simp only [maxLen];omega) (by omega) (by exact HSz.out _) ?_)
      intro g cp w1 hown hgrow _ _;have hown':w1.ownsRow w.heap.size 3 1 (.slice (some ⟨g,0,none⟩) (m+1) cp) (m+1) ((Mute.budF c cell k++Mute.budR c cell r (x+1)).map (Value.int .i64 ·)):=by
       rw [HX.out,List.map_append,List.map_append,List.append_assoc];exact hown
      have HN:Hid ((Mute.budF c cell k++Mute.budR c cell r (x+1)).length=m+1∧w1.ownsRow w.heap.size 3 1 (.slice (some ⟨g,0,none⟩) (m+1) cp) (m+1) ((Mute.budF c cell k++Mute.budR c cell r (x+1)).map (Value.int .i64 ·))∧Below w.heap.size w w1):=⟨by rw [HX.out,List.length_append,HR.out.1];rfl,hown',(HR.out.2.2.alloc HR.out.2.2.size _).grown hgrow (by have:=HR.out.2.2.size;simp;omega) (fun j hj=>(HR.out.2.1.lt j hj).1)⟩;clear hown hown' hgrow;go_wp2_with fail
      exact ⟨⟨x+1,m+1,some ⟨g,0,none⟩,cp,by omega,by go_num,by simp,HN⟩,by simp [intOf];omega⟩
     ·have HX:Hid (Mute.budF c cell k++Mute.budR c cell r (x+1)=Mute.budF c cell k++Mute.budR c cell r x):=by
       show Mute.budF c cell k++(Mute.budR c cell r x++(if c.row r (x*2)=(cell:Int) then [c.row r (x*2+1)] else []))=_;rw [if_neg he,List.append_nil]
      have HN:Hid ((Mute.budF c cell k++Mute.budR c cell r (x+1)).length=m∧wr.ownsRow w.heap.size 3 1 (.slice pb m cb) m ((Mute.budF c cell k++Mute.budR c cell r (x+1)).map (Value.int .i64 ·))∧Below w.heap.size w wr):=by
       show _∧_;rw [HX.out];exact HR.out
      clear HR HX;generalize c.row r (x*2)=e0 at *;go_wp2_with fail
      exact ⟨⟨x+1,m,pb,cb,by omega,by go_num,by simp,HN⟩,by simp [intOf];omega⟩
    ·obtain rfl:x=nr:=by omega
     have HN:Hid ((Mute.budF c cell (k+1)).length=m∧wr.ownsRow w.heap.size 3 1 (.slice pb m cb) m ((Mute.budF c cell (k+1)).map (Value.int .i64 ·))∧Below w.heap.size w wr):=by
      have e:Mute.budF c cell (k+1)=Mute.budF c cell k++Mute.budR c cell r x:=by
       show Mute.budF c cell k++Mute.budR c cell (k % c.nT) (c.nRow (k % c.nT))=_;rw [HC.out.1,HRr.out,HNR.out]
      show _∧_;rw [e];exact HR.out
     clear HR;go_wp2_with fail
     exact ⟨⟨k+1,m,pb,cb,by omega,by go_num,rfl,HN⟩,by simp [intOf];omega⟩
  ·obtain rfl:k=f:=by omega
   obtain ⟨hml,hown,hB⟩:=HR.out;subst hml;have HO:Hid (Below w.heap.size w wr∧wr.ownsRow w.heap.size 3 1 (.slice pb (Mute.budF c cell k).length cb) (Mute.budF c cell k).length ((Mute.budF c cell k).map (Value.int .i64 ·))):=⟨hB,hown⟩;clear hB hown HR;generalize hLL:(Mute.budF c cell k).length=LL at *;by_cases hkn:k<n
   ·obtain rfl:k=40:=by omega
    have hki:(40:Int)<(n:Int):=by omega
    go_wp2_with fail
    exact ⟨pb,cb,⟨rfl,rfl⟩,HO.out⟩
   ·have hki:¬(k:Int)<(n:Int):=by omega
    go_wp2_with fail
    exact ⟨pb,cb,⟨rfl,rfl⟩,HO.out⟩
end Go.Proofs.Ytdoghgnifkgfdaa
