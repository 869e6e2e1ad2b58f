import Derived.Conc.Own3
import Derived.Conc.Own4
import Derived.Test.YtdoghgnifkgfdaaProg
import Derived.KernelRfl
import Derived.Test.YtdoghgnifkgfdaaP04
import Derived.Test.YtdoghgnifkgfdaaP05
set_option maxRecDepth 100000
set_option maxHeartbeats 16000000
namespace Go.Proofs.Ytdoghgnifkgfdaa.Mute
open Go Go.Conc
open Go.ConcN (sumTo upd sumTo_upd upd_ne upd_same)
section
variable {P:Program} {c k:Nat} {z:Value} {R0 R1:World→World→Prop} {D0 D1:World→World→Array Event→Prop} {SL ML:World→Touch→Prop} {FS:World→Prop} {Fin:Goroutine→World→Prop}
theorem shut_moving {a:Goroutine} {w:World} (h:GoesW P true R0 D0 (StopA P c z R0 D0 ML Fin []) a w):GoesW P true R0 D0 (AtShut P c z R0 ML Fin) a w:=
 h.mono fun g _ ⟨es,h1,h2,h3⟩=>⟨core g,es,h1,h2,h3⟩
theorem shut_woken {a:Goroutine} {w:World} (h:∀w₁,R0 w w₁→StopA P c z R0 D0 ML Fin [] a w₁):GoesW P true R0 D0 (AtShut P c z R0 ML Fin) {parked (core a) #[rcase c z] (.recv true) with status:=.running} w:=
 .stop rfl fun w₁ hr=>by
  obtain ⟨es,h1,h2,h3⟩:=h w₁ hr;exact ⟨core a,es,(stepG_same rfl rfl rfl w₁).trans h1,h2,h3⟩
theorem Ctx.closes (U:Rules c R0 R1 D0 D1 SL ML FS) {gs:Array Goroutine} {w:World} {t:Trace} {q:Nat→Nat} {a b:Goroutine} {sl:Option (Nat×Nat)} (h:Ctx P c k SL ML gs w t q) (ha:gs[0]?=some a) (hb:gs[k]?=some b) (hB:AtCloseW P c FS b w)
  (hA:GoesW P true R0 D0 (StopA P c z R0 D0 ML Fin []) a w∨(∃a₀,a=parked (core a₀) #[rcase c z] (.recv true)∧∀w₁,R0 w w₁→StopA P c z R0 D0 ML Fin [] a₀ w₁)):ResR P Fin FS gs w sl t k:=by
 obtain ⟨pc,gs',w',ops,q',g₂,h1,h2,h3,hmw,hs,hR,hC⟩:=h.close (sl:=sl) U ha hb hB;refine ⟨gs',w',sl,ops,h1,h2,?_⟩;rcases hA with hA|⟨a₀,rfl,hA⟩
 ·rw [woken_running hA.running] at h3;exact shut_run U ((shut_moving hA).rely U.t0 hR) w' gs' sl (t++ops) q' (refl0 U w') h3 hC
 ·have hw:woken P b g₂ w' (parked (core a₀) #[rcase c z] (.recv true))={parked (core a₀) #[rcase c z] (.recv true) with status:=.running}:=by
   obtain ⟨s,r,tm,hc⟩:=hC.chan;unfold woken;rw [if_pos (by rcases hs with e|e<;>simp [hmw,e])];exact again_recv_closed hc
  rw [hw] at h3;exact shut_run U (shut_woken fun w₁ hr=>hA w₁ (U.t0 _ _ _ hR hr)) w' gs' sl (t++ops) q' (refl0 U w') h3 hC
def Phase (P:Program) (c k:Nat) (z:Value) (R0 R1:World→World→Prop) (D0 D1:World→World→Array Event→Prop) (SL ML:World→Touch→Prop) (FS:World→Prop) (Fin:Goroutine→World→Prop) (vs:List Value):Prop:=
 ∀(a b:Goroutine) (w:World) (gs:Array Goroutine) (sl:Option (Nat×Nat)) (t:Trace) (q:Nat→Nat),GoesW P true R0 D0 (StopA P c z R0 D0 ML Fin vs) a w→GoesW P false R1 D1 (StopB P c R1 D1 SL FS vs) b w→
  gs[0]?=some a→gs[k]?=some b→Ctx P c k SL ML gs w t q→Res P Fin FS gs w sl t
theorem main_parked (U:Rules c R0 R1 D0 D1 SL ML FS) {vs:List Value} (IH:∀v vs',vs=v::vs'→Phase P c k z R0 R1 D0 D1 SL ML FS Fin vs') {a b:Goroutine} {w:World} (hB:GoesW P false R1 D1 (StopB P c R1 D1 SL FS vs) b w):
  ∀(w₁:World) (gs:Array Goroutine) (sl:Option (Nat×Nat)) (t:Trace) (q:Nat→Nat),R1 w w₁→(∀w₂,R0 w₁ w₂→StopA P c z R0 D0 ML Fin vs a w₂)→gs[0]?=some (parked (core a) #[rcase c z] (.recv true))→gs[k]?=some b→Ctx P c k SL ML gs w₁ t q→Res P Fin FS gs w₁ sl t:=by
 induction hB with
 | @stop b w hs h=>
  intro w₁ gs sl t q hR hA ha hb hC;refine Ctx.pick U (firm_recv _ _ _) (firm_running hs) (awake_of (.inr (.inl rfl))) (awake_of (.inl hs)) (.inr hs) (fun x=>by cases x) (fun _ d gs sl t q ha hb hC=>?_) gs sl t q ha hb hC;have hR':R1 w (w₁.at d):=U.t1 _ _ _ hR (U.at1 _ d);have hA':∀w₂,R0 (w₁.at d) w₂→StopA P c z R0 D0 ML Fin vs a w₂:=fun w₂ h₂=>hA w₂ (U.t0 _ _ _ (U.at0 _ d) h₂);cases vs with
  |nil=>exact hC.closes U ha hb (h _ hR') (.inr ⟨a,rfl,hA'⟩)
  |cons v vs=>
   obtain ⟨b₂,z',es,h1,h2,h3⟩:=h _ hR';obtain ⟨es0,m1,m2,m3⟩:=hA' _ (refl0 U _);obtain ⟨gs',w',ops,r1,r2,r3,r4,r5,r6,r7⟩:=hC.meet1 (d:=d) (sl:=sl) U ha hb h1 h2;exact ⟨gs',w',sl,ops,r1,r2,IH v vs rfl _ _ _ _ _ _ _ (m3 _ r5) (h3 _ r6) r3 r4 r7⟩
 | @step b w nx hs h1 h2 ih=>
  intro w₁ gs sl t q hR hA ha hb hC;refine Ctx.pick U (firm_recv _ _ _) (firm_running hs) (awake_of (.inr (.inl rfl))) (awake_of (.inl hs)) (.inr hs) (fun x=>by cases x) (fun _ d gs sl t q ha hb hC=>?_) gs sl t q ha hb hC;have hR':R1 w (w₁.at d):=U.t1 _ _ _ hR (U.at1 _ d);obtain ⟨hgo,hD⟩:=h1 _ hR';obtain ⟨gs',ops,r1,r2,r3,r4,r5⟩:=hC.own1 (d:=d) (sl:=sl) U ha hb (firm_recv _ _ _) hgo hD;exact ⟨gs',_,sl,ops,r1,r2,ih _ hR' _ gs' sl (t++ops) q (refl1 U _) (fun w₂ h₂=>hA w₂ (U.t0 _ _ _ (U.at0 _ d) (U.t0 _ _ _ (U.d10 _ _ _ hD) h₂))) r3 r4 r5⟩
theorem other_parked (U:Rules c R0 R1 D0 D1 SL ML FS) {v z':Value} {vs:List Value} (IH:Phase P c k z R0 R1 D0 D1 SL ML FS Fin vs) {a b₂:Goroutine} {w:World} (hA:GoesW P true R0 D0 (StopA P c z R0 D0 ML Fin (v::vs)) a w):
  ∀(w₁:World) (gs:Array Goroutine) (sl:Option (Nat×Nat)) (t:Trace) (q:Nat→Nat),R0 w w₁→(∀w₂,R1 w₁ w₂→GoesW P false R1 D1 (StopB P c R1 D1 SL FS vs) (Go.Conc.served b₂ undef) w₂)→gs[0]?=some a→gs[k]?=some (parked b₂ #[scase c v z'] .send)→Ctx P c k SL ML gs w₁ t q→Res P Fin FS gs w₁ sl t:=by
 induction hA with
 | @stop a w hs h=>
  intro w₁ gs sl t q hR hB ha hb hC;refine Ctx.pick U (firm_running hs) (firm_send _ _ _ _) (awake_of (.inl hs)) (awake_of (.inr (.inl rfl))) (.inl hs) (fun _ d gs sl t q ha hb hC=>?_) (fun x=>by cases x) gs sl t q ha hb hC;have hR':R0 w (w₁.at d):=U.t0 _ _ _ hR (U.at0 _ d);obtain ⟨es,m1,m2,m3⟩:=h _ hR';obtain ⟨gs',w',ops,r1,r2,r3,r4,r5,r6,r7⟩:=hC.meet0 (d:=d) (sl:=sl) U ha hb m1 m2;exact ⟨gs',w',sl,ops,r1,r2,IH _ _ _ _ _ _ _ (m3 _ r5) (hB _ (U.t1 _ _ _ (U.at1 _ d) r6)) r3 r4 r7⟩
 | @step a w nx hs h1 h2 ih=>
  intro w₁ gs sl t q hR hB ha hb hC;refine Ctx.pick U (firm_running hs) (firm_send _ _ _ _) (awake_of (.inl hs)) (awake_of (.inr (.inl rfl))) (.inl hs) (fun _ d gs sl t q ha hb hC=>?_) (fun x=>by cases x) gs sl t q ha hb hC;have hR':R0 w (w₁.at d):=U.t0 _ _ _ hR (U.at0 _ d);obtain ⟨hgo,hD⟩:=h1 _ hR';obtain ⟨gs',ops,r1,r2,r3,r4,r5⟩:=hC.own0 (d:=d) (sl:=sl) U ha hb (firm_send _ _ _ _) hgo hD;exact ⟨gs',_,sl,ops,r1,r2,ih _ hR' _ gs' sl (t++ops) q (refl0 U _) (fun w₂ h₂=>hB w₂ (U.t1 _ _ _ (U.at1 _ d) (U.t1 _ _ _ (U.d01 _ _ _ hD) h₂))) r3 r4 r5⟩
theorem notBlocked {g:Goroutine} (h:g.status=.running):g.status≠.blocked:=by rw [h];simp
theorem other_stops (U:Rules c R0 R1 D0 D1 SL ML FS) {vs:List Value} (IH:∀v vs',vs=v::vs'→Phase P c k z R0 R1 D0 D1 SL ML FS Fin vs') {a b:Goroutine} {w:World} {gs:Array Goroutine} {sl:Option (Nat×Nat)} {t:Trace} {q:Nat→Nat}
  (hA:GoesW P true R0 D0 (StopA P c z R0 D0 ML Fin vs) a w) (hB:StopB P c R1 D1 SL FS vs b w) (ha:gs[0]?=some a) (hb:gs[k]?=some b) (hC:Ctx P c k SL ML gs w t q):ResR P Fin FS gs w sl t k:=by
 cases vs with
 |nil=>exact hC.closes U ha hb hB (.inl hA)
 |cons v vs=>
  obtain ⟨b₂,z',es,h1,h2,h3⟩:=hB;obtain ⟨gs',ops,r1,r2,r3,r4,r5⟩:=hC.wait1 (d:=w.drawn) (sl:=sl) U ha hb (notBlocked hA.running) h1 h2;exact ⟨gs',_,sl,ops,r1,r2,other_parked U (IH v vs rfl) hA _ gs' sl (t++ops) q (refl0 U _) h3 r3 r4 r5⟩
theorem main_stops (U:Rules c R0 R1 D0 D1 SL ML FS) {vs:List Value} (IH:∀v vs',vs=v::vs'→Phase P c k z R0 R1 D0 D1 SL ML FS Fin vs') {a b:Goroutine} {w:World} {gs:Array Goroutine} {sl:Option (Nat×Nat)} {t:Trace} {q:Nat→Nat}
  (hA:∀w₂,R0 w w₂→StopA P c z R0 D0 ML Fin vs a w₂) (hB:GoesW P false R1 D1 (StopB P c R1 D1 SL FS vs) b w) (ha:gs[0]?=some a) (hb:gs[k]?=some b) (hC:Ctx P c k SL ML gs w t q):ResR P Fin FS gs w sl t 0:=by
 have hst:∃es,stepG P true a w=.comm (core a) #[rcase c z] true (.recv true) w es∧∀e∈es,EvOk e∧∀x,(MemAct.ofEvent e).touch?=some x→x.loc.isMemory=true→ML w x:=by
  have:=hA w (refl0 U w);cases vs with
  |nil=>exact ⟨this.choose,this.choose_spec.1,this.choose_spec.2.1⟩
  |cons v vs=>exact ⟨this.choose,this.choose_spec.1,this.choose_spec.2.1⟩
 obtain ⟨es,h1,h2⟩:=hst;obtain ⟨gs',ops,r1,r2,r3,r4,r5⟩:=hC.wait0 (d:=w.drawn) (sl:=sl) U ha hb (notBlocked hB.running) h1 h2;exact ⟨gs',_,sl,ops,r1,r2,main_parked U IH hB _ gs' sl (t++ops) q (refl1 U _) hA r3 r4 r5⟩
theorem phase_of (U:Rules c R0 R1 D0 D1 SL ML FS) {vs:List Value} (IH:∀v vs',vs=v::vs'→Phase P c k z R0 R1 D0 D1 SL ML FS Fin vs') {a:Goroutine} {w:World} (hA:GoesW P true R0 D0 (StopA P c z R0 D0 ML Fin vs) a w):
  ∀{b:Goroutine} {w₁:World},GoesW P false R1 D1 (StopB P c R1 D1 SL FS vs) b w₁→∀(w₂:World) (gs:Array Goroutine) (sl:Option (Nat×Nat)) (t:Trace) (q:Nat→Nat),R1 w₁ w₂→R0 w w₂→gs[0]?=some a→gs[k]?=some b→Ctx P c k SL ML gs w₂ t q→Res P Fin FS gs w₂ sl t:=by
 induction hA with
 | @stop a w hs h=>
  intro b w₁ hB;induction hB with
  | @stop b w₁ hs' h'=>
   intro w₂ gs sl t q hR1 hR0 ha hb hC;refine Ctx.pick U (firm_running hs) (firm_running hs') (awake_of (.inl hs)) (awake_of (.inl hs')) (.inl hs) (fun _ d gs sl t q ha hb hC=>?_) (fun _ d gs sl t q ha hb hC=>?_) gs sl t q ha hb hC
   ·exact main_stops U IH (fun w₃ h₃=>h w₃ (U.t0 _ _ _ hR0 (U.t0 _ _ _ (U.at0 _ d) h₃))) (.stop hs' fun w₃ h₃=>h' w₃ (U.t1 _ _ _ hR1 (U.t1 _ _ _ (U.at1 _ d) h₃))) ha hb hC
   ·exact other_stops U IH (.stop hs fun w₃ h₃=>h w₃ (U.t0 _ _ _ hR0 (U.t0 _ _ _ (U.at0 _ d) h₃))) (h' _ (U.t1 _ _ _ hR1 (U.at1 _ d))) ha hb hC
  | @step b w₁ nx hs' h1 h2 ih=>
   intro w₂ gs sl t q hR1 hR0 ha hb hC;have hB:GoesW P false R1 D1 (StopB P c R1 D1 SL FS vs) b w₁:=.step nx hs' h1 h2;refine Ctx.pick U (firm_running hs) (firm_running hs') (awake_of (.inl hs)) (awake_of (.inl hs')) (.inl hs) (fun _ d gs sl t q ha hb hC=>?_) (fun _ d gs sl t q ha hb hC=>?_) gs sl t q ha hb hC
   ·exact main_stops U IH (fun w₃ h₃=>h w₃ (U.t0 _ _ _ hR0 (U.t0 _ _ _ (U.at0 _ d) h₃))) (hB.rely U.t1 (U.t1 _ _ _ hR1 (U.at1 _ d))) ha hb hC
   ·have hR':R1 w₁ (w₂.at d):=U.t1 _ _ _ hR1 (U.at1 _ d);obtain ⟨hgo,hD⟩:=h1 _ hR';obtain ⟨gs',ops,r1,r2,r3,r4,r5⟩:=hC.own1 (d:=d) (sl:=sl) U ha hb (firm_running hs) hgo hD;exact ⟨gs',_,sl,ops,r1,r2,ih _ hR' _ gs' sl (t++ops) q (refl1 U _) (U.t0 _ _ _ hR0 (U.t0 _ _ _ (U.at0 _ d) (U.d10 _ _ _ hD))) r3 r4 r5⟩
 | @step a w nx0 hs h01 h02 ih0=>
  intro b w₁ hB;have hA:GoesW P true R0 D0 (StopA P c z R0 D0 ML Fin vs) a w:=.step nx0 hs h01 h02;induction hB with
  | @stop b w₁ hs' h'=>
   intro w₂ gs sl t q hR1 hR0 ha hb hC;have hB:GoesW P false R1 D1 (StopB P c R1 D1 SL FS vs) b w₁:=.stop hs' h';refine Ctx.pick U (firm_running hs) (firm_running hs') (awake_of (.inl hs)) (awake_of (.inl hs')) (.inl hs) (fun _ d gs sl t q ha hb hC=>?_) (fun _ d gs sl t q ha hb hC=>?_) gs sl t q ha hb hC
   ·have hR':R0 w (w₂.at d):=U.t0 _ _ _ hR0 (U.at0 _ d);obtain ⟨hgo,hD⟩:=h01 _ hR';obtain ⟨gs',ops,r1,r2,r3,r4,r5⟩:=hC.own0 (d:=d) (sl:=sl) U ha hb (firm_running hs') hgo hD;exact ⟨gs',_,sl,ops,r1,r2,ih0 _ hR' (hB.rely U.t1 (U.t1 _ _ _ hR1 (U.t1 _ _ _ (U.at1 _ d) (U.d01 _ _ _ hD)))) _ gs' sl (t++ops) q (refl1 U _) (refl0 U _) r3 r4 r5⟩
   ·exact other_stops U IH (hA.rely U.t0 (U.t0 _ _ _ hR0 (U.at0 _ d))) (h' _ (U.t1 _ _ _ hR1 (U.at1 _ d))) ha hb hC
  | @step b w₁ nx hs' h1 h2 ih=>
   intro w₂ gs sl t q hR1 hR0 ha hb hC;have hB:GoesW P false R1 D1 (StopB P c R1 D1 SL FS vs) b w₁:=.step nx hs' h1 h2;refine Ctx.pick U (firm_running hs) (firm_running hs') (awake_of (.inl hs)) (awake_of (.inl hs')) (.inl hs) (fun _ d gs sl t q ha hb hC=>?_) (fun _ d gs sl t q ha hb hC=>?_) gs sl t q ha hb hC
   ·have hR':R0 w (w₂.at d):=U.t0 _ _ _ hR0 (U.at0 _ d);obtain ⟨hgo,hD⟩:=h01 _ hR';obtain ⟨gs',ops,r1,r2,r3,r4,r5⟩:=hC.own0 (d:=d) (sl:=sl) U ha hb (firm_running hs') hgo hD;exact ⟨gs',_,sl,ops,r1,r2,ih0 _ hR' (hB.rely U.t1 (U.t1 _ _ _ hR1 (U.t1 _ _ _ (U.at1 _ d) (U.d01 _ _ _ hD)))) _ gs' sl (t++ops) q (refl1 U _) (refl0 U _) r3 r4 r5⟩
   ·have hR':R1 w₁ (w₂.at d):=U.t1 _ _ _ hR1 (U.at1 _ d);obtain ⟨hgo,hD⟩:=h1 _ hR';obtain ⟨gs',ops,r1,r2,r3,r4,r5⟩:=hC.own1 (d:=d) (sl:=sl) U ha hb (firm_running hs) hgo hD;exact ⟨gs',_,sl,ops,r1,r2,ih _ hR' _ gs' sl (t++ops) q (refl1 U _) (U.t0 _ _ _ hR0 (U.t0 _ _ _ (U.at0 _ d) (U.d10 _ _ _ hD))) r3 r4 r5⟩
theorem phase (U:Rules c R0 R1 D0 D1 SL ML FS):∀vs,Phase P c k z R0 R1 D0 D1 SL ML FS Fin vs
 | []=>fun _ _ w gs sl t q hA hB ha hb hC=>phase_of U (fun _ _ e=>by cases e) hA hB w gs sl t q (refl1 U w) (refl0 U w) ha hb hC
 |_::vs=>fun _ _ w gs sl t q hA hB ha hb hC=>phase_of U (fun _ _ e=>by cases e;exact phase U vs) hA hB w gs sl t q (refl1 U w) (refl0 U w) ha hb hC
end
def RunsB (P:Program) (Post:Goroutine→World→Prop) (a:Goroutine) (w:World):Prop:=
 ∀(gs:Array Goroutine) (sl:Option (Nat×Nat)) (t:Trace) (q:Nat→Nat) (d:Nat),gs[0]?=some a→Leavers P t gs q→PastE t→
  ∃N gs' a' w' sl' t' q',runNT P N (crowd gs (w.at d) sl) t=(.next (crowd gs' w' sl'),t')∧gs.size≤gs'.size∧gs'[0]?=some a'∧Post a' w'∧Leavers P t' gs' q'∧PastE t'
section
variable {P:Program} {Post Q:Goroutine→World→Prop} {a:Goroutine} {w:World}
theorem runNT_glue {m m' m'':Machine} {t t' t'':Trace} {N K:Nat} (h:runNT P N m t=(.next m',t')) (hk:runNT P K m' t'=(.next m'',t'')):runNT P (N+K) m t=(.next m'',t''):=by
 induction N generalizing m t with
 |zero=>
  simp only [runNT] at h;cases h;rw [Nat.zero_add];exact hk
 |succ N ih=>
  rw [show N+1+K=(N+K)+1 by omega];simp only [runNT] at h ⊢;split at h
  ·exact ih h
  ·rename_i hx _
   simp only [Prod.mk.injEq] at h;exact absurd h.1 (hx _)
theorem RunsB.done (h:∀d,Post a (w.at d)):RunsB P Post a w:=fun gs sl t q d h0 hL hP=>⟨0,gs,a,w.at d,sl,t,q,rfl,Nat.le_refl _,h0,h d,hL,hP⟩
theorem RunsB.at (h:RunsB P Post a w) (d:Nat):RunsB P Post a (w.at d):=fun gs sl t q d' h0 hL hP=>h gs sl t q d' h0 hL hP
theorem RunsB.bind (h:RunsB P Q a w) (hm:∀a' w',Q a' w'→RunsB P Post a' w'):RunsB P Post a w:=fun gs sl t q d h0 hL hP=>by
 obtain ⟨N,gs',a',w',sl',t',q',h1,h2,h3,h4,h5,h6⟩:=h gs sl t q d h0 hL hP;obtain ⟨M,gs2,a2,w2,sl2,t2,q2,k1,k2,k3⟩:=hm _ _ h4 gs' sl' t' q' w'.drawn h3 h5 h6;exact ⟨N+M,gs2,a2,w2,sl2,t2,q2,runNT_glue h1 k1,Nat.le_trans h2 k2,k3⟩
theorem leavers_awake {gs:Array Goroutine} {t:Trace} {q:Nat→Nat} (hL:Leavers P t gs q) (ha:gs[0]?=some a) (hr:a.status=.running):∀g∈gs,awake g:=by
 intro g hg;obtain ⟨i,hi,rfl⟩:=Array.mem_iff_getElem.1 hg;rcases Nat.eq_zero_or_pos i with rfl|hpos
 ·have:gs[0]=a:=by simpa [Array.getElem?_eq_getElem hi] using ha
  rw [this];exact awake_of (.inl hr)
 ·exact awake_of ((hL.old i _ hpos (Array.getElem?_eq_getElem hi)).status.elim .inl fun x=>.inr (.inr x))
theorem leavers_slip {gs:Array Goroutine} {t:Trace} {q:Nat→Nat} {g:Goroutine} {i:Nat} {sl:Option (Nat×Nat)} (hL:Leavers P t gs q) (hP:PastE t) (ha:gs[0]?=some a) (hr:a.status=.running) (hi:gs[i]?=some g) (hg:g.status=.running) (hpos:0<i):
  ∃gs' ops q',runT P (crowd gs w sl) i=(.next (crowd gs' w sl),ops)∧gs'.size=gs.size∧gs'[0]?=some a∧Leavers P (t++ops) gs' q'∧PastE (t++ops)∧sumTo gs'.size q'<sumTo gs.size q:=by
 have hq:=hL.old i g hpos hi;have hi0:i≠0:=by omega
 have hlt:i<gs.size:=(Array.getElem?_eq_some_iff.1 hi).1;have hi0':(i==0)=false:=by simp;omega
 cases hqi:q i with
 |zero=>rw [hqi] at hq;rw [hq.1] at hg;cases hg
 |succ m=>
  rw [hqi] at hq;rcases hq with ⟨hf,_⟩|⟨_,g',es,hm,hstp,hq'⟩
  ·rw [hf] at hg;cases hg
  have hrunT:=runT_crowd_go (P:=P) (sl:=sl) (i:=i) hi (by rw [hi0'];exact hstp w);have hsz:((gs.map (woken P g g' w)).setIfInBounds i g').size=gs.size:=by simp
  have hsum:sumTo gs.size (upd q i m)+(m+1)=sumTo gs.size q+m:=by
   have:=sumTo_upd q m id hlt;simpa [hqi] using this
  refine ⟨_,_,upd q i m,hrunT,hsz,?_,⟨fun j x hj hx=>?_,fun j hj=>?_⟩,hP.mute hi0 hm,by rw [hsz];omega⟩
  ·rw [Array.getElem?_setIfInBounds_ne hi0,Array.getElem?_map,ha];simp [woken_running hr]
  ·by_cases hji:i=j
   ·subst hji;rw [Array.getElem?_setIfInBounds_self_of_lt (by simpa using hlt)] at hx;obtain rfl:=Option.some.inj hx;rw [upd_same,Deaf_own];exact hq'
   ·rw [Array.getElem?_setIfInBounds_ne hji,Array.getElem?_map] at hx;obtain ⟨y,hy,rfl⟩:=Option.map_eq_some_iff.1 hx;have hqj:=hL.old j y hj hy;rw [woken_quitsD hqj,upd_ne q m (Ne.symm hji),Deaf_other t hji _ ofEvents_g];exact hqj
  ·rw [Deaf_other t (g':=i) (by simp at hj;omega) _ ofEvents_g];exact hL.above j (by simpa using hj)
theorem RunsB.picked (hr:a.status=.running) (H:∀(gs:Array Goroutine) (sl:Option (Nat×Nat)) (t:Trace) (q:Nat→Nat) (d:Nat),gs[0]?=some a→Leavers P t gs q→PastE t→
   ∃gs1 w1 sl1 ops q1 N gs' a' w' sl' t' q',runT P (crowd gs (w.at d) sl) 0=(.next (crowd gs1 w1 sl1),ops)∧q1=q∧runNT P N (crowd gs1 w1 sl1) (t++ops)=(.next (crowd gs' w' sl'),t')∧gs.size≤gs'.size∧gs'[0]?=some a'∧Post a' w'∧Leavers P t' gs' q'∧PastE t'):RunsB P Post a w:=by
 intro gs sl t q;generalize hM:sumTo gs.size q=M;induction M using Nat.strongRecOn generalizing gs sl t q with
 |_ M ihM=>
  intro d h0 hL hP;obtain ⟨i,g,d',sl',hi,hg,hst⟩:=crowd_pick (P:=P) (w:=w.at d) (sl:=sl) (leavers_awake hL h0 hr) ⟨0,_,h0,hr⟩;by_cases hi0:i=0
  ·subst hi0;obtain ⟨gs1,w1,sl1,ops,q1,N,gs',a',w',sl2,t',q',e1,_,e2,e3⟩:=H gs sl' t q d' h0 hL hP;exact ⟨N+1,gs',a',w',sl2,t',q',by simp only [runNT,hst];rw [show ((w.at d).at d')=w.at d' from rfl,e1];exact e2,e3⟩
  ·obtain ⟨gs',ops,q',e1,e2,e3,e4,e5,e6⟩:=leavers_slip (w:=(w.at d).at d') (sl:=sl') hL hP h0 hr hi hg (by omega);obtain ⟨N,gs2,a2,w2,sl2,t2,q2,k1,k2,k3⟩:=ihM _ (by omega) gs' sl' (t++ops) q' rfl d' e3 e4 e5;exact ⟨N+1,gs2,a2,w2,sl2,t2,q2,by simp only [runNT,hst,e1];exact k1,by omega,k3⟩
theorem RunsB.step (hr:a.status=.running) (h:∀d,∃a' w' es,stepG P true a (w.at d)=.go a' w' es∧(∀e∈es,EvOk e)∧RunsB P Post a' w'):RunsB P Post a w:=by
 refine .picked hr fun gs sl t q d h0 hL hP=>?_;obtain ⟨a',w',es,hgo,hes,hR⟩:=h d;have hlt:0<gs.size:=(Array.getElem?_eq_some_iff.1 h0).1;have hrunT:=runT_crowd_go (P:=P) (sl:=sl) (i:=0) h0 (show stepG P (0==0) a (w.at d)=_ from hgo);obtain ⟨N,gs2,a2,w2,sl2,t2,q2,k1,k2,k3⟩:=hR ((gs.map (woken P a a' w')).setIfInBounds 0 a') sl (t++MemOp.ofEvents 0 a.frame.fn a.frame.place es) q w'.drawn (by simp [hlt])
  ⟨fun j x hj hx=>by
   rw [Array.getElem?_setIfInBounds_ne (by omega),Array.getElem?_map] at hx;obtain ⟨y,hy,rfl⟩:=Option.map_eq_some_iff.1 hx;have hqj:=hL.old j y hj hy;rw [woken_quitsD hqj,Deaf_other t (by omega) _ ofEvents_g];exact hqj,fun j hj=>by
   rw [Deaf_other t (g':=0) (by simp at hj;omega) _ ofEvents_g];exact hL.above j (by simpa using hj)⟩ (hP.own hes)
 exact ⟨_,_,_,_,q,N,gs2,a2,w2,sl2,t2,q2,hrunT,rfl,k1,by simpa using k2,k3⟩
theorem RunsB.of_callsB {f:FuncId} {args:Array Value} {R:Ending→World→Prop} (cs:List Frame) (h:CallsB P f args w R)
  (hp:∀fr e w' d',fr.fn=f→(∀τ d,fr.leaving P (reW w' τ d) e)→R e w'→RunsB P Post (G fr cs) (reW w' w.tape d')):RunsB P Post (G (Frame.enter P f args .normal) cs) w:=by
 intro gs sl t q d h0 hL hP;obtain ⟨N,gs',fr',w',d',sl',t',q',e,h1,h2,h3,h4,h5,h6,h7,h8⟩:=h gs sl t q cs w.tape d h0 hL hP;obtain ⟨M,gs2,a2,w2,sl2,t2,q2,k1,k2,k3⟩:=hp fr' e w' d' h4 h5 h6 gs' sl' t' q' d' h3 h7 h8;exact ⟨N+M,gs2,a2,w2,sl2,t2,q2,runNT_glue (show runNT P N (crowd gs (w.at d) sl) t=_ from h1) k1,Nat.le_trans h2 k2,k3⟩
end
section
variable {P:Program} {c:Nat} {z:Value} {R0 R1:World→World→Prop} {D0 D1:World→World→Array Event→Prop} {SL ML:World→Touch→Prop} {FS:World→Prop} {Fin Post:Goroutine→World→Prop}
theorem RunsB.fork (U:Rules c R0 R1 D0 D1 SL ML FS) {vs:List Value} {a:Goroutine} {w:World} (hr:a.status=.running)
  (h:∀d,∃a' b w' es,stepG P true a (w.at d)=.spawn a' b w' es∧(∀e∈es,EvOk e)∧(∃s r tm,w'.heap[c]?=some (.chan 0 #[] false s r tm))∧GoesW P true R0 D0 (StopA P c z R0 D0 ML Fin vs) a' w'∧GoesW P false R1 D1 (StopB P c R1 D1 SL FS vs) b w')
  (hp:∀a' w',Fin a' w'→FS w'→RunsB P Post a' w'):RunsB P Post a w:=by
 refine RunsB.bind (Q:=fun a' w'=>Fin a' w'∧FS w') (.picked hr fun gs sl t q d h0 hL hP=>?_) fun a' w' ⟨x,y⟩=>hp a' w' x y;obtain ⟨a',b,w',es,hsp,hes,hc,hA,hB⟩:=h d;have hlt:0<gs.size:=(Array.getElem?_eq_some_iff.1 h0).1;have hrunT:=runT_crowd_spawn (P:=P) (sl:=sl) (i:=0) h0 (show stepG P (0==0) a (w.at d)=_ from hsp);have hk0:gs.size≠0:=by omega
 have e2:∀x y,(((MemOp.ofEvents 0 a.frame.fn a.frame.place es).push x).push y:Trace)=MemOp.ofEvents 0 a.frame.fn a.frame.place es++#[x,y]:=fun x y=>Array.ext' (by simp);rw [e2] at hrunT;have hq:∀(j:Nat) (op:MemOp),op∈(#[{g:=0,fn:=a.frame.fn,pos:=a.frame.place,act:=.go gs.size},{g:=gs.size,fn:=b.frame.fn,pos:=a.frame.place,act:=.start}]:Trace)→∀d,deafStep j d op=d:=fun j op hop=>by
  simp only [List.mem_toArray,List.mem_cons,List.not_mem_nil,or_false] at hop;rcases hop with rfl|rfl<;>exact fun _=>rfl
 have hd:∀j,j≠0→Deaf (t++(MemOp.ofEvents 0 a.frame.fn a.frame.place es++#[{g:=0,fn:=a.frame.fn,pos:=a.frame.place,act:=.go gs.size},{g:=gs.size,fn:=b.frame.fn,pos:=a.frame.place,act:=.start}])) j=Deaf t j:=fun j hj=>Deaf_two ofEvents_g (Ne.symm hj) (hq j);have hC:Ctx P c gs.size SL ML ((gs.setIfInBounds 0 a').push b) w' (t++(MemOp.ofEvents 0 a.frame.fn a.frame.place es++#[{g:=0,fn:=a.frame.fn,pos:=a.frame.place,act:=.go gs.size},{g:=gs.size,fn:=b.frame.fn,pos:=a.frame.place,act:=.start}])) q:=by
  refine ⟨hk0,hc,fun i g hi0 hik hi=>?_,fun j hj=>?_,?_⟩
  ·have hi':gs[i]?=some g:=by
    rw [Array.getElem?_push] at hi;simp only [Array.size_setIfInBounds,hik,if_false] at hi;rw [Array.getElem?_setIfInBounds_ne (Ne.symm hi0)] at hi;exact hi
   rw [hd i hi0];exact hL.old i g (by omega) hi'
  ·have hj':gs.size+1≤j:=by simpa using hj
   rw [hd j (by omega)];exact hL.above j (by omega)
  ·rw [←Array.append_assoc];exact PastD.fork (hP.own hes) (by rw [Deaf_other t (Ne.symm hk0) _ ofEvents_g];exact hL.above _ (Nat.le_refl _)) _ _ _
 obtain ⟨N,gs2,a2,w2,sl2,t2,q2,k1,k2,k3,k4,k5,k6,k7⟩:=phase U vs a' b w' _ sl _ q hA hB (by rw [Array.getElem?_push,if_neg (by simp;omega),Array.getElem?_setIfInBounds_self_of_lt hlt]) (by rw [Array.getElem?_push,if_pos (by simp)]) hC;exact ⟨_,_,_,_,q,N,gs2,a2,w2,sl2,t2,q2,hrunT,rfl,k1,by rw [k2];simp,k3,⟨k4,k5⟩,k6,k7⟩
end
section
variable {P:Program} {A:Plan} {Post:Goroutine→World→Prop} {b:Frame} {a:Act} {k:List Item} {cs:List Frame} {w:World}
theorem events_runT {α:Type} (s:Sem α) (w:World):s.events P w #[]=(s.runT P w #[]).2:=by rw [Sem.runT_eq]
theorem listed_ok (H:PlainProg P A) {o:Oper} (hs:SlotsOk A b.fn (fun t=>a.tmps.getD t undef)) (hp:plainOper P A b.fn o=true) (w:World):∀e∈listed P b.fn a o w,EvOk e:=by
 have ho:=execOp_ok (ρ:=a.eval) H hs (fun _=>rfl) hp;obtain ⟨_,s2⟩:=runT_sound P _ w #[] ho (by simp);unfold listed;rw [events_runT];exact evOk_seen s2
def CallsR (P:Program) (f:FuncId) (args:Array Value) (w:World) (R:Value→World→Prop):Prop:=
 ∀(cs:List Frame) (Post:Goroutine→World→Prop),(∀fr v w',fr.fn=f→(∀d,fr.leaving P (w'.at d) (.returned v))→R v w'→RunsB P Post (G fr cs) w')→RunsB P Post (G (Frame.enter P f args .normal) cs) w
theorem CallsR.mono {f:FuncId} {args:Array Value} {R R':Value→World→Prop} (h:CallsR P f args w R) (hm:∀v w',R v w'→R' v w'):CallsR P f args w R':=fun cs Post hp=>h cs Post fun fr v w' a b c=>hp fr v w' a b (hm v w' c)
theorem CallsR.of_calls (H:PlainProg P A) (hstep:∀g,P.stepOf g=none) {f:FuncId} {args:Array Value} (hen:EnterOk P A f args) (R:Value→World→Prop)
  (hc:∀τ,Calls P f args (reW w τ 0) (fun e w'=>∃v,e=.returned v∧R v w')):CallsR P f args w (fun v w'=>∃w₁ τ d d',R v (reW w₁ τ d)∧w'=reW w₁ w.tape d'):=fun cs Post hp=>by
 refine RunsB.of_callsB cs (callsB_of_calls H hstep hen (fun _ e w'=>∃v,e=.returned v∧R v w') hc (fun _ _ ⟨v,e,_⟩=>by cases e)) fun fr e w' d' hf hl ⟨τ,d,v,e1,hR⟩=>?_;subst e1;exact hp fr v (reW w' w.tape d') hf (fun d=>hl w.tape d) ⟨w',τ,d,d',hR,rfl⟩
theorem RunsB.leave {fr c:Frame} {v:Value} (hl:∀d,fr.leaving P (w.at d) (.returned v)) (h:RunsB P Post (G (c.finish v) cs) w):RunsB P Post (G fr (c::cs)) w:=by
 refine .step rfl fun d=>?_;obtain ⟨hm,hd,hk,fn,hf,hr⟩:=hl d;have ho:=results_ok (P:=P) fn fr.tmps;obtain ⟨_,s2⟩:=runT_sound P _ (w.at d) #[] ho (by simp);refine ⟨G (c.finish v) cs,w.at d,seen P fr.fn ((results fn fr.tmps).runT P (w.at d) #[]).2,?_,evOk_seen s2,h.at d⟩;rw [stepG_unwind (by rw [hm];simp)];have hr':((results fn fr.tmps).runT P (w.at d) #[]).1=.ok v (w.at d):=by rw [Sem.runT_fst];exact hr
 unfold unwind;cases hx:(results fn fr.tmps).runT P (w.at d) #[] with
 |mk r es=>
  rw [hx] at hr';simp only at hr';subst hr';simp only [hd,hm,hf,hx,doReturn,hk,GStep.after];simp [G]
theorem RunsB.call {ops:Array Oper} {i:Nat} {rest:List Nat} {o:Oper} {f:FuncId} {args:Array Value} {R:Value→World→Prop} (ho:ops[i]?=some o) (hw:Region.wanted o (yielded ops a.tmps)=true) (hk:b.kind≠.early)
  (hr:∀d,(execOp a.eval o).run P (w.at d)=.ok (.enter f args) (w.at d)) (he:∀d,∀e∈listed P b.fn a o (w.at d),EvOk e) (hc:CallsR P f args w R)
  (h:∀v w',R v w'→RunsB P Post (G (b.at (a.put o.dst v) (.inRegion ops rest::k)) cs) w'):RunsB P Post (G (b.at a (.inRegion ops (i::rest)::k)) cs) w:=by
 refine .step rfl fun d=>⟨_,_,_,stepG_enter ho hw hk (hr d),he d,RunsB.at (hc _ _ fun fr v w' _ hl hR=>?_) d⟩;refine RunsB.leave hl ?_;have hfin:(b.at a (.inRegion ops (i::rest)::k)).finish v=b.at (a.put o.dst v) (.inRegion ops rest::k):=by rw [Frame.finish_at,ho];rfl
 rw [hfin];exact h v w' hR
theorem CallsR.intro {f:FuncId} {args:Array Value} {R:Value→World→Prop} {fn:Func} {c:Code} (hf:P.funcs[f]?=some fn) (hb:fn.body=some c)
  (h:∀(cs:List Frame) (Post:Goroutine→World→Prop),(∀(a:Act) (todo:List Item) (v:Value) (w':World),a.defers=[]→(∀d,(results fn a.tmps).run P (w'.at d)=.ok v (w'.at d))→R v w'→RunsB P Post (G {(base f).at a todo with mode:=.returning} cs) w')→
   RunsB P Post (G ((base f).at {tmps:=args++Array.replicate (fn.ntmps-args.size) undef,defers:=[]} [.code c]) cs) w):CallsR P f args w R:=fun cs Post hp=>by
 rw [enter_at args hf hb];exact h cs Post fun a todo v w' hd hr hR=>hp _ v w' rfl (fun d=>⟨rfl,hd,rfl,fn,hf,hr d⟩) hR
end
def planFns:List Nat:=[3,8,9,10,11,14,16,17,18,19,20,21,22,23,24,25,26,27,28,29,31,32,33,35,36,37,38,39,40,41,42,43,44,45,46,47,48,49,50,51,52,53,54,55,57,58,59,60,61,62,63,64,65,66,67,70,71,72,73,74,75,76,77,78,79,80,82,84,85,86,87,88,89,90,92,93,94,95,96,97,98,99,100,102,103,104,106,107]
def planFs:List (Nat×Nat):=[(59,14),(60,9),(61,9),(70,1),(70,11),(73,1),(73,11),(76,1),(76,11),(80,29),(84,1),(84,6),(92,1),(92,11),(103,8),(106,1),(106,11)]
def planPs:List (Nat×Nat):=[(88,15),(89,7),(90,11)]
def planCf:List Nat:=[71,74,77,85,107]
def plan:Plan:={fns:=fun f=>planFns.contains f,fs:=fun h t=>planFs.contains (h,t),ps:=fun h t=>planPs.contains (h,t),cf:=fun f=>planCf.contains f}
def codeB (P:Program) (A:Plan) (f:Nat):Bool:=match P.funcs[f]? with
 |some fn=>match fn.body with
  |some c=>plainCode P A f c
  |none=>true
 |none=>true
theorem plain_code:planFns.all (codeB Try.prog plan)=true:=by kernel_rfl
theorem plain_cf:planCf.all (fun f=>hasBody Try.prog plan f && noSlots Try.prog plan f)=true:=by kernel_rfl
def farB (P:Program) (l:List (Nat×Nat)):Bool:=l.all fun x=>match P.funcs[x.1]? with
 |some fn=>decide (x.2<fn.ntmps+64)
 |none=>true
theorem plain_far:farB Try.prog planFs=true∧farB Try.prog planPs=true:=⟨by kernel_rfl,by kernel_rfl⟩
theorem far_of {P:Program} {l:List (Nat×Nat)} (h:farB P l=true) {f t:Nat} {fn:Func} (hf:P.funcs[f]?=some fn) (ht:fn.ntmps+64≤t):l.contains (f,t)=false:=by
 cases hc:l.contains (f,t) with
 |false=>rfl
 |true=>
  have hm:(f,t)∈l:=by simpa using hc
  have:=List.all_eq_true.1 h _ hm;simp only [hf,decide_eq_true_eq] at this;omega
theorem plain:PlainProg Try.prog plan where
 code f fn c hA hf hc:=by
  have hm:f∈planFns:=by simpa [plan] using hA
  have:=List.all_eq_true.1 plain_code f hm;unfold codeB at this;simpa only [hf,hc] using this
 cf f hc:=by
  have hm:f∈planCf:=by simpa [plan] using hc
  have:=List.all_eq_true.1 plain_cf f hm;simpa using this
 far f t fn hf ht:=⟨far_of plain_far.1 hf ht,far_of plain_far.2 hf ht⟩
theorem no_readies:Try.prog.funcs.all (fun f=>match f.body with|some c=>(readies c).isEmpty|none=>true)=true:=by kernel_rfl
theorem no_stepOf (g:Nat):Try.prog.stepOf g=none:=by
 unfold Program.stepOf;rw [Array.findIdx?_eq_none_iff];intro f hf;have:=Array.all_eq_true_iff_forall_mem.1 no_readies f hf;cases hb:f.body with
 |none=>rfl
 |some c=>
  simp only [hb] at this;have e:readies c=[]:=by simpa using this
  simp [e]
end Go.Proofs.Ytdoghgnifkgfdaa.Mute
