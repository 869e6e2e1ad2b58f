import Derived.Conc.CompanyMem
import Derived.Conc.Own3
import Derived.Conc.Own4
import Derived.Conc.Own5
import Derived.Test.YtdoghgnifkgfdaaP01
import Derived.Test.YtdoghgnifkgfdaaP17
set_option maxRecDepth 100000
set_option maxHeartbeats 16000000
namespace Go.Proofs.Ytdoghgnifkgfdaa.Mute
open Go Go.Conc
open Go.ConcN (sumTo upd sumTo_upd upd_ne upd_same)
section
variable {P:Program} {c k:Nat} {z:Value} {R0 R1:World→World→Prop} {D0 D1:World→World→Array Event→Prop} {SL ML:World→Touch→Prop} {FS:World→Prop} {Fin:Goroutine→World→Prop}
theorem shut_moving {a:Goroutine} {w:World} (h:GoesW P true R0 D0 (StopA P c z R0 D0 ML Fin []) a w):GoesW P true R0 D0 (AtShut P c z R0 ML Fin) a w:=
 h.mono fun g _ ⟨es,h1,h2,h3⟩=>⟨core g,es,h1,h2,h3⟩
theorem shut_woken {a:Goroutine} {w:World} (h:∀w₁,R0 w w₁→StopA P c z R0 D0 ML Fin [] a w₁):GoesW P true R0 D0 (AtShut P c z R0 ML Fin) {parked (core a) #[rcase c z] (.recv true) with status:=.running} w:=
 .stop rfl fun w₁ hr=>by
  obtain ⟨es,h1,h2,h3⟩:=h w₁ hr;exact ⟨core a,es,(stepG_same rfl rfl rfl w₁).trans h1,h2,h3⟩
theorem Ctx.closes (U:Rules c R0 R1 D0 D1 SL ML FS) {gs:Array Goroutine} {w:World} {t:Trace} {q:Nat→Nat} {a b:Goroutine} {sl:Option (Nat×Nat)} (h:Ctx P c k SL ML gs w t q) (ha:gs[0]?=some a) (hb:gs[k]?=some b) (hB:AtCloseW P c FS b w)
  (hA:GoesW P true R0 D0 (StopA P c z R0 D0 ML Fin []) a w∨(∃a₀,a=parked (core a₀) #[rcase c z] (.recv true)∧∀w₁,R0 w w₁→StopA P c z R0 D0 ML Fin [] a₀ w₁)):ResR P Fin FS gs w sl t k:=by
 obtain ⟨pc,gs',w',ops,q',g₂,h1,h2,h3,hmw,hs,hR,hC⟩:=h.close (sl:=sl) U ha hb hB;refine ⟨gs',w',sl,ops,h1,h2,?_⟩;rcases hA with hA|⟨a₀,rfl,hA⟩
 ·rw [woken_running hA.running] at h3;exact shut_run U ((shut_moving hA).rely U.t0 hR) w' gs' sl (t++ops) q' (refl0 U w') h3 hC
 ·have hw:woken P b g₂ w' (parked (core a₀) #[rcase c z] (.recv true))={parked (core a₀) #[rcase c z] (.recv true) with status:=.running}:=by
   obtain ⟨s,r,tm,hc⟩:=hC.chan;unfold woken;rw [if_pos (by rcases hs with e|e<;>simp [hmw,e])];exact again_recv_closed hc
  rw [hw] at h3;exact shut_run U (shut_woken fun w₁ hr=>hA w₁ (U.t0 _ _ _ hR hr)) w' gs' sl (t++ops) q' (refl0 U w') h3 hC
def Phase (P:Program) (c k:Nat) (z:Value) (R0 R1:World→World→Prop) (D0 D1:World→World→Array Event→Prop) (SL ML:World→Touch→Prop) (FS:World→Prop) (Fin:Goroutine→World→Prop) (vs:List Value):Prop:=
 ∀(a b:Goroutine) (w:World) (gs:Array Goroutine) (sl:Option (Nat×Nat)) (t:Trace) (q:Nat→Nat),GoesW P true R0 D0 (StopA P c z R0 D0 ML Fin vs) a w→GoesW P false R1 D1 (StopB P c R1 D1 SL FS vs) b w→
  gs[0]?=some a→gs[k]?=some b→Ctx P c k SL ML gs w t q→Res P Fin FS gs w sl t
theorem main_parked (U:Rules c R0 R1 D0 D1 SL ML FS) {vs:List Value} (IH:∀v vs',vs=v::vs'→Phase P c k z R0 R1 D0 D1 SL ML FS Fin vs') {a b:Goroutine} {w:World} (hB:GoesW P false R1 D1 (StopB P c R1 D1 SL FS vs) b w):
  ∀(w₁:World) (gs:Array Goroutine) (sl:Option (Nat×Nat)) (t:Trace) (q:Nat→Nat),R1 w w₁→(∀w₂,R0 w₁ w₂→StopA P c z R0 D0 ML Fin vs a w₂)→gs[0]?=some (parked (core a) #[rcase c z] (.recv true))→gs[k]?=some b→Ctx P c k SL ML gs w₁ t q→Res P Fin FS gs w₁ sl t:=by
 induction hB with
 | @stop b w hs h=>
  intro w₁ gs sl t q hR hA ha hb hC;refine Ctx.pick U (firm_recv _ _ _) (firm_running hs) (awake_of (.inr (.inl rfl))) (awake_of (.inl hs)) (.inr hs) (fun x=>by cases x) (fun _ d gs sl t q ha hb hC=>?_) gs sl t q ha hb hC;have hR':R1 w (w₁.at d):=U.t1 _ _ _ hR (U.at1 _ d);have hA':∀w₂,R0 (w₁.at d) w₂→StopA P c z R0 D0 ML Fin vs a w₂:=fun w₂ h₂=>hA w₂ (U.t0 _ _ _ (U.at0 _ d) h₂);cases vs with
  |nil=>exact hC.closes U ha hb (h _ hR') (.inr ⟨a,rfl,hA'⟩)
  |cons v vs=>
   obtain ⟨b₂,z',es,h1,h2,h3⟩:=h _ hR';obtain ⟨es0,m1,m2,m3⟩:=hA' _ (refl0 U _);obtain ⟨gs',w',ops,r1,r2,r3,r4,r5,r6,r7⟩:=hC.meet1 (d:=d) (sl:=sl) U ha hb h1 h2;exact ⟨gs',w',sl,ops,r1,r2,IH v vs rfl _ _ _ _ _ _ _ (m3 _ r5) (h3 _ r6) r3 r4 r7⟩
 | @step b w nx hs h1 h2 ih=>
  intro w₁ gs sl t q hR hA ha hb hC;refine Ctx.pick U (firm_recv _ _ _) (firm_running hs) (awake_of (.inr (.inl rfl))) (awake_of (.inl hs)) (.inr hs) (fun x=>by cases x) (fun _ d gs sl t q ha hb hC=>?_) gs sl t q ha hb hC;have hR':R1 w (w₁.at d):=U.t1 _ _ _ hR (U.at1 _ d);obtain ⟨hgo,hD⟩:=h1 _ hR';obtain ⟨gs',ops,r1,r2,r3,r4,r5⟩:=hC.own1 (d:=d) (sl:=sl) U ha hb (firm_recv _ _ _) hgo hD;exact ⟨gs',_,sl,ops,r1,r2,ih _ hR' _ gs' sl (t++ops) q (refl1 U _) (fun w₂ h₂=>hA w₂ (U.t0 _ _ _ (U.at0 _ d) (U.t0 _ _ _ (U.d10 _ _ _ hD) h₂))) r3 r4 r5⟩
theorem other_parked (U:Rules c R0 R1 D0 D1 SL ML FS) {v z':Value} {vs:List Value} (IH:Phase P c k z R0 R1 D0 D1 SL ML FS Fin vs) {a b₂:Goroutine} {w:World} (hA:GoesW P true R0 D0 (StopA P c z R0 D0 ML Fin (v::vs)) a w):
  ∀(w₁:World) (gs:Array Goroutine) (sl:Option (Nat×Nat)) (t:Trace) (q:Nat→Nat),R0 w w₁→(∀w₂,R1 w₁ w₂→GoesW P false R1 D1 (StopB P c R1 D1 SL FS vs) (Go.Conc.served b₂ undef) w₂)→gs[0]?=some a→gs[k]?=some (parked b₂ #[scase c v z'] .send)→Ctx P c k SL ML gs w₁ t q→Res P Fin FS gs w₁ sl t:=by
 induction hA with
 | @stop a w hs h=>
  intro w₁ gs sl t q hR hB ha hb hC;refine Ctx.pick U (firm_running hs) (firm_send _ _ _ _) (awake_of (.inl hs)) (awake_of (.inr (.inl rfl))) (.inl hs) (fun _ d gs sl t q ha hb hC=>?_) (fun x=>by cases x) gs sl t q ha hb hC;have hR':R0 w (w₁.at d):=U.t0 _ _ _ hR (U.at0 _ d);obtain ⟨es,m1,m2,m3⟩:=h _ hR';obtain ⟨gs',w',ops,r1,r2,r3,r4,r5,r6,r7⟩:=hC.meet0 (d:=d) (sl:=sl) U ha hb m1 m2;exact ⟨gs',w',sl,ops,r1,r2,IH _ _ _ _ _ _ _ (m3 _ r5) (hB _ (U.t1 _ _ _ (U.at1 _ d) r6)) r3 r4 r7⟩
 | @step a w nx hs h1 h2 ih=>
  intro w₁ gs sl t q hR hB ha hb hC;refine Ctx.pick U (firm_running hs) (firm_send _ _ _ _) (awake_of (.inl hs)) (awake_of (.inr (.inl rfl))) (.inl hs) (fun _ d gs sl t q ha hb hC=>?_) (fun x=>by cases x) gs sl t q ha hb hC;have hR':R0 w (w₁.at d):=U.t0 _ _ _ hR (U.at0 _ d);obtain ⟨hgo,hD⟩:=h1 _ hR';obtain ⟨gs',ops,r1,r2,r3,r4,r5⟩:=hC.own0 (d:=d) (sl:=sl) U ha hb (firm_send _ _ _ _) hgo hD;exact ⟨gs',_,sl,ops,r1,r2,ih _ hR' _ gs' sl (t++ops) q (refl0 U _) (fun w₂ h₂=>hB w₂ (U.t1 _ _ _ (U.at1 _ d) (U.t1 _ _ _ (U.d01 _ _ _ hD) h₂))) r3 r4 r5⟩
theorem notBlocked {g:Goroutine} (h:g.status=.running):g.status≠.blocked:=by rw [h];simp
theorem other_stops (U:Rules c R0 R1 D0 D1 SL ML FS) {vs:List Value} (IH:∀v vs',vs=v::vs'→Phase P c k z R0 R1 D0 D1 SL ML FS Fin vs') {a b:Goroutine} {w:World} {gs:Array Goroutine} {sl:Option (Nat×Nat)} {t:Trace} {q:Nat→Nat}
  (hA:GoesW P true R0 D0 (StopA P c z R0 D0 ML Fin vs) a w) (hB:StopB P c R1 D1 SL FS vs b w) (ha:gs[0]?=some a) (hb:gs[k]?=some b) (hC:Ctx P c k SL ML gs w t q):ResR P Fin FS gs w sl t k:=by
 cases vs with
 |nil=>exact hC.closes U ha hb hB (.inl hA)
 |cons v vs=>
  obtain ⟨b₂,z',es,h1,h2,h3⟩:=hB;obtain ⟨gs',ops,r1,r2,r3,r4,r5⟩:=hC.wait1 (d:=w.drawn) (sl:=sl) U ha hb (notBlocked hA.running) h1 h2;exact ⟨gs',_,sl,ops,r1,r2,other_parked U (IH v vs rfl) hA _ gs' sl (t++ops) q (refl0 U _) h3 r3 r4 r5⟩
theorem main_stops (U:Rules c R0 R1 D0 D1 SL ML FS) {vs:List Value} (IH:∀v vs',vs=v::vs'→Phase P c k z R0 R1 D0 D1 SL ML FS Fin vs') {a b:Goroutine} {w:World} {gs:Array Goroutine} {sl:Option (Nat×Nat)} {t:Trace} {q:Nat→Nat}
  (hA:∀w₂,R0 w w₂→StopA P c z R0 D0 ML Fin vs a w₂) (hB:GoesW P false R1 D1 (StopB P c R1 D1 SL FS vs) b w) (ha:gs[0]?=some a) (hb:gs[k]?=some b) (hC:Ctx P c k SL ML gs w t q):ResR P Fin FS gs w sl t 0:=by
 have hst:∃es,stepG P true a w=.comm (core a) #[rcase c z] true (.recv true) w es∧∀e∈es,EvOk e∧∀x,(MemAct.ofEvent e).touch?=some x→x.loc.isMemory=true→ML w x:=by
  have:=hA w (refl0 U w);cases vs with
  |nil=>exact ⟨this.choose,this.choose_spec.1,this.choose_spec.2.1⟩
  |cons v vs=>exact ⟨this.choose,this.choose_spec.1,this.choose_spec.2.1⟩
 obtain ⟨es,h1,h2⟩:=hst;obtain ⟨gs',ops,r1,r2,r3,r4,r5⟩:=hC.wait0 (d:=w.drawn) (sl:=sl) U ha hb (notBlocked hB.running) h1 h2;exact ⟨gs',_,sl,ops,r1,r2,main_parked U IH hB _ gs' sl (t++ops) q (refl1 U _) hA r3 r4 r5⟩
theorem phase_of (U:Rules c R0 R1 D0 D1 SL ML FS) {vs:List Value} (IH:∀v vs',vs=v::vs'→Phase P c k z R0 R1 D0 D1 SL ML FS Fin vs') {a:Goroutine} {w:World} (hA:GoesW P true R0 D0 (StopA P c z R0 D0 ML Fin vs) a w):
  ∀{b:Goroutine} {w₁:World},GoesW P false R1 D1 (StopB P c R1 D1 SL FS vs) b w₁→∀(w₂:World) (gs:Array Goroutine) (sl:Option (Nat×Nat)) (t:Trace) (q:Nat→Nat),R1 w₁ w₂→R0 w w₂→gs[0]?=some a→gs[k]?=some b→Ctx P c k SL ML gs w₂ t q→Res P Fin FS gs w₂ sl t:=by
 induction hA with
 | @stop a w hs h=>
  intro b w₁ hB;induction hB with
  | @stop b w₁ hs' h'=>
   intro w₂ gs sl t q hR1 hR0 ha hb hC;refine Ctx.pick U (firm_running hs) (firm_running hs') (awake_of (.inl hs)) (awake_of (.inl hs')) (.inl hs) (fun _ d gs sl t q ha hb hC=>?_) (fun _ d gs sl t q ha hb hC=>?_) gs sl t q ha hb hC
   ·exact main_stops U IH (fun w₃ h₃=>h w₃ (U.t0 _ _ _ hR0 (U.t0 _ _ _ (U.at0 _ d) h₃))) (.stop hs' fun w₃ h₃=>h' w₃ (U.t1 _ _ _ hR1 (U.t1 _ _ _ (U.at1 _ d) h₃))) ha hb hC
   ·exact other_stops U IH (.stop hs fun w₃ h₃=>h w₃ (U.t0 _ _ _ hR0 (U.t0 _ _ _ (U.at0 _ d) h₃))) (h' _ (U.t1 _ _ _ hR1 (U.at1 _ d))) ha hb hC
  | @step b w₁ nx hs' h1 h2 ih=>
   intro w₂ gs sl t q hR1 hR0 ha hb hC;have hB:GoesW P false R1 D1 (StopB P c R1 D1 SL FS vs) b w₁:=.step nx hs' h1 h2;refine Ctx.pick U (firm_running hs) (firm_running hs') (awake_of (.inl hs)) (awake_of (.inl hs')) (.inl hs) (fun _ d gs sl t q ha hb hC=>?_) (fun _ d gs sl t q ha hb hC=>?_) gs sl t q ha hb hC
   ·exact main_stops U IH (fun w₃ h₃=>h w₃ (U.t0 _ _ _ hR0 (U.t0 _ _ _ (U.at0 _ d) h₃))) (hB.rely U.t1 (U.t1 _ _ _ hR1 (U.at1 _ d))) ha hb hC
   ·have hR':R1 w₁ (w₂.at d):=U.t1 _ _ _ hR1 (U.at1 _ d);obtain ⟨hgo,hD⟩:=h1 _ hR';obtain ⟨gs',ops,r1,r2,r3,r4,r5⟩:=hC.own1 (d:=d) (sl:=sl) U ha hb (firm_running hs) hgo hD;exact ⟨gs',_,sl,ops,r1,r2,ih _ hR' _ gs' sl (t++ops) q (refl1 U _) (U.t0 _ _ _ hR0 (U.t0 _ _ _ (U.at0 _ d) (U.d10 _ _ _ hD))) r3 r4 r5⟩
 | @step a w nx0 hs h01 h02 ih0=>
  intro b w₁ hB;have hA:GoesW P true R0 D0 (StopA P c z R0 D0 ML Fin vs) a w:=.step nx0 hs h01 h02;induction hB with
  | @stop b w₁ hs' h'=>
   intro w₂ gs sl t q hR1 hR0 ha hb hC;have hB:GoesW P false R1 D1 (StopB P c R1 D1 SL FS vs) b w₁:=.stop hs' h';refine Ctx.pick U (firm_running hs) (firm_running hs') (awake_of (.inl hs)) (awake_of (.inl hs')) (.inl hs) (fun _ d gs sl t q ha hb hC=>?_) (fun _ d gs sl t q ha hb hC=>?_) gs sl t q ha hb hC
   ·have hR':R0 w (w₂.at d):=U.t0 _ _ _ hR0 (U.at0 _ d);obtain ⟨hgo,hD⟩:=h01 _ hR';obtain ⟨gs',ops,r1,r2,r3,r4,r5⟩:=hC.own0 (d:=d) (sl:=sl) U ha hb (firm_running hs') hgo hD;exact ⟨gs',_,sl,ops,r1,r2,ih0 _ hR' (hB.rely U.t1 (U.t1 _ _ _ hR1 (U.t1 _ _ _ (U.at1 _ d) (U.d01 _ _ _ hD)))) _ gs' sl (t++ops) q (refl1 U _) (refl0 U _) r3 r4 r5⟩
   ·exact other_stops U IH (hA.rely U.t0 (U.t0 _ _ _ hR0 (U.at0 _ d))) (h' _ (U.t1 _ _ _ hR1 (U.at1 _ d))) ha hb hC
  | @step b w₁ nx hs' h1 h2 ih=>
   intro w₂ gs sl t q hR1 hR0 ha hb hC;have hB:GoesW P false R1 D1 (StopB P c R1 D1 SL FS vs) b w₁:=.step nx hs' h1 h2;refine Ctx.pick U (firm_running hs) (firm_running hs') (awake_of (.inl hs)) (awake_of (.inl hs')) (.inl hs) (fun _ d gs sl t q ha hb hC=>?_) (fun _ d gs sl t q ha hb hC=>?_) gs sl t q ha hb hC
   ·have hR':R0 w (w₂.at d):=U.t0 _ _ _ hR0 (U.at0 _ d);obtain ⟨hgo,hD⟩:=h01 _ hR';obtain ⟨gs',ops,r1,r2,r3,r4,r5⟩:=hC.own0 (d:=d) (sl:=sl) U ha hb (firm_running hs') hgo hD;exact ⟨gs',_,sl,ops,r1,r2,ih0 _ hR' (hB.rely U.t1 (U.t1 _ _ _ hR1 (U.t1 _ _ _ (U.at1 _ d) (U.d01 _ _ _ hD)))) _ gs' sl (t++ops) q (refl1 U _) (refl0 U _) r3 r4 r5⟩
   ·have hR':R1 w₁ (w₂.at d):=U.t1 _ _ _ hR1 (U.at1 _ d);obtain ⟨hgo,hD⟩:=h1 _ hR';obtain ⟨gs',ops,r1,r2,r3,r4,r5⟩:=hC.own1 (d:=d) (sl:=sl) U ha hb (firm_running hs) hgo hD;exact ⟨gs',_,sl,ops,r1,r2,ih _ hR' _ gs' sl (t++ops) q (refl1 U _) (U.t0 _ _ _ hR0 (U.t0 _ _ _ (U.at0 _ d) (U.d10 _ _ _ hD))) r3 r4 r5⟩
theorem phase (U:Rules c R0 R1 D0 D1 SL ML FS):∀vs,Phase P c k z R0 R1 D0 D1 SL ML FS Fin vs
 | []=>fun _ _ w gs sl t q hA hB ha hb hC=>phase_of U (fun _ _ e=>by cases e) hA hB w gs sl t q (refl1 U w) (refl0 U w) ha hb hC
 |_::vs=>fun _ _ w gs sl t q hA hB ha hb hC=>phase_of U (fun _ _ e=>by cases e;exact phase U vs) hA hB w gs sl t q (refl1 U w) (refl0 U w) ha hb hC
end
structure Lot where
 B:Nat
 c:Nat
 ev:TypeId
 S:Nat→Prop
 M:Nat→Prop
def isEv (t:TypeId):Obj→Bool
 |.cells _ e _=>e==t
 |_=>false
def Lot.send (L:Lot) (b:Nat) (o:Obj):Prop:=b≠L.c∧((b<L.B∧L.S b)∨(L.B≤b∧isEv L.ev o=false))
def Lot.main (L:Lot) (b:Nat) (o:Obj):Prop:=b≠L.c∧((b<L.B∧L.M b)∨(L.B≤b∧isEv L.ev o=true))
structure Turn (L:Lot) (mine:Nat→Obj→Prop) (w w':World):Prop where
 os:w'.os=w.os
 out:w'.output=w.output
 tape:w'.tape=w.tape
 size:w.heap.size≤w'.heap.size
 at_:∀b o,w.heap[b]?=some o→∃o',w'.heap[b]?=some o'∧(b≠L.c→isEv L.ev o'=isEv L.ev o)∧(b≠L.c→¬mine b o→o'=o)
def Tells (L:Lot) (mine:Nat→Obj→Prop):Prop:=∀b o o',(b≠L.c→isEv L.ev o'=isEv L.ev o)→mine b o→mine b o'
theorem Lot.tells_send (L:Lot):Tells L L.send:=fun b o o' e h=>⟨h.1,h.2.imp id fun x=>⟨x.1,by rw [e h.1];exact x.2⟩⟩
theorem Lot.tells_main (L:Lot):Tells L L.main:=fun b o o' e h=>⟨h.1,h.2.imp id fun x=>⟨x.1,by rw [e h.1];exact x.2⟩⟩
section
variable {L:Lot} {mine:Nat→Obj→Prop} {w w' w'':World}
theorem Turn.refl (w:World):Turn L mine w w:=⟨rfl,rfl,rfl,Nat.le_refl _,fun _ o h=>⟨o,h,fun _=>rfl,fun _ _=>rfl⟩⟩
theorem Turn.trans (h:Turn L mine w w') (h':Turn L mine w' w''):Turn L mine w w'':=
 ⟨h'.os.trans h.os,h'.out.trans h.out,h'.tape.trans h.tape,Nat.le_trans h.size h'.size,fun b o ho=>by
  obtain ⟨o1,h1,e1,k1⟩:=h.at_ b o ho;obtain ⟨o2,h2,e2,k2⟩:=h'.at_ b o1 h1;refine ⟨o2,h2,fun hc=>(e2 hc).trans (e1 hc),fun hc hm=>?_⟩;have:o1=o:=k1 hc hm;subst this;exact k2 hc hm⟩
theorem Turn.at (w:World) (d:Nat):Turn L mine w (w.at d):=⟨rfl,rfl,rfl,Nat.le_refl _,fun _ o h=>⟨o,h,fun _=>rfl,fun _ _=>rfl⟩⟩
theorem Turn.draw (w:World) (d:Nat):Turn L mine w {w with drawn:=d}:=⟨rfl,rfl,rfl,Nat.le_refl _,fun _ o h=>⟨o,h,fun _=>rfl,fun _ _=>rfl⟩⟩
theorem Turn.keep (h:Turn L mine w w') {b:Nat} {o:Obj} (ho:w.heap[b]?=some o) (hc:b≠L.c) (hm:¬mine b o):w'.heap[b]?=some o:=by
 obtain ⟨o',h1,_,h2⟩:=h.at_ b o ho;rw [h1,h2 hc hm]
theorem Turn.chan (w:World) (cl:Bool) (s r:Nat) (tm:Bool):Turn L mine w (w.setChan L.c 0 #[] cl s r tm):=by
 refine ⟨rfl,rfl,rfl,by simp [World.setChan],fun b o ho=>?_⟩;by_cases hc:b=L.c
 ·subst hc;have hlt:=(Array.getElem?_eq_some_iff.1 ho).1;exact ⟨.chan 0 #[] cl s r tm,by simp [World.setChan,hlt],fun x=>absurd rfl x,fun x=>absurd rfl x⟩
 ·exact ⟨o,by simpa [World.setChan,Array.getElem?_setIfInBounds_ne (Ne.symm hc)] using ho,fun _=>rfl,fun _ _=>rfl⟩
theorem Turn.set (w:World) (a:Addr) (v:Value) (o:Obj) (ho:w.heap[a.block]?=some o) (hm:mine a.block o):Turn L mine w (w.setCell a v):=by
 refine ⟨rfl,rfl,rfl,by simp [World.setCell],fun b o' ho'=>?_⟩;by_cases hb:b=a.block
 ·subst hb;obtain rfl:o=o':=by rw [ho] at ho';exact Option.some.inj ho'
  refine ⟨_,by simp only [World.setCell,Array.getElem?_modify,if_true,ho',Option.map_some];rfl,fun _=>?_,fun _ x=>absurd hm x⟩;cases o<;>rfl
 ·refine ⟨o',?_,fun _=>rfl,fun _ _=>rfl⟩;simp only [World.setCell,Array.getElem?_modify,if_neg (Ne.symm hb)];exact ho'
theorem Turn.alloc (w:World) (o:Obj):Turn L mine w (w.alloc o):=by
 refine ⟨rfl,rfl,rfl,by show w.heap.size≤(w.heap.push o).size;simp,fun b o' ho'=>?_⟩;have hlt:=(Array.getElem?_eq_some_iff.1 ho').1;exact ⟨o',by show (w.heap.push o)[b]?=some o';simp [Array.getElem?_push,Nat.ne_of_lt hlt,ho'],fun _=>rfl,fun _ _=>rfl⟩
end
def Allowed (L:Lot) (mine other:Nat→Obj→Prop) (w:World) (x:Touch):Prop:=
 match x.loc with
 |.cell a=>∃o,w.heap[a.block]?=some o∧¬other a.block o∧(x.write=true→mine a.block o)
 |.obj r=>r=L.c∧x.write=false
 |_=>x.write=false
theorem Allowed.turn {L:Lot} {mine other who:Nat→Obj→Prop} {w w':World} {x:Touch} (tm:Tells L mine) (to:Tells L other) (h:Turn L who w w') (ha:Allowed L mine other w x):Allowed L mine other w' x:=by
 unfold Allowed at ha ⊢;cases hx:x.loc with
 |cell a=>
  rw [hx] at ha;obtain ⟨o,h1,h2,h3⟩:=ha;obtain ⟨o',k1,k2,_⟩:=h.at_ _ _ h1;exact ⟨o',k1,fun hh=>h2 (to _ _ _ (fun x=>(k2 x).symm) hh),fun hw=>tm _ _ _ k2 (h3 hw)⟩
 |obj r=>rw [hx] at ha;exact ha
 |output=>rw [hx] at ha;exact ha
 |goroutines=>rw [hx] at ha;exact ha
 |mark m=>rw [hx] at ha;exact ha
def EvBy (L:Lot) (mine other:Nat→Obj→Prop) (w:World) (e:Event):Prop:=EvOk e∧∀x,(MemAct.ofEvent e).touch?=some x→x.loc.isMemory=true→Allowed L mine other w x
structure Does (L:Lot) (mine other:Nat→Obj→Prop) (w w':World) (es:Array Event):Prop where
 turn:Turn L mine w w'
 chan:w'.heap[L.c]?=w.heap[L.c]?
 evs:∀e∈es,EvBy L mine other w' e
section
variable {L:Lot} {mine other:Nat→Obj→Prop} {w w':World}
theorem Does.idle (w:World):Does L mine other w w #[]:=⟨.refl w,rfl,by simp⟩
theorem Does.look (w:World) {es:Array Event} (h:∀e∈es,EvBy L mine other w e):Does L mine other w w es:=⟨.refl w,rfl,h⟩
theorem EvBy.read {a:Addr} {o:Obj} (ho:w.heap[a.block]?=some o) (hn:¬other a.block o):EvBy L mine other w ⟨.cell a,false,false⟩:=
 ⟨evOk_cell _ _ _,fun x hx _=>by
  simp only [MemAct.ofEvent,MemAct.touch?,Option.some.injEq] at hx;subst hx;exact ⟨o,ho,hn,fun h=>by cases h⟩⟩
theorem EvBy.write {a:Addr} {o:Obj} (ho:w.heap[a.block]?=some o) (hn:¬other a.block o) (hm:mine a.block o):EvBy L mine other w ⟨.cell a,true,false⟩:=
 ⟨evOk_cell _ _ _,fun x hx _=>by
  simp only [MemAct.ofEvent,MemAct.touch?,Option.some.injEq] at hx;subst hx;exact ⟨o,ho,hn,fun _=>hm⟩⟩
theorem Does.set {a:Addr} {v:Value} {o:Obj} {es:Array Event} (tm:Tells L mine) (to:Tells L other) (ho:w.heap[a.block]?=some o) (hc:a.block≠L.c) (hm:mine a.block o) (hes:∀e∈es,EvBy L mine other w e):Does L mine other w (w.setCell a v) es:=by
 have ht:=Turn.set (L:=L) w a v o ho hm;refine ⟨ht,?_,fun e he=>⟨(hes e he).1,fun x hx hmem=>((hes e he).2 x hx hmem).turn tm to ht⟩⟩;simp only [World.setCell,Array.getElem?_modify,if_neg hc]
theorem Does.alloc {o:Obj} {es:Array Event} (tm:Tells L mine) (to:Tells L other) (hc:L.c<w.heap.size) (hes:∀e∈es,EvBy L mine other w e):Does L mine other w (w.alloc o) es:=by
 have ht:=Turn.alloc (L:=L) (mine:=mine) w o;refine ⟨ht,?_,fun e he=>⟨(hes e he).1,fun x hx hmem=>((hes e he).2 x hx hmem).turn tm to ht⟩⟩;show (w.heap.push o)[L.c]?=_;simp [Array.getElem?_push,Nat.ne_of_lt hc]
end
abbrev Lot.R0 (L:Lot):=Turn L L.send
abbrev Lot.R1 (L:Lot):=Turn L L.main
abbrev Lot.D0 (L:Lot):=Does L L.main L.send
abbrev Lot.D1 (L:Lot):=Does L L.send L.main
abbrev Lot.SL (L:Lot):=Allowed L L.send L.main
abbrev Lot.ML (L:Lot):=Allowed L L.main L.send
theorem Lot.terms0 (L:Lot):Terms L.R0 L.D0:=⟨fun _ _ _=>Turn.trans,fun w=>.idle w⟩
theorem Lot.terms1 (L:Lot):Terms L.R1 L.D1:=⟨fun _ _ _=>Turn.trans,fun w=>.idle w⟩
theorem Lot.draws0 (L:Lot):LetsDraw L.D0:=fun w=>⟨.draw w _,rfl,by simp⟩
theorem Lot.draws1 (L:Lot):LetsDraw L.D1:=fun w=>⟨.draw w _,rfl,by simp⟩
theorem Lot.rules (L:Lot) (FS:World→Prop) (hf:∀w w',L.R1 w w'→FS w→FS w'):Rules L.c L.R0 L.R1 L.D0 L.D1 L.SL L.ML FS where
 t0:=L.terms0.trans
 t1:=L.terms1.trans
 at0:=fun w d=>.at w d
 at1:=fun w d=>.at w d
 ch0:=fun w cl s r tm=>.chan w cl s r tm
 ch1:=fun w cl s r tm=>.chan w cl s r tm
 d01:=fun _ _ _ h=>h.turn
 d10:=fun _ _ _ h=>h.turn
 c0:=fun _ _ _ h=>h.chan
 c1:=fun _ _ _ h=>h.chan
 e0:=fun _ _ _ h=>h.evs
 e1:=fun _ _ _ h=>h.evs
 s0:=fun _ _ _ r a=>a.turn L.tells_send L.tells_main r
 s1:=fun _ _ _ r a=>a.turn L.tells_send L.tells_main r
 m0:=fun _ _ _ r a=>a.turn L.tells_main L.tells_send r
 m1:=fun _ _ _ r a=>a.turn L.tells_main L.tells_send r
 ap:=fun w a b ha hb e=>by
  unfold Lot.SL Allowed at ha;unfold Lot.ML Allowed at hb;cases hx:a.loc with
  |cell x=>
   rw [hx] at ha e;rw [←e] at hb;obtain ⟨o,h1,h2,h3⟩:=ha;obtain ⟨o',k1,k2,k3⟩:=hb;obtain rfl:o=o':=by rw [h1] at k1;exact Option.some.inj k1
   exact ⟨by cases hw:a.write<;>simp_all,by cases hw:b.write<;>simp_all⟩
  |obj r=>
   rw [hx] at ha e;rw [←e] at hb;exact ⟨ha.2,hb.2⟩
  |output=>rw [hx] at ha e;rw [←e] at hb;exact ⟨ha,hb⟩
  |goroutines=>rw [hx] at ha e;rw [←e] at hb;exact ⟨ha,hb⟩
  |mark m=>rw [hx] at ha e;rw [←e] at hb;exact ⟨ha,hb⟩
 sc:=fun w=>⟨rfl,rfl⟩
 f1:=hf
section
variable {P:Program} {main:Bool} {R:World→World→Prop} {D:World→World→Array Event→Prop} {Stop:Goroutine→World→Prop}
variable {b:Frame} {a:Act} {k:List Item} {cs:List Frame} {w:World}
theorem GoesW.ctl (T:Terms R D) {g g':Goroutine} (hs:g.status=.running) (h:∀w,stepG P main g w=.go g' w) (hg:GoesW P main R D Stop g' w):GoesW P main R D Stop g w:=
 .one hs fun w₁ hr=>⟨g',w₁,#[],h w₁,T.idle _,hg.rely T.trans hr⟩
theorem GoesW.skip (T:Terms R D) (h:GoesW P main R D Stop (G (b.at a k) cs) w):GoesW P main R D Stop (G (b.at a (.code .skip::k)) cs) w:=.ctl T rfl (fun _=>stepG_skip) h
theorem GoesW.inBlock (T:Terms R D) {id:Nat} (h:GoesW P main R D Stop (G (b.at a k) cs) w):GoesW P main R D Stop (G (b.at a (.inBlock id::k)) cs) w:=.ctl T rfl (fun _=>stepG_inBlock) h
theorem GoesW.seq (T:Terms R D) {x y:Code} (h:GoesW P main R D Stop (G (b.at a (.code x::.code y::k)) cs) w):GoesW P main R D Stop (G (b.at a (.code (.seq x y)::k)) cs) w:=.ctl T rfl (fun _=>stepG_seq) h
theorem GoesW.cond (T:Terms R D) {c:Operand} {x y:Code} {t:Bool} (e:a.eval c=.bool t) (h:GoesW P main R D Stop (G (b.at a (.code (if t then x else y)::k)) cs) w):GoesW P main R D Stop (G (b.at a (.code (.cond c x y)::k)) cs) w:=.ctl T rfl (fun _=>stepG_cond e) h
theorem GoesW.block (T:Terms R D) {id:Nat} {c:Code} (h:GoesW P main R D Stop (G (b.at a (.code c::.inBlock id::k)) cs) w):GoesW P main R D Stop (G (b.at a (.code (.block id c)::k)) cs) w:=.ctl T rfl (fun _=>stepG_block) h
theorem GoesW.loop (T:Terms R D) {c:Code} (h:GoesW P main R D Stop (G (b.at a (.code c::.inLoop c::k)) cs) w):GoesW P main R D Stop (G (b.at a (.code (.loop c)::k)) cs) w:=.ctl T rfl (fun _=>stepG_loop) h
theorem GoesW.inLoop (T:Terms R D) {c:Code} (h:GoesW P main R D Stop (G (b.at a (.code c::.inLoop c::k)) cs) w):GoesW P main R D Stop (G (b.at a (.inLoop c::k)) cs) w:=.ctl T rfl (fun _=>stepG_inLoop) h
theorem GoesW.exit (T:Terms R D) {id:Nat} {k':List Item} (e:exitTo id k=some k') (h:GoesW P main R D Stop (G (b.at a k') cs) w):GoesW P main R D Stop (G (b.at a (.code (.exit id)::k)) cs) w:=.ctl T rfl (fun _=>stepG_exit e) h
theorem GoesW.region (T:Terms R D) {id:Nat} {ops:Array Oper} (h:GoesW P main R D Stop (G (b.at a (.inRegion ops (List.range ops.size)::k)) cs) w):GoesW P main R D Stop (G (b.at a (.code (.region id ops false)::k)) cs) w:=.ctl T rfl (fun _=>stepG_region) h
theorem GoesW.regionEnd (T:Terms R D) {ops:Array Oper} (h:GoesW P main R D Stop (G (b.at a k) cs) w):GoesW P main R D Stop (G (b.at a (.inRegion ops []::k)) cs) w:=.ctl T rfl (fun _=>stepG_region_end) h
theorem GoesW.ret (T:Terms R D) (h:∀todo,GoesW P main R D Stop (G {b.at a todo with mode:=.returning} cs) w):GoesW P main R D Stop (G (b.at a (.code .ret::k)) cs) w:=.ctl T rfl (fun _=>stepG_ret') (h _)
theorem GoesW.fin (T:Terms R D) (h:GoesW P main R D Stop (G {b.at a [] with mode:=.returning} cs) w):GoesW P main R D Stop (G (b.at a []) cs) w:=.ctl T rfl (fun _=>stepG_end) h
theorem GoesW.unwanted (T:Terms R D) {ops:Array Oper} {i:Nat} {rest:List Nat} {o:Oper} (ho:ops[i]?=some o) (hw:Region.wanted o (yielded ops a.tmps)=false)
  (h:GoesW P main R D Stop (G (b.at (a.put o.dst undef) (.inRegion ops rest::k)) cs) w):GoesW P main R D Stop (G (b.at a (.inRegion ops (i::rest)::k)) cs) w:=.ctl T rfl (fun _=>stepG_unwanted ho hw) h
theorem GoesW.op {ops:Array Oper} {i:Nat} {rest:List Nat} {o:Oper} (ho:ops[i]?=some o) (hw:Region.wanted o (yielded ops a.tmps)=true) (hk:b.kind≠.early)
  (h:∀w₁,R w w₁→∀K:Act→World→Prop,(∀a' w',D w₁ w' (listed P b.fn a o w₁)∧GoesW P main R D Stop (G (b.at a' (.inRegion ops rest::k)) cs) w'→K a' w')→uponK o a K ((execOp a.eval o).run P w₁)):
  GoesW P main R D Stop (G (b.at a (.inRegion ops (i::rest)::k)) cs) w:=by
 refine .one rfl fun w₁ hr=>?_;have:=h w₁ hr _ fun _ _ x=>x;generalize hx:(execOp a.eval o).run P w₁=r at this
 match r,this with
 |.ok (.value v) w',h=>exact ⟨_,_,_,stepG_value ho hw hk hx,h.1,h.2⟩
 |.ok .skip w',h=>exact ⟨_,_,_,stepG_none ho hw hk hx,h.1,h.2⟩
theorem GoesW.enter (T:Terms R D) {ops:Array Oper} {i:Nat} {rest:List Nat} {o:Oper} {f:FuncId} {fn:Func} {c:Code} {args:Array Operand} {ats:Array TypeId}
  (ho:ops[i]?=some o) (hw:Region.wanted o (yielded ops a.tmps)=true) (hk:b.kind≠.early) (hop:o.op=.call {callee:=.value (.func f),args,argTypes:=ats})
  (hf : P.funcs[f]? = some fn) (hname : (fn.name == "runtime.NumGoroutine") = false) (hb : fn.body = some c)
  (h:GoesW P main R D Stop (G ((base f).at {tmps:=args.map a.eval++Array.replicate (fn.ntmps-(args.map a.eval).size) undef,defers:=[]} [.code c]) (b.at a (.inRegion ops (i::rest)::k)::cs)) w):
  GoesW P main R D Stop (G (b.at a (.inRegion ops (i::rest)::k)) cs) w:=
 .one rfl fun w₁ hr=>by
  have:=goes_call (P:=P) (main:=main) (b:=b) (a:=a) (k:=k) (cs:=cs) (w:=w₁) (K:=fun g' w' es=>g'=G ((base f).at {tmps:=args.map a.eval++Array.replicate (fn.ntmps-(args.map a.eval).size) undef,defers:=[]} [.code c]) (b.at a (.inRegion ops (i::rest)::k)::cs)∧w'=w₁∧es=#[]) ho hw hk hop hf hname hb ⟨rfl,rfl,rfl⟩;revert this;cases hst:stepG P main (G (b.at a (.inRegion ops (i::rest)::k)) cs) w₁<;>simp only [GStep.goes]<;>try exact False.elim
  rintro ⟨rfl,rfl,rfl⟩;exact ⟨_,_,_,rfl,T.idle _,h.rely T.trans hr⟩
end
open Go.RowKit
structure Calm (L:Lot) (other:Nat→Obj→Prop) (w:World) (g:Nat):Prop where
 there:∃o,w.heap[g]?=some o
 nc:g≠L.c
 no:∀o,w.heap[g]?=some o→¬other g o
def Mine (mine:Nat→Obj→Prop) (w:World) (g:Nat):Prop:=∀o,w.heap[g]?=some o→mine g o
section
variable {L:Lot} {mine other:Nat→Obj→Prop} {w w':World} {g g' m m' t t':Nat} {f f':Nat→Value}
theorem Calm.stands (h:Calm L other w g) (r:Turn L other w w'):w'.heap[g]?=w.heap[g]?:=by
 obtain ⟨o,ho⟩:=h.there;rw [ho,r.keep ho h.nc (h.no o ho)]
theorem Calm.rely (h:Calm L other w g) (r:Turn L other w w'):Calm L other w' g:=by
 have e:=h.stands r;exact ⟨by rw [e];exact h.there,h.nc,by rw [e];exact h.no⟩
theorem Mine.rely (hm:Mine mine w g) (h:Calm L other w g) (r:Turn L other w w'):Mine mine w' g:=by
 unfold Mine;rw [h.stands r];exact hm
theorem Calm.turn (to:Tells L other) (h:Calm L other w g) (r:Turn L mine w w'):Calm L other w' g:=by
 obtain ⟨o,ho⟩:=h.there;obtain ⟨o',h1,h2,_⟩:=r.at_ g o ho;refine ⟨⟨o',h1⟩,h.nc,fun x hx hx'=>h.no o ho (to g x o (fun hc=>?_) hx')⟩;rw [h1] at hx;cases hx;exact (h2 hc).symm
theorem Mine.turn (tm:Tells L mine) {who:Nat→Obj→Prop} (hm:Mine mine w g) (ht:∃o,w.heap[g]?=some o) (r:Turn L who w w'):Mine mine w' g:=by
 obtain ⟨o,ho⟩:=ht;obtain ⟨o',h1,h2,_⟩:=r.at_ g o ho;intro x hx;rw [h1] at hx;cases hx;exact tm g o o' h2 (hm o ho)
structure Rw (L:Lot) (other:Nat→Obj→Prop) (w:World) (g m t:Nat) (f:Nat→Value):Prop where
 row:RowF w g m t f
 calm:Calm L other w g
theorem Rw.rely (h:Rw L other w g m t f) (r:Turn L other w w'):Rw L other w' g m t f:=⟨h.row.of_heap (h.calm.stands r),h.calm.rely r⟩
theorem Rw.cell (h:Rw L other w g m t f) {j:Nat} (hj:j<m):w.cell? ⟨g,j,none⟩=some (f j):=h.row.cell hj
theorem Rw.look (h:Rw L other w g m t f) (j:Nat):EvBy L mine other w ⟨.cell ⟨g,j,none⟩,false,false⟩:=by
 obtain ⟨o,ho⟩:=h.calm.there;exact EvBy.read (a:=⟨g,j,none⟩) ho (h.calm.no o ho)
structure Ow (L:Lot) (mine other:Nat→Obj→Prop) (w:World) (g m t:Nat) (f:Nat→Value):Prop where
 rw:Rw L other w g m t f
 own:Mine mine w g
theorem Ow.rely (h:Ow L mine other w g m t f) (r:Turn L other w w'):Ow L mine other w' g m t f:=⟨h.rw.rely r,h.own.rely h.rw.calm r⟩
theorem Ow.cell (h:Ow L mine other w g m t f) {j:Nat} (hj:j<m):w.cell? ⟨g,j,none⟩=some (f j):=h.rw.cell hj
theorem Ow.frozen (h:Ow L mine other w g m t f) (j:Nat):w.frozen? ⟨g,j,none⟩=false:=h.rw.row.frozen j
theorem Ow.look (h:Ow L mine other w g m t f) (j:Nat):EvBy L mine other w ⟨.cell ⟨g,j,none⟩,false,false⟩:=h.rw.look j
theorem Ow.turnSet (h:Ow L mine other w g m t f) (j:Nat) (v:Value):Turn L mine w (w.setCell ⟨g,j,none⟩ v):=by
 obtain ⟨o,ho⟩:=h.rw.calm.there;exact .set w _ v o ho (h.own o ho)
theorem Ow.does (tm:Tells L mine) (to:Tells L other) (h:Ow L mine other w g m t f) (j:Nat) (v:Value) {es:Array Event} (hes:∀e∈es,e=⟨.cell ⟨g,j,none⟩,true,false⟩):Does L mine other w (w.setCell ⟨g,j,none⟩ v) es:=by
 obtain ⟨o,ho⟩:=h.rw.calm.there;exact .set tm to ho h.rw.calm.nc (h.own o ho) fun e he=>by rw [hes e he];exact EvBy.write (a:=⟨g,j,none⟩) ho (h.rw.calm.no o ho) (h.own o ho)
theorem Ow.set (tm:Tells L mine) (to:Tells L other) (h:Ow L mine other w g m t f) (j:Nat) (v:Value):Ow L mine other (w.setCell ⟨g,j,none⟩ v) g m t (fun i=>if i=j then v else f i):=
 ⟨⟨h.rw.row.set j v,h.rw.calm.turn to (h.turnSet j v)⟩,h.own.turn tm h.rw.calm.there (h.turnSet j v)⟩
theorem Ow.congr (h:Ow L mine other w g m t f) (hf:∀j,j<m→f j=f' j):Ow L mine other w g m t f':=⟨⟨h.rw.row.congr hf,h.rw.calm⟩,h.own⟩
theorem rows_apart (h:RowF w g m t f) (h':RowF w g' m' t' f') (ht:t≠t'):g≠g':=fun e=>by
 subst e;obtain ⟨cs,h1,_⟩:=h;obtain ⟨cs',h1',_⟩:=h';rw [h1] at h1';cases h1';exact ht rfl
theorem Rw.apart (to:Tells L other) (h':Rw L other w g' m' t' f') (h:Ow L mine other w g m t f) (j:Nat) (v:Value) (ht:t≠t'):Rw L other (w.setCell ⟨g,j,none⟩ v) g' m' t' f':=
 ⟨h'.row.other _ _ (rows_apart h.rw.row h'.row ht),h'.calm.turn to (h.turnSet j v)⟩
theorem Ow.apart (tm:Tells L mine) (to:Tells L other) (h':Ow L mine other w g' m' t' f') (h:Ow L mine other w g m t f) (j:Nat) (v:Value) (ht:t≠t'):Ow L mine other (w.setCell ⟨g,j,none⟩ v) g' m' t' f':=
 ⟨h'.rw.apart to h j v ht,h'.own.turn tm h'.rw.calm.there (h.turnSet j v)⟩
theorem Rw.alloc (to:Tells L other) (h:Rw L other w g m t f) (o:Obj):Rw L other (w.alloc o) g m t f:=⟨h.row.alloc o,h.calm.turn (mine:=fun _ _=>True) to (.alloc w o)⟩
theorem Ow.alloc (tm:Tells L mine) (to:Tells L other) (h:Ow L mine other w g m t f) (o:Obj):Ow L mine other (w.alloc o) g m t f:=⟨h.rw.alloc to o,h.own.turn tm h.rw.calm.there (.alloc (mine:=mine) w o)⟩
end
section
variable {L:Lot} {w:World}
theorem ow_new (hB:L.B≤w.heap.size) (hc:L.c<w.heap.size) (cs:Array Value) (t:Nat) (f:Nat→Value) (ht:(t==L.ev)=false) (hf:∀j,j<cs.size→cs[j]?=some (f j)):Ow L L.send L.main (w.alloc (.cells cs t)) w.heap.size cs.size t f:=by
 have hn:(w.alloc (.cells cs t)).heap[w.heap.size]?=some (.cells cs t (0,0)):=heap_alloc_new w _;refine ⟨⟨.new w cs t f hf,⟨_,hn⟩,by omega,fun o ho hm=>?_⟩,fun o ho=>?_⟩
 ·rw [hn] at ho;cases ho;rcases hm.2 with ⟨h,_⟩|⟨_,h⟩
  ·omega
  ·simp [isEv,ht] at h
 ·rw [hn] at ho;cases ho;exact ⟨by omega,.inr ⟨hB,by simpa [isEv] using ht⟩⟩
end
end Go.Proofs.Ytdoghgnifkgfdaa.Mute
