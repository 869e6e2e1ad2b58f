import Derived.Conc.CompanyMem
import Derived.Conc.Own3
import Derived.Conc.Own4
import Derived.Conc.Own5
import Derived.Test.YtdoghgnifkgfdaaGreatP05
set_option maxRecDepth 100000
set_option maxHeartbeats 16000000
namespace Go.Proofs.YtdoghgnifkgfdaaGreat.Mute
open Go Go.Conc
open Go.ConcN (sumTo upd sumTo_upd upd_ne upd_same)
section
variable {P:Program} {c k:Nat} {z:Value} {R0 R1:World→World→Prop} {D0 D1:World→World→Array Event→Prop} {SL ML:World→Touch→Prop} {FS:World→Prop} {Fin:Goroutine→World→Prop}
theorem Yax {a:Goroutine} {w:World} (h:Y1 P true R0 D0 (StopA P c z R0 D0 ML Fin []) a w):Y1 P true R0 D0 (AtShut P c z R0 ML Fin) a w:=
 h.mono fun g _ ⟨es,h1,h2,h3⟩=>⟨core g,es,h1,h2,h3⟩
theorem Y68 {a:Goroutine} {w:World} (h:∀w₁,R0 w w₁→StopA P c z R0 D0 ML Fin [] a w₁):Y1 P true R0 D0 (AtShut P c z R0 ML Fin) {parked (core a) #[rcase c z] (.recv true) with status:=.running} w:=
 .stop rfl fun w₁ hr=>by
  obtain ⟨es,h1,h2,h3⟩:=h w₁ hr;exact ⟨core a,es,(stepG_same rfl rfl rfl w₁).trans h1,h2,h3⟩
theorem Ctx.closes (U:YS c R0 R1 D0 D1 SL ML FS) {gs:Array Goroutine} {w:World} {t:Trace} {q:Nat→Nat} {a b:Goroutine} {sl:Option (Nat×Nat)} (h:Ctx P c k SL ML gs w t q) (ha:gs[0]?=some a) (hb:gs[k]?=some b) (hB:Y0C P c FS b w)
  (hA:Y1 P true R0 D0 (StopA P c z R0 D0 ML Fin []) a w∨(∃a₀,a=parked (core a₀) #[rcase c z] (.recv true)∧∀w₁,R0 w w₁→StopA P c z R0 D0 ML Fin [] a₀ w₁)):ResR P Fin FS gs w sl t k:=by
 obtain ⟨pc,gs',w',ops,q',g₂,h1,h2,h3,hmw,hs,hR,hC⟩:=h.close (sl:=sl) U ha hb hB;refine ⟨gs',w',sl,ops,h1,h2,?_⟩;rcases hA with hA|⟨a₀,rfl,hA⟩
 ·rw [woken_running hA.running] at h3;exact Y3j U ((Yax hA).rely U.t0 hR) w' gs' sl (t++ops) q' (XR U w') h3 hC
 ·have hw:woken P b g₂ w' (parked (core a₀) #[rcase c z] (.recv true))={parked (core a₀) #[rcase c z] (.recv true) with status:=.running}:=by
   obtain ⟨s,r,tm,hc⟩:=hC.chan;unfold woken;rw [if_pos (by rcases hs with e|e<;>simp [hmw,e])];exact again_recv_closed hc
  rw [hw] at h3;exact Y3j U (Y68 fun w₁ hr=>hA w₁ (U.t0 _ _ _ hR hr)) w' gs' sl (t++ops) q' (XR U w') h3 hC
def JD (P:Program) (c k:Nat) (z:Value) (R0 R1:World→World→Prop) (D0 D1:World→World→Array Event→Prop) (SL ML:World→Touch→Prop) (FS:World→Prop) (Fin:Goroutine→World→Prop) (vs:List Value):Prop:=
 ∀(a b:Goroutine) (w:World) (gs:Array Goroutine) (sl:Option (Nat×Nat)) (t:Trace) (q:Nat→Nat),Y1 P true R0 D0 (StopA P c z R0 D0 ML Fin vs) a w→Y1 P false R1 D1 (StopB P c R1 D1 SL FS vs) b w→
  gs[0]?=some a→gs[k]?=some b→Ctx P c k SL ML gs w t q→Res P Fin FS gs w sl t
theorem Y7p (U:YS c R0 R1 D0 D1 SL ML FS) {vs:List Value} (IH:∀v vs',vs=v::vs'→JD P c k z R0 R1 D0 D1 SL ML FS Fin vs') {a b:Goroutine} {w:World} (hB:Y1 P false R1 D1 (StopB P c R1 D1 SL FS vs) b w):
  ∀(w₁:World) (gs:Array Goroutine) (sl:Option (Nat×Nat)) (t:Trace) (q:Nat→Nat),R1 w w₁→(∀w₂,R0 w₁ w₂→StopA P c z R0 D0 ML Fin vs a w₂)→gs[0]?=some (parked (core a) #[rcase c z] (.recv true))→gs[k]?=some b→Ctx P c k SL ML gs w₁ t q→Res P Fin FS gs w₁ sl t:=by
 induction hB with
 | @stop b w hs h=>
  intro w₁ gs sl t q hR hA ha hb hC;refine Ctx.pick U (Y1y _ _ _) (Xl hs) (awake_of (.inr (.inl rfl))) (awake_of (.inl hs)) (.inr hs) (fun x=>by cases x) (fun _ d gs sl t q ha hb hC=>?_) gs sl t q ha hb hC;have hR':R1 w (w₁.at d):=U.t1 _ _ _ hR (U.at1 _ d);have hA':∀w₂,R0 (w₁.at d) w₂→StopA P c z R0 D0 ML Fin vs a w₂:=fun w₂ h₂=>hA w₂ (U.t0 _ _ _ (U.at0 _ d) h₂);cases vs with
  |nil=>exact hC.closes U ha hb (h _ hR') (.inr ⟨a,rfl,hA'⟩)
  |cons v vs=>
   obtain ⟨b₂,z',es,h1,h2,h3⟩:=h _ hR';obtain ⟨es0,m1,m2,m3⟩:=hA' _ (XR U _);obtain ⟨gs',w',ops,r1,r2,r3,r4,r5,r6,r7⟩:=hC.meet1 (d:=d) (sl:=sl) U ha hb h1 h2;exact ⟨gs',w',sl,ops,r1,r2,IH v vs rfl _ _ _ _ _ _ _ (m3 _ r5) (h3 _ r6) r3 r4 r7⟩
 | @step b w nx hs h1 h2 ih=>
  intro w₁ gs sl t q hR hA ha hb hC;refine Ctx.pick U (Y1y _ _ _) (Xl hs) (awake_of (.inr (.inl rfl))) (awake_of (.inl hs)) (.inr hs) (fun x=>by cases x) (fun _ d gs sl t q ha hb hC=>?_) gs sl t q ha hb hC;have hR':R1 w (w₁.at d):=U.t1 _ _ _ hR (U.at1 _ d);obtain ⟨hgo,hD⟩:=h1 _ hR';obtain ⟨gs',ops,r1,r2,r3,r4,r5⟩:=hC.own1 (d:=d) (sl:=sl) U ha hb (Y1y _ _ _) hgo hD;exact ⟨gs',_,sl,ops,r1,r2,ih _ hR' _ gs' sl (t++ops) q (ZJ U _) (fun w₂ h₂=>hA w₂ (U.t0 _ _ _ (U.at0 _ d) (U.t0 _ _ _ (U.d10 _ _ _ hD) h₂))) r3 r4 r5⟩
theorem Y92 (U:YS c R0 R1 D0 D1 SL ML FS) {v z':Value} {vs:List Value} (IH:JD P c k z R0 R1 D0 D1 SL ML FS Fin vs) {a b₂:Goroutine} {w:World} (hA:Y1 P true R0 D0 (StopA P c z R0 D0 ML Fin (v::vs)) a w):
  ∀(w₁:World) (gs:Array Goroutine) (sl:Option (Nat×Nat)) (t:Trace) (q:Nat→Nat),R0 w w₁→(∀w₂,R1 w₁ w₂→Y1 P false R1 D1 (StopB P c R1 D1 SL FS vs) (Go.Conc.served b₂ undef) w₂)→gs[0]?=some a→gs[k]?=some (parked b₂ #[scase c v z'] .send)→Ctx P c k SL ML gs w₁ t q→Res P Fin FS gs w₁ sl t:=by
 induction hA with
 | @stop a w hs h=>
  intro w₁ gs sl t q hR hB ha hb hC;refine Ctx.pick U (Xl hs) (Y1B _ _ _ _) (awake_of (.inl hs)) (awake_of (.inr (.inl rfl))) (.inl hs) (fun _ d gs sl t q ha hb hC=>?_) (fun x=>by cases x) gs sl t q ha hb hC;have hR':R0 w (w₁.at d):=U.t0 _ _ _ hR (U.at0 _ d);obtain ⟨es,m1,m2,m3⟩:=h _ hR';obtain ⟨gs',w',ops,r1,r2,r3,r4,r5,r6,r7⟩:=hC.meet0 (d:=d) (sl:=sl) U ha hb m1 m2;exact ⟨gs',w',sl,ops,r1,r2,IH _ _ _ _ _ _ _ (m3 _ r5) (hB _ (U.t1 _ _ _ (U.at1 _ d) r6)) r3 r4 r7⟩
 | @step a w nx hs h1 h2 ih=>
  intro w₁ gs sl t q hR hB ha hb hC;refine Ctx.pick U (Xl hs) (Y1B _ _ _ _) (awake_of (.inl hs)) (awake_of (.inr (.inl rfl))) (.inl hs) (fun _ d gs sl t q ha hb hC=>?_) (fun x=>by cases x) gs sl t q ha hb hC;have hR':R0 w (w₁.at d):=U.t0 _ _ _ hR (U.at0 _ d);obtain ⟨hgo,hD⟩:=h1 _ hR';obtain ⟨gs',ops,r1,r2,r3,r4,r5⟩:=hC.own0 (d:=d) (sl:=sl) U ha hb (Y1B _ _ _ _) hgo hD;exact ⟨gs',_,sl,ops,r1,r2,ih _ hR' _ gs' sl (t++ops) q (XR U _) (fun w₂ h₂=>hB w₂ (U.t1 _ _ _ (U.at1 _ d) (U.t1 _ _ _ (U.d01 _ _ _ hD) h₂))) r3 r4 r5⟩
theorem Y4q {g:Goroutine} (h:g.status=.running):g.status≠.blocked:=by rw [h];simp
theorem Y4r (U:YS c R0 R1 D0 D1 SL ML FS) {vs:List Value} (IH:∀v vs',vs=v::vs'→JD P c k z R0 R1 D0 D1 SL ML FS Fin vs') {a b:Goroutine} {w:World} {gs:Array Goroutine} {sl:Option (Nat×Nat)} {t:Trace} {q:Nat→Nat}
  (hA:Y1 P true R0 D0 (StopA P c z R0 D0 ML Fin vs) a w) (hB:StopB P c R1 D1 SL FS vs b w) (ha:gs[0]?=some a) (hb:gs[k]?=some b) (hC:Ctx P c k SL ML gs w t q):ResR P Fin FS gs w sl t k:=by
 cases vs with
 |nil=>exact hC.closes U ha hb hB (.inl hA)
 |cons v vs=>
  obtain ⟨b₂,z',es,h1,h2,h3⟩:=hB;obtain ⟨gs',ops,r1,r2,r3,r4,r5⟩:=hC.wait1 (d:=w.drawn) (sl:=sl) U ha hb (Y4q hA.running) h1 h2;exact ⟨gs',_,sl,ops,r1,r2,Y92 U (IH v vs rfl) hA _ gs' sl (t++ops) q (XR U _) h3 r3 r4 r5⟩
theorem Y2g (U:YS c R0 R1 D0 D1 SL ML FS) {vs:List Value} (IH:∀v vs',vs=v::vs'→JD P c k z R0 R1 D0 D1 SL ML FS Fin vs') {a b:Goroutine} {w:World} {gs:Array Goroutine} {sl:Option (Nat×Nat)} {t:Trace} {q:Nat→Nat}
  (hA:∀w₂,R0 w w₂→StopA P c z R0 D0 ML Fin vs a w₂) (hB:Y1 P false R1 D1 (StopB P c R1 D1 SL FS vs) b w) (ha:gs[0]?=some a) (hb:gs[k]?=some b) (hC:Ctx P c k SL ML gs w t q):ResR P Fin FS gs w sl t 0:=by
 have hst:∃es,stepG P true a w=.comm (core a) #[rcase c z] true (.recv true) w es∧∀e∈es,EvOk e∧∀x,(MemAct.ofEvent e).touch?=some x→x.loc.isMemory=true→ML w x:=by
  have:=hA w (XR U w);cases vs with
  |nil=>exact ⟨this.choose,this.choose_spec.1,this.choose_spec.2.1⟩
  |cons v vs=>exact ⟨this.choose,this.choose_spec.1,this.choose_spec.2.1⟩
 obtain ⟨es,h1,h2⟩:=hst;obtain ⟨gs',ops,r1,r2,r3,r4,r5⟩:=hC.wait0 (d:=w.drawn) (sl:=sl) U ha hb (Y4q hB.running) h1 h2;exact ⟨gs',_,sl,ops,r1,r2,Y7p U IH hB _ gs' sl (t++ops) q (ZJ U _) hA r3 r4 r5⟩
theorem Y3K (U:YS c R0 R1 D0 D1 SL ML FS) {vs:List Value} (IH:∀v vs',vs=v::vs'→JD P c k z R0 R1 D0 D1 SL ML FS Fin vs') {a:Goroutine} {w:World} (hA:Y1 P true R0 D0 (StopA P c z R0 D0 ML Fin vs) a w):
  ∀{b:Goroutine} {w₁:World},Y1 P false R1 D1 (StopB P c R1 D1 SL FS vs) b w₁→∀(w₂:World) (gs:Array Goroutine) (sl:Option (Nat×Nat)) (t:Trace) (q:Nat→Nat),R1 w₁ w₂→R0 w w₂→gs[0]?=some a→gs[k]?=some b→Ctx P c k SL ML gs w₂ t q→Res P Fin FS gs w₂ sl t:=by
 induction hA with
 | @stop a w hs h=>
  intro b w₁ hB;induction hB with
  | @stop b w₁ hs' h'=>
   intro w₂ gs sl t q hR1 hR0 ha hb hC;refine Ctx.pick U (Xl hs) (Xl hs') (awake_of (.inl hs)) (awake_of (.inl hs')) (.inl hs) (fun _ d gs sl t q ha hb hC=>?_) (fun _ d gs sl t q ha hb hC=>?_) gs sl t q ha hb hC
   ·exact Y2g U IH (fun w₃ h₃=>h w₃ (U.t0 _ _ _ hR0 (U.t0 _ _ _ (U.at0 _ d) h₃))) (.stop hs' fun w₃ h₃=>h' w₃ (U.t1 _ _ _ hR1 (U.t1 _ _ _ (U.at1 _ d) h₃))) ha hb hC
   ·exact Y4r U IH (.stop hs fun w₃ h₃=>h w₃ (U.t0 _ _ _ hR0 (U.t0 _ _ _ (U.at0 _ d) h₃))) (h' _ (U.t1 _ _ _ hR1 (U.at1 _ d))) ha hb hC
  | @step b w₁ nx hs' h1 h2 ih=>
   intro w₂ gs sl t q hR1 hR0 ha hb hC;have hB:Y1 P false R1 D1 (StopB P c R1 D1 SL FS vs) b w₁:=.step nx hs' h1 h2;refine Ctx.pick U (Xl hs) (Xl hs') (awake_of (.inl hs)) (awake_of (.inl hs')) (.inl hs) (fun _ d gs sl t q ha hb hC=>?_) (fun _ d gs sl t q ha hb hC=>?_) gs sl t q ha hb hC
   ·exact Y2g U IH (fun w₃ h₃=>h w₃ (U.t0 _ _ _ hR0 (U.t0 _ _ _ (U.at0 _ d) h₃))) (hB.rely U.t1 (U.t1 _ _ _ hR1 (U.at1 _ d))) ha hb hC
   ·have hR':R1 w₁ (w₂.at d):=U.t1 _ _ _ hR1 (U.at1 _ d);obtain ⟨hgo,hD⟩:=h1 _ hR';obtain ⟨gs',ops,r1,r2,r3,r4,r5⟩:=hC.own1 (d:=d) (sl:=sl) U ha hb (Xl hs) hgo hD;exact ⟨gs',_,sl,ops,r1,r2,ih _ hR' _ gs' sl (t++ops) q (ZJ U _) (U.t0 _ _ _ hR0 (U.t0 _ _ _ (U.at0 _ d) (U.d10 _ _ _ hD))) r3 r4 r5⟩
 | @step a w nx0 hs h01 h02 ih0=>
  intro b w₁ hB;have hA:Y1 P true R0 D0 (StopA P c z R0 D0 ML Fin vs) a w:=.step nx0 hs h01 h02;induction hB with
  | @stop b w₁ hs' h'=>
   intro w₂ gs sl t q hR1 hR0 ha hb hC;have hB:Y1 P false R1 D1 (StopB P c R1 D1 SL FS vs) b w₁:=.stop hs' h';refine Ctx.pick U (Xl hs) (Xl hs') (awake_of (.inl hs)) (awake_of (.inl hs')) (.inl hs) (fun _ d gs sl t q ha hb hC=>?_) (fun _ d gs sl t q ha hb hC=>?_) gs sl t q ha hb hC
   ·have hR':R0 w (w₂.at d):=U.t0 _ _ _ hR0 (U.at0 _ d);obtain ⟨hgo,hD⟩:=h01 _ hR';obtain ⟨gs',ops,r1,r2,r3,r4,r5⟩:=hC.own0 (d:=d) (sl:=sl) U ha hb (Xl hs') hgo hD;exact ⟨gs',_,sl,ops,r1,r2,ih0 _ hR' (hB.rely U.t1 (U.t1 _ _ _ hR1 (U.t1 _ _ _ (U.at1 _ d) (U.d01 _ _ _ hD)))) _ gs' sl (t++ops) q (ZJ U _) (XR U _) r3 r4 r5⟩
   ·exact Y4r U IH (hA.rely U.t0 (U.t0 _ _ _ hR0 (U.at0 _ d))) (h' _ (U.t1 _ _ _ hR1 (U.at1 _ d))) ha hb hC
  | @step b w₁ nx hs' h1 h2 ih=>
   intro w₂ gs sl t q hR1 hR0 ha hb hC;have hB:Y1 P false R1 D1 (StopB P c R1 D1 SL FS vs) b w₁:=.step nx hs' h1 h2;refine Ctx.pick U (Xl hs) (Xl hs') (awake_of (.inl hs)) (awake_of (.inl hs')) (.inl hs) (fun _ d gs sl t q ha hb hC=>?_) (fun _ d gs sl t q ha hb hC=>?_) gs sl t q ha hb hC
   ·have hR':R0 w (w₂.at d):=U.t0 _ _ _ hR0 (U.at0 _ d);obtain ⟨hgo,hD⟩:=h01 _ hR';obtain ⟨gs',ops,r1,r2,r3,r4,r5⟩:=hC.own0 (d:=d) (sl:=sl) U ha hb (Xl hs') hgo hD;exact ⟨gs',_,sl,ops,r1,r2,ih0 _ hR' (hB.rely U.t1 (U.t1 _ _ _ hR1 (U.t1 _ _ _ (U.at1 _ d) (U.d01 _ _ _ hD)))) _ gs' sl (t++ops) q (ZJ U _) (XR U _) r3 r4 r5⟩
   ·have hR':R1 w₁ (w₂.at d):=U.t1 _ _ _ hR1 (U.at1 _ d);obtain ⟨hgo,hD⟩:=h1 _ hR';obtain ⟨gs',ops,r1,r2,r3,r4,r5⟩:=hC.own1 (d:=d) (sl:=sl) U ha hb (Xl hs) hgo hD;exact ⟨gs',_,sl,ops,r1,r2,ih _ hR' _ gs' sl (t++ops) q (ZJ U _) (U.t0 _ _ _ hR0 (U.t0 _ _ _ (U.at0 _ d) (U.d10 _ _ _ hD))) r3 r4 r5⟩
theorem phase (U:YS c R0 R1 D0 D1 SL ML FS):∀vs,JD P c k z R0 R1 D0 D1 SL ML FS Fin vs
 | []=>fun _ _ w gs sl t q hA hB ha hb hC=>Y3K U (fun _ _ e=>by cases e) hA hB w gs sl t q (ZJ U w) (XR U w) ha hb hC
 |_::vs=>fun _ _ w gs sl t q hA hB ha hb hC=>Y3K U (fun _ _ e=>by cases e;exact phase U vs) hA hB w gs sl t q (ZJ U w) (XR U w) ha hb hC
end
structure Lot where
 B:Nat
 c:Nat
 ev:TypeId
 S:Nat→Prop
 M:Nat→Prop
def isEv (t:TypeId):Obj→Bool
 |.cells _ e _=>e==t
 |_=>false
def Lot.send (L:Lot) (b:Nat) (o:Obj):Prop:=b≠L.c∧((b<L.B∧L.S b)∨(L.B≤b∧isEv L.ev o=false))
def Lot.main (L:Lot) (b:Nat) (o:Obj):Prop:=b≠L.c∧((b<L.B∧L.M b)∨(L.B≤b∧isEv L.ev o=true))
structure Turn (L:Lot) (mine:Nat→Obj→Prop) (w w':World):Prop where
 os:w'.os=w.os
 out:w'.output=w.output
 tape:w'.tape=w.tape
 size:w.heap.size≤w'.heap.size
 at_:∀b o,w.heap[b]?=some o→∃o',w'.heap[b]?=some o'∧(b≠L.c→isEv L.ev o'=isEv L.ev o)∧(b≠L.c→¬mine b o→o'=o)
def X7 (L:Lot) (mine:Nat→Obj→Prop):Prop:=∀b o o',(b≠L.c→isEv L.ev o'=isEv L.ev o)→mine b o→mine b o'
theorem Lot.tells_send (L:Lot):X7 L L.send:=fun b o o' e h=>⟨h.1,h.2.imp id fun x=>⟨x.1,by rw [e h.1];exact x.2⟩⟩
theorem Lot.tells_main (L:Lot):X7 L L.main:=fun b o o' e h=>⟨h.1,h.2.imp id fun x=>⟨x.1,by rw [e h.1];exact x.2⟩⟩
section
variable {L:Lot} {mine:Nat→Obj→Prop} {w w' w'':World}
theorem Turn.refl (w:World):Turn L mine w w:=⟨rfl,rfl,rfl,Nat.le_refl _,fun _ o h=>⟨o,h,fun _=>rfl,fun _ _=>rfl⟩⟩
theorem Turn.trans (h:Turn L mine w w') (h':Turn L mine w' w''):Turn L mine w w'':=
 ⟨h'.os.trans h.os,h'.out.trans h.out,h'.tape.trans h.tape,Nat.le_trans h.size h'.size,fun b o ho=>by
  obtain ⟨o1,h1,e1,k1⟩:=h.at_ b o ho;obtain ⟨o2,h2,e2,k2⟩:=h'.at_ b o1 h1;refine ⟨o2,h2,fun hc=>(e2 hc).trans (e1 hc),fun hc hm=>?_⟩;have:o1=o:=k1 hc hm;subst this;exact k2 hc hm⟩
theorem Turn.at (w:World) (d:Nat):Turn L mine w (w.at d):=⟨rfl,rfl,rfl,Nat.le_refl _,fun _ o h=>⟨o,h,fun _=>rfl,fun _ _=>rfl⟩⟩
theorem Turn.draw (w:World) (d:Nat):Turn L mine w {w with drawn:=d}:=⟨rfl,rfl,rfl,Nat.le_refl _,fun _ o h=>⟨o,h,fun _=>rfl,fun _ _=>rfl⟩⟩
theorem Turn.keep (h:Turn L mine w w') {b:Nat} {o:Obj} (ho:w.heap[b]?=some o) (hc:b≠L.c) (hm:¬mine b o):w'.heap[b]?=some o:=by
 obtain ⟨o',h1,_,h2⟩:=h.at_ b o ho;rw [h1,h2 hc hm]
theorem Turn.chan (w:World) (cl:Bool) (s r:Nat) (tm:Bool):Turn L mine w (w.setChan L.c 0 #[] cl s r tm):=by
 refine ⟨rfl,rfl,rfl,by simp [World.setChan],fun b o ho=>?_⟩;by_cases hc:b=L.c
 ·subst hc;have hlt:=(Array.getElem?_eq_some_iff.1 ho).1;exact ⟨.chan 0 #[] cl s r tm,by simp [World.setChan,hlt],fun x=>absurd rfl x,fun x=>absurd rfl x⟩
 ·exact ⟨o,by simpa [World.setChan,Array.getElem?_setIfInBounds_ne (Ne.symm hc)] using ho,fun _=>rfl,fun _ _=>rfl⟩
theorem Turn.set (w:World) (a:Addr) (v:Value) (o:Obj) (ho:w.heap[a.block]?=some o) (hm:mine a.block o):Turn L mine w (w.setCell a v):=by
 refine ⟨rfl,rfl,rfl,by simp [World.setCell],fun b o' ho'=>?_⟩;by_cases hb:b=a.block
 ·subst hb;obtain rfl:o=o':=by rw [ho] at ho';exact Option.some.inj ho'
  refine ⟨_,by simp only [World.setCell,Array.getElem?_modify,if_true,ho',Option.map_some];rfl,fun _=>?_,fun _ x=>absurd hm x⟩;cases o<;>rfl
 ·refine ⟨o',?_,fun _=>rfl,fun _ _=>rfl⟩;simp only [World.setCell,Array.getElem?_modify,if_neg (Ne.symm hb)];exact ho'
theorem Turn.alloc (w:World) (o:Obj):Turn L mine w (w.alloc o):=by
 refine ⟨rfl,rfl,rfl,by show w.heap.size≤(w.heap.push o).size;simp,fun b o' ho'=>?_⟩;have hlt:=(Array.getElem?_eq_some_iff.1 ho').1;exact ⟨o',by show (w.heap.push o)[b]?=some o';simp [Array.getElem?_push,Nat.ne_of_lt hlt,ho'],fun _=>rfl,fun _ _=>rfl⟩
end
def Zv (L:Lot) (mine other:Nat→Obj→Prop) (w:World) (x:Touch):Prop:=
 match x.loc with
 |.cell a=>∃o,w.heap[a.block]?=some o∧¬other a.block o∧(x.write=true→mine a.block o)
 |.obj r=>r=L.c∧x.write=false
 |_=>x.write=false
theorem Zv.turn {L:Lot} {mine other who:Nat→Obj→Prop} {w w':World} {x:Touch} (tm:X7 L mine) (to:X7 L other) (h:Turn L who w w') (ha:Zv L mine other w x):Zv L mine other w' x:=by
 unfold Zv at ha ⊢;cases hx:x.loc with
 |cell a=>
  rw [hx] at ha;obtain ⟨o,h1,h2,h3⟩:=ha;obtain ⟨o',k1,k2,_⟩:=h.at_ _ _ h1;exact ⟨o',k1,fun hh=>h2 (to _ _ _ (fun x=>(k2 x).symm) hh),fun hw=>tm _ _ _ k2 (h3 hw)⟩
 |obj r=>rw [hx] at ha;exact ha
 |output=>rw [hx] at ha;exact ha
 |goroutines=>rw [hx] at ha;exact ha
 |mark m=>rw [hx] at ha;exact ha
def EvBy (L:Lot) (mine other:Nat→Obj→Prop) (w:World) (e:Event):Prop:=EvOk e∧∀x,(MemAct.ofEvent e).touch?=some x→x.loc.isMemory=true→Zv L mine other w x
structure Does (L:Lot) (mine other:Nat→Obj→Prop) (w w':World) (es:Array Event):Prop where
 turn:Turn L mine w w'
 chan:w'.heap[L.c]?=w.heap[L.c]?
 evs:∀e∈es,EvBy L mine other w' e
section
variable {L:Lot} {mine other:Nat→Obj→Prop} {w w':World}
theorem Does.idle (w:World):Does L mine other w w #[]:=⟨.refl w,rfl,by simp⟩
theorem Does.look (w:World) {es:Array Event} (h:∀e∈es,EvBy L mine other w e):Does L mine other w w es:=⟨.refl w,rfl,h⟩
theorem EvBy.read {a:Addr} {o:Obj} (ho:w.heap[a.block]?=some o) (hn:¬other a.block o):EvBy L mine other w ⟨.cell a,false,false⟩:=
 ⟨YR _ _ _,fun x hx _=>by
  simp only [MemAct.ofEvent,MemAct.touch?,Option.some.injEq] at hx;subst hx;exact ⟨o,ho,hn,fun h=>by cases h⟩⟩
theorem EvBy.write {a:Addr} {o:Obj} (ho:w.heap[a.block]?=some o) (hn:¬other a.block o) (hm:mine a.block o):EvBy L mine other w ⟨.cell a,true,false⟩:=
 ⟨YR _ _ _,fun x hx _=>by
  simp only [MemAct.ofEvent,MemAct.touch?,Option.some.injEq] at hx;subst hx;exact ⟨o,ho,hn,fun _=>hm⟩⟩
theorem Does.set {a:Addr} {v:Value} {o:Obj} {es:Array Event} (tm:X7 L mine) (to:X7 L other) (ho:w.heap[a.block]?=some o) (hc:a.block≠L.c) (hm:mine a.block o) (hes:∀e∈es,EvBy L mine other w e):Does L mine other w (w.setCell a v) es:=by
 have ht:=Turn.set (L:=L) w a v o ho hm;refine ⟨ht,?_,fun e he=>⟨(hes e he).1,fun x hx hmem=>((hes e he).2 x hx hmem).turn tm to ht⟩⟩;simp only [World.setCell,Array.getElem?_modify,if_neg hc]
theorem Does.alloc {o:Obj} {es:Array Event} (tm:X7 L mine) (to:X7 L other) (hc:L.c<w.heap.size) (hes:∀e∈es,EvBy L mine other w e):Does L mine other w (w.alloc o) es:=by
 have ht:=Turn.alloc (L:=L) (mine:=mine) w o;refine ⟨ht,?_,fun e he=>⟨(hes e he).1,fun x hx hmem=>((hes e he).2 x hx hmem).turn tm to ht⟩⟩;show (w.heap.push o)[L.c]?=_;simp [Array.getElem?_push,Nat.ne_of_lt hc]
end
abbrev Lot.R0 (L:Lot):=Turn L L.send
abbrev Lot.R1 (L:Lot):=Turn L L.main
abbrev Lot.D0 (L:Lot):=Does L L.main L.send
abbrev Lot.D1 (L:Lot):=Does L L.send L.main
abbrev Lot.SL (L:Lot):=Zv L L.send L.main
abbrev Lot.ML (L:Lot):=Zv L L.main L.send
theorem Lot.terms0 (L:Lot):Terms L.R0 L.D0:=⟨fun _ _ _=>Turn.trans,fun w=>.idle w⟩
theorem Lot.terms1 (L:Lot):Terms L.R1 L.D1:=⟨fun _ _ _=>Turn.trans,fun w=>.idle w⟩
theorem Lot.draws0 (L:Lot):LetsDraw L.D0:=fun w=>⟨.draw w _,rfl,by simp⟩
theorem Lot.draws1 (L:Lot):LetsDraw L.D1:=fun w=>⟨.draw w _,rfl,by simp⟩
theorem Lot.rules (L:Lot) (FS:World→Prop) (hf:∀w w',L.R1 w w'→FS w→FS w'):YS L.c L.R0 L.R1 L.D0 L.D1 L.SL L.ML FS where
 t0:=L.terms0.trans
 t1:=L.terms1.trans
 at0:=fun w d=>.at w d
 at1:=fun w d=>.at w d
 ch0:=fun w cl s r tm=>.chan w cl s r tm
 ch1:=fun w cl s r tm=>.chan w cl s r tm
 d01:=fun _ _ _ h=>h.turn
 d10:=fun _ _ _ h=>h.turn
 c0:=fun _ _ _ h=>h.chan
 c1:=fun _ _ _ h=>h.chan
 e0:=fun _ _ _ h=>h.evs
 e1:=fun _ _ _ h=>h.evs
 s0:=fun _ _ _ r a=>a.turn L.tells_send L.tells_main r
 s1:=fun _ _ _ r a=>a.turn L.tells_send L.tells_main r
 m0:=fun _ _ _ r a=>a.turn L.tells_main L.tells_send r
 m1:=fun _ _ _ r a=>a.turn L.tells_main L.tells_send r
 ap:=fun w a b ha hb e=>by
  unfold Lot.SL Zv at ha;unfold Lot.ML Zv at hb;cases hx:a.loc with
  |cell x=>
   rw [hx] at ha e;rw [←e] at hb;obtain ⟨o,h1,h2,h3⟩:=ha;obtain ⟨o',k1,k2,k3⟩:=hb;obtain rfl:o=o':=by rw [h1] at k1;exact Option.some.inj k1
   exact ⟨by cases hw:a.write<;>simp_all,by cases hw:b.write<;>simp_all⟩
  |obj r=>
   rw [hx] at ha e;rw [←e] at hb;exact ⟨ha.2,hb.2⟩
  |output=>rw [hx] at ha e;rw [←e] at hb;exact ⟨ha,hb⟩
  |goroutines=>rw [hx] at ha e;rw [←e] at hb;exact ⟨ha,hb⟩
  |mark m=>rw [hx] at ha e;rw [←e] at hb;exact ⟨ha,hb⟩
 sc:=fun w=>⟨rfl,rfl⟩
 f1:=hf
section
variable {P:Program} {main:Bool} {R:World→World→Prop} {D:World→World→Array Event→Prop} {Stop:Goroutine→World→Prop}
variable {b:Frame} {a:Act} {k:List Item} {cs:List Frame} {w:World}
theorem Y1.ctl (T:Terms R D) {g g':Goroutine} (hs:g.status=.running) (h:∀w,stepG P main g w=.go g' w) (hg:Y1 P main R D Stop g' w):Y1 P main R D Stop g w:=
 .one hs fun w₁ hr=>⟨g',w₁,#[],h w₁,T.idle _,hg.rely T.trans hr⟩
theorem Y1.skip (T:Terms R D) (h:Y1 P main R D Stop (G (b.at a k) cs) w):Y1 P main R D Stop (G (b.at a (.code .skip::k)) cs) w:=.ctl T rfl (fun _=>stepG_skip) h
theorem Y1.inBlock (T:Terms R D) {id:Nat} (h:Y1 P main R D Stop (G (b.at a k) cs) w):Y1 P main R D Stop (G (b.at a (.inBlock id::k)) cs) w:=.ctl T rfl (fun _=>stepG_inBlock) h
theorem Y1.seq (T:Terms R D) {x y:Code} (h:Y1 P main R D Stop (G (b.at a (.code x::.code y::k)) cs) w):Y1 P main R D Stop (G (b.at a (.code (.seq x y)::k)) cs) w:=.ctl T rfl (fun _=>stepG_seq) h
theorem Y1.cond (T:Terms R D) {c:Operand} {x y:Code} {t:Bool} (e:a.eval c=.bool t) (h:Y1 P main R D Stop (G (b.at a (.code (if t then x else y)::k)) cs) w):Y1 P main R D Stop (G (b.at a (.code (.cond c x y)::k)) cs) w:=.ctl T rfl (fun _=>stepG_cond e) h
theorem Y1.block (T:Terms R D) {id:Nat} {c:Code} (h:Y1 P main R D Stop (G (b.at a (.code c::.inBlock id::k)) cs) w):Y1 P main R D Stop (G (b.at a (.code (.block id c)::k)) cs) w:=.ctl T rfl (fun _=>stepG_block) h
theorem Y1.loop (T:Terms R D) {c:Code} (h:Y1 P main R D Stop (G (b.at a (.code c::.inLoop c::k)) cs) w):Y1 P main R D Stop (G (b.at a (.code (.loop c)::k)) cs) w:=.ctl T rfl (fun _=>stepG_loop) h
theorem Y1.inLoop (T:Terms R D) {c:Code} (h:Y1 P main R D Stop (G (b.at a (.code c::.inLoop c::k)) cs) w):Y1 P main R D Stop (G (b.at a (.inLoop c::k)) cs) w:=.ctl T rfl (fun _=>stepG_inLoop) h
theorem Y1.exit (T:Terms R D) {id:Nat} {k':List Item} (e:exitTo id k=some k') (h:Y1 P main R D Stop (G (b.at a k') cs) w):Y1 P main R D Stop (G (b.at a (.code (.exit id)::k)) cs) w:=.ctl T rfl (fun _=>stepG_exit e) h
theorem Y1.region (T:Terms R D) {id:Nat} {ops:Array Oper} (h:Y1 P main R D Stop (G (b.at a (.inRegion ops (List.range ops.size)::k)) cs) w):Y1 P main R D Stop (G (b.at a (.code (.region id ops false)::k)) cs) w:=.ctl T rfl (fun _=>stepG_region) h
theorem Y1.regionEnd (T:Terms R D) {ops:Array Oper} (h:Y1 P main R D Stop (G (b.at a k) cs) w):Y1 P main R D Stop (G (b.at a (.inRegion ops []::k)) cs) w:=.ctl T rfl (fun _=>stepG_region_end) h
theorem Y1.ret (T:Terms R D) (h:∀todo,Y1 P main R D Stop (G {b.at a todo with mode:=.returning} cs) w):Y1 P main R D Stop (G (b.at a (.code .ret::k)) cs) w:=.ctl T rfl (fun _=>stepG_ret') (h _)
theorem Y1.fin (T:Terms R D) (h:Y1 P main R D Stop (G {b.at a [] with mode:=.returning} cs) w):Y1 P main R D Stop (G (b.at a []) cs) w:=.ctl T rfl (fun _=>stepG_end) h
theorem Y1.unwanted (T:Terms R D) {ops:Array Oper} {i:Nat} {rest:List Nat} {o:Oper} (ho:ops[i]?=some o) (hw:Region.wanted o (yielded ops a.tmps)=false)
  (h:Y1 P main R D Stop (G (b.at (a.put o.dst undef) (.inRegion ops rest::k)) cs) w):Y1 P main R D Stop (G (b.at a (.inRegion ops (i::rest)::k)) cs) w:=.ctl T rfl (fun _=>stepG_unwanted ho hw) h
theorem Y1.op {ops:Array Oper} {i:Nat} {rest:List Nat} {o:Oper} (ho:ops[i]?=some o) (hw:Region.wanted o (yielded ops a.tmps)=true) (hk:b.kind≠.early)
  (h:∀w₁,R w w₁→∀K:Act→World→Prop,(∀a' w',D w₁ w' (listed P b.fn a o w₁)∧Y1 P main R D Stop (G (b.at a' (.inRegion ops rest::k)) cs) w'→K a' w')→uponK o a K ((execOp a.eval o).run P w₁)):
  Y1 P main R D Stop (G (b.at a (.inRegion ops (i::rest)::k)) cs) w:=by
 refine .one rfl fun w₁ hr=>?_;have:=h w₁ hr _ fun _ _ x=>x;generalize hx:(execOp a.eval o).run P w₁=r at this
 match r,this with
 |.ok (.value v) w',h=>exact ⟨_,_,_,stepG_value ho hw hk hx,h.1,h.2⟩
 |.ok .skip w',h=>exact ⟨_,_,_,stepG_none ho hw hk hx,h.1,h.2⟩
theorem Y1.enter (T:Terms R D) {ops:Array Oper} {i:Nat} {rest:List Nat} {o:Oper} {f:FuncId} {fn:Func} {c:Code} {args:Array Operand} {ats:Array TypeId}
  (ho:ops[i]?=some o) (hw:Region.wanted o (yielded ops a.tmps)=true) (hk:b.kind≠.early) (hop:o.op=.call {callee:=.value (.func f),args,argTypes:=ats})
  (hf : P.funcs[f]? = some fn) (hname : (fn.name == "runtime.NumGoroutine") = false) (hb : fn.body = some c)
  (h:Y1 P main R D Stop (G ((base f).at {tmps:=args.map a.eval++Array.replicate (fn.ntmps-(args.map a.eval).size) undef,defers:=[]} [.code c]) (b.at a (.inRegion ops (i::rest)::k)::cs)) w):
  Y1 P main R D Stop (G (b.at a (.inRegion ops (i::rest)::k)) cs) w:=
 .one rfl fun w₁ hr=>by
  have:=goes_call (P:=P) (main:=main) (b:=b) (a:=a) (k:=k) (cs:=cs) (w:=w₁) (K:=fun g' w' es=>g'=G ((base f).at {tmps:=args.map a.eval++Array.replicate (fn.ntmps-(args.map a.eval).size) undef,defers:=[]} [.code c]) (b.at a (.inRegion ops (i::rest)::k)::cs)∧w'=w₁∧es=#[]) ho hw hk hop hf hname hb ⟨rfl,rfl,rfl⟩;revert this;cases hst:stepG P main (G (b.at a (.inRegion ops (i::rest)::k)) cs) w₁<;>simp only [GStep.goes]<;>try exact False.elim
  rintro ⟨rfl,rfl,rfl⟩;exact ⟨_,_,_,rfl,T.idle _,h.rely T.trans hr⟩
end
def Y3 (P:Program) (Post:Goroutine→World→Prop) (a:Goroutine) (w:World):Prop:=
 ∀(gs:Array Goroutine) (sl:Option (Nat×Nat)) (t:Trace) (q:Nat→Nat) (d:Nat),gs[0]?=some a→Leavers P t gs q→YL t→
  ∃N gs' a' w' sl' t' q',runNT P N (crowd gs (w.at d) sl) t=(.next (crowd gs' w' sl'),t')∧gs.size≤gs'.size∧gs'[0]?=some a'∧Post a' w'∧Leavers P t' gs' q'∧YL t'
section
variable {P:Program} {Post Q:Goroutine→World→Prop} {a:Goroutine} {w:World}
theorem Y0i {m m' m'':Machine} {t t' t'':Trace} {N K:Nat} (h:runNT P N m t=(.next m',t')) (hk:runNT P K m' t'=(.next m'',t'')):runNT P (N+K) m t=(.next m'',t''):=by
 induction N generalizing m t with
 |zero=>
  simp only [runNT] at h;cases h;rw [Nat.zero_add];exact hk
 |succ N ih=>
  rw [show N+1+K=(N+K)+1 by omega];simp only [runNT] at h ⊢;split at h
  ·exact ih h
  ·rename_i hx _
   simp only [Prod.mk.injEq] at h;exact absurd h.1 (hx _)
theorem Y3.done (h:∀d,Post a (w.at d)):Y3 P Post a w:=fun gs sl t q d h0 hL hP=>⟨0,gs,a,w.at d,sl,t,q,rfl,Nat.le_refl _,h0,h d,hL,hP⟩
theorem Y3.at (h:Y3 P Post a w) (d:Nat):Y3 P Post a (w.at d):=fun gs sl t q d' h0 hL hP=>h gs sl t q d' h0 hL hP
theorem Y3.bind (h:Y3 P Q a w) (hm:∀a' w',Q a' w'→Y3 P Post a' w'):Y3 P Post a w:=fun gs sl t q d h0 hL hP=>by
 obtain ⟨N,gs',a',w',sl',t',q',h1,h2,h3,h4,h5,h6⟩:=h gs sl t q d h0 hL hP;obtain ⟨M,gs2,a2,w2,sl2,t2,q2,k1,k2,k3⟩:=hm _ _ h4 gs' sl' t' q' w'.drawn h3 h5 h6;exact ⟨N+M,gs2,a2,w2,sl2,t2,q2,Y0i h1 k1,Nat.le_trans h2 k2,k3⟩
theorem Y3s {gs:Array Goroutine} {t:Trace} {q:Nat→Nat} (hL:Leavers P t gs q) (ha:gs[0]?=some a) (hr:a.status=.running):∀g∈gs,awake g:=by
 intro g hg;obtain ⟨i,hi,rfl⟩:=Array.mem_iff_getElem.1 hg;rcases Nat.eq_zero_or_pos i with rfl|hpos
 ·have:gs[0]=a:=by simpa [Array.getElem?_eq_getElem hi] using ha
  rw [this];exact awake_of (.inl hr)
 ·exact awake_of ((hL.old i _ hpos (Array.getElem?_eq_getElem hi)).status.elim .inl fun x=>.inr (.inr x))
theorem Y4E {gs:Array Goroutine} {t:Trace} {q:Nat→Nat} {g:Goroutine} {i:Nat} {sl:Option (Nat×Nat)} (hL:Leavers P t gs q) (hP:YL t) (ha:gs[0]?=some a) (hr:a.status=.running) (hi:gs[i]?=some g) (hg:g.status=.running) (hpos:0<i):
  ∃gs' ops q',runT P (crowd gs w sl) i=(.next (crowd gs' w sl),ops)∧gs'.size=gs.size∧gs'[0]?=some a∧Leavers P (t++ops) gs' q'∧YL (t++ops)∧sumTo gs'.size q'<sumTo gs.size q:=by
 have hq:=hL.old i g hpos hi;have hi0:i≠0:=by omega
 have hlt:i<gs.size:=(Array.getElem?_eq_some_iff.1 hi).1;have hi0':(i==0)=false:=by simp;omega
 cases hqi:q i with
 |zero=>rw [hqi] at hq;rw [hq.1] at hg;cases hg
 |succ m=>
  rw [hqi] at hq;rcases hq with ⟨hf,_⟩|⟨_,g',es,hm,hstp,hq'⟩
  ·rw [hf] at hg;cases hg
  have hrunT:=runT_crowd_go (P:=P) (sl:=sl) (i:=i) hi (by rw [hi0'];exact hstp w);have hsz:((gs.map (woken P g g' w)).setIfInBounds i g').size=gs.size:=by simp
  have hsum:sumTo gs.size (upd q i m)+(m+1)=sumTo gs.size q+m:=by
   have:=sumTo_upd q m id hlt;simpa [hqi] using this
  refine ⟨_,_,upd q i m,hrunT,hsz,?_,⟨fun j x hj hx=>?_,fun j hj=>?_⟩,hP.mute hi0 hm,by rw [hsz];omega⟩
  ·rw [Array.getElem?_setIfInBounds_ne hi0,Array.getElem?_map,ha];simp [woken_running hr]
  ·by_cases hji:i=j
   ·subst hji;rw [Array.getElem?_setIfInBounds_self_of_lt (by simpa using hlt)] at hx;obtain rfl:=Option.some.inj hx;rw [upd_same,Deaf_own];exact hq'
   ·rw [Array.getElem?_setIfInBounds_ne hji,Array.getElem?_map] at hx;obtain ⟨y,hy,rfl⟩:=Option.map_eq_some_iff.1 hx;have hqj:=hL.old j y hj hy;rw [woken_quitsD hqj,upd_ne q m (Ne.symm hji),Deaf_other t hji _ ofEvents_g];exact hqj
  ·rw [Deaf_other t (g':=i) (by simp at hj;omega) _ ofEvents_g];exact hL.above j (by simpa using hj)
theorem Y3.picked (hr:a.status=.running) (H:∀(gs:Array Goroutine) (sl:Option (Nat×Nat)) (t:Trace) (q:Nat→Nat) (d:Nat),gs[0]?=some a→Leavers P t gs q→YL t→
   ∃gs1 w1 sl1 ops q1 N gs' a' w' sl' t' q',runT P (crowd gs (w.at d) sl) 0=(.next (crowd gs1 w1 sl1),ops)∧q1=q∧runNT P N (crowd gs1 w1 sl1) (t++ops)=(.next (crowd gs' w' sl'),t')∧gs.size≤gs'.size∧gs'[0]?=some a'∧Post a' w'∧Leavers P t' gs' q'∧YL t'):Y3 P Post a w:=by
 intro gs sl t q;generalize hM:sumTo gs.size q=M;induction M using Nat.strongRecOn generalizing gs sl t q with
 |_ M ihM=>
  intro d h0 hL hP;obtain ⟨i,g,d',sl',hi,hg,hst⟩:=crowd_pick (P:=P) (w:=w.at d) (sl:=sl) (Y3s hL h0 hr) ⟨0,_,h0,hr⟩;by_cases hi0:i=0
  ·subst hi0;obtain ⟨gs1,w1,sl1,ops,q1,N,gs',a',w',sl2,t',q',e1,_,e2,e3⟩:=H gs sl' t q d' h0 hL hP;exact ⟨N+1,gs',a',w',sl2,t',q',by simp only [runNT,hst];rw [show ((w.at d).at d')=w.at d' from rfl,e1];exact e2,e3⟩
  ·obtain ⟨gs',ops,q',e1,e2,e3,e4,e5,e6⟩:=Y4E (w:=(w.at d).at d') (sl:=sl') hL hP h0 hr hi hg (by omega);obtain ⟨N,gs2,a2,w2,sl2,t2,q2,k1,k2,k3⟩:=ihM _ (by omega) gs' sl' (t++ops) q' rfl d' e3 e4 e5;exact ⟨N+1,gs2,a2,w2,sl2,t2,q2,by simp only [runNT,hst,e1];exact k1,by omega,k3⟩
theorem Y3.step (hr:a.status=.running) (h:∀d,∃a' w' es,stepG P true a (w.at d)=.go a' w' es∧(∀e∈es,EvOk e)∧Y3 P Post a' w'):Y3 P Post a w:=by
 refine .picked hr fun gs sl t q d h0 hL hP=>?_;obtain ⟨a',w',es,hgo,hes,hR⟩:=h d;have hlt:0<gs.size:=(Array.getElem?_eq_some_iff.1 h0).1;have hrunT:=runT_crowd_go (P:=P) (sl:=sl) (i:=0) h0 (show stepG P (0==0) a (w.at d)=_ from hgo);obtain ⟨N,gs2,a2,w2,sl2,t2,q2,k1,k2,k3⟩:=hR ((gs.map (woken P a a' w')).setIfInBounds 0 a') sl (t++MemOp.ofEvents 0 a.frame.fn a.frame.place es) q w'.drawn (by simp [hlt])
  ⟨fun j x hj hx=>by
   rw [Array.getElem?_setIfInBounds_ne (by omega),Array.getElem?_map] at hx;obtain ⟨y,hy,rfl⟩:=Option.map_eq_some_iff.1 hx;have hqj:=hL.old j y hj hy;rw [woken_quitsD hqj,Deaf_other t (by omega) _ ofEvents_g];exact hqj,fun j hj=>by
   rw [Deaf_other t (g':=0) (by simp at hj;omega) _ ofEvents_g];exact hL.above j (by simpa using hj)⟩ (hP.own hes)
 exact ⟨_,_,_,_,q,N,gs2,a2,w2,sl2,t2,q2,hrunT,rfl,k1,by simpa using k2,k3⟩
theorem Y3.of_callsB {f:FuncId} {args:Array Value} {R:Ending→World→Prop} (cs:List Frame) (h:Y2O P f args w R)
  (hp:∀fr e w' d',fr.fn=f→(∀τ d,fr.leaving P (reW w' τ d) e)→R e w'→Y3 P Post (G fr cs) (reW w' w.tape d')):Y3 P Post (G (Frame.enter P f args .normal) cs) w:=by
 intro gs sl t q d h0 hL hP;obtain ⟨N,gs',fr',w',d',sl',t',q',e,h1,h2,h3,h4,h5,h6,h7,h8⟩:=h gs sl t q cs w.tape d h0 hL hP;obtain ⟨M,gs2,a2,w2,sl2,t2,q2,k1,k2,k3⟩:=hp fr' e w' d' h4 h5 h6 gs' sl' t' q' d' h3 h7 h8;exact ⟨N+M,gs2,a2,w2,sl2,t2,q2,Y0i (show runNT P N (crowd gs (w.at d) sl) t=_ from h1) k1,Nat.le_trans h2 k2,k3⟩
end
section
variable {P:Program} {c:Nat} {z:Value} {R0 R1:World→World→Prop} {D0 D1:World→World→Array Event→Prop} {SL ML:World→Touch→Prop} {FS:World→Prop} {Fin Post:Goroutine→World→Prop}
theorem Y3.fork (U:YS c R0 R1 D0 D1 SL ML FS) {vs:List Value} {a:Goroutine} {w:World} (hr:a.status=.running)
  (h:∀d,∃a' b w' es,stepG P true a (w.at d)=.spawn a' b w' es∧(∀e∈es,EvOk e)∧(∃s r tm,w'.heap[c]?=some (.chan 0 #[] false s r tm))∧Y1 P true R0 D0 (StopA P c z R0 D0 ML Fin vs) a' w'∧Y1 P false R1 D1 (StopB P c R1 D1 SL FS vs) b w')
  (hp:∀a' w',Fin a' w'→FS w'→Y3 P Post a' w'):Y3 P Post a w:=by
 refine Y3.bind (Q:=fun a' w'=>Fin a' w'∧FS w') (.picked hr fun gs sl t q d h0 hL hP=>?_) fun a' w' ⟨x,y⟩=>hp a' w' x y;obtain ⟨a',b,w',es,hsp,hes,hc,hA,hB⟩:=h d;have hlt:0<gs.size:=(Array.getElem?_eq_some_iff.1 h0).1;have hrunT:=runT_crowd_spawn (P:=P) (sl:=sl) (i:=0) h0 (show stepG P (0==0) a (w.at d)=_ from hsp);have hk0:gs.size≠0:=by omega
 have e2:∀x y,(((MemOp.ofEvents 0 a.frame.fn a.frame.place es).push x).push y:Trace)=MemOp.ofEvents 0 a.frame.fn a.frame.place es++#[x,y]:=fun x y=>Array.ext' (by simp);rw [e2] at hrunT;have hq:∀(j:Nat) (op:MemOp),op∈(#[{g:=0,fn:=a.frame.fn,pos:=a.frame.place,act:=.go gs.size},{g:=gs.size,fn:=b.frame.fn,pos:=a.frame.place,act:=.start}]:Trace)→∀d,deafStep j d op=d:=fun j op hop=>by
  simp only [List.mem_toArray,List.mem_cons,List.not_mem_nil,or_false] at hop;rcases hop with rfl|rfl<;>exact fun _=>rfl
 have hd:∀j,j≠0→Deaf (t++(MemOp.ofEvents 0 a.frame.fn a.frame.place es++#[{g:=0,fn:=a.frame.fn,pos:=a.frame.place,act:=.go gs.size},{g:=gs.size,fn:=b.frame.fn,pos:=a.frame.place,act:=.start}])) j=Deaf t j:=fun j hj=>Y04 ofEvents_g (Ne.symm hj) (hq j);have hC:Ctx P c gs.size SL ML ((gs.setIfInBounds 0 a').push b) w' (t++(MemOp.ofEvents 0 a.frame.fn a.frame.place es++#[{g:=0,fn:=a.frame.fn,pos:=a.frame.place,act:=.go gs.size},{g:=gs.size,fn:=b.frame.fn,pos:=a.frame.place,act:=.start}])) q:=by
  refine ⟨hk0,hc,fun i g hi0 hik hi=>?_,fun j hj=>?_,?_⟩
  ·have hi':gs[i]?=some g:=by
    rw [Array.getElem?_push] at hi;simp only [Array.size_setIfInBounds,hik,if_false] at hi;rw [Array.getElem?_setIfInBounds_ne (Ne.symm hi0)] at hi;exact hi
   rw [hd i hi0];exact hL.old i g (by omega) hi'
  ·have hj':gs.size+1≤j:=by simpa using hj
   rw [hd j (by omega)];exact hL.above j (by omega)
  ·rw [←Array.append_assoc];exact X9.fork (hP.own hes) (by rw [Deaf_other t (Ne.symm hk0) _ ofEvents_g];exact hL.above _ (Nat.le_refl _)) _ _ _
 obtain ⟨N,gs2,a2,w2,sl2,t2,q2,k1,k2,k3,k4,k5,k6,k7⟩:=phase U vs a' b w' _ sl _ q hA hB (by rw [Array.getElem?_push,if_neg (by simp;omega),Array.getElem?_setIfInBounds_self_of_lt hlt]) (by rw [Array.getElem?_push,if_pos (by simp)]) hC;exact ⟨_,_,_,_,q,N,gs2,a2,w2,sl2,t2,q2,hrunT,rfl,k1,by rw [k2];simp,k3,⟨k4,k5⟩,k6,k7⟩
end
end Go.Proofs.YtdoghgnifkgfdaaGreat.Mute
