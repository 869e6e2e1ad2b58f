import Derived.Test.YtdoghgnifkgfdaaGreatP04
set_option maxRecDepth 100000
set_option maxHeartbeats 16000000
namespace Go.Proofs.YtdoghgnifkgfdaaGreat.Mute
open Go Go.Conc
open Go.ConcN (sumTo upd sumTo_upd upd_ne upd_same)
section
variable {P:Program} {c k:Nat} {z:Value} {R0 R1:World→World→Prop} {D0 D1:World→World→Array Event→Prop} {SL ML:World→Touch→Prop} {FS:World→Prop} {Fin:Goroutine→World→Prop}
 {gs:Array Goroutine} {w:World} {t:Trace} {q:Nat→Nat} {a b:Goroutine} {d:Nat} {sl:Option (Nat×Nat)} {es:Array Event}
theorem JL {g:Goroutine} {n m:Nat} (h:QuitsD P n m g):g.status≠.blocked:=by
 rcases h.status with e|e<;>rw [e]<;>simp
theorem Ctx.partners0 (h:Ctx P c k SL ML gs w t q) (hb:gs[k]?=some b) (hnb:b.status≠.blocked) (send:Bool):partners (gs.setIfInBounds 0 ph) c send=[]:=partners_nil fun j g hj=>by
 rcases getElem?_stand gs 0 j g hj with ⟨_,rfl⟩|⟨hj0,hj'⟩
 ·exact offersAt_ph _ _
 ·by_cases hjk:j=k
  ·subst hjk;rw [hb] at hj';cases hj';exact offersAt_of_not_blocked hnb _ _
  ·exact offersAt_of_not_blocked (JL (h.rest j g hj0 hjk hj')) _ _
theorem Ctx.partnersk (h:Ctx P c k SL ML gs w t q) (ha:gs[0]?=some a) (hna:a.status≠.blocked) (send:Bool):partners (gs.setIfInBounds k ph) c send=[]:=partners_nil fun j g hj=>by
 rcases getElem?_stand gs k j g hj with ⟨_,rfl⟩|⟨hjk,hj'⟩
 ·exact offersAt_ph _ _
 ·by_cases hj0:j=0
  ·subst hj0;rw [ha] at hj';cases hj';exact offersAt_of_not_blocked hna _ _
  ·exact offersAt_of_not_blocked (JL (h.rest j g hj0 hjk hj')) _ _
theorem Ctx.partner0 {g₂:Goroutine} {v z':Value} {sh:CommShape} (h:Ctx P c k SL ML gs w t q) (hb:gs[k]?=some (parked g₂ #[scase c v z'] sh)):partners (gs.setIfInBounds 0 ph) c true=[(k,0)]:=by
 have hk:=h.k0;rw [partners_one (j:=k) (stand_get hk hb) fun j g hjk hj=>by
  rcases getElem?_stand gs 0 j g hj with ⟨_,rfl⟩|⟨hj0,hj'⟩
  ·exact offersAt_ph _ _
  ·exact offersAt_of_not_blocked (JL (h.rest j g hj0 hjk hj')) _ _]
 rw [offersAt_parked_send];simp
theorem Ctx.partnerk {g₂:Goroutine} {z':Value} {sh:CommShape} (h:Ctx P c k SL ML gs w t q) (ha:gs[0]?=some (parked g₂ #[rcase c z'] sh)):partners (gs.setIfInBounds k ph) c false=[(0,0)]:=by
 have hk:=h.k0;rw [partners_one (j:=0) (stand_get (Ne.symm hk) ha) fun j g hj0 hj=>by
  rcases getElem?_stand gs k j g hj with ⟨_,rfl⟩|⟨hjk,hj'⟩
  ·exact offersAt_ph _ _
  ·exact offersAt_of_not_blocked (JL (h.rest j g hj0 hjk hj')) _ _]
 rw [offersAt_parked_recv];simp
theorem Ctx.put (h:Ctx P c k SL ML gs w t q) {w':World} {ops:Trace} {gs':Array Goroutine} (hs:gs'.size=gs.size) (ho:∀j,j≠0→j≠k→gs'[j]?=gs[j]?) (hc:∃s r tm,w'.heap[c]?=some (.chan 0 #[] false s r tm))
  (hd:∀j,j≠0→j≠k→Deaf (t++ops) j=Deaf t j) (hp:X9 k (SL w') (ML w') (t++ops)):Ctx P c k SL ML gs' w' (t++ops) q:=
 ⟨h.k0,hc,fun j x hj0 hjk hx=>by rw [ho j hj0 hjk] at hx;rw [hd j hj0 hjk];exact h.rest j x hj0 hjk hx,fun j hj=>by
  by_cases hj0:j=0
  ·subst hj0;exact hp.h0
  ·by_cases hjk:j=k
   ·subst hjk;exact hp.hk
   ·rw [hd j hj0 hjk];exact h.above j (by omega),hp⟩
theorem Y04 {t u v:Trace} {j g:Nat} (hu:∀op∈u,op.g=g) (hj:g≠j) (hv:∀op∈v,∀d,deafStep j d op=d):Deaf (t++(u++v)) j=Deaf t j:=by
 rw [←Array.append_assoc,Deaf_quiet hv,Deaf_other t hj _ hu]
theorem Ctx.wait0 (U:YS c R0 R1 D0 D1 SL ML FS) (h:Ctx P c k SL ML gs w t q) (ha:gs[0]?=some a) (hb:gs[k]?=some b) (hnb:b.status≠.blocked) (hst:stepG P true a (w.at d)=.comm (core a) #[rcase c z] true (.recv true) (w.at d) es)
  (hes:∀e∈es,EvOk e∧∀x,(MemAct.ofEvent e).touch?=some x→x.loc.isMemory=true→ML (w.at d) x):
  ∃gs' ops,runT P (crowd gs (w.at d) sl) 0=(.next (crowd gs' (w.at d) sl),ops)∧gs'.size=gs.size∧gs'[0]?=some (parked (core a) #[rcase c z] (.recv true))∧gs'[k]?=some b∧Ctx P c k SL ML gs' (w.at d) (t++ops) q:=by
 obtain ⟨s,r,tm,hc⟩:=h.chan;have hc':(w.at d).heap[c]?=some (.chan 0 #[] false s r tm):=hc;have hlt:0<gs.size:=(Array.getElem?_eq_some_iff.1 ha).1;have hr:=crowd_waits (P:=P) (sl:=sl) (i:=0) ha (show stepG P (0==0) a (w.at d)=_ from hst) (fun cc hcc=>by
  simp only [List.mem_toArray,List.mem_cons,List.not_mem_nil,or_false] at hcc;subst hcc;exact ways_recv_none hc' (h.partners0 hb hnb true))
 refine ⟨_,_,hr,by simp,by simp [hlt],by rw [Array.getElem?_setIfInBounds_ne (Ne.symm h.k0)];exact hb,h.put (by simp) (fun j hj _=>Array.getElem?_setIfInBounds_ne (Ne.symm hj)) ⟨s,r,tm,hc'⟩ (fun j hj _=>Deaf_other t (Ne.symm hj) _ ofEvents_g) ?_⟩;exact (h.past.mono (fun x=>U.s0 _ _ x (U.at0 w d)) (fun x=>U.m0 _ _ x (U.at0 w d))).own0 h.k0 (U.ap _) (fun e he=>(hes e he).1) (fun e he=>(hes e he).2)
theorem Ctx.wait1 (U:YS c R0 R1 D0 D1 SL ML FS) {b₂:Goroutine} {v z':Value} (h:Ctx P c k SL ML gs w t q) (ha:gs[0]?=some a) (hb:gs[k]?=some b) (hna:a.status≠.blocked) (hst:stepG P false b (w.at d)=.comm b₂ #[scase c v z'] true .send (w.at d) es)
  (hes:∀e∈es,EvOk e∧∀x,(MemAct.ofEvent e).touch?=some x→x.loc.isMemory=true→SL (w.at d) x):
  ∃gs' ops,runT P (crowd gs (w.at d) sl) k=(.next (crowd gs' (w.at d) sl),ops)∧gs'.size=gs.size∧gs'[0]?=some a∧gs'[k]?=some (parked b₂ #[scase c v z'] .send)∧Ctx P c k SL ML gs' (w.at d) (t++ops) q:=by
 obtain ⟨s,r,tm,hc⟩:=h.chan;have hc':(w.at d).heap[c]?=some (.chan 0 #[] false s r tm):=hc;have hlt:k<gs.size:=(Array.getElem?_eq_some_iff.1 hb).1;have hk0:(k==0)=false:=by have:=h.k0;simp;omega
 have hr:=crowd_waits (P:=P) (sl:=sl) (i:=k) hb (by rw [hk0];exact hst) (fun cc hcc=>by
  simp only [List.mem_toArray,List.mem_cons,List.not_mem_nil,or_false] at hcc;subst hcc;exact ways_send_none hc' (by simp) (h.partnersk ha hna false))
 refine ⟨_,_,hr,by simp,by rw [Array.getElem?_setIfInBounds_ne h.k0];exact ha,by rw [Array.getElem?_setIfInBounds_self_of_lt hlt],h.put (by simp) (fun j _ hj=>Array.getElem?_setIfInBounds_ne (Ne.symm hj)) ⟨s,r,tm,hc'⟩ (fun j _ hj=>Deaf_other t (Ne.symm hj) _ ofEvents_g) ?_⟩;exact (h.past.mono (fun x=>U.s0 _ _ x (U.at0 w d)) (fun x=>U.m0 _ _ x (U.at0 w d))).ownk h.k0 (U.ap _) (fun e he=>(hes e he).1) (fun e he=>(hes e he).2)
theorem Ctx.meet0 (U:YS c R0 R1 D0 D1 SL ML FS) {b₂:Goroutine} {v z':Value} (h:Ctx P c k SL ML gs w t q) (ha:gs[0]?=some a) (hb:gs[k]?=some (parked b₂ #[scase c v z'] .send)) (hst:stepG P true a (w.at d)=.comm (core a) #[rcase c z] true (.recv true) (w.at d) es)
  (hes:∀e∈es,EvOk e∧∀x,(MemAct.ofEvent e).touch?=some x→x.loc.isMemory=true→ML (w.at d) x):
  ∃gs' w' ops,runT P (crowd gs (w.at d) sl) 0=(.next (crowd gs' w' sl),ops)∧gs'.size=gs.size∧gs'[0]?=some (Go.Conc.served (core a) (.tuple #[v,.bool true]))∧gs'[k]?=some (Go.Conc.served b₂ undef)∧R0 (w.at d) w'∧R1 (w.at d) w'∧Ctx P c k SL ML gs' w' (t++ops) q:=by
 obtain ⟨s,r,tm,hc⟩:=h.chan;have hc':(w.at d).heap[c]?=some (.chan 0 #[] false s r tm):=hc;have hlt:0<gs.size:=(Array.getElem?_eq_some_iff.1 ha).1;have hltk:k<gs.size:=(Array.getElem?_eq_some_iff.1 hb).1;have hr:=crowd_recv_meets (P:=P) (sl:=sl) (i:=0) ha (show stepG P (0==0) a (w.at d)=_ from hst) hc' h.k0 hb (h.partner0 hb);rw [finishComm_send,finishComm_recv] at hr;have hcc:c<(w.at d).heap.size:=by
  rcases Nat.lt_or_ge c (w.at d).heap.size with h'|h'
  ·exact h'
  ·rw [Array.getElem?_eq_none h'] at hc';cases hc'
 refine ⟨_,_,_,hr,by simp,?_,?_,U.ch0 _ _ _ _ _,U.ch1 _ _ _ _ _,?_⟩
 ·rw [Array.getElem?_setIfInBounds_self_of_lt (by simpa using hlt)];rfl
 ·rw [Array.getElem?_setIfInBounds_ne (Ne.symm h.k0),Array.getElem?_setIfInBounds_self_of_lt hltk]
 ·have hq:∀(j:Nat) (op:MemOp),op∈(#[{g:=k,fn:=b₂.frame.fn,pos:=b₂.frame.place,act:=.send c s},{g:=0,fn:=(core a).frame.fn,pos:=(core a).frame.place,act:=.recv c r 0},{g:=k,fn:=b₂.frame.fn,pos:=b₂.frame.place,act:=.sendDone c s},{g:=0,fn:=(core a).frame.fn,pos:=(core a).frame.place,act:=.recvDone c r}]:Trace)→(op.act.touch?=none∧(op.g=0∨op.g=k))∧∀d,deafStep j d op=d:=fun j op hop=>by
   simp only [List.mem_toArray,List.mem_cons,List.not_mem_nil,or_false] at hop;rcases hop with rfl|rfl|rfl|rfl
   ·exact ⟨⟨rfl,.inr rfl⟩,fun _=>rfl⟩
   ·exact ⟨⟨rfl,.inl rfl⟩,fun _=>rfl⟩
   ·exact ⟨⟨rfl,.inr rfl⟩,fun _=>rfl⟩
   ·exact ⟨⟨rfl,.inl rfl⟩,fun _=>rfl⟩
  refine h.put (by simp) (fun j hj hjk=>by rw [Array.getElem?_setIfInBounds_ne (Ne.symm hj),Array.getElem?_setIfInBounds_ne (Ne.symm hjk)]) ⟨s+1,r+1,tm,heap_setChan _ c 0 #[] false (s+1) (r+1) tm hcc⟩ (fun j hj _=>Y04 ofEvents_g (Ne.symm hj) (fun op hop=>(hq j op hop).2)) ?_
  ·rw [←Array.append_assoc];have h1:=(h.past.mono (fun x=>U.s0 _ _ x (U.at0 w d)) (fun x=>U.m0 _ _ x (U.at0 w d))).own0 (fn:=a.frame.fn) (pos:=a.frame.place) h.k0 (U.ap _) (fun e he=>(hes e he).1) (fun e he=>(hes e he).2);exact (h1.mutes (fun op hop=>(hq 0 op hop).1.1) (Deaf_quiet fun op hop=>(hq 0 op hop).2) (Deaf_quiet fun op hop=>(hq k op hop).2)).mono (fun x=>U.s0 _ _ x (U.ch0 _ _ _ _ _)) (fun x=>U.m0 _ _ x (U.ch0 _ _ _ _ _))
theorem Ctx.meet1 (U:YS c R0 R1 D0 D1 SL ML FS) {a₂ b₂:Goroutine} {v z':Value} (h:Ctx P c k SL ML gs w t q) (ha:gs[0]?=some (parked a₂ #[rcase c z] (.recv true))) (hb:gs[k]?=some b) (hst:stepG P false b (w.at d)=.comm b₂ #[scase c v z'] true .send (w.at d) es)
  (hes:∀e∈es,EvOk e∧∀x,(MemAct.ofEvent e).touch?=some x→x.loc.isMemory=true→SL (w.at d) x):
  ∃gs' w' ops,runT P (crowd gs (w.at d) sl) k=(.next (crowd gs' w' sl),ops)∧gs'.size=gs.size∧gs'[0]?=some (Go.Conc.served a₂ (.tuple #[v,.bool true]))∧gs'[k]?=some (Go.Conc.served b₂ undef)∧R0 (w.at d) w'∧R1 (w.at d) w'∧Ctx P c k SL ML gs' w' (t++ops) q:=by
 obtain ⟨s,r,tm,hc⟩:=h.chan;have hc':(w.at d).heap[c]?=some (.chan 0 #[] false s r tm):=hc;have hlt:0<gs.size:=(Array.getElem?_eq_some_iff.1 ha).1;have hltk:k<gs.size:=(Array.getElem?_eq_some_iff.1 hb).1;have hk0:(k==0)=false:=by have:=h.k0;simp;omega
 have hr:=crowd_send_meets (P:=P) (sl:=sl) (i:=k) hb (by rw [hk0];exact hst) hc' (Ne.symm h.k0) ha (h.partnerk ha);rw [finishComm_send,finishComm_recv] at hr;have hcc:c<(w.at d).heap.size:=by
  rcases Nat.lt_or_ge c (w.at d).heap.size with h'|h'
  ·exact h'
  ·rw [Array.getElem?_eq_none h'] at hc';cases hc'
 refine ⟨_,_,_,hr,by simp,?_,?_,U.ch0 _ _ _ _ _,U.ch1 _ _ _ _ _,?_⟩
 ·rw [Array.getElem?_setIfInBounds_ne h.k0,Array.getElem?_setIfInBounds_self_of_lt hlt];rfl
 ·rw [Array.getElem?_setIfInBounds_self_of_lt (by simpa using hltk)]
 ·have hq:∀(j:Nat) (op:MemOp),op∈(#[{g:=k,fn:=b₂.frame.fn,pos:=b₂.frame.place,act:=.send c s},{g:=0,fn:=a₂.frame.fn,pos:=a₂.frame.place,act:=.recv c r 0},{g:=k,fn:=b₂.frame.fn,pos:=b₂.frame.place,act:=.sendDone c s},{g:=0,fn:=a₂.frame.fn,pos:=a₂.frame.place,act:=.recvDone c r}]:Trace)→(op.act.touch?=none∧(op.g=0∨op.g=k))∧∀d,deafStep j d op=d:=fun j op hop=>by
   simp only [List.mem_toArray,List.mem_cons,List.not_mem_nil,or_false] at hop;rcases hop with rfl|rfl|rfl|rfl
   ·exact ⟨⟨rfl,.inr rfl⟩,fun _=>rfl⟩
   ·exact ⟨⟨rfl,.inl rfl⟩,fun _=>rfl⟩
   ·exact ⟨⟨rfl,.inr rfl⟩,fun _=>rfl⟩
   ·exact ⟨⟨rfl,.inl rfl⟩,fun _=>rfl⟩
  refine h.put (by simp) (fun j hj hjk=>by rw [Array.getElem?_setIfInBounds_ne (Ne.symm hjk),Array.getElem?_setIfInBounds_ne (Ne.symm hj)]) ⟨s+1,r+1,tm,heap_setChan _ c 0 #[] false (s+1) (r+1) tm hcc⟩ (fun j _ hj=>Y04 ofEvents_g (Ne.symm hj) (fun op hop=>(hq j op hop).2)) ?_
  ·rw [←Array.append_assoc];have h1:=(h.past.mono (fun x=>U.s0 _ _ x (U.at0 w d)) (fun x=>U.m0 _ _ x (U.at0 w d))).ownk (fn:=b.frame.fn) (pos:=b.frame.place) h.k0 (U.ap _) (fun e he=>(hes e he).1) (fun e he=>(hes e he).2);exact (h1.mutes (fun op hop=>(hq 0 op hop).1.1) (Deaf_quiet fun op hop=>(hq 0 op hop).2) (Deaf_quiet fun op hop=>(hq k op hop).2)).mono (fun x=>U.s0 _ _ x (U.ch0 _ _ _ _ _)) (fun x=>U.m0 _ _ x (U.ch0 _ _ _ _ _))
end
section
variable {P:Program} {c k:Nat} {z:Value} {R0 R1:World→World→Prop} {D0 D1:World→World→Array Event→Prop} {SL ML:World→Touch→Prop} {FS:World→Prop} {Fin:Goroutine→World→Prop}
structure CtxS (P:Program) (c pc:Nat) (SL:World→Touch→Prop) (FS:World→Prop) (gs:Array Goroutine) (w:World) (t:Trace) (q:Nat→Nat):Prop where
 chan:∃s r tm,w.heap[c]?=some (.chan 0 #[] true s r tm)
 rest:∀i g,i≠0→gs[i]?=some g→QuitsD P (q i) (Deaf t i) g
 above:∀j,gs.size≤j→Deaf t j=0
 past:PastS c pc (SL w) t
 fs:FS w
def AtShut (P:Program) (c:Nat) (z:Value) (R0:World→World→Prop) (ML:World→Touch→Prop) (Fin:Goroutine→World→Prop) (g:Goroutine) (w:World):Prop:=
 ∃g₂ es,stepG P true g w=.comm g₂ #[rcase c z] true (.recv true) w es∧(∀e∈es,EvOk e∧∀x,(MemAct.ofEvent e).touch?=some x→x.loc.isMemory=true→ML w x)∧∀w₂,R0 w w₂→Fin (Go.Conc.served g₂ (.tuple #[z,.bool false])) w₂
theorem XR (U:YS c R0 R1 D0 D1 SL ML FS) (w:World):R0 w w:=U.at0 w w.drawn
theorem ZJ (U:YS c R0 R1 D0 D1 SL ML FS) (w:World):R1 w w:=U.at1 w w.drawn
theorem CtxS.awakes {pc:Nat} {gs:Array Goroutine} {w:World} {t:Trace} {q:Nat→Nat} {a:Goroutine} (h:CtxS P c pc SL FS gs w t q) (ha:gs[0]?=some a) (hr:a.status=.running):∀g∈gs,awake g:=by
 intro g hg;obtain ⟨i,hi,rfl⟩:=Array.mem_iff_getElem.1 hg;rcases Nat.eq_zero_or_pos i with rfl|hpos
 ·have:gs[0]=a:=by simpa [Array.getElem?_eq_getElem hi] using ha
  rw [this];exact awake_of (.inl hr)
 ·exact awake_of ((h.rest i _ (by omega) (Array.getElem?_eq_getElem hi)).status.elim .inl fun x=>.inr (.inr x))
theorem CtxS.at (U:YS c R0 R1 D0 D1 SL ML FS) {pc:Nat} {gs:Array Goroutine} {w:World} {t:Trace} {q:Nat→Nat} (h:CtxS P c pc SL FS gs w t q) (d:Nat):CtxS P c pc SL FS gs (w.at d) t q:=
 ⟨h.chan,h.rest,h.above,h.past.mono fun x=>U.s0 _ _ x (U.at0 w d),U.f1 _ _ (U.at1 w d) h.fs⟩
theorem CtxS.slip {pc:Nat} {gs:Array Goroutine} {w:World} {t:Trace} {q:Nat→Nat} {a g:Goroutine} {i:Nat} {sl:Option (Nat×Nat)} (h:CtxS P c pc SL FS gs w t q) (ha:gs[0]?=some a) (hr:a.status=.running)
  (hi:gs[i]?=some g) (hg:g.status=.running) (hi0:i≠0):
  ∃gs' ops q',runT P (crowd gs w sl) i=(.next (crowd gs' w sl),ops)∧gs'.size=gs.size∧gs'[0]?=some a∧CtxS P c pc SL FS gs' w (t++ops) q'∧sumTo gs'.size q'<sumTo gs.size q:=by
 have hq:=h.rest i g hi0 hi;have hlt:i<gs.size:=(Array.getElem?_eq_some_iff.1 hi).1;have hi0':(i==0)=false:=by simp;omega
 cases hqi:q i with
 |zero=>rw [hqi] at hq;rw [hq.1] at hg;cases hg
 |succ m=>
  rw [hqi] at hq;rcases hq with ⟨hf,_⟩|⟨_,g',es,hm,hstp,hq'⟩
  ·rw [hf] at hg;cases hg
  have hrunT:=runT_crowd_go (P:=P) (sl:=sl) (i:=i) hi (by rw [hi0'];exact hstp w);have hsz:((gs.map (woken P g g' w)).setIfInBounds i g').size=gs.size:=by simp
  have hsum:sumTo gs.size (upd q i m)+(m+1)=sumTo gs.size q+m:=by
   have:=sumTo_upd q m id hlt;simpa [hqi] using this
  have mutes:∀op∈MemOp.ofEvents i g.frame.fn g.frame.place es,op.act.touch?=none:=fun op hop=>by obtain ⟨e,he,rfl⟩:=Go.Conc.mem_ofEvents hop;exact touch_mute (hm e he)
  refine ⟨_,_,upd q i m,hrunT,hsz,?_,⟨h.chan,fun j x hj0 hx=>?_,fun j hj=>?_,h.past.mutes mutes (Deaf_other t hi0 _ ofEvents_g),h.fs⟩,by rw [hsz];omega⟩
  ·rw [Array.getElem?_setIfInBounds_ne hi0,Array.getElem?_map,ha];simp [woken_running hr]
  ·by_cases hji:i=j
   ·subst hji;rw [Array.getElem?_setIfInBounds_self_of_lt (by simpa using hlt)] at hx;obtain rfl:=Option.some.inj hx;rw [upd_same,Deaf_own];exact hq'
   ·rw [Array.getElem?_setIfInBounds_ne hji,Array.getElem?_map] at hx;obtain ⟨y,hy,rfl⟩:=Option.map_eq_some_iff.1 hx;have hqj:=h.rest j y hj0 hy;rw [woken_quitsD hqj,upd_ne q m (Ne.symm hji),Deaf_other t hji _ ofEvents_g];exact hqj
  ·rw [Deaf_other t (g':=i) (by simp at hj;omega) _ ofEvents_g];exact h.above j (by simpa using hj)
theorem Y3j (U:YS c R0 R1 D0 D1 SL ML FS) {pc:Nat} {a:Goroutine} {w:World} (h:Y1 P true R0 D0 (AtShut P c z R0 ML Fin) a w):
  ∀(w₁:World) (gs:Array Goroutine) (sl:Option (Nat×Nat)) (t:Trace) (q:Nat→Nat),R0 w w₁→gs[0]?=some a→CtxS P c pc SL FS gs w₁ t q→Res P Fin FS gs w₁ sl t:=by
 induction h with
 | @stop a w hs h=>
  intro w₁ gs sl t q;generalize hM:sumTo gs.size q=M;induction M using Nat.strongRecOn generalizing w₁ gs sl t q with
  |_ M ihM=>
   intro hR ha hC;obtain ⟨i,g,d,sl',hi,hg,hst⟩:=crowd_pick (P:=P) (w:=w₁) (sl:=sl) (hC.awakes ha hs) ⟨0,_,ha,hs⟩;have hC':=hC.at U d;have hR':R0 w (w₁.at d):=U.t0 _ _ _ hR (U.at0 _ d);by_cases hi0:i=0
   ·subst hi0;obtain rfl:g=a:=by rw [ha] at hi;exact (Option.some.inj hi).symm
    obtain ⟨g₂,es,h1,h2,h3⟩:=h _ hR';obtain ⟨s,r,tm,hc⟩:=hC'.chan;have hlt:0<gs.size:=(Array.getElem?_eq_some_iff.1 ha).1;have hp:partners (gs.setIfInBounds 0 ph) c true=[]:=partners_nil fun j x hj=>by
     rcases getElem?_stand gs 0 j x hj with ⟨_,rfl⟩|⟨hj0,hj'⟩
     ·exact offersAt_ph _ _
     ·exact offersAt_of_not_blocked (JL (hC.rest j x hj0 hj')) _ _
    have hrunT:=crowd_recv_closed (P:=P) (sl:=sl') (i:=0) ha (show stepG P (0==0) g (w₁.at d)=_ from h1) hc hp;rw [finishComm_recv] at hrunT;have hq:∀(j:Nat) (op:MemOp),op∈(#[{g:=0,fn:=g₂.frame.fn,pos:=g₂.frame.place,act:=.recvClosed c}]:Trace)→∀d,deafStep j d op=d:=fun j op hop=>by
     simp only [List.mem_toArray,List.mem_cons,List.not_mem_nil,or_false] at hop;subst hop;exact fun _=>rfl
    have hpast:=hC'.past.own0 (fn:=g.frame.fn) (pos:=g.frame.place) (U.ap _) (fun e he=>(h2 e he).1) (fun e he=>(h2 e he).2);refine Res.step (hst.trans hrunT) (by simp) ⟨0,_,_,_,_,_,q,rfl,rfl,by rw [Array.getElem?_setIfInBounds_self_of_lt hlt];rfl,h3 _ (XR U _),hC'.fs,⟨fun j x hj hx=>?_,fun j hj=>?_⟩,?_⟩
    ·rw [Array.getElem?_setIfInBounds_ne (by omega)] at hx;rw [Y04 ofEvents_g (by omega) (hq j)];exact hC'.rest j x (by omega) hx
    ·have hj':gs.size≤j:=by simpa using hj
     rw [Y04 ofEvents_g (by omega) (hq j)];exact hC'.above j hj'
    ·rw [←Array.append_assoc];exact hpast.take _ _
   ·obtain ⟨gs',ops,q',h1,h2,h3,h4,h5⟩:=hC'.slip (sl:=sl') ha hs hi hg hi0;exact Res.step (hst.trans h1) h2 (ihM _ (by omega) _ gs' sl' (t++ops) q' rfl hR' h3 h4)
 | @step a w nx hs h1 h2 ih=>
  intro w₁ gs sl t q;generalize hM:sumTo gs.size q=M;induction M using Nat.strongRecOn generalizing w₁ gs sl t q with
  |_ M ihM=>
   intro hR ha hC;obtain ⟨i,g,d,sl',hi,hg,hst⟩:=crowd_pick (P:=P) (w:=w₁) (sl:=sl) (hC.awakes ha hs) ⟨0,_,ha,hs⟩;have hC':=hC.at U d;have hR':R0 w (w₁.at d):=U.t0 _ _ _ hR (U.at0 _ d);by_cases hi0:i=0
   ·subst hi0;obtain rfl:g=a:=by rw [ha] at hi;exact (Option.some.inj hi).symm
    obtain ⟨hgo,hD⟩:=h1 _ hR';obtain ⟨s,r,tm,hc⟩:=hC'.chan;have hlt:0<gs.size:=(Array.getElem?_eq_some_iff.1 ha).1;have hrunT:=runT_crowd_go (P:=P) (sl:=sl') (i:=0) ha (show stepG P (0==0) g (w₁.at d)=_ from hgo);have hr1:=U.d01 _ _ _ hD;refine Res.step (hst.trans hrunT) (by simp) (ih _ hR' _ _ sl' _ q (XR U _) (by simp [hlt]) ⟨⟨s,r,tm,(U.c0 _ _ _ hD).trans hc⟩,fun j x hj0 hx=>?_,fun j hj=>?_,?_,U.f1 _ _ hr1 hC'.fs⟩)
    ·rw [Array.getElem?_setIfInBounds_ne (Ne.symm hj0),Array.getElem?_map] at hx;obtain ⟨y,hy,rfl⟩:=Option.map_eq_some_iff.1 hx;have hqj:=hC'.rest j y hj0 hy;rw [woken_quitsD hqj,Deaf_other t (Ne.symm hj0) _ ofEvents_g];exact hqj
    ·rw [Deaf_other t (g':=0) (by simp at hj;omega) _ ofEvents_g];exact hC'.above j (by simpa using hj)
    ·exact (hC'.past.mono fun x=>U.s1 _ _ x hr1).own0 (U.ap _) (fun e he=>(U.e0 _ _ _ hD e he).1) (fun e he=>(U.e0 _ _ _ hD e he).2)
   ·obtain ⟨gs',ops,q',h1,h2,h3,h4,h5⟩:=hC'.slip (sl:=sl') ha hs hi hg hi0;exact Res.step (hst.trans h1) h2 (ihM _ (by omega) _ gs' sl' (t++ops) q' rfl hR' h3 h4)
theorem Ctx.close (U:YS c R0 R1 D0 D1 SL ML FS) {gs:Array Goroutine} {w:World} {t:Trace} {q:Nat→Nat} {a b:Goroutine} {sl:Option (Nat×Nat)} (h:Ctx P c k SL ML gs w t q) (ha:gs[0]?=some a) (hb:gs[k]?=some b) (hB:Y0C P c FS b w):
  ∃pc gs' w' ops q' g₂,runT P (crowd gs w sl) k=(.next (crowd gs' w' sl),ops)∧gs'.size=gs.size∧gs'[0]?=some (woken P b g₂ w' a)∧mayWake P b=true∧(g₂.status=.running∨g₂.status=.finished)∧R0 w w'∧CtxS P c pc SL FS gs' w' (t++ops) q':=by
 obtain ⟨hmw,hfs,g₂,n,hQ,hst⟩:=hB;obtain ⟨s,r,tm,hc⟩:=h.chan;have hcc:c<w.heap.size:=(Array.getElem?_eq_some_iff.1 hc).1;have hlt:k<gs.size:=(Array.getElem?_eq_some_iff.1 hb).1;have hk0:(k==0)=false:=by have:=h.k0;simp;omega
 have hrunT:=runT_crowd_go (P:=P) (sl:=sl) (i:=k) hb (by rw [hk0];exact hst s r tm hc);have hR0:=U.ch0 w true s r tm;have hR1:=U.ch1 w true s r tm;have hd:deafBehind 0 (closeEvents c)=0:=rfl;refine ⟨t.size+1,_,_,_,upd q k n,g₂,hrunT,by simp,?_,hmw,hQ.status,hR0,⟨s,r,tm,heap_setChan _ c 0 #[] true s r tm hcc⟩,fun j x hj0 hx=>?_,fun j hj=>?_,?_,U.f1 _ _ hR1 hfs⟩
 ·rw [Array.getElem?_setIfInBounds_ne h.k0,Array.getElem?_map,ha];rfl
 ·by_cases hji:k=j
  ·subst hji;rw [Array.getElem?_setIfInBounds_self_of_lt (by simpa using hlt)] at hx;obtain rfl:=Option.some.inj hx;rw [upd_same,Deaf_own,h.past.hk,hd];exact hQ
  ·rw [Array.getElem?_setIfInBounds_ne hji,Array.getElem?_map] at hx;obtain ⟨y,hy,rfl⟩:=Option.map_eq_some_iff.1 hx;have hqj:=h.rest j y hj0 (Ne.symm hji) hy;rw [woken_quitsD hqj,upd_ne q n (Ne.symm hji),Deaf_other t hji _ ofEvents_g];exact hqj
 ·rw [Deaf_other t (g':=k) (by simp at hj;omega) _ ofEvents_g];exact h.above j (by simpa using hj)
 ·exact (h.past.shut h.k0 (U.ap w) _ _ c (U.sc w)).mono fun x=>U.s0 _ _ x hR0
theorem Ctx.at (U:YS c R0 R1 D0 D1 SL ML FS) {gs:Array Goroutine} {w:World} {t:Trace} {q:Nat→Nat} (h:Ctx P c k SL ML gs w t q) (d:Nat):Ctx P c k SL ML gs (w.at d) t q:=
 ⟨h.k0,h.chan,h.rest,h.above,h.past.mono (fun x=>U.s0 _ _ x (U.at0 w d)) (fun x=>U.m0 _ _ x (U.at0 w d))⟩
def ResR (P:Program) (Fin:Goroutine→World→Prop) (FS:World→Prop) (gs:Array Goroutine) (w:World) (sl:Option (Nat×Nat)) (t:Trace) (i:Nat):Prop:=
 ∃gs' w' sl' ops,runT P (crowd gs w sl) i=(.next (crowd gs' w' sl'),ops)∧gs'.size=gs.size∧Res P Fin FS gs' w' sl' (t++ops)
theorem Ctx.pick (U:YS c R0 R1 D0 D1 SL ML FS) {a b:Goroutine} {w:World} (fa:Firm P c a) (fb:Firm P c b) (aa:awake a) (ab:awake b) (run:a.status=.running∨b.status=.running)
  (H0:a.status=.running→∀d gs sl t q,gs[0]?=some a→gs[k]?=some b→Ctx P c k SL ML gs (w.at d) t q→ResR P Fin FS gs (w.at d) sl t 0)
  (Hk:b.status=.running→∀d gs sl t q,gs[0]?=some a→gs[k]?=some b→Ctx P c k SL ML gs (w.at d) t q→ResR P Fin FS gs (w.at d) sl t k)
  (gs:Array Goroutine) (sl:Option (Nat×Nat)) (t:Trace) (q:Nat→Nat) (ha:gs[0]?=some a) (hb:gs[k]?=some b) (h:Ctx P c k SL ML gs w t q):Res P Fin FS gs w sl t:=by
 suffices main:∀M d gs sl t q,sumTo gs.size q=M→gs[0]?=some a→gs[k]?=some b→Ctx P c k SL ML gs (w.at d) t q→Res P Fin FS gs (w.at d) sl t from main _ w.drawn gs sl t q rfl ha hb h
 intro M;induction M using Nat.strongRecOn with
 |_ M ihM=>
  intro d gs sl t q hM ha hb h;have haw:∀g∈gs,awake g:=by
   intro g hg;obtain ⟨i,hi,rfl⟩:=Array.mem_iff_getElem.1 hg;by_cases h0:i=0
   ·subst h0;have:gs[0]=a:=by simpa [Array.getElem?_eq_getElem hi] using ha
    rw [this];exact aa
   ·by_cases hk:i=k
    ·subst hk;have:gs[i]=b:=by simpa [Array.getElem?_eq_getElem hi] using hb
     rw [this];exact ab
    ·exact awake_of ((h.rest i _ h0 hk (Array.getElem?_eq_getElem hi)).status.elim .inl fun x=>.inr (.inr x))
  obtain ⟨i,g,d',sl',hi,hg,hst⟩:=crowd_pick (P:=P) (w:=w.at d) (sl:=sl) haw (run.elim (fun x=>⟨0,a,ha,x⟩) fun x=>⟨k,b,hb,x⟩);have h':Ctx P c k SL ML gs (w.at d') t q:=h.at U d';by_cases hi0:i=0
  ·subst hi0;obtain rfl:g=a:=by rw [ha] at hi;exact (Option.some.inj hi).symm
   obtain ⟨gs',w',sl'',ops,h1,h2,h3⟩:=H0 hg d' gs sl' t q ha hb h';exact Res.step (hst.trans h1) h2 h3
  ·by_cases hik:i=k
   ·subst hik;obtain rfl:g=b:=by rw [hb] at hi;exact (Option.some.inj hi).symm
    obtain ⟨gs',w',sl'',ops,h1,h2,h3⟩:=Hk hg d' gs sl' t q ha hb h';exact Res.step (hst.trans h1) h2 h3
   ·obtain ⟨gs',ops,q',h1,h2,h3,h4,h5,h6⟩:=h.slip (d:=d') (sl:=sl') U ha hb fa fb hi hg hi0 hik;exact Res.step (hst.trans h1) h2 (ihM _ (by omega) d' gs' sl' (t++ops) q' rfl h3 h4 h5)
end
end Go.Proofs.YtdoghgnifkgfdaaGreat.Mute
