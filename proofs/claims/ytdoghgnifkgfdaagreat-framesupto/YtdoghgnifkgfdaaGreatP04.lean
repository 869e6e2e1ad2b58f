import Derived.Test.YtdoghgnifkgfdaaGreatP00
import Derived.Test.YtdoghgnifkgfdaaGreatP03
set_option maxRecDepth 100000
set_option maxHeartbeats 16000000
open Option renaming none->Ai,some->yi
open Go renaming World->ui,Value->ti,undef->ri
open Bool renaming true->ji,false->gi
namespace Go.Proofs.YtdoghgnifkgfdaaGreat.Mute
open Tryz Go Go.Conc
open Go.ConcN (sumTo upd sumTo_upd upd_ne upd_same)
section
variable {P:Program}{c k:Nat}{z:ti}{R0 R1:ui->ui->Prop}{D0 D1:ui->ui->Array Event->Prop}{SL ML:ui->Touch->Prop}{FS:ui->Prop}{Fin:Goroutine->ui->Prop}
 {gs:Array Goroutine}{w:ui}{t:Trace}{q:Nat->Nat}{a b:Goroutine}{d:Nat}{sl:Option (Nat×Nat)}{es:Array Event}
theorem Jo{g:Goroutine}{n m:Nat}(h:QuitsD P n m g):g.status≠.blocked:=by
 rcases h.status with e|e<;>rw[e]<;>simp
theorem Ctx.vY(h:Ctx P c k SL ML gs w t q)(hb:gs[k]?=yi b)(TW:b.status≠.blocked)(send:Bool):partners (gs.setIfInBounds 0 ph) c send=[]:=partners_nil fun j g hj=>by
 rcases getElem?_stand gs 0 j g hj with⟨_,rfl⟩|⟨jA,Vs⟩
 ·exact offersAt_ph _ _
 ·by_cases pA:j=k
  ·subst pA;rw[hb]at Vs;cases Vs;exact offersAt_of_not_blocked TW _ _
  ·exact offersAt_of_not_blocked (Jo (h.rest j g jA pA Vs)) _ _
theorem Ctx.eY(h:Ctx P c k SL ML gs w t q)(ha:gs[0]?=yi a)(hna:a.status≠.blocked)(send:Bool):partners (gs.setIfInBounds k ph) c send=[]:=partners_nil fun j g hj=>by
 rcases getElem?_stand gs k j g hj with⟨_,rfl⟩|⟨pA,Vs⟩
 ·exact offersAt_ph _ _
 ·by_cases jA:j=0
  ·subst jA;rw[ha]at Vs;cases Vs;exact offersAt_of_not_blocked hna _ _
  ·exact offersAt_of_not_blocked (Jo (h.rest j g jA pA Vs)) _ _
theorem Ctx.Y20{g₂:Goroutine}{v z':ti}{sh:CommShape}(h:Ctx P c k SL ML gs w t q)(hb:gs[k]?=yi (parked g₂ #[scase c v z'] sh)):partners (gs.setIfInBounds 0 ph) c ji=[(k,0)]:=by
 have hk:=h.k0;rw[partners_one (j:=k) (stand_get hk hb) fun j g pA hj=>by
  rcases getElem?_stand gs 0 j g hj with⟨_,rfl⟩|⟨jA,Vs⟩
  ·exact offersAt_ph _ _
  ·exact offersAt_of_not_blocked (Jo (h.rest j g jA pA Vs)) _ _]
 rw[offersAt_parked_send];simp
theorem Ctx.X20{g₂:Goroutine}{z':ti}{sh:CommShape}(h:Ctx P c k SL ML gs w t q)(ha:gs[0]?=yi (parked g₂ #[rcase c z'] sh)):partners (gs.setIfInBounds k ph) c gi=[(0,0)]:=by
 have hk:=h.k0;rw[partners_one (j:=0) (stand_get (Ne.symm hk) ha) fun j g jA hj=>by
  rcases getElem?_stand gs k j g hj with⟨_,rfl⟩|⟨pA,Vs⟩
  ·exact offersAt_ph _ _
  ·exact offersAt_of_not_blocked (Jo (h.rest j g jA pA Vs)) _ _]
 rw[offersAt_parked_recv];simp
theorem Ctx.put(h:Ctx P c k SL ML gs w t q){w':ui}{ops:Trace}{yk:Array Goroutine}(hs:yk.size=gs.size)(ho:∀j,j≠0->j≠k->yk[j]?=gs[j]?)(hc:∃s r tm,w'.heap[c]?=yi (.chan 0 #[] gi s r tm))
  (hd:∀j,j≠0->j≠k->Deaf (t++ops) j=Deaf t j)(hp:Ar k (SL w') (ML w') (t++ops)):Ctx P c k SL ML yk w' (t++ops) q:=
 ⟨h.k0,hc,fun j x jA pA hx=>by rw[ho j jA pA]at hx;rw[hd j jA pA];exact h.rest j x jA pA hx,fun j hj=>by
  by_cases jA:j=0
  ·subst jA;exact hp.h0
  ·by_cases pA:j=k
   ·subst pA;exact hp.hk
   ·rw[hd j jA pA];exact h.above j E0,hp⟩
theorem Yy{t u v:Trace}{j g:Nat}(hu:∀op∈u,op.g=g)(hj:g≠j)(hv:∀op∈v,∀d,deafStep j d op=d):Deaf (t++(u++v)) j=Deaf t j:=by
 rw[<-Array.append_assoc,Deaf_quiet hv,Deaf_other t hj _ hu]
theorem Ctx.Ic0(U:Np c R0 R1 D0 D1 SL ML FS)(h:Ctx P c k SL ML gs w t q)(ha:gs[0]?=yi a)(hb:gs[k]?=yi b)(TW:b.status≠.blocked)(wm:stepG P ji a (w.at d)=.comm (core a) #[rcase c z] ji (.recv ji) (w.at d) es)
  (zn:∀e∈es,ko e/\∀x,(MemAct.ofEvent e).touch?=yi x->x.loc.isMemory=ji->ML (w.at d) x):
  ∃yk ops,runT P (crowd gs (w.at d) sl) 0=(.next (crowd yk (w.at d) sl),ops)/\yk.size=gs.size/\yk[0]?=yi (parked (core a) #[rcase c z] (.recv ji))/\yk[k]?=yi b/\Ctx P c k SL ML yk (w.at d) (t++ops) q:=by
 obtain⟨s,r,tm,hc⟩:=h.chan;have Iy:(w.at d).heap[c]?=yi (.chan 0 #[] gi s r tm):=hc;refine tf fun Wi=>?_;have hr:=crowd_waits (P:=P) (sl:=sl) (i:=0) ha (show stepG P (0==0) a (w.at d)=_ from wm) (fun cc vV=>by
  simp only[List.mem_toArray,List.mem_cons,List.not_mem_nil,or_false]at vV;subst vV;exact ways_recv_none Iy (h.vY hb TW ji))
 refine⟨_,_,hr,P0,by simp[Wi],by rw[Array.getElem?_setIfInBounds_ne (Ne.symm h.k0)];exact hb,h.put P0 (fun j hj _=>Array.getElem?_setIfInBounds_ne (Ne.symm hj)) ⟨s,r,tm,Iy⟩ (fun j hj _=>Deaf_other t (Ne.symm hj) _ ofEvents_g) ?_⟩;exact(h.past.mono (fun x=>U.s0 _ _ x (U.rB w d)) (fun x=>U.m0 _ _ x (U.rB w d))).aJ h.k0 (U.ap _) (fun e he=>(zn e he).1) (fun e he=>(zn e he).2)
theorem Ctx.Rd0(U:Np c R0 R1 D0 D1 SL ML FS){b₂:Goroutine}{v z':ti}(h:Ctx P c k SL ML gs w t q)(ha:gs[0]?=yi a)(hb:gs[k]?=yi b)(hna:a.status≠.blocked)(wm:stepG P gi b (w.at d)=.comm b₂ #[scase c v z'] ji .send (w.at d) es)
  (zn:∀e∈es,ko e/\∀x,(MemAct.ofEvent e).touch?=yi x->x.loc.isMemory=ji->SL (w.at d) x):
  ∃yk ops,runT P (crowd gs (w.at d) sl) k=(.next (crowd yk (w.at d) sl),ops)/\yk.size=gs.size/\yk[0]?=yi a/\yk[k]?=yi (parked b₂ #[scase c v z'] .send)/\Ctx P c k SL ML yk (w.at d) (t++ops) q:=by
 obtain⟨s,r,tm,hc⟩:=h.chan;have Iy:(w.at d).heap[c]?=yi (.chan 0 #[] gi s r tm):=hc;have Wi:k<gs.size:=(Array.getElem?_eq_some_iff.1 hb).1;have Vw:(k==0)=false:=by have:=h.k0;simp;omega
 have hr:=crowd_waits (P:=P) (sl:=sl) (i:=k) hb (by rw[Vw];exact wm) (fun cc vV=>by
  simp only[List.mem_toArray,List.mem_cons,List.not_mem_nil,or_false]at vV;subst vV;exact ways_send_none Iy P0 (h.eY ha hna gi))
 refine⟨_,_,hr,P0,by rw[Array.getElem?_setIfInBounds_ne h.k0];exact ha,by rw[Array.getElem?_setIfInBounds_self_of_lt Wi],h.put P0 (fun j _ hj=>Array.getElem?_setIfInBounds_ne (Ne.symm hj)) ⟨s,r,tm,Iy⟩ (fun j _ hj=>Deaf_other t (Ne.symm hj) _ ofEvents_g) ?_⟩;exact(h.past.mono (fun x=>U.s0 _ _ x (U.rB w d)) (fun x=>U.m0 _ _ x (U.rB w d))).g50 h.k0 (U.ap _) (fun e he=>(zn e he).1) (fun e he=>(zn e he).2)
theorem Ctx.Yd0(U:Np c R0 R1 D0 D1 SL ML FS){b₂:Goroutine}{v z':ti}(h:Ctx P c k SL ML gs w t q)(ha:gs[0]?=yi a)(hb:gs[k]?=yi (parked b₂ #[scase c v z'] .send))(wm:stepG P ji a (w.at d)=.comm (core a) #[rcase c z] ji (.recv ji) (w.at d) es)
  (zn:∀e∈es,ko e/\∀x,(MemAct.ofEvent e).touch?=yi x->x.loc.isMemory=ji->ML (w.at d) x):
  ∃yk w' ops,runT P (crowd gs (w.at d) sl) 0=(.next (crowd yk w' sl),ops)/\yk.size=gs.size/\yk[0]?=yi (Go.Conc.served (core a) (.tuple #[v,.bool ji]))/\yk[k]?=yi (Go.Conc.served b₂ ri)/\R0 (w.at d) w'/\R1 (w.at d) w'/\Ctx P c k SL ML yk w' (t++ops) q:=by
 obtain⟨s,r,tm,hc⟩:=h.chan;have Iy:(w.at d).heap[c]?=yi (.chan 0 #[] gi s r tm):=hc;refine tf fun Wi=>?_;have ta0:k<gs.size:=(Array.getElem?_eq_some_iff.1 hb).1;have hr:=crowd_recv_meets (P:=P) (sl:=sl) (i:=0) ha (show stepG P (0==0) a (w.at d)=_ from wm) Iy h.k0 hb (h.Y20 hb);rw[finishComm_send,finishComm_recv]at hr;have vV:c<(w.at d).heap.size:=by
  rcases Nat.lt_or_ge c (w.at d).heap.size with h'|h'
  ·exact h'
  ·rw[Array.getElem?_eq_none h']at Iy;cases Iy
 refine⟨_,_,_,hr,P0,?_,?_,U.ch0 _ _ _ _ _,U.ch1 _ _ _ _ _,?_⟩
 ·rw[Array.getElem?_setIfInBounds_self_of_lt W4];rfl
 ·rw[Array.getElem?_setIfInBounds_ne (Ne.symm h.k0),Array.getElem?_setIfInBounds_self_of_lt ta0]
 ·have hq:∀(j:Nat)(op:MemOp),op∈(#[{g:=k,fn:=b₂.frame.fn,pos:=b₂.frame.place,act:=.send c s},{g:=0,fn:=(core a).frame.fn,pos:=(core a).frame.place,act:=.recv c r 0},{g:=k,fn:=b₂.frame.fn,pos:=b₂.frame.place,act:=.sendDone c s},{g:=0,fn:=(core a).frame.fn,pos:=(core a).frame.place,act:=.recvDone c r}]:Trace)->(op.act.touch?=Ai/\(op.g=0\/op.g=k))/\∀d,deafStep j d op=d:=fun j op hop=>by
   simp only[List.mem_toArray,List.mem_cons,List.not_mem_nil,or_false]at hop;rcases hop with rfl|rfl|rfl|rfl
   ·exact vg
   ·exact yg
   ·exact vg
   ·exact yg
  refine h.put P0 (fun j hj pA=>by rw[Array.getElem?_setIfInBounds_ne (Ne.symm hj),Array.getElem?_setIfInBounds_ne (Ne.symm pA)]) ⟨s+1,r+1,tm,heap_setChan _ c 0 #[] gi (s+1) (r+1) tm vV⟩ (fun j hj _=>Yy ofEvents_g (Ne.symm hj) (fun op hop=>(hq j op hop).2)) ?_
  ·rw[<-Array.append_assoc];have h1:=(h.past.mono (fun x=>U.s0 _ _ x (U.rB w d)) (fun x=>U.m0 _ _ x (U.rB w d))).aJ (fn:=a.frame.fn) (pos:=a.frame.place) h.k0 (U.ap _) (fun e he=>(zn e he).1) (fun e he=>(zn e he).2);exact od
theorem Ctx.He0(U:Np c R0 R1 D0 D1 SL ML FS){a₂ b₂:Goroutine}{v z':ti}(h:Ctx P c k SL ML gs w t q)(ha:gs[0]?=yi (parked a₂ #[rcase c z] (.recv ji)))(hb:gs[k]?=yi b)(wm:stepG P gi b (w.at d)=.comm b₂ #[scase c v z'] ji .send (w.at d) es)
  (zn:∀e∈es,ko e/\∀x,(MemAct.ofEvent e).touch?=yi x->x.loc.isMemory=ji->SL (w.at d) x):
  ∃yk w' ops,runT P (crowd gs (w.at d) sl) k=(.next (crowd yk w' sl),ops)/\yk.size=gs.size/\yk[0]?=yi (Go.Conc.served a₂ (.tuple #[v,.bool ji]))/\yk[k]?=yi (Go.Conc.served b₂ ri)/\R0 (w.at d) w'/\R1 (w.at d) w'/\Ctx P c k SL ML yk w' (t++ops) q:=by
 obtain⟨s,r,tm,hc⟩:=h.chan;have Iy:(w.at d).heap[c]?=yi (.chan 0 #[] gi s r tm):=hc;refine tf fun Wi=>?_;have ta0:k<gs.size:=(Array.getElem?_eq_some_iff.1 hb).1;have Vw:(k==0)=false:=by have:=h.k0;simp;omega
 have hr:=crowd_send_meets (P:=P) (sl:=sl) (i:=k) hb (by rw[Vw];exact wm) Iy (Ne.symm h.k0) ha (h.X20 ha);rw[finishComm_send,finishComm_recv]at hr;have vV:c<(w.at d).heap.size:=by
  rcases Nat.lt_or_ge c (w.at d).heap.size with h'|h'
  ·exact h'
  ·rw[Array.getElem?_eq_none h']at Iy;cases Iy
 refine⟨_,_,_,hr,P0,?_,?_,U.ch0 _ _ _ _ _,U.ch1 _ _ _ _ _,?_⟩
 ·rw[Array.getElem?_setIfInBounds_ne h.k0,Array.getElem?_setIfInBounds_self_of_lt Wi];rfl
 ·rw[Array.getElem?_setIfInBounds_self_of_lt (by simpa using ta0)]
 ·have hq:∀(j:Nat)(op:MemOp),op∈(#[{g:=k,fn:=b₂.frame.fn,pos:=b₂.frame.place,act:=.send c s},{g:=0,fn:=a₂.frame.fn,pos:=a₂.frame.place,act:=.recv c r 0},{g:=k,fn:=b₂.frame.fn,pos:=b₂.frame.place,act:=.sendDone c s},{g:=0,fn:=a₂.frame.fn,pos:=a₂.frame.place,act:=.recvDone c r}]:Trace)->(op.act.touch?=Ai/\(op.g=0\/op.g=k))/\∀d,deafStep j d op=d:=fun j op hop=>by
   simp only[List.mem_toArray,List.mem_cons,List.not_mem_nil,or_false]at hop;rcases hop with rfl|rfl|rfl|rfl
   ·exact vg
   ·exact yg
   ·exact vg
   ·exact yg
  refine h.put P0 (fun j hj pA=>by rw[Array.getElem?_setIfInBounds_ne (Ne.symm pA),Array.getElem?_setIfInBounds_ne (Ne.symm hj)]) ⟨s+1,r+1,tm,heap_setChan _ c 0 #[] gi (s+1) (r+1) tm vV⟩ (fun j _ hj=>Yy ofEvents_g (Ne.symm hj) (fun op hop=>(hq j op hop).2)) ?_
  ·rw[<-Array.append_assoc];have h1:=(h.past.mono (fun x=>U.s0 _ _ x (U.rB w d)) (fun x=>U.m0 _ _ x (U.rB w d))).g50 (fn:=b.frame.fn) (pos:=b.frame.place) h.k0 (U.ap _) (fun e he=>(zn e he).1) (fun e he=>(zn e he).2);exact od
end
section
variable {P:Program}{c k:Nat}{z:ti}{R0 R1:ui->ui->Prop}{D0 D1:ui->ui->Array Event->Prop}{SL ML:ui->Touch->Prop}{FS:ui->Prop}{Fin:Goroutine->ui->Prop}
structure cJ(P:Program)(c pc:Nat)(SL:ui->Touch->Prop)(FS:ui->Prop)(gs:Array Goroutine)(w:ui)(t:Trace)(q:Nat->Nat):Prop where
 chan:∃s r tm,w.heap[c]?=yi (.chan 0 #[] ji s r tm)
 rest:∀i g,i≠0->gs[i]?=yi g->QuitsD P (q i) (Deaf t i) g
 above:∀j,gs.size<=j->Deaf t j=0
 past:PastS c pc (SL w) t
 fs:FS w
def AtShut(P:Program)(c:Nat)(z:ti)(R0:ui->ui->Prop)(ML:ui->Touch->Prop)(Fin:Goroutine->ui->Prop)(g:Goroutine)(w:ui):Prop:=
 ∃g₂ es,stepG P ji g w=.comm g₂ #[rcase c z] ji (.recv ji) w es/\(∀e∈es,ko e/\∀x,(MemAct.ofEvent e).touch?=yi x->x.loc.isMemory=ji->ML w x)/\∀w₂,R0 w w₂->Fin (Go.Conc.served g₂ (.tuple #[z,.bool gi])) w₂
theorem iy(U:Np c R0 R1 D0 D1 SL ML FS)(w:ui):R0 w w:=U.rB w w.drawn
theorem ZE(U:Np c R0 R1 D0 D1 SL ML FS)(w:ui):R1 w w:=U.JM w w.drawn
theorem cJ.G30{pc:Nat}{gs:Array Goroutine}{w:ui}{t:Trace}{q:Nat->Nat}{a:Goroutine}(h:cJ P c pc SL FS gs w t q)(ha:gs[0]?=yi a)(hr:a.status=.running):∀g∈gs,awake g:=by
 intro g hg;obtain⟨i,hi,rfl⟩:=Array.mem_iff_getElem.1 hg;rcases Nat.eq_zero_or_pos i with rfl|lJ
 ·have:gs[0]=a:=by simpa[Array.getElem?_eq_getElem hi]using ha
  rw[this];exact awake_of (.inl hr)
 ·exact awake_of ((h.rest i _ E0 (Array.getElem?_eq_getElem hi)).status.elim .inl fun x=>.inr (.inr x))
theorem cJ.at(U:Np c R0 R1 D0 D1 SL ML FS){pc:Nat}{gs:Array Goroutine}{w:ui}{t:Trace}{q:Nat->Nat}(h:cJ P c pc SL FS gs w t q)(d:Nat):cJ P c pc SL FS gs (w.at d) t q:=
 ⟨h.chan,h.rest,h.above,h.past.mono fun x=>U.s0 _ _ x (U.rB w d),U.f1 _ _ (U.JM w d) h.fs⟩
theorem cJ.slip{pc:Nat}{gs:Array Goroutine}{w:ui}{t:Trace}{q:Nat->Nat}{a g:Goroutine}{i:Nat}{sl:Option (Nat×Nat)}(h:cJ P c pc SL FS gs w t q)(ha:gs[0]?=yi a)(hr:a.status=.running)
  (hi:gs[i]?=yi g)(hg:g.status=.running)(zy:i≠0):
  ∃yk ops q',runT P (crowd gs w sl) i=(.next (crowd yk w sl),ops)/\yk.size=gs.size/\yk[0]?=yi a/\cJ P c pc SL FS yk w (t++ops) q'/\sumTo yk.size q'<sumTo gs.size q:=by
 have hq:=h.rest i g zy hi;have Wi:i<gs.size:=(Array.getElem?_eq_some_iff.1 hi).1;have F10:(i==0)=false:=by simp;omega
 cases TT:q i with
 |zero=>rw[TT]at hq;rw[hq.1]at hg;cases hg
 |succ m=>
  rw[TT]at hq;rcases hq with⟨hf,_⟩|⟨_,g',es,hm,pT,CV⟩
  ·rw[hf]at hg;cases hg
  have Oo:=runT_crowd_go (P:=P) (sl:=sl) (i:=i) hi (by rw[F10];exact pT w);have hsz:((gs.map (woken P g g' w)).setIfInBounds i g').size=gs.size:=P0;have W50:sumTo gs.size (upd q i m)+(m+1)=sumTo gs.size q+m:=by
   have:=sumTo_upd q m id Wi;simpa[TT]using this
  have mutes:∀op∈MemOp.ofEvents i g.frame.fn g.frame.place es,op.act.touch?=none:=fun op hop=>by obtain⟨e,he,rfl⟩:=Go.Conc.mem_ofEvents hop;exact touch_mute (hm e he)
  refine⟨_,_,upd q i m,Oo,hsz,?_,⟨h.chan,fun j x jA hx=>?_,fun j hj=>?_,h.past.mutes mutes (Deaf_other t zy _ ofEvents_g),h.fs⟩,by rw[hsz];omega⟩
  ·exact Nh
  ·by_cases Yq:i=j
   ·exact ya
   ·rw[Array.getElem?_setIfInBounds_ne Yq,Array.getElem?_map]at hx;obtain⟨y,hy,rfl⟩:=Option.map_eq_some_iff.1 hx;have pF:=h.rest j y jA hy;exact ie
  ·rw[Deaf_other t (g':=i) Z2 _ ofEvents_g];exact h.above j E2
theorem UN(U:Np c R0 R1 D0 D1 SL ML FS){pc:Nat}{a:Goroutine}{w:ui}(h:Ci P ji R0 D0 (AtShut P c z R0 ML Fin) a w):
  ∀(w₁:ui)(gs:Array Goroutine)(sl:Option (Nat×Nat))(t:Trace)(q:Nat->Nat),R0 w w₁->gs[0]?=yi a->cJ P c pc SL FS gs w₁ t q->yN P Fin FS gs w₁ sl t:=by
 induction h with
 | @stop a w hs h=>
  intro w₁ gs sl t q;generalize hM:sumTo gs.size q=M;induction M using Nat.strongRecOn generalizing w₁ gs sl t q with
  |_ M ihM=>
   intro hR ha hC;obtain⟨i,g,d,sl',hi,hg,wm⟩:=crowd_pick (P:=P) (w:=w₁) (sl:=sl) (hC.G30 ha hs) ⟨0,_,ha,hs⟩;have UL:=hC.at U d;have uB:R0 w (w₁.at d):=U.t0 _ _ _ hR (U.rB _ d);by_cases zy:i=0
   ·subst zy;obtain rfl:g=a:=by rw[ha]at hi;exact Ug
    obtain⟨g₂,es,h1,h2,h3⟩:=h _ uB;obtain⟨s,r,tm,hc⟩:=UL.chan;refine tf fun Wi=>?_;have hp:partners (gs.setIfInBounds 0 ph) c ji=[]:=partners_nil fun j x hj=>by
     rcases getElem?_stand gs 0 j x hj with⟨_,rfl⟩|⟨jA,Vs⟩
     ·exact offersAt_ph _ _
     ·exact offersAt_of_not_blocked (Jo (hC.rest j x jA Vs)) _ _
    have Oo:=crowd_recv_closed (P:=P) (sl:=sl') (i:=0) ha (show stepG P (0==0) g (w₁.at d)=_ from h1) hc hp;rw[finishComm_recv]at Oo;have hq:∀(j:Nat)(op:MemOp),op∈(#[{g:=0,fn:=g₂.frame.fn,pos:=g₂.frame.place,act:=.recvClosed c}]:Trace)->∀d,deafStep j d op=d:=fun j op hop=>by
     simp only[List.mem_toArray,List.mem_cons,List.not_mem_nil,or_false]at hop;subst hop;exact fun _=>rfl
    have Uc0:=UL.past.aJ (fn:=g.frame.fn) (pos:=g.frame.place) (U.ap _) (fun e he=>(h2 e he).1) (fun e he=>(h2 e he).2);refine yN.step (wm.trans Oo) P0 ⟨0,_,_,_,_,_,q,rfl,rfl,by rw[Array.getElem?_setIfInBounds_self_of_lt Wi];rfl,h3 _ (iy U _),UL.fs,⟨fun j x hj hx=>?_,fun j hj=>?_⟩,?_⟩
    ·rw[Array.getElem?_setIfInBounds_ne E0]at hx;rw[Yy ofEvents_g E0 (hq j)];exact UL.rest j x E0 hx
    ·have Vs:gs.size<=j:=by simpa using hj
     rw[Yy ofEvents_g E0 (hq j)];exact UL.above j Vs
    ·rw[<-Array.append_assoc];exact Uc0.take _ _
   ·exact ye
 | @step a w nx hs h1 h2 ih=>
  intro w₁ gs sl t q;generalize hM:sumTo gs.size q=M;induction M using Nat.strongRecOn generalizing w₁ gs sl t q with
  |_ M ihM=>
   intro hR ha hC;obtain⟨i,g,d,sl',hi,hg,wm⟩:=crowd_pick (P:=P) (w:=w₁) (sl:=sl) (hC.G30 ha hs) ⟨0,_,ha,hs⟩;have UL:=hC.at U d;have uB:R0 w (w₁.at d):=U.t0 _ _ _ hR (U.rB _ d);by_cases zy:i=0
   ·subst zy;obtain rfl:g=a:=by rw[ha]at hi;exact Ug
    obtain⟨hgo,hD⟩:=h1 _ uB;obtain⟨s,r,tm,hc⟩:=UL.chan;refine tf fun Wi=>?_;have Oo:=runT_crowd_go (P:=P) (sl:=sl') (i:=0) ha (show stepG P (0==0) g (w₁.at d)=_ from hgo);have hr1:=U.d01 _ _ _ hD;refine yN.step (wm.trans Oo) P0 (ih _ uB _ _ sl' _ q (iy U _) (by simp[Wi]) ⟨⟨s,r,tm,(U.c0 _ _ _ hD).trans hc⟩,fun j x jA hx=>?_,fun j hj=>?_,?_,U.f1 _ _ hr1 UL.fs⟩)
    ·rw[Array.getElem?_setIfInBounds_ne (Ne.symm jA),Array.getElem?_map]at hx;obtain⟨y,hy,rfl⟩:=Option.map_eq_some_iff.1 hx;have pF:=UL.rest j y jA hy;rw[woken_quitsD pF,Deaf_other t (Ne.symm jA) _ ofEvents_g];exact pF
    ·rw[Deaf_other t (g':=0) Z2 _ ofEvents_g];exact UL.above j E2
    ·exact(UL.past.mono fun x=>U.s1 _ _ x hr1).aJ (U.ap _) (fun e he=>(U.e0 _ _ _ hD e he).1) (fun e he=>(U.e0 _ _ _ hD e he).2)
   ·exact ye
theorem Ctx.close(U:Np c R0 R1 D0 D1 SL ML FS){gs:Array Goroutine}{w:ui}{t:Trace}{q:Nat->Nat}{a b:Goroutine}{sl:Option (Nat×Nat)}(h:Ctx P c k SL ML gs w t q)(ha:gs[0]?=yi a)(hb:gs[k]?=yi b)(hB:fD P c FS b w):
  ∃pc yk w' ops q' g₂,runT P (crowd gs w sl) k=(.next (crowd yk w' sl),ops)/\yk.size=gs.size/\yk[0]?=yi (woken P b g₂ w' a)/\mayWake P b=ji/\(g₂.status=.running\/g₂.status=.finished)/\R0 w w'/\cJ P c pc SL FS yk w' (t++ops) q':=by
 obtain⟨hmw,hfs,g₂,n,hQ,wm⟩:=hB;obtain⟨s,r,tm,hc⟩:=h.chan;have vV:c<w.heap.size:=(Array.getElem?_eq_some_iff.1 hc).1;have Wi:k<gs.size:=(Array.getElem?_eq_some_iff.1 hb).1;have Vw:(k==0)=false:=by have:=h.k0;simp;omega
 have Oo:=runT_crowd_go (P:=P) (sl:=sl) (i:=k) hb (by rw[Vw];exact wm s r tm hc);have EV:=U.ch0 w ji s r tm;have Gy:=U.ch1 w ji s r tm;have hd:deafBehind 0 (closeEvents c)=0:=rfl;refine⟨t.size+1,_,_,_,upd q k n,g₂,Oo,P0,?_,hmw,hQ.status,EV,⟨s,r,tm,heap_setChan _ c 0 #[] ji s r tm vV⟩,fun j x jA hx=>?_,fun j hj=>?_,?_,U.f1 _ _ Gy hfs⟩
 ·rw[Array.getElem?_setIfInBounds_ne h.k0,Array.getElem?_map,ha];rfl
 ·by_cases Yq:k=j
  ·subst Yq;rw[Array.getElem?_setIfInBounds_self_of_lt W4]at hx;obtain rfl:=Option.some.inj hx;rw[upd_same,Deaf_own,h.past.hk,hd];exact hQ
  ·rw[Array.getElem?_setIfInBounds_ne Yq,Array.getElem?_map]at hx;obtain⟨y,hy,rfl⟩:=Option.map_eq_some_iff.1 hx;have pF:=h.rest j y jA (Ne.symm Yq) hy;rw[woken_quitsD pF,upd_ne q n (Ne.symm Yq),Deaf_other t Yq _ ofEvents_g];exact pF
 ·rw[Deaf_other t (g':=k) Z2 _ ofEvents_g];exact h.above j E2
 ·exact(h.past.shut h.k0 (U.ap w) _ _ c (U.sc w)).mono fun x=>U.s0 _ _ x EV
theorem Ctx.at(U:Np c R0 R1 D0 D1 SL ML FS){gs:Array Goroutine}{w:ui}{t:Trace}{q:Nat->Nat}(h:Ctx P c k SL ML gs w t q)(d:Nat):Ctx P c k SL ML gs (w.at d) t q:=
 ⟨h.k0,h.chan,h.rest,h.above,h.past.mono (fun x=>U.s0 _ _ x (U.rB w d)) (fun x=>U.m0 _ _ x (U.rB w d))⟩
def C20(P:Program)(Fin:Goroutine->ui->Prop)(FS:ui->Prop)(gs:Array Goroutine)(w:ui)(sl:Option (Nat×Nat))(t:Trace)(i:Nat):Prop:=
 ∃yk w' sl' ops,runT P (crowd gs w sl) i=(.next (crowd yk w' sl'),ops)/\yk.size=gs.size/\yN P Fin FS yk w' sl' (t++ops)
theorem Ctx.pick(U:Np c R0 R1 D0 D1 SL ML FS){a b:Goroutine}{w:ui}(fa:mM P c a)(fb:mM P c b)(aa:awake a)(ab:awake b)(run:a.status=.running\/b.status=.running)
  (H0:a.status=.running->∀d gs sl t q,gs[0]?=yi a->gs[k]?=yi b->Ctx P c k SL ML gs (w.at d) t q->C20 P Fin FS gs (w.at d) sl t 0)
  (Hk:b.status=.running->∀d gs sl t q,gs[0]?=yi a->gs[k]?=yi b->Ctx P c k SL ML gs (w.at d) t q->C20 P Fin FS gs (w.at d) sl t k)
  (gs:Array Goroutine)(sl:Option (Nat×Nat))(t:Trace)(q:Nat->Nat)(ha:gs[0]?=yi a)(hb:gs[k]?=yi b)(h:Ctx P c k SL ML gs w t q):yN P Fin FS gs w sl t:=by
 suffices main:∀M d gs sl t q,sumTo gs.size q=M->gs[0]?=yi a->gs[k]?=yi b->Ctx P c k SL ML gs (w.at d) t q->yN P Fin FS gs (w.at d) sl t from main _ w.drawn gs sl t q rfl ha hb h
 intro M;induction M using Nat.strongRecOn with
 |_ M ihM=>
  intro d gs sl t q hM ha hb h;have haw:∀g∈gs,awake g:=by
   intro g hg;obtain⟨i,hi,rfl⟩:=Array.mem_iff_getElem.1 hg;by_cases h0:i=0
   ·subst h0;have:gs[0]=a:=by simpa[Array.getElem?_eq_getElem hi]using ha
    rw[this];exact aa
   ·by_cases hk:i=k
    ·subst hk;have:gs[i]=b:=by simpa[Array.getElem?_eq_getElem hi]using hb
     rw[this];exact ab
    ·exact awake_of ((h.rest i _ h0 hk (Array.getElem?_eq_getElem hi)).status.elim .inl fun x=>.inr (.inr x))
  obtain⟨i,g,d',sl',hi,hg,wm⟩:=crowd_pick (P:=P) (w:=w.at d) (sl:=sl) haw (run.elim (fun x=>⟨0,a,ha,x⟩) fun x=>⟨k,b,hb,x⟩);have h':Ctx P c k SL ML gs (w.at d') t q:=h.at U d';by_cases zy:i=0
  ·subst zy;obtain rfl:g=a:=by rw[ha]at hi;exact Ug
   obtain⟨yk,w',P_,ops,h1,h2,h3⟩:=H0 hg d' gs sl' t q ha hb h';exact yN.step (wm.trans h1) h2 h3
  ·by_cases yr:i=k
   ·subst yr;obtain rfl:g=b:=by rw[hb]at hi;exact Ug
    obtain⟨yk,w',P_,ops,h1,h2,h3⟩:=Hk hg d' gs sl' t q ha hb h';exact yN.step (wm.trans h1) h2 h3
   ·obtain⟨yk,ops,q',h1,h2,h3,h4,h5,h6⟩:=h.slip (d:=d') (sl:=sl') U ha hb fa fb hi hg zy yr;exact yN.step (wm.trans h1) h2 (ihM _ E0 d' yk sl' (t++ops) q' rfl h3 h4 h5)
end
section
variable {P:Program}{c k:Nat}{z:ti}{R0 R1:ui->ui->Prop}{D0 D1:ui->ui->Array Event->Prop}{SL ML:ui->Touch->Prop}{FS:ui->Prop}{Fin:Goroutine->ui->Prop}
theorem iQ{a:Goroutine}{w:ui}(h:Ci P ji R0 D0 (StopA P c z R0 D0 ML Fin []) a w):Ci P ji R0 D0 (AtShut P c z R0 ML Fin) a w:=
 h.mono fun g _ ⟨es,h1,h2,h3⟩=>⟨core g,es,h1,h2,h3⟩
theorem kR{a:Goroutine}{w:ui}(h:∀w₁,R0 w w₁->StopA P c z R0 D0 ML Fin [] a w₁):Ci P ji R0 D0 (AtShut P c z R0 ML Fin) {parked (core a) #[rcase c z] (.recv ji)with status:=.running} w:=
 .stop rfl fun w₁ hr=>by
  obtain⟨es,h1,h2,h3⟩:=h w₁ hr;exact⟨core a,es,(stepG_same rfl rfl rfl w₁).trans h1,h2,h3⟩
theorem Ctx.closes(U:Np c R0 R1 D0 D1 SL ML FS){gs:Array Goroutine}{w:ui}{t:Trace}{q:Nat->Nat}{a b:Goroutine}{sl:Option (Nat×Nat)}(h:Ctx P c k SL ML gs w t q)(ha:gs[0]?=yi a)(hb:gs[k]?=yi b)(hB:fD P c FS b w)
  (hA:Ci P ji R0 D0 (StopA P c z R0 D0 ML Fin []) a w\/(∃a₀,a=parked (core a₀) #[rcase c z] (.recv ji)/\∀w₁,R0 w w₁->StopA P c z R0 D0 ML Fin [] a₀ w₁)):C20 P Fin FS gs w sl t k:=by
 obtain⟨pc,yk,w',ops,q',g₂,h1,h2,h3,hmw,hs,hR,hC⟩:=h.close (sl:=sl) U ha hb hB;refine⟨yk,w',sl,ops,h1,h2,?_⟩;rcases hA with hA|⟨a₀,rfl,hA⟩
 ·rw[woken_running hA.running]at h3;exact UN U ((iQ hA).rely U.t0 hR) w' yk sl (t++ops) q' (iy U w') h3 hC
 ·have hw:woken P b g₂ w' (parked (core a₀) #[rcase c z] (.recv ji))={parked (core a₀) #[rcase c z] (.recv ji)with status:=.running}:=by
   obtain⟨s,r,tm,hc⟩:=hC.chan;unfold woken;rw[if_pos (by rcases hs with e|e<;>simp[hmw,e])];exact again_recv_closed hc
  rw[hw]at h3;exact UN U (kR fun w₁ hr=>hA w₁ (U.t0 _ _ _ hR hr)) w' yk sl (t++ops) q' (iy U w') h3 hC
def Phase(P:Program)(c k:Nat)(z:ti)(R0 R1:ui->ui->Prop)(D0 D1:ui->ui->Array Event->Prop)(SL ML:ui->Touch->Prop)(FS:ui->Prop)(Fin:Goroutine->ui->Prop)(vs:List ti):Prop:=
 ∀(a b:Goroutine)(w:ui)(gs:Array Goroutine)(sl:Option (Nat×Nat))(t:Trace)(q:Nat->Nat),Ci P ji R0 D0 (StopA P c z R0 D0 ML Fin vs) a w->Ci P gi R1 D1 (StopB P c R1 D1 SL FS vs) b w->
  gs[0]?=yi a->gs[k]?=yi b->Ctx P c k SL ML gs w t q->yN P Fin FS gs w sl t
theorem pP(U:Np c R0 R1 D0 D1 SL ML FS){vs:List ti}(IH:∀v Sv,vs=v::Sv->Phase P c k z R0 R1 D0 D1 SL ML FS Fin Sv){a b:Goroutine}{w:ui}(hB:Ci P gi R1 D1 (StopB P c R1 D1 SL FS vs) b w):
  ∀(w₁:ui)(gs:Array Goroutine)(sl:Option (Nat×Nat))(t:Trace)(q:Nat->Nat),R1 w w₁->(∀w₂,R0 w₁ w₂->StopA P c z R0 D0 ML Fin vs a w₂)->gs[0]?=yi (parked (core a) #[rcase c z] (.recv ji))->gs[k]?=yi b->Ctx P c k SL ML gs w₁ t q->yN P Fin FS gs w₁ sl t:=by
 induction hB with
 | @stop b w hs h=>
  intro w₁ gs sl t q hR hA ha hb hC;refine Ctx.pick U (ND _ _ _) (qk hs) (awake_of (.inr (.inl rfl))) (awake_of (.inl hs)) (.inr hs) (fun x=>by cases x) (fun _ d gs sl t q ha hb hC=>?_) gs sl t q ha hb hC;have uB:R1 w (w₁.at d):=U.t1 _ _ _ hR (U.JM _ d);have hA':∀w₂,R0 (w₁.at d) w₂->StopA P c z R0 D0 ML Fin vs a w₂:=fun w₂ h₂=>hA w₂ (U.t0 _ _ _ (U.rB _ d) h₂);cases vs with
  |nil=>exact hC.closes U ha hb (h _ uB) (.inr ⟨a,rfl,hA'⟩)
  |cons v vs=>
   obtain⟨b₂,z',es,h1,h2,h3⟩:=h _ uB;obtain⟨es0,m1,m2,m3⟩:=hA' _ (iy U _);obtain⟨yk,w',ops,r1,r2,r3,r4,r5,r6,r7⟩:=hC.He0 (d:=d) (sl:=sl) U ha hb h1 h2;exact⟨yk,w',sl,ops,r1,r2,IH v vs rfl _ _ _ _ _ _ _ (m3 _ r5) (h3 _ r6) r3 r4 r7⟩
 | @step b w nx hs h1 h2 ih=>
  intro w₁ gs sl t q hR hA ha hb hC;refine Ctx.pick U (ND _ _ _) (qk hs) (awake_of (.inr (.inl rfl))) (awake_of (.inl hs)) (.inr hs) (fun x=>by cases x) (fun _ d gs sl t q ha hb hC=>?_) gs sl t q ha hb hC;have uB:R1 w (w₁.at d):=U.t1 _ _ _ hR (U.JM _ d);obtain⟨hgo,hD⟩:=h1 _ uB;obtain⟨yk,ops,r1,r2,r3,r4,r5⟩:=hC.BF (d:=d) (sl:=sl) U ha hb (ND _ _ _) hgo hD;exact⟨yk,_,sl,ops,r1,r2,ih _ uB _ yk sl (t++ops) q (ZE U _) (fun w₂ h₂=>hA w₂ (U.t0 _ _ _ (U.rB _ d) (U.t0 _ _ _ (U.d10 _ _ _ hD) h₂))) r3 r4 r5⟩
theorem bN(U:Np c R0 R1 D0 D1 SL ML FS){v z':ti}{vs:List ti}(IH:Phase P c k z R0 R1 D0 D1 SL ML FS Fin vs){a b₂:Goroutine}{w:ui}(hA:Ci P ji R0 D0 (StopA P c z R0 D0 ML Fin (v::vs)) a w):
  ∀(w₁:ui)(gs:Array Goroutine)(sl:Option (Nat×Nat))(t:Trace)(q:Nat->Nat),R0 w w₁->(∀w₂,R1 w₁ w₂->Ci P gi R1 D1 (StopB P c R1 D1 SL FS vs) (Go.Conc.served b₂ ri) w₂)->gs[0]?=yi a->gs[k]?=yi (parked b₂ #[scase c v z'] .send)->Ctx P c k SL ML gs w₁ t q->yN P Fin FS gs w₁ sl t:=by
 induction hA with
 | @stop a w hs h=>
  intro w₁ gs sl t q hR hB ha hb hC;refine Ctx.pick U (qk hs) (BD _ _ _ _) (awake_of (.inl hs)) (awake_of (.inr (.inl rfl))) (.inl hs) (fun _ d gs sl t q ha hb hC=>?_) (fun x=>by cases x) gs sl t q ha hb hC;have uB:R0 w (w₁.at d):=U.t0 _ _ _ hR (U.rB _ d);obtain⟨es,m1,m2,m3⟩:=h _ uB;obtain⟨yk,w',ops,r1,r2,r3,r4,r5,r6,r7⟩:=hC.Yd0 (d:=d) (sl:=sl) U ha hb m1 m2;exact⟨yk,w',sl,ops,r1,r2,IH _ _ _ _ _ _ _ (m3 _ r5) (hB _ (U.t1 _ _ _ (U.JM _ d) r6)) r3 r4 r7⟩
 | @step a w nx hs h1 h2 ih=>
  intro w₁ gs sl t q hR hB ha hb hC;refine Ctx.pick U (qk hs) (BD _ _ _ _) (awake_of (.inl hs)) (awake_of (.inr (.inl rfl))) (.inl hs) (fun _ d gs sl t q ha hb hC=>?_) (fun x=>by cases x) gs sl t q ha hb hC;have uB:R0 w (w₁.at d):=U.t0 _ _ _ hR (U.rB _ d);obtain⟨hgo,hD⟩:=h1 _ uB;obtain⟨yk,ops,r1,r2,r3,r4,r5⟩:=hC.aJ (d:=d) (sl:=sl) U ha hb (BD _ _ _ _) hgo hD;exact⟨yk,_,sl,ops,r1,r2,ih _ uB _ yk sl (t++ops) q (iy U _) (fun w₂ h₂=>hB w₂ (U.t1 _ _ _ (U.JM _ d) (U.t1 _ _ _ (U.d01 _ _ _ hD) h₂))) r3 r4 r5⟩
theorem wH{g:Goroutine}(h:g.status=.running):g.status≠.blocked:=by rw[h];simp
theorem uF(U:Np c R0 R1 D0 D1 SL ML FS){vs:List ti}(IH:∀v Sv,vs=v::Sv->Phase P c k z R0 R1 D0 D1 SL ML FS Fin Sv){a b:Goroutine}{w:ui}{gs:Array Goroutine}{sl:Option (Nat×Nat)}{t:Trace}{q:Nat->Nat}
  (hA:Ci P ji R0 D0 (StopA P c z R0 D0 ML Fin vs) a w)(hB:StopB P c R1 D1 SL FS vs b w)(ha:gs[0]?=yi a)(hb:gs[k]?=yi b)(hC:Ctx P c k SL ML gs w t q):C20 P Fin FS gs w sl t k:=by
 cases vs with
 |nil=>exact hC.closes U ha hb hB (.inl hA)
 |cons v vs=>
  obtain⟨b₂,z',es,h1,h2,h3⟩:=hB;obtain⟨yk,ops,r1,r2,r3,r4,r5⟩:=hC.Rd0 (d:=w.drawn) (sl:=sl) U ha hb (wH hA.running) h1 h2;exact⟨yk,_,sl,ops,r1,r2,bN U (IH v vs rfl) hA _ yk sl (t++ops) q (iy U _) h3 r3 r4 r5⟩
theorem oH(U:Np c R0 R1 D0 D1 SL ML FS){vs:List ti}(IH:∀v Sv,vs=v::Sv->Phase P c k z R0 R1 D0 D1 SL ML FS Fin Sv){a b:Goroutine}{w:ui}{gs:Array Goroutine}{sl:Option (Nat×Nat)}{t:Trace}{q:Nat->Nat}
  (hA:∀w₂,R0 w w₂->StopA P c z R0 D0 ML Fin vs a w₂)(hB:Ci P gi R1 D1 (StopB P c R1 D1 SL FS vs) b w)(ha:gs[0]?=yi a)(hb:gs[k]?=yi b)(hC:Ctx P c k SL ML gs w t q):C20 P Fin FS gs w sl t 0:=by
 have wm:∃es,stepG P ji a w=.comm (core a) #[rcase c z] ji (.recv ji) w es/\∀e∈es,ko e/\∀x,(MemAct.ofEvent e).touch?=yi x->x.loc.isMemory=ji->ML w x:=by
  have:=hA w (iy U w);cases vs with
  |nil=>exact⟨this.choose,this.choose_spec.1,this.choose_spec.2.1⟩
  |cons v vs=>exact⟨this.choose,this.choose_spec.1,this.choose_spec.2.1⟩
 obtain⟨es,h1,h2⟩:=wm;obtain⟨yk,ops,r1,r2,r3,r4,r5⟩:=hC.Ic0 (d:=w.drawn) (sl:=sl) U ha hb (wH hB.running) h1 h2;exact⟨yk,_,sl,ops,r1,r2,pP U IH hB _ yk sl (t++ops) q (ZE U _) hA r3 r4 r5⟩
theorem FO(U:Np c R0 R1 D0 D1 SL ML FS){vs:List ti}(IH:∀v Sv,vs=v::Sv->Phase P c k z R0 R1 D0 D1 SL ML FS Fin Sv){a:Goroutine}{w:ui}(hA:Ci P ji R0 D0 (StopA P c z R0 D0 ML Fin vs) a w):
  ∀{b:Goroutine}{w₁:ui},Ci P gi R1 D1 (StopB P c R1 D1 SL FS vs) b w₁->∀(w₂:ui)(gs:Array Goroutine)(sl:Option (Nat×Nat))(t:Trace)(q:Nat->Nat),R1 w₁ w₂->R0 w w₂->gs[0]?=yi a->gs[k]?=yi b->Ctx P c k SL ML gs w₂ t q->yN P Fin FS gs w₂ sl t:=by
 induction hA with
 | @stop a w hs h=>
  intro b w₁ hB;induction hB with
  | @stop b w₁ KE h'=>
   intro w₂ gs sl t q Gy EV ha hb hC;refine Ctx.pick U (qk hs) (qk KE) (awake_of (.inl hs)) (awake_of (.inl KE)) (.inl hs) (fun _ d gs sl t q ha hb hC=>?_) (fun _ d gs sl t q ha hb hC=>?_) gs sl t q ha hb hC
   ·exact oH U IH (fun w₃ h₃=>h w₃ (U.t0 _ _ _ EV (U.t0 _ _ _ (U.rB _ d) h₃))) (.stop KE fun w₃ h₃=>h' w₃ (U.t1 _ _ _ Gy (U.t1 _ _ _ (U.JM _ d) h₃))) ha hb hC
   ·exact uF U IH (.stop hs fun w₃ h₃=>h w₃ (U.t0 _ _ _ EV (U.t0 _ _ _ (U.rB _ d) h₃))) (h' _ (U.t1 _ _ _ Gy (U.JM _ d))) ha hb hC
  | @step b w₁ nx KE h1 h2 ih=>
   intro w₂ gs sl t q Gy EV ha hb hC;have hB:Ci P gi R1 D1 (StopB P c R1 D1 SL FS vs) b w₁:=.step nx KE h1 h2;refine Ctx.pick U (qk hs) (qk KE) (awake_of (.inl hs)) (awake_of (.inl KE)) (.inl hs) (fun _ d gs sl t q ha hb hC=>?_) (fun _ d gs sl t q ha hb hC=>?_) gs sl t q ha hb hC
   ·exact oH U IH (fun w₃ h₃=>h w₃ (U.t0 _ _ _ EV (U.t0 _ _ _ (U.rB _ d) h₃))) (hB.rely U.t1 (U.t1 _ _ _ Gy (U.JM _ d))) ha hb hC
   ·exact Qa
 | @step a w nx0 hs h01 h02 ih0=>
  intro b w₁ hB;have hA:Ci P ji R0 D0 (StopA P c z R0 D0 ML Fin vs) a w:=.step nx0 hs h01 h02;induction hB with
  | @stop b w₁ KE h'=>
   intro w₂ gs sl t q Gy EV ha hb hC;have hB:Ci P gi R1 D1 (StopB P c R1 D1 SL FS vs) b w₁:=.stop KE h';refine Ctx.pick U (qk hs) (qk KE) (awake_of (.inl hs)) (awake_of (.inl KE)) (.inl hs) (fun _ d gs sl t q ha hb hC=>?_) (fun _ d gs sl t q ha hb hC=>?_) gs sl t q ha hb hC
   ·exact Ja
   ·exact uF U IH (hA.rely U.t0 (U.t0 _ _ _ EV (U.rB _ d))) (h' _ (U.t1 _ _ _ Gy (U.JM _ d))) ha hb hC
  | @step b w₁ nx KE h1 h2 ih=>
   intro w₂ gs sl t q Gy EV ha hb hC;have hB:Ci P gi R1 D1 (StopB P c R1 D1 SL FS vs) b w₁:=.step nx KE h1 h2;refine Ctx.pick U (qk hs) (qk KE) (awake_of (.inl hs)) (awake_of (.inl KE)) (.inl hs) (fun _ d gs sl t q ha hb hC=>?_) (fun _ d gs sl t q ha hb hC=>?_) gs sl t q ha hb hC
   ·exact Ja
   ·exact Qa
theorem phase(U:Np c R0 R1 D0 D1 SL ML FS):∀vs,Phase P c k z R0 R1 D0 D1 SL ML FS Fin vs
 | []=>fun _ _ w gs sl t q hA hB ha hb hC=>FO U (fun _ _ e=>G3) hA hB w gs sl t q (ZE U w) (iy U w) ha hb hC
 |_::vs=>fun _ _ w gs sl t q hA hB ha hb hC=>FO U (fun _ _ e=>by cases e;exact phase U vs) hA hB w gs sl t q (ZE U w) (iy U w) ha hb hC
end
structure km where
 B:Nat
 c:Nat
 ev:TypeId
 S:Nat->Prop
 M:Nat->Prop
def gG(t:TypeId):Obj->Bool
 |.cells _ e _=>e==t
 |_=>gi
def km.send(L:km)(b:Nat)(o:Obj):Prop:=b≠L.c/\((b<L.B/\L.S b)\/(L.B<=b/\gG L.ev o=gi))
def km.main(L:km)(b:Nat)(o:Obj):Prop:=b≠L.c/\((b<L.B/\L.M b)\/(L.B<=b/\gG L.ev o=ji))
structure Turn(L:km)(mine:Nat->Obj->Prop)(w w':ui):Prop where
 os:w'.os=w.os
 out:w'.output=w.output
 tape:w'.tape=w.tape
 size:w.heap.size<=w'.heap.size
 at_:∀b o,w.heap[b]?=yi o->∃o',w'.heap[b]?=yi o'/\(b≠L.c->gG L.ev o'=gG L.ev o)/\(b≠L.c->¬mine b o->o'=o)
def vr(L:km)(mine:Nat->Obj->Prop):Prop:=∀b o o',(b≠L.c->gG L.ev o'=gG L.ev o)->mine b o->mine b o'
theorem km.Bj(L:km):vr L L.send:=fun b o o' e h=>⟨h.1,h.2.imp id fun x=>⟨x.1,by rw[e h.1];exact x.2⟩⟩
theorem km.Cj(L:km):vr L L.main:=fun b o o' e h=>⟨h.1,h.2.imp id fun x=>⟨x.1,by rw[e h.1];exact x.2⟩⟩
section
variable {L:km}{mine:Nat->Obj->Prop}{w w' jK:ui}
theorem Turn.refl(w:ui):Turn L mine w w:=⟨rfl,rfl,rfl,Nat.le_refl _,fun _ o h=>⟨o,h,fun _=>rfl,fun _ _=>rfl⟩⟩
theorem Turn.trans(h:Turn L mine w w')(h':Turn L mine w' jK):Turn L mine w jK:=
 ⟨h'.os.trans h.os,h'.out.trans h.out,h'.tape.trans h.tape,Nat.le_trans h.size h'.size,fun b o ho=>by
  obtain⟨o1,h1,e1,k1⟩:=h.at_ b o ho;obtain⟨o2,h2,e2,k2⟩:=h'.at_ b o1 h1;refine⟨o2,h2,fun hc=>(e2 hc).trans (e1 hc),fun hc hm=>?_⟩;have:o1=o:=k1 hc hm;subst this;exact k2 hc hm⟩
theorem Turn.at(w:ui)(d:Nat):Turn L mine w (w.at d):=⟨rfl,rfl,rfl,Nat.le_refl _,fun _ o h=>⟨o,h,fun _=>rfl,fun _ _=>rfl⟩⟩
theorem Turn.draw(w:ui)(d:Nat):Turn L mine w {w with drawn:=d}:=⟨rfl,rfl,rfl,Nat.le_refl _,fun _ o h=>⟨o,h,fun _=>rfl,fun _ _=>rfl⟩⟩
theorem Turn.keep(h:Turn L mine w w'){b:Nat}{o:Obj}(ho:w.heap[b]?=yi o)(hc:b≠L.c)(hm:¬mine b o):w'.heap[b]?=yi o:=by
 obtain⟨o',h1,_,h2⟩:=h.at_ b o ho;rw[h1,h2 hc hm]
theorem Turn.chan(w:ui)(cl:Bool)(s r:Nat)(tm:Bool):Turn L mine w (w.setChan L.c 0 #[] cl s r tm):=by
 refine⟨rfl,rfl,rfl,by simp[World.setChan],fun b o ho=>?_⟩;by_cases hc:b=L.c
 ·subst hc;have Wi:=(Array.getElem?_eq_some_iff.1 ho).1;exact⟨.chan 0 #[] cl s r tm,by simp[World.setChan,Wi],fun x=>absurd rfl x,fun x=>absurd rfl x⟩
 ·exact⟨o,by simpa[World.setChan,Array.getElem?_setIfInBounds_ne (Ne.symm hc)]using ho,fun _=>rfl,fun _ _=>rfl⟩
theorem Turn.set(w:ui)(a:Addr)(v:ti)(o:Obj)(ho:w.heap[a.block]?=yi o)(hm:mine a.block o):Turn L mine w (w.setCell a v):=by
 refine⟨rfl,rfl,rfl,by simp[World.setCell],fun b o' FB=>?_⟩;by_cases hb:b=a.block
 ·subst hb;obtain rfl:o=o':=by rw[ho]at FB;exact Option.some.inj FB
  refine⟨_,by simp only[World.setCell,Array.getElem?_modify,if_true,FB,Option.map_some];rfl,fun _=>?_,fun _ x=>absurd hm x⟩;cases o<;>rfl
 ·refine⟨o',?_,fun _=>rfl,fun _ _=>rfl⟩;simp only[World.setCell,Array.getElem?_modify,if_neg (Ne.symm hb)];exact FB
theorem Turn.alloc(w:ui)(o:Obj):Turn L mine w (w.alloc o):=by
 refine⟨rfl,rfl,rfl,by show w.heap.size<=(w.heap.push o).size;simp,fun b o' FB=>?_⟩;have Wi:=(Array.getElem?_eq_some_iff.1 FB).1;exact⟨o',by show (w.heap.push o)[b]?=yi o';simp[Array.getElem?_push,Nat.ne_of_lt Wi,FB],fun _=>rfl,fun _ _=>rfl⟩
end
def Allowed(L:km)(mine other:Nat->Obj->Prop)(w:ui)(x:Touch):Prop:=
 match x.loc with
 |.cell a=>∃o,w.heap[a.block]?=yi o/\¬other a.block o/\(x.write=ji->mine a.block o)
 |.obj r=>r=L.c/\x.write=gi
 |_=>x.write=gi
theorem Allowed.turn{L:km}{mine other who:Nat->Obj->Prop}{w w':ui}{x:Touch}(tm:vr L mine)(to:vr L other)(h:Turn L who w w')(ha:Allowed L mine other w x):Allowed L mine other w' x:=by
 unfold Allowed at ha ⊢;cases hx:x.loc with
 |cell a=>
  rw[hx]at ha;obtain⟨o,h1,h2,h3⟩:=ha;obtain⟨o',k1,k2,_⟩:=h.at_ _ _ h1;exact⟨o',k1,fun hh=>h2 (to _ _ _ (fun x=>(k2 x).symm) hh),fun hw=>tm _ _ _ k2 (h3 hw)⟩
 |obj r=>rw[hx]at ha;exact ha
 |output=>rw[hx]at ha;exact ha
 |goroutines=>rw[hx]at ha;exact ha
 |mark m=>rw[hx]at ha;exact ha
def Av(L:km)(mine other:Nat->Obj->Prop)(w:ui)(e:Event):Prop:=ko e/\∀x,(MemAct.ofEvent e).touch?=yi x->x.loc.isMemory=ji->Allowed L mine other w x
structure Does(L:km)(mine other:Nat->Obj->Prop)(w w':ui)(es:Array Event):Prop where
 turn:Turn L mine w w'
 chan:w'.heap[L.c]?=w.heap[L.c]?
 evs:∀e∈es,Av L mine other w' e
section
variable {L:km}{mine other:Nat->Obj->Prop}{w w':ui}
theorem Does.idle(w:ui):Does L mine other w w #[]:=⟨.refl w,rfl,P0⟩
theorem Does.look(w:ui){es:Array Event}(h:∀e∈es,Av L mine other w e):Does L mine other w w es:=⟨.refl w,rfl,h⟩
theorem Av.read{a:Addr}{o:Obj}(ho:w.heap[a.block]?=yi o)(hn:¬other a.block o):Av L mine other w ⟨.cell a,gi,gi⟩:=
 ⟨Yj _ _ _,fun x hx _=>by
  simp only[MemAct.ofEvent,MemAct.touch?,Option.some.injEq]at hx;subst hx;exact⟨o,ho,hn,fun h=>V3⟩⟩
theorem Av.write{a:Addr}{o:Obj}(ho:w.heap[a.block]?=yi o)(hn:¬other a.block o)(hm:mine a.block o):Av L mine other w ⟨.cell a,ji,gi⟩:=
 ⟨Yj _ _ _,fun x hx _=>by
  simp only[MemAct.ofEvent,MemAct.touch?,Option.some.injEq]at hx;subst hx;exact⟨o,ho,hn,fun _=>hm⟩⟩
theorem Does.set{a:Addr}{v:ti}{o:Obj}{es:Array Event}(tm:vr L mine)(to:vr L other)(ho:w.heap[a.block]?=yi o)(hc:a.block≠L.c)(hm:mine a.block o)(zn:∀e∈es,Av L mine other w e):Does L mine other w (w.setCell a v) es:=by
 have ht:=Turn.set (L:=L) w a v o ho hm;refine⟨ht,?_,fun e he=>⟨(zn e he).1,fun x hx zG=>((zn e he).2 x hx zG).turn tm to ht⟩⟩;simp only[World.setCell,Array.getElem?_modify,if_neg hc]
theorem Does.alloc{o:Obj}{es:Array Event}(tm:vr L mine)(to:vr L other)(hc:L.c<w.heap.size)(zn:∀e∈es,Av L mine other w e):Does L mine other w (w.alloc o) es:=by
 have ht:=Turn.alloc (L:=L) (mine:=mine) w o;refine⟨ht,?_,fun e he=>⟨(zn e he).1,fun x hx zG=>((zn e he).2 x hx zG).turn tm to ht⟩⟩;show (w.heap.push o)[L.c]?=_;simp[Array.getElem?_push,Nat.ne_of_lt hc]
end
abbrev km.R0(L:km):=Turn L L.send
abbrev km.R1(L:km):=Turn L L.main
abbrev km.D0(L:km):=Does L L.main L.send
abbrev km.D1(L:km):=Does L L.send L.main
abbrev km.SL(L:km):=Allowed L L.send L.main
abbrev km.ML(L:km):=Allowed L L.main L.send
theorem km.ik(L:km):Terms L.R0 L.D0:=⟨fun _ _ _=>Turn.trans,fun w=>.idle w⟩
theorem km.Bi(L:km):Terms L.R1 L.D1:=⟨fun _ _ _=>Turn.trans,fun w=>.idle w⟩
theorem km.ra0(L:km):LetsDraw L.D0:=fun w=>⟨.draw w _,rfl,P0⟩
theorem km.Wm(L:km):LetsDraw L.D1:=fun w=>⟨.draw w _,rfl,P0⟩
theorem km.rules(L:km)(FS:ui->Prop)(hf:∀w w',L.R1 w w'->FS w->FS w'):Np L.c L.R0 L.R1 L.D0 L.D1 L.SL L.ML FS where
 t0:=L.ik.trans
 t1:=L.Bi.trans
 rB:=fun w d=>.at w d
 JM:=fun w d=>.at w d
 ch0:=fun w cl s r tm=>.chan w cl s r tm
 ch1:=fun w cl s r tm=>.chan w cl s r tm
 d01:=fun _ _ _ h=>h.turn
 d10:=fun _ _ _ h=>h.turn
 c0:=fun _ _ _ h=>h.chan
 c1:=fun _ _ _ h=>h.chan
 e0:=fun _ _ _ h=>h.evs
 e1:=fun _ _ _ h=>h.evs
 s0:=fun _ _ _ r a=>a.turn L.Bj L.Cj r
 s1:=fun _ _ _ r a=>a.turn L.Bj L.Cj r
 m0:=fun _ _ _ r a=>a.turn L.Cj L.Bj r
 m1:=fun _ _ _ r a=>a.turn L.Cj L.Bj r
 ap:=fun w a b ha hb e=>by
  unfold km.SL Allowed at ha;unfold km.ML Allowed at hb;cases hx:a.loc with
  |cell x=>
   rw[hx]at ha e;rw[<-e]at hb;obtain⟨o,h1,h2,h3⟩:=ha;obtain⟨o',k1,k2,k3⟩:=hb;obtain rfl:o=o':=by rw[h1]at k1;exact Option.some.inj k1
   exact⟨by cases hw:a.write<;>simp_all,by cases hw:b.write<;>simp_all⟩
  |obj r=>
   rw[hx]at ha e;rw[<-e]at hb;exact⟨ha.2,hb.2⟩
  |output=>rw[hx]at ha e;rw[<-e]at hb;exact⟨ha,hb⟩
  |goroutines=>rw[hx]at ha e;rw[<-e]at hb;exact⟨ha,hb⟩
  |mark m=>rw[hx]at ha e;rw[<-e]at hb;exact⟨ha,hb⟩
 sc:=fun w=>⟨rfl,rfl⟩
 f1:=hf
end Go.Proofs.YtdoghgnifkgfdaaGreat.Mute
