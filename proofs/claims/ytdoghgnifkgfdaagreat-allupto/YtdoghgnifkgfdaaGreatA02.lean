import Derived.Test.YtdoghgnifkgfdaaGreatA01
set_option maxRecDepth 100000
set_option maxHeartbeats 16000000
open Option renaming none->Hn,some->Gn
open Go renaming World->En,Value->Dn,undef->Bn,Goroutine->zn,Calls->Zm,Program->Ym,Frame->Xm
open Bool renaming true->Um,false->Tm
open Nat renaming le_trans->Qm,le_refl->Om,lt_of_lt_of_le->Lm
open Array renaming getElem?_setIfInBounds_ne->Cm,getElem?_eq_getElem->Bm
namespace Go.Proofs.YtdoghgnifkgfdaaGreat.Mute
open Tryz Go Go.Conc
structure St where
 fr:Xm
 top:List Xm
 w:En
inductive Safe(P:Ym)(Q:Xm->En->Prop):Xm->List Xm->En->Prop
 |stop {fr:Xm} {w:En}:Q fr w->Safe P Q fr [] w
 |step {fr:Xm} {top:List Xm} {w:En} (nx:(Nat->Question->Nat)->Nat->St) (ev:(Nat->Question->Nat)->Nat->Array Event) (n:(Nat->Question->Nat)->Nat->Nat) (h1:∀τ d,∀e∈ev τ d,yv e)
   (h2:∀τ d main cs,stepG P main (G fr (top++cs)) (xq w τ d)=.go (G (nx τ d).fr ((nx τ d).top++cs)) (xq (nx τ d).w τ (d+n τ d)) (ev τ d))(h3:∀τ d,Safe P Q (nx τ d).fr (nx τ d).top (nx τ d).w):Safe P Q fr top w
theorem Safe.step'{P:Ym}{Q:Xm->En->Prop}{fr:Xm}{top:List Xm}{w:En} (h:∀τ d,∃Lx TJ w' es n,(∀e∈es,yv e)/\
   (∀main cs,stepG P main (G fr (top++cs)) (xq w τ d)=.go (G Lx (TJ++cs)) (xq w' τ (d+n)) es)/\Safe P Q Lx TJ w'):Safe P Q fr top w:=by
 have h':∀τ d,∃x:St×Array Event×Nat,(∀e∈x.2.1,yv e)/\(∀main cs,stepG P main (G fr (top++cs)) (xq w τ d)=.go (G x.1.fr (x.1.top++cs)) (xq x.1.w τ (d+x.2.2)) x.2.1)/\Safe P Q x.1.fr x.1.top x.1.w:=fun τ d=>by
  obtain⟨Lx,TJ,w',es,n,a,b,c⟩:=h τ d;exact⟨(⟨Lx,TJ,w'⟩,es,n),a,b,c⟩
 exact .step (fun τ d=>(Classical.choose (h' τ d)).1) (fun τ d=>(Classical.choose (h' τ d)).2.1) (fun τ d=>(Classical.choose (h' τ d)).2.2) (fun τ d=>(Classical.choose_spec (h' τ d)).1) (fun τ d=>(Classical.choose_spec (h' τ d)).2.1) (fun τ d=>(Classical.choose_spec (h' τ d)).2.2)
def Zs : Xm := { fn := 0, tmps := #[], todo := [.code (.refuse "")], defers := [{ target := .nil, args := #[] }], mode := .run, kind := .normal }
theorem zY{P:Ym}(v:Dn)(w:En):∃o w' es,stepG P Um (G (Zs.finish v) []) w=.ended o w' es:=by
 have:Zs.finish v=Zs:=rfl;rw[this];exact Gi
theorem bS{P:Ym}(c:List PanicEntry)(w:En):∃o w' es,stepG P Um (G (Zs.raise c) []) w=.ended o w' es:=⟨_,_,_,rfl⟩
section
variable {P:Ym}{A:xA}{Q:Xm->En->Prop}
def St.ok(P:Ym)(A:xA)(x:St):Prop:=jw P A x.fr/\sw P A x.fr.kind x.top
def St.bad(P:Ym)(A:xA)(Q:Xm->En->Prop)(x:St):Prop:=x.ok P A/\¬Safe P Q x.fr x.top x.w
def St.leaves(x:St):Prop:=x.fr.mode≠.run/\x.fr.defers=[]/\x.top=[]
def St.goes(P:Ym)(x y:St)(fU:Nat->Question->Nat)(n:Nat):Prop:=
 ∀τ d,(∀k,k<n->τ (d+k)=fU k)->∀main cs,∃es,stepG P main (G x.fr (x.top++cs)) (xq x.w τ d)=.go (G y.fr (y.top++cs)) (xq y.w τ (d+n)) es
def St.ends(P:Ym)(x:St)(fU:Nat->Question->Nat)(n:Nat):Prop:=
 ∀τ d,(∀k,k<n->τ (d+k)=fU k)->∀main cs,∃o w' es,stepG P main (G x.fr (x.top++cs)) (xq x.w τ d)=.ended o w' es
theorem St.W60(H:yr P A)(ew:∀g,P.stepOf g=Hn){x:St}(hx:x.bad P A Q)(hl:¬x.leaves):
  ∃fU n,x.ends P fU n\/∃y:St,y.bad P A Q/\x.goes P y fU n:=by
 obtain⟨⟨hf,hs⟩,hns⟩:=hx;have XM:x.fr.mode=.run\/x.fr.defers≠[]\/x.top≠[]:=by
  by_cases h1:x.fr.mode=.run
  ·exact .inl h1
  ·by_cases h2:x.fr.defers=[]
   ·by_cases h3:x.top=[]
    ·exact absurd ⟨h1,h2,h3⟩ hl
    ·exact .inr (.inr h3)
   ·exact .inr (.inl h2)
 have hex:∃τ d,¬∃Lx TJ w' es n,(∀e∈es,yv e)/\(∀main cs,stepG P main (G x.fr (x.top++cs)) (xq x.w τ d)=.go (G Lx (TJ++cs)) (xq w' τ (d+n)) es)/\Safe P Q Lx TJ w':=by
  apply Classical.byContradiction;intro oH;refine hns (.step' fun τ d=>?_);apply Classical.byContradiction;intro hh;exact oH ⟨τ,d,hh⟩
 obtain⟨τ₀,d₀,oH⟩:=hex;obtain⟨n,hr⟩:=SJ H ew hf hs XM (xq x.w τ₀ d₀);refine⟨fun k=>τ₀ (d₀+k),n,?_⟩;rcases hr with⟨Lx,TJ,w',es,h1,h2,h3,h4,h5,h6⟩|h6
 ·refine .inr ⟨⟨Lx,TJ,w'⟩,⟨⟨h1,h2⟩,fun wk0=>oH ⟨Lx,TJ,w',es,n,h3,fun main cs=>?_,wk0⟩⟩,fun τ d ha main cs=>⟨es,?_⟩⟩
  ·exact h6 τ₀ d₀ (fun k _=>rfl) main cs
  ·exact h6 τ d ha main cs
 ·exact .inl fun τ d ha main cs=>h6 τ d ha main cs
theorem ZT{a b:Xm}{la lb:List Xm}{w w':En}{es:Array Event}(h:stepG P Um (G a la) w=.go (G b lb) w' es):step P (solo (G a la) w)=.next (solo (G b lb) w'):=step_solo_go rfl h
theorem step_end{a:Xm}{la:List Xm}{w w':En}{o:Outcome}{es:Array Event}(h:stepG P Um (G a la) w=.ended o w' es):step P (solo (G a la) w)=.ended o w':=by
 have:=step_lone_ended (P:=P) (fr:=a) (cs:=la) (w:=w) (w':=w') (o:=o) (by
  show (stepG P Um (G a la) w).bare=_;rw[h];rfl)
 exact Vh
theorem fZ(x:St)(hx:x.ok P A)(hl:x.leaves)(τ:Nat->Question->Nat)(d:Nat):(∃o w',step P (solo (G x.fr (x.top++[Zs])) (xq x.w τ d))=.ended o w')\/
  ∃c w' o MQ,step P (solo (G x.fr (x.top++[Zs])) (xq x.w τ d))=.next (solo (G c []) w')/\step P (solo (G c []) w')=.ended o MQ:=by
 obtain⟨hm,hd,ht⟩:=hl;have hk:x.fr.kind=.normal:=by
  have:=hx.2;rw[ht]at this;exact Vh
 rw[ht];cases UC:x.fr.mode with
 |run=>exact absurd UC hm
 |panicking chain=>
  obtain⟨o,w',es,he⟩:=bS (P:=P) chain (xq x.w τ d);refine .inr ⟨Zs.raise chain,xq x.w τ d,o,w',ZT (es:=#[]) ?_,step_end he⟩;show stepG P Um (G x.fr [Zs]) _=_;rw[zt hm];unfold unwind;simp only[hd,UC,Jz hx.1];rfl
 |returning=>
  obtain⟨fn,hf⟩:=hx.1.fn;have hu:stepG P Um (G x.fr [Zs]) (xq x.w τ d)=unwind P Um x.fr [Zs] Hn (xq x.w τ d):=zt hm _ _ _;cases hr:((results fn x.fr.tmps).runT P (xq x.w τ d) #[])with
  |mk r es=>
   cases r with
   |ok v w'=>
    obtain⟨o,MQ,es',he⟩:=zY (P:=P) v w';refine .inr ⟨Zs.finish v,w',o,MQ,ZT (es:=seen P x.fr.fn es) ?_,step_end he⟩;show stepG P Um (G x.fr [Zs]) _=_;rw[hu];unfold unwind;simp only[hd,UC,hf,hr,doReturn,hk,GStep.after];simp[G]
   |halt hh w'=>
    have:∃o,stepG P Um (G x.fr [Zs]) (xq x.w τ d)=.ended o w' (seen P x.fr.fn es):=by
     rw[hu];unfold unwind;simp only[hd,UC,hf,hr];cases hh<;>exact⟨_,by simp[GStep.after];rfl⟩
    obtain⟨o,ho⟩:=this;exact .inl ⟨o,w',step_end ho⟩
theorem GQ{m:Nat}{x y:Machine}(h:runN P m x=.next y):∀k,runN P (m+k) x=runN P k y:=by
 induction m generalizing x with
 |zero=>intro k;simp only[runN,Stepped.next.injEq]at h;rw[Nat.zero_add,h]
 |succ m ih=>
  intro k;rw[show m+1+k=(m+k)+1 by omega];simp only[runN]at h ⊢;cases hs:step P x with
  |next z=>rw[hs]at h;exact ih h k
  |ended o w=>rw[hs]at h;cases h
theorem iJ(p:Nat->Prop):∀N,(∀j,j<N->p j)\/∃j,j<N/\¬p j/\∀i,i<j->p i
 |0=>.inl fun j hj=>absurd hj E0
 |N+1=>by
  rcases iJ p N with h|⟨j,hj,h1,h2⟩
  ·by_cases hN:p N
   ·exact .inl fun j hj=>by
     rcases Nat.lt_succ_iff_lt_or_eq.1 hj with h'|rfl
     ·exact h j h'
     ·exact hN
   ·exact .inr ⟨N,E0,hN,h⟩
  ·exact .inr ⟨j,E0,h1,h2⟩
section glue
variable (Hr:{x:St // x.bad P A Q}->(Nat->Question->Nat)×Nat×Option {x:St // x.bad P A Q})(b₀:{x:St // x.bad P A Q})
def Gz:Nat->{x:St // x.bad P A Q}
 |0=>b₀
 |k+1=>((Hr (Gz k)).2.2).getD (Gz k)
def jA:Nat->Nat
 |0=>0
 |k+1=>jA k+(Hr (Gz Hr b₀ k)).2.1
def K30:Nat->Nat->Question->Nat
 |0,_,_=>0
 |k+1,i,q=>if i<jA Hr b₀ k then K30 k i q else (Hr (Gz Hr b₀ k)).1 (i-jA Hr b₀ k) q
theorem J30{a b:Nat}(h:a<=b):jA Hr b₀ a<=jA Hr b₀ b:=by
 induction h with
 |refl=>exact Om _
 |step _ ih=>exact Qm ih (Nat.le_add_right _ _)
theorem DK{k m i:Nat}(hk:i<jA Hr b₀ k)(hm:k<=m):K30 Hr b₀ m i=K30 Hr b₀ k i:=by
 induction hm with
 |refl=>rfl
 | @step m hm ih=>
  have:i<jA Hr b₀ m:=Lm hk (J30 Hr b₀ hm);funext q;show (if i<jA Hr b₀ m then K30 Hr b₀ m i q else _)=_;rw[if_pos this,ih]
theorem zc0:∃T:Nat->Question->Nat,∀k j,j<(Hr (Gz Hr b₀ k)).2.1->T (jA Hr b₀ k+j)=(Hr (Gz Hr b₀ k)).1 j:=by
 have key:∀i,∃v:Question->Nat,∀k,i<jA Hr b₀ k->v=K30 Hr b₀ k i:=fun i=>by
  by_cases h:∃k,i<jA Hr b₀ k
  ·obtain⟨k₀,hk₀⟩:=h;refine⟨K30 Hr b₀ k₀ i,fun k hk=>?_⟩;rcases Nat.le_total k₀ k with h|h
   ·exact(DK Hr b₀ hk₀ h).symm
   ·exact DK Hr b₀ hk h
  ·exact⟨fun _=>0,fun k hk=>absurd ⟨k,hk⟩ h⟩
 refine⟨fun i=>Classical.choose (key i),fun k j hj=>?_⟩;have yo:jA Hr b₀ k+j<jA Hr b₀ (k+1):=by
  show _<jA Hr b₀ k+(Hr (Gz Hr b₀ k)).2.1;omega
 refine(Classical.choose_spec (key (jA Hr b₀ k+j)) (k+1) yo).trans ?_;funext q;show (if jA Hr b₀ k+j<jA Hr b₀ k then _ else _)=_;rw[if_neg E0,show jA Hr b₀ k+j-jA Hr b₀ k=j by omega]
end glue
theorem DI(H:yr P A)(ew:∀g,P.stepOf g=Hn){x:St}(Yr:x.ok P A)(QQ:(Nat->Question->Nat)->Xm->En->Prop)(hQ:∀τ fr w d,QQ τ fr (xq w τ d)->Q fr w)
  (vk0:∀τ,∃N Lx w',runN P N (solo (G x.fr (x.top++[Zs])) (xq x.w τ 0))=.next (solo (G Lx [Zs]) w')/\QQ τ Lx w'):Safe P Q x.fr x.top x.w:=by
 apply Classical.byContradiction;intro hns;have hex:∀b:{x:St // x.bad P A Q},∃r:(Nat->Question->Nat)×Nat×Option {x:St // x.bad P A Q},
   (b.1.leaves/\r.2.2=Hn)\/(b.1.ends P r.1 r.2.1/\r.2.2=Hn)\/∃y,r.2.2=Gn y/\b.1.goes P y.1 r.1 r.2.1:=fun b=>by
  by_cases hl:b.1.leaves
  ·exact⟨(fun _ _=>0,0,Hn),.inl ⟨hl,rfl⟩⟩
  ·obtain⟨fU,n,h|⟨y,hy,hg⟩⟩:=St.W60 H ew b.2 hl
   ·exact⟨(fU,n,Hn),.inr (.inl ⟨h,rfl⟩)⟩
   ·exact⟨(fU,n,Gn ⟨y,hy⟩),.inr (.inr ⟨⟨y,hy⟩,rfl,hg⟩)⟩
 let Hr:{x:St // x.bad P A Q}->(Nat->Question->Nat)×Nat×Option {x:St // x.bad P A Q}:=fun b=>Classical.choose (hex b)
 have zd0:∀b,(b.1.leaves/\(Hr b).2.2=Hn)\/(b.1.ends P (Hr b).1 (Hr b).2.1/\(Hr b).2.2=Hn)\/∃y,(Hr b).2.2=Gn y/\b.1.goes P y.1 (Hr b).1 (Hr b).2.1:=fun b=>Classical.choose_spec (hex b)
 let b₀:{x:St // x.bad P A Q}:=⟨x,Yr,hns⟩
 obtain ⟨T,hT⟩:=zc0 Hr b₀;obtain ⟨N,Lx,w',hN,hq⟩:=vk0 T;have JA:∀m,(∀j,j<m->((Hr (Gz Hr b₀ j)).2.2).isSome=Um)->runN P m (solo (G x.fr (x.top++[Zs])) (xq x.w T 0))=
   .next (solo (G (Gz Hr b₀ m).1.fr ((Gz Hr b₀ m).1.top++[Zs])) (xq (Gz Hr b₀ m).1.w T (jA Hr b₀ m))):=by
  intro m;induction m with
  |zero=>intro _;rfl
  |succ m ih=>
   intro hj;have h0:=ih fun j hjm=>hj j E0;have a00:=hj m E0;rcases zd0 (Gz Hr b₀ m)with⟨_,e⟩|⟨_,e⟩|⟨y,hy,hg⟩
   ·rw[e]at a00;cases a00
   ·rw[e]at a00;cases a00
   ·have e1:Gz Hr b₀ (m+1)=y:=by
     show ((Hr (Gz Hr b₀ m)).2.2).getD _=y;rw[hy];rfl
    obtain⟨es,Eu⟩:=hg T (jA Hr b₀ m) (fun k hk=>hT _ k hk) Um [Zs];have:=GQ h0 1;rw[this,e1];simp only[runN,ZT Eu];rfl
 rcases iJ (fun j=>((Hr (Gz Hr b₀ j)).2.2).isSome=Um) N with dy|⟨j,hjN,hj,jf0⟩
 ·have h1:=JA N dy;rw[hN]at h1;simp only[Stepped.next.injEq]at h1;have h2:G Lx [Zs]=G (Gz Hr b₀ N).1.fr ((Gz Hr b₀ N).1.top++[Zs]):=by
   have:=congrArg (fun m:Machine=>m.gs[0]?) h1;simpa[solo]using this
  have h3:w'=xq (Gz Hr b₀ N).1.w T (jA Hr b₀ N):=congrArg Machine.world h1;have h4:Lx=(Gz Hr b₀ N).1.fr:=congrArg Goroutine.frame h2;have h5:[Zs]=(Gz Hr b₀ N).1.top++[Zs]:=congrArg Goroutine.callers h2;have h6:(Gz Hr b₀ N).1.top=[]:=by
   have:=congrArg List.length h5;simp at this;exact Vh
  have Jj0:=(Gz Hr b₀ N).2.2;rw[h3,h4]at hq;apply Jj0;rw[h6];exact .stop (hQ _ _ _ _ hq)
 ·have h0:=JA j jf0;have hk:=GQ h0 (N-j);rw[show j+(N-j)=N by omega,hN]at hk;obtain⟨r,hr⟩:∃r,N-j=r+1:=⟨N-j-1,E0⟩;rw[hr]at hk;have kV:∀{o w'},step P (solo (G (Gz Hr b₀ j).1.fr ((Gz Hr b₀ j).1.top++[Zs])) (xq (Gz Hr b₀ j).1.w T (jA Hr b₀ j)))=.ended o w'->False:=fun he=>by
   simp only[runN,he]at hk;cases hk
  rcases zd0 (Gz Hr b₀ j)with⟨hl,_⟩|⟨he,_⟩|⟨y,hy,_⟩
  ·rcases fZ _ (Gz Hr b₀ j).2.1 hl T (jA Hr b₀ j)with⟨o,MQ,h⟩|⟨c,w1,o,w2,h1,h2⟩
   ·exact kV h
   ·simp only[runN,h1]at hk;cases r with
    |zero=>
     simp only[runN,Stepped.next.injEq]at hk;have:=congrArg (fun m:Machine=>(m.gs[0]?).map (·.callers)) hk;simp[solo,G]at this
    |succ r=>
     simp only[runN,h2]at hk;cases hk
  ·obtain⟨o,MQ,es,h⟩:=he T (jA Hr b₀ j) (fun k jK=>hT _ k jK) Um [Zs];exact kV (step_end h)
  ·apply hj;rw[hy];rfl
end
open Go.ConcN (sumTo upd sumTo_upd upd_ne upd_same)
structure Xv(t:Trace):Prop where
 clean:∀iz,¬Race iz t
 known:∀i a,touchAt t i=Gn a->a.loc.isMemory=Um->Knows t 0 i
 over:t.HandedOver
 hears:Deaf t 0=0
theorem Z20:Xv #[]:=⟨past_nil.clean,fun i a ha=>by simp[touchAt,Trace.act?]at ha,past_nil.over,rfl⟩
section
variable {P:Ym}{t u:Trace}
theorem Xv.app0(h:Xv t)(hu:∀op∈u,op.g=0)(hd:Deaf (t++u) 0=Deaf t 0):Xv (t++u):=by
 refine⟨fun iz=>noRace_append (h.clean iz) hu fun i a ha op ep b hb hc=>h.known i a ha hc.2.1,fun i a ha hm=>?_,handedOver_app h.over fun op ep=>.inl (hu op ep),hd.trans h.hears⟩;obtain⟨x,hx,hxa⟩:=touch_of ha;rcases getElem?_append_cases hx with⟨_,eE⟩|⟨_,jL⟩
 ·exact(h.known i a E3 hm).app u
 ·have:=knows_own hx;rw[hu x jL]at this;exact Vh
theorem Xv.own(h:Xv t){fn:FuncId}{pos:String}{es:Array Event}(Eu:∀e∈es,yv e):Xv (t++MemOp.ofEvents 0 fn pos es):=by
 refine h.app0 (fun op ep=>J5) ?_;rw[Deaf_own];exact Qg
theorem Xv.mute(h:Xv t){g:Nat}(hg:g≠0){fn:FuncId}{pos:String}{es:Array Event}(hm:∀e∈es,e.mute=Um):Xv (t++MemOp.ofEvents g fn pos es):=by
 have hu:∀op∈MemOp.ofEvents g fn pos es,op.g=g:=fun op ep=>by obtain⟨e,_,rfl⟩:=Go.Conc.mem_ofEvents ep;rfl
 have hn:∀op∈MemOp.ofEvents g fn pos es,op.act.touch?=none:=fun op ep=>by obtain⟨e,he,rfl⟩:=Go.Conc.mem_ofEvents ep;exact touch_mute (hm e he)
 refine⟨fun iz=>noRace_append (h.clean iz) hu fun i a _ op ep b hb _=>(by rw[hn op ep]at hb;cases hb),fun i a ha hma=>?_,handedOver_app h.over fun op ep=>.inr (hn op ep),(Deaf_other t hg _ hu).trans h.hears⟩;obtain⟨x,hx,hxa⟩:=touch_of ha;rcases getElem?_append_cases hx with⟨_,eE⟩|⟨_,jL⟩
 ·exact(h.known i a E3 hma).app _
 ·exact bg
end
section
variable {P:Ym}{Q:Xm->En->Prop}
theorem AK{fr:Xm}{top:List Xm}{w:En}(h:Safe P Q fr top w):∀(gs:Array zn)(sl:Option (Nat×Nat))(t:Trace)(q:Nat->Nat)(cs:List Xm)(τ:Nat->Question->Nat)(d:Nat),
  gs[0]?=Gn (G fr (top++cs))->Leavers P t gs q->Xv t->
  ∃N dr Lx w' d' sl' t' q',runNT P N (crowd gs (xq w τ d) sl) t=(.next (crowd dr (xq w' τ d') sl'),t')/\dr.size=gs.size/\dr[0]?=Gn (G Lx cs)/\Q Lx w'/\Leavers P t' dr q'/\Xv t':=by
 induction h with
 |stop hq=>exact fun gs sl t q cs τ d h0 hL hP=>⟨0,gs,_,_,d,sl,t,q,rfl,rfl,h0,hq,hL,hP⟩
 | @step fr top w nx ev n h1 h2 h3 ih=>
  intro gs sl t q cs τ d;have inner:∀(M:Nat) (gs:Array zn) (sl:Option (Nat×Nat)) (t:Trace) (q:Nat->Nat) (d:Nat),sumTo gs.size q=M->gs[0]?=Gn (G fr (top++cs))->Leavers P t gs q->Xv t->
    ∃N dr Lx w' d' sl' t' q',runNT P N (crowd gs (xq w τ d) sl) t=(.next (crowd dr (xq w' τ d') sl'),t')/\dr.size=gs.size/\dr[0]?=Gn (G Lx cs)/\Q Lx w'/\Leavers P t' dr q'/\Xv t':=by
   intro M;induction M using Nat.strongRecOn with
   |_ M ihM=>
    intro gs sl t q d hM h0 hL hP;have JA:(G fr (top++cs)).status=.running:=rfl;have haw:∀g∈gs,awake g:=by
     intro g hg;obtain⟨i,hi,rfl⟩:=Array.mem_iff_getElem.1 hg;rcases Nat.eq_zero_or_pos i with rfl|mJ
     ·have:gs[0]=G fr (top++cs):=by simpa[Bm hi]using h0
      rw[this];exact awake_of (.inl JA)
     ·exact awake_of ((hL.old i _ mJ (Bm hi)).status.elim .inl fun x=>.inr (.inr x))
    obtain⟨i,g,dd,sl',hi,hg,Ht⟩:=crowd_pick (P:=P) (w:=xq w τ d) (sl:=sl) haw ⟨0,_,h0,JA⟩;have eat:(xq w τ d).at dd=xq w τ dd:=rfl;rw[eat]at Ht;rcases Nat.eq_zero_or_pos i with rfl|mJ
    ·obtain rfl:g=G fr (top++cs):=by rw[h0]at hi;exact Jh
     have XH:=h2 τ dd Um cs;have Pv:=runT_crowd_go (P:=P) (sl:=sl') (i:=0) hi (show stepG P (0==0) (G fr (top++cs)) (xq w τ dd)=_ from XH);have ju:((gs.map (woken P (G fr (top++cs)) (G (nx τ dd).fr ((nx τ dd).top++cs)) (xq (nx τ dd).w τ (dd+n τ dd)))).setIfInBounds 0 (G (nx τ dd).fr ((nx τ dd).top++cs))).size=gs.size:=P0;have yo:0<gs.size:=(Array.getElem?_eq_some_iff.1 h0).1;obtain⟨N,dr,Lx,w',d',P90,t',q',hr,qK,h0',hS,hL',hP'⟩:=ih τ dd ((gs.map (woken P (G fr (top++cs)) (G (nx τ dd).fr ((nx τ dd).top++cs)) (xq (nx τ dd).w τ (dd+n τ dd)))).setIfInBounds 0 (G (nx τ dd).fr ((nx τ dd).top++cs))) sl' (t++MemOp.ofEvents 0 (G fr (top++cs)).frame.fn (G fr (top++cs)).frame.place (ev τ dd)) q cs τ (dd+n τ dd) (by simp[yo])
      ⟨fun j x hj hx=>by
       have Yp:0≠j:=E0;rw[Cm Yp,Array.getElem?_map]at hx;obtain⟨y,hy,rfl⟩:=Option.map_eq_some_iff.1 hx;have hq:=hL.old j y hj hy;rw[woken_quitsD hq,Deaf_other t E0 _ (fun op ep=>J5)];exact hq,fun j hj=>by
       rw[Deaf_other t (g':=0) D3 _ (fun op ep=>J5)];exact hL.above j E2⟩
      (hP.own (h1 τ dd))
     exact⟨N+1,dr,Lx,w',d',P90,t',q',by simp only[runNT,Ht,Pv];exact hr,qK.trans ju,h0',hS,hL',hP'⟩
    ·have hq:=hL.old i g mJ hi;have AE:(i==0)=false:=by simp;omega
     refine dm fun yo=>?_;cases KY:q i with
     |zero=>rw[KY]at hq;rw[hq.1]at hg;cases hg
     |succ k=>
      rw[KY]at hq;rcases hq with⟨hf,_⟩|⟨_,g',es,hm,PY,tX⟩
      ·rw[hf]at hg;cases hg
      have Pv:=runT_crowd_go (P:=P) (sl:=sl') (i:=i) hi (by rw[AE];exact PY (xq w τ dd));have ju:((gs.map (woken P g g' (xq w τ dd))).setIfInBounds i g').size=gs.size:=P0;have Pb0:sumTo gs.size (upd q i k)+(k+1)=sumTo gs.size q+k:=by
       have:=sumTo_upd q k id yo;simpa[KY]using this
      obtain⟨N,dr,Lx,w',d',P90,t',q',hr,qK,h0',hS,hL',hP'⟩:=ihM (sumTo gs.size (upd q i k)) E0 ((gs.map (woken P g g' (xq w τ dd))).setIfInBounds i g') sl' (t++MemOp.ofEvents i g.frame.fn g.frame.place es) (upd q i k) dd (by rw[ju])
       (by
        have Yp:i≠0:=E0;rw[Cm Yp,Array.getElem?_map,h0];simp[woken_run JA])
       ⟨fun j x hj hx=>by
        by_cases gy:i=j
        ·exact zb
        ·rw[Cm gy,Array.getElem?_map]at hx;obtain⟨y,hy,rfl⟩:=Option.map_eq_some_iff.1 hx;have pK:=hL.old j y hj hy;rw[woken_quitsD pK,upd_ne q k (Ne.symm gy),Deaf_other t gy _ (fun op ep=>J5)];exact pK,fun j hj=>by
        rw[Deaf_other t (g':=i) D3 _ (fun op ep=>J5)];exact hL.above j E2⟩
       (hP.mute E0 hm)
      exact⟨N+1,dr,Lx,w',d',P90,t',q',by simp only[runNT,Ht,Pv];exact hr,qK.trans ju,h0',hS,hL',hP'⟩
  exact inner _ gs sl t q d rfl
variable {A:xA}
theorem CP(H:yr P A)(ew:∀g,P.stepOf g=Hn){f:FuncId}{args:Array Dn}{w:En}(hen:vv P A f args)(R:En->Ending->En->Prop)
  (hc:∀τ,Zm P f args (xq w τ 0) (R (xq w τ 0)))(oH:∀a b,¬R a .outgrown b):
  Safe P (fun fr w'=>∃τ d' e,R (xq w τ 0) e (xq w' τ d')/\fr.fn=f/\fr.leaving P (xq w' τ d') e) (Frame.enter P f args .normal) [] w:=by
 refine DI (x:=⟨Frame.enter P f args .normal,[],w⟩) H ew ⟨hen.frame H (.inl rfl),rfl⟩
  (fun τ Lx w'=>∃e,R (xq w τ 0) e w'/\Lx.fn=f/\Lx.leaving P w' e) (fun τ fr w' d ⟨e,h⟩=>⟨τ,d,e,h⟩) fun τ=>?_
 obtain⟨e,w',Lx,hR,hcm,hf,hl⟩:=hc τ [Zs];cases e with
 |outgrown=>exact absurd hR (oH _ _)
 |returned v=>
  obtain⟨N,hN⟩:=hcm;exact⟨N,Lx,w',hN,_,hR,hf,hl⟩
 |panicked c=>
  obtain⟨N,hN⟩:=hcm;exact⟨N,Lx,w',hN,_,hR,hf,hl⟩
theorem oc0(w:En)(τ τ':Nat->Question->Nat)(d d':Nat):xq (xq w τ d) τ' d'=xq w τ' d':=rfl
theorem gZ{fr:Xm}{w:En}{e:Ending}{τ:Nat->Question->Nat}{d:Nat}(h:fr.leaving P (xq w τ d) e)(τ':Nat->Question->Nat)(d':Nat):fr.leaving P (xq w τ' d') e:=by
 cases e with
 |outgrown=>trivial
 |panicked c=>exact h
 |returned v=>
  obtain⟨h1,h2,h3,fn,hf,hr⟩:=h;refine⟨h1,h2,h3,fn,hf,?_⟩;have ho:=LD (P:=P) fn fr.tmps;obtain⟨n,l1,l2,l3⟩:=OD P _ (xq w τ d) #[] ho;have e0:((results fn fr.tmps).runT P (xq w τ d) #[]).1=.ok v (xq w τ d):=by rw[Sem.runT_fst];exact hr
  rw[e0]at l1 l2 l3;have hn:n=0:=by
   have:d=d+n:=l2;omega
  subst hn;have:=l3 τ' d' (fun k hk=>absurd hk E0);rw[oc0]at this;rw[<-Sem.runT_fst P _ _ #[],this];rfl
def j60(P:Ym)(f:FuncId)(args:Array Dn)(w:En)(R:Ending->En->Prop):Prop:=
 ∀(gs:Array zn)(sl:Option (Nat×Nat))(t:Trace)(q:Nat->Nat)(cs:List Xm)(τ:Nat->Question->Nat)(d:Nat),
  gs[0]?=Gn (G (Frame.enter P f args .normal) cs)->Leavers P t gs q->Xv t->
  ∃N dr Lx w' d' sl' t' q' e,runNT P N (crowd gs (xq w τ d) sl) t=(.next (crowd dr (xq w' τ d') sl'),t')/\gs.size<=dr.size/\dr[0]?=Gn (G Lx cs)/\Lx.fn=f/\(∀τ d,Lx.leaving P (xq w' τ d) e)/\R e w'/\Leavers P t' dr q'/\Xv t'
theorem YK(H:yr P A)(ew:∀g,P.stepOf g=Hn){f:FuncId}{args:Array Dn}{w:En}(hen:vv P A f args)(R:En->Ending->En->Prop)
  (hc:∀τ,Zm P f args (xq w τ 0) (R (xq w τ 0)))(oH:∀a b,¬R a .outgrown b):j60 P f args w (fun e w'=>∃τ d',R (xq w τ 0) e (xq w' τ d')):=by
 intro gs sl t q cs τ d h0 hL hP;obtain⟨N,dr,Lx,w',d',sl',t',q',hr,hs,h0',⟨τ',dd,e,hR,hf,hl⟩,hL',hP'⟩:=AK (CP H ew hen R hc oH) gs sl t q cs τ d h0 hL hP;exact⟨N,dr,Lx,w',d',sl',t',q',e,hr,E0,h0',hf,fun τ₁ d₁=>gZ hl τ₁ d₁,⟨τ',dd,hR⟩,hL',hP'⟩
end
structure Ey(k:Nat)(S M:Touch->Prop)(t:Trace):Prop where
 clean:∀iz,¬Race iz t
 k0:∀i a,touchAt t i=Gn a->a.loc.isMemory=Um->Knows t 0 i\/(Knows t k i/\S a)
 kk:∀i a,touchAt t i=Gn a->a.loc.isMemory=Um->Knows t k i\/(Knows t 0 i/\M a)
 h0:Deaf t 0=0
 hk:Deaf t k=0
def uU(S M:Touch->Prop):Prop:=∀a b,S a->M b->a.loc=b.loc->a.write=Tm/\b.write=Tm
structure PastS(c pc:Nat)(S:Touch->Prop)(t:Trace):Prop where
 clean:∀iz,¬Race iz t
 known:∀i a,touchAt t i=Gn a->a.loc.isMemory=Um->Knows t 0 i\/(Before t i pc/\S a)
 close:t.act? pc=Gn (.close c)
 heard:t.heard pc
 h0:Deaf t 0=0
section
variable {k c pc:Nat}{S M S' M':Touch->Prop}{t u:Trace}
theorem Ey.mono(h:Ey k S M t)(hS:∀a,S a->S' a)(hM:∀a,M a->M' a):Ey k S' M' t:=
 ⟨h.clean,fun i a x y=>(h.k0 i a x y).imp id fun z=>⟨z.1,hS a z.2⟩,fun i a x y=>(h.kk i a x y).imp id fun z=>⟨z.1,hM a z.2⟩,h.h0,h.hk⟩
theorem PastS.mono(h:PastS c pc S t)(hS:∀a,S a->S' a):PastS c pc S' t:=⟨h.clean,fun i a x y=>(h.known i a x y).imp id fun z=>⟨z.1,hS a z.2⟩,h.close,h.heard,h.h0⟩
section
variable (h:Ey k S M t)(hk:k≠0)(ap:uU S M){fn:FuncId}{pos:String}{es:Array Event}(Eu:∀e∈es,yv e)
include h hk ap fn pos es Eu
theorem Ey.tP(hM:∀e∈es,∀x,(MemAct.ofEvent e).touch?=Gn x->x.loc.isMemory=Um->M x):
  Ey k S M (t++MemOp.ofEvents 0 fn pos es):=by
 have hu:∀op∈MemOp.ofEvents 0 fn pos es,op.g=0:=fun op ep=>by obtain⟨e,_,rfl⟩:=Go.Conc.mem_ofEvents ep;rfl
 have hMu:∀op∈MemOp.ofEvents 0 fn pos es,∀x,op.act.touch?=Gn x->x.loc.isMemory=Um->M x:=fun op ep=>by obtain⟨e,he,rfl⟩:=Go.Conc.mem_ofEvents ep;exact hM e he
 have hd0:Deaf (t++MemOp.ofEvents 0 fn pos es) 0=Deaf t 0:=by rw[Deaf_own];exact Qg
 refine⟨fun iz=>noRace_append (h.clean iz) hu fun i a ha op ep b hb hc=>?_,fun i a ha hm=>?_,fun i a ha hm=>?_,hd0.trans h.h0,(Deaf_other t (Ne.symm hk) _ hu).trans h.hk⟩
 ·rcases h.k0 i a ha hc.2.1 with oK|⟨_,hS⟩
  ·exact oK
  ·have:=ap a b hS (hMu op ep b hb (by rw[<-hc.1];exact hc.2.1)) hc.1;rcases hc.2.2.1 with hw|hw
   ·rw[this.1]at hw;cases hw
   ·rw[this.2]at hw;cases hw
 ·obtain⟨x,hx,hxa⟩:=touch_of ha;rcases getElem?_append_cases hx with⟨_,eE⟩|⟨_,jL⟩
  ·exact Ig
  ·have:=knows_own hx;exact Bl
 ·obtain⟨x,hx,hxa⟩:=touch_of ha;rcases getElem?_append_cases hx with⟨_,eE⟩|⟨_,jL⟩
  ·exact Jg
  ·have:=knows_own hx;rw[hu x jL]at this;exact .inr ⟨this,hMu x jL a hxa hm⟩
theorem Ey.lc0(hS:∀e∈es,∀x,(MemAct.ofEvent e).touch?=Gn x->x.loc.isMemory=Um->S x):
  Ey k S M (t++MemOp.ofEvents k fn pos es):=by
 have hu:∀op∈MemOp.ofEvents k fn pos es,op.g=k:=fun op ep=>by obtain⟨e,_,rfl⟩:=Go.Conc.mem_ofEvents ep;rfl
 have hSu:∀op∈MemOp.ofEvents k fn pos es,∀x,op.act.touch?=Gn x->x.loc.isMemory=Um->S x:=fun op ep=>by obtain⟨e,he,rfl⟩:=Go.Conc.mem_ofEvents ep;exact hS e he
 have hdk:Deaf (t++MemOp.ofEvents k fn pos es) k=Deaf t k:=by rw[Deaf_own];exact Qg
 refine⟨fun iz=>noRace_append (h.clean iz) hu fun i a ha op ep b hb hc=>?_,fun i a ha hm=>?_,fun i a ha hm=>?_,(Deaf_other t hk _ hu).trans h.h0,hdk.trans h.hk⟩
 ·rcases h.kk i a ha hc.2.1 with oK|⟨_,hM⟩
  ·exact oK
  ·have:=ap b a (hSu op ep b hb (by rw[<-hc.1];exact hc.2.1)) hM hc.1.symm;rcases hc.2.2.1 with hw|hw
   ·rw[this.2]at hw;cases hw
   ·rw[this.1]at hw;cases hw
 ·obtain⟨x,hx,hxa⟩:=touch_of ha;rcases getElem?_append_cases hx with⟨_,eE⟩|⟨_,jL⟩
  ·exact Ig
  ·have:=knows_own hx;rw[hu x jL]at this;exact .inr ⟨this,hSu x jL a hxa hm⟩
 ·obtain⟨x,hx,hxa⟩:=touch_of ha;rcases getElem?_append_cases hx with⟨_,eE⟩|⟨_,jL⟩
  ·exact Jg
  ·have:=knows_own hx;exact Bl
end
theorem Ey.mutes(h:Ey k S M t)(hn:∀op∈u,op.act.touch?=Hn)(hd0:Deaf (t++u) 0=Deaf t 0)(hdk:Deaf (t++u) k=Deaf t k):Ey k S M (t++u):=by
 refine⟨fun iz=>noRace_appendMute (h.clean iz) hn,fun i a ha hm=>?_,fun i a ha hm=>?_,hd0.trans h.h0,hdk.trans h.hk⟩
 all_goals
  obtain⟨x,hx,hxa⟩:=touch_of ha;rcases getElem?_append_cases hx with⟨_,eE⟩|⟨_,jL⟩
 ·exact Ig
 ·exact bg
 ·exact Jg
 ·exact bg
theorem Ey.fork(h:Xv t)(TC:Deaf t k=0)(f0:FuncId)(p0:String)(fc:FuncId):Ey k S M (t++#[{g:=0,fn:=f0,pos:=p0,act:=.go k},{g:=k,fn:=fc,pos:=p0,act:=.start}]):=by
 generalize hu:(#[{g:=0,fn:=f0,pos:=p0,act:=.go k},{g:=k,fn:=fc,pos:=p0,act:=.start}]:Trace)=u;have hn:∀op∈u,op.act.touch?=none:=by
  intro op ep;subst hu;simp only[List.mem_toArray,List.mem_cons,List.not_mem_nil,or_false]at ep;rcases ep with rfl|rfl<;>rfl
 have hq:∀g,∀op∈u,∀d,deafStep g d op=d:=by
  intro g op ep d;subst hu;simp only[List.mem_toArray,List.mem_cons,List.not_mem_nil,or_false]at ep;rcases ep with rfl|rfl<;>rfl
 have e0:(t++u)[t.size]?=Gn {g:=0,fn:=f0,pos:=p0,act:=.go k}:=by subst hu;simp
 have e1:(t++u)[t.size+1]?=Gn {g:=k,fn:=fc,pos:=p0,act:=.start}:=by subst hu;simp
 have edge:HappensBefore (t++u) t.size (t.size+1):=
  Relation.TransGen.single (.inr ⟨.spawn (act?_of e0) (act?_of e1) (g?_of e1),⟨0,g?_of e0,by rw[deaf_old (Om _)];exact h.hears⟩,⟨k,g?_of e1,by rw[deaf_quiet (hq k) 1 (by subst hu;simp)];exact TC⟩⟩)
 refine⟨fun iz=>noRace_appendMute (h.clean iz) hn,fun i a ha hm=>?_,fun i a ha hm=>?_,(Deaf_quiet (hq 0)).trans h.hears,(Deaf_quiet (hq k)).trans TC⟩
 all_goals
  obtain⟨x,hx,hxa⟩:=touch_of ha;rcases getElem?_append_cases hx with⟨_,eE⟩|⟨_,jL⟩
 ·exact .inl ((h.known i a E3 hm).app _)
 ·exact bg
 ·exact .inl ⟨t.size+1,_,e1,rfl,.inr (((h.known i a E3 hm).hb_new N8 e0 rfl).trans edge)⟩
 ·exact bg
theorem Ey.shut(h:Ey k S M t)(hk:k≠0)(ap:uU S M)(fn:FuncId)(pos:String)(c:Nat)(hS:S ⟨.obj c,Tm,.atomic⟩):PastS c (t.size+1) S (t++MemOp.ofEvents k fn pos (closeEvents c)):=by
 have Eu:∀e∈closeEvents c,yv e:=fun e he=>by
  simp only[closeEvents,List.mem_toArray,List.mem_cons,List.not_mem_nil,or_false]at he;rcases he with rfl|rfl<;>exact uM _ _ _
 have hSe:∀e∈closeEvents c,∀x,(MemAct.ofEvent e).touch?=Gn x->x.loc.isMemory=Um->S x:=fun e he x hx _=>by
  simp only[closeEvents,List.mem_toArray,List.mem_cons,List.not_mem_nil,or_false]at he;rcases he with rfl|rfl
  ·simp only[MemAct.ofEvent,MemAct.touch?,Option.some.injEq]at hx;subst hx;exact hS
  ·simp[MemAct.ofEvent,MemAct.touch?]at hx
 have h':=h.lc0 hk ap (fn:=fn) (pos:=pos) Eu hSe;have hm:(t++MemOp.ofEvents k fn pos (closeEvents c))[t.size+1]?=Gn {g:=k,fn:=fn,pos:=pos,act:=.close c}:=by rw[at_new,closeOps];rfl
 have ju:(t++MemOp.ofEvents k fn pos (closeEvents c)).size=t.size+2:=by rw[closeOps];simp
 refine⟨h'.clean,fun i a ha YM=>?_,by rw[act?_of hm],⟨k,g?_of hm,?_⟩,h'.h0⟩
 ·rcases h'.k0 i a ha YM with oK|⟨⟨q,z,hq,hz,hb⟩,hSa⟩
  ·exact .inl oK
  ·refine .inr ⟨hb.trans ?_,hSa⟩;have bN:q<=t.size+1:=by have:=lt_size_of_getElem? hq;omega
   rcases Nat.lt_or_ge q (t.size+1)with yo|hge
   ·exact .inr (hb_po yo hq hm (by rw[hz]))
   ·exact .inl E0
 ·have hq:∀op∈MemOp.ofEvents k fn pos (closeEvents c),∀d,deafStep k d op=d:=fun op ep d=>by
   rw[closeOps]at ep;simp only[List.mem_toArray,List.mem_cons,List.not_mem_nil,or_false]at ep;rcases ep with rfl|rfl<;>rfl
  rw[deaf_quiet hq 1 (by rw[closeOps];simp)];exact h.hk
section
variable (h:PastS c pc S t)
include h
theorem PastS.keep:(t++u).act? pc=Gn (.close c)/\(t++u).heard pc:=by
 obtain⟨z,hz,_⟩:=Option.map_eq_some_iff.1 (show (t[pc]?).map (·.act)=Gn (.close c)from h.close);have yo:=lt_size_of_getElem? hz;obtain⟨g',jJ,eP⟩:=h.heard;exact⟨by simpa[Trace.act?,getElem?_append_old yo]using h.close,g',by rw[g?_old yo];exact jJ,by rw[deaf_old (Nat.le_of_lt yo)];exact eP⟩
theorem PastS.tP(ap:uU S M){fn:FuncId}{pos:String}{es:Array Event}(Eu:∀e∈es,yv e)(hM:∀e∈es,∀x,(MemAct.ofEvent e).touch?=Gn x->x.loc.isMemory=Um->M x):
  PastS c pc S (t++MemOp.ofEvents 0 fn pos es):=by
 have hu:∀op∈MemOp.ofEvents 0 fn pos es,op.g=0:=fun op ep=>by obtain⟨e,_,rfl⟩:=Go.Conc.mem_ofEvents ep;rfl
 have hMu:∀op∈MemOp.ofEvents 0 fn pos es,∀x,op.act.touch?=Gn x->x.loc.isMemory=Um->M x:=fun op ep=>by obtain⟨e,he,rfl⟩:=Go.Conc.mem_ofEvents ep;exact hM e he
 have hd0:Deaf (t++MemOp.ofEvents 0 fn pos es) 0=Deaf t 0:=by rw[Deaf_own];exact Qg
 refine⟨fun iz=>noRace_append (h.clean iz) hu fun i a ha op ep b hb hc=>?_,fun i a ha hm=>?_,h.keep.1,h.keep.2,hd0.trans h.h0⟩
 ·rcases h.known i a ha hc.2.1 with oK|⟨_,hS⟩
  ·exact oK
  ·have:=ap a b hS (hMu op ep b hb (by rw[<-hc.1];exact hc.2.1)) hc.1;rcases hc.2.2.1 with hw|hw
   ·rw[this.1]at hw;cases hw
   ·rw[this.2]at hw;cases hw
 ·obtain⟨x,hx,hxa⟩:=touch_of ha;rcases getElem?_append_cases hx with⟨_,eE⟩|⟨_,jL⟩
  ·exact xl
  ·have:=knows_own hx;exact Bl
theorem PastS.mutes(hn:∀op∈u,op.act.touch?=Hn)(hd0:Deaf (t++u) 0=Deaf t 0):PastS c pc S (t++u):=by
 refine⟨fun iz=>noRace_appendMute (h.clean iz) hn,fun i a ha hm=>?_,h.keep.1,h.keep.2,hd0.trans h.h0⟩;obtain⟨x,hx,hxa⟩:=touch_of ha;rcases getElem?_append_cases hx with⟨_,eE⟩|⟨_,jL⟩
 ·exact xl
 ·exact bg
theorem PastS.take(f0:FuncId)(p0:String):Xv (t++#[{g:=0,fn:=f0,pos:=p0,act:=.recvClosed c}]):=by
 generalize hu:(#[{g:=0,fn:=f0,pos:=p0,act:=.recvClosed c}]:Trace)=u;have hn:∀op∈u,op.act.touch?=none:=by
  intro op ep;exact Qh
 have hq:∀g,∀op∈u,∀d,deafStep g d op=d:=by
  intro g op ep d;exact Qh
 have e0:(t++u)[t.size]?=Gn {g:=0,fn:=f0,pos:=p0,act:=.recvClosed c}:=by subst hu;simp
 have edge:HappensBefore (t++u) pc t.size:=
  Relation.TransGen.single (.inr ⟨.closed h.keep.1 (act?_of e0),h.keep.2,⟨0,g?_of e0,by rw[deaf_old (Om _)];exact h.h0⟩⟩)
 have hk:∀i a,touchAt (t++u) i=Gn a->a.loc.isMemory=Um->Knows (t++u) 0 i:=fun i a ha hm=>by
  obtain⟨x,hx,hxa⟩:=touch_of ha;rcases getElem?_append_cases hx with⟨_,eE⟩|⟨_,jL⟩
  ·rcases h.known i a E3 hm with oK|⟨hb,_⟩
   ·exact oK.app _
   ·exact⟨t.size,_,e0,rfl,.inr ((hb.app u).hb edge)⟩
  ·exact bg
 refine⟨fun iz=>noRace_appendMute (h.clean iz) hn,hk,fun i g hg Yp ⟨x,hx,hm,_⟩=>?_,(Deaf_quiet (hq 0)).trans h.h0⟩;obtain⟨q,z,tX,hz,hb⟩:=hk i x hx hm;rcases hb with rfl|hb
 ·rw[g?_of tX,hz]at hg;exact absurd (Option.some.inj hg).symm Yp
 ·exact⟨q,by rw[g?_of tX,hz],hb⟩
end
end
inductive Pn(P:Ym)(main:Bool)(R:En->En->Prop)(D:En->En->Array Event->Prop)(Bo:zn->En->Prop):zn->En->Prop
 |stop {g:zn} {w:En} (hs:g.status=.running) (h:∀w₁,R w w₁->Bo g w₁):Pn P main R D Bo g w
 |step {g:zn} {w:En} (nx:En->zn×En×Array Event) (hs:g.status=.running) (h1:∀w₁,R w w₁->stepG P main g w₁=.go (nx w₁).1 (nx w₁).2.1 (nx w₁).2.2/\D w₁ (nx w₁).2.1 (nx w₁).2.2)
   (h2:∀w₁,R w w₁->Pn P main R D Bo (nx w₁).1 (nx w₁).2.1):Pn P main R D Bo g w
section
variable {P:Ym}{main:Bool}{R:En->En->Prop}{D:En->En->Array Event->Prop}{Bo:zn->En->Prop}{g:zn}{w w₁:En}
theorem Pn.running(h:Pn P main R D Bo g w):g.status=.running:=by cases h<;>assumption
theorem Pn.rely(tr:∀a b c,R a b->R b c->R a c)(h:Pn P main R D Bo g w)(hr:R w w₁):Pn P main R D Bo g w₁:=by
 cases h with
 |stop hs h=>exact .stop hs fun w₂ h₂=>h w₂ (tr _ _ _ hr h₂)
 |step nx hs h1 h2=>exact .step nx hs (fun w₂ h₂=>h1 w₂ (tr _ _ _ hr h₂)) fun w₂ h₂=>h2 w₂ (tr _ _ _ hr h₂)
theorem Pn.mono{xU:zn->En->Prop}(hm:∀g w,Bo g w->xU g w)(h:Pn P main R D Bo g w):Pn P main R D xU g w:=by
 induction h with
 |stop hs h=>exact .stop hs fun w₂ h₂=>hm _ _ (h w₂ h₂)
 |step nx hs h1 _ ih=>exact .step nx hs h1 ih
theorem Pn.bind{xU:zn->En->Prop}(refl:∀w,R w w)(hm:∀g w,Bo g w->Pn P main R D xU g w)(h:Pn P main R D Bo g w):Pn P main R D xU g w:=by
 induction h with
 | @stop g w hs h=>
  cases hm g w (h w (refl w))with
  |stop _ hh=>exact .stop hs hh
  |step nx _ h1 h2=>exact .step nx hs h1 h2
 |step nx hs h1 _ ih=>exact .step nx hs h1 ih
theorem Pn.one(hs:g.status=.running)(h:∀w₁,R w w₁->∃g' w' es,stepG P main g w₁=.go g' w' es/\D w₁ w' es/\Pn P main R D Bo g' w'):Pn P main R D Bo g w:=by
 have hc:∀w₁,∃x:zn×En×Array Event,R w w₁->stepG P main g w₁=.go x.1 x.2.1 x.2.2/\D w₁ x.2.1 x.2.2/\Pn P main R D Bo x.1 x.2.1:=fun w₁=>by
  by_cases hr:R w w₁
  ·obtain⟨g',w',es,a,b,c⟩:=h w₁ hr;exact⟨(g',w',es),fun _=>⟨a,b,c⟩⟩
  ·exact⟨(g,w,#[]),fun x=>absurd x hr⟩
 exact .step (fun w₁=>Classical.choose (hc w₁)) hs (fun w₁ hr=>⟨(Classical.choose_spec (hc w₁) hr).1,(Classical.choose_spec (hc w₁) hr).2.1⟩) fun w₁ hr=>(Classical.choose_spec (hc w₁) hr).2.2
end
structure Uw(c:Nat)(R0 R1:En->En->Prop)(D0 D1:En->En->Array Event->Prop)(SL ML:En->Touch->Prop)(FS:En->Prop):Prop where
 t0:∀a b c,R0 a b->R0 b c->R0 a c
 t1:∀a b c,R1 a b->R1 b c->R1 a c
 kH:∀w d,R0 w (w.at d)
 gR:∀w d,R1 w (w.at d)
 ch0:∀w cl s r tm,R0 w (w.setChan c 0 #[] cl s r tm)
 ch1:∀w cl s r tm,R1 w (w.setChan c 0 #[] cl s r tm)
 d01:∀w w' es,D0 w w' es->R1 w w'
 d10:∀w w' es,D1 w w' es->R0 w w'
 c0:∀w w' es,D0 w w' es->w'.heap[c]?=w.heap[c]?
 c1:∀w w' es,D1 w w' es->w'.heap[c]?=w.heap[c]?
 e0:∀w w' es,D0 w w' es->∀e∈es,yv e/\∀x,(MemAct.ofEvent e).touch?=Gn x->x.loc.isMemory=Um->ML w' x
 e1:∀w w' es,D1 w w' es->∀e∈es,yv e/\∀x,(MemAct.ofEvent e).touch?=Gn x->x.loc.isMemory=Um->SL w' x
 s0:∀w w' a,R0 w w'->SL w a->SL w' a
 s1:∀w w' a,R1 w w'->SL w a->SL w' a
 m0:∀w w' a,R0 w w'->ML w a->ML w' a
 m1:∀w w' a,R1 w w'->ML w a->ML w' a
 ap:∀w,uU (SL w) (ML w)
 sc:∀w,SL w ⟨.obj c,Tm,.atomic⟩
 f1:∀w w',R1 w w'->FS w->FS w'
section
variable (P:Ym)(c:Nat)(z:Dn)(R0 R1:En->En->Prop)(D0 D1:En->En->Array Event->Prop)(SL ML:En->Touch->Prop)(FS:En->Prop)(Fin:zn->En->Prop)
def w_(Next:zn->En->Prop)(g:zn)(w:En):Prop:=
 ∃es,stepG P Um g w=.comm (core g) #[rcase c z] Um (.recv Um) w es/\(∀e∈es,yv e/\∀x,(MemAct.ofEvent e).touch?=Gn x->x.loc.isMemory=Um->ML w x)/\∀w₂,R0 w w₂->Next (core g) w₂
def StopA:List Dn->zn->En->Prop
 | []=>w_ P c z R0 ML fun g w=>Fin (Go.Conc.served g (.tuple #[z,.bool Tm])) w
 |v::vs=>w_ P c z R0 ML fun g w=>Pn P Um R0 D0 (StopA vs) (Go.Conc.served g (.tuple #[v,.bool Um])) w
def Oa0(v:Dn)(Next:zn->En->Prop)(g:zn)(w:En):Prop:=
 ∃g₂ z' es,stepG P Tm g w=.comm g₂ #[scase c v z'] Um .send w es/\(∀e∈es,yv e/\∀x,(MemAct.ofEvent e).touch?=Gn x->x.loc.isMemory=Um->SL w x)/\∀w₂,R1 w w₂->Next (Go.Conc.served g₂ Bn) w₂
def rH(g:zn)(w:En):Prop:=
 mayWake P g=Um/\FS w/\∃g₂ n,QuitsD P n 0 g₂/\∀s r tm,w.heap[c]?=Gn (.chan 0 #[] Tm s r tm)->stepG P Tm g w=.go g₂ (w.setChan c 0 #[] Um s r tm) (closeEvents c)
def StopB:List Dn->zn->En->Prop
 | []=>rH P c FS
 |v::vs=>Oa0 P c R1 SL v fun g w=>Pn P Tm R1 D1 (StopB vs) g w
end
section
variable {P:Ym}{c k:Nat}{z:Dn}{R0 R1:En->En->Prop}{D0 D1:En->En->Array Event->Prop}{SL ML:En->Touch->Prop}{FS:En->Prop}{Fin:zn->En->Prop}
structure vy(P:Ym)(c k:Nat)(SL ML:En->Touch->Prop)(gs:Array zn)(w:En)(t:Trace)(q:Nat->Nat):Prop where
 k0:k≠0
 chan:∃s r tm,w.heap[c]?=Gn (.chan 0 #[] Tm s r tm)
 rest:∀i g,i≠0->i≠k->gs[i]?=Gn g->QuitsD P (q i) (Deaf t i) g
 above:∀j,gs.size<=j->Deaf t j=0
 past:Ey k (SL w) (ML w) t
def lU(P:Ym)(Fin:zn->En->Prop)(FS:En->Prop)(gs:Array zn)(w:En)(sl:Option (Nat×Nat))(t:Trace):Prop:=
 ∃N dr a' w' sl' t' q',runNT P N (crowd gs w sl) t=(.next (crowd dr w' sl'),t')/\dr.size=gs.size/\dr[0]?=Gn a'/\Fin a' w'/\FS w'/\Leavers P t' dr q'/\Xv t'
theorem lU.step{gs dr:Array zn}{w w':En}{sl sl':Option (Nat×Nat)}{t ops:Trace}(h:stepT P (crowd gs w sl)=(.next (crowd dr w' sl'),ops))(hs:dr.size=gs.size)(hr:lU P Fin FS dr w' sl' (t++ops)):lU P Fin FS gs w sl t:=by
 obtain⟨N,gs2,a2,w2,XZ,t2,q2,h1,h2,h3⟩:=hr;exact⟨N+1,gs2,a2,w2,XZ,t2,q2,by simp only[runNT,h];exact h1,h2.trans hs,h3⟩
def VQ(P:Ym)(c:Nat)(a:zn):Prop:=∀g g' w' s r tm,w'.heap[c]?=Gn (.chan 0 #[] Tm s r tm)->woken P g g' w' a=a
theorem Tq{a:zn}(h:a.status=.running):VQ P c a:=fun _ _ _ _ _ _ _=>woken_running h
theorem gJ(g:zn)(z:Dn)(sh:CommShape):VQ P c (parked g #[rcase c z] sh):=fun _ _ _ _ _ _ h=>woken_recv_open _ _ h
theorem hJ(g:zn)(v z:Dn)(sh:CommShape):VQ P c (parked g #[scase c v z] sh):=fun _ _ _ _ _ _ h=>woken_send_open _ _ h
theorem Vp{g:Nat}{fn:FuncId}{pos:String}{es:Array Event}:∀op∈MemOp.ofEvents g fn pos es,op.g=g:=fun op ep=>by obtain⟨e,_,rfl⟩:=Go.Conc.mem_ofEvents ep;rfl
theorem vy.slip(U:Uw c R0 R1 D0 D1 SL ML FS){gs:Array zn}{w:En}{t:Trace}{q:Nat->Nat}{a b g:zn}{i d:Nat}{sl:Option (Nat×Nat)}(h:vy P c k SL ML gs w t q)(ha:gs[0]?=Gn a)(hb:gs[k]?=Gn b)(fa:VQ P c a)(fb:VQ P c b)
  (hi:gs[i]?=Gn g)(hg:g.status=.running)(AE:i≠0)(xy:i≠k):
  ∃dr ops q',runT P (crowd gs (w.at d) sl) i=(.next (crowd dr (w.at d) sl),ops)/\dr.size=gs.size/\dr[0]?=Gn a/\dr[k]?=Gn b/\vy P c k SL ML dr (w.at d) (t++ops) q'/\sumTo dr.size q'<sumTo gs.size q:=by
 obtain⟨s,r,tm,hc⟩:=h.chan;have hq:=h.rest i g AE xy hi;refine dm fun yo=>?_;have l80:(i==0)=false:=by simp;omega
 cases KY:q i with
 |zero=>rw[KY]at hq;rw[hq.1]at hg;cases hg
 |succ m=>
  rw[KY]at hq;rcases hq with⟨hf,_⟩|⟨_,g',es,hm,PY,tX⟩
  ·rw[hf]at hg;cases hg
  have Pv:=runT_crowd_go (P:=P) (sl:=sl) (i:=i) hi (by rw[l80];exact PY (w.at d));have ju:((gs.map (woken P g g' (w.at d))).setIfInBounds i g').size=gs.size:=P0;have Pb0:sumTo gs.size (upd q i m)+(m+1)=sumTo gs.size q+m:=by
   have:=sumTo_upd q m id yo;simpa[KY]using this
  have zE:(w.at d).heap[c]?=Gn (.chan 0 #[] Tm s r tm):=hc;have mutes:∀op∈MemOp.ofEvents i g.frame.fn g.frame.place es,op.act.touch?=none:=fun op ep=>by obtain⟨e,he,rfl⟩:=Go.Conc.mem_ofEvents ep;exact touch_mute (hm e he)
  refine⟨_,_,upd q i m,Pv,ju,?_,?_,⟨h.k0,⟨s,r,tm,zE⟩,fun j x gG iG hx=>?_,fun j hj=>?_,?_⟩,by rw[ju];omega⟩
  ·rw[Cm AE,Array.getElem?_map,ha];simp[fa _ _ _ _ _ _ zE]
  ·rw[Cm xy,Array.getElem?_map,hb];simp[fb _ _ _ _ _ _ zE]
  ·by_cases gy:i=j
   ·exact zb
   ·rw[Cm gy,Array.getElem?_map]at hx;obtain⟨y,hy,rfl⟩:=Option.map_eq_some_iff.1 hx;have pK:=h.rest j y gG iG hy;exact Ye
  ·rw[Deaf_other t (g':=i) D3 _ Vp];exact h.above j E2
  ·exact(h.past.mutes mutes (Deaf_other t AE _ Vp) (Deaf_other t xy _ Vp)).mono (fun x=>U.s0 _ _ x (U.kH w d)) (fun x=>U.m0 _ _ x (U.kH w d))
theorem vy.tP(U:Uw c R0 R1 D0 D1 SL ML FS){gs:Array zn}{w w':En}{t:Trace}{q:Nat->Nat}{a a' b:zn}{d:Nat}{sl:Option (Nat×Nat)}{es:Array Event}(h:vy P c k SL ML gs w t q)(ha:gs[0]?=Gn a)(hb:gs[k]?=Gn b)(fb:VQ P c b)
  (XH:stepG P Um a (w.at d)=.go a' w' es)(hD:D0 (w.at d) w' es):
  ∃dr ops,runT P (crowd gs (w.at d) sl) 0=(.next (crowd dr w' sl),ops)/\dr.size=gs.size/\dr[0]?=Gn a'/\dr[k]?=Gn b/\vy P c k SL ML dr w' (t++ops) q:=by
 obtain⟨s,r,tm,hc⟩:=h.chan;have zE:w'.heap[c]?=Gn (.chan 0 #[] Tm s r tm):=(U.c0 _ _ _ hD).trans hc;refine pg fun yo=>?_;have Pv:=runT_crowd_go (P:=P) (sl:=sl) (i:=0) ha (show stepG P (0==0) a (w.at d)=_ from XH);have hr:R1 w w':=U.t1 _ _ _ (U.gR w d) (U.d01 _ _ _ hD);refine⟨_,_,Pv,P0,by simp[yo],?_,⟨h.k0,⟨s,r,tm,zE⟩,fun j x gG iG hx=>?_,fun j hj=>?_,?_⟩⟩
 ·rw[Cm (Ne.symm h.k0),Array.getElem?_map,hb];simp[fb _ _ _ _ _ _ zE]
 ·rw[Cm (Ne.symm gG),Array.getElem?_map]at hx;obtain⟨y,hy,rfl⟩:=Option.map_eq_some_iff.1 hx;have pK:=h.rest j y gG iG hy;exact Qk
 ·rw[Deaf_other t (g':=0) D3 _ Vp];exact h.above j E2
 ·exact(h.past.mono (fun x=>U.s1 _ _ x hr) (fun x=>U.m1 _ _ x hr)).tP h.k0 (U.ap w') (fun e he=>(U.e0 _ _ _ hD e he).1) (fun e he=>(U.e0 _ _ _ hD e he).2)
theorem vy.rL(U:Uw c R0 R1 D0 D1 SL ML FS){gs:Array zn}{w w':En}{t:Trace}{q:Nat->Nat}{a b b':zn}{d:Nat}{sl:Option (Nat×Nat)}{es:Array Event}(h:vy P c k SL ML gs w t q)(ha:gs[0]?=Gn a)(hb:gs[k]?=Gn b)(fa:VQ P c a)
  (XH:stepG P Tm b (w.at d)=.go b' w' es)(hD:D1 (w.at d) w' es):
  ∃dr ops,runT P (crowd gs (w.at d) sl) k=(.next (crowd dr w' sl),ops)/\dr.size=gs.size/\dr[0]?=Gn a/\dr[k]?=Gn b'/\vy P c k SL ML dr w' (t++ops) q:=by
 obtain⟨s,r,tm,hc⟩:=h.chan;have zE:w'.heap[c]?=Gn (.chan 0 #[] Tm s r tm):=(U.c1 _ _ _ hD).trans hc;have yo:k<gs.size:=(Array.getElem?_eq_some_iff.1 hb).1;have TC:(k==0)=false:=by have:=h.k0;simp;omega
 have Pv:=runT_crowd_go (P:=P) (sl:=sl) (i:=k) hb (by rw[TC];exact XH);have hr:R0 w w':=U.t0 _ _ _ (U.kH w d) (U.d10 _ _ _ hD);refine⟨_,_,Pv,P0,?_,?_,⟨h.k0,⟨s,r,tm,zE⟩,fun j x gG iG hx=>?_,fun j hj=>?_,?_⟩⟩
 ·rw[Cm h.k0,Array.getElem?_map,ha];simp[fa _ _ _ _ _ _ zE]
 ·rw[Array.getElem?_setIfInBounds_self_of_lt Z4]
 ·rw[Cm (Ne.symm iG),Array.getElem?_map]at hx;obtain⟨y,hy,rfl⟩:=Option.map_eq_some_iff.1 hx;have pK:=h.rest j y gG iG hy;rw[woken_quitsD pK,Deaf_other t (Ne.symm iG) _ Vp];exact pK
 ·rw[Deaf_other t (g':=k) D3 _ Vp];exact h.above j E2
 ·exact(h.past.mono (fun x=>U.s0 _ _ x hr) (fun x=>U.m0 _ _ x hr)).lc0 h.k0 (U.ap w') (fun e he=>(U.e1 _ _ _ hD e he).1) (fun e he=>(U.e1 _ _ _ hD e he).2)
end
section
variable {P:Ym}{c k:Nat}{z:Dn}{R0 R1:En->En->Prop}{D0 D1:En->En->Array Event->Prop}{SL ML:En->Touch->Prop}{FS:En->Prop}{Fin:zn->En->Prop}
 {gs:Array zn}{w:En}{t:Trace}{q:Nat->Nat}{a b:zn}{d:Nat}{sl:Option (Nat×Nat)}{es:Array Event}
theorem Sv{g:zn}{n m:Nat}(h:QuitsD P n m g):g.status≠.blocked:=by
 rcases h.status with e|e<;>rw[e]<;>simp
theorem vy.X20(h:vy P c k SL ML gs w t q)(hb:gs[k]?=Gn b)(hnb:b.status≠.blocked)(send:Bool):partners (gs.setIfInBounds 0 ph) c send=[]:=partners_nil fun j g hj=>by
 rcases getElem?_stand gs 0 j g hj with⟨_,rfl⟩|⟨gG,kz⟩
 ·exact offersAt_ph _ _
 ·by_cases iG:j=k
  ·subst iG;rw[hb]at kz;cases kz;exact offersAt_of_not_blocked hnb _ _
  ·exact Zj
theorem vy.Y20(h:vy P c k SL ML gs w t q)(ha:gs[0]?=Gn a)(hna:a.status≠.blocked)(send:Bool):partners (gs.setIfInBounds k ph) c send=[]:=partners_nil fun j g hj=>by
 rcases getElem?_stand gs k j g hj with⟨_,rfl⟩|⟨iG,kz⟩
 ·exact offersAt_ph _ _
 ·by_cases gG:j=0
  ·subst gG;rw[ha]at kz;cases kz;exact offersAt_of_not_blocked hna _ _
  ·exact Zj
theorem vy.l90{g₂:zn}{v z':Dn}{sh:CommShape}(h:vy P c k SL ML gs w t q)(hb:gs[k]?=Gn (parked g₂ #[scase c v z'] sh)):partners (gs.setIfInBounds 0 ph) c Um=[(k,0)]:=by
 have hk:=h.k0;rw[partners_one (j:=k) (stand_get hk hb) fun j g iG hj=>by
  rcases getElem?_stand gs 0 j g hj with⟨_,rfl⟩|⟨gG,kz⟩
  ·exact offersAt_ph _ _
  ·exact offersAt_of_not_blocked (Sv (h.rest j g gG iG kz)) _ _]
 rw[offersAt_parked_send];simp
theorem vy.m90{g₂:zn}{z':Dn}{sh:CommShape}(h:vy P c k SL ML gs w t q)(ha:gs[0]?=Gn (parked g₂ #[rcase c z'] sh)):partners (gs.setIfInBounds k ph) c Tm=[(0,0)]:=by
 have hk:=h.k0;rw[partners_one (j:=0) (stand_get (Ne.symm hk) ha) fun j g gG hj=>by
  rcases getElem?_stand gs k j g hj with⟨_,rfl⟩|⟨iG,kz⟩
  ·exact offersAt_ph _ _
  ·exact offersAt_of_not_blocked (Sv (h.rest j g gG iG kz)) _ _]
 rw[offersAt_parked_recv];simp
theorem vy.put(h:vy P c k SL ML gs w t q){w':En}{ops:Trace}{dr:Array zn}(hs:dr.size=gs.size)(ho:∀j,j≠0->j≠k->dr[j]?=gs[j]?)(hc:∃s r tm,w'.heap[c]?=Gn (.chan 0 #[] Tm s r tm))
  (hd:∀j,j≠0->j≠k->Deaf (t++ops) j=Deaf t j)(hp:Ey k (SL w') (ML w') (t++ops)):vy P c k SL ML dr w' (t++ops) q:=
 ⟨h.k0,hc,fun j x gG iG hx=>by rw[ho j gG iG]at hx;rw[hd j gG iG];exact h.rest j x gG iG hx,fun j hj=>by
  by_cases gG:j=0
  ·subst gG;exact hp.h0
  ·by_cases iG:j=k
   ·subst iG;exact hp.hk
   ·rw[hd j gG iG];exact h.above j E0,hp⟩
theorem JE{t u v:Trace}{j g:Nat}(hu:∀op∈u,op.g=g)(hj:g≠j)(hv:∀op∈v,∀d,deafStep j d op=d):Deaf (t++(u++v)) j=Deaf t j:=by
 rw[<-Array.append_assoc,Deaf_quiet hv,Deaf_other t hj _ hu]
section
variable (U:Uw c R0 R1 D0 D1 SL ML FS)
include U
theorem vy.vl0(h:vy P c k SL ML gs w t q)(ha:gs[0]?=Gn a)(hb:gs[k]?=Gn b)(hnb:b.status≠.blocked)(Ht:stepG P Um a (w.at d)=.comm (core a) #[rcase c z] Um (.recv Um) (w.at d) es)
  (Eu:∀e∈es,yv e/\∀x,(MemAct.ofEvent e).touch?=Gn x->x.loc.isMemory=Um->ML (w.at d) x):
  ∃dr ops,runT P (crowd gs (w.at d) sl) 0=(.next (crowd dr (w.at d) sl),ops)/\dr.size=gs.size/\dr[0]?=Gn (parked (core a) #[rcase c z] (.recv Um))/\dr[k]?=Gn b/\vy P c k SL ML dr (w.at d) (t++ops) q:=by
 obtain⟨s,r,tm,hc⟩:=h.chan;have zE:(w.at d).heap[c]?=Gn (.chan 0 #[] Tm s r tm):=hc;refine pg fun yo=>?_;have hr:=crowd_waits (P:=P) (sl:=sl) (i:=0) ha (show stepG P (0==0) a (w.at d)=_ from Ht) (fun cc W_=>by
  simp only[List.mem_toArray,List.mem_cons,List.not_mem_nil,or_false]at W_;subst W_;exact ways_recv_none zE (h.X20 hb hnb Um))
 refine⟨_,_,hr,P0,by simp[yo],by rw[Cm (Ne.symm h.k0)];exact hb,h.put P0 (fun j hj _=>Cm (Ne.symm hj)) ⟨s,r,tm,zE⟩ (fun j hj _=>Deaf_other t (Ne.symm hj) _ Vp) ?_⟩;exact(h.past.mono (fun x=>U.s0 _ _ x (U.kH w d)) (fun x=>U.m0 _ _ x (U.kH w d))).tP h.k0 (U.ap _) (fun e he=>(Eu e he).1) (fun e he=>(Eu e he).2)
theorem vy.wl0{b₂:zn}{v z':Dn}(h:vy P c k SL ML gs w t q)(ha:gs[0]?=Gn a)(hb:gs[k]?=Gn b)(hna:a.status≠.blocked)(Ht:stepG P Tm b (w.at d)=.comm b₂ #[scase c v z'] Um .send (w.at d) es)
  (Eu:∀e∈es,yv e/\∀x,(MemAct.ofEvent e).touch?=Gn x->x.loc.isMemory=Um->SL (w.at d) x):
  ∃dr ops,runT P (crowd gs (w.at d) sl) k=(.next (crowd dr (w.at d) sl),ops)/\dr.size=gs.size/\dr[0]?=Gn a/\dr[k]?=Gn (parked b₂ #[scase c v z'] .send)/\vy P c k SL ML dr (w.at d) (t++ops) q:=by
 obtain⟨s,r,tm,hc⟩:=h.chan;have zE:(w.at d).heap[c]?=Gn (.chan 0 #[] Tm s r tm):=hc;have yo:k<gs.size:=(Array.getElem?_eq_some_iff.1 hb).1;have TC:(k==0)=false:=by have:=h.k0;simp;omega
 have hr:=crowd_waits (P:=P) (sl:=sl) (i:=k) hb (by rw[TC];exact Ht) (fun cc W_=>by
  simp only[List.mem_toArray,List.mem_cons,List.not_mem_nil,or_false]at W_;subst W_;exact ways_send_none zE P0 (h.Y20 ha hna Tm))
 refine⟨_,_,hr,P0,by rw[Cm h.k0];exact ha,by rw[Array.getElem?_setIfInBounds_self_of_lt yo],h.put P0 (fun j _ hj=>Cm (Ne.symm hj)) ⟨s,r,tm,zE⟩ (fun j _ hj=>Deaf_other t (Ne.symm hj) _ Vp) ?_⟩;exact(h.past.mono (fun x=>U.s0 _ _ x (U.kH w d)) (fun x=>U.m0 _ _ x (U.kH w d))).lc0 h.k0 (U.ap _) (fun e he=>(Eu e he).1) (fun e he=>(Eu e he).2)
theorem vy.Sk0{b₂:zn}{v z':Dn}(h:vy P c k SL ML gs w t q)(ha:gs[0]?=Gn a)(hb:gs[k]?=Gn (parked b₂ #[scase c v z'] .send))(Ht:stepG P Um a (w.at d)=.comm (core a) #[rcase c z] Um (.recv Um) (w.at d) es)
  (Eu:∀e∈es,yv e/\∀x,(MemAct.ofEvent e).touch?=Gn x->x.loc.isMemory=Um->ML (w.at d) x):
  ∃dr w' ops,runT P (crowd gs (w.at d) sl) 0=(.next (crowd dr w' sl),ops)/\dr.size=gs.size/\dr[0]?=Gn (Go.Conc.served (core a) (.tuple #[v,.bool Um]))/\dr[k]?=Gn (Go.Conc.served b₂ Bn)/\R0 (w.at d) w'/\R1 (w.at d) w'/\vy P c k SL ML dr w' (t++ops) q:=by
 obtain⟨s,r,tm,hc⟩:=h.chan;have zE:(w.at d).heap[c]?=Gn (.chan 0 #[] Tm s r tm):=hc;refine pg fun yo=>?_;have Bf0:k<gs.size:=(Array.getElem?_eq_some_iff.1 hb).1;have hr:=crowd_recv_meets (P:=P) (sl:=sl) (i:=0) ha (show stepG P (0==0) a (w.at d)=_ from Ht) zE h.k0 hb (h.l90 hb);rw[finishComm_send,finishComm_recv]at hr;have W_:c<(w.at d).heap.size:=by
  rcases Nat.lt_or_ge c (w.at d).heap.size with h'|h'
  ·exact h'
  ·rw[Array.getElem?_eq_none h']at zE;cases zE
 refine⟨_,_,_,hr,P0,?_,?_,U.ch0 _ _ _ _ _,U.ch1 _ _ _ _ _,?_⟩
 ·rw[Array.getElem?_setIfInBounds_self_of_lt Z4];rfl
 ·rw[Cm (Ne.symm h.k0),Array.getElem?_setIfInBounds_self_of_lt Bf0]
 ·have hq:∀(j:Nat)(op:MemOp),op∈(#[{g:=k,fn:=b₂.frame.fn,pos:=b₂.frame.place,act:=.send c s},{g:=0,fn:=(core a).frame.fn,pos:=(core a).frame.place,act:=.recv c r 0},{g:=k,fn:=b₂.frame.fn,pos:=b₂.frame.place,act:=.sendDone c s},{g:=0,fn:=(core a).frame.fn,pos:=(core a).frame.place,act:=.recvDone c r}]:Trace)->(op.act.touch?=Hn/\(op.g=0\/op.g=k))/\∀d,deafStep j d op=d:=fun j op ep=>by
   simp only[List.mem_toArray,List.mem_cons,List.not_mem_nil,or_false]at ep;rcases ep with rfl|rfl|rfl|rfl
   ·exact uh
   ·exact vh
   ·exact uh
   ·exact vh
  refine h.put P0 (fun j hj iG=>by rw[Cm (Ne.symm hj),Cm (Ne.symm iG)]) ⟨s+1,r+1,tm,heap_setChan _ c 0 #[] Tm (s+1) (r+1) tm W_⟩ (fun j hj _=>JE Vp (Ne.symm hj) (fun op ep=>(hq j op ep).2)) ?_
  ·rw[<-Array.append_assoc];have h1:=(h.past.mono (fun x=>U.s0 _ _ x (U.kH w d)) (fun x=>U.m0 _ _ x (U.kH w d))).tP (fn:=a.frame.fn) (pos:=a.frame.place) h.k0 (U.ap _) (fun e he=>(Eu e he).1) (fun e he=>(Eu e he).2);exact ae
theorem vy.Tk0{a₂ b₂:zn}{v z':Dn}(h:vy P c k SL ML gs w t q)(ha:gs[0]?=Gn (parked a₂ #[rcase c z] (.recv Um)))(hb:gs[k]?=Gn b)(Ht:stepG P Tm b (w.at d)=.comm b₂ #[scase c v z'] Um .send (w.at d) es)
  (Eu:∀e∈es,yv e/\∀x,(MemAct.ofEvent e).touch?=Gn x->x.loc.isMemory=Um->SL (w.at d) x):
  ∃dr w' ops,runT P (crowd gs (w.at d) sl) k=(.next (crowd dr w' sl),ops)/\dr.size=gs.size/\dr[0]?=Gn (Go.Conc.served a₂ (.tuple #[v,.bool Um]))/\dr[k]?=Gn (Go.Conc.served b₂ Bn)/\R0 (w.at d) w'/\R1 (w.at d) w'/\vy P c k SL ML dr w' (t++ops) q:=by
 obtain⟨s,r,tm,hc⟩:=h.chan;have zE:(w.at d).heap[c]?=Gn (.chan 0 #[] Tm s r tm):=hc;refine pg fun yo=>?_;have Bf0:k<gs.size:=(Array.getElem?_eq_some_iff.1 hb).1;have TC:(k==0)=false:=by have:=h.k0;simp;omega
 have hr:=crowd_send_meets (P:=P) (sl:=sl) (i:=k) hb (by rw[TC];exact Ht) zE (Ne.symm h.k0) ha (h.m90 ha);rw[finishComm_send,finishComm_recv]at hr;have W_:c<(w.at d).heap.size:=by
  rcases Nat.lt_or_ge c (w.at d).heap.size with h'|h'
  ·exact h'
  ·rw[Array.getElem?_eq_none h']at zE;cases zE
 refine⟨_,_,_,hr,P0,?_,?_,U.ch0 _ _ _ _ _,U.ch1 _ _ _ _ _,?_⟩
 ·rw[Cm h.k0,Array.getElem?_setIfInBounds_self_of_lt yo];rfl
 ·rw[Array.getElem?_setIfInBounds_self_of_lt (by simpa using Bf0)]
 ·have hq:∀(j:Nat)(op:MemOp),op∈(#[{g:=k,fn:=b₂.frame.fn,pos:=b₂.frame.place,act:=.send c s},{g:=0,fn:=a₂.frame.fn,pos:=a₂.frame.place,act:=.recv c r 0},{g:=k,fn:=b₂.frame.fn,pos:=b₂.frame.place,act:=.sendDone c s},{g:=0,fn:=a₂.frame.fn,pos:=a₂.frame.place,act:=.recvDone c r}]:Trace)->(op.act.touch?=Hn/\(op.g=0\/op.g=k))/\∀d,deafStep j d op=d:=fun j op ep=>by
   simp only[List.mem_toArray,List.mem_cons,List.not_mem_nil,or_false]at ep;rcases ep with rfl|rfl|rfl|rfl
   ·exact uh
   ·exact vh
   ·exact uh
   ·exact vh
  refine h.put P0 (fun j hj iG=>by rw[Cm (Ne.symm iG),Cm (Ne.symm hj)]) ⟨s+1,r+1,tm,heap_setChan _ c 0 #[] Tm (s+1) (r+1) tm W_⟩ (fun j _ hj=>JE Vp (Ne.symm hj) (fun op ep=>(hq j op ep).2)) ?_
  ·rw[<-Array.append_assoc];have h1:=(h.past.mono (fun x=>U.s0 _ _ x (U.kH w d)) (fun x=>U.m0 _ _ x (U.kH w d))).lc0 (fn:=b.frame.fn) (pos:=b.frame.place) h.k0 (U.ap _) (fun e he=>(Eu e he).1) (fun e he=>(Eu e he).2);exact ae
end
end
section
variable {P:Ym}{c k:Nat}{z:Dn}{R0 R1:En->En->Prop}{D0 D1:En->En->Array Event->Prop}{SL ML:En->Touch->Prop}{FS:En->Prop}{Fin:zn->En->Prop}
structure mO(P:Ym)(c pc:Nat)(SL:En->Touch->Prop)(FS:En->Prop)(gs:Array zn)(w:En)(t:Trace)(q:Nat->Nat):Prop where
 chan:∃s r tm,w.heap[c]?=Gn (.chan 0 #[] Um s r tm)
 rest:∀i g,i≠0->gs[i]?=Gn g->QuitsD P (q i) (Deaf t i) g
 above:∀j,gs.size<=j->Deaf t j=0
 past:PastS c pc (SL w) t
 fs:FS w
def AtShut(P:Ym)(c:Nat)(z:Dn)(R0:En->En->Prop)(ML:En->Touch->Prop)(Fin:zn->En->Prop)(g:zn)(w:En):Prop:=
 ∃g₂ es,stepG P Um g w=.comm g₂ #[rcase c z] Um (.recv Um) w es/\(∀e∈es,yv e/\∀x,(MemAct.ofEvent e).touch?=Gn x->x.loc.isMemory=Um->ML w x)/\∀w₂,R0 w w₂->Fin (Go.Conc.served g₂ (.tuple #[z,.bool Tm])) w₂
theorem jE(U:Uw c R0 R1 D0 D1 SL ML FS)(w:En):R0 w w:=U.kH w w.drawn
theorem zK(U:Uw c R0 R1 D0 D1 SL ML FS)(w:En):R1 w w:=U.gR w w.drawn
theorem mO.V60{pc:Nat}{gs:Array zn}{w:En}{t:Trace}{q:Nat->Nat}{a:zn}(h:mO P c pc SL FS gs w t q)(ha:gs[0]?=Gn a)(hr:a.status=.running):∀g∈gs,awake g:=by
 intro g hg;obtain⟨i,hi,rfl⟩:=Array.mem_iff_getElem.1 hg;rcases Nat.eq_zero_or_pos i with rfl|mJ
 ·have:gs[0]=a:=by simpa[Bm hi]using ha
  rw[this];exact awake_of (.inl hr)
 ·exact awake_of ((h.rest i _ E0 (Bm hi)).status.elim .inl fun x=>.inr (.inr x))
theorem mO.at(U:Uw c R0 R1 D0 D1 SL ML FS){pc:Nat}{gs:Array zn}{w:En}{t:Trace}{q:Nat->Nat}(h:mO P c pc SL FS gs w t q)(d:Nat):mO P c pc SL FS gs (w.at d) t q:=
 ⟨h.chan,h.rest,h.above,h.past.mono fun x=>U.s0 _ _ x (U.kH w d),U.f1 _ _ (U.gR w d) h.fs⟩
theorem mO.slip{pc:Nat}{gs:Array zn}{w:En}{t:Trace}{q:Nat->Nat}{a g:zn}{i:Nat}{sl:Option (Nat×Nat)}(h:mO P c pc SL FS gs w t q)(ha:gs[0]?=Gn a)(hr:a.status=.running)
  (hi:gs[i]?=Gn g)(hg:g.status=.running)(AE:i≠0):
  ∃dr ops q',runT P (crowd gs w sl) i=(.next (crowd dr w sl),ops)/\dr.size=gs.size/\dr[0]?=Gn a/\mO P c pc SL FS dr w (t++ops) q'/\sumTo dr.size q'<sumTo gs.size q:=by
 have hq:=h.rest i g AE hi;refine dm fun yo=>?_;have l80:(i==0)=false:=by simp;omega
 cases KY:q i with
 |zero=>rw[KY]at hq;rw[hq.1]at hg;cases hg
 |succ m=>
  rw[KY]at hq;rcases hq with⟨hf,_⟩|⟨_,g',es,hm,PY,tX⟩
  ·rw[hf]at hg;cases hg
  refine Gk fun Pv ju=>?_;have Pb0:sumTo gs.size (upd q i m)+(m+1)=sumTo gs.size q+m:=by
   have:=sumTo_upd q m id yo;simpa[KY]using this
  have mutes:∀op∈MemOp.ofEvents i g.frame.fn g.frame.place es,op.act.touch?=none:=fun op ep=>by obtain⟨e,he,rfl⟩:=Go.Conc.mem_ofEvents ep;exact touch_mute (hm e he)
  refine⟨_,_,upd q i m,Pv,ju,?_,⟨h.chan,fun j x gG hx=>?_,fun j hj=>?_,h.past.mutes mutes (Deaf_other t AE _ Vp),h.fs⟩,by rw[ju];omega⟩
  ·exact Ji
  ·by_cases gy:i=j
   ·exact zb
   ·rw[Cm gy,Array.getElem?_map]at hx;obtain⟨y,hy,rfl⟩:=Option.map_eq_some_iff.1 hx;have pK:=h.rest j y gG hy;exact Ye
  ·rw[Deaf_other t (g':=i) D3 _ Vp];exact h.above j E2
theorem DW(U:Uw c R0 R1 D0 D1 SL ML FS){pc:Nat}{a:zn}{w:En}(h:Pn P Um R0 D0 (AtShut P c z R0 ML Fin) a w):
  ∀(w₁:En)(gs:Array zn)(sl:Option (Nat×Nat))(t:Trace)(q:Nat->Nat),R0 w w₁->gs[0]?=Gn a->mO P c pc SL FS gs w₁ t q->lU P Fin FS gs w₁ sl t:=by
 induction h with
 | @stop a w hs h=>
  intro w₁ gs sl t q;generalize hM:sumTo gs.size q=M;induction M using Nat.strongRecOn generalizing w₁ gs sl t q with
  |_ M ihM=>
   intro hR ha hC;obtain⟨i,g,d,sl',hi,hg,Ht⟩:=crowd_pick (P:=P) (w:=w₁) (sl:=sl) (hC.V60 ha hs) ⟨0,_,ha,hs⟩;have WR:=hC.at U d;have lH:R0 w (w₁.at d):=U.t0 _ _ _ hR (U.kH _ d);by_cases AE:i=0
   ·subst AE;obtain rfl:g=a:=by rw[ha]at hi;exact Jh
    obtain⟨g₂,es,h1,h2,h3⟩:=h _ lH;obtain⟨s,r,tm,hc⟩:=WR.chan;refine pg fun yo=>?_;have hp:partners (gs.setIfInBounds 0 ph) c Um=[]:=partners_nil fun j x hj=>by
     rcases getElem?_stand gs 0 j x hj with⟨_,rfl⟩|⟨gG,kz⟩
     ·exact offersAt_ph _ _
     ·exact offersAt_of_not_blocked (Sv (hC.rest j x gG kz)) _ _
    have Pv:=crowd_recv_closed (P:=P) (sl:=sl') (i:=0) ha (show stepG P (0==0) g (w₁.at d)=_ from h1) hc hp;rw[finishComm_recv]at Pv;have hq:∀(j:Nat)(op:MemOp),op∈(#[{g:=0,fn:=g₂.frame.fn,pos:=g₂.frame.place,act:=.recvClosed c}]:Trace)->∀d,deafStep j d op=d:=fun j op ep=>by
     simp only[List.mem_toArray,List.mem_cons,List.not_mem_nil,or_false]at ep;subst ep;exact fun _=>rfl
    have nk0:=WR.past.tP (fn:=g.frame.fn) (pos:=g.frame.place) (U.ap _) (fun e he=>(h2 e he).1) (fun e he=>(h2 e he).2);refine lU.step (Ht.trans Pv) P0 ⟨0,_,_,_,_,_,q,rfl,rfl,by rw[Array.getElem?_setIfInBounds_self_of_lt yo];rfl,h3 _ (jE U _),WR.fs,⟨fun j x hj hx=>?_,fun j hj=>?_⟩,?_⟩
    ·rw[Cm E0]at hx;rw[JE Vp E0 (hq j)];exact WR.rest j x E0 hx
    ·have kz:gs.size<=j:=by simpa using hj
     rw[JE Vp E0 (hq j)];exact WR.above j kz
    ·rw[<-Array.append_assoc];exact nk0.take _ _
   ·exact Bf
 | @step a w nx hs h1 h2 ih=>
  intro w₁ gs sl t q;generalize hM:sumTo gs.size q=M;induction M using Nat.strongRecOn generalizing w₁ gs sl t q with
  |_ M ihM=>
   intro hR ha hC;obtain⟨i,g,d,sl',hi,hg,Ht⟩:=crowd_pick (P:=P) (w:=w₁) (sl:=sl) (hC.V60 ha hs) ⟨0,_,ha,hs⟩;have WR:=hC.at U d;have lH:R0 w (w₁.at d):=U.t0 _ _ _ hR (U.kH _ d);by_cases AE:i=0
   ·subst AE;obtain rfl:g=a:=by rw[ha]at hi;exact Jh
    obtain⟨XH,hD⟩:=h1 _ lH;obtain⟨s,r,tm,hc⟩:=WR.chan;refine pg fun yo=>?_;have Pv:=runT_crowd_go (P:=P) (sl:=sl') (i:=0) ha (show stepG P (0==0) g (w₁.at d)=_ from XH);have hr1:=U.d01 _ _ _ hD;refine lU.step (Ht.trans Pv) P0 (ih _ lH _ _ sl' _ q (jE U _) (by simp[yo]) ⟨⟨s,r,tm,(U.c0 _ _ _ hD).trans hc⟩,fun j x gG hx=>?_,fun j hj=>?_,?_,U.f1 _ _ hr1 WR.fs⟩)
    ·rw[Cm (Ne.symm gG),Array.getElem?_map]at hx;obtain⟨y,hy,rfl⟩:=Option.map_eq_some_iff.1 hx;have pK:=WR.rest j y gG hy;exact Qk
    ·rw[Deaf_other t (g':=0) D3 _ Vp];exact WR.above j E2
    ·exact(WR.past.mono fun x=>U.s1 _ _ x hr1).tP (U.ap _) (fun e he=>(U.e0 _ _ _ hD e he).1) (fun e he=>(U.e0 _ _ _ hD e he).2)
   ·exact Bf
theorem vy.close(U:Uw c R0 R1 D0 D1 SL ML FS){gs:Array zn}{w:En}{t:Trace}{q:Nat->Nat}{a b:zn}{sl:Option (Nat×Nat)}(h:vy P c k SL ML gs w t q)(ha:gs[0]?=Gn a)(hb:gs[k]?=Gn b)(hB:rH P c FS b w):
  ∃pc dr w' ops q' g₂,runT P (crowd gs w sl) k=(.next (crowd dr w' sl),ops)/\dr.size=gs.size/\dr[0]?=Gn (woken P b g₂ w' a)/\mayWake P b=Um/\(g₂.status=.running\/g₂.status=.finished)/\R0 w w'/\mO P c pc SL FS dr w' (t++ops) q':=by
 obtain⟨hmw,hfs,g₂,n,hQ,Ht⟩:=hB;obtain⟨s,r,tm,hc⟩:=h.chan;have W_:c<w.heap.size:=(Array.getElem?_eq_some_iff.1 hc).1;have yo:k<gs.size:=(Array.getElem?_eq_some_iff.1 hb).1;have TC:(k==0)=false:=by have:=h.k0;simp;omega
 have Pv:=runT_crowd_go (P:=P) (sl:=sl) (i:=k) hb (by rw[TC];exact Ht s r tm hc);have S_:=U.ch0 w Um s r tm;have yE:=U.ch1 w Um s r tm;have hd:deafBehind 0 (closeEvents c)=0:=rfl;refine⟨t.size+1,_,_,_,upd q k n,g₂,Pv,P0,?_,hmw,hQ.status,S_,⟨s,r,tm,heap_setChan _ c 0 #[] Um s r tm W_⟩,fun j x gG hx=>?_,fun j hj=>?_,?_,U.f1 _ _ yE hfs⟩
 ·rw[Cm h.k0,Array.getElem?_map,ha];rfl
 ·by_cases gy:k=j
  ·subst gy;rw[Array.getElem?_setIfInBounds_self_of_lt Z4]at hx;obtain rfl:=Option.some.inj hx;rw[upd_same,Deaf_own,h.past.hk,hd];exact hQ
  ·rw[Cm gy,Array.getElem?_map]at hx;obtain⟨y,hy,rfl⟩:=Option.map_eq_some_iff.1 hx;have pK:=h.rest j y gG (Ne.symm gy) hy;rw[woken_quitsD pK,upd_ne q n (Ne.symm gy),Deaf_other t gy _ Vp];exact pK
 ·rw[Deaf_other t (g':=k) D3 _ Vp];exact h.above j E2
 ·exact(h.past.shut h.k0 (U.ap w) _ _ c (U.sc w)).mono fun x=>U.s0 _ _ x S_
theorem vy.at(U:Uw c R0 R1 D0 D1 SL ML FS){gs:Array zn}{w:En}{t:Trace}{q:Nat->Nat}(h:vy P c k SL ML gs w t q)(d:Nat):vy P c k SL ML gs (w.at d) t q:=
 ⟨h.k0,h.chan,h.rest,h.above,h.past.mono (fun x=>U.s0 _ _ x (U.kH w d)) (fun x=>U.m0 _ _ x (U.kH w d))⟩
def K60(P:Ym)(Fin:zn->En->Prop)(FS:En->Prop)(gs:Array zn)(w:En)(sl:Option (Nat×Nat))(t:Trace)(i:Nat):Prop:=
 ∃dr w' sl' ops,runT P (crowd gs w sl) i=(.next (crowd dr w' sl'),ops)/\dr.size=gs.size/\lU P Fin FS dr w' sl' (t++ops)
theorem vy.pick(U:Uw c R0 R1 D0 D1 SL ML FS){a b:zn}{w:En}(fa:VQ P c a)(fb:VQ P c b)(aa:awake a)(ab:awake b)(run:a.status=.running\/b.status=.running)
  (H0:a.status=.running->∀d gs sl t q,gs[0]?=Gn a->gs[k]?=Gn b->vy P c k SL ML gs (w.at d) t q->K60 P Fin FS gs (w.at d) sl t 0)
  (Hk:b.status=.running->∀d gs sl t q,gs[0]?=Gn a->gs[k]?=Gn b->vy P c k SL ML gs (w.at d) t q->K60 P Fin FS gs (w.at d) sl t k)
  (gs:Array zn)(sl:Option (Nat×Nat))(t:Trace)(q:Nat->Nat)(ha:gs[0]?=Gn a)(hb:gs[k]?=Gn b)(h:vy P c k SL ML gs w t q):lU P Fin FS gs w sl t:=by
 suffices main:∀M d gs sl t q,sumTo gs.size q=M->gs[0]?=Gn a->gs[k]?=Gn b->vy P c k SL ML gs (w.at d) t q->lU P Fin FS gs (w.at d) sl t from main _ w.drawn gs sl t q rfl ha hb h
 intro M;induction M using Nat.strongRecOn with
 |_ M ihM=>
  intro d gs sl t q hM ha hb h;have haw:∀g∈gs,awake g:=by
   intro g hg;obtain⟨i,hi,rfl⟩:=Array.mem_iff_getElem.1 hg;by_cases h0:i=0
   ·subst h0;have:gs[0]=a:=by simpa[Bm hi]using ha
    rw[this];exact aa
   ·by_cases hk:i=k
    ·subst hk;have:gs[i]=b:=by simpa[Bm hi]using hb
     rw[this];exact ab
    ·exact awake_of ((h.rest i _ h0 hk (Bm hi)).status.elim .inl fun x=>.inr (.inr x))
  obtain⟨i,g,d',sl',hi,hg,Ht⟩:=crowd_pick (P:=P) (w:=w.at d) (sl:=sl) haw (run.elim (fun x=>⟨0,a,ha,x⟩) fun x=>⟨k,b,hb,x⟩);have h':vy P c k SL ML gs (w.at d') t q:=h.at U d';by_cases AE:i=0
  ·subst AE;obtain rfl:g=a:=by rw[ha]at hi;exact Jh
   obtain⟨dr,w',P90,ops,h1,h2,h3⟩:=H0 hg d' gs sl' t q ha hb h';exact lU.step (Ht.trans h1) h2 h3
  ·by_cases xy:i=k
   ·subst xy;obtain rfl:g=b:=by rw[hb]at hi;exact Jh
    obtain⟨dr,w',P90,ops,h1,h2,h3⟩:=Hk hg d' gs sl' t q ha hb h';exact lU.step (Ht.trans h1) h2 h3
   ·obtain⟨dr,ops,q',h1,h2,h3,h4,h5,h6⟩:=h.slip (d:=d') (sl:=sl') U ha hb fa fb hi hg AE xy;exact lU.step (Ht.trans h1) h2 (ihM _ E0 d' dr sl' (t++ops) q' rfl h3 h4 h5)
end
section
variable {P:Ym}{c k:Nat}{z:Dn}{R0 R1:En->En->Prop}{D0 D1:En->En->Array Event->Prop}{SL ML:En->Touch->Prop}{FS:En->Prop}{Fin:zn->En->Prop}
theorem CW{a:zn}{w:En}(h:Pn P Um R0 D0 (StopA P c z R0 D0 ML Fin []) a w):Pn P Um R0 D0 (AtShut P c z R0 ML Fin) a w:=
 h.mono fun g _ ⟨es,h1,h2,h3⟩=>⟨core g,es,h1,h2,h3⟩
theorem WZ{a:zn}{w:En}(h:∀w₁,R0 w w₁->StopA P c z R0 D0 ML Fin [] a w₁):Pn P Um R0 D0 (AtShut P c z R0 ML Fin) {parked (core a) #[rcase c z] (.recv Um)with status:=.running} w:=
 .stop rfl fun w₁ hr=>by
  obtain⟨es,h1,h2,h3⟩:=h w₁ hr;exact⟨core a,es,(stepG_same rfl rfl rfl w₁).trans h1,h2,h3⟩
theorem vy.closes(U:Uw c R0 R1 D0 D1 SL ML FS){gs:Array zn}{w:En}{t:Trace}{q:Nat->Nat}{a b:zn}{sl:Option (Nat×Nat)}(h:vy P c k SL ML gs w t q)(ha:gs[0]?=Gn a)(hb:gs[k]?=Gn b)(hB:rH P c FS b w)
  (hA:Pn P Um R0 D0 (StopA P c z R0 D0 ML Fin []) a w\/(∃a₀,a=parked (core a₀) #[rcase c z] (.recv Um)/\∀w₁,R0 w w₁->StopA P c z R0 D0 ML Fin [] a₀ w₁)):K60 P Fin FS gs w sl t k:=by
 obtain⟨pc,dr,w',ops,q',g₂,h1,h2,h3,hmw,hs,hR,hC⟩:=h.close (sl:=sl) U ha hb hB;refine⟨dr,w',sl,ops,h1,h2,?_⟩;rcases hA with hA|⟨a₀,rfl,hA⟩
 ·rw[woken_running hA.running]at h3;exact DW U ((CW hA).rely U.t0 hR) w' dr sl (t++ops) q' (jE U w') h3 hC
 ·have hw:woken P b g₂ w' (parked (core a₀) #[rcase c z] (.recv Um))={parked (core a₀) #[rcase c z] (.recv Um)with status:=.running}:=by
   obtain⟨s,r,tm,hc⟩:=hC.chan;unfold woken;rw[if_pos (by rcases hs with e|e<;>simp[hmw,e])];exact again_recv_closed hc
  rw[hw]at h3;exact DW U (WZ fun w₁ hr=>hA w₁ (U.t0 _ _ _ hR hr)) w' dr sl (t++ops) q' (jE U w') h3 hC
def YP(P:Ym)(c k:Nat)(z:Dn)(R0 R1:En->En->Prop)(D0 D1:En->En->Array Event->Prop)(SL ML:En->Touch->Prop)(FS:En->Prop)(Fin:zn->En->Prop)(vs:List Dn):Prop:=
 ∀(a b:zn)(w:En)(gs:Array zn)(sl:Option (Nat×Nat))(t:Trace)(q:Nat->Nat),Pn P Um R0 D0 (StopA P c z R0 D0 ML Fin vs) a w->Pn P Tm R1 D1 (StopB P c R1 D1 SL FS vs) b w->
  gs[0]?=Gn a->gs[k]?=Gn b->vy P c k SL ML gs w t q->lU P Fin FS gs w sl t
theorem BV(U:Uw c R0 R1 D0 D1 SL ML FS){vs:List Dn}(IH:∀v CB,vs=v::CB->YP P c k z R0 R1 D0 D1 SL ML FS Fin CB){a b:zn}{w:En}(hB:Pn P Tm R1 D1 (StopB P c R1 D1 SL FS vs) b w):
  ∀(w₁:En)(gs:Array zn)(sl:Option (Nat×Nat))(t:Trace)(q:Nat->Nat),R1 w w₁->(∀w₂,R0 w₁ w₂->StopA P c z R0 D0 ML Fin vs a w₂)->gs[0]?=Gn (parked (core a) #[rcase c z] (.recv Um))->gs[k]?=Gn b->vy P c k SL ML gs w₁ t q->lU P Fin FS gs w₁ sl t:=by
 induction hB with
 | @stop b w hs h=>
  intro w₁ gs sl t q hR hA ha hb hC;refine vy.pick U (gJ _ _ _) (Tq hs) (awake_of (.inr (.inl rfl))) (awake_of (.inl hs)) (.inr hs) (fun x=>by cases x) (fun _ d gs sl t q ha hb hC=>?_) gs sl t q ha hb hC;have lH:R1 w (w₁.at d):=U.t1 _ _ _ hR (U.gR _ d);have hA':∀w₂,R0 (w₁.at d) w₂->StopA P c z R0 D0 ML Fin vs a w₂:=fun w₂ h₂=>hA w₂ (U.t0 _ _ _ (U.kH _ d) h₂);cases vs with
  |nil=>exact hC.closes U ha hb (h _ lH) (.inr ⟨a,rfl,hA'⟩)
  |cons v vs=>
   obtain⟨b₂,z',es,h1,h2,h3⟩:=h _ lH;obtain⟨es0,m1,m2,m3⟩:=hA' _ (jE U _);obtain⟨dr,w',ops,r1,r2,r3,r4,r5,r6,r7⟩:=hC.Tk0 (d:=d) (sl:=sl) U ha hb h1 h2;exact⟨dr,w',sl,ops,r1,r2,IH v vs rfl _ _ _ _ _ _ _ (m3 _ r5) (h3 _ r6) r3 r4 r7⟩
 | @step b w nx hs h1 h2 ih=>
  intro w₁ gs sl t q hR hA ha hb hC;refine vy.pick U (gJ _ _ _) (Tq hs) (awake_of (.inr (.inl rfl))) (awake_of (.inl hs)) (.inr hs) (fun x=>by cases x) (fun _ d gs sl t q ha hb hC=>?_) gs sl t q ha hb hC;have lH:R1 w (w₁.at d):=U.t1 _ _ _ hR (U.gR _ d);obtain⟨XH,hD⟩:=h1 _ lH;obtain⟨dr,ops,r1,r2,r3,r4,r5⟩:=hC.rL (d:=d) (sl:=sl) U ha hb (gJ _ _ _) XH hD;exact⟨dr,_,sl,ops,r1,r2,ih _ lH _ dr sl (t++ops) q (zK U _) (fun w₂ h₂=>hA w₂ (U.t0 _ _ _ (U.kH _ d) (U.t0 _ _ _ (U.d10 _ _ _ hD) h₂))) r3 r4 r5⟩
theorem bT(U:Uw c R0 R1 D0 D1 SL ML FS){v z':Dn}{vs:List Dn}(IH:YP P c k z R0 R1 D0 D1 SL ML FS Fin vs){a b₂:zn}{w:En}(hA:Pn P Um R0 D0 (StopA P c z R0 D0 ML Fin (v::vs)) a w):
  ∀(w₁:En)(gs:Array zn)(sl:Option (Nat×Nat))(t:Trace)(q:Nat->Nat),R0 w w₁->(∀w₂,R1 w₁ w₂->Pn P Tm R1 D1 (StopB P c R1 D1 SL FS vs) (Go.Conc.served b₂ Bn) w₂)->gs[0]?=Gn a->gs[k]?=Gn (parked b₂ #[scase c v z'] .send)->vy P c k SL ML gs w₁ t q->lU P Fin FS gs w₁ sl t:=by
 induction hA with
 | @stop a w hs h=>
  intro w₁ gs sl t q hR hB ha hb hC;refine vy.pick U (Tq hs) (hJ _ _ _ _) (awake_of (.inl hs)) (awake_of (.inr (.inl rfl))) (.inl hs) (fun _ d gs sl t q ha hb hC=>?_) (fun x=>by cases x) gs sl t q ha hb hC;have lH:R0 w (w₁.at d):=U.t0 _ _ _ hR (U.kH _ d);obtain⟨es,m1,m2,m3⟩:=h _ lH;obtain⟨dr,w',ops,r1,r2,r3,r4,r5,r6,r7⟩:=hC.Sk0 (d:=d) (sl:=sl) U ha hb m1 m2;exact⟨dr,w',sl,ops,r1,r2,IH _ _ _ _ _ _ _ (m3 _ r5) (hB _ (U.t1 _ _ _ (U.gR _ d) r6)) r3 r4 r7⟩
 | @step a w nx hs h1 h2 ih=>
  intro w₁ gs sl t q hR hB ha hb hC;refine vy.pick U (Tq hs) (hJ _ _ _ _) (awake_of (.inl hs)) (awake_of (.inr (.inl rfl))) (.inl hs) (fun _ d gs sl t q ha hb hC=>?_) (fun x=>by cases x) gs sl t q ha hb hC;have lH:R0 w (w₁.at d):=U.t0 _ _ _ hR (U.kH _ d);obtain⟨XH,hD⟩:=h1 _ lH;obtain⟨dr,ops,r1,r2,r3,r4,r5⟩:=hC.tP (d:=d) (sl:=sl) U ha hb (hJ _ _ _ _) XH hD;exact⟨dr,_,sl,ops,r1,r2,ih _ lH _ dr sl (t++ops) q (jE U _) (fun w₂ h₂=>hB w₂ (U.t1 _ _ _ (U.gR _ d) (U.t1 _ _ _ (U.d01 _ _ _ hD) h₂))) r3 r4 r5⟩
theorem xN{g:zn}(h:g.status=.running):g.status≠.blocked:=by rw[h];simp
section
variable (U:Uw c R0 R1 D0 D1 SL ML FS){vs:List Dn}(IH:∀v CB,vs=v::CB->YP P c k z R0 R1 D0 D1 SL ML FS Fin CB)
include U vs IH
theorem xK{a b:zn}{w:En}{gs:Array zn}{sl:Option (Nat×Nat)}{t:Trace}{q:Nat->Nat}
  (hA:Pn P Um R0 D0 (StopA P c z R0 D0 ML Fin vs) a w)(hB:StopB P c R1 D1 SL FS vs b w)(ha:gs[0]?=Gn a)(hb:gs[k]?=Gn b)(hC:vy P c k SL ML gs w t q):K60 P Fin FS gs w sl t k:=by
 cases vs with
 |nil=>exact hC.closes U ha hb hB (.inl hA)
 |cons v vs=>
  obtain⟨b₂,z',es,h1,h2,h3⟩:=hB;obtain⟨dr,ops,r1,r2,r3,r4,r5⟩:=hC.wl0 (d:=w.drawn) (sl:=sl) U ha hb (xN hA.running) h1 h2;exact⟨dr,_,sl,ops,r1,r2,bT U (IH v vs rfl) hA _ dr sl (t++ops) q (jE U _) h3 r3 r4 r5⟩
theorem rN{a b:zn}{w:En}{gs:Array zn}{sl:Option (Nat×Nat)}{t:Trace}{q:Nat->Nat}
  (hA:∀w₂,R0 w w₂->StopA P c z R0 D0 ML Fin vs a w₂)(hB:Pn P Tm R1 D1 (StopB P c R1 D1 SL FS vs) b w)(ha:gs[0]?=Gn a)(hb:gs[k]?=Gn b)(hC:vy P c k SL ML gs w t q):K60 P Fin FS gs w sl t 0:=by
 have Ht:∃es,stepG P Um a w=.comm (core a) #[rcase c z] Um (.recv Um) w es/\∀e∈es,yv e/\∀x,(MemAct.ofEvent e).touch?=Gn x->x.loc.isMemory=Um->ML w x:=by
  have:=hA w (jE U w);cases vs with
  |nil=>exact⟨this.choose,this.choose_spec.1,this.choose_spec.2.1⟩
  |cons v vs=>exact⟨this.choose,this.choose_spec.1,this.choose_spec.2.1⟩
 obtain⟨es,h1,h2⟩:=Ht;obtain⟨dr,ops,r1,r2,r3,r4,r5⟩:=hC.vl0 (d:=w.drawn) (sl:=sl) U ha hb (xN hB.running) h1 h2;exact⟨dr,_,sl,ops,r1,r2,BV U IH hB _ dr sl (t++ops) q (zK U _) hA r3 r4 r5⟩
theorem TV{a:zn}{w:En}(hA:Pn P Um R0 D0 (StopA P c z R0 D0 ML Fin vs) a w):
  ∀{b:zn}{w₁:En},Pn P Tm R1 D1 (StopB P c R1 D1 SL FS vs) b w₁->∀(w₂:En)(gs:Array zn)(sl:Option (Nat×Nat))(t:Trace)(q:Nat->Nat),R1 w₁ w₂->R0 w w₂->gs[0]?=Gn a->gs[k]?=Gn b->vy P c k SL ML gs w₂ t q->lU P Fin FS gs w₂ sl t:=by
 induction hA with
 | @stop a w hs h=>
  intro b w₁ hB;induction hB with
  | @stop b w₁ qK h'=>
   intro w₂ gs sl t q yE S_ ha hb hC;refine vy.pick U (Tq hs) (Tq qK) (awake_of (.inl hs)) (awake_of (.inl qK)) (.inl hs) (fun _ d gs sl t q ha hb hC=>?_) (fun _ d gs sl t q ha hb hC=>?_) gs sl t q ha hb hC
   ·exact rN U IH (fun w₃ h₃=>h w₃ (U.t0 _ _ _ S_ (U.t0 _ _ _ (U.kH _ d) h₃))) (.stop qK fun w₃ h₃=>h' w₃ (U.t1 _ _ _ yE (U.t1 _ _ _ (U.gR _ d) h₃))) ha hb hC
   ·exact xK U IH (.stop hs fun w₃ h₃=>h w₃ (U.t0 _ _ _ S_ (U.t0 _ _ _ (U.kH _ d) h₃))) (h' _ (U.t1 _ _ _ yE (U.gR _ d))) ha hb hC
  | @step b w₁ nx qK h1 h2 ih=>
   intro w₂ gs sl t q yE S_ ha hb hC;have hB:Pn P Tm R1 D1 (StopB P c R1 D1 SL FS vs) b w₁:=.step nx qK h1 h2;refine vy.pick U (Tq hs) (Tq qK) (awake_of (.inl hs)) (awake_of (.inl qK)) (.inl hs) (fun _ d gs sl t q ha hb hC=>?_) (fun _ d gs sl t q ha hb hC=>?_) gs sl t q ha hb hC
   ·exact rN U IH (fun w₃ h₃=>h w₃ (U.t0 _ _ _ S_ (U.t0 _ _ _ (U.kH _ d) h₃))) (hB.rely U.t1 (U.t1 _ _ _ yE (U.gR _ d))) ha hb hC
   ·exact Ub
 | @step a w nx0 hs h01 h02 ih0=>
  intro b w₁ hB;have hA:Pn P Um R0 D0 (StopA P c z R0 D0 ML Fin vs) a w:=.step nx0 hs h01 h02;induction hB with
  | @stop b w₁ qK h'=>
   intro w₂ gs sl t q yE S_ ha hb hC;have hB:Pn P Tm R1 D1 (StopB P c R1 D1 SL FS vs) b w₁:=.stop qK h';refine vy.pick U (Tq hs) (Tq qK) (awake_of (.inl hs)) (awake_of (.inl qK)) (.inl hs) (fun _ d gs sl t q ha hb hC=>?_) (fun _ d gs sl t q ha hb hC=>?_) gs sl t q ha hb hC
   ·exact Nb
   ·exact xK U IH (hA.rely U.t0 (U.t0 _ _ _ S_ (U.kH _ d))) (h' _ (U.t1 _ _ _ yE (U.gR _ d))) ha hb hC
  | @step b w₁ nx qK h1 h2 ih=>
   intro w₂ gs sl t q yE S_ ha hb hC;have hB:Pn P Tm R1 D1 (StopB P c R1 D1 SL FS vs) b w₁:=.step nx qK h1 h2;refine vy.pick U (Tq hs) (Tq qK) (awake_of (.inl hs)) (awake_of (.inl qK)) (.inl hs) (fun _ d gs sl t q ha hb hC=>?_) (fun _ d gs sl t q ha hb hC=>?_) gs sl t q ha hb hC
   ·exact Nb
   ·exact Ub
end
theorem phase(U:Uw c R0 R1 D0 D1 SL ML FS):∀vs,YP P c k z R0 R1 D0 D1 SL ML FS Fin vs
 | []=>fun _ _ w gs sl t q hA hB ha hb hC=>TV U (fun _ _ e=>I3) hA hB w gs sl t q (zK U w) (jE U w) ha hb hC
 |_::vs=>fun _ _ w gs sl t q hA hB ha hb hC=>TV U (fun _ _ e=>by cases e;exact phase U vs) hA hB w gs sl t q (zK U w) (jE U w) ha hb hC
end
end Go.Proofs.YtdoghgnifkgfdaaGreat.Mute
