import Derived.Test.YtdoghgnifkgfdaaGreatP00
import Derived.Test.YtdoghgnifkgfdaaGreatP02
set_option maxRecDepth 100000
set_option maxHeartbeats 16000000
open Option renaming none->Ai,some->yi
open Go renaming World->ui,Value->ti,undef->ri
open Bool renaming true->ji,false->gi
namespace Go.Proofs.YtdoghgnifkgfdaaGreat.Mute
open Tryz Go Go.Conc
structure St where
 fr:Frame
 top:List Frame
 w:ui
inductive Safe(P:Program)(Q:Frame->ui->Prop):Frame->List Frame->ui->Prop
 |stop {fr:Frame} {w:ui}:Q fr w->Safe P Q fr [] w
 |step {fr:Frame} {top:List Frame} {w:ui} (nx:(Nat->Question->Nat)->Nat->St) (ev:(Nat->Question->Nat)->Nat->Array Event) (n:(Nat->Question->Nat)->Nat->Nat) (h1:∀τ d,∀e∈ev τ d,ko e)
   (h2:∀τ d main cs,stepG P main (G fr (top++cs)) (Rj w τ d)=.go (G (nx τ d).fr ((nx τ d).top++cs)) (Rj (nx τ d).w τ (d+n τ d)) (ev τ d))(h3:∀τ d,Safe P Q (nx τ d).fr (nx τ d).top (nx τ d).w):Safe P Q fr top w
theorem Safe.step'{P:Program}{Q:Frame->ui->Prop}{fr:Frame}{top:List Frame}{w:ui} (h:∀τ d,∃Gq sD w' es n,(∀e∈es,ko e)/\
   (∀main cs,stepG P main (G fr (top++cs)) (Rj w τ d)=.go (G Gq (sD++cs)) (Rj w' τ (d+n)) es)/\Safe P Q Gq sD w'):Safe P Q fr top w:=by
 have h':∀τ d,∃x:St×Array Event×Nat,(∀e∈x.2.1,ko e)/\(∀main cs,stepG P main (G fr (top++cs)) (Rj w τ d)=.go (G x.1.fr (x.1.top++cs)) (Rj x.1.w τ (d+x.2.2)) x.2.1)/\Safe P Q x.1.fr x.1.top x.1.w:=fun τ d=>by
  obtain⟨Gq,sD,w',es,n,a,b,c⟩:=h τ d;exact⟨(⟨Gq,sD,w'⟩,es,n),a,b,c⟩
 exact .step (fun τ d=>(Classical.choose (h' τ d)).1) (fun τ d=>(Classical.choose (h' τ d)).2.1) (fun τ d=>(Classical.choose (h' τ d)).2.2) (fun τ d=>(Classical.choose_spec (h' τ d)).1) (fun τ d=>(Classical.choose_spec (h' τ d)).2.1) (fun τ d=>(Classical.choose_spec (h' τ d)).2.2)
def Ol : Frame := { fn := 0, tmps := #[], todo := [.code (.refuse "")], defers := [{ target := .nil, args := #[] }], mode := .run, kind := .normal }
theorem NS{P:Program}(v:ti)(w:ui):∃o w' es,stepG P ji (G (Ol.finish v) []) w=.ended o w' es:=by
 have:Ol.finish v=Ol:=rfl;rw[this];exact Jh
theorem WL{P:Program}(c:List PanicEntry)(w:ui):∃o w' es,stepG P ji (G (Ol.raise c) []) w=.ended o w' es:=⟨_,_,_,rfl⟩
section
variable {P:Program}{A:Ou}{Q:Frame->ui->Prop}
def St.ok(P:Program)(A:Ou)(x:St):Prop:=bp P A x.fr/\Vo P A x.fr.kind x.top
def St.bad(P:Program)(A:Ou)(Q:Frame->ui->Prop)(x:St):Prop:=x.ok P A/\¬Safe P Q x.fr x.top x.w
def St.leaves(x:St):Prop:=x.fr.mode≠.run/\x.fr.defers=[]/\x.top=[]
def St.goes(P:Program)(x y:St)(vals:Nat->Question->Nat)(n:Nat):Prop:=
 ∀τ d,(∀k,k<n->τ (d+k)=vals k)->∀main cs,∃es,stepG P main (G x.fr (x.top++cs)) (Rj x.w τ d)=.go (G y.fr (y.top++cs)) (Rj y.w τ (d+n)) es
def St.ends(P:Program)(x:St)(vals:Nat->Question->Nat)(n:Nat):Prop:=
 ∀τ d,(∀k,k<n->τ (d+k)=vals k)->∀main cs,∃o w' es,stepG P main (G x.fr (x.top++cs)) (Rj x.w τ d)=.ended o w' es
theorem St.Q30(H:Dk P A)(Po:∀g,P.stepOf g=Ai){x:St}(hx:x.bad P A Q)(hl:¬x.leaves):
  ∃vals n,x.ends P vals n\/∃y:St,y.bad P A Q/\x.goes P y vals n:=by
 obtain⟨⟨hf,hs⟩,hns⟩:=hx;have GH:x.fr.mode=.run\/x.fr.defers≠[]\/x.top≠[]:=by
  by_cases h1:x.fr.mode=.run
  ·exact .inl h1
  ·by_cases h2:x.fr.defers=[]
   ·by_cases h3:x.top=[]
    ·exact absurd ⟨h1,h2,h3⟩ hl
    ·exact .inr (.inr h3)
   ·exact .inr (.inl h2)
 have hex:∃τ d,¬∃Gq sD w' es n,(∀e∈es,ko e)/\(∀main cs,stepG P main (G x.fr (x.top++cs)) (Rj x.w τ d)=.go (G Gq (sD++cs)) (Rj w' τ (d+n)) es)/\Safe P Q Gq sD w':=by
  apply Classical.byContradiction;intro qB;refine hns (.step' fun τ d=>?_);apply Classical.byContradiction;intro hh;exact qB ⟨τ,d,hh⟩
 obtain⟨τ₀,d₀,qB⟩:=hex;obtain⟨n,hr⟩:=iE H Po hf hs GH (Rj x.w τ₀ d₀);refine⟨fun k=>τ₀ (d₀+k),n,?_⟩;rcases hr with⟨Gq,sD,w',es,h1,h2,h3,h4,h5,h6⟩|h6
 ·refine .inr ⟨⟨Gq,sD,w'⟩,⟨⟨h1,h2⟩,fun nf0=>qB ⟨Gq,sD,w',es,n,h3,fun main cs=>?_,nf0⟩⟩,fun τ d ha main cs=>⟨es,?_⟩⟩
  ·exact h6 τ₀ d₀ (fun k _=>rfl) main cs
  ·exact h6 τ d ha main cs
 ·exact .inl fun τ d ha main cs=>h6 τ d ha main cs
theorem VK{a b:Frame}{la lb:List Frame}{w w':ui}{es:Array Event}(h:stepG P ji (G a la) w=.go (G b lb) w' es):step P (solo (G a la) w)=.next (solo (G b lb) w'):=step_solo_go rfl h
theorem step_end{a:Frame}{la:List Frame}{w w':ui}{o:Outcome}{es:Array Event}(h:stepG P ji (G a la) w=.ended o w' es):step P (solo (G a la) w)=.ended o w':=by
 have:=step_lone_ended (P:=P) (fr:=a) (cs:=la) (w:=w) (w':=w') (o:=o) (by
  show (stepG P ji (G a la) w).bare=_;rw[h];rfl)
 exact nh
theorem yS(x:St)(hx:x.ok P A)(hl:x.leaves)(τ:Nat->Question->Nat)(d:Nat):(∃o w',step P (solo (G x.fr (x.top++[Ol])) (Rj x.w τ d))=.ended o w')\/
  ∃c w' o jK,step P (solo (G x.fr (x.top++[Ol])) (Rj x.w τ d))=.next (solo (G c []) w')/\step P (solo (G c []) w')=.ended o jK:=by
 obtain⟨hm,hd,ht⟩:=hl;have hk:x.fr.kind=.normal:=by
  have:=hx.2;rw[ht]at this;exact nh
 rw[ht];cases Qw:x.fr.mode with
 |run=>exact absurd Qw hm
 |panicking chain=>
  obtain⟨o,w',es,he⟩:=WL (P:=P) chain (Rj x.w τ d);refine .inr ⟨Ol.raise chain,Rj x.w τ d,o,w',VK (es:=#[]) ?_,step_end he⟩;show stepG P ji (G x.fr [Ol]) _=_;rw[Zl hm];unfold unwind;simp only[hd,Qw,Ut hx.1];rfl
 |returning=>
  obtain⟨fn,hf⟩:=hx.1.fn;have hu:stepG P ji (G x.fr [Ol]) (Rj x.w τ d)=unwind P ji x.fr [Ol] Ai (Rj x.w τ d):=Zl hm _ _ _;cases hr:((results fn x.fr.tmps).runT P (Rj x.w τ d) #[])with
  |mk r es=>
   cases r with
   |ok v w'=>
    obtain⟨o,jK,es',he⟩:=NS (P:=P) v w';refine .inr ⟨Ol.finish v,w',o,jK,VK (es:=seen P x.fr.fn es) ?_,step_end he⟩;show stepG P ji (G x.fr [Ol]) _=_;rw[hu];unfold unwind;simp only[hd,Qw,hf,hr,doReturn,hk,GStep.after];simp[G]
   |halt hh w'=>
    have:∃o,stepG P ji (G x.fr [Ol]) (Rj x.w τ d)=.ended o w' (seen P x.fr.fn es):=by
     rw[hu];unfold unwind;simp only[hd,Qw,hf,hr];cases hh<;>exact⟨_,by simp[GStep.after];rfl⟩
    obtain⟨o,ho⟩:=this;exact .inl ⟨o,w',step_end ho⟩
theorem GK{m:Nat}{x y:Machine}(h:runN P m x=.next y):∀k,runN P (m+k) x=runN P k y:=by
 induction m generalizing x with
 |zero=>intro k;simp only[runN,Stepped.next.injEq]at h;rw[Nat.zero_add,h]
 |succ m ih=>
  intro k;rw[show m+1+k=(m+k)+1 by omega];simp only[runN]at h ⊢;cases hs:step P x with
  |next z=>rw[hs]at h;exact ih h k
  |ended o w=>rw[hs]at h;cases h
theorem PD(p:Nat->Prop):∀N,(∀j,j<N->p j)\/∃j,j<N/\¬p j/\∀i,i<j->p i
 |0=>.inl fun j hj=>absurd hj E0
 |N+1=>by
  rcases PD p N with h|⟨j,hj,h1,h2⟩
  ·by_cases hN:p N
   ·exact .inl fun j hj=>by
     rcases Nat.lt_succ_iff_lt_or_eq.1 hj with h'|rfl
     ·exact h j h'
     ·exact hN
   ·exact .inr ⟨N,E0,hN,h⟩
  ·exact .inr ⟨j,E0,h1,h2⟩
section glue
variable (data:{x:St // x.bad P A Q}->(Nat->Question->Nat)×Nat×Option {x:St // x.bad P A Q})(b₀:{x:St // x.bad P A Q})
def kt:Nat->{x:St // x.bad P A Q}
 |0=>b₀
 |k+1=>((data (kt k)).2.2).getD (kt k)
def eu:Nat->Nat
 |0=>0
 |k+1=>eu k+(data (kt data b₀ k)).2.1
def CW:Nat->Nat->Question->Nat
 |0,_,_=>0
 |k+1,i,q=>if i<eu data b₀ k then CW k i q else (data (kt data b₀ k)).1 (i-eu data b₀ k) q
theorem GV{a b:Nat}(h:a<=b):eu data b₀ a<=eu data b₀ b:=by
 induction h with
 |refl=>exact Nat.le_refl _
 |step _ ih=>exact Nat.le_trans ih (Nat.le_add_right _ _)
theorem jF{k m i:Nat}(hk:i<eu data b₀ k)(hm:k<=m):CW data b₀ m i=CW data b₀ k i:=by
 induction hm with
 |refl=>rfl
 | @step m hm ih=>
  have:i<eu data b₀ m:=Nat.lt_of_lt_of_le hk (GV data b₀ hm);funext q;show (if i<eu data b₀ m then CW data b₀ m i q else _)=_;rw[if_pos this,ih]
theorem y50:∃T:Nat->Question->Nat,∀k j,j<(data (kt data b₀ k)).2.1->T (eu data b₀ k+j)=(data (kt data b₀ k)).1 j:=by
 have key:∀i,∃v:Question->Nat,∀k,i<eu data b₀ k->v=CW data b₀ k i:=fun i=>by
  by_cases h:∃k,i<eu data b₀ k
  ·obtain⟨k₀,hk₀⟩:=h;refine⟨CW data b₀ k₀ i,fun k hk=>?_⟩;rcases Nat.le_total k₀ k with h|h
   ·exact(jF data b₀ hk₀ h).symm
   ·exact jF data b₀ hk h
  ·exact⟨fun _=>0,fun k hk=>absurd ⟨k,hk⟩ h⟩
 refine⟨fun i=>Classical.choose (key i),fun k j hj=>?_⟩;have Wi:eu data b₀ k+j<eu data b₀ (k+1):=by
  show _<eu data b₀ k+(data (kt data b₀ k)).2.1;omega
 refine(Classical.choose_spec (key (eu data b₀ k+j)) (k+1) Wi).trans ?_;funext q;show (if eu data b₀ k+j<eu data b₀ k then _ else _)=_;rw[if_neg E0,show eu data b₀ k+j-eu data b₀ k=j by omega]
end glue
theorem kC(H:Dk P A)(Po:∀g,P.stepOf g=Ai){x:St}(gl:x.ok P A)(QQ:(Nat->Question->Nat)->Frame->ui->Prop)(hQ:∀τ fr w d,QQ τ fr (Rj w τ d)->Q fr w)
  (Kf0:∀τ,∃N Gq w',runN P N (solo (G x.fr (x.top++[Ol])) (Rj x.w τ 0))=.next (solo (G Gq [Ol]) w')/\QQ τ Gq w'):Safe P Q x.fr x.top x.w:=by
 apply Classical.byContradiction;intro hns;have hex:∀b:{x:St // x.bad P A Q},∃r:(Nat->Question->Nat)×Nat×Option {x:St // x.bad P A Q},
   (b.1.leaves/\r.2.2=Ai)\/(b.1.ends P r.1 r.2.1/\r.2.2=Ai)\/∃y,r.2.2=yi y/\b.1.goes P y.1 r.1 r.2.1:=fun b=>by
  by_cases hl:b.1.leaves
  ·exact⟨(fun _ _=>0,0,Ai),.inl ⟨hl,rfl⟩⟩
  ·obtain⟨vals,n,h|⟨y,hy,hg⟩⟩:=St.Q30 H Po b.2 hl
   ·exact⟨(vals,n,Ai),.inr (.inl ⟨h,rfl⟩)⟩
   ·exact⟨(vals,n,yi ⟨y,hy⟩),.inr (.inr ⟨⟨y,hy⟩,rfl,hg⟩)⟩
 let data:{x:St // x.bad P A Q}->(Nat->Question->Nat)×Nat×Option {x:St // x.bad P A Q}:=fun b=>Classical.choose (hex b)
 have N60:∀b,(b.1.leaves/\(data b).2.2=Ai)\/(b.1.ends P (data b).1 (data b).2.1/\(data b).2.2=Ai)\/∃y,(data b).2.2=yi y/\b.1.goes P y.1 (data b).1 (data b).2.1:=fun b=>Classical.choose_spec (hex b)
 let b₀:{x:St // x.bad P A Q}:=⟨x,gl,hns⟩
 obtain ⟨T,hT⟩:=y50 data b₀;obtain ⟨N,Gq,w',hN,hq⟩:=Kf0 T;have zu:∀m,(∀j,j<m->((data (kt data b₀ j)).2.2).isSome=ji)->runN P m (solo (G x.fr (x.top++[Ol])) (Rj x.w T 0))=
   .next (solo (G (kt data b₀ m).1.fr ((kt data b₀ m).1.top++[Ol])) (Rj (kt data b₀ m).1.w T (eu data b₀ m))):=by
  intro m;induction m with
  |zero=>intro _;rfl
  |succ m ih=>
   intro hj;have h0:=ih fun j hjm=>hj j E0;have WU:=hj m E0;rcases N60 (kt data b₀ m)with⟨_,e⟩|⟨_,e⟩|⟨y,hy,hg⟩
   ·rw[e]at WU;cases WU
   ·rw[e]at WU;cases WU
   ·have e1:kt data b₀ (m+1)=y:=by
     show ((data (kt data b₀ m)).2.2).getD _=y;rw[hy];rfl
    obtain⟨es,zn⟩:=hg T (eu data b₀ m) (fun k hk=>hT _ k hk) ji [Ol];have:=GK h0 1;rw[this,e1];simp only[runN,VK zn];rfl
 rcases PD (fun j=>((data (kt data b₀ j)).2.2).isSome=ji) N with Wq|⟨j,hjN,hj,va0⟩
 ·have h1:=zu N Wq;rw[hN]at h1;simp only[Stepped.next.injEq]at h1;have h2:G Gq [Ol]=G (kt data b₀ N).1.fr ((kt data b₀ N).1.top++[Ol]):=by
   have:=congrArg (fun m:Machine=>m.gs[0]?) h1;simpa[solo]using this
  have h3:w'=Rj (kt data b₀ N).1.w T (eu data b₀ N):=congrArg Machine.world h1;have h4:Gq=(kt data b₀ N).1.fr:=congrArg Goroutine.frame h2;have h5:[Ol]=(kt data b₀ N).1.top++[Ol]:=congrArg Goroutine.callers h2;have h6:(kt data b₀ N).1.top=[]:=by
   have:=congrArg List.length h5;simp at this;exact nh
  have Jc0:=(kt data b₀ N).2.2;rw[h3,h4]at hq;apply Jc0;rw[h6];exact .stop (hQ _ _ _ _ hq)
 ·have h0:=zu j va0;have hk:=GK h0 (N-j);rw[show j+(N-j)=N by omega,hN]at hk;obtain⟨r,hr⟩:∃r,N-j=r+1:=⟨N-j-1,E0⟩;rw[hr]at hk;have xP:∀{o w'},step P (solo (G (kt data b₀ j).1.fr ((kt data b₀ j).1.top++[Ol])) (Rj (kt data b₀ j).1.w T (eu data b₀ j)))=.ended o w'->False:=fun he=>by
   simp only[runN,he]at hk;cases hk
  rcases N60 (kt data b₀ j)with⟨hl,_⟩|⟨he,_⟩|⟨y,hy,_⟩
  ·rcases yS _ (kt data b₀ j).2.1 hl T (eu data b₀ j)with⟨o,jK,h⟩|⟨c,w1,o,w2,h1,h2⟩
   ·exact xP h
   ·simp only[runN,h1]at hk;cases r with
    |zero=>
     simp only[runN,Stepped.next.injEq]at hk;have:=congrArg (fun m:Machine=>(m.gs[0]?).map (·.callers)) hk;simp[solo,G]at this
    |succ r=>
     simp only[runN,h2]at hk;cases hk
  ·obtain⟨o,jK,es,h⟩:=he T (eu data b₀ j) (fun k sF=>hT _ k sF) ji [Ol];exact xP (step_end h)
  ·apply hj;rw[hy];rfl
end
open Go.ConcN (sumTo upd sumTo_upd upd_ne upd_same)
structure Uo(t:Trace):Prop where
 clean:∀said,¬Race said t
 known:∀i a,touchAt t i=yi a->a.loc.isMemory=ji->Knows t 0 i
 over:t.HandedOver
 hears:Deaf t 0=0
theorem ZW:Uo #[]:=⟨past_nil.clean,fun i a ha=>by simp[touchAt,Trace.act?]at ha,past_nil.over,rfl⟩
section
variable {P:Program}{t u:Trace}
theorem Uo.app0(h:Uo t)(hu:∀op∈u,op.g=0)(hd:Deaf (t++u) 0=Deaf t 0):Uo (t++u):=by
 refine⟨fun said=>noRace_append (h.clean said) hu fun i a ha op hop b hb hc=>h.known i a ha hc.2.1,fun i a ha hm=>?_,handedOver_app h.over fun op hop=>.inl (hu op hop),hd.trans h.hears⟩;obtain⟨x,hx,hxa⟩:=touch_of ha;rcases getElem?_append_cases hx with⟨_,py⟩|⟨_,ZF⟩
 ·exact(h.known i a D3 hm).app u
 ·have:=knows_own hx;rw[hu x ZF]at this;exact nh
theorem Uo.own(h:Uo t){fn:FuncId}{pos:String}{es:Array Event}(zn:∀e∈es,ko e):Uo (t++MemOp.ofEvents 0 fn pos es):=by
 refine h.app0 (fun op hop=>H5) ?_;rw[Deaf_own];exact Yf
theorem Uo.mute(h:Uo t){g:Nat}(hg:g≠0){fn:FuncId}{pos:String}{es:Array Event}(hm:∀e∈es,e.mute=ji):Uo (t++MemOp.ofEvents g fn pos es):=by
 have hu:∀op∈MemOp.ofEvents g fn pos es,op.g=g:=fun op hop=>by obtain⟨e,_,rfl⟩:=Go.Conc.mem_ofEvents hop;rfl
 have hn:∀op∈MemOp.ofEvents g fn pos es,op.act.touch?=none:=fun op hop=>by obtain⟨e,he,rfl⟩:=Go.Conc.mem_ofEvents hop;exact touch_mute (hm e he)
 refine⟨fun said=>noRace_append (h.clean said) hu fun i a _ op hop b hb _=>(by rw[hn op hop]at hb;cases hb),fun i a ha hma=>?_,handedOver_app h.over fun op hop=>.inr (hn op hop),(Deaf_other t hg _ hu).trans h.hears⟩;obtain⟨x,hx,hxa⟩:=touch_of ha;rcases getElem?_append_cases hx with⟨_,py⟩|⟨_,ZF⟩
 ·exact(h.known i a D3 hma).app _
 ·exact Ye
end
section
variable {P:Program}{Q:Frame->ui->Prop}
theorem rF{fr:Frame}{top:List Frame}{w:ui}(h:Safe P Q fr top w):∀(gs:Array Goroutine)(sl:Option (Nat×Nat))(t:Trace)(q:Nat->Nat)(cs:List Frame)(τ:Nat->Question->Nat)(d:Nat),
  gs[0]?=yi (G fr (top++cs))->Leavers P t gs q->Uo t->
  ∃N yk Gq w' d' sl' t' q',runNT P N (crowd gs (Rj w τ d) sl) t=(.next (crowd yk (Rj w' τ d') sl'),t')/\yk.size=gs.size/\yk[0]?=yi (G Gq cs)/\Q Gq w'/\Leavers P t' yk q'/\Uo t':=by
 induction h with
 |stop hq=>exact fun gs sl t q cs τ d h0 hL hP=>⟨0,gs,_,_,d,sl,t,q,rfl,rfl,h0,hq,hL,hP⟩
 | @step fr top w nx ev n h1 h2 h3 ih=>
  intro gs sl t q cs τ d;have inner:∀(M:Nat) (gs:Array Goroutine) (sl:Option (Nat×Nat)) (t:Trace) (q:Nat->Nat) (d:Nat),sumTo gs.size q=M->gs[0]?=yi (G fr (top++cs))->Leavers P t gs q->Uo t->
    ∃N yk Gq w' d' sl' t' q',runNT P N (crowd gs (Rj w τ d) sl) t=(.next (crowd yk (Rj w' τ d') sl'),t')/\yk.size=gs.size/\yk[0]?=yi (G Gq cs)/\Q Gq w'/\Leavers P t' yk q'/\Uo t':=by
   intro M;induction M using Nat.strongRecOn with
   |_ M ihM=>
    intro gs sl t q d hM h0 hL hP;have zu:(G fr (top++cs)).status=.running:=rfl;have haw:∀g∈gs,awake g:=by
     intro g hg;obtain⟨i,hi,rfl⟩:=Array.mem_iff_getElem.1 hg;rcases Nat.eq_zero_or_pos i with rfl|lJ
     ·have:gs[0]=G fr (top++cs):=by simpa[Array.getElem?_eq_getElem hi]using h0
      rw[this];exact awake_of (.inl zu)
     ·exact awake_of ((hL.old i _ lJ (Array.getElem?_eq_getElem hi)).status.elim .inl fun x=>.inr (.inr x))
    obtain⟨i,g,dd,sl',hi,hg,wm⟩:=crowd_pick (P:=P) (w:=Rj w τ d) (sl:=sl) haw ⟨0,_,h0,zu⟩;have eat:(Rj w τ d).at dd=Rj w τ dd:=rfl;rw[eat]at wm;rcases Nat.eq_zero_or_pos i with rfl|lJ
    ·obtain rfl:g=G fr (top++cs):=by rw[h0]at hi;exact Ug
     have hgo:=h2 τ dd ji cs;have Oo:=runT_crowd_go (P:=P) (sl:=sl') (i:=0) hi (show stepG P (0==0) (G fr (top++cs)) (Rj w τ dd)=_ from hgo);have hsz:((gs.map (woken P (G fr (top++cs)) (G (nx τ dd).fr ((nx τ dd).top++cs)) (Rj (nx τ dd).w τ (dd+n τ dd)))).setIfInBounds 0 (G (nx τ dd).fr ((nx τ dd).top++cs))).size=gs.size:=P0;have Wi:0<gs.size:=(Array.getElem?_eq_some_iff.1 h0).1;obtain⟨N,yk,Gq,w',d',P_,t',q',hr,KE,h0',hS,NW,V_⟩:=ih τ dd ((gs.map (woken P (G fr (top++cs)) (G (nx τ dd).fr ((nx τ dd).top++cs)) (Rj (nx τ dd).w τ (dd+n τ dd)))).setIfInBounds 0 (G (nx τ dd).fr ((nx τ dd).top++cs))) sl' (t++MemOp.ofEvents 0 (G fr (top++cs)).frame.fn (G fr (top++cs)).frame.place (ev τ dd)) q cs τ (dd+n τ dd) (by simp[Wi])
      ⟨fun j x hj hx=>by
       have Jj:0≠j:=E0;rw[Array.getElem?_setIfInBounds_ne Jj,Array.getElem?_map]at hx;obtain⟨y,hy,rfl⟩:=Option.map_eq_some_iff.1 hx;have hq:=hL.old j y hj hy;rw[woken_quitsD hq,Deaf_other t E0 _ (fun op hop=>H5)];exact hq,fun j hj=>by
       rw[Deaf_other t (g':=0) Z2 _ (fun op hop=>H5)];exact hL.above j E2⟩
      (hP.own (h1 τ dd))
     exact⟨N+1,yk,Gq,w',d',P_,t',q',by simp only[runNT,wm,Oo];exact hr,KE.trans hsz,h0',hS,NW,V_⟩
    ·have hq:=hL.old i g lJ hi;have zy:(i==0)=false:=by simp;omega
     have Wi:i<gs.size:=(Array.getElem?_eq_some_iff.1 hi).1;cases TT:q i with
     |zero=>rw[TT]at hq;rw[hq.1]at hg;cases hg
     |succ k=>
      rw[TT]at hq;rcases hq with⟨hf,_⟩|⟨_,g',es,hm,pT,CV⟩
      ·rw[hf]at hg;cases hg
      have Oo:=runT_crowd_go (P:=P) (sl:=sl') (i:=i) hi (by rw[zy];exact pT (Rj w τ dd));have hsz:((gs.map (woken P g g' (Rj w τ dd))).setIfInBounds i g').size=gs.size:=P0;have W50:sumTo gs.size (upd q i k)+(k+1)=sumTo gs.size q+k:=by
       have:=sumTo_upd q k id Wi;simpa[TT]using this
      obtain⟨N,yk,Gq,w',d',P_,t',q',hr,KE,h0',hS,NW,V_⟩:=ihM (sumTo gs.size (upd q i k)) E0 ((gs.map (woken P g g' (Rj w τ dd))).setIfInBounds i g') sl' (t++MemOp.ofEvents i g.frame.fn g.frame.place es) (upd q i k) dd (by rw[hsz])
       (by
        have Jj:i≠0:=E0;rw[Array.getElem?_setIfInBounds_ne Jj,Array.getElem?_map,h0];simp[woken_run zu])
       ⟨fun j x hj hx=>by
        by_cases Yq:i=j
        ·exact ya
        ·rw[Array.getElem?_setIfInBounds_ne Yq,Array.getElem?_map]at hx;obtain⟨y,hy,rfl⟩:=Option.map_eq_some_iff.1 hx;have pF:=hL.old j y hj hy;rw[woken_quitsD pF,upd_ne q k (Ne.symm Yq),Deaf_other t Yq _ (fun op hop=>H5)];exact pF,fun j hj=>by
        rw[Deaf_other t (g':=i) Z2 _ (fun op hop=>H5)];exact hL.above j E2⟩
       (hP.mute E0 hm)
      exact⟨N+1,yk,Gq,w',d',P_,t',q',by simp only[runNT,wm,Oo];exact hr,KE.trans hsz,h0',hS,NW,V_⟩
  exact inner _ gs sl t q d rfl
variable {A:Ou}
theorem yJ(H:Dk P A)(Po:∀g,P.stepOf g=Ai){f:FuncId}{args:Array ti}{w:ui}(hen:vo P A f args)(R:ui->Ending->ui->Prop)
  (hc:∀τ,Calls P f args (Rj w τ 0) (R (Rj w τ 0)))(qB:∀a b,¬R a .outgrown b):
  Safe P (fun fr w'=>∃τ d' e,R (Rj w τ 0) e (Rj w' τ d')/\fr.fn=f/\fr.leaving P (Rj w' τ d') e) (Frame.enter P f args .normal) [] w:=by
 refine kC (x:=⟨Frame.enter P f args .normal,[],w⟩) H Po ⟨hen.frame H (.inl rfl),rfl⟩
  (fun τ Gq w'=>∃e,R (Rj w τ 0) e w'/\Gq.fn=f/\Gq.leaving P w' e) (fun τ fr w' d ⟨e,h⟩=>⟨τ,d,e,h⟩) fun τ=>?_
 obtain⟨e,w',Gq,hR,hcm,hf,hl⟩:=hc τ [Ol];cases e with
 |outgrown=>exact absurd hR (qB _ _)
 |returned v=>
  obtain⟨N,hN⟩:=hcm;exact⟨N,Gq,w',hN,_,hR,hf,hl⟩
 |panicked c=>
  obtain⟨N,hN⟩:=hcm;exact⟨N,Gq,w',hN,_,hR,hf,hl⟩
theorem x50(w:ui)(τ τ':Nat->Question->Nat)(d d':Nat):Rj (Rj w τ d) τ' d'=Rj w τ' d':=rfl
theorem vS{fr:Frame}{w:ui}{e:Ending}{τ:Nat->Question->Nat}{d:Nat}(h:fr.leaving P (Rj w τ d) e)(τ':Nat->Question->Nat)(d':Nat):fr.leaving P (Rj w τ' d') e:=by
 cases e with
 |outgrown=>trivial
 |panicked c=>exact h
 |returned v=>
  obtain⟨h1,h2,h3,fn,hf,hr⟩:=h;refine⟨h1,h2,h3,fn,hf,?_⟩;have ho:=Ix (P:=P) fn fr.tmps;obtain⟨n,l1,l2,l3⟩:=Xx P _ (Rj w τ d) #[] ho;have e0:((results fn fr.tmps).runT P (Rj w τ d) #[]).1=.ok v (Rj w τ d):=by rw[Sem.runT_fst];exact hr
  rw[e0]at l1 l2 l3;have hn:n=0:=by
   have:d=d+n:=l2;omega
  subst hn;have:=l3 τ' d' (fun k hk=>absurd hk E0);rw[x50]at this;rw[<-Sem.runT_fst P _ _ #[],this];rfl
def K10(P:Program)(f:FuncId)(args:Array ti)(w:ui)(R:Ending->ui->Prop):Prop:=
 ∀(gs:Array Goroutine)(sl:Option (Nat×Nat))(t:Trace)(q:Nat->Nat)(cs:List Frame)(τ:Nat->Question->Nat)(d:Nat),
  gs[0]?=yi (G (Frame.enter P f args .normal) cs)->Leavers P t gs q->Uo t->
  ∃N yk Gq w' d' sl' t' q' e,runNT P N (crowd gs (Rj w τ d) sl) t=(.next (crowd yk (Rj w' τ d') sl'),t')/\gs.size<=yk.size/\yk[0]?=yi (G Gq cs)/\Gq.fn=f/\(∀τ d,Gq.leaving P (Rj w' τ d) e)/\R e w'/\Leavers P t' yk q'/\Uo t'
theorem KF(H:Dk P A)(Po:∀g,P.stepOf g=Ai){f:FuncId}{args:Array ti}{w:ui}(hen:vo P A f args)(R:ui->Ending->ui->Prop)
  (hc:∀τ,Calls P f args (Rj w τ 0) (R (Rj w τ 0)))(qB:∀a b,¬R a .outgrown b):K10 P f args w (fun e w'=>∃τ d',R (Rj w τ 0) e (Rj w' τ d')):=by
 intro gs sl t q cs τ d h0 hL hP;obtain⟨N,yk,Gq,w',d',sl',t',q',hr,hs,h0',⟨τ',dd,e,hR,hf,hl⟩,NW,V_⟩:=rF (yJ H Po hen R hc qB) gs sl t q cs τ d h0 hL hP;exact⟨N,yk,Gq,w',d',sl',t',q',e,hr,E0,h0',hf,fun τ₁ d₁=>vS hl τ₁ d₁,⟨τ',dd,hR⟩,NW,V_⟩
end
structure Ar(k:Nat)(S M:Touch->Prop)(t:Trace):Prop where
 clean:∀said,¬Race said t
 k0:∀i a,touchAt t i=yi a->a.loc.isMemory=ji->Knows t 0 i\/(Knows t k i/\S a)
 kk:∀i a,touchAt t i=yi a->a.loc.isMemory=ji->Knows t k i\/(Knows t 0 i/\M a)
 h0:Deaf t 0=0
 hk:Deaf t k=0
def Apart(S M:Touch->Prop):Prop:=∀a b,S a->M b->a.loc=b.loc->a.write=gi/\b.write=gi
structure PastS(c pc:Nat)(S:Touch->Prop)(t:Trace):Prop where
 clean:∀said,¬Race said t
 known:∀i a,touchAt t i=yi a->a.loc.isMemory=ji->Knows t 0 i\/(Before t i pc/\S a)
 close:t.act? pc=yi (.close c)
 heard:t.heard pc
 h0:Deaf t 0=0
section
variable {k c pc:Nat}{S M S' M':Touch->Prop}{t u:Trace}
theorem Ar.mono(h:Ar k S M t)(hS:∀a,S a->S' a)(hM:∀a,M a->M' a):Ar k S' M' t:=
 ⟨h.clean,fun i a x y=>(h.k0 i a x y).imp id fun z=>⟨z.1,hS a z.2⟩,fun i a x y=>(h.kk i a x y).imp id fun z=>⟨z.1,hM a z.2⟩,h.h0,h.hk⟩
theorem PastS.mono(h:PastS c pc S t)(hS:∀a,S a->S' a):PastS c pc S' t:=⟨h.clean,fun i a x y=>(h.known i a x y).imp id fun z=>⟨z.1,hS a z.2⟩,h.close,h.heard,h.h0⟩
theorem Ar.aJ(h:Ar k S M t)(hk:k≠0)(ap:Apart S M){fn:FuncId}{pos:String}{es:Array Event}(zn:∀e∈es,ko e)(hM:∀e∈es,∀x,(MemAct.ofEvent e).touch?=yi x->x.loc.isMemory=ji->M x):
  Ar k S M (t++MemOp.ofEvents 0 fn pos es):=by
 have hu:∀op∈MemOp.ofEvents 0 fn pos es,op.g=0:=fun op hop=>by obtain⟨e,_,rfl⟩:=Go.Conc.mem_ofEvents hop;rfl
 have hMu:∀op∈MemOp.ofEvents 0 fn pos es,∀x,op.act.touch?=yi x->x.loc.isMemory=ji->M x:=fun op hop=>by obtain⟨e,he,rfl⟩:=Go.Conc.mem_ofEvents hop;exact hM e he
 have hd0:Deaf (t++MemOp.ofEvents 0 fn pos es) 0=Deaf t 0:=by rw[Deaf_own];exact Yf
 refine⟨fun said=>noRace_append (h.clean said) hu fun i a ha op hop b hb hc=>?_,fun i a ha hm=>?_,fun i a ha hm=>?_,hd0.trans h.h0,(Deaf_other t (Ne.symm hk) _ hu).trans h.hk⟩
 ·rcases h.k0 i a ha hc.2.1 with dF|⟨_,hS⟩
  ·exact dF
  ·have:=ap a b hS (hMu op hop b hb (by rw[<-hc.1];exact hc.2.1)) hc.1;rcases hc.2.2.1 with hw|hw
   ·rw[this.1]at hw;cases hw
   ·rw[this.2]at hw;cases hw
 ·obtain⟨x,hx,hxa⟩:=touch_of ha;rcases getElem?_append_cases hx with⟨_,py⟩|⟨_,ZF⟩
  ·exact Tf
  ·have:=knows_own hx;rw[hu x ZF]at this;exact .inl this
 ·obtain⟨x,hx,hxa⟩:=touch_of ha;rcases getElem?_append_cases hx with⟨_,py⟩|⟨_,ZF⟩
  ·exact Uf
  ·have:=knows_own hx;rw[hu x ZF]at this;exact .inr ⟨this,hMu x ZF a hxa hm⟩
theorem Ar.g50(h:Ar k S M t)(hk:k≠0)(ap:Apart S M){fn:FuncId}{pos:String}{es:Array Event}(zn:∀e∈es,ko e)(hS:∀e∈es,∀x,(MemAct.ofEvent e).touch?=yi x->x.loc.isMemory=ji->S x):
  Ar k S M (t++MemOp.ofEvents k fn pos es):=by
 have hu:∀op∈MemOp.ofEvents k fn pos es,op.g=k:=fun op hop=>by obtain⟨e,_,rfl⟩:=Go.Conc.mem_ofEvents hop;rfl
 have hSu:∀op∈MemOp.ofEvents k fn pos es,∀x,op.act.touch?=yi x->x.loc.isMemory=ji->S x:=fun op hop=>by obtain⟨e,he,rfl⟩:=Go.Conc.mem_ofEvents hop;exact hS e he
 have hdk:Deaf (t++MemOp.ofEvents k fn pos es) k=Deaf t k:=by rw[Deaf_own];exact Yf
 refine⟨fun said=>noRace_append (h.clean said) hu fun i a ha op hop b hb hc=>?_,fun i a ha hm=>?_,fun i a ha hm=>?_,(Deaf_other t hk _ hu).trans h.h0,hdk.trans h.hk⟩
 ·rcases h.kk i a ha hc.2.1 with dF|⟨_,hM⟩
  ·exact dF
  ·have:=ap b a (hSu op hop b hb (by rw[<-hc.1];exact hc.2.1)) hM hc.1.symm;rcases hc.2.2.1 with hw|hw
   ·rw[this.2]at hw;cases hw
   ·rw[this.1]at hw;cases hw
 ·obtain⟨x,hx,hxa⟩:=touch_of ha;rcases getElem?_append_cases hx with⟨_,py⟩|⟨_,ZF⟩
  ·exact Tf
  ·have:=knows_own hx;rw[hu x ZF]at this;exact .inr ⟨this,hSu x ZF a hxa hm⟩
 ·obtain⟨x,hx,hxa⟩:=touch_of ha;rcases getElem?_append_cases hx with⟨_,py⟩|⟨_,ZF⟩
  ·exact Uf
  ·have:=knows_own hx;rw[hu x ZF]at this;exact .inl this
theorem Ar.mutes(h:Ar k S M t)(hn:∀op∈u,op.act.touch?=Ai)(hd0:Deaf (t++u) 0=Deaf t 0)(hdk:Deaf (t++u) k=Deaf t k):Ar k S M (t++u):=by
 refine⟨fun said=>noRace_appendMute (h.clean said) hn,fun i a ha hm=>?_,fun i a ha hm=>?_,hd0.trans h.h0,hdk.trans h.hk⟩
 all_goals
  obtain⟨x,hx,hxa⟩:=touch_of ha;rcases getElem?_append_cases hx with⟨_,py⟩|⟨_,ZF⟩
 ·exact Tf
 ·exact Ye
 ·exact Uf
 ·exact Ye
theorem Ar.fork(h:Uo t)(Vw:Deaf t k=0)(f0:FuncId)(p0:String)(fc:FuncId):Ar k S M (t++#[{g:=0,fn:=f0,pos:=p0,act:=.go k},{g:=k,fn:=fc,pos:=p0,act:=.start}]):=by
 generalize hu:(#[{g:=0,fn:=f0,pos:=p0,act:=.go k},{g:=k,fn:=fc,pos:=p0,act:=.start}]:Trace)=u;have hn:∀op∈u,op.act.touch?=none:=by
  intro op hop;subst hu;simp only[List.mem_toArray,List.mem_cons,List.not_mem_nil,or_false]at hop;rcases hop with rfl|rfl<;>rfl
 have hq:∀g,∀op∈u,∀d,deafStep g d op=d:=by
  intro g op hop d;subst hu;simp only[List.mem_toArray,List.mem_cons,List.not_mem_nil,or_false]at hop;rcases hop with rfl|rfl<;>rfl
 have e0:(t++u)[t.size]?=yi {g:=0,fn:=f0,pos:=p0,act:=.go k}:=by subst hu;simp
 have e1:(t++u)[t.size+1]?=yi {g:=k,fn:=fc,pos:=p0,act:=.start}:=by subst hu;simp
 have edge:HappensBefore (t++u) t.size (t.size+1):=
  Relation.TransGen.single (.inr ⟨.spawn (act?_of e0) (act?_of e1) (g?_of e1),⟨0,g?_of e0,by rw[deaf_old (Nat.le_refl _)];exact h.hears⟩,⟨k,g?_of e1,by rw[deaf_quiet (hq k) 1 (by subst hu;simp)];exact Vw⟩⟩)
 refine⟨fun said=>noRace_appendMute (h.clean said) hn,fun i a ha hm=>?_,fun i a ha hm=>?_,(Deaf_quiet (hq 0)).trans h.hears,(Deaf_quiet (hq k)).trans Vw⟩
 all_goals
  obtain⟨x,hx,hxa⟩:=touch_of ha;rcases getElem?_append_cases hx with⟨_,py⟩|⟨_,ZF⟩
 ·exact .inl ((h.known i a D3 hm).app _)
 ·exact Ye
 ·exact .inl ⟨t.size+1,_,e1,rfl,.inr (((h.known i a D3 hm).hb_new (Nat.le_refl _) e0 rfl).trans edge)⟩
 ·exact Ye
theorem Ar.shut(h:Ar k S M t)(hk:k≠0)(ap:Apart S M)(fn:FuncId)(pos:String)(c:Nat)(hS:S ⟨.obj c,gi,.atomic⟩):PastS c (t.size+1) S (t++MemOp.ofEvents k fn pos (closeEvents c)):=by
 have zn:∀e∈closeEvents c,ko e:=fun e he=>by
  simp only[closeEvents,List.mem_toArray,List.mem_cons,List.not_mem_nil,or_false]at he;rcases he with rfl|rfl<;>exact BH _ _ _
 have hSe:∀e∈closeEvents c,∀x,(MemAct.ofEvent e).touch?=yi x->x.loc.isMemory=ji->S x:=fun e he x hx _=>by
  simp only[closeEvents,List.mem_toArray,List.mem_cons,List.not_mem_nil,or_false]at he;rcases he with rfl|rfl
  ·simp only[MemAct.ofEvent,MemAct.touch?,Option.some.injEq]at hx;subst hx;exact hS
  ·simp[MemAct.ofEvent,MemAct.touch?]at hx
 have h':=h.g50 hk ap (fn:=fn) (pos:=pos) zn hSe;have hm:(t++MemOp.ofEvents k fn pos (closeEvents c))[t.size+1]?=yi {g:=k,fn:=fn,pos:=pos,act:=.close c}:=by rw[at_new,closeOps];rfl
 have hsz:(t++MemOp.ofEvents k fn pos (closeEvents c)).size=t.size+2:=by rw[closeOps];simp
 refine⟨h'.clean,fun i a ha zG=>?_,by rw[act?_of hm],⟨k,g?_of hm,?_⟩,h'.h0⟩
 ·rcases h'.k0 i a ha zG with dF|⟨⟨q,z,hq,hz,hb⟩,hSa⟩
  ·exact .inl dF
  ·refine .inr ⟨hb.trans ?_,hSa⟩;have cH:q<=t.size+1:=by have:=lt_size_of_getElem? hq;omega
   rcases Nat.lt_or_ge q (t.size+1)with Wi|hge
   ·exact .inr (hb_po Wi hq hm (by rw[hz]))
   ·exact .inl E0
 ·have hq:∀op∈MemOp.ofEvents k fn pos (closeEvents c),∀d,deafStep k d op=d:=fun op hop d=>by
   rw[closeOps]at hop;simp only[List.mem_toArray,List.mem_cons,List.not_mem_nil,or_false]at hop;rcases hop with rfl|rfl<;>rfl
  rw[deaf_quiet hq 1 (by rw[closeOps];simp)];exact h.hk
theorem PastS.keep(h:PastS c pc S t):(t++u).act? pc=yi (.close c)/\(t++u).heard pc:=by
 obtain⟨z,hz,_⟩:=Option.map_eq_some_iff.1 (show (t[pc]?).map (·.act)=yi (.close c)from h.close);have Wi:=lt_size_of_getElem? hz;obtain⟨g',yE,QI⟩:=h.heard;exact⟨by simpa[Trace.act?,getElem?_append_old Wi]using h.close,g',by rw[g?_old Wi];exact yE,by rw[deaf_old (Nat.le_of_lt Wi)];exact QI⟩
theorem PastS.aJ(h:PastS c pc S t)(ap:Apart S M){fn:FuncId}{pos:String}{es:Array Event}(zn:∀e∈es,ko e)(hM:∀e∈es,∀x,(MemAct.ofEvent e).touch?=yi x->x.loc.isMemory=ji->M x):
  PastS c pc S (t++MemOp.ofEvents 0 fn pos es):=by
 have hu:∀op∈MemOp.ofEvents 0 fn pos es,op.g=0:=fun op hop=>by obtain⟨e,_,rfl⟩:=Go.Conc.mem_ofEvents hop;rfl
 have hMu:∀op∈MemOp.ofEvents 0 fn pos es,∀x,op.act.touch?=yi x->x.loc.isMemory=ji->M x:=fun op hop=>by obtain⟨e,he,rfl⟩:=Go.Conc.mem_ofEvents hop;exact hM e he
 have hd0:Deaf (t++MemOp.ofEvents 0 fn pos es) 0=Deaf t 0:=by rw[Deaf_own];exact Yf
 refine⟨fun said=>noRace_append (h.clean said) hu fun i a ha op hop b hb hc=>?_,fun i a ha hm=>?_,h.keep.1,h.keep.2,hd0.trans h.h0⟩
 ·rcases h.known i a ha hc.2.1 with dF|⟨_,hS⟩
  ·exact dF
  ·have:=ap a b hS (hMu op hop b hb (by rw[<-hc.1];exact hc.2.1)) hc.1;rcases hc.2.2.1 with hw|hw
   ·rw[this.1]at hw;cases hw
   ·rw[this.2]at hw;cases hw
 ·obtain⟨x,hx,hxa⟩:=touch_of ha;rcases getElem?_append_cases hx with⟨_,py⟩|⟨_,ZF⟩
  ·exact(h.known i a D3 hm).imp (·.app _) fun z=>⟨z.1.app _,z.2⟩
  ·have:=knows_own hx;rw[hu x ZF]at this;exact .inl this
theorem PastS.mutes(h:PastS c pc S t)(hn:∀op∈u,op.act.touch?=Ai)(hd0:Deaf (t++u) 0=Deaf t 0):PastS c pc S (t++u):=by
 refine⟨fun said=>noRace_appendMute (h.clean said) hn,fun i a ha hm=>?_,h.keep.1,h.keep.2,hd0.trans h.h0⟩;obtain⟨x,hx,hxa⟩:=touch_of ha;rcases getElem?_append_cases hx with⟨_,py⟩|⟨_,ZF⟩
 ·exact(h.known i a D3 hm).imp (·.app _) fun z=>⟨z.1.app _,z.2⟩
 ·exact Ye
theorem PastS.take(h:PastS c pc S t)(f0:FuncId)(p0:String):Uo (t++#[{g:=0,fn:=f0,pos:=p0,act:=.recvClosed c}]):=by
 generalize hu:(#[{g:=0,fn:=f0,pos:=p0,act:=.recvClosed c}]:Trace)=u;have hn:∀op∈u,op.act.touch?=none:=by
  intro op hop;exact Zg
 have hq:∀g,∀op∈u,∀d,deafStep g d op=d:=by
  intro g op hop d;exact Zg
 have e0:(t++u)[t.size]?=yi {g:=0,fn:=f0,pos:=p0,act:=.recvClosed c}:=by subst hu;simp
 have edge:HappensBefore (t++u) pc t.size:=
  Relation.TransGen.single (.inr ⟨.closed h.keep.1 (act?_of e0),h.keep.2,⟨0,g?_of e0,by rw[deaf_old (Nat.le_refl _)];exact h.h0⟩⟩)
 have hk:∀i a,touchAt (t++u) i=yi a->a.loc.isMemory=ji->Knows (t++u) 0 i:=fun i a ha hm=>by
  obtain⟨x,hx,hxa⟩:=touch_of ha;rcases getElem?_append_cases hx with⟨_,py⟩|⟨_,ZF⟩
  ·rcases h.known i a D3 hm with dF|⟨hb,_⟩
   ·exact dF.app _
   ·exact⟨t.size,_,e0,rfl,.inr ((hb.app u).hb edge)⟩
  ·exact Ye
 refine⟨fun said=>noRace_appendMute (h.clean said) hn,hk,fun i g hg Jj ⟨x,hx,hm,_⟩=>?_,(Deaf_quiet (hq 0)).trans h.h0⟩;obtain⟨q,z,CV,hz,hb⟩:=hk i x hx hm;rcases hb with rfl|hb
 ·rw[g?_of CV,hz]at hg;exact absurd (Option.some.inj hg).symm Jj
 ·exact⟨q,by rw[g?_of CV,hz],hb⟩
end
inductive Ci(P:Program)(main:Bool)(R:ui->ui->Prop)(D:ui->ui->Array Event->Prop)(Stop:Goroutine->ui->Prop):Goroutine->ui->Prop
 |stop {g:Goroutine} {w:ui} (hs:g.status=.running) (h:∀w₁,R w w₁->Stop g w₁):Ci P main R D Stop g w
 |step {g:Goroutine} {w:ui} (nx:ui->Goroutine×ui×Array Event) (hs:g.status=.running) (h1:∀w₁,R w w₁->stepG P main g w₁=.go (nx w₁).1 (nx w₁).2.1 (nx w₁).2.2/\D w₁ (nx w₁).2.1 (nx w₁).2.2)
   (h2:∀w₁,R w w₁->Ci P main R D Stop (nx w₁).1 (nx w₁).2.1):Ci P main R D Stop g w
section
variable {P:Program}{main:Bool}{R:ui->ui->Prop}{D:ui->ui->Array Event->Prop}{Stop:Goroutine->ui->Prop}{g:Goroutine}{w w₁:ui}
theorem Ci.running(h:Ci P main R D Stop g w):g.status=.running:=by cases h<;>assumption
theorem Ci.rely(tr:∀a b c,R a b->R b c->R a c)(h:Ci P main R D Stop g w)(hr:R w w₁):Ci P main R D Stop g w₁:=by
 cases h with
 |stop hs h=>exact .stop hs fun w₂ h₂=>h w₂ (tr _ _ _ hr h₂)
 |step nx hs h1 h2=>exact .step nx hs (fun w₂ h₂=>h1 w₂ (tr _ _ _ hr h₂)) fun w₂ h₂=>h2 w₂ (tr _ _ _ hr h₂)
theorem Ci.mono{RP:Goroutine->ui->Prop}(hm:∀g w,Stop g w->RP g w)(h:Ci P main R D Stop g w):Ci P main R D RP g w:=by
 induction h with
 |stop hs h=>exact .stop hs fun w₂ h₂=>hm _ _ (h w₂ h₂)
 |step nx hs h1 _ ih=>exact .step nx hs h1 ih
theorem Ci.bind{RP:Goroutine->ui->Prop}(refl:∀w,R w w)(hm:∀g w,Stop g w->Ci P main R D RP g w)(h:Ci P main R D Stop g w):Ci P main R D RP g w:=by
 induction h with
 | @stop g w hs h=>
  cases hm g w (h w (refl w))with
  |stop _ hh=>exact .stop hs hh
  |step nx _ h1 h2=>exact .step nx hs h1 h2
 |step nx hs h1 _ ih=>exact .step nx hs h1 ih
theorem Ci.one(hs:g.status=.running)(h:∀w₁,R w w₁->∃g' w' es,stepG P main g w₁=.go g' w' es/\D w₁ w' es/\Ci P main R D Stop g' w'):Ci P main R D Stop g w:=by
 have hc:∀w₁,∃x:Goroutine×ui×Array Event,R w w₁->stepG P main g w₁=.go x.1 x.2.1 x.2.2/\D w₁ x.2.1 x.2.2/\Ci P main R D Stop x.1 x.2.1:=fun w₁=>by
  by_cases hr:R w w₁
  ·obtain⟨g',w',es,a,b,c⟩:=h w₁ hr;exact⟨(g',w',es),fun _=>⟨a,b,c⟩⟩
  ·exact⟨(g,w,#[]),fun x=>absurd x hr⟩
 exact .step (fun w₁=>Classical.choose (hc w₁)) hs (fun w₁ hr=>⟨(Classical.choose_spec (hc w₁) hr).1,(Classical.choose_spec (hc w₁) hr).2.1⟩) fun w₁ hr=>(Classical.choose_spec (hc w₁) hr).2.2
end
structure Np(c:Nat)(R0 R1:ui->ui->Prop)(D0 D1:ui->ui->Array Event->Prop)(SL ML:ui->Touch->Prop)(FS:ui->Prop):Prop where
 t0:∀a b c,R0 a b->R0 b c->R0 a c
 t1:∀a b c,R1 a b->R1 b c->R1 a c
 rB:∀w d,R0 w (w.at d)
 JM:∀w d,R1 w (w.at d)
 ch0:∀w cl s r tm,R0 w (w.setChan c 0 #[] cl s r tm)
 ch1:∀w cl s r tm,R1 w (w.setChan c 0 #[] cl s r tm)
 d01:∀w w' es,D0 w w' es->R1 w w'
 d10:∀w w' es,D1 w w' es->R0 w w'
 c0:∀w w' es,D0 w w' es->w'.heap[c]?=w.heap[c]?
 c1:∀w w' es,D1 w w' es->w'.heap[c]?=w.heap[c]?
 e0:∀w w' es,D0 w w' es->∀e∈es,ko e/\∀x,(MemAct.ofEvent e).touch?=yi x->x.loc.isMemory=ji->ML w' x
 e1:∀w w' es,D1 w w' es->∀e∈es,ko e/\∀x,(MemAct.ofEvent e).touch?=yi x->x.loc.isMemory=ji->SL w' x
 s0:∀w w' a,R0 w w'->SL w a->SL w' a
 s1:∀w w' a,R1 w w'->SL w a->SL w' a
 m0:∀w w' a,R0 w w'->ML w a->ML w' a
 m1:∀w w' a,R1 w w'->ML w a->ML w' a
 ap:∀w,Apart (SL w) (ML w)
 sc:∀w,SL w ⟨.obj c,gi,.atomic⟩
 f1:∀w w',R1 w w'->FS w->FS w'
section
variable (P:Program)(c:Nat)(z:ti)(R0 R1:ui->ui->Prop)(D0 D1:ui->ui->Array Event->Prop)(SL ML:ui->Touch->Prop)(FS:ui->Prop)(Fin:Goroutine->ui->Prop)
def nV(Next:Goroutine->ui->Prop)(g:Goroutine)(w:ui):Prop:=
 ∃es,stepG P ji g w=.comm (core g) #[rcase c z] ji (.recv ji) w es/\(∀e∈es,ko e/\∀x,(MemAct.ofEvent e).touch?=yi x->x.loc.isMemory=ji->ML w x)/\∀w₂,R0 w w₂->Next (core g) w₂
def StopA:List ti->Goroutine->ui->Prop
 | []=>nV P c z R0 ML fun g w=>Fin (Go.Conc.served g (.tuple #[z,.bool gi])) w
 |v::vs=>nV P c z R0 ML fun g w=>Ci P ji R0 D0 (StopA vs) (Go.Conc.served g (.tuple #[v,.bool ji])) w
def Q40(v:ti)(Next:Goroutine->ui->Prop)(g:Goroutine)(w:ui):Prop:=
 ∃g₂ z' es,stepG P gi g w=.comm g₂ #[scase c v z'] ji .send w es/\(∀e∈es,ko e/\∀x,(MemAct.ofEvent e).touch?=yi x->x.loc.isMemory=ji->SL w x)/\∀w₂,R1 w w₂->Next (Go.Conc.served g₂ ri) w₂
def fD(g:Goroutine)(w:ui):Prop:=
 mayWake P g=ji/\FS w/\∃g₂ n,QuitsD P n 0 g₂/\∀s r tm,w.heap[c]?=yi (.chan 0 #[] gi s r tm)->stepG P gi g w=.go g₂ (w.setChan c 0 #[] ji s r tm) (closeEvents c)
def StopB:List ti->Goroutine->ui->Prop
 | []=>fD P c FS
 |v::vs=>Q40 P c R1 SL v fun g w=>Ci P gi R1 D1 (StopB vs) g w
end
section
variable {P:Program}{c k:Nat}{z:ti}{R0 R1:ui->ui->Prop}{D0 D1:ui->ui->Array Event->Prop}{SL ML:ui->Touch->Prop}{FS:ui->Prop}{Fin:Goroutine->ui->Prop}
structure Ctx(P:Program)(c k:Nat)(SL ML:ui->Touch->Prop)(gs:Array Goroutine)(w:ui)(t:Trace)(q:Nat->Nat):Prop where
 k0:k≠0
 chan:∃s r tm,w.heap[c]?=yi (.chan 0 #[] gi s r tm)
 rest:∀i g,i≠0->i≠k->gs[i]?=yi g->QuitsD P (q i) (Deaf t i) g
 above:∀j,gs.size<=j->Deaf t j=0
 past:Ar k (SL w) (ML w) t
def yN(P:Program)(Fin:Goroutine->ui->Prop)(FS:ui->Prop)(gs:Array Goroutine)(w:ui)(sl:Option (Nat×Nat))(t:Trace):Prop:=
 ∃N yk a' w' sl' t' q',runNT P N (crowd gs w sl) t=(.next (crowd yk w' sl'),t')/\yk.size=gs.size/\yk[0]?=yi a'/\Fin a' w'/\FS w'/\Leavers P t' yk q'/\Uo t'
theorem yN.step{gs yk:Array Goroutine}{w w':ui}{sl sl':Option (Nat×Nat)}{t ops:Trace}(h:stepT P (crowd gs w sl)=(.next (crowd yk w' sl'),ops))(hs:yk.size=gs.size)(hr:yN P Fin FS yk w' sl' (t++ops)):yN P Fin FS gs w sl t:=by
 obtain⟨N,eZ,a2,w2,WQ,t2,q2,h1,h2,h3⟩:=hr;exact⟨N+1,eZ,a2,w2,WQ,t2,q2,by simp only[runNT,h];exact h1,h2.trans hs,h3⟩
def mM(P:Program)(c:Nat)(a:Goroutine):Prop:=∀g g' w' s r tm,w'.heap[c]?=yi (.chan 0 #[] gi s r tm)->woken P g g' w' a=a
theorem qk{a:Goroutine}(h:a.status=.running):mM P c a:=fun _ _ _ _ _ _ _=>woken_running h
theorem ND(g:Goroutine)(z:ti)(sh:CommShape):mM P c (parked g #[rcase c z] sh):=fun _ _ _ _ _ _ h=>woken_recv_open _ _ h
theorem BD(g:Goroutine)(v z:ti)(sh:CommShape):mM P c (parked g #[scase c v z] sh):=fun _ _ _ _ _ _ h=>woken_send_open _ _ h
theorem ofEvents_g{g:Nat}{fn:FuncId}{pos:String}{es:Array Event}:∀op∈MemOp.ofEvents g fn pos es,op.g=g:=fun op hop=>by obtain⟨e,_,rfl⟩:=Go.Conc.mem_ofEvents hop;rfl
theorem Ctx.slip(U:Np c R0 R1 D0 D1 SL ML FS){gs:Array Goroutine}{w:ui}{t:Trace}{q:Nat->Nat}{a b g:Goroutine}{i d:Nat}{sl:Option (Nat×Nat)}(h:Ctx P c k SL ML gs w t q)(ha:gs[0]?=yi a)(hb:gs[k]?=yi b)(fa:mM P c a)(fb:mM P c b)
  (hi:gs[i]?=yi g)(hg:g.status=.running)(zy:i≠0)(yr:i≠k):
  ∃yk ops q',runT P (crowd gs (w.at d) sl) i=(.next (crowd yk (w.at d) sl),ops)/\yk.size=gs.size/\yk[0]?=yi a/\yk[k]?=yi b/\Ctx P c k SL ML yk (w.at d) (t++ops) q'/\sumTo yk.size q'<sumTo gs.size q:=by
 obtain⟨s,r,tm,hc⟩:=h.chan;have hq:=h.rest i g zy yr hi;have Wi:i<gs.size:=(Array.getElem?_eq_some_iff.1 hi).1;have F10:(i==0)=false:=by simp;omega
 cases TT:q i with
 |zero=>rw[TT]at hq;rw[hq.1]at hg;cases hg
 |succ m=>
  rw[TT]at hq;rcases hq with⟨hf,_⟩|⟨_,g',es,hm,pT,CV⟩
  ·rw[hf]at hg;cases hg
  have Oo:=runT_crowd_go (P:=P) (sl:=sl) (i:=i) hi (by rw[F10];exact pT (w.at d));have hsz:((gs.map (woken P g g' (w.at d))).setIfInBounds i g').size=gs.size:=P0;have W50:sumTo gs.size (upd q i m)+(m+1)=sumTo gs.size q+m:=by
   have:=sumTo_upd q m id Wi;simpa[TT]using this
  have Iy:(w.at d).heap[c]?=yi (.chan 0 #[] gi s r tm):=hc;have mutes:∀op∈MemOp.ofEvents i g.frame.fn g.frame.place es,op.act.touch?=none:=fun op hop=>by obtain⟨e,he,rfl⟩:=Go.Conc.mem_ofEvents hop;exact touch_mute (hm e he)
  refine⟨_,_,upd q i m,Oo,hsz,?_,?_,⟨h.k0,⟨s,r,tm,Iy⟩,fun j x jA pA hx=>?_,fun j hj=>?_,?_⟩,by rw[hsz];omega⟩
  ·rw[Array.getElem?_setIfInBounds_ne zy,Array.getElem?_map,ha];simp[fa _ _ _ _ _ _ Iy]
  ·rw[Array.getElem?_setIfInBounds_ne yr,Array.getElem?_map,hb];simp[fb _ _ _ _ _ _ Iy]
  ·by_cases Yq:i=j
   ·exact ya
   ·rw[Array.getElem?_setIfInBounds_ne Yq,Array.getElem?_map]at hx;obtain⟨y,hy,rfl⟩:=Option.map_eq_some_iff.1 hx;have pF:=h.rest j y jA pA hy;exact ie
  ·rw[Deaf_other t (g':=i) Z2 _ ofEvents_g];exact h.above j E2
  ·exact(h.past.mutes mutes (Deaf_other t zy _ ofEvents_g) (Deaf_other t yr _ ofEvents_g)).mono (fun x=>U.s0 _ _ x (U.rB w d)) (fun x=>U.m0 _ _ x (U.rB w d))
theorem Ctx.aJ(U:Np c R0 R1 D0 D1 SL ML FS){gs:Array Goroutine}{w w':ui}{t:Trace}{q:Nat->Nat}{a a' b:Goroutine}{d:Nat}{sl:Option (Nat×Nat)}{es:Array Event}(h:Ctx P c k SL ML gs w t q)(ha:gs[0]?=yi a)(hb:gs[k]?=yi b)(fb:mM P c b)
  (hgo:stepG P ji a (w.at d)=.go a' w' es)(hD:D0 (w.at d) w' es):
  ∃yk ops,runT P (crowd gs (w.at d) sl) 0=(.next (crowd yk w' sl),ops)/\yk.size=gs.size/\yk[0]?=yi a'/\yk[k]?=yi b/\Ctx P c k SL ML yk w' (t++ops) q:=by
 obtain⟨s,r,tm,hc⟩:=h.chan;have Iy:w'.heap[c]?=yi (.chan 0 #[] gi s r tm):=(U.c0 _ _ _ hD).trans hc;refine tf fun Wi=>?_;have Oo:=runT_crowd_go (P:=P) (sl:=sl) (i:=0) ha (show stepG P (0==0) a (w.at d)=_ from hgo);have hr:R1 w w':=U.t1 _ _ _ (U.JM w d) (U.d01 _ _ _ hD);refine⟨_,_,Oo,P0,by simp[Wi],?_,⟨h.k0,⟨s,r,tm,Iy⟩,fun j x jA pA hx=>?_,fun j hj=>?_,?_⟩⟩
 ·rw[Array.getElem?_setIfInBounds_ne (Ne.symm h.k0),Array.getElem?_map,hb];simp[fb _ _ _ _ _ _ Iy]
 ·rw[Array.getElem?_setIfInBounds_ne (Ne.symm jA),Array.getElem?_map]at hx;obtain⟨y,hy,rfl⟩:=Option.map_eq_some_iff.1 hx;have pF:=h.rest j y jA pA hy;rw[woken_quitsD pF,Deaf_other t (Ne.symm jA) _ ofEvents_g];exact pF
 ·rw[Deaf_other t (g':=0) Z2 _ ofEvents_g];exact h.above j E2
 ·exact(h.past.mono (fun x=>U.s1 _ _ x hr) (fun x=>U.m1 _ _ x hr)).aJ h.k0 (U.ap w') (fun e he=>(U.e0 _ _ _ hD e he).1) (fun e he=>(U.e0 _ _ _ hD e he).2)
theorem Ctx.BF(U:Np c R0 R1 D0 D1 SL ML FS){gs:Array Goroutine}{w w':ui}{t:Trace}{q:Nat->Nat}{a b b':Goroutine}{d:Nat}{sl:Option (Nat×Nat)}{es:Array Event}(h:Ctx P c k SL ML gs w t q)(ha:gs[0]?=yi a)(hb:gs[k]?=yi b)(fa:mM P c a)
  (hgo:stepG P gi b (w.at d)=.go b' w' es)(hD:D1 (w.at d) w' es):
  ∃yk ops,runT P (crowd gs (w.at d) sl) k=(.next (crowd yk w' sl),ops)/\yk.size=gs.size/\yk[0]?=yi a/\yk[k]?=yi b'/\Ctx P c k SL ML yk w' (t++ops) q:=by
 obtain⟨s,r,tm,hc⟩:=h.chan;have Iy:w'.heap[c]?=yi (.chan 0 #[] gi s r tm):=(U.c1 _ _ _ hD).trans hc;have Wi:k<gs.size:=(Array.getElem?_eq_some_iff.1 hb).1;have Vw:(k==0)=false:=by have:=h.k0;simp;omega
 have Oo:=runT_crowd_go (P:=P) (sl:=sl) (i:=k) hb (by rw[Vw];exact hgo);have hr:R0 w w':=U.t0 _ _ _ (U.rB w d) (U.d10 _ _ _ hD);refine⟨_,_,Oo,P0,?_,?_,⟨h.k0,⟨s,r,tm,Iy⟩,fun j x jA pA hx=>?_,fun j hj=>?_,?_⟩⟩
 ·rw[Array.getElem?_setIfInBounds_ne h.k0,Array.getElem?_map,ha];simp[fa _ _ _ _ _ _ Iy]
 ·rw[Array.getElem?_setIfInBounds_self_of_lt W4]
 ·rw[Array.getElem?_setIfInBounds_ne (Ne.symm pA),Array.getElem?_map]at hx;obtain⟨y,hy,rfl⟩:=Option.map_eq_some_iff.1 hx;have pF:=h.rest j y jA pA hy;rw[woken_quitsD pF,Deaf_other t (Ne.symm pA) _ ofEvents_g];exact pF
 ·rw[Deaf_other t (g':=k) Z2 _ ofEvents_g];exact h.above j E2
 ·exact(h.past.mono (fun x=>U.s0 _ _ x hr) (fun x=>U.m0 _ _ x hr)).g50 h.k0 (U.ap w') (fun e he=>(U.e1 _ _ _ hD e he).1) (fun e he=>(U.e1 _ _ _ hD e he).2)
end
end Go.Proofs.YtdoghgnifkgfdaaGreat.Mute
