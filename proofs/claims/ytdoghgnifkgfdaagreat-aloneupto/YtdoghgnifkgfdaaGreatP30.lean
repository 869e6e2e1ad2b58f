import Derived.Conc.Own3
import Derived.Conc.Own4
import Derived.Test.YtdoghgnifkgfdaaGreatP28
import Derived.Test.YtdoghgnifkgfdaaGreatP29
set_option maxRecDepth 100000
set_option maxHeartbeats 4000000
namespace Go.Proofs.YtdoghgnifkgfdaaGreat.Mute
open Go Go.Conc
section
variable {P:Program} {A:Plan} {fr:Frame} {w:World} {Q Q':Frame→World→Prop}
structure Bot (P:Program) (A:Plan) (fr:Frame):Prop where
 ok:FrOk P A fr
 kind:fr.kind=.normal
 mode:fr.mode=.run
 defers:fr.defers=[]
 calm:∀it∈fr.todo,Xa it
theorem XH {f f':Frame} {l l':List Frame} {w w':World} {es es':Array Event} (h:GStep.go (G f l) w es=GStep.go (G f' l') w' es'):f=f'∧l=l'∧w=w'∧es=es':=by
 simp only [GStep.go.injEq,G,Goroutine.mk.injEq] at h;exact ⟨h.1.1,h.1.2.1,h.2.1,h.2.2⟩
theorem not_safe (hQ:∀fr w,Q fr w→fr.mode=.run) (h:Safe P Q fr [] w) (ho:FrOk P A fr) (hk:fr.kind=.normal) (hm:fr.mode≠.run) (hd:fr.defers=[]):False:=by
 cases h with
 |stop hq=>exact hm (hQ _ _ hq)
 |step nx ev n h1 h2 h3=>
  have e:=h2 (fun _ _=>0) 0 true [YE];rw [show ([]:List Frame)++[YE]=[YE] from rfl,Z6 hm] at e;obtain ⟨fn,hf⟩:=ho.fn;cases hmode:fr.mode with
  |run=>exact hm hmode
  |panicking chain=>
   unfold unwind at e;simp only [hd,hmode,Y0H ho] at e;have:=(XH (show GStep.go (G (YE.raise chain) []) _ #[]=_ from e)).2.1;simp at this
  |returning=>
   unfold unwind at e;simp only [hd,hmode,hf] at e;cases hr:(results fn fr.tmps).runT P (reW w (fun _ _=>0) 0) #[] with
   |mk r es=>
    rw [hr] at e;cases r with
    |ok v w'=>
     simp only [doReturn,hk,GStep.after] at e;have:=(XH (show GStep.go (G (YE.finish v) []) w' _=_ from e)).2.1;simp at this
    |halt hh w'=>
     simp only [GStep.after] at e;cases hh<;>simp at e
def At (P:Program) (A:Plan) (s:List Item) (fr:Frame) (top:List Frame) (fr₂:Frame) (top₂:List Frame):Prop:=
 (top=[]∧Bot P A fr∧sfx s fr=fr₂∧[]=top₂)∨
 (∃t1 bot,top=t1++[bot]∧FrOk P A fr∧Xy P A fr.kind t1∧Bot P A bot∧(∃ops i rest k,bot.todo=.inRegion ops (i::rest)::k)∧(∀v,FrOk P A (bot.finish v))∧fr=fr₂∧t1++[sfx s bot]=top₂)
theorem JC (w:World) (τ:Nat→Question→Nat) (d n:Nat):Agree (reW w τ d) τ d n:=fun _ _=>rfl
theorem Y70 {bot:Frame} {ops:Array Oper} {i:Nat} {rest:List Nat} {k:List Item} (hb:Bot P A bot) (ht:bot.todo=.inRegion ops (i::rest)::k) (v:Value) (ho:FrOk P A (bot.finish v)):Bot P A (bot.finish v):=by
 refine ⟨ho,(Z5 bot v).trans hb.kind,?_,?_,fun it hit=>?_⟩
 ·have:(bot.finish v).mode=bot.mode:=by unfold Frame.finish;split<;>rfl
  exact this.trans hb.mode
 ·have:(bot.finish v).defers=bot.defers:=by unfold Frame.finish;split<;>rfl
  exact this.trans hb.defers
 ·have hc:=hb.calm;unfold Frame.finish at hit;rw [ht] at hc hit;simp only [List.mem_cons] at hit;rcases hit with rfl|hit
  ·exact hc (.inRegion ops (i::rest)) List.mem_cons_self
  ·exact hc it (List.mem_cons_of_mem _ hit)
theorem Y5y {bot:Frame} {ops:Array Oper} {i:Nat} {rest:List Nat} {k:List Item} (s:List Item) (ht:bot.todo=.inRegion ops (i::rest)::k) (v:Value):(sfx s bot).finish v=sfx s (bot.finish v):=by
 have hts:(sfx s bot).todo=.inRegion ops (i::rest)::(k++s):=by show bot.todo++s=_;rw [ht];rfl
 unfold Frame.finish;rw [hts,ht];simp [sfx]
theorem Ya2 (H:X4 P A) (hstep:∀g,P.stepOf g=none) (s:List Item) (hQ:∀fr w,Q fr w→fr.mode=.run∧fr.todo=[]) (hQ':∀fr w,Q fr w→Q' (sfx s fr) w) {top:List Frame} (h:Safe P Q fr top w):
  ∀fr₂ top₂,At P A s fr top fr₂ top₂→Safe P Q' fr₂ top₂ w:=by
 induction h with
 | @stop fr w hq=>
  rintro fr₂ top₂ (⟨_,_,rfl,rfl⟩|⟨t1,bot,e,_⟩)
  ·exact .stop (hQ' _ _ hq)
  ·simp at e
 | @step fr top w nx ev n h1 h2 h3 ih=>
  rintro fr₂ top₂ (⟨rfl,hb,rfl,rfl⟩|⟨t1,bot,rfl,hf,hst,hb,⟨ops,i,rest,k,ht⟩,hfin,rfl,rfl⟩)
  ·
   refine Safe.step' fun τ d=>?_;have hn:∀fr',nx τ d=⟨fr',[],(nx τ d).w⟩→FrOk P A fr'→fr'.kind=.normal→fr'.mode≠.run→fr'.defers=[]→False:=fun fr' e ho hk hm hd=>by
    have h3':=h3 τ d;rw [e] at h3';exact not_safe (fun fr w hq=>(hQ fr w hq).1) h3' ho hk hm hd
   by_cases hne:fr.todo=[]
   ·exfalso;have e:=h2 τ d true [];rw [show ([]:List Frame)++[]=[] from rfl,Y10 hb.mode] at e;simp only [stepG.exec,hne,hb.ok.round] at e;obtain ⟨e1,e2,_,_⟩:=XH (show GStep.go (G {fr with mode:=.returning} []) _ #[]=_ from by simpa [G,hne,hb.ok.round] using e);refine hn {fr with mode:=.returning} ?_ (hb.ok.mode _) hb.kind (by simp) hb.defers;have e3:(nx τ d).top=[]:=by simpa using e2.symm
    rw [←e3,e1]
   ·have hw:∀main,Ways P fr s (fun cs=>stepG P main (G fr cs) (reW w τ d)) (fun cs=>stepG P main (G (sfx s fr) cs) (reW w τ d)):=fun main=>Y6r H hstep hb.ok hb.kind hb.mode hne hb.calm main s _;obtain ⟨n',hres⟩:=Y24 H hstep hb.ok (top:=[]) (show Xy P A fr.kind [] from hb.kind) (.inl hb.mode) (reW w τ d);rcases hres with ⟨fr1,top1,w1,es1,ho1,hs1,_,_,_,heq1⟩|hend
    rotate_left
    ·obtain ⟨o,w',es,he⟩:=hend τ d (JC w τ d n') true [];have:=h2 τ d true [];rw [show reW (reW w τ d) τ d=reW w τ d from rfl] at he;rw [he] at this;cases this
    have e1:=heq1 τ d (JC w τ d n') true [];rw [show reW (reW w τ d) τ d=reW w τ d from rfl,h2 τ d true []] at e1;obtain ⟨f1,f2,_,_⟩:=XH e1;have f2':top1=(nx τ d).top:=by simpa using f2.symm
    subst f1 f2';rcases hw true with ⟨fr',w',es,hc,hdf,hkd,hxy⟩|⟨f,args,w',es,ops,i,rest,k,ht,hxy⟩|hx
    ·
     obtain ⟨g1,g2,g3,g4⟩:=XH ((h2 τ d true []).symm.trans (hxy []).1);have htop:(nx τ d).top=[]:=by simpa using g2
     subst g1;have hrun:(nx τ d).fr.mode=.run:=by
      apply Classical.byContradiction;intro hm;exact hn (nx τ d).fr (by rw [←htop]) ho1 (hkd.trans hb.kind) hm (hdf.trans hb.defers)
     refine ⟨sfx s (nx τ d).fr,[],(nx τ d).w,ev τ d,n τ d,h1 τ d,fun main cs=>?_,ih τ d _ _ (.inl ⟨htop,⟨ho1,hkd.trans hb.kind,hrun,hdf.trans hb.defers,hc hb.calm⟩,rfl,rfl⟩)⟩;rcases hw main with ⟨fr',w',es,_,_,_,hxy⟩|⟨f,args,w',es,_,_,_,_,_,hxy⟩|hx
     ·obtain ⟨g1,g2,g3,g4⟩:=XH ((h2 τ d main cs).symm.trans (hxy cs).1);have:=(hxy cs).2;rw [←g1,←g3,←g4] at this;exact this
     ·obtain ⟨g1,g2,g3,g4⟩:=XH ((h2 τ d main cs).symm.trans (hxy cs).1);rw [htop] at g2;have:=congrArg List.length g2;simp at this
     ·obtain ⟨o,w',es,he⟩:=hx cs;have:=(h2 τ d main cs).symm.trans he;cases this
    ·
     obtain ⟨g1,g2,g3,g4⟩:=XH ((h2 τ d true []).symm.trans (hxy []).1);have htop:(nx τ d).top=[fr]:=by simpa using g2
     rw [htop] at hs1;refine ⟨(nx τ d).fr,[sfx s fr],(nx τ d).w,ev τ d,n τ d,h1 τ d,fun main cs=>?_,ih τ d _ _ (.inr ⟨[],fr,by rw [htop];rfl,ho1,by rw [g1];rfl,hb,⟨ops,i,rest,k,ht⟩,hs1.2.1 (by rw [g1];rfl),rfl,rfl⟩)⟩;rcases hw main with ⟨fr',w',es,_,_,_,hxy⟩|⟨f,args,w',es,_,_,_,_,_,hxy⟩|hx
     ·obtain ⟨g1,g2,g3,g4⟩:=XH ((h2 τ d main cs).symm.trans (hxy cs).1);rw [htop] at g2;have:=congrArg List.length g2;simp at this
     ·obtain ⟨g1,g2,g3,g4⟩:=XH ((h2 τ d main cs).symm.trans (hxy cs).1);have:=(hxy cs).2;rw [←g1,←g3,←g4] at this;exact this
     ·obtain ⟨o,w',es,he⟩:=hx cs;have:=(h2 τ d main cs).symm.trans he;cases this
    ·obtain ⟨o,w',es,he⟩:=hx [];have:=(h2 τ d true []).symm.trans he;cases this
  ·
   refine Safe.step' fun τ d=>?_;have app:∀(t:List Frame) (x:Frame) (cs:List Frame),(t++[x])++cs=t++(x::cs):=fun t x cs=>by simp
   by_cases hl:fr.mode=.run∨fr.defers≠[]∨t1≠[]
   ·obtain ⟨n',hres⟩:=Y24 H hstep hf hst hl (reW w τ d);rcases hres with ⟨fr1,top1,w1,es1,ho1,hs1,_,_,_,heq1⟩|hend
    rotate_left
    ·obtain ⟨o,w',es,he⟩:=hend τ d (JC w τ d n') true (bot::[]);have:=h2 τ d true [];rw [app,show reW w τ d=reW (reW w τ d) τ d from rfl,he] at this;cases this
    have key:(nx τ d).fr=fr1∧(nx τ d).top=top1++[bot]:=by
     have e1:=heq1 τ d (JC w τ d n') true (bot::[]);have e2:=h2 τ d true [];rw [app] at e2;obtain ⟨g1,g2,_,_⟩:=XH (e2.symm.trans e1);exact ⟨g1,by simpa using g2⟩
    obtain ⟨k1,k2⟩:=key;subst k1;refine ⟨(nx τ d).fr,top1++[sfx s bot],(nx τ d).w,ev τ d,n τ d,h1 τ d,fun main cs=>?_,ih τ d _ _ (.inr ⟨top1,bot,k2,ho1,hs1,hb,⟨ops,i,rest,k,ht⟩,hfin,rfl,rfl⟩)⟩;have e1:=heq1 τ d (JC w τ d n') main (bot::cs);have e2:=h2 τ d main cs;rw [app] at e2;obtain ⟨_,_,g3,g4⟩:=XH (e2.symm.trans e1);have e3:=heq1 τ d (JC w τ d n') main (sfx s bot::cs);rw [app,app];refine (show stepG P main (G fr (t1++sfx s bot::cs)) (reW w τ d)=_ from e3).trans ?_;rw [g3,g4]
   ·have hm:fr.mode≠.run:=fun e=>hl (.inl e);have hd:fr.defers=[]:=by
     apply Classical.byContradiction;intro e;exact hl (.inr (.inl e))
    have ht1:t1=[]:=by
     apply Classical.byContradiction;intro e;exact hl (.inr (.inr e))
    subst ht1;have hkn:fr.kind=.normal:=hst;obtain ⟨fn,hfn⟩:=hf.fn;cases hmode:fr.mode with
    |run=>exact absurd hmode hm
    |panicking chain=>
     exfalso;have e:=h2 τ d true [];rw [show ([]++[bot]:List Frame)++[]=[bot] from rfl,Z6 hm] at e;unfold unwind at e;simp only [hd,hmode,Y0H hf] at e;obtain ⟨g1,g2,_,_⟩:=XH (show GStep.go (G (bot.raise chain) []) _ #[]=_ from e);have h3':=h3 τ d;rw [←g1,show (nx τ d).top=[] by simpa using g2.symm] at h3';refine not_safe (fun fr w hq=>(hQ fr w hq).1) h3' (hb.ok.raise _) ((JO _ _).trans hb.kind) ?_ ?_
     ·unfold Frame.raise;split<;>simp
     ·have:(bot.raise chain).defers=bot.defers:=by unfold Frame.raise;split<;>rfl
      exact this.trans hb.defers
    |returning=>
     have hu:∀main (x:Frame) cs,stepG P main (G fr (x::cs)) (reW w τ d)=unwind P main fr (x::cs) none (reW w τ d):=fun main x cs=>Z6 hm _ _ _;cases hr:(results fn fr.tmps).runT P (reW w τ d) #[] with
     |mk r es=>
      cases r with
      |ok v w'=>
       have hgo:∀main (x:Frame) cs,stepG P main (G fr (x::cs)) (reW w τ d)=.go (G (x.finish v) cs) w' (seen P fr.fn es):=fun main x cs=>by
        rw [hu];unfold unwind;simp only [hd,hmode,hfn,hr,doReturn,hkn,GStep.after];simp [G]
       have e:=h2 τ d true [];obtain ⟨g1,g2,g3,g4⟩:=XH (e.symm.trans (hgo true bot []));have htop:(nx τ d).top=[]:=by simpa using g2
       refine ⟨sfx s (bot.finish v),[],(nx τ d).w,ev τ d,n τ d,h1 τ d,fun main cs=>?_,?_⟩
       ·show stepG P main (G fr (sfx s bot::cs)) _=_;rw [hgo,Y5y s ht,g3,g4];rfl
       ·refine ih τ d _ _ (.inl ⟨htop,?_,by rw [g1],rfl⟩);rw [g1];exact Y70 hb ht v (hfin v)
      |halt hh w'=>
       exfalso;have e:=h2 τ d true [];rw [show ([]++[bot]:List Frame)++[]=[bot] from rfl,hu] at e;unfold unwind at e;simp only [hd,hmode,hfn,hr,GStep.after] at e;cases hh<;>simp at e
theorem Y3.of_safe {Post:Goroutine→World→Prop} {cs:List Frame} (h:Safe P Q fr [] w) (hp:∀fr' w' d',Q fr' w'→Y3 P Post (G fr' cs) (reW w' w.tape d')):Y3 P Post (G fr cs) w:=by
 intro gs sl t q d h0 hL hP;obtain ⟨N,gs',fr',w',d',sl',t',q',h1,h2,h3,h4,h5,h6⟩:=Y2s h gs sl t q cs w.tape d h0 hL hP;obtain ⟨M,gs2,a2,w2,sl2,t2,q2,k1,k2,k3⟩:=hp fr' w' d' h4 gs' sl' t' q' d' h3 h5 h6;exact ⟨N+M,gs2,a2,w2,sl2,t2,q2,Y0i (show runNT P N (crowd gs (w.at d) sl) t=_ from h1) k1,by omega,k3⟩
theorem Y3.piece (H:X4 P A) (hstep:∀g,P.stepOf g=none) {c:Code} {Qn:Act→World→Prop} {a:Act} {b:Frame} {k:List Item} {cs:List Frame} {Post:Goroutine→World→Prop}
  (hp:YH P A b.fn c=true) (hc:Xm c=true) (hfn:∃fn,P.funcs[b.fn]?=some fn) (hkind:b.kind=.normal) (hslots:Xv A b.fn (fun t=>a.tmps.getD t undef)) (hd:a.defers=[])
  (hwp:∀τ,c.wp P (fun e a' w'=>e=.normal∧Qn a' w') a (reW w τ 0))
  (hpost:∀a' w' τ' d' d,Qn a' (reW w' τ' d')→Y3 P Post (G (b.at a' k) cs) (reW w' w.tape d)):Y3 P Post (G (b.at a (.code c::k)) cs) w:=by
 have hok:FrOk P A (b.at a [.code c]):=⟨hfn,rfl,.inl hkind,fun it hit=>by
  have:it=.code c:=by simpa [Frame.at] using hit
  subst this;exact hp,hslots,fun d hdd=>by
  have:d∈a.defers:=hdd;rw [hd] at this;cases this⟩
 have hS:Safe P (fun fr w=>∃τ d a',fr=b.at a' []∧Qn a' (reW w τ d)) (b.at a [.code c]) [] w:=by
  refine Y2G (x:=⟨b.at a [.code c],[],w⟩) H hstep ⟨hok,hkind⟩ (fun _ fr w=>∃a',fr=b.at a' []∧Qn a' w) (fun τ fr w d ⟨a',e,h⟩=>⟨τ,d,a',e,h⟩) fun τ=>?_;obtain ⟨e,a',w',⟨rfl,hq⟩,N,hN⟩:=hwp τ b [] [YE];exact ⟨N,b.at a' [],w',hN,a',rfl,hq⟩
 have hS':=Ya2 (Q':=fun fr w=>∃τ d a',fr=b.at a' k∧Qn a' (reW w τ d)) H hstep k (fun fr w ⟨τ,d,a',e,_⟩=>by rw [e];exact ⟨rfl,rfl⟩) (fun fr w ⟨τ,d,a',e,h⟩=>⟨τ,d,a',by rw [e];rfl,h⟩) hS _ _
  (.inl ⟨rfl,⟨hok,hkind,rfl,hd,fun it hit=>by
   have:it=.code c:=by simpa [Frame.at] using hit
   subst this;exact hc⟩,rfl,rfl⟩)
 exact Y3.of_safe (fr:=sfx k (b.at a [.code c])) hS' fun fr' w' d' ⟨τ,dd,a',e,h⟩=>by
  rw [e];exact hpost a' w' τ dd d' h
end
section
variable {P:Program} {A:Plan} {Post:Goroutine→World→Prop} {b:Frame} {a:Act} {k:List Item} {cs:List Frame} {w:World}
theorem Y3.ctl {g g':Goroutine} (hr:g.status=.running) (h:∀w,stepG P true g w=.go g' w) (hp:Y3 P Post g' w):Y3 P Post g w:=
 .step hr fun d=>⟨g',w.at d,#[],h _,by simp,hp.at d⟩
theorem Y3.seq {x y:Code} (h:Y3 P Post (G (b.at a (.code x::.code y::k)) cs) w):Y3 P Post (G (b.at a (.code (.seq x y)::k)) cs) w:=.ctl rfl (fun _=>stepG_seq) h
theorem Y3.region {id:Nat} {ops:Array Oper} (h:Y3 P Post (G (b.at a (.inRegion ops (List.range ops.size)::k)) cs) w):Y3 P Post (G (b.at a (.code (.region id ops false)::k)) cs) w:=.ctl rfl (fun _=>stepG_region) h
theorem Y3.regionEnd {ops:Array Oper} (h:Y3 P Post (G (b.at a k) cs) w):Y3 P Post (G (b.at a (.inRegion ops []::k)) cs) w:=.ctl rfl (fun _=>stepG_region_end) h
theorem Y3.ret (h:∀todo,Y3 P Post (G {b.at a todo with mode:=.returning} cs) w):Y3 P Post (G (b.at a (.code .ret::k)) cs) w:=.ctl rfl (fun _=>stepG_ret') (h _)
theorem Y6F {α:Type} (s:Sem α) (w:World):s.events P w #[]=(s.runT P w #[]).2:=by rw [Sem.runT_eq]
theorem Yw (H:X4 P A) {o:Oper} (hs:Xv A b.fn (fun t=>a.tmps.getD t undef)) (hp:Yk P A b.fn o=true) (w:World):∀e∈listed P b.fn a o w,EvOk e:=by
 have ho:=Y1V (ρ:=a.eval) H hs (fun _=>rfl) hp;obtain ⟨_,s2⟩:=J4 P _ w #[] ho (by simp);unfold listed;rw [Y6F];exact Xw s2
theorem Y3.value {ops:Array Oper} {i:Nat} {rest:List Nat} {o:Oper} {v:Value} {w':World} (ho:ops[i]?=some o) (hw:Region.wanted o (yielded ops a.tmps)=true) (hk:b.kind≠.early) (hr:∀d,∃d',(execOp a.eval o).run P (w.at d)=.ok (.value v) (w'.at d'))
  (he:∀d,∀e∈listed P b.fn a o (w.at d),EvOk e) (h:Y3 P Post (G (b.at (a.put o.dst v) (.inRegion ops rest::k)) cs) w'):Y3 P Post (G (b.at a (.inRegion ops (i::rest)::k)) cs) w:=
 .step rfl fun d=>by
  obtain ⟨d',e⟩:=hr d;exact ⟨_,_,_,stepG_value ho hw hk e,he d,h.at d'⟩
def CallsR (P:Program) (f:FuncId) (args:Array Value) (w:World) (R:Value→World→Prop):Prop:=
 ∀(cs:List Frame) (Post:Goroutine→World→Prop),(∀fr v w',fr.fn=f→(∀d,fr.leaving P (w'.at d) (.returned v))→R v w'→Y3 P Post (G fr cs) w')→Y3 P Post (G (Frame.enter P f args .normal) cs) w
theorem CallsR.mono {f:FuncId} {args:Array Value} {R R':Value→World→Prop} (h:CallsR P f args w R) (hm:∀v w',R v w'→R' v w'):CallsR P f args w R':=fun cs Post hp=>h cs Post fun fr v w' a b c=>hp fr v w' a b (hm v w' c)
theorem CallsR.of_calls (H:X4 P A) (hstep:∀g,P.stepOf g=none) {f:FuncId} {args:Array Value} (hen:Xn P A f args) (R:Value→World→Prop)
  (hc:∀τ,Calls P f args (reW w τ 0) (fun e w'=>∃v,e=.returned v∧R v w')):CallsR P f args w (fun v w'=>∃w₁ τ d d',R v (reW w₁ τ d)∧w'=reW w₁ w.tape d'):=fun cs Post hp=>by
 refine Y3.of_callsB cs (Y8B H hstep hen (fun _ e w'=>∃v,e=.returned v∧R v w') hc (fun _ _ ⟨v,e,_⟩=>by cases e)) fun fr e w' d' hf hl ⟨τ,d,v,e1,hR⟩=>?_;subst e1;exact hp fr v (reW w' w.tape d') hf (fun d=>hl w.tape d) ⟨w',τ,d,d',hR,rfl⟩
theorem Y3.leave {fr c:Frame} {v:Value} (hl:∀d,fr.leaving P (w.at d) (.returned v)) (h:Y3 P Post (G (c.finish v) cs) w):Y3 P Post (G fr (c::cs)) w:=by
 refine .step rfl fun d=>?_;obtain ⟨hm,hd,hk,fn,hf,hr⟩:=hl d;have ho:=Y0c (P:=P) fn fr.tmps;obtain ⟨_,s2⟩:=J4 P _ (w.at d) #[] ho (by simp);refine ⟨G (c.finish v) cs,w.at d,seen P fr.fn ((results fn fr.tmps).runT P (w.at d) #[]).2,?_,Xw s2,h.at d⟩;rw [Z6 (by rw [hm];simp)];have hr':((results fn fr.tmps).runT P (w.at d) #[]).1=.ok v (w.at d):=by rw [Sem.runT_fst];exact hr
 unfold unwind;cases hx:(results fn fr.tmps).runT P (w.at d) #[] with
 |mk r es=>
  rw [hx] at hr';simp only at hr';subst hr';simp only [hd,hm,hf,hx,doReturn,hk,GStep.after];simp [G]
theorem Y3.call {ops:Array Oper} {i:Nat} {rest:List Nat} {o:Oper} {f:FuncId} {args:Array Value} {R:Value→World→Prop} (ho:ops[i]?=some o) (hw:Region.wanted o (yielded ops a.tmps)=true) (hk:b.kind≠.early)
  (hr:∀d,(execOp a.eval o).run P (w.at d)=.ok (.enter f args) (w.at d)) (he:∀d,∀e∈listed P b.fn a o (w.at d),EvOk e) (hc:CallsR P f args w R)
  (h:∀v w',R v w'→Y3 P Post (G (b.at (a.put o.dst v) (.inRegion ops rest::k)) cs) w'):Y3 P Post (G (b.at a (.inRegion ops (i::rest)::k)) cs) w:=by
 refine .step rfl fun d=>⟨_,_,_,stepG_enter ho hw hk (hr d),he d,Y3.at (hc _ _ fun fr v w' _ hl hR=>?_) d⟩;refine Y3.leave hl ?_;have hfin:(b.at a (.inRegion ops (i::rest)::k)).finish v=b.at (a.put o.dst v) (.inRegion ops rest::k):=by rw [Frame.finish_at,ho];rfl
 rw [hfin];exact h v w' hR
theorem CallsR.intro {f:FuncId} {args:Array Value} {R:Value→World→Prop} {fn:Func} {c:Code} (hf:P.funcs[f]?=some fn) (hb:fn.body=some c)
  (h:∀(cs:List Frame) (Post:Goroutine→World→Prop),(∀(a:Act) (todo:List Item) (v:Value) (w':World),a.defers=[]→(∀d,(results fn a.tmps).run P (w'.at d)=.ok v (w'.at d))→R v w'→Y3 P Post (G {(base f).at a todo with mode:=.returning} cs) w')→
   Y3 P Post (G ((base f).at {tmps:=args++Array.replicate (fn.ntmps-args.size) undef,defers:=[]} [.code c]) cs) w):CallsR P f args w R:=fun cs Post hp=>by
 rw [enter_at args hf hb];exact h cs Post fun a todo v w' hd hr hR=>hp _ v w' rfl (fun d=>⟨rfl,hd,rfl,fn,hf,hr d⟩) hR
end
open Go.RowKit
abbrev RS (w w₁:World):Prop:=∃d,w₁=w.at d
abbrev DS (_ _:World) (es:Array Event):Prop:=∀e∈es,EvOk e
theorem Y2:Terms RS DS:=⟨fun _ _ _ ⟨_,h⟩ ⟨e,k⟩=>⟨e,by rw [k,h];rfl⟩,fun _ e he=>by simp at he⟩
theorem Ju:LetsDraw DS:=fun _ e he=>by simp at he
theorem Y3.of_goes {P:Program} {Post:Goroutine→World→Prop} {g:Goroutine} {w:World} (h:Y1 P true RS DS (Y3 P Post) g w):Y3 P Post g w:=by
 induction h with
 |stop hs h=>exact h _ ⟨_,rfl⟩
 |step nx hs h1 h2 ih=>exact .step hs fun d=>⟨_,_,_,(h1 _ ⟨d,rfl⟩).1,(h1 _ ⟨d,rfl⟩).2,ih _ ⟨d,rfl⟩⟩
def Is (W w:World):Prop:=∃d,w=W.at d
section
variable {W w w':World}
theorem Is.self (W:World):Is W W:=⟨W.drawn,rfl⟩
theorem Is.rely (h:Is W w) (r:RS w w'):Is W w':=by
 obtain ⟨d,rfl⟩:=h;obtain ⟨e,rfl⟩:=r;exact ⟨e,rfl⟩
theorem Is.drew (h:Is W w):Is W {w with drawn:=w.drawn+1}:=by
 obtain ⟨d,rfl⟩:=h;exact ⟨d+1,rfl⟩
theorem Is.cell (h:Is W w) (a:Addr):w.cell? a=W.cell? a:=by
 obtain ⟨d,rfl⟩:=h;rfl
theorem Is.frozen (h:Is W w) (a:Addr):w.frozen? a=W.frozen? a:=by
 obtain ⟨d,rfl⟩:=h;rfl
theorem Is.size (h:Is W w):w.heap.size=W.heap.size:=by
 obtain ⟨d,rfl⟩:=h;rfl
theorem Is.alloc (h:Is W w) (o:Obj):Is (W.alloc o) (w.alloc o):=by
 obtain ⟨d,rfl⟩:=h;exact ⟨d,rfl⟩
theorem Is.set (h:Is W w) (a:Addr) (v:Value):Is (W.setCell a v) (w.setCell a v):=by
 obtain ⟨d,rfl⟩:=h;exact ⟨d,rfl⟩
end
end Go.Proofs.YtdoghgnifkgfdaaGreat.Mute
