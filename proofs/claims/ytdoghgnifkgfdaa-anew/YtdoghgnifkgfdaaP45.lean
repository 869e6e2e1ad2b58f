import Derived.Conc.LeavingOf
import Derived.Test.YtdoghgnifkgfdaaP06
set_option maxRecDepth 100000
set_option maxHeartbeats 16000000
namespace Go.Proofs.Ytdoghgnifkgfdaa.Mute
open Go Go.Conc
section
variable {P:Program}
theorem last_step {fr:Frame} {v:Value} {w:World} (hl:fr.leaving P w (.returned v)) (hi:P.inits.idxOf? fr.fn=none):∃es,stepG P true (G fr []) w=.ended (.done v) w es∧∀e∈es,EvOk e:=by
 obtain ⟨hm,hd,hk,fn,hf,hr⟩:=hl;have ho:=results_ok (P:=P) fn fr.tmps;obtain ⟨_,s2⟩:=runT_sound P _ w #[] ho (by simp);refine ⟨seen P fr.fn ((results fn fr.tmps).runT P w #[]).2,?_,evOk_seen s2⟩;rw [stepG_unwind (by rw [hm];simp)];have hr':((results fn fr.tmps).runT P w #[]).1=.ok v w:=by rw [Sem.runT_fst];exact hr
 unfold unwind;cases hx:(results fn fr.tmps).runT P w #[] with
 |mk r es=>
  rw [hx] at hr';simp only at hr';subst hr';simp only [hd,hm,hf,hx,doReturn,hk,hi,GStep.after];simp
theorem runN_of_runNT:∀{N:Nat} {m:Machine} {t t':Trace} {m':Machine},runNT P N m t=(.next m',t')→runN P N m=.next m'
 |0,m,t,t',m',h=>by
  simp only [runNT] at h;cases h;rfl
 |N+1,m,t,t',m',h=>by
  simp only [runNT] at h;simp only [runN];split at h
  ·rename_i mm ops hs
   have:step P m=.next mm:=by unfold step;rw [hs]
   rw [this];exact runN_of_runNT h
  ·rename_i hx _
   simp only [Prod.mk.injEq] at h;exact absurd h.1 (hx _)
theorem runNT_next {N:Nat} {m mm:Machine} {t ops:Trace} (h:stepT P m=(.next mm,ops)):runNT P (N+1) m t=runNT P N mm (t++ops):=by simp only [runNT,h]
theorem runNT_snoc {N:Nat} {m m':Machine} {t t' ops:Trace} {o:Outcome} {w':World} (h:runNT P N m t=(.next m',t')) (hs:stepT P m'=(.ended o w',ops)):runNT P (N+1) m t=(.ended o w',t'++ops):=by
 induction N generalizing m t with
 |zero=>
  simp only [runNT] at h;cases h;simp only [runNT,hs]
 |succ N ih=>
  cases hm:stepT P m with
  |mk s ops'=>
   cases s with
   |next mm=>
    rw [runNT_next hm] at h ⊢;exact ih h
   |ended o w=>
    simp only [runNT,hm] at h;cases h
theorem ends_good {Post:Value→World→Prop} {fr:Frame} {v:Value} {w:World} (hl:∀d,fr.leaving P (w.at d) (.returned v)) (hi:P.inits.idxOf? fr.fn=none) (hp:∀d,Post v (w.at d)):
  ∀(gs:Array Goroutine) (sl:Option (Nat×Nat)) (t:Trace) (q:Nat→Nat) (d:Nat),gs[0]?=some (G fr [])→Leavers P t gs q→PastE t→
   ∃N last t₁ o w' ops,runNT P N (crowd gs (w.at d) sl) t=(.next last,t₁)∧stepT P last=(.ended o w',ops)∧Go.Conc.Good P Post last o w' (t₁++ops):=by
 intro gs sl t q;generalize hM:Go.ConcN.sumTo gs.size q=M;induction M using Nat.strongRecOn generalizing gs sl t q with
 |_ M ihM=>
  intro d h0 hL hP;obtain ⟨i,g,d',sl',hi',hg,hst⟩:=crowd_pick (P:=P) (w:=w.at d) (sl:=sl) (leavers_awake hL h0 rfl) ⟨0,_,h0,rfl⟩;by_cases hi0:i=0
  ·subst hi0;obtain rfl:g=G fr []:=by rw [h0] at hi';exact (Option.some.inj hi').symm
   obtain ⟨es,hend,hes⟩:=last_step (hl d') hi;have hrunT:=runT_many_ended (P:=P) (sl:=sl') (i:=0) h0 (show stepG P (0==0) (G fr []) ((w.at d).at d')=_ from hend);have hP':=hP.own (fn:=(G fr []).frame.fn) (pos:=(G fr []).frame.place) hes;refine ⟨0,_,t,_,_,_,rfl,hst.trans hrunT,v,rfl,hp d',hP'.clean,hP'.over,⟨fun x hx=>?_,rfl⟩,fun j x hx hj=>?_⟩
   ·obtain ⟨j,hj⟩:=List.mem_iff_getElem?.1 hx;rw [List.getElem?_drop] at hj;exact ⟨_,(hL.old (1+j) x (by omega) (by simpa [crowd] using hj)).leaves⟩
   ·have hq:=hL.old j x (by omega) hx;refine ⟨q j,?_⟩;have e:(t++MemOp.ofEvents 0 (G fr []).frame.fn (G fr []).frame.place es).deaf j (t++MemOp.ofEvents 0 (G fr []).frame.fn (G fr []).frame.place es).size=Deaf t j:=
     Deaf_other t (g:=j) (g':=0) (by omega) _ ofEvents_g
    rw [e];exact hq.hears _
  ·obtain ⟨gs',ops,q',e1,e2,e3,e4,e5,e6⟩:=leavers_slip (w:=(w.at d).at d') (sl:=sl') hL hP h0 rfl hi' hg (by omega);obtain ⟨N,last,t₁,o,w',ops',k1,k2,k3⟩:=ihM _ (by omega) gs' sl' (t++ops) q' rfl d' e3 e4 e5;exact ⟨N+1,last,t₁,o,w',ops',by simp only [runNT,hst,e1];exact k1,k2,k3⟩
theorem CallsR.good {f:FuncId} {args:Array Value} {W:World} {R:Value→World→Prop} {Post:Value→World→Prop} (h:CallsR P f args W R) (hi:P.inits.idxOf? f=none) (hp:∀v w' d,R v w'→Post v (w'.at d)):
  ∃M last o w' t',runNT P (M+1) (solo (G (Frame.enter P f args .normal) []) W) #[]=(.ended o w',t')∧runN P M (solo (G (Frame.enter P f args .normal) []) W)=.next last∧step P last=.ended o w'∧Go.Conc.Good P Post last o w' t':=by
 have hrun:=h [] (fun g w'=>∃fr v w₀ d,w'=World.at w₀ d∧g=G fr []∧fr.fn=f∧(∀d,fr.leaving P (w₀.at d) (.returned v))∧R v w₀) fun fr v w' hf hl hR=>.done fun d=>⟨fr,v,w',d,rfl,rfl,hf,hl,hR⟩;obtain ⟨N,gs',a',w',sl',t',q',h1,_,h3,⟨fr,v,w₀,d,rfl,rfl,hf,hl,hR⟩,h5,h6⟩:=hrun #[G (Frame.enter P f args .normal) []] Option.none #[] (fun _=>0) W.drawn rfl (leavers_one _ _) pastE_nil;obtain ⟨M,last,t₁,o,w',ops,k1,k2,k3⟩:=ends_good (Post:=Post) hl (by rw [hf];exact hi) (fun d=>hp v w₀ d hR) gs' sl' t' q' d h3 h5 h6;have hall:=runNT_glue h1 k1;refine ⟨N+M,last,o,w',t₁++ops,runNT_snoc hall k2,runN_of_runNT hall,by unfold step;rw [k2],k3⟩
end
end Go.Proofs.Ytdoghgnifkgfdaa.Mute
