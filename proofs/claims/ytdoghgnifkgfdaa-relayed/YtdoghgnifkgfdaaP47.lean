import Derived.ProofKit
import Derived.SizedLaws
import Derived.Deep.Slices
import Derived.Lib.SmallJoins
import Derived.Conc.LeavingOf
import Derived.Test.YtdoghgnifkgfdaaP06
import Derived.Test.YtdoghgnifkgfdaaP10
set_option maxRecDepth 100000
set_option maxHeartbeats 16000000
namespace Go.Proofs.Ytdoghgnifkgfdaa
open Go.ChangeShapes Go.WideShapes Go.ChangeAt Go.RowKit Go.Deep Go.Joins
section
variable {H:Type} {enc:TypeId×Value→H} {P:Program} {w:World} {base:Nat} {spare:Nat→Bool} {held:Bool}
def Fit (P:Program) (t:TypeId) (d:DataW H):Prop:=∀n∈DataW.weights P t d,n≤reachBytes
theorem weightsAll_mem {e:TypeId}:∀{l:List (DataW H)} {d:DataW H},d∈l→∀n∈d.weights P e,n∈DataW.weightsAll P e l
 |x::l,d,hd,n,hn=>by
  simp only [DataW.weightsAll,List.mem_append];rcases List.mem_cons.1 hd with rfl|h
  ·exact .inl hn
  ·exact .inr (weightsAll_mem h n hn)
theorem fit_slice {t e:TypeId} {elems sp:List (DataW H)} (hu:P.underlying t=some (.slice e)) (h:Fit P t (.slice elems sp)):
  (elems.length+sp.length)*P.bytesOf e≤reachBytes∧∀d∈elems,Fit P e d:=by
 unfold Fit at h;simp only [DataW.weights,hu,List.mem_cons,List.mem_append] at h;exact ⟨h _ (.inl rfl),fun d hd n hn=>h n (.inr (.inl (weightsAll_mem hd n hn)))⟩
theorem open_sl {t e k bn fuel:Nat} {v:Value} {x:DataW H×List MemPlace} (ht:P.underlying t=some (.slice e)) (hce:P.cellsOf e=k) (hk:0<k) (hbe:P.bytesOf e=bn)
  (h:DataW.trod enc P w base spare held fuel t [v]=some x) (hfit:Fit P t x.1):
  ∃(nl:Bool) (p:Option Addr) (n cap:Nat) (F:Nat→Value) (D:Nat→DataW H×List MemPlace) (m:Nat),v=.slice p n cap∧n≤cap∧(p=none↔nl=true)∧(p=none→n=0∧cap=0)∧bn*n≤140737488355328∧Sl w p (n*k) F∧
   ∀i,i<n→DataW.trod enc P w base spare held m e ((List.range k).map fun r=>F (i*k+r))=some (D i)∧Fit P e (D i).1:=by
 rcases open_slice ht h with ⟨hcs,rfl⟩|⟨a,len,cap,m,n,D,Pl,hcs,-,hl,-,hmm,rfl,hel⟩
 ·obtain rfl:v=.slice none 0 0:=by simpa using hcs
  exact ⟨true,none,0,0,fun _=>undef,fun _=>(.nil,[]),0,rfl,Nat.le_refl _,by simp,by simp,by simp,.inl (by simp),fun i hi=>absurd hi (by omega)⟩
 ·obtain rfl:v=.slice (some a) len cap:=by simpa using hcs
  have hlm:len≤m:=by rw [hmm];split<;>omega
  obtain ⟨hw1,hw2⟩:=fit_slice ht hfit;rw [hbe] at hw1;simp only [List.length_map,List.length_range,reachBytes] at hw1;have hb:bn*len≤140737488355328:=by
   have h1:len*bn≤(len+(m-len))*bn:=Nat.mul_le_mul_right _ (by omega);rw [Nat.mul_comm];omega
  rw [hce] at hel;obtain ⟨CS,hCS⟩:=choose_lt (α:=List Value) (n:=len) (p:=fun i cs=>w.cells? base (a.add (i*k)) k=some cs∧DataW.trod enc P w base spare held n e cs=some (D i,Pl i)) (fun i hi=>hel i (by omega));have hdm:∀i r,r<k→(i*k+r) / k=i∧(i*k+r) % k=r:=fun i r hr=>⟨by rw [Nat.mul_comm,Nat.mul_add_div hk,Nat.div_eq_of_lt hr,Nat.add_zero],by rw [Nat.mul_comm,Nat.mul_add_mod,Nat.mod_eq_of_lt hr]⟩;have hcell:∀j,j<len*k→w.cell? (a.add j)=some ((CS (j / k))[j % k]!):=fun j hj=>by
   have hi:j / k<len:=(Nat.div_lt_iff_lt_mul hk).2 hj;have hr:j % k<k:=Nat.mod_lt _ hk;obtain ⟨_,hlen,hc⟩:=World.cells?_some (hCS (j / k) hi).1;have h3:=hc (j % k) hr;rw [add_add,show j / k*k+j % k=j by rw [Nat.mul_comm];exact Nat.div_add_mod j k] at h3;rw [h3];simp [hlen,hr]
  refine ⟨false,some a,len,cap,fun j=>(CS (j / k))[j % k]!,fun i=>(D i,Pl i),n,rfl,hl,by simp,by simp,hb,?_,fun i hi=>⟨?_,hw2 _ (List.mem_map.2 ⟨i,List.mem_range.2 hi,rfl⟩)⟩⟩
  ·by_cases h0:len*k=0
   ·exact .inl h0
   ·obtain ⟨b,off,spot⟩:=a;have hspot:spot=none:=by simpa [Addr.add] using World.cell?_spot (hcell 0 (by omega))
    subst hspot;exact .inr ⟨b,off,rfl,fun j hj=>by rw [←add_plain];exact hcell j hj⟩
  ·obtain ⟨h1,h2⟩:=hCS i hi;obtain ⟨_,hlen,_⟩:=World.cells?_some h1;rw [←h2];congr 1;apply List.ext_getElem?;intro r;by_cases hr:r<k
   ·have:=hdm i r hr;simp [hr,this.1,Nat.mod_eq_of_lt hr,hlen]
   ·simp [hr,hlen]
def Nums (enc:TypeId×Value→H) (P:Program) (w:World) (base:Nat) (spare:Nat→Bool) (held:Bool) (e k:Nat):Prop:=
 ∀fuel cs x,DataW.trod enc P w base spare held fuel e cs=some x→∀r,r<k→∃n:Int,cs[r]?=some (.int .i64 n)∧-9223372036854775808≤n∧n≤9223372036854775807
theorem open_z {t e k bn fuel:Nat} {v:Value} {x:DataW H×List MemPlace} (ht:P.underlying t=some (.slice e)) (hce:P.cellsOf e=k) (hk:0<k) (hbe:P.bytesOf e=bn) (hn:Nums enc P w base spare held e k)
  (h:DataW.trod enc P w base spare held fuel t [v]=some x) (hfit:Fit P t x.1):
  ∃(nl:Bool) (n:Nat) (z:Nat→Int),SlZ w v nl n k z bn∧∀j,j<n*k→-9223372036854775808≤z j∧z j≤9223372036854775807:=by
 obtain ⟨nl,p,n,cap,F,D,m,h1,h2,h3,h4,h5,h6,h7⟩:=open_sl ht hce hk hbe h hfit;obtain ⟨z,hz⟩:=choose_lt (α:=Int) (n:=n*k) (p:=fun j y=>F j=.int .i64 y∧-9223372036854775808≤y∧y≤9223372036854775807) (fun j hj=>by
  have hi:j / k<n:=(Nat.div_lt_iff_lt_mul hk).2 hj;have hr:j % k<k:=Nat.mod_lt _ hk;obtain ⟨y,hy,hb⟩:=hn _ _ _ (h7 (j / k) hi).1 (j % k) hr;rw [List.getElem?_map,List.getElem?_range hr] at hy;simp only [Option.map_some,Option.some.injEq] at hy;rw [show j / k*k+j % k=j by rw [Nat.mul_comm];exact Nat.div_add_mod j k] at hy;exact ⟨y,hy,hb⟩)
 exact ⟨nl,n,z,⟨p,cap,h1,h2,h3,h4,h5,h6.congr (fun j hj=>(hz j hj).1)⟩,fun j hj=>(hz j hj).2⟩
end
section
variable {H:Type} {enc:TypeId×Value→H} {w:World} {base:Nat} {spare:Nat→Bool} {held:Bool}
theorem c_int64:Try.prog.cellsOf 2=1:=by kernel_rfl
theorem y_int64:Try.prog.bytesOf 2=8:=by kernel_rfl
theorem num1 {t:Nat} (ht:Try.prog.underlying t=some (.int .i64)):Nums enc Try.prog w base spare held t 1:=by
 intro fuel cs x h r hr;obtain rfl:r=0:=by omega
 obtain ⟨n,rfl,-,hw⟩:=DataW.trod_int ht h;exact ⟨n,rfl,bounds_i64 hw⟩
end
end Go.Proofs.Ytdoghgnifkgfdaa
namespace Go.Proofs.Ytdoghgnifkgfdaa.Mute
open Go Go.Conc
section
variable {P:Program}
theorem last_step {fr:Frame} {v:Value} {w:World} (hl:fr.leaving P w (.returned v)) (hi:P.inits.idxOf? fr.fn=none):∃es,stepG P true (G fr []) w=.ended (.done v) w es∧∀e∈es,EvOk e:=by
 obtain ⟨hm,hd,hk,fn,hf,hr⟩:=hl;have ho:=results_ok (P:=P) fn fr.tmps;obtain ⟨_,s2⟩:=runT_sound P _ w #[] ho (by simp);refine ⟨seen P fr.fn ((results fn fr.tmps).runT P w #[]).2,?_,evOk_seen s2⟩;rw [stepG_unwind (by rw [hm];simp)];have hr':((results fn fr.tmps).runT P w #[]).1=.ok v w:=by rw [Sem.runT_fst];exact hr
 unfold unwind;cases hx:(results fn fr.tmps).runT P w #[] with
 |mk r es=>
  rw [hx] at hr';simp only at hr';subst hr';simp only [hd,hm,hf,hx,doReturn,hk,hi,GStep.after];simp
theorem runN_of_runNT:∀{N:Nat} {m:Machine} {t t':Trace} {m':Machine},runNT P N m t=(.next m',t')→runN P N m=.next m'
 |0,m,t,t',m',h=>by
  simp only [runNT] at h;cases h;rfl
 |N+1,m,t,t',m',h=>by
  simp only [runNT] at h;simp only [runN];split at h
  ·rename_i mm ops hs
   have:step P m=.next mm:=by unfold step;rw [hs]
   rw [this];exact runN_of_runNT h
  ·rename_i hx _
   simp only [Prod.mk.injEq] at h;exact absurd h.1 (hx _)
theorem runNT_next {N:Nat} {m mm:Machine} {t ops:Trace} (h:stepT P m=(.next mm,ops)):runNT P (N+1) m t=runNT P N mm (t++ops):=by simp only [runNT,h]
theorem runNT_snoc {N:Nat} {m m':Machine} {t t' ops:Trace} {o:Outcome} {w':World} (h:runNT P N m t=(.next m',t')) (hs:stepT P m'=(.ended o w',ops)):runNT P (N+1) m t=(.ended o w',t'++ops):=by
 induction N generalizing m t with
 |zero=>
  simp only [runNT] at h;cases h;simp only [runNT,hs]
 |succ N ih=>
  cases hm:stepT P m with
  |mk s ops'=>
   cases s with
   |next mm=>
    rw [runNT_next hm] at h ⊢;exact ih h
   |ended o w=>
    simp only [runNT,hm] at h;cases h
theorem ends_good {Post:Value→World→Prop} {fr:Frame} {v:Value} {w:World} (hl:∀d,fr.leaving P (w.at d) (.returned v)) (hi:P.inits.idxOf? fr.fn=none) (hp:∀d,Post v (w.at d)):
  ∀(gs:Array Goroutine) (sl:Option (Nat×Nat)) (t:Trace) (q:Nat→Nat) (d:Nat),gs[0]?=some (G fr [])→Leavers P t gs q→PastE t→
   ∃N last t₁ o w' ops,runNT P N (crowd gs (w.at d) sl) t=(.next last,t₁)∧stepT P last=(.ended o w',ops)∧Go.Conc.Good P Post last o w' (t₁++ops):=by
 intro gs sl t q;generalize hM:Go.ConcN.sumTo gs.size q=M;induction M using Nat.strongRecOn generalizing gs sl t q with
 |_ M ihM=>
  intro d h0 hL hP;obtain ⟨i,g,d',sl',hi',hg,hst⟩:=crowd_pick (P:=P) (w:=w.at d) (sl:=sl) (leavers_awake hL h0 rfl) ⟨0,_,h0,rfl⟩;by_cases hi0:i=0
  ·subst hi0;obtain rfl:g=G fr []:=by rw [h0] at hi';exact (Option.some.inj hi').symm
   obtain ⟨es,hend,hes⟩:=last_step (hl d') hi;have hrunT:=runT_many_ended (P:=P) (sl:=sl') (i:=0) h0 (show stepG P (0==0) (G fr []) ((w.at d).at d')=_ from hend);have hP':=hP.own (fn:=(G fr []).frame.fn) (pos:=(G fr []).frame.place) hes;refine ⟨0,_,t,_,_,_,rfl,hst.trans hrunT,v,rfl,hp d',hP'.clean,hP'.over,⟨fun x hx=>?_,rfl⟩,fun j x hx hj=>?_⟩
   ·obtain ⟨j,hj⟩:=List.mem_iff_getElem?.1 hx;rw [List.getElem?_drop] at hj;exact ⟨_,(hL.old (1+j) x (by omega) (by simpa [crowd] using hj)).leaves⟩
   ·have hq:=hL.old j x (by omega) hx;refine ⟨q j,?_⟩;have e:(t++MemOp.ofEvents 0 (G fr []).frame.fn (G fr []).frame.place es).deaf j (t++MemOp.ofEvents 0 (G fr []).frame.fn (G fr []).frame.place es).size=Deaf t j:=
     Deaf_other t (g:=j) (g':=0) (by omega) _ ofEvents_g
    rw [e];exact hq.hears _
  ·obtain ⟨gs',ops,q',e1,e2,e3,e4,e5,e6⟩:=leavers_slip (w:=(w.at d).at d') (sl:=sl') hL hP h0 rfl hi' hg (by omega);obtain ⟨N,last,t₁,o,w',ops',k1,k2,k3⟩:=ihM _ (by omega) gs' sl' (t++ops) q' rfl d' e3 e4 e5;exact ⟨N+1,last,t₁,o,w',ops',by simp only [runNT,hst,e1];exact k1,k2,k3⟩
theorem CallsR.good {f:FuncId} {args:Array Value} {W:World} {R:Value→World→Prop} {Post:Value→World→Prop} (h:CallsR P f args W R) (hi:P.inits.idxOf? f=none) (hp:∀v w' d,R v w'→Post v (w'.at d)):
  ∃M last o w' t',runNT P (M+1) (solo (G (Frame.enter P f args .normal) []) W) #[]=(.ended o w',t')∧runN P M (solo (G (Frame.enter P f args .normal) []) W)=.next last∧step P last=.ended o w'∧Go.Conc.Good P Post last o w' t':=by
 have hrun:=h [] (fun g w'=>∃fr v w₀ d,w'=World.at w₀ d∧g=G fr []∧fr.fn=f∧(∀d,fr.leaving P (w₀.at d) (.returned v))∧R v w₀) fun fr v w' hf hl hR=>.done fun d=>⟨fr,v,w',d,rfl,rfl,hf,hl,hR⟩;obtain ⟨N,gs',a',w',sl',t',q',h1,_,h3,⟨fr,v,w₀,d,rfl,rfl,hf,hl,hR⟩,h5,h6⟩:=hrun #[G (Frame.enter P f args .normal) []] Option.none #[] (fun _=>0) W.drawn rfl (leavers_one _ _) pastE_nil;obtain ⟨M,last,t₁,o,w',ops,k1,k2,k3⟩:=ends_good (Post:=Post) hl (by rw [hf];exact hi) (fun d=>hp v w₀ d hR) gs' sl' t' q' d h3 h5 h6;have hall:=runNT_glue h1 k1;refine ⟨N+M,last,o,w',t₁++ops,runNT_snoc hall k2,runN_of_runNT hall,by unfold step;rw [k2],k3⟩
end
end Go.Proofs.Ytdoghgnifkgfdaa.Mute
