import Derived.Orders
import Derived.Test.YtdoghgnifkgfdaaP18
import Derived.Test.YtdoghgnifkgfdaaP20
set_option maxRecDepth 100000
set_option maxHeartbeats 16000000
namespace Go.Proofs.Ytdoghgnifkgfdaa.Mute
open Go Go.Conc
open Go.ConcN (sumTo upd sumTo_upd upd_ne upd_same)
def RunsB (P:Program) (Post:Goroutine→World→Prop) (a:Goroutine) (w:World):Prop:=
 ∀(gs:Array Goroutine) (sl:Option (Nat×Nat)) (t:Trace) (q:Nat→Nat) (d:Nat),gs[0]?=some a→Leavers P t gs q→PastE t→
  ∃N gs' a' w' sl' t' q',runNT P N (crowd gs (w.at d) sl) t=(.next (crowd gs' w' sl'),t')∧gs.size≤gs'.size∧gs'[0]?=some a'∧Post a' w'∧Leavers P t' gs' q'∧PastE t'
section
variable {P:Program} {Post Q:Goroutine→World→Prop} {a:Goroutine} {w:World}
theorem runNT_glue {m m' m'':Machine} {t t' t'':Trace} {N K:Nat} (h:runNT P N m t=(.next m',t')) (hk:runNT P K m' t'=(.next m'',t'')):runNT P (N+K) m t=(.next m'',t''):=by
 induction N generalizing m t with
 |zero=>
  simp only [runNT] at h;cases h;rw [Nat.zero_add];exact hk
 |succ N ih=>
  rw [show N+1+K=(N+K)+1 by omega];simp only [runNT] at h ⊢;split at h
  ·exact ih h
  ·rename_i hx _
   simp only [Prod.mk.injEq] at h;exact absurd h.1 (hx _)
theorem RunsB.done (h:∀d,Post a (w.at d)):RunsB P Post a w:=fun gs sl t q d h0 hL hP=>⟨0,gs,a,w.at d,sl,t,q,rfl,Nat.le_refl _,h0,h d,hL,hP⟩
theorem RunsB.at (h:RunsB P Post a w) (d:Nat):RunsB P Post a (w.at d):=fun gs sl t q d' h0 hL hP=>h gs sl t q d' h0 hL hP
theorem RunsB.bind (h:RunsB P Q a w) (hm:∀a' w',Q a' w'→RunsB P Post a' w'):RunsB P Post a w:=fun gs sl t q d h0 hL hP=>by
 obtain ⟨N,gs',a',w',sl',t',q',h1,h2,h3,h4,h5,h6⟩:=h gs sl t q d h0 hL hP;obtain ⟨M,gs2,a2,w2,sl2,t2,q2,k1,k2,k3⟩:=hm _ _ h4 gs' sl' t' q' w'.drawn h3 h5 h6;exact ⟨N+M,gs2,a2,w2,sl2,t2,q2,runNT_glue h1 k1,Nat.le_trans h2 k2,k3⟩
theorem leavers_awake {gs:Array Goroutine} {t:Trace} {q:Nat→Nat} (hL:Leavers P t gs q) (ha:gs[0]?=some a) (hr:a.status=.running):∀g∈gs,awake g:=by
 intro g hg;obtain ⟨i,hi,rfl⟩:=Array.mem_iff_getElem.1 hg;rcases Nat.eq_zero_or_pos i with rfl|hpos
 ·have:gs[0]=a:=by simpa [Array.getElem?_eq_getElem hi] using ha
  rw [this];exact awake_of (.inl hr)
 ·exact awake_of ((hL.old i _ hpos (Array.getElem?_eq_getElem hi)).status.elim .inl fun x=>.inr (.inr x))
theorem leavers_slip {gs:Array Goroutine} {t:Trace} {q:Nat→Nat} {g:Goroutine} {i:Nat} {sl:Option (Nat×Nat)} (hL:Leavers P t gs q) (hP:PastE t) (ha:gs[0]?=some a) (hr:a.status=.running) (hi:gs[i]?=some g) (hg:g.status=.running) (hpos:0<i):
  ∃gs' ops q',runT P (crowd gs w sl) i=(.next (crowd gs' w sl),ops)∧gs'.size=gs.size∧gs'[0]?=some a∧Leavers P (t++ops) gs' q'∧PastE (t++ops)∧sumTo gs'.size q'<sumTo gs.size q:=by
 have hq:=hL.old i g hpos hi;have hi0:i≠0:=by omega
 have hlt:i<gs.size:=(Array.getElem?_eq_some_iff.1 hi).1;have hi0':(i==0)=false:=by simp;omega
 cases hqi:q i with
 |zero=>rw [hqi] at hq;rw [hq.1] at hg;cases hg
 |succ m=>
  rw [hqi] at hq;rcases hq with ⟨hf,_⟩|⟨_,g',es,hm,hstp,hq'⟩
  ·rw [hf] at hg;cases hg
  have hrunT:=runT_crowd_go (P:=P) (sl:=sl) (i:=i) hi (by rw [hi0'];exact hstp w);have hsz:((gs.map (woken P g g' w)).setIfInBounds i g').size=gs.size:=by simp
  have hsum:sumTo gs.size (upd q i m)+(m+1)=sumTo gs.size q+m:=by
   have:=sumTo_upd q m id hlt;simpa [hqi] using this
  refine ⟨_,_,upd q i m,hrunT,hsz,?_,⟨fun j x hj hx=>?_,fun j hj=>?_⟩,hP.mute hi0 hm,by rw [hsz];omega⟩
  ·rw [Array.getElem?_setIfInBounds_ne hi0,Array.getElem?_map,ha];simp [woken_running hr]
  ·by_cases hji:i=j
   ·subst hji;rw [Array.getElem?_setIfInBounds_self_of_lt (by simpa using hlt)] at hx;obtain rfl:=Option.some.inj hx;rw [upd_same,Deaf_own];exact hq'
   ·rw [Array.getElem?_setIfInBounds_ne hji,Array.getElem?_map] at hx;obtain ⟨y,hy,rfl⟩:=Option.map_eq_some_iff.1 hx;have hqj:=hL.old j y hj hy;rw [woken_quitsD hqj,upd_ne q m (Ne.symm hji),Deaf_other t hji _ ofEvents_g];exact hqj
  ·rw [Deaf_other t (g':=i) (by simp at hj;omega) _ ofEvents_g];exact hL.above j (by simpa using hj)
theorem RunsB.picked (hr:a.status=.running) (H:∀(gs:Array Goroutine) (sl:Option (Nat×Nat)) (t:Trace) (q:Nat→Nat) (d:Nat),gs[0]?=some a→Leavers P t gs q→PastE t→
   ∃gs1 w1 sl1 ops q1 N gs' a' w' sl' t' q',runT P (crowd gs (w.at d) sl) 0=(.next (crowd gs1 w1 sl1),ops)∧q1=q∧runNT P N (crowd gs1 w1 sl1) (t++ops)=(.next (crowd gs' w' sl'),t')∧gs.size≤gs'.size∧gs'[0]?=some a'∧Post a' w'∧Leavers P t' gs' q'∧PastE t'):RunsB P Post a w:=by
 intro gs sl t q;generalize hM:sumTo gs.size q=M;induction M using Nat.strongRecOn generalizing gs sl t q with
 |_ M ihM=>
  intro d h0 hL hP;obtain ⟨i,g,d',sl',hi,hg,hst⟩:=crowd_pick (P:=P) (w:=w.at d) (sl:=sl) (leavers_awake hL h0 hr) ⟨0,_,h0,hr⟩;by_cases hi0:i=0
  ·subst hi0;obtain ⟨gs1,w1,sl1,ops,q1,N,gs',a',w',sl2,t',q',e1,_,e2,e3⟩:=H gs sl' t q d' h0 hL hP;exact ⟨N+1,gs',a',w',sl2,t',q',by simp only [runNT,hst];rw [show ((w.at d).at d')=w.at d' from rfl,e1];exact e2,e3⟩
  ·obtain ⟨gs',ops,q',e1,e2,e3,e4,e5,e6⟩:=leavers_slip (w:=(w.at d).at d') (sl:=sl') hL hP h0 hr hi hg (by omega);obtain ⟨N,gs2,a2,w2,sl2,t2,q2,k1,k2,k3⟩:=ihM _ (by omega) gs' sl' (t++ops) q' rfl d' e3 e4 e5;exact ⟨N+1,gs2,a2,w2,sl2,t2,q2,by simp only [runNT,hst,e1];exact k1,by omega,k3⟩
theorem RunsB.step (hr:a.status=.running) (h:∀d,∃a' w' es,stepG P true a (w.at d)=.go a' w' es∧(∀e∈es,EvOk e)∧RunsB P Post a' w'):RunsB P Post a w:=by
 refine .picked hr fun gs sl t q d h0 hL hP=>?_;obtain ⟨a',w',es,hgo,hes,hR⟩:=h d;have hlt:0<gs.size:=(Array.getElem?_eq_some_iff.1 h0).1;have hrunT:=runT_crowd_go (P:=P) (sl:=sl) (i:=0) h0 (show stepG P (0==0) a (w.at d)=_ from hgo);obtain ⟨N,gs2,a2,w2,sl2,t2,q2,k1,k2,k3⟩:=hR ((gs.map (woken P a a' w')).setIfInBounds 0 a') sl (t++MemOp.ofEvents 0 a.frame.fn a.frame.place es) q w'.drawn (by simp [hlt])
  ⟨fun j x hj hx=>by
   rw [Array.getElem?_setIfInBounds_ne (by omega),Array.getElem?_map] at hx;obtain ⟨y,hy,rfl⟩:=Option.map_eq_some_iff.1 hx;have hqj:=hL.old j y hj hy;rw [woken_quitsD hqj,Deaf_other t (by omega) _ ofEvents_g];exact hqj,fun j hj=>by
   rw [Deaf_other t (g':=0) (by simp at hj;omega) _ ofEvents_g];exact hL.above j (by simpa using hj)⟩ (hP.own hes)
 exact ⟨_,_,_,_,q,N,gs2,a2,w2,sl2,t2,q2,hrunT,rfl,k1,by simpa using k2,k3⟩
theorem RunsB.of_callsB {f:FuncId} {args:Array Value} {R:Ending→World→Prop} (cs:List Frame) (h:CallsB P f args w R)
  (hp:∀fr e w' d',fr.fn=f→(∀τ d,fr.leaving P (reW w' τ d) e)→R e w'→RunsB P Post (G fr cs) (reW w' w.tape d')):RunsB P Post (G (Frame.enter P f args .normal) cs) w:=by
 intro gs sl t q d h0 hL hP;obtain ⟨N,gs',fr',w',d',sl',t',q',e,h1,h2,h3,h4,h5,h6,h7,h8⟩:=h gs sl t q cs w.tape d h0 hL hP;obtain ⟨M,gs2,a2,w2,sl2,t2,q2,k1,k2,k3⟩:=hp fr' e w' d' h4 h5 h6 gs' sl' t' q' d' h3 h7 h8;exact ⟨N+M,gs2,a2,w2,sl2,t2,q2,runNT_glue (show runNT P N (crowd gs (w.at d) sl) t=_ from h1) k1,Nat.le_trans h2 k2,k3⟩
end
section
variable {P:Program} {c:Nat} {z:Value} {R0 R1:World→World→Prop} {D0 D1:World→World→Array Event→Prop} {SL ML:World→Touch→Prop} {FS:World→Prop} {Fin Post:Goroutine→World→Prop}
theorem RunsB.fork (U:Rules c R0 R1 D0 D1 SL ML FS) {vs:List Value} {a:Goroutine} {w:World} (hr:a.status=.running)
  (h:∀d,∃a' b w' es,stepG P true a (w.at d)=.spawn a' b w' es∧(∀e∈es,EvOk e)∧(∃s r tm,w'.heap[c]?=some (.chan 0 #[] false s r tm))∧GoesW P true R0 D0 (StopA P c z R0 D0 ML Fin vs) a' w'∧GoesW P false R1 D1 (StopB P c R1 D1 SL FS vs) b w')
  (hp:∀a' w',Fin a' w'→FS w'→RunsB P Post a' w'):RunsB P Post a w:=by
 refine RunsB.bind (Q:=fun a' w'=>Fin a' w'∧FS w') (.picked hr fun gs sl t q d h0 hL hP=>?_) fun a' w' ⟨x,y⟩=>hp a' w' x y;obtain ⟨a',b,w',es,hsp,hes,hc,hA,hB⟩:=h d;have hlt:0<gs.size:=(Array.getElem?_eq_some_iff.1 h0).1;have hrunT:=runT_crowd_spawn (P:=P) (sl:=sl) (i:=0) h0 (show stepG P (0==0) a (w.at d)=_ from hsp);have hk0:gs.size≠0:=by omega
 have e2:∀x y,(((MemOp.ofEvents 0 a.frame.fn a.frame.place es).push x).push y:Trace)=MemOp.ofEvents 0 a.frame.fn a.frame.place es++#[x,y]:=fun x y=>Array.ext' (by simp);rw [e2] at hrunT;have hq:∀(j:Nat) (op:MemOp),op∈(#[{g:=0,fn:=a.frame.fn,pos:=a.frame.place,act:=.go gs.size},{g:=gs.size,fn:=b.frame.fn,pos:=a.frame.place,act:=.start}]:Trace)→∀d,deafStep j d op=d:=fun j op hop=>by
  simp only [List.mem_toArray,List.mem_cons,List.not_mem_nil,or_false] at hop;rcases hop with rfl|rfl<;>exact fun _=>rfl
 have hd:∀j,j≠0→Deaf (t++(MemOp.ofEvents 0 a.frame.fn a.frame.place es++#[{g:=0,fn:=a.frame.fn,pos:=a.frame.place,act:=.go gs.size},{g:=gs.size,fn:=b.frame.fn,pos:=a.frame.place,act:=.start}])) j=Deaf t j:=fun j hj=>Deaf_two ofEvents_g (Ne.symm hj) (hq j);have hC:Ctx P c gs.size SL ML ((gs.setIfInBounds 0 a').push b) w' (t++(MemOp.ofEvents 0 a.frame.fn a.frame.place es++#[{g:=0,fn:=a.frame.fn,pos:=a.frame.place,act:=.go gs.size},{g:=gs.size,fn:=b.frame.fn,pos:=a.frame.place,act:=.start}])) q:=by
  refine ⟨hk0,hc,fun i g hi0 hik hi=>?_,fun j hj=>?_,?_⟩
  ·have hi':gs[i]?=some g:=by
    rw [Array.getElem?_push] at hi;simp only [Array.size_setIfInBounds,hik,if_false] at hi;rw [Array.getElem?_setIfInBounds_ne (Ne.symm hi0)] at hi;exact hi
   rw [hd i hi0];exact hL.old i g (by omega) hi'
  ·have hj':gs.size+1≤j:=by simpa using hj
   rw [hd j (by omega)];exact hL.above j (by omega)
  ·rw [←Array.append_assoc];exact PastD.fork (hP.own hes) (by rw [Deaf_other t (Ne.symm hk0) _ ofEvents_g];exact hL.above _ (Nat.le_refl _)) _ _ _
 obtain ⟨N,gs2,a2,w2,sl2,t2,q2,k1,k2,k3,k4,k5,k6,k7⟩:=phase U vs a' b w' _ sl _ q hA hB (by rw [Array.getElem?_push,if_neg (by simp;omega),Array.getElem?_setIfInBounds_self_of_lt hlt]) (by rw [Array.getElem?_push,if_pos (by simp)]) hC;exact ⟨_,_,_,_,q,N,gs2,a2,w2,sl2,t2,q2,hrunT,rfl,k1,by rw [k2];simp,k3,⟨k4,k5⟩,k6,k7⟩
end
section
variable {P:Program} {A:Plan} {fr:Frame} {w:World} {Q Q':Frame→World→Prop} {opsA opsB:Array Oper} {tail:List Nat} {s:List Item}
def Alike (opsA opsB:Array Oper):Prop:=∀(i:Nat) (o:Oper),opsA[i]?=some o→opsB[i]?=some o∧∀tmps,Region.wanted o (yielded opsB tmps)=Region.wanted o (yielded opsA tmps)
end
section
variable {m:Region.Mode} {ops:Array Oper}
def isRdy (m:Region.Mode) (ops:Array Oper) (L:Array Bool) (i:Nat):Bool:=
 !L.getD i true && ((ops[i]?).map (·.after.all fun e=>!Region.binds m e || L.getD e.on false)).getD false
def rdy (m:Region.Mode) (ops:Array Oper) (L:Array Bool):List Nat:=(List.range ops.size).filter (isRdy m ops L)
theorem go_succ (fuel t:Nat) (L:Array Bool) (acc:List Nat):Region.linearise.go m ops (fuel+1) t L acc=match (rdy m ops L)[t % (rdy m ops L).length]? with
  |some i=>Region.linearise.go m ops fuel (t / (rdy m ops L).length) (L.setIfInBounds i true) (i::acc)
  |none=>acc.reverse:=rfl
def hangs (m:Region.Mode) (ops:Array Oper) (n:Nat):Bool:=
 ((List.range n).all fun i=>((ops.getD i default).after.all fun e=>decide (e.on<i)) && (List.range (n+1)).any fun j=>decide (i<j) && (ops.getD j default).after.toList.any fun e=>Region.binds m e && e.on==i) &&
 (List.range ops.size).all fun i=>decide (i<n) || (((ops.getD i default).after.all fun e=>decide (e.on<i)) && (decide (i=n) || (ops.getD i default).after.toList.any fun e=>Region.binds m e && e.on+1==i))
theorem filter_one {p:Nat→Bool} {x:Nat}:∀{N:Nat},x<N→p x=true→(∀i,i<N→i≠x→p i=false)→(List.range N).filter p=[x]
 |0,h,_,_=>absurd h (by omega)
 |N+1,h,hp,ho=>by
  rw [List.range_succ,List.filter_append];by_cases e:x=N
  ·subst e;have:(List.range x).filter p=[]:=List.filter_eq_nil_iff.2 fun i hi=>by
    have:=List.mem_range.1 hi;rw [ho i (by omega) (by omega)];simp
   rw [this];simp [hp]
  ·rw [filter_one (by omega) hp fun i hi hne=>ho i (by omega) hne];simp [ho N (by omega) (by omega)]
theorem isRdy_iff {L:Array Bool} {i:Nat}:isRdy m ops L i=true↔L.getD i true=false∧∃o,ops[i]?=some o∧∀e∈o.after,Region.binds m e=true→L.getD e.on false=true:=by
 unfold isRdy;cases h:ops[i]? with
 |none=>simp
 |some o=>
  simp only [Option.map_some,Option.getD_some,Bool.and_eq_true,Bool.not_eq_true',Option.some.injEq];constructor
  ·rintro ⟨h1,h2⟩;refine ⟨h1,o,rfl,fun e he hb=>?_⟩;rw [Array.all_eq_true_iff_forall_mem] at h2;have:=h2 e he;simpa [hb] using this
  ·rintro ⟨h1,o',rfl,h2⟩;refine ⟨h1,?_⟩;rw [Array.all_eq_true_iff_forall_mem];intro e he;cases hb:Region.binds m e with
   |false=>rfl
   |true=>simp [h2 e he hb]
theorem getD_set {L:Array Bool} {i:Nat} (hi:i<L.size) (j:Nat) (d:Bool):(L.setIfInBounds i true).getD j d=if i=j then true else L.getD j d:=by
 rw [Array.getD_eq_getD_getElem?,Array.getD_eq_getD_getElem?];by_cases e:i=j
 ·subst e;simp [hi]
 ·rw [Array.getElem?_setIfInBounds_ne e,if_neg e]
theorem getD_any {L:Array Bool} {i:Nat} (hi:i<L.size):L.getD i true=L.getD i false:=by
 simp [Array.getD,hi]
theorem go_tail {n:Nat} (h3:∀i,n≤i→i<ops.size→∀e∈(ops.getD i default).after,e.on<i) (h4:∀i,n<i→i<ops.size→∃e∈(ops.getD i default).after,Region.binds m e=true∧e.on+1=i):
  ∀(r k t:Nat) (L:Array Bool),n+k+r=ops.size→L.size=ops.size→(∀i,i<n+k→L.getD i false=true)→(∀i,n+k≤i→L.getD i false=false)→Region.linearise.go m ops r t L []=(List.range r).map (n+k+·):=by
 intro r;induction r with
 |zero=>intro k t L _ _ _ _;simp [Region.linearise.go]
 |succ r ih=>
  intro k t L hs hL ht hf;have hx:n+k<ops.size:=by omega
  have at?:∀i,i<ops.size→ops[i]?=some (ops.getD i default):=fun i hi=>by simp [Array.getD,hi]
  have hr:rdy m ops L=[n+k]:=by
   refine filter_one hx (isRdy_iff.2 ⟨by rw [getD_any (by omega)];exact hf _ (Nat.le_refl _),_,at? _ hx,fun e he _=>ht _ (h3 _ (by omega) hx e he)⟩) fun i hi hne=>?_;cases hb:isRdy m ops L i with
   |false=>rfl
   |true=>
    exfalso;obtain ⟨b1,o,b2,b3⟩:=isRdy_iff.1 hb;rw [at? i hi] at b2;cases b2;rw [getD_any (by omega)] at b1;by_cases hlt:i<n+k
    ·rw [ht i hlt] at b1;cases b1
    ·obtain ⟨e,he,hb,hon⟩:=h4 i (by omega) hi;have:=b3 e he hb;rw [hf e.on (by omega)] at this;cases this
  rw [go_succ,hr];simp only [List.length_singleton,Nat.mod_one,Nat.div_one,List.getElem?_cons_zero];rw [linearise_go_acc,ih (k+1) t (L.setIfInBounds (n+k) true) (by omega) (by simpa using hL) (fun i hi=>by
    rw [getD_set (by omega)];split
    ·rfl
    ·exact ht i (by omega)) (fun i hi=>by
    rw [getD_set (by omega),if_neg (by omega)];exact hf i (by omega))]
  rw [List.range_succ_eq_map];simp only [List.reverse_singleton,List.singleton_append,List.map_cons,List.map_map,Nat.add_zero,List.cons.injEq,true_and];apply List.map_congr_left;intro a _;simp only [Function.comp];omega
def cnt:Nat→Array Bool→Nat
 |0,_=>0
 |n+1,L=>cnt n L+(if L.getD n false then 0 else 1)
theorem cnt_all {L:Array Bool}:∀{n:Nat},(∀i,i<n→L.getD i false=true)→cnt n L=0
 |0,_=>rfl
 |n+1,h=>by
  unfold cnt;rw [cnt_all fun i hi=>h i (by omega),h n (by omega)];rfl
theorem cnt_zero {L:Array Bool}:∀{n:Nat},cnt n L=0→∀i,i<n→L.getD i false=true
 |0,_,i,hi=>absurd hi (by omega)
 |n+1,h,i,hi=>by
  unfold cnt at h;cases hb:L.getD n false with
  |false=>simp [hb] at h
  |true=>
   rw [hb] at h;by_cases e:i=n
   ·rw [e];exact hb
   ·exact cnt_zero (by simpa using h) i (by omega)
theorem cnt_none {L:Array Bool}:∀{n:Nat},(∀i,i<n→L.getD i false=false)→cnt n L=n
 |0,_=>rfl
 |n+1,h=>by
  unfold cnt;rw [cnt_none fun i hi=>h i (by omega),h n (by omega)];rfl
theorem cnt_above {L:Array Bool} {i:Nat} (hL:i<L.size):∀{n:Nat},n≤i→cnt n (L.setIfInBounds i true)=cnt n L
 |0,_=>rfl
 |n+1,h=>by
  unfold cnt;have e:(L.setIfInBounds i true).getD n false=L.getD n false:=by rw [getD_set hL,if_neg (by omega)]
  rw [cnt_above hL (by omega),e]
theorem cnt_set {L:Array Bool} {i:Nat} (hL:i<L.size) (hf:L.getD i false=false):∀{n:Nat},i<n→cnt n (L.setIfInBounds i true)+1=cnt n L
 |0,h=>absurd h (by omega)
 |n+1,h=>by
  unfold cnt;by_cases e:i=n
  ·subst e;have e1:(L.setIfInBounds i true).getD i false=true:=by rw [getD_set hL,if_pos rfl]
   rw [cnt_above hL (Nat.le_refl _),e1,hf];rfl
  ·have e1:(L.setIfInBounds i true).getD n false=L.getD n false:=by rw [getD_set hL,if_neg e]
   rw [e1,←cnt_set hL hf (n:=n) (by omega)];omega
theorem go_split {n:Nat} (hn:n<ops.size) (h1:∀i,i<n→∀e∈(ops.getD i default).after,e.on<i) (h2:∀i,i<n→∃j,i<j∧j≤n∧∃e∈(ops.getD j default).after,Region.binds m e=true∧e.on=i)
  (h3:∀i,n≤i→i<ops.size→∀e∈(ops.getD i default).after,e.on<i) (h4:∀i,n<i→i<ops.size→∃e∈(ops.getD i default).after,Region.binds m e=true∧e.on+1=i):
  ∀(fuel t:Nat) (LA LB:Array Bool),LA.size=n→LB.size=ops.size→(∀i,i<n→LB.getD i false=LA.getD i false)→(∀i,n≤i→LB.getD i false=false)→
   (∀i,i<n→LA.getD i false=true→∀e∈(ops.getD i default).after,Region.binds m e=true→LA.getD e.on false=true)→cnt n LA=fuel→
   Region.linearise.go m ops (fuel+(ops.size-n)) t LB []=Region.linearise.go m (ops.extract 0 n) fuel t LA []++(List.range (ops.size-n)).map (n+·):=by
 have at?:∀i,i<ops.size→ops[i]?=some (ops.getD i default):=fun i hi=>by simp [Array.getD,hi]
 have atA:∀i,i<n→(ops.extract 0 n)[i]?=some (ops.getD i default):=fun i hi=>by
  rw [←at? i (by omega)];simp [Array.getElem?_extract];omega
 have sizeA:(ops.extract 0 n).size=n:=by simp;omega
 intro fuel;induction fuel with
 |zero=>
  intro t LA LB hA hB hab hhi hcl hc;have hall:=cnt_zero hc;have:=go_tail (m:=m) h3 h4 (ops.size-n) 0 t LB (by omega) hB (fun i hi=>by rw [hab i (by omega)];exact hall i (by omega)) (fun i hi=>hhi i (by omega));rw [Nat.zero_add,this];simp [Region.linearise.go]
 |succ fuel ih=>
  intro t LA LB hA hB hab hhi hcl hc;obtain ⟨x,hx,hxf,hxl⟩:∃x,x<n∧LA.getD x false=false∧∀i,i<x→LA.getD i false=true:=by
   rcases first_not (fun i=>LA.getD i false=true) n with h|⟨j,hj,hjf,hjl⟩
   ·rw [cnt_all h] at hc;omega
   ·exact ⟨j,hj,by simpa using hjf,hjl⟩
  have hA_iff:∀i,i<n→isRdy m ops LB i=isRdy m (ops.extract 0 n) LA i:=fun i hi=>by
   have e:isRdy m ops LB i=true↔isRdy m (ops.extract 0 n) LA i=true:=by
    rw [isRdy_iff,isRdy_iff,at? i (by omega),atA i hi,getD_any (by omega),getD_any (by omega),hab i hi];constructor
    ·rintro ⟨a,o,ho,b⟩;cases ho;exact ⟨a,_,rfl,fun e he hb=>by rw [←hab _ (by have:=h1 i hi e he;omega)];exact b e he hb⟩
    ·rintro ⟨a,o,ho,b⟩;cases ho;exact ⟨a,_,rfl,fun e he hb=>by rw [hab _ (by have:=h1 i hi e he;omega)];exact b e he hb⟩
   cases p:isRdy m ops LB i<;>cases q:isRdy m (ops.extract 0 n) LA i<;>simp_all
  have hhigh:∀i,n≤i→i<ops.size→isRdy m ops LB i=false:=fun i hi his=>by
   cases hb:isRdy m ops LB i with
   |false=>rfl
   |true=>
    exfalso;obtain ⟨b1,o,b2,b3⟩:=isRdy_iff.1 hb;rw [at? i his] at b2;cases b2;by_cases e:i=n
    ·subst e;have hall:∀d y,y<i→i-y≤d→LA.getD y false=true:=by
      intro d;induction d with
      |zero=>intro y hy hd;omega
      |succ d ihd=>
       intro y hy hd;obtain ⟨j,hj1,hj2,e,he,hbe,hon⟩:=h2 y hy;by_cases ej:j=i
       ·subst ej;have:=b3 e he hbe;rw [hon,hab y hy] at this;exact this
       ·have:=hcl j (by omega) (ihd j (by omega) (by omega)) e he hbe;rw [hon] at this;exact this
     rw [hall (i-x) x hx (Nat.le_refl _)] at hxf;cases hxf
    ·obtain ⟨e,he,hbe,hon⟩:=h4 i (by omega) his;have:=b3 e he hbe;rw [hhi e.on (by omega)] at this;cases this
  have hr:rdy m ops LB=rdy m (ops.extract 0 n) LA:=by
   unfold rdy;rw [sizeA,show ops.size=n+(ops.size-n) by omega,List.range_add,List.filter_append];have e2:((List.range (ops.size-n)).map (n+·)).filter (isRdy m ops LB)=[]:=List.filter_eq_nil_iff.2 fun i hi=>by
    obtain ⟨y,hy,rfl⟩:=List.mem_map.1 hi;have:=List.mem_range.1 hy;rw [hhigh (n+y) (by omega) (by omega)];simp
   rw [e2,List.append_nil];exact List.filter_congr fun i hi=>hA_iff i (List.mem_range.1 hi)
  have hxr:x∈rdy m (ops.extract 0 n) LA:=List.mem_filter.2 ⟨List.mem_range.2 (by omega),isRdy_iff.2 ⟨by rw [getD_any (by omega)];exact hxf,_,atA x hx,fun e he _=>hxl _ (h1 x hx e he)⟩⟩;have hpos:0<(rdy m (ops.extract 0 n) LA).length:=List.length_pos_of_mem hxr;obtain ⟨i,hi⟩:∃i,(rdy m (ops.extract 0 n) LA)[t % (rdy m (ops.extract 0 n) LA).length]?=some i:=⟨_,List.getElem?_eq_getElem (Nat.mod_lt _ hpos)⟩;have him:=List.mem_filter.1 (List.mem_of_getElem? hi);have hin:i<n:=by have:=List.mem_range.1 him.1;omega
  obtain ⟨i1,o,i2,i3⟩:=isRdy_iff.1 him.2;rw [atA i hin] at i2;cases i2;rw [getD_any (by omega)] at i1;rw [show fuel+1+(ops.size-n)=(fuel+(ops.size-n))+1 by omega,go_succ,go_succ,hr,hi];simp only [];rw [linearise_go_acc,linearise_go_acc m (ops.extract 0 n),ih _ (LA.setIfInBounds i true) (LB.setIfInBounds i true) (by simpa using hA) (by simpa using hB)
   (fun j hj=>by rw [getD_set (by omega),getD_set (by omega),hab j hj]) (fun j hj=>by rw [getD_set (by omega),if_neg (by omega)];exact hhi j hj)
   (fun j hj hjt e he hb=>by
    rw [getD_set (by omega)] at hjt ⊢;split
    ·rfl
    ·by_cases ej:i=j
     ·subst ej;exact i3 e he hb
     ·rw [if_neg ej] at hjt;exact hcl j hj hjt e he hb)
   (by have:=cnt_set (L:=LA) (i:=i) (by omega) i1 (n:=n) hin;omega)]
  simp
theorem schedule_split {n:Nat} (hn:n<ops.size) (hh:hangs .any ops n=true) (t:Nat):Region.schedule true ops t=Region.schedule true (ops.extract 0 n) t++(List.range (ops.size-n)).map (n+·):=by
 have sizeA:(ops.extract 0 n).size=n:=by simp;omega
 unfold hangs at hh;simp only [Bool.and_eq_true,List.all_eq_true,List.any_eq_true,List.mem_range,Bool.or_eq_true,decide_eq_true_eq,Array.all_eq_true_iff_forall_mem,Array.mem_toList_iff,beq_iff_eq] at hh;obtain ⟨ha,hb⟩:=hh;have key:=go_split (m:=.any) hn (fun i hi e he=>(ha i hi).1 e he) (fun i hi=>by
   obtain ⟨j,hj,hij,e,he,hb,hon⟩:=(ha i hi).2;exact ⟨j,hij,by omega,e,he,hb,hon⟩)
  (fun i hi his e he=>by
   rcases hb i his with h|h
   ·omega
   ·exact h.1 e he)
  (fun i hi his=>by
   rcases hb i his with h|h
   ·omega
   ·rcases h.2 with h|⟨e,he,hb,hon⟩
    ·omega
    ·exact ⟨e,he,hb,hon⟩)
  n t (Array.replicate n false) (Array.replicate ops.size false) (by simp) (by simp) (fun i hi=>by simp [Array.getD]) (fun i hi=>by simp [Array.getD]) (fun i hi h=>by simp [Array.getD] at h) (cnt_none fun i hi=>by simp [Array.getD])
 unfold Region.schedule;simp only [Bool.true_or,if_true];unfold Region.linearise;rw [sizeA,←key,show n+(ops.size-n)=ops.size by omega]
def guarded (ops:Array Oper) (n:Nat):Bool:=(List.range n).all fun i=>match (ops.getD i default).guard with
 |none=>true
 |some (g,_)=>decide (g<n)
theorem alike_extract {n:Nat} (hn:n<ops.size) (hg:guarded ops n=true):Alike (ops.extract 0 n) ops:=fun i o ho=>by
 have hi:i<n:=by
  have:=(Array.getElem?_eq_some_iff.1 ho).1;simp at this;omega
 have hat:∀j,j<n→(ops.extract 0 n)[j]?=ops[j]?:=fun j hj=>by simp [Array.getElem?_extract];omega
 rw [hat i hi] at ho;refine ⟨ho,fun tmps=>?_⟩;unfold guarded at hg;have hgi:=(List.all_eq_true.1 hg) i (List.mem_range.2 hi);have:ops.getD i default=o:=by
  rw [Array.getD_eq_getD_getElem?,ho];rfl
 rw [this] at hgi;unfold Region.wanted;cases hgd:o.guard with
 |none=>rfl
 |some x=>
  obtain ⟨g,b⟩:=x;rw [hgd] at hgi;have hlt:g<n:=by simpa using hgi
  unfold yielded;simp only [hat g hlt]
end
open Go.RowKit
section
variable {P:Program} {main:Bool} {R:World→World→Prop} {D:World→World→Array Event→Prop} {fn:FuncId} {md:Region.Mode} {ops opsB:Array Oper} {Q:Act→World→Prop} {S:World→Prop}
theorem anyD_cut (T:Terms R D) {b:Frame} {k:List Item} {cs:List Frame} {Stop:Goroutine→World→Prop} (hal:Alike ops opsB) (tail:List Nat) (hb:b.fn=fn) (hk:b.kind≠.early) (ds:List Deferred)
  (hQ:∀a w,a.defers=ds→Q a w→GoesW P main R D Stop (G (b.at a (.inRegion opsB tail::k)) cs) w):
  ∀(fuel t:Nat) (listed:Array Bool) (a:Act) (w:World),a.defers=ds→AnyD P main R D fn md ops Q (fun _ _=>False) (fun _ _ _=>False) S fuel listed a w→GoesW P main R D Stop (G (b.at a (.inRegion opsB (Region.linearise.go md ops fuel t listed []++tail)::k)) cs) w:=by
 intro fuel;induction fuel with
 |zero=>intro t listed a w hd h;simpa [Region.linearise.go] using hQ a w hd h.2
 |succ fuel ih=>
  intro t listed a w hd ⟨h₀,h₁⟩;simp only [Region.linearise.go];change GoesW P main R D Stop (G (b.at a (.inRegion opsB ((match (Region.ready md ops listed)[t % (Region.ready md ops listed).length]? with
   |some i=>Region.linearise.go md ops fuel (t / (Region.ready md ops listed).length) (listed.setIfInBounds i true) [i]
   |none=>[].reverse)++tail)::k)) cs) w
  cases hi:(Region.ready md ops listed)[t % (Region.ready md ops listed).length]? with
  |none=>
   have hnil:Region.ready md ops listed=[]:=by
    cases hr:Region.ready md ops listed with
    |nil=>rfl
    |cons x xs=>
     rw [hr] at hi;have hlt:t % (x::xs).length<(x::xs).length:=Nat.mod_lt _ (by simp);rw [List.getElem?_eq_none_iff] at hi;omega
   exact hQ a w hd (h₀ hnil)
  |some i=>
   simp only [];rw [linearise_go_acc,List.reverse_singleton,List.singleton_append,List.cons_append];have hop:=h₁ i (List.mem_of_getElem? hi);unfold OpD at hop;cases ho:ops[i]? with
   |none=>rw [ho] at hop;exact hop.elim
   |some o=>
    rw [ho] at hop;obtain ⟨hoB,hwB⟩:=hal i o ho;by_cases hw:Region.wanted o (yielded ops a.tmps)=true
    ·simp only [hw,if_true] at hop;rcases hop with hop|⟨f,args,ats,fn',c,h1,h2,h3,h4,h5⟩|⟨-,htl⟩
     ·refine GoesW.op hoB ((hwB _).trans hw) hk fun w₁ r K hK=>uponK_mono hK ?_;have hx:=hop w₁ r;revert hx;cases (execOp a.eval o).run P w₁ with
      |ok n w'=>cases n<;>first|exact id|exact fun x=>⟨hb▸x.1,ih _ _ _ w' ((put_defers _ _ _).trans hd) x.2.2⟩
      |halt _ _=>exact id
     ·refine GoesW.enter T hoB ((hwB _).trans hw) hk h1 h2 h3 h4 ?_;rw [←enter_at _ h2 h4];refine h5 _ cs Stop (fun v w' x=>?_) fun ch w' x=>x.elim;rw [Frame.finish_at,hoB];exact ih _ _ _ w' ((put_defers _ _ _).trans hd) x.2
     ·exact htl.elim
    ·simp only [hw] at hop;exact GoesW.unwanted T hoB ((hwB _).trans (by simpa using hw)) (ih _ _ _ w ((put_defers _ _ _).trans hd) hop.2)
theorem extract_take {α:Type} (l:List α) (n:Nat):l.toArray.extract 0 n=(l.take n).toArray:=by simp
theorem GoesW.drawnCut (T:Terms R D) (hd:LetsDraw D) {b:Frame} {k:List Item} {cs:List Frame} {Stop:Goroutine→World→Prop} {id:Nat} {a:Act} {w:World} (n:Nat) (hn:n<opsB.size) (hh:hangs .any opsB n=true) (hg:guarded opsB n=true) (tl:List Nat) (htl:(List.range (opsB.size-n)).map (n+·)=tl) (hk:b.kind≠.early) (hm:P.follows .mixedOrders=true)
  (hA:opsB.extract 0 n=ops) (h:∀w₁,R w w₁→AnyD P main R D b.fn .any ops (fun a' w'=>GoesW P main R D Stop (G (b.at a' (.inRegion opsB tl::k)) cs) w') (fun _ _=>False) (fun _ _ _=>False) S n (Array.replicate n false) a {w₁ with drawn:=w₁.drawn+1}):GoesW P main R D Stop (G (b.at a (.code (.region id opsB true)::k)) cs) w:=
 .one rfl fun w₁ r=>⟨_,_,_,stepG_region_draw,hd _,by
  subst hA;rw [hm,schedule_split hn hh,htl];have hsz:(opsB.extract 0 n).size=n:=by simp;omega
  simp only [Region.schedule,Bool.true_or,if_true];unfold Region.linearise;rw [hsz];exact anyD_cut T (alike_extract hn hg) tl rfl hk a.defers (fun _ _ _ h=>h) n _ _ a _ rfl (h w₁ r)⟩
end
end Go.Proofs.Ytdoghgnifkgfdaa.Mute
