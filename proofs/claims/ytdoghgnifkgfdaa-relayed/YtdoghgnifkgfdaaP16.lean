import Derived.Conc.DeferLaws
import Derived.Test.YtdoghgnifkgfdaaP12
import Derived.Test.YtdoghgnifkgfdaaP15
set_option maxRecDepth 100000
set_option maxHeartbeats 16000000
namespace Go.Proofs.Ytdoghgnifkgfdaa.Mute
open Go Go.Conc Go.RowKit
section
variable {P:Program} {main:Bool} {R:World→World→Prop} {D:World→World→Array Event→Prop} {b:Frame} {a:Act} {k:List Item} {cs:List Frame} {w:World}
theorem stepG_leave_ev {fn:Func} {todo:List Item} {c:Frame} {v:Value} (hn:b.kind=.normal) (hd:a.defers=[]) (hf:P.funcs[b.fn]?=some fn) (hr:(results fn a.tmps).run P w=.ok v w):
  stepG P main (G {b.at a todo with mode:=.returning} (c::cs)) w=.go (G (c.finish v) cs) w (seen P b.fn ((results fn a.tmps).events P w #[])):=by
 simp [G,stepG,unwind,doReturn,Frame.at,hn,hd,hf,hr,GStep.after]
def ResultsW (P:Program) (R:World→World→Prop) (D:World→World→Array Event→Prop) (f:FuncId) (fn:Func) (tmps:Array Value) (w:World) (v:Value):Prop:=
 ∀w₁,R w w₁→(results fn tmps).run P w₁=.ok v w₁∧D w₁ w₁ (seen P f ((results fn tmps).events P w₁ #[]))
end
section
variable (P:Program) (main:Bool) (R:World→World→Prop) (D:World→World→Array Event→Prop)
def CallsX (f:FuncId) (args:Array Value) (w:World) (Post:Value→World→Prop) (Die:List PanicEntry→World→Prop):Prop:=
 ∀(c:Frame) (cs:List Frame) (Stop:Goroutine→World→Prop),(∀v w',Post v w'→GoesW P main R D Stop (G (c.finish v) cs) w')→(∀ch w',Die ch w'→GoesW P main R D Stop (G (c.raise ch) cs) w')→GoesW P main R D Stop (G (Frame.enter P f args .normal) (c::cs)) w
def Down (md:Region.Mode) (ops:Array Oper) (listed:Array Bool):Prop:=∀(k:Nat) (o:Oper),ops[k]?=some o→listed.getD k false=true→∀e∈o.after,Region.binds md e=true→listed.getD e.on false=true
def downB (md:Region.Mode) (ops:Array Oper) (listed:Array Bool):Bool:=(List.range ops.size).all fun k=>!listed.getD k false || (ops.getD k default).after.all fun e=>!Region.binds md e || listed.getD e.on false
def LastOp (md:Region.Mode) (ops:Array Oper) (j:Nat):Prop:=∀(listed:Array Bool) (k:Nat),Down md ops listed→j∈Region.ready md ops listed→k≠j→k<ops.size→listed.getD k true=true
def OpD (fn:FuncId) (md:Region.Mode) (ops:Array Oper) (Die:List PanicEntry→World→Prop) (Tail:Nat→Act→World→Prop) (i:Nat) (K:Act→World→Prop) (a:Act) (w:World):Prop:=
 match ops[i]? with
 |none=>False
 |some o=>if Region.wanted o (yielded ops a.tmps) then
   (∀w₁,R w w₁→uponK o a (fun a' w'=>D w₁ w' (listed P fn a o w₁)∧K a' w') ((execOp a.eval o).run P w₁))∨
   (∃ f args ats fn' c, o.op = .call { callee := .value (.func f), args, argTypes := ats } ∧ P.funcs[f]? = some fn' ∧ (fn'.name == "runtime.NumGoroutine") = false ∧ fn'.body = some c ∧
    CallsX P main R D f (args.map a.eval) w (fun v w'=>K (a.put o.dst v) w') Die)∨
   (LastOp md ops i∧Tail i a w)
  else K (a.put o.dst undef) w
def AnyD (fn:FuncId) (md:Region.Mode) (ops:Array Oper) (Q:Act→World→Prop) (Die:List PanicEntry→World→Prop) (Tail:Nat→Act→World→Prop) (S:World→Prop):Nat→Array Bool→Act→World→Prop
 |0,listed,a,w=>Region.ready md ops listed=[]∧Q a w
 |fuel+1,listed,a,w=>(Region.ready md ops listed=[]→Q a w)∧
  ∀i∈Region.ready md ops listed,OpD P main R D fn md ops Die Tail i (fun a' w'=>(S w'∨LastOp md ops i)∧AnyD fn md ops Q Die Tail S fuel (listed.setIfInBounds i true) a' w') a w
end
section
variable {P:Program} {main:Bool} {R:World→World→Prop} {D:World→World→Array Event→Prop} {fn:FuncId} {md:Region.Mode} {ops:Array Oper} {Q:Act→World→Prop} {Die:List PanicEntry→World→Prop} {Tail:Nat→Act→World→Prop} {S:World→Prop}
theorem CallsX.rely (T:Terms R D) {f:FuncId} {args:Array Value} {w w₁:World} {Post:Value→World→Prop} (h:CallsX P main R D f args w Post Die) (r:R w w₁):CallsX P main R D f args w₁ Post Die:=fun c cs Stop h1 h2=>(h c cs Stop h1 h2).rely T.trans r
theorem CallsX.mono {f:FuncId} {args:Array Value} {w:World} {Post Post':Value→World→Prop} {Die':List PanicEntry→World→Prop} (h:CallsX P main R D f args w Post Die) (hp:∀v w',Post v w'→Post' v w') (hd:∀c w',Die c w'→Die' c w'):CallsX P main R D f args w Post' Die':=
 fun c cs Stop h1 h2=>h c cs Stop (fun v w' x=>h1 v w' (hp v w' x)) fun ch w' x=>h2 ch w' (hd ch w' x)
theorem opD_mono {i:Nat} {a:Act} {w:World} {K K':Act→World→Prop} (h:∀a w,K a w→K' a w) (hh:OpD P main R D fn md ops Die Tail i K a w):OpD P main R D fn md ops Die Tail i K' a w:=by
 unfold OpD at *;cases ho:ops[i]? with
 |none=>rw [ho] at hh;exact hh
 |some o=>
  rw [ho] at hh;by_cases hw:Region.wanted o (yielded ops a.tmps)=true
  ·simp only [hw,if_true] at hh ⊢;rcases hh with hh|⟨f,args,ats,fn',c,h1,h2,h3,h4,h5⟩|hh
   ·exact .inl fun w₁ r=>uponK_mono (fun a' w' x=>⟨x.1,h _ _ x.2⟩) (hh w₁ r)
   ·exact .inr (.inl ⟨f,args,ats,fn',c,h1,h2,h3,h4,h5.mono (fun v w' x=>h _ _ x) fun _ _ x=>x⟩)
   ·exact .inr (.inr hh)
  ·simp only [hw] at hh ⊢;exact h _ _ hh
theorem opD_rely (T:Terms R D) (hTR:∀i a x y,Tail i a x→R x y→Tail i a y) {i:Nat} {a:Act} {w w₁:World} {K:Act→World→Prop} (hK:∀a x y,K a x→R x y→K a y) (hh:OpD P main R D fn md ops Die Tail i K a w) (r:R w w₁):OpD P main R D fn md ops Die Tail i K a w₁:=by
 unfold OpD at *;cases ho:ops[i]? with
 |none=>rw [ho] at hh;exact hh
 |some o=>
  rw [ho] at hh;by_cases hw:Region.wanted o (yielded ops a.tmps)=true
  ·simp only [hw,if_true] at hh ⊢;rcases hh with hh|⟨f,args,ats,fn',c,h1,h2,h3,h4,h5⟩|hh
   ·exact .inl fun w₂ r'=>hh w₂ (T.trans _ _ _ r r')
   ·exact .inr (.inl ⟨f,args,ats,fn',c,h1,h2,h3,h4,h5.rely T r⟩)
   ·exact .inr (.inr ⟨hh.1,hTR _ _ _ _ hh.2 r⟩)
  ·simp only [hw] at hh ⊢;exact hK _ _ _ hh r
theorem AnyD.rely (T:Terms R D) (hTR:∀i a x y,Tail i a x→R x y→Tail i a y) (hSR:∀x y,S x→R x y→S y) (hQR:∀a x y,Q a x→R x y→Q a y):∀(fuel:Nat) (listed:Array Bool) (a:Act) (w w₁:World),AnyD P main R D fn md ops Q Die Tail S fuel listed a w→R w w₁→AnyD P main R D fn md ops Q Die Tail S fuel listed a w₁
 |0,_,_,_,_,h,r=>⟨h.1,hQR _ _ _ h.2 r⟩
 |fuel+1,_,_,_,_,h,r=>⟨fun e=>hQR _ _ _ (h.1 e) r,fun i hi=>opD_rely T hTR (fun a x y hx r'=>⟨hx.1.imp (fun h=>hSR _ _ h r') id,AnyD.rely T hTR hSR hQR fuel _ a x y hx.2 r'⟩) (h.2 i hi) r⟩
theorem down_of {listed:Array Bool} (h:downB md ops listed=true):Down md ops listed:=fun k o ho hk e he hb=>by
 unfold downB at h;rw [List.all_eq_true] at h;have hlt:=(Array.getElem?_eq_some_iff.1 ho).1;have h1:=h k (List.mem_range.2 hlt);have eo:ops.getD k default=o:=by simp [Array.getD,hlt,(Array.getElem?_eq_some_iff.1 ho).2]
 rw [eo,hk,Bool.not_true,Bool.false_or,Array.all_eq_true_iff_forall_mem] at h1;have:=h1 e he;rw [hb,Bool.not_true,Bool.false_or] at this;exact this
theorem getD_false_set {listed:Array Bool} {j k:Nat} (h:listed.getD k false=true):(listed.setIfInBounds j true).getD k false=true:=by
 by_cases hjk:j=k
 ·subst hjk;rcases Nat.lt_or_ge j listed.size with h'|h'
  ·simp [h']
  ·simp [Array.getElem?_eq_none h'] at h
 ·rw [getD_set_ne false hjk];exact h
theorem Down.set {listed:Array Bool} {j:Nat} (h:Down md ops listed) (hj:j∈Region.ready md ops listed):Down md ops (listed.setIfInBounds j true):=fun k o ho hk e he hb=>by
 by_cases hkj:k=j
 ·subst hkj;obtain ⟨_,o',ho',hall⟩:=mem_ready.1 hj;rw [ho] at ho';cases ho';exact getD_false_set (hall e he hb)
 ·rw [getD_set_ne false (Ne.symm hkj)] at hk;exact getD_false_set (h k o ho hk e he hb)
theorem down_none (n:Nat):Down md ops (Array.replicate n false):=fun k o _ hk=>by
 rcases Nat.lt_or_ge k n with h'|h'
 ·simp [h'] at hk
 ·simp [h'] at hk
theorem put_defers (a:Act) (d:Option Tmp) (v:Value):(a.put d v).defers=a.defers:=by cases d<;>rfl
theorem linearise_done {listed:Array Bool} (h:Region.ready md ops listed=[]):∀(fuel t:Nat),Region.linearise.go md ops fuel t listed []=[]
 |0,t=>by simp [Region.linearise.go]
 |fuel+1,t=>by
  simp only [Region.linearise.go];change (match (Region.ready md ops listed)[t % (Region.ready md ops listed).length]? with
   |some i=>Region.linearise.go md ops fuel (t / (Region.ready md ops listed).length) (listed.setIfInBounds i true) [i]
   |none=>[].reverse)=[]
  rw [h];rfl
theorem anyD_sound (T:Terms R D) {b:Frame} {k:List Item} {cs:List Frame} {Stop:Goroutine→World→Prop} (hb:b.fn=fn) (hk:b.kind≠.early) (ds:List Deferred)
  (hQ:∀a w,a.defers=ds→Q a w→GoesW P main R D Stop (G (b.at a k) cs) w) (hD:∀ch w fr,Die ch w→fr.fn=b.fn→fr.kind=b.kind→fr.defers=ds→fr.mode=.panicking ch→GoesW P main R D Stop (G fr cs) w)
  (hTl:∀i a w,a.defers=ds→Tail i a w→GoesW P main R D Stop (G (b.at a (.inRegion ops [i]::k)) cs) w):
  ∀(fuel t:Nat) (listed:Array Bool) (a:Act) (w:World),Down md ops listed→a.defers=ds→AnyD P main R D fn md ops Q Die Tail S fuel listed a w→GoesW P main R D Stop (G (b.at a (.inRegion ops (Region.linearise.go md ops fuel t listed [])::k)) cs) w:=by
 intro fuel;induction fuel with
 |zero=>intro t listed a w _ hd h;simpa [Region.linearise.go] using GoesW.regionEnd T (hQ a w hd h.2)
 |succ fuel ih=>
  intro t listed a w hdn hd ⟨h₀,h₁⟩;simp only [Region.linearise.go];change GoesW P main R D Stop (G (b.at a (.inRegion ops (match (Region.ready md ops listed)[t % (Region.ready md ops listed).length]? with
   |some i=>Region.linearise.go md ops fuel (t / (Region.ready md ops listed).length) (listed.setIfInBounds i true) [i]
   |none=>[].reverse)::k)) cs) w
  cases hi:(Region.ready md ops listed)[t % (Region.ready md ops listed).length]? with
  |none=>
   have hnil:Region.ready md ops listed=[]:=by
    cases hr:Region.ready md ops listed with
    |nil=>rfl
    |cons x xs=>
     rw [hr] at hi;have hlt:t % (x::xs).length<(x::xs).length:=Nat.mod_lt _ (by simp);rw [List.getElem?_eq_none_iff] at hi;omega
   exact GoesW.regionEnd T (hQ a w hd (h₀ hnil))
  |some i=>
   simp only [];rw [linearise_go_acc,List.reverse_singleton,List.singleton_append];have hop:=h₁ i (List.mem_of_getElem? hi);unfold OpD at hop;cases ho:ops[i]? with
   |none=>rw [ho] at hop;exact hop.elim
   |some o=>
    rw [ho] at hop;by_cases hw:Region.wanted o (yielded ops a.tmps)=true
    ·simp only [hw,if_true] at hop;rcases hop with hop|⟨f,args,ats,fn',c,h1,h2,h3,h4,h5⟩|⟨hlast,htl⟩
     ·refine GoesW.op ho hw hk fun w₁ r K hK=>uponK_mono hK ?_;have hx:=hop w₁ r;revert hx;cases (execOp a.eval o).run P w₁ with
      |ok n w'=>cases n<;>first|exact id|exact fun x=>⟨hb▸x.1,ih _ _ _ w' (hdn.set (List.mem_of_getElem? hi)) ((put_defers _ _ _).trans hd) x.2.2⟩
      |halt _ _=>exact id
     ·refine GoesW.enter T ho hw hk h1 h2 h3 h4 ?_;rw [←enter_at _ h2 h4];refine h5 _ cs Stop (fun v w' x=>?_) fun ch w' x=>?_
      ·rw [Frame.finish_at,ho];exact ih _ _ _ w' (hdn.set (List.mem_of_getElem? hi)) ((put_defers _ _ _).trans hd) x.2
      ·exact hD ch w' _ x (by simp [Frame.raise,Frame.at]) (by simp [Frame.raise,Frame.at]) (by simp [Frame.raise,Frame.at,hd]) (by simp [Frame.raise,Frame.at])
     ·have hmem:=List.mem_of_getElem? hi;have hnil:Region.ready md ops (listed.setIfInBounds i true)=[]:=by
       apply List.eq_nil_iff_forall_not_mem.2;intro k hk';obtain ⟨h1,ok,hok,_⟩:=mem_ready.1 hk';by_cases hki:k=i
       ·subst hki;rcases Nat.lt_or_ge k listed.size with h'|h'
        ·simp [h'] at h1
        ·simp [h'] at h1
       ·rw [getD_set_ne true (Ne.symm hki)] at h1;have:=hlast listed k hdn hmem hki (Array.getElem?_eq_some_iff.1 hok).1;rw [h1] at this;cases this
      rw [linearise_done hnil];exact hTl i a w hd htl
    ·simp only [hw] at hop;exact GoesW.unwanted T ho (by simpa using hw) (ih _ _ _ w (hdn.set (List.mem_of_getElem? hi)) ((put_defers _ _ _).trans hd) hop.2)
theorem yields_opD (hSR:∀x y,S x→R x y→S y) {i:Nat} {o:Oper} {v:Value} {a:Act} (hi:ops[i]?=some o) (hy:YieldsIfC P D fn ops S o v a) {K:Act→World→Prop} (hK:∀a x y,K a x→R x y→K a y) {w:World} (hS:S w) (h:K (a.put o.dst v) w):
  OpD P main R D fn md ops Die Tail i K a w:=by
 unfold OpD;simp only [hi];rcases hy with ⟨hw,hv⟩|⟨hw,rfl⟩
 ·simp only [hw,if_true];exact .inl fun w₁ h₁=>by
   rw [(hv w₁ (hSR _ _ hS h₁)).1];exact ⟨(hv w₁ (hSR _ _ hS h₁)).2,hK _ _ _ h h₁⟩
 ·simp only [hw,Bool.false_eq_true,if_false];exact h
theorem opD_putIf {j:Nat} {oi oj:Oper} {v:Value} (hnl:¬LastOp md ops j) (hj:ops[j]?=some oj) (hap:oi.apart ops oj=true) (hsi:∀cs b,oi.op≠.select cs b) (hsj:∀cs b,oj.op≠.select cs b) {K:Act→World→Prop} {a:Act} {w:World}
  (hy:YieldsIfC P D fn ops S oi v a) (h:OpD P main R D fn md ops Die Tail j K (a.put oi.dst v) w):OpD P main R D fn md ops Die Tail j (fun a' w'=>YieldsIfC P D fn ops S oi v a'∧K (a'.put oi.dst v) w') a w:=by
 obtain ⟨h1,h2,h3⟩:=Oper.apart_spec hap;have keep:∀u,YieldsIfC P D fn ops S oi v (a.put oj.dst u):=fun u=>hy.of_same (execOp_put oi hsi a oj.dst u h3) (wanted_put oi a oj.dst u h3);unfold OpD at *;simp only [hj] at *;rw [wanted_put oj a oi.dst v h1] at h;by_cases hw:Region.wanted oj (yielded ops a.tmps)=true
 ·simp only [hw,if_true] at h ⊢;rcases h with h|⟨f,args,ats,fn',c,e1,e2,e3,e4,h5⟩|h
  ·refine .inl fun w₁ r=>?_;have hx:=h w₁ r;unfold listed at *;rw [execOp_put oj hsj a oi.dst v h1] at hx;generalize (execOp a.eval oj).run P w₁=q at *;cases q with
   |ok n w'=>
    cases n<;>simp only [uponK] at hx ⊢
    case value u=>exact ⟨hx.1,keep u,by rw [←Act.put_comm a v u h2];exact hx.2⟩
    case skip=>exact ⟨hx.1,keep _,by rw [←Act.put_comm a v undef h2];exact hx.2⟩
   |halt x w'=>simp only [uponK] at hx
  ·have ea:args.map (a.put oi.dst v).eval=args.map a.eval:=by
    apply Array.map_congr_left;intro x hx;refine Act.eval_put fun d hd hxd=>h1 d hd ?_;subst hxd;refine List.mem_append_left _ (List.mem_filterMap.2 ⟨.tmp d,?_,rfl⟩);rw [e1];simpa [Op.operands,Call.operands] using hx
   rw [ea] at h5;exact .inr (.inl ⟨f,args,ats,fn',c,e1,e2,e3,e4,h5.mono (fun u w' x=>⟨keep u,by rw [←Act.put_comm a v u h2];exact x⟩) fun _ _ x=>x⟩)
  ·exact absurd h.1 hnl
 ·simp only [hw] at h ⊢;exact ⟨keep _,by rw [←Act.put_comm a v undef h2];exact h⟩
theorem anyD_first (T:Terms R D) (hTR:∀i a x y,Tail i a x→R x y→Tail i a y) (hSR:∀x y,S x→R x y→S y) (hQR:∀a x y,Q a x→R x y→Q a y) {i:Nat} {oi:Oper} {v:Value} (hi:ops[i]?=some oi) (hsel:∀(j:Nat) (o:Oper) cs b,ops[j]?=some o→o.op≠.select cs b):
  ∀(fuel:Nat) (listed:Array Bool) (a:Act) (w:World),
   (∀j oj,ops[j]?=some oj→j≠i→listed.getD j true=false→(∀e∈oj.after,Region.binds md e=true→e.on≠i)→oi.apart ops oj=true)→
   Down md ops listed→i∈Region.ready md ops listed→YieldsIfC P D fn ops S oi v a→S w→AnyD P main R D fn md ops Q Die Tail S fuel (listed.setIfInBounds i true) (a.put oi.dst v) w→AnyD P main R D fn md ops Q Die Tail S (fuel+1) listed a w:=by
 have hK:∀j fuel listed,∀a x y,((S x∨LastOp md ops j)∧AnyD P main R D fn md ops Q Die Tail S fuel listed a x)→R x y→((S y∨LastOp md ops j)∧AnyD P main R D fn md ops Q Die Tail S fuel listed a y):=fun j fuel listed a x y h r=>⟨h.1.imp (fun h=>hSR _ _ h r) id,AnyD.rely T hTR hSR hQR fuel listed a x y h.2 r⟩;intro fuel;induction fuel with
 |zero=>
  intro listed a w _ _ hr hy hS H;refine ⟨fun h=>(by rw [h] at hr;cases hr),fun j hj=>?_⟩;by_cases hji:j=i
  ·subst hji;exact yields_opD hSR hi hy (hK _ _ _) hS ⟨.inl hS,H⟩
  ·have:=ready_mono hj hji;rw [H.1] at this;cases this
 |succ fuel ih=>
  intro listed a w hfree hdn hr hy hS H;refine ⟨fun h=>(by rw [h] at hr;cases hr),fun j hj=>?_⟩;by_cases hji:j=i
  ·subst hji;exact yields_opD hSR hi hy (hK _ _ _) hS ⟨.inl hS,H⟩
  ·have h1:=H.2 j (ready_mono hj hji);obtain ⟨hjun,oj,hoj,hall⟩:=mem_ready.1 hj;have hnot:∀e∈oj.after,Region.binds md e=true→e.on≠i:=fun e he hb heq=>by
    have h1:=hall e he hb;have h0:=(mem_ready.1 hr).1;rw [heq] at h1;rcases Nat.lt_or_ge i listed.size with h'|h'
    ·simp [h'] at h0 h1;rw [h0] at h1;cases h1
    ·simp [Array.getElem?_eq_none h'] at h1
   have hnl:¬LastOp md ops j:=fun hl=>by
    have h0:=(mem_ready.1 hr).1;have h1:=hl listed i hdn hj (Ne.symm hji) (Array.getElem?_eq_some_iff.1 hi).1;rw [h0] at h1;cases h1
   have hSj:∀x,S x∨LastOp md ops j→S x:=fun x hx=>hx.elim id fun hl=>absurd hl hnl;have h2:=opD_putIf hnl hoj (hfree j oj hoj hji hjun hnot) (fun cs b=>hsel i oi cs b hi) (fun cs b=>hsel j oj cs b hoj) hy h1;refine opD_mono (fun a' w' h3=>⟨h3.2.1,ih (listed.setIfInBounds j true) a' w' (fun k ok hk hki hun hno=>hfree k ok hk hki ?_ hno) (hdn.set hj) (ready_mono hr (Ne.symm hji)) h3.1 (hSj _ h3.2.1) ?_⟩) h2
   ·by_cases hjk:j=k
    ·subst hjk;exact hjun
    ·rw [getD_set_ne true hjk] at hun;exact hun
   ·rw [Array.setIfInBounds_comm _ _ hji];exact h3.2.2
theorem anyD_take (T:Terms R D) (hTR:∀i a x y,Tail i a x→R x y→Tail i a y) (hSR:∀x y,S x→R x y→S y) (hQR:∀a x y,Q a x→R x y→Q a y) {i:Nat} {oi:Oper} {v:Value} {fuel:Nat} {listed:Array Bool} {a:Act} {w:World} (hi:ops[i]?=some oi)
  (hs:Region.noSelect ops=true) (hdn:downB md ops listed=true) (hf:Region.free md ops listed i=true) (hr:(Region.ready md ops listed).contains i=true)
  (hy:YieldsIfC P D fn ops S oi v a) (hS:S w) (h:AnyD P main R D fn md ops Q Die Tail S fuel (listed.setIfInBounds i true) (a.put oi.dst v) w):AnyD P main R D fn md ops Q Die Tail S (fuel+1) listed a w:=
 anyD_first T hTR hSR hQR hi (Region.noSelect_spec hs) fuel listed a w (Region.free_spec hi hf) (down_of hdn) (by simpa using hr) hy hS h
theorem anyD_op {i:Nat} {o:Oper} {fuel:Nat} {listed:Array Bool} {a:Act} {w:World} (hr:Region.ready md ops listed=[i]) (ho:ops[i]?=some o) (hw:Region.wanted o (yielded ops a.tmps)=true)
  (h:∀w₁,R w w₁→∀K:Act→World→Prop,(∀a' w',D w₁ w' (Go.Conc.listed P fn a o w₁)∧(S w'∨LastOp md ops i)∧AnyD P main R D fn md ops Q Die Tail S fuel (listed.setIfInBounds i true) a' w'→K a' w')→uponK o a K ((execOp a.eval o).run P w₁)):AnyD P main R D fn md ops Q Die Tail S (fuel+1) listed a w:=by
 refine ⟨fun h0=>absurd (hr.symm.trans h0) (by simp),fun j hj=>?_⟩;rw [hr] at hj;obtain rfl:j=i:=by simpa using hj
 unfold OpD;simp only [ho,hw,if_true];exact .inl fun w₁ r=>h w₁ r _ fun _ _ x=>x
def depsOf (md:Region.Mode) (ops:Array Oper) (k:Nat):List Nat:=((ops.getD k default).after.toList.filter (Region.binds md)).map (·.on)
def waits (md:Region.Mode) (ops:Array Oper) (j:Nat):List Nat:=(List.range ops.size).reverse.foldl (fun m k=>if m.contains k then m++depsOf md ops k else m) (depsOf md ops j)
theorem mem_deps {k x:Nat} {o:Oper} (ho:ops[k]?=some o) (hx:x∈depsOf md ops k):∃e∈o.after,Region.binds md e=true∧e.on=x:=by
 unfold depsOf at hx;have hlt:=(Array.getElem?_eq_some_iff.1 ho).1;have eo:ops.getD k default=o:=by simp [Array.getD,hlt,(Array.getElem?_eq_some_iff.1 ho).2]
 rw [eo] at hx;obtain ⟨e,he,rfl⟩:=List.mem_map.1 hx;obtain ⟨h1,h2⟩:=List.mem_filter.1 he;exact ⟨e,by simpa using h1,h2,rfl⟩
theorem lastOp_of {j:Nat} {o:Oper} (ho:ops[j]?=some o) (h:(List.range ops.size).all (fun k=>k==j || (waits md ops j).contains k)=true):LastOp md ops j:=fun listed k hdn hj hk hlt=>by
 obtain ⟨_,o',ho',hall⟩:=mem_ready.1 hj;rw [ho] at ho';cases ho';have key:∀(l:List Nat) (m:List Nat),(∀x∈l,x<ops.size)→(∀x∈m,listed.getD x false=true)→∀x∈l.foldl (fun m k=>if m.contains k then m++depsOf md ops k else m) m,listed.getD x false=true:=by
  intro l;induction l with
  |nil=>exact fun m _ hm=>hm
  |cons q l ih=>
   intro m hl hm;refine ih _ (fun x hx=>hl x (List.mem_cons_of_mem _ hx)) ?_;show ∀x∈(if m.contains q then m++depsOf md ops q else m),listed.getD x false=true;by_cases hq:m.contains q=true
   ·rw [if_pos hq];intro x hx;rcases List.mem_append.1 hx with hx|hx
    ·exact hm x hx
    ·have hlq:=hl q List.mem_cons_self;obtain ⟨e,he,hb,rfl⟩:=mem_deps (Array.getElem?_eq_getElem hlq) hx;exact hdn q _ (Array.getElem?_eq_getElem hlq) (hm q (by simpa using hq)) e he hb
   ·rw [if_neg hq];exact hm
 rw [List.all_eq_true] at h;have h1:=h k (List.mem_range.2 hlt);have h2:k∈waits md ops j:=by
  have hkj:(k==j)=false:=by simpa using hk
  rw [hkj,Bool.false_or] at h1;simpa using h1
 have h3:=key _ _ (fun x hx=>by simpa using hx) (fun x hx=>by
  obtain ⟨e,he,hb,rfl⟩:=mem_deps ho hx;exact hall e he hb) k h2
 rcases Nat.lt_or_ge k listed.size with h'|h'
 ·simp [h'] at h3 ⊢;exact h3
 ·simp [h']
theorem anyD_call {i:Nat} {o:Oper} {fuel:Nat} {listed:Array Bool} {a:Act} {w:World} (hr:Region.ready md ops listed=[i]) (ho:ops[i]?=some o) (hw:Region.wanted o (yielded ops a.tmps)=true)
  {f : FuncId} {args : Array Operand} {ats : Array TypeId} {fn' : Func} {c : Code} (hop : o.op = .call { callee := .value (.func f), args, argTypes := ats }) (hf : P.funcs[f]? = some fn') (hn : (fn'.name == "runtime.NumGoroutine") = false) (hb : fn'.body = some c) {Post : Value → World → Prop} (vs : Array Value) (hv : args.map a.eval = vs)
  (hc:CallsX P main R D f vs w Post Die) (h:∀v w',Post v w'→(S w'∨LastOp md ops i)∧AnyD P main R D fn md ops Q Die Tail S fuel (listed.setIfInBounds i true) (a.put o.dst v) w'):AnyD P main R D fn md ops Q Die Tail S (fuel+1) listed a w:=by
 refine ⟨fun h0=>absurd (hr.symm.trans h0) (by simp),fun j hj=>?_⟩;rw [hr] at hj;obtain rfl:j=i:=by simpa using hj
 unfold OpD;simp only [ho,hw,if_true];exact .inr (.inl ⟨f,args,ats,fn',c,hop,hf,hn,hb,by rw [hv];exact hc.mono h fun _ _ x=>x⟩)
theorem anyD_tail {i:Nat} {o:Oper} {fuel:Nat} {listed:Array Bool} {a:Act} {w:World} (hr:Region.ready md ops listed=[i]) (ho:ops[i]?=some o) (hw:Region.wanted o (yielded ops a.tmps)=true) (hl:LastOp md ops i) (h:Tail i a w):AnyD P main R D fn md ops Q Die Tail S (fuel+1) listed a w:=by
 refine ⟨fun h0=>absurd (hr.symm.trans h0) (by simp),fun j hj=>?_⟩;rw [hr] at hj;obtain rfl:j=i:=by simpa using hj
 unfold OpD;simp only [ho,hw,if_true];exact .inr (.inr ⟨hl,h⟩)
theorem anyD_done {listed:Array Bool} {a:Act} {w:World} (hr:Region.ready md ops listed=[]) (h:Q a w):∀fuel,AnyD P main R D fn md ops Q Die Tail S fuel listed a w
 |0=>⟨hr,h⟩
 |_+1=>⟨fun _=>h,fun i hi=>by rw [hr] at hi;cases hi⟩
theorem GoesW.drawn (T:Terms R D) (hd:LetsDraw D) {b:Frame} {k:List Item} {cs:List Frame} {Stop:Goroutine→World→Prop} {id:Nat} {a:Act} {w:World} (hk:b.kind≠.early) (hm:P.follows .mixedOrders=true)
  (hQ:∀a' w',a'.defers=a.defers→Q a' w'→GoesW P main R D Stop (G (b.at a' k) cs) w') (hD:∀ch w' fr,Die ch w'→fr.fn=b.fn→fr.kind=b.kind→fr.defers=a.defers→fr.mode=.panicking ch→GoesW P main R D Stop (G fr cs) w')
  (hTl:∀i a' w',a'.defers=a.defers→Tail i a' w'→GoesW P main R D Stop (G (b.at a' (.inRegion ops [i]::k)) cs) w')
  (h:∀w₁,R w w₁→AnyD P main R D b.fn .any ops Q Die Tail S ops.size (Array.replicate ops.size false) a {w₁ with drawn:=w₁.drawn+1}):GoesW P main R D Stop (G (b.at a (.code (.region id ops true)::k)) cs) w:=
 .one rfl fun w₁ r=>⟨_,_,_,stepG_region_draw,hd _,by
  simp only [Region.schedule,hm,Bool.true_or,if_true];exact anyD_sound T rfl hk a.defers hQ hD hTl ops.size _ _ a _ (down_none _) rfl (h w₁ r)⟩
end
theorem Turn.drew {L:Lot} {mine:Nat→Obj→Prop} (w:World):Turn L mine w {w with drawn:=w.drawn+1}:=.draw w _
section
variable {P:Program} {main:Bool} {R:World→World→Prop} {D:World→World→Array Event→Prop} {Stop:Goroutine→World→Prop}
theorem stepG_up {fr c:Frame} {cs:List Frame} {ch:List PanicEntry} {w:World} {fn:Func} (hm:fr.mode=.panicking ch) (hd:fr.defers=[]) (hf:P.funcs[fr.fn]?=some fn):stepG P main (G fr (c::cs)) w=.go (G (c.raise ch) cs) w:=by
 have hc:fr.catches P=false:=by simp [Frame.catches,hf]
 rw [stepG_unwind (by rw [hm];simp)];unfold unwind;simp only [hd,hm,hc];rfl
theorem GoesW.regionL (T:Terms R D) {b:Frame} {a:Act} {k:List Item} {cs:List Frame} {w:World} {id:Nat} {ops:Array Oper} (l:List Nat) (hl:List.range ops.size=l) (h:GoesW P main R D Stop (G (b.at a (.inRegion ops l::k)) cs) w):GoesW P main R D Stop (G (b.at a (.code (.region id ops false)::k)) cs) w:=.region T (by rw [hl];exact h)
theorem GoesW.condT (T:Terms R D) {b:Frame} {a:Act} {k:List Item} {cs:List Frame} {w:World} {c:Operand} {x y:Code} (e:a.eval c=.bool true) (h:GoesW P main R D Stop (G (b.at a (.code x::k)) cs) w):GoesW P main R D Stop (G (b.at a (.code (.cond c x y)::k)) cs) w:=.cond T e h
theorem GoesW.condF (T:Terms R D) {b:Frame} {a:Act} {k:List Item} {cs:List Frame} {w:World} {c:Operand} {x y:Code} (e:a.eval c=.bool false) (h:GoesW P main R D Stop (G (b.at a (.code y::k)) cs) w):GoesW P main R D Stop (G (b.at a (.code (.cond c x y)::k)) cs) w:=.cond T e h
theorem GoesW.drawnN (T:Terms R D) (hd:LetsDraw D) {b:Frame} {k:List Item} {cs:List Frame} {id:Nat} {a:Act} {w:World} {ops:Array Oper} {Q:Act→World→Prop} {Die:List PanicEntry→World→Prop} {S:World→Prop} (n:Nat) (hn:ops.size=n) (hk:b.kind≠.early) (hm:P.follows .mixedOrders=true)
  (hQ:∀a' w',a'.defers=a.defers→Q a' w'→GoesW P main R D Stop (G (b.at a' k) cs) w') (hD:∀ch w' fr,Die ch w'→fr.fn=b.fn→fr.kind=b.kind→fr.defers=a.defers→fr.mode=.panicking ch→GoesW P main R D Stop (G fr cs) w')
  (h:∀w₁,R w w₁→AnyD P main R D b.fn .any ops Q Die (fun _ _ _=>False) S n (Array.replicate n false) a {w₁ with drawn:=w₁.drawn+1}):GoesW P main R D Stop (G (b.at a (.code (.region id ops true)::k)) cs) w:=
 .drawn (Tail:=fun _ _ _=>False) T hd hk hm hQ hD (fun _ _ _ _ h=>h.elim) (by rw [hn];exact h)
theorem GoesW.drawnT (T:Terms R D) (hd:LetsDraw D) {b:Frame} {k:List Item} {cs:List Frame} {id:Nat} {a:Act} {w:World} {ops:Array Oper} {S:World→Prop} (n:Nat) (hn:ops.size=n) (hk:b.kind≠.early) (hm:P.follows .mixedOrders=true)
  (h:∀w₁,R w w₁→AnyD P main R D b.fn .any ops (fun a' w'=>GoesW P main R D Stop (G (b.at a' k) cs) w') (fun _ _=>False) (fun i a' w'=>a'.defers=a.defers∧GoesW P main R D Stop (G (b.at a' (.inRegion ops [i]::k)) cs) w') S n (Array.replicate n false) a {w₁ with drawn:=w₁.drawn+1}):GoesW P main R D Stop (G (b.at a (.code (.region id ops true)::k)) cs) w:=
 .drawn (Die:=fun _ _=>False) (Tail:=fun i a' w'=>a'.defers=a.defers∧GoesW P main R D Stop (G (b.at a' (.inRegion ops [i]::k)) cs) w') T hd hk hm (fun _ _ _ h=>h) (fun _ _ _ h=>h.elim) (fun _ _ _ _ h=>h.2) (by rw [hn];exact h)
theorem GoesW.leave (T:Terms R D) {f:FuncId} {fn:Func} {a:Act} {todo:List Item} {c:Frame} {cs:List Frame} {w:World} {v:Value} (hf:P.funcs[f]?=some fn) (hd:a.defers=[]) (hr:ResultsW P R D f fn a.tmps w v) (h:GoesW P main R D Stop (G (c.finish v) cs) w):
  GoesW P main R D Stop (G {(base f).at a todo with mode:=.returning} (c::cs)) w:=
 .one rfl fun w₁ h₁=>⟨_,_,_,stepG_leave_ev (b:=base f) rfl hd hf (hr w₁ h₁).1,(hr w₁ h₁).2,h.rely T.trans h₁⟩
theorem GoesW.up (T:Terms R D) {fr c:Frame} {cs:List Frame} {ch:List PanicEntry} {w:World} {fn:Func} (hm:fr.mode=.panicking ch) (hd:fr.defers=[]) (hf:P.funcs[fr.fn]?=some fn) (h:GoesW P main R D Stop (G (c.raise ch) cs) w):GoesW P main R D Stop (G fr (c::cs)) w:=
 .ctl T rfl (fun _=>stepG_up hm hd hf) h
theorem CallsX.intro (T:Terms R D) {f:FuncId} {fn:Func} {c:Code} {args:Array Value} {w:World} (tmps:Array Value) {Post:Value→World→Prop} {Die:List PanicEntry→World→Prop} (hf:P.funcs[f]?=some fn) (hb:fn.body=some c) (ht:args++Array.replicate (fn.ntmps-args.size) undef=tmps)
  (h:∀(cl:Frame) (cs:List Frame) (Stop:Goroutine→World→Prop),
   (∀a todo w' v,a.defers=[]→ResultsW P R D f fn a.tmps w' v→Post v w'→GoesW P main R D Stop (G {(base f).at a todo with mode:=.returning} (cl::cs)) w')→
   (∀fr ch w',fr.fn=f→fr.defers=[]→fr.mode=.panicking ch→Die ch w'→GoesW P main R D Stop (G fr (cl::cs)) w')→
   GoesW P main R D Stop (G ((base f).at {tmps:=tmps,defers:=[]} [.code c]) (cl::cs)) w):CallsX P main R D f args w Post Die:=fun cl cs Stop hp hd=>by
 rw [enter_at args hf hb,ht];exact h cl cs Stop (fun a todo w' v h1 h2 h3=>.leave T hf h1 h2 (hp v w' h3)) fun fr ch w' h1 h2 h3 h4=>.up T h3 h2 (by rw [h1];exact hf) (hd ch w' h4)
theorem resultsW_tmp (T:Terms R D) {f:FuncId} {fn:Func} {t:Tmp} {w:World} (h:fn.results=#[.tmp t]) (tmps:Array Value):ResultsW P R D f fn tmps w (tmps.getD t undef):=fun w₁ _=>by
 obtain ⟨h1,h2⟩:=resultsC_tmp (P:=P) h tmps w₁;rw [h2,seen_none];exact ⟨h1,T.idle _⟩
theorem resultsW_none (T:Terms R D) {f:FuncId} {fn:Func} {w:World} (h:fn.results=#[]) (tmps:Array Value):ResultsW P R D f fn tmps w (.tuple #[]):=fun w₁ _=>by
 obtain ⟨h1,h2⟩:=resultsC_none (P:=P) h tmps w₁;rw [h2,seen_none];exact ⟨h1,T.idle _⟩
theorem GoesW.callX (T:Terms R D) {b:Frame} {a:Act} {k:List Item} {cs:List Frame} {w:World} {ops:Array Oper} {i:Nat} {rest:List Nat} {o:Oper} {f:FuncId} {fn:Func} {c:Code} {args:Array Operand} {ats:Array TypeId} {Post:Value→World→Prop} {Die:List PanicEntry→World→Prop}
  (ho:ops[i]?=some o) (hw:Region.wanted o (yielded ops a.tmps)=true) (hk:b.kind≠.early) (hop:o.op=.call {callee:=.value (.func f),args,argTypes:=ats})
  (hf : P.funcs[f]? = some fn) (hname : (fn.name == "runtime.NumGoroutine") = false) (hb : fn.body = some c) (vs : Array Value) (hv : args.map a.eval = vs) (hc : CallsX P main R D f vs w Post Die)
  (h:∀v w',Post v w'→GoesW P main R D Stop (G (b.at (a.put o.dst v) (.inRegion ops rest::k)) cs) w')
  (hd:∀ch w' fr,Die ch w'→fr.fn=b.fn→fr.kind=b.kind→fr.defers=a.defers→fr.mode=.panicking ch→GoesW P main R D Stop (G fr cs) w'):
  GoesW P main R D Stop (G (b.at a (.inRegion ops (i::rest)::k)) cs) w:=by
 refine GoesW.enter T ho hw hk hop hf hname hb ?_;rw [←enter_at _ hf hb,hv];refine hc _ cs Stop (fun v w' x=>?_) fun ch w' x=>hd ch w' _ x rfl rfl rfl rfl;rw [Frame.finish_at,ho];exact h v w' x
theorem GoesW.panic {b:Frame} {a:Act} {k:List Item} {cs:List Frame} {w:World} {ops:Array Oper} {i:Nat} {rest:List Nat} {o:Oper} {v:Value} (T:Terms R D) (ho:ops[i]?=some o) (hw:Region.wanted o (yielded ops a.tmps)=true) (hk:b.kind≠.early)
  (hr:∀w,(execOp a.eval o).run P w=.halt (.panic v) w) (he:∀w,(execOp a.eval o).events P w #[]=#[])
  (h:∀fr,fr.fn=b.fn→fr.kind=b.kind→fr.defers=a.defers→fr.mode=.panicking [{v,recovered:=false}]→GoesW P main R D Stop (G fr cs) w):GoesW P main R D Stop (G (b.at a (.inRegion ops (i::rest)::k)) cs) w:=by
 have hk':(b.kind==CallKind.early)=false:=by simpa using hk
 refine .ctl T rfl (g':=G ((b.at a (.inRegion ops (i::rest)::k)).raise [{v,recovered:=false}]) cs) (fun w₁=>?_) (h _ rfl rfl rfl rfl);rw [stepG_oper ho hw];simp [stepG.apply,hr,he,G,Frame.at,Frame.raise,hk',GStep.after,seen_none]
end
def zset (z:Nat→Int) (j:Nat) (v:Int) (i:Nat):Int:=if i=j then v else z i
theorem zset_same (z:Nat→Int) (j:Nat) (v:Int):zset z j v j=v:=if_pos rfl
theorem zset_ne (z:Nat→Int) {i j:Nat} (v:Int) (h:i≠j):zset z j v i=z i:=if_neg h
theorem cellV_upd (num:Int) (net code:Value) (z:Nat→Int) {j:Nat} (hj:3≤j) (v:Int) (i:Nat):upd (cellV num net code z) j (.int .i64 v) i=cellV num net code (zset z j v) i:=by
 unfold upd cellV zset;by_cases h:i=j
 ·subst h;rw [if_pos rfl,if_neg (by omega),if_neg (by omega),if_neg (by omega),if_pos rfl]
 ·rw [if_neg h,if_neg h]
theorem cellV_at (num:Int) (net code:Value) (z:Nat→Int) {j:Nat} (hj:3≤j):cellV num net code z j=.int .i64 (z j):=by
 unfold cellV;rw [if_neg (by omega),if_neg (by omega),if_neg (by omega)]
abbrev cellRow (g:Nat) (num:Int) (net code:Value) (z:Nat→Int):Row:=⟨g,48,163,cellV num net code z⟩
section
variable {L:Lot} {w0 w:World} {rows:List Row} {ic g:Nat} {num:Int} {net code:Value} {z:Nat→Int}
theorem Kn.cellZ (h:Kn L w0 rows w) (hi:rows[ic]?=some (cellRow g num net code z)) {j:Nat} (h3:3≤j) (hj:j<48):w.cell? ⟨g,j,none⟩=some (.int .i64 (z j)):=by
 have:=h.cell hi (j:=j) hj;rw [this];exact congrArg some (cellV_at num net code z h3)
theorem Kn.setZ (h:Kn L w0 rows w) (hi:rows[ic]?=some (cellRow g num net code z)) {j:Nat} (h3:3≤j) (v:Int):Kn L w0 (rows.set ic (cellRow g num net code (zset z j v))) (w.setCell ⟨g,j,none⟩ (.int .i64 v)):=
 (h.set hi j (.int .i64 v)).congr hi rfl rfl rfl fun i _=>cellV_upd num net code z h3 v i
end
end Go.Proofs.Ytdoghgnifkgfdaa.Mute
