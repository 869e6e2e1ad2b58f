import Derived.Conc.Own
import Derived.Test.YtdoghgnifkgfdaaP01
set_option maxRecDepth 100000
set_option maxHeartbeats 16000000
namespace Go.Proofs.Ytdoghgnifkgfdaa.Mute
open Go
structure Plan where
 fns:Nat→Bool
 fs:Nat→Nat→Bool
 ps:Nat→Nat→Bool
 cf:Nat→Bool
section
variable (P:Program) (A:Plan)
def hasBody (f:Nat):Bool:=A.fns f && match P.funcs[f]? with
 | some fn => fn.body.isSome && !(fn.name == "runtime.NumGoroutine")
 |none=>false
def noSlots (f:Nat):Bool:=match P.funcs[f]? with
 |some fn=>(List.range (fn.ntmps+64)).all fun t=>!A.fs f t && !A.ps f t
 |none=>false
def fsOperand (h:Nat):Operand→Bool
 |.tmp t=>A.fs h t
 |.func g=>A.cf g
 |_=>false
def psOperand (h:Nat):Operand→Bool
 |.tmp t=>A.ps h t
 |_=>false
def argsFit (h f:Nat) (args:Array Operand):Bool:=
 (List.range (args.size+64)).all fun j=>match args[j]? with
  |some x=>(!A.fs f j || fsOperand A h x) && (!A.ps f j || psOperand A h x)
  |none=>true
def plainBuiltin:Builtin→Bool
 |.append|.cap|.close|.copy|.delete|.len=>true
 |_=>false
def plainCall (h:Nat) (c:Call):Bool:=match c.callee with
 |.builtin .recover=>true
 |.builtin b=>plainBuiltin b
 |.value (.func f)=>hasBody P A f && argsFit A h f c.args
 |.value (.tmp t)=>A.fs h t
 |_=>false
def plainLater (h:Nat) (c:Call):Bool:=match c.callee with
 |.builtin b=>plainBuiltin b
 |.value (.func f)=>hasBody P A f && noSlots P A f
 |.value (.tmp t)=>A.fs h t
 |_=>false
def freeDst (h:Nat) (o:Oper):Bool:=match o.dst with
 |some d=>!A.fs h d && !A.ps h d
 |none=>true
def plainOper (h:Nat) (o:Oper):Bool:=match o.op with
 |.move x|.assign x=>match o.dst with
  |some d=>(!A.fs h d || fsOperand A h x) && (!A.ps h d || psOperand A h x)
  |none=>true
 |.makeFunc (.func f) first _=>match o.dst with
  |some d=>!A.ps h d && (!A.fs h d || (A.cf f && first.isEmpty))
  |none=>true
 |.makeInterface _ _=>match o.dst with
  |some d=>!A.fs h d
  |none=>true
 |.call c=>freeDst A h o && plainCall P A h c
 |.defer c=>freeDst A h o && plainLater P A h c
 |.panic x=>freeDst A h o && psOperand A h x
 |.go _|.send ..|.recv ..|.select ..|.ready _|.waits _|.makeFunc ..=>false
 |_=>freeDst A h o
def plainCode (h:Nat):Code→Bool
 |.region _ ops _=>ops.all (plainOper P A h)
 |.seq a b|.cond _ a b=>plainCode h a && plainCode h b
 |.block _ c|.loop c|.scope c=>plainCode h c
 |.ret|.skip|.exit _|.label _=>true
 |_=>false
structure PlainProg:Prop where
 code:∀(f:Nat) (fn:Func) (c:Code),A.fns f=true→P.funcs[f]?=some fn→fn.body=some c→plainCode P A f c=true
 cf:∀f,A.cf f=true→hasBody P A f=true∧noSlots P A f=true
 far:∀f t fn,P.funcs[f]?=some fn→fn.ntmps+64≤t→A.fs f t=false∧A.ps f t=false
end
def FsVal (A:Plan) (v:Value):Prop:=v=undef∨∃f c,v=.func (.func f) #[] c∧A.cf f=true
def PsVal (v:Value):Prop:=v≠.nilIface
def SlotsOk (A:Plan) (h:Nat) (ρ:Nat→Value):Prop:=∀t,(A.fs h t=true→FsVal A (ρ t))∧(A.ps h t=true→PsVal (ρ t))
def EnterOk (P:Program) (A:Plan) (f:Nat) (args:Array Value):Prop:=hasBody P A f=true∧SlotsOk A f (fun t=>args.getD t undef)
def DefOk (P:Program) (A:Plan) (d:Deferred):Prop:=
 (∃b ts t cs,d.target=.builtin b ts t cs∧plainBuiltin b=true)∨(∃f c,d.target=.fn (.func f) c∧hasBody P A f=true∧noSlots P A f=true)
def DstOk (A:Plan) (h:Nat) (o:Oper) (v:Value):Prop:=∀d,o.dst=some d→(A.fs h d=true→FsVal A v)∧(A.ps h d=true→PsVal v)
def isDefer (o:Oper):Bool:=match o.op with
 |.defer _=>true
 |_=>false
def NextOk (P:Program) (A:Plan) (h:Nat) (o:Oper):Next→Prop
 |.value v=>DstOk A h o v
 |.skip=>True
 |.enter f args=>EnterOk P A f args∧∀v,DstOk A h o v
 |.defer d=>DefOk P A d∧isDefer o=true
 |.recover=>∀v,DstOk A h o v
 |_=>False
section
variable {P:Program} {A:Plan} {h:Nat} {o:Oper}
theorem DstOk.free (hf:freeDst A h o=true) (v:Value):DstOk A h o v:=fun d hd=>by
 unfold freeDst at hf;rw [hd] at hf;simp only [Bool.and_eq_true,Bool.not_eq_true'] at hf;exact ⟨fun e=>(by rw [hf.1] at e;cases e),fun e=>(by rw [hf.2] at e;cases e)⟩
theorem fsVal_undef:FsVal A undef:=.inl rfl
theorem psVal_undef:PsVal undef:=by unfold PsVal undef;simp
theorem DstOk.undef:DstOk A h o undef:=fun _ _=>⟨fun _=>fsVal_undef,fun _=>psVal_undef⟩
theorem Ok.mono {α:Type} {L M:α→Prop} (hm:∀a,L a→M a):∀{s:Sem α},Ok P L s→Ok P M s
 |.pure a,h=>hm a h
 |.load _ _ _,h=>fun v=>Ok.mono hm (h v)
 |.store _ _ _ k,h=>Ok.mono hm (s:=k) h
 |.new _ _,h=>fun r=>Ok.mono hm (h r)
 |.shape _ _,h=>fun r=>Ok.mono hm (h r)
 |.freeze _ _ k,h=>Ok.mono hm (s:=k) h
 |.frozen _ _,h=>fun r=>Ok.mono hm (h r)
 |.getObj _ _,h=>fun r=>Ok.mono hm (h r)
 |.setObj _ _ k,h=>Ok.mono hm (s:=k) h
 |.choose _ _,h=>fun r=>Ok.mono hm (h r)
 |.sys _ _,h=>h.elim
 |.program k,h=>Ok.mono hm (s:=k P) h
 |.mark _ k,h=>⟨h.1,Ok.mono hm (s:=k) h.2⟩
 |.halt _,h=>h
theorem stuck_okL {α:Type} {L:α→Prop} (s:String):Ok P L (stuck s:Sem α):=trivial
theorem goPanic_okL {α:Type} {L:α→Prop} (v:Value):Ok P L (goPanic v:Sem α):=trivial
theorem runtimePanic_okL {α:Type} {L:α→Prop} (e:RuntimeError):Ok P L (runtimePanic e:Sem α):=by
 unfold runtimePanic;refine Ok.bindT program_ok fun p=>?_;cases e with
 |typeAssertion i c a m=>exact Ok.bindT (elemOf_ok _) fun _=>Ok.bindT (newVar_ok _ _) fun _=>goPanic_okL _
 |panicNil=>exact Ok.bindT (elemOf_ok _) fun _=>Ok.bindT (newVar_ok _ _) fun _=>goPanic_okL _
 |_=>exact goPanic_okL _
theorem ok_value {s:Sem Value} (hs:Ok P T s) (hf:freeDst A h o=true):Ok P (NextOk P A h o) (do pure (.value (←s)):Sem Next):=Ok.bindT hs fun v=>DstOk.free hf v
theorem ok_unit {s:Sem Unit} (hs:Ok P T s):Ok P (NextOk P A h o) (do s;pure .skip:Sem Next):=Ok.bindT hs fun _=>trivial
theorem slots_noSlots {f:Nat} {fn:Func} (H:PlainProg P A) (hf:P.funcs[f]?=some fn) (hn:noSlots P A f=true) (ρ:Nat→Value):SlotsOk A f ρ:=fun t=>by
 unfold noSlots at hn;rw [hf] at hn;simp only [List.all_eq_true,List.mem_range,Bool.and_eq_true,Bool.not_eq_true'] at hn;have:A.fs f t=false∧A.ps f t=false:=by
  by_cases ht:t<fn.ntmps+64
  ·exact hn t ht
  ·exact H.far f t fn hf (by omega)
 exact ⟨fun e=>(by rw [this.1] at e;cases e),fun e=>(by rw [this.2] at e;cases e)⟩
theorem hasBody_some {f : Nat} (hb : hasBody P A f = true) : ∃ fn c, P.funcs[f]? = some fn ∧ fn.body = some c ∧ (fn.name == "runtime.NumGoroutine") = false ∧ A.fns f = true := by
 unfold hasBody at hb;rw [Bool.and_eq_true] at hb;obtain ⟨hA,hb⟩:=hb;split at hb
 ·rename_i fn hf
  simp only [Bool.and_eq_true,Bool.not_eq_true'] at hb;obtain ⟨c,hc⟩:=Option.isSome_iff_exists.1 hb.1;exact ⟨fn,c,hf,hc,hb.2,hA⟩
 ·cases hb
theorem callFunc_ok {f:Nat} {args:Array Value} (hb:hasBody P A f=true):Ok P (fun n=>n=.enter f args) (callFunc f args):=by
 obtain ⟨fn,c,hf,hc,hn,-⟩:=hasBody_some hb;unfold callFunc;refine Ok.bindL (L:=fun p=>p=P) rfl (fun p hp=>?_);subst hp;simp only [hf,hn,hc];exact rfl
theorem ofValue_ok {v:Value} {args:Array Value} (H:PlainProg P A) (hv:FsVal A v):Ok P (fun d=>DefOk P A d∧∃f c,d={target:=.fn (.func f) c,args:=args}∧A.cf f=true) (Deferred.ofValue v args):=by
 rcases hv with rfl|⟨f,c,rfl,hc⟩
 ·exact stuck_okL _
 ·have hb:=H.cf f hc;exact ⟨.inr ⟨f,c,rfl,hb⟩,f,c,by simp,hc⟩
theorem builtin_ok {b:Builtin} (hb:plainBuiltin b=true) (ts:Array TypeId) (t:TypeId) (cs:Array Bool) (args:Array Value):Ok P (fun n=>∃v,n=.value v) (builtin b ts t cs args):=by
 cases b<;>first|(cases hb;done)|skip
 ·exact Ok.bindT (bappend_ok _ _ _) fun v=>⟨v,rfl⟩
 ·exact Ok.bindT (bcap_ok _ _ _) fun v=>⟨v,rfl⟩
 ·exact Ok.bindT (bclose_ok _ _ _) fun v=>⟨v,rfl⟩
 ·exact Ok.bindT (bcopy_ok _ _ _) fun v=>⟨v,rfl⟩
 ·exact Ok.bindT (bdelete_ok _ _ _) fun v=>⟨v,rfl⟩
 ·exact Ok.bindT (blen_ok _ _ _) fun v=>⟨v,rfl⟩
theorem nilCheck_ok {ρ:Operand→Value} {x:Operand} (hop:o.op=.nilCheck x) (hf:freeDst A h o=true):Ok P (NextOk P A h o) (execOp ρ o):=by
 unfold execOp;simp only [hop];split
 ·exact runtimePanic_okL _
 ·exact runtimePanic_okL _
 ·exact runtimePanic_okL _
 ·split
  ·exact runtimePanic_okL _
  ·refine Ok.bindT program_ok fun _=>Ok.bindT (nilAhead_ok _ _ _ _) fun _=>?_;split
   ·exact Ok.bindT (unsupported_ok _) fun _=>DstOk.free hf _
   ·exact DstOk.free hf _
  ·exact DstOk.free hf _
 ·exact DstOk.free hf _
theorem fsOperand_val {ρ:Operand→Value} {x:Operand} (hρ:SlotsOk A h (fun t=>ρ (.tmp t))) (hfn:∀g,ρ (.func g)=.func (.func g) #[] #[]) (hx:fsOperand A h x=true):FsVal A (ρ x):=by
 cases x with
 |tmp t=>exact (hρ t).1 hx
 |func g=>exact .inr ⟨g,#[],hfn g,hx⟩
 |_=>cases hx
theorem psOperand_val {ρ:Operand→Value} {x:Operand} (hρ:SlotsOk A h (fun t=>ρ (.tmp t))) (hx:psOperand A h x=true):PsVal (ρ x):=by
 cases x with
 |tmp t=>exact (hρ t).2 hx
 |_=>cases hx
theorem args_ok {ρ:Operand→Value} {f:Nat} {args:Array Operand} (hρ:SlotsOk A h (fun t=>ρ (.tmp t))) (hfn:∀g,ρ (.func g)=.func (.func g) #[] #[]) (ha:argsFit A h f args=true):SlotsOk A f (fun t=>(args.map ρ).getD t undef):=fun t=>by
 show (_→FsVal A ((args.map ρ).getD t undef))∧(_→PsVal ((args.map ρ).getD t undef));by_cases ht:t<args.size
 ·unfold argsFit at ha;simp only [List.all_eq_true,List.mem_range] at ha;have h1:=ha t (by omega);rw [Array.getElem?_eq_getElem ht] at h1;simp only [Bool.and_eq_true,Bool.or_eq_true,Bool.not_eq_true'] at h1;have e:(args.map ρ).getD t undef=ρ args[t]:=by simp [Array.getD,ht]
  rw [e];exact ⟨fun hx=>fsOperand_val hρ hfn (h1.1.resolve_left (by rw [hx];simp)),fun hx=>psOperand_val hρ (h1.2.resolve_left (by rw [hx];simp))⟩
 ·have e:(args.map ρ).getD t undef=undef:=by simp [Array.getD,ht]
  rw [e];exact ⟨fun _=>fsVal_undef,fun _=>psVal_undef⟩
theorem moved_ok {ρ:Operand→Value} {x:Operand} (hρ:SlotsOk A h (fun t=>ρ (.tmp t))) (hfn:∀g,ρ (.func g)=.func (.func g) #[] #[])
  (hp:(match o.dst with|some d=>(!A.fs h d || fsOperand A h x) && (!A.ps h d || psOperand A h x)|none=>true)=true):Ok P (NextOk P A h o) (pure (.value (ρ x)):Sem Next):=fun d hd=>by
 rw [hd] at hp;simp only [Bool.and_eq_true,Bool.or_eq_true,Bool.not_eq_true'] at hp;refine ⟨fun e=>?_,fun e=>?_⟩
 ·have hx:=hp.1.resolve_left (by rw [e];simp);cases x with
  |tmp t=>exact (hρ t).1 hx
  |func g=>exact .inr ⟨g,#[],hfn g,hx⟩
  |_=>cases hx
 ·have hx:=hp.2.resolve_left (by rw [e];simp);cases x with
  |tmp t=>exact (hρ t).2 hx
  |_=>cases hx
theorem makeInterface_okP (t:TypeId) (x:Value):Ok P PsVal (Instr.makeInterface t x):=by
 unfold Instr.makeInterface;refine Ok.bindT (underlying_ok _) fun d=>?_;split
 ·exact stuck_okL _
 ·show PsVal _;unfold PsVal;simp
theorem resolve_ok {ρ:Operand→Value} {c:Call} {t:TypeId} (H:PlainProg P A) (hρ:SlotsOk A h (fun t=>ρ (.tmp t))) (hfn:∀g,ρ (.func g)=.func (.func g) #[] #[]) (hc:plainLater P A h c=true):Ok P (DefOk P A) (resolve ρ c t):=by
 unfold resolve;unfold plainLater at hc;split at hc
 ·rename_i b hb
  simp only [hb];exact .inl ⟨_,_,_,_,rfl,hc⟩
 ·rename_i f hb
  simp only [hb,hfn];simp only [Bool.and_eq_true] at hc;exact .inr ⟨f,_,rfl,hc⟩
 ·rename_i u hb
  simp only [hb];exact Ok.mono (fun _ x=>x.1) (ofValue_ok H ((hρ u).1 hc))
 ·cases hc
theorem call_ok {ρ:Operand→Value} {c:Call} (H:PlainProg P A) (hρ:SlotsOk A h (fun t=>ρ (.tmp t))) (hfn:∀g,ρ (.func g)=.func (.func g) #[] #[]) (hd:freeDst A h o=true) (hc:plainCall P A h c=true):
  Ok P (NextOk P A h o) (do let d ←resolve ρ c o.type;invoke d.target d.args:Sem Next):=by
 unfold plainCall at hc;split at hc
 ·rename_i hb
  refine Ok.bindL (L:=fun d=>d={target:=.builtin .recover c.argTypes o.type (c.args.map fun|.const _=>true|_=>false),args:=c.args.map ρ}) ?_ fun d hd'=>?_
  ·unfold resolve;simp only [hb];exact rfl
  ·subst hd';exact fun v=>DstOk.free hd v
 ·rename_i b _ hb
  refine Ok.bindL (L:=fun d=>d={target:=.builtin b c.argTypes o.type (c.args.map fun|.const _=>true|_=>false),args:=c.args.map ρ}) ?_ fun d hd'=>?_
  ·unfold resolve;simp only [hb];exact rfl
  ·subst hd';exact Ok.mono (fun n ⟨v,hv⟩=>by subst hv;exact DstOk.free hd v) (builtin_ok hc _ _ _ _)
 ·rename_i f hb
  simp only [Bool.and_eq_true] at hc;refine Ok.bindL (L:=fun d=>d={target:=.fn (.func f) #[],args:=#[]++c.args.map ρ}) ?_ fun d hd'=>?_
  ·unfold resolve;simp only [hb,hfn];exact rfl
  ·subst hd';refine Ok.mono (fun n hn=>?_) (callFunc_ok (args:=#[]++c.args.map ρ++#[]) hc.1);subst hn;refine ⟨⟨hc.1,?_⟩,fun v=>DstOk.free hd v⟩;have:=args_ok hρ hfn hc.2;simpa using this
 ·rename_i u hb
  refine Ok.bindL (L:=fun d=>∃f cap,d={target:=.fn (.func f) cap,args:=c.args.map ρ}∧A.cf f=true) ?_ fun d hd'=>?_
  ·unfold resolve;simp only [hb];exact Ok.mono (fun _ x=>x.2) (ofValue_ok H ((hρ u).1 hc))
  ·obtain ⟨f,cap,rfl,hcf⟩:=hd';have hb:=H.cf f hcf;refine Ok.mono (fun n hn=>?_) (callFunc_ok (args:=c.args.map ρ++cap) hb.1);subst hn;obtain ⟨fn,_,hf,_⟩:=hasBody_some hb.1;exact ⟨⟨hb.1,slots_noSlots H hf hb.2 _⟩,fun v=>DstOk.free hd v⟩
 ·cases hc
theorem execOp_ok (H:PlainProg P A) {ρ:Operand→Value} (hρ:SlotsOk A h (fun t=>ρ (.tmp t))) (hfn:∀g,ρ (.func g)=.func (.func g) #[] #[]) (hp:plainOper P A h o=true):Ok P (NextOk P A h o) (execOp ρ o):=by
 cases hop:o.op with
 |nilCheck x=>exact nilCheck_ok hop (by simpa [plainOper,hop] using hp)
 |alloc t=>
  unfold execOp;simp only [hop];simp only [plainOper,hop] at hp;exact ok_value (alloc_ok _ _ _) hp
 |box t x=>
  unfold execOp;simp only [hop];simp only [plainOper,hop] at hp;exact ok_value (box_ok _ _) hp
 |build t xs=>
  unfold execOp;simp only [hop];simp only [plainOper,hop] at hp;exact ok_value (build_ok _ _) hp
 |buildSlice t n xs=>
  unfold execOp;simp only [hop];simp only [plainOper,hop] at hp;exact ok_value (buildSlice_ok _ _ _) hp
 |load t x=>
  unfold execOp;simp only [hop];simp only [plainOper,hop] at hp;exact ok_value (loadAt_ok _ _) hp
 |binOp b t x y u=>
  unfold execOp;simp only [hop];simp only [plainOper,hop] at hp;exact ok_value (Ok.bindT (eqGuard_ok _ _ _ _ _ _) fun _=>binOp_ok _ _ _ _) hp
 |unOp b t x=>
  unfold execOp;simp only [hop];simp only [plainOper,hop] at hp;exact ok_value (unary_ok _ _) hp
 |convert t u x=>
  unfold execOp;simp only [hop];simp only [plainOper,hop] at hp;exact ok_value (convert_ok _ _ _) hp
 |sliceToArrayPointer t x=>
  unfold execOp;simp only [hop];simp only [plainOper,hop] at hp;exact ok_value (arrayAt_ok _ _) hp
 |makeMap t r=>
  unfold execOp;simp only [hop];simp only [plainOper,hop] at hp;exact ok_value (makeMap_ok _ _) hp
 |makeChan t x=>
  unfold execOp;simp only [hop];simp only [plainOper,hop] at hp;exact ok_value (makeChan_ok _ _) hp
 |makeSlice t x y=>
  unfold execOp;simp only [hop];simp only [plainOper,hop] at hp;exact ok_value (makeSlice_ok _ _ _) hp
 |slice t x l u m=>
  unfold execOp;simp only [hop];simp only [plainOper,hop] at hp;exact ok_value (sliceAt_ok _ _ _ _ _) hp
 |fieldAddr t x n=>
  unfold execOp;simp only [hop];simp only [plainOper,hop] at hp;exact ok_value (fieldAt_ok _ _ _) hp
 |field t x n=>
  unfold execOp;simp only [hop];simp only [plainOper,hop] at hp;exact ok_value (field_ok _ _ _) hp
 |indexAddr t x y=>
  unfold execOp;simp only [hop];simp only [plainOper,hop] at hp;exact ok_value (indexAt_ok _ _ _) hp
 |index t x y=>
  unfold execOp;simp only [hop];simp only [plainOper,hop] at hp;exact ok_value (index_ok _ _ _) hp
 |lookup t x y b=>
  unfold execOp;simp only [hop];simp only [plainOper,hop] at hp;exact ok_value (lookup_ok _ _ _ _) hp
 |mapEntry t x y=>
  unfold execOp;simp only [hop];simp only [plainOper,hop] at hp;exact ok_value (mapEntry_ok _ _ _) hp
 |range t x=>
  unfold execOp;simp only [hop];simp only [plainOper,hop] at hp;exact ok_value (range_ok _ _) hp
 |next x b=>
  unfold execOp;simp only [hop];simp only [plainOper,hop] at hp;exact ok_value (next_ok _ _ _) hp
 |entry x=>
  unfold execOp;simp only [hop];simp only [plainOper,hop] at hp;exact ok_value (entry_ok _) hp
 |typeAssert x t u b=>
  unfold execOp;simp only [hop];simp only [plainOper,hop] at hp;exact ok_value (typeAssert_ok _ _ _ _) hp
 |extract x n=>
  unfold execOp;simp only [hop];simp only [plainOper,hop] at hp;exact ok_value (extract_ok _ _) hp
 |store t x y=>
  unfold execOp;simp only [hop];exact ok_unit (storeAt_ok _ _ _)
 |mapUpdate t m k x=>
  unfold execOp;simp only [hop];exact ok_unit (mapUpdate_ok _ _ _ _)
 |insert t m k x=>
  unfold execOp;simp only [hop];exact ok_unit (mapUpdate_ok _ _ _ _)
 |entryStore t m k x=>
  unfold execOp;simp only [hop];exact ok_unit (entryStore_ok _ _ _ _)
 |move x=>
  unfold execOp;simp only [hop];exact moved_ok hρ hfn (by simpa [plainOper,hop] using hp)
 |assign x=>
  unfold execOp;simp only [hop];exact moved_ok hρ hfn (by simpa [plainOper,hop] using hp)
 |pick c x y=>
  unfold execOp;simp only [hop];simp only [plainOper,hop] at hp;exact Ok.bindT (asBool_ok _) fun _=>DstOk.free hp _
 |select a b=>
  simp [plainOper,hop] at hp
 |ready g=>
  simp [plainOper,hop] at hp
 |waits g=>
  simp [plainOper,hop] at hp
 |makeInterface t x=>
  unfold execOp;simp only [hop];refine Ok.bindL (makeInterface_okP _ _) fun v hv=>fun d hd=>?_;simp only [plainOper,hop,hd] at hp;exact ⟨fun e=>(by rw [e] at hp;cases hp),fun _=>hv⟩
 |makeFunc f first cap=>
  unfold execOp;simp only [hop];cases f with
  |func f=>
   refine Ok.bindL (L:=fun v=>v=.func (.func f) (first.map ρ) (cap.map ρ)) (by unfold Instr.makeFunc;exact rfl) fun v hv=>fun d hd=>?_;subst hv;simp only [plainOper,hop,hd,Bool.and_eq_true,Bool.not_eq_true',Bool.or_eq_true] at hp;refine ⟨fun e=>?_,fun e=>(by rw [hp.1] at e;cases e)⟩;rcases hp.2 with h1|⟨h1,h2⟩
   ·rw [h1] at e;cases e
   ·have:first=#[]:=by simpa using h2
    exact .inr ⟨f,cap.map ρ,by simp [this],h1⟩
  |_=>simp [plainOper,hop] at hp
 |panic x=>
  unfold execOp;simp only [hop];simp only [plainOper,hop,Bool.and_eq_true] at hp;cases x with
  |tmp t=>
   have hv:PsVal (ρ (.tmp t)):=(hρ t).2 hp.2;refine Ok.bindT ?_ fun v=>DstOk.free hp.1 v;unfold Instr.panic;cases hx:ρ (.tmp t) with
   |iface a b=>exact goPanic_ok _
   |nilIface=>exact absurd hx hv
   |_=>exact stuck_ok _
  |_=>simp [psOperand] at hp
 |send c x=>
  simp [plainOper,hop] at hp
 |recv t c b=>
  simp [plainOper,hop] at hp
 |go c=>
  simp [plainOper,hop] at hp
 |defer c=>
  unfold execOp;simp only [hop];simp only [plainOper,hop,Bool.and_eq_true] at hp;exact Ok.bindL (resolve_ok H hρ hfn hp.2) fun d hd=>⟨hd,by simp [isDefer,hop]⟩
 |call c=>
  unfold execOp;simp only [hop];simp only [plainOper,hop,Bool.and_eq_true] at hp;exact call_ok H hρ hfn hp.1 hp.2
end
open Go.Conc
section
variable (P:Program) (A:Plan)
def ItemOk (h:Nat):Item→Prop
 |.code c|.inLoop c|.inScope c=>plainCode P A h c=true
 |.inBlock _=>True
 |.inRegion ops _=>ops.all (plainOper P A h)=true
 |_=>False
structure FrOk (fr:Frame):Prop where
 fn:∃fn,P.funcs[fr.fn]?=some fn
 round:fr.roundOf=none
 kind:fr.kind=.normal∨fr.kind=.deferred
 todo:∀it∈fr.todo,ItemOk P A fr.fn it
 slots:SlotsOk A fr.fn (fun t=>fr.tmps.getD t undef)
 defers:∀d∈fr.defers,DefOk P A d
def StackOk:CallKind→List Frame→Prop
 |k,[]=>k=.normal
 |k,c::rest=>FrOk P A c∧(k=.normal→∀v,FrOk P A (c.finish v))∧StackOk c.kind rest
end
def Agree (w:World) (τ:Nat→Question→Nat) (d n:Nat):Prop:=∀k,k<n→τ (d+k)=w.tape (w.drawn+k)
def StepRes (P:Program) (A:Plan) (fr:Frame) (top:List Frame) (w:World):Prop:=∃n,
 (∃fr' top' w' es,FrOk P A fr'∧StackOk P A fr'.kind top'∧(∀e∈es,EvOk e)∧w'.tape=w.tape∧w'.drawn=w.drawn+n∧
  ∀τ d,Agree w τ d n→∀main cs,stepG P main (G fr (top++cs)) (reW w τ d)=.go (G fr' (top'++cs)) (reW w' τ (d+n)) es)∨
 (∀τ d,Agree w τ d n→∀main cs,∃o w' es,stepG P main (G fr (top++cs)) (reW w τ d)=.ended o w' es)
section
variable {P:Program} {A:Plan} {fr:Frame} {top:List Frame} {w:World}
theorem FrOk.upd (h:FrOk P A fr) {todo:List Item} (ht:∀it∈todo,ItemOk P A fr.fn it):FrOk P A {fr with todo}:=⟨h.fn,h.round,h.kind,ht,h.slots,h.defers⟩
theorem FrOk.mode (h:FrOk P A fr) (m:FrameMode):FrOk P A {fr with mode:=m}:=⟨h.fn,h.round,h.kind,h.todo,h.slots,h.defers⟩
theorem FrOk.raise (h:FrOk P A fr) (c:List PanicEntry):FrOk P A (fr.raise c):=by
 unfold Frame.raise;split<;>exact h.mode _
theorem raise_kind (fr:Frame) (c:List PanicEntry):(fr.raise c).kind=fr.kind:=by unfold Frame.raise;split<;>rfl
theorem slots_put {h d:Nat} {tmps:Array Value} {v:Value} (hs:SlotsOk A h (fun t=>tmps.getD t undef)) (hd:(A.fs h d=true→FsVal A v)∧(A.ps h d=true→PsVal v)):SlotsOk A h (fun t=>(tmps.setIfInBounds d v).getD t undef):=fun t=>by
 have hst:=hs t;show (_→FsVal A ((tmps.setIfInBounds d v).getD t undef))∧(_→PsVal ((tmps.setIfInBounds d v).getD t undef));by_cases ht:t<tmps.size
 ·by_cases e:d=t
  ·subst e;have:(tmps.setIfInBounds d v).getD d undef=v:=by simp [Array.getD,ht]
   rw [this];exact hd
  ·have:(tmps.setIfInBounds d v).getD t undef=tmps.getD t undef:=by
    simp [Array.getD,ht,Array.getElem_setIfInBounds_ne,e]
   rw [this];exact hst
 ·have:(tmps.setIfInBounds d v).getD t undef=undef:=by simp [Array.getD,ht]
  rw [this];exact ⟨fun _=>fsVal_undef,fun _=>psVal_undef⟩
theorem FrOk.finish {ops:Array Oper} {i:Nat} {rest:List Nat} {k:List Item} {o:Oper} {v:Value} (h:FrOk P A fr) (ht:fr.todo=.inRegion ops (i::rest)::k) (ho:ops[i]?=some o) (hv:DstOk A fr.fn o v):FrOk P A (fr.finish v):=by
 have ht1:∀it∈(Item.inRegion ops rest::k),ItemOk P A fr.fn it:=fun it hit=>by
  have:=h.todo;rw [ht] at this;rcases List.mem_cons.1 hit with rfl|hit
  ·exact this (.inRegion ops (i::rest)) (List.mem_cons_self)
  ·exact this it (List.mem_cons_of_mem _ hit)
 unfold Frame.finish;rw [ht];simp only [ho,Option.bind_some];cases hd:o.dst with
 |none=>exact ⟨h.fn,h.round,h.kind,ht1,h.slots,h.defers⟩
 |some d=>exact ⟨h.fn,h.round,h.kind,ht1,slots_put h.slots (hv d hd),h.defers⟩
theorem finish_kind (fr:Frame) (v:Value):(fr.finish v).kind=fr.kind:=by unfold Frame.finish;split<;>rfl
theorem StepRes.to {todo:List Item} (h:FrOk P A fr) (hst:StackOk P A fr.kind top) (ht:∀it∈todo,ItemOk P A fr.fn it) (hs:∀(w:World) main cs,stepG P main (G fr (top++cs)) w=.go (G {fr with todo} (top++cs)) w #[]):StepRes P A fr top w:=
 ⟨0,.inl ⟨{fr with todo},top,w,#[],h.upd ht,hst,by simp,rfl,rfl,fun τ d _ main cs=>hs _ _ _⟩⟩
theorem StepRes.ended (hs:∀(w:World) main cs,∃o w' es,stepG P main (G fr (top++cs)) w=.ended o w' es):StepRes P A fr top w:=⟨0,.inr (fun _ _ _ _ _=>hs _ _ _)⟩
theorem tryRecover_app {k:List Frame} (h:fr.kind=.normal∨fr.kind=.deferred) (hne:fr.kind=.normal∨k≠[]) (cs:List Frame):tryRecover fr (k++cs)=(tryRecover fr k).map fun x=>(x.1,x.2++cs):=by
 rcases h with h|h
 ·unfold tryRecover;simp [h]
 ·cases k with
  |nil=>rcases hne with e|e
        ·rw [h] at e;cases e
        ·exact absurd rfl e
  |cons c r=>
   unfold tryRecover;simp only [h,List.cons_append];split<;>simp_all
theorem tryRecover_ok {v:Value} {l:List Frame} (hst:StackOk P A fr.kind top) (hk:fr.kind=.normal∨fr.kind=.deferred) (e:tryRecover fr top=some (v,l)):StackOk P A fr.kind l:=by
 rcases hk with h|h
 ·unfold tryRecover at e;simp [h] at e
 ·unfold tryRecover at e;cases top with
  |nil=>simp [h] at e
  |cons c r=>
   simp only [h] at e;split at e
   ·rename_i hh
    cases e;refine ⟨hst.1.mode _,fun e=>?_,hst.2.2⟩;rw [h] at e;cases e
   ·cases e
theorem EnterOk.frame (H:PlainProg P A) {f:Nat} {args:Array Value} {k:CallKind} (h:EnterOk P A f args) (hk:k=.normal∨k=.deferred):FrOk P A (Frame.enter P f args k):=by
 obtain ⟨hb,hs⟩:=h;obtain ⟨fn,c,hf,hc,_,hA⟩:=hasBody_some hb;unfold Frame.enter;refine ⟨⟨fn,hf⟩,rfl,hk,fun it hit=>?_,fun t=>?_,by simp⟩
 ·simp only [hf,Option.bind_some,hc,Option.getD_some,List.mem_singleton] at hit;subst hit;exact H.code f fn c hA hf hc
 ·have:=hs t;simp only [] at this ⊢;have e:(args++Array.replicate (((P.funcs[f]?).map (·.ntmps)).getD 0-args.size) undef).getD t undef=args.getD t undef:=by
   rw [Array.getD_eq_getD_getElem?,Array.getD_eq_getD_getElem?];by_cases ht:t<args.size
   ·rw [Array.getElem?_append_left ht]
   ·rw [Array.getElem?_append_right (by omega),Array.getElem?_eq_none (by omega:args.size≤t),Array.getElem?_replicate];split<;>rfl
  rw [e];exact this
theorem apply_tame {s:Sem Next} {ops:Array Oper} {i:Nat} {rest:List Nat} {k:List Item} {o:Oper} (H:PlainProg P A) (h:FrOk P A fr) (hst:StackOk P A fr.kind top) (ht:fr.todo=.inRegion ops (i::rest)::k) (ho:ops[i]?=some o)
  (hs:Ok P (NextOk P A fr.fn o) s) (heq:∀w main cs,stepG P main (G fr (top++cs)) w=stepG.apply P true fr (top++cs) none s w) (hstep:∀g,P.stepOf g=none):StepRes P A fr top w:=by
 obtain ⟨n,h1,h2,h3⟩:=runT_local P s w #[] hs;obtain ⟨s1,s2⟩:=runT_sound P s w #[] hs (by simp);have hke:(fr.kind==.early)=false:=by rcases h.kind with e|e<;>rw [e]<;>rfl
 have hne:fr.kind=.normal∨top≠[]:=by
  cases top with
  |nil=>exact .inl hst
  |cons=>exact .inr (by simp)
 cases hr:(s.runT P w #[]).1 with
 |ok a w'=>
  rw [hr] at h1 h2 h3 s1;have key:∀τ d,Agree w τ d n→∀main cs,stepG P main (G fr (top++cs)) (reW w τ d)=stepG.apply P true fr (top++cs) none s (reW w τ d):=fun τ d _ main cs=>heq _ _ _;have e3:∀τ d,Agree w τ d n→s.runT P (reW w τ d) #[]=(.ok a (reW w' τ (d+n)),(s.runT P w #[]).2):=fun τ d hA=>h3 τ d hA;cases a with
  |value v=>
   refine ⟨n,.inl ⟨fr.finish v,top,w',seen P fr.fn (s.runT P w #[]).2,h.finish ht ho s1,by rw [finish_kind];exact hst,evOk_seen s2,h1,h2,fun τ d hA main cs=>?_⟩⟩;rw [key τ d hA];simp only [stepG.apply,if_true,e3 τ d hA,hke,GStep.after];simp [G]
  |skip=>
   refine ⟨n,.inl ⟨fr.finish undef,top,w',seen P fr.fn (s.runT P w #[]).2,h.finish ht ho DstOk.undef,by rw [finish_kind];exact hst,evOk_seen s2,h1,h2,fun τ d hA main cs=>?_⟩⟩;rw [key τ d hA];simp only [stepG.apply,if_true,e3 τ d hA,hke,GStep.after];simp [G]
  |enter f args=>
   refine ⟨n,.inl ⟨Frame.enter P f args .normal,fr::top,w',seen P fr.fn (s.runT P w #[]).2,s1.1.frame H (.inl rfl),⟨h,fun _ v=>h.finish ht ho (s1.2 v),hst⟩,evOk_seen s2,h1,h2,fun τ d hA main cs=>?_⟩⟩;rw [key τ d hA];simp only [stepG.apply,if_true,e3 τ d hA,hke,GStep.after,ht];simp [G]
  |defer df=>
   have h':FrOk P A {fr with defers:=df::fr.defers}:=⟨h.fn,h.round,h.kind,h.todo,h.slots,fun x hx=>by
    rcases List.mem_cons.1 hx with rfl|hx
    ·exact s1.1
    ·exact h.defers x hx⟩
   refine ⟨n,.inl ⟨({fr with defers:=df::fr.defers}:Frame).finish undef,top,w',seen P fr.fn (s.runT P w #[]).2,FrOk.finish (fr:={fr with defers:=df::fr.defers}) h' ht ho DstOk.undef,by rw [finish_kind];exact hst,evOk_seen s2,h1,h2,fun τ d hA main cs=>?_⟩⟩;rw [key τ d hA];simp only [stepG.apply,if_true,e3 τ d hA,hke,GStep.after];simp [G]
  |recover=>
   have hrd:fr.roundOf=none:=h.round;cases hrec:tryRecover fr top with
   |none=>
    refine ⟨n,.inl ⟨fr.finish .nilIface,top,w',seen P fr.fn (s.runT P w #[]).2,h.finish ht ho (s1 _),by rw [finish_kind];exact hst,evOk_seen s2,h1,h2,fun τ d hA main cs=>?_⟩⟩;rw [key τ d hA];simp only [stepG.apply,if_true,e3 τ d hA,hke,GStep.after,hrd,tryRecover_app h.kind hne cs,hrec];simp [G]
   |some x=>
    obtain ⟨v,l⟩:=x;refine ⟨n,.inl ⟨fr.finish v,l,w',seen P fr.fn (s.runT P w #[]).2,h.finish ht ho (s1 _),by rw [finish_kind];exact tryRecover_ok hst h.kind hrec,evOk_seen s2,h1,h2,fun τ d hA main cs=>?_⟩⟩;rw [key τ d hA];simp only [stepG.apply,if_true,e3 τ d hA,hke,GStep.after,hrd,tryRecover_app h.kind hne cs,hrec];simp [G]
  |_=>exact s1.elim
 |halt hh w'=>
  rw [hr] at h1 h2 h3 s1;have e3:∀τ d,Agree w τ d n→s.runT P (reW w τ d) #[]=(.halt hh (reW w' τ (d+n)),(s.runT P w #[]).2):=fun τ d hA=>h3 τ d hA;cases hh with
  |panic v=>
   refine ⟨n,.inl ⟨fr.raise [{v,recovered:=false}],top,w',seen P fr.fn (s.runT P w #[]).2,h.raise _,by rw [raise_kind];exact hst,evOk_seen s2,h1,h2,fun τ d hA main cs=>?_⟩⟩;rw [heq];simp only [stepG.apply,if_true,e3 τ d hA,hke,GStep.after];simp [G]
  |stuck m=>
   refine ⟨n,.inr (fun τ d hA main cs=>?_)⟩;rw [heq];simp only [stepG.apply,if_true,e3 τ d hA,hke,GStep.after];exact ⟨_,_,_,rfl⟩
  |unsupported u=>
   cases u with
   |initOrder g=>
    cases hfo:P.follows .staticDataAhead with
    |true=>
     refine ⟨n,.inr (fun τ d hA main cs=>?_)⟩;rw [heq];simp only [stepG.apply,if_true,e3 τ d hA,hke,GStep.after,early,hfo,hstep];exact ⟨_,_,_,rfl⟩
    |false=>
     cases hg:w'.heap[g]? with
     |none=>
      refine ⟨n,.inr (fun τ d hA main cs=>?_)⟩;rw [heq];have hg':(reW w' τ (d+n)).heap[g]?=none:=hg;simp only [stepG.apply,if_true,e3 τ d hA,hke,GStep.after,early,hfo,hg'];exact ⟨_,_,_,rfl⟩
     |some ob=>
      cases ob with
      |pending c e=>
       refine ⟨n,.inl ⟨fr,top,{w' with heap:=w'.heap.setIfInBounds g (.cells c e)},seen P fr.fn #[],h,hst,evOk_seen (by simp),h1,h2,fun τ d hA main cs=>?_⟩⟩;rw [heq];have hg':(reW w' τ (d+n)).heap[g]?=some (.pending c e):=hg;simp only [stepG.apply,if_true,e3 τ d hA,hke,GStep.after,early,hfo,hg'];simp [G,reW]
      |_=>
       refine ⟨n,.inr (fun τ d hA main cs=>?_)⟩;rw [heq];have hg':(reW w' τ (d+n)).heap[g]?=w'.heap[g]?:=rfl;rw [hg] at hg';simp only [stepG.apply,if_true,e3 τ d hA,hke,GStep.after,early,hfo,hg'];exact ⟨_,_,_,rfl⟩
   |_=>
    refine ⟨n,.inr (fun τ d hA main cs=>?_)⟩;rw [heq];simp only [stepG.apply,if_true,e3 τ d hA,hke,GStep.after];exact ⟨_,_,_,rfl⟩
  |_=>exact s1.elim
end
end Go.Proofs.Ytdoghgnifkgfdaa.Mute
