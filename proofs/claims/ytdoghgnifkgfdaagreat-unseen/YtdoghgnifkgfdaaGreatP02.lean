import Derived.Conc.Own
import Derived.Test.YtdoghgnifkgfdaaGreatP01
set_option maxRecDepth 100000
set_option maxHeartbeats 16000000
namespace Go.Proofs.YtdoghgnifkgfdaaGreat.Mute
open Go
structure Plan where
 fns:Nat→Bool
 fs:Nat→Nat→Bool
 ps:Nat→Nat→Bool
 cf:Nat→Bool
section
variable (P:Program) (A:Plan)
def Zu (f:Nat):Bool:=A.fns f && match P.funcs[f]? with
 | some fn => fn.body.isSome && !(fn.name == "runtime.NumGoroutine")
 |none=>false
def JG (f:Nat):Bool:=match P.funcs[f]? with
 |some fn=>(List.range (fn.ntmps+64)).all fun t=>!A.fs f t && !A.ps f t
 |none=>false
def Y0I (h:Nat):Operand→Bool
 |.tmp t=>A.fs h t
 |.func g=>A.cf g
 |_=>false
def JF (h:Nat):Operand→Bool
 |.tmp t=>A.ps h t
 |_=>false
def Y1D (h f:Nat) (args:Array Operand):Bool:=
 (List.range (args.size+64)).all fun j=>match args[j]? with
  |some x=>(!A.fs f j || Y0I A h x) && (!A.ps f j || JF A h x)
  |none=>true
def Y0E:Builtin→Bool
 |.append|.cap|.close|.copy|.delete|.len=>true
 |_=>false
def Y1I (h:Nat) (c:Call):Bool:=match c.callee with
 |.builtin .recover=>true
 |.builtin b=>Y0E b
 |.value (.func f)=>Zu P A f && Y1D A h f c.args
 |.value (.tmp t)=>A.fs h t
 |_=>false
def Y1t (h:Nat) (c:Call):Bool:=match c.callee with
 |.builtin b=>Y0E b
 |.value (.func f)=>Zu P A f && JG P A f
 |.value (.tmp t)=>A.fs h t
 |_=>false
def ZC (h:Nat) (o:Oper):Bool:=match o.dst with
 |some d=>!A.fs h d && !A.ps h d
 |none=>true
def Yk (h:Nat) (o:Oper):Bool:=match o.op with
 |.move x|.assign x=>match o.dst with
  |some d=>(!A.fs h d || Y0I A h x) && (!A.ps h d || JF A h x)
  |none=>true
 |.makeFunc (.func f) first _=>match o.dst with
  |some d=>!A.ps h d && (!A.fs h d || (A.cf f && first.isEmpty))
  |none=>true
 |.makeInterface _ _=>match o.dst with
  |some d=>!A.fs h d
  |none=>true
 |.call c=>ZC A h o && Y1I P A h c
 |.defer c=>ZC A h o && Y1t P A h c
 |.panic x=>ZC A h o && JF A h x
 |.go _|.send ..|.recv ..|.select ..|.ready _|.waits _|.makeFunc ..=>false
 |_=>ZC A h o
def YH (h:Nat):Code→Bool
 |.region _ ops _=>ops.all (Yk P A h)
 |.seq a b|.cond _ a b=>YH h a && YH h b
 |.block _ c|.loop c|.scope c=>YH h c
 |.ret|.skip|.exit _|.label _=>true
 |_=>false
structure X4:Prop where
 code:∀(f:Nat) (fn:Func) (c:Code),A.fns f=true→P.funcs[f]?=some fn→fn.body=some c→YH P A f c=true
 cf:∀f,A.cf f=true→Zu P A f=true∧JG P A f=true
 far:∀f t fn,P.funcs[f]?=some fn→fn.ntmps+64≤t→A.fs f t=false∧A.ps f t=false
end
def ZP (A:Plan) (v:Value):Prop:=v=undef∨∃f c,v=.func (.func f) #[] c∧A.cf f=true
def XT (v:Value):Prop:=v≠.nilIface
def Xv (A:Plan) (h:Nat) (ρ:Nat→Value):Prop:=∀t,(A.fs h t=true→ZP A (ρ t))∧(A.ps h t=true→XT (ρ t))
def Xn (P:Program) (A:Plan) (f:Nat) (args:Array Value):Prop:=Zu P A f=true∧Xv A f (fun t=>args.getD t undef)
def Jd (P:Program) (A:Plan) (d:Deferred):Prop:=
 (∃b ts t cs,d.target=.builtin b ts t cs∧Y0E b=true)∨(∃f c,d.target=.fn (.func f) c∧Zu P A f=true∧JG P A f=true)
def YV (A:Plan) (h:Nat) (o:Oper) (v:Value):Prop:=∀d,o.dst=some d→(A.fs h d=true→ZP A v)∧(A.ps h d=true→XT v)
def Y0D (o:Oper):Bool:=match o.op with
 |.defer _=>true
 |_=>false
def ZV (P:Program) (A:Plan) (h:Nat) (o:Oper):Next→Prop
 |.value v=>YV A h o v
 |.skip=>True
 |.enter f args=>Xn P A f args∧∀v,YV A h o v
 |.defer d=>Jd P A d∧Y0D o=true
 |.recover=>∀v,YV A h o v
 |_=>False
section
variable {P:Program} {A:Plan} {h:Nat} {o:Oper}
theorem YV.free (hf:ZC A h o=true) (v:Value):YV A h o v:=fun d hd=>by
 unfold ZC at hf;rw [hd] at hf;simp only [Bool.and_eq_true,Bool.not_eq_true'] at hf;exact ⟨fun e=>(by rw [hf.1] at e;cases e),fun e=>(by rw [hf.2] at e;cases e)⟩
theorem Y1X:ZP A undef:=.inl rfl
theorem Y1W:XT undef:=by unfold XT undef;simp
theorem YV.undef:YV A h o undef:=fun _ _=>⟨fun _=>Y1X,fun _=>Y1W⟩
theorem Ok.mono {α:Type} {L M:α→Prop} (hm:∀a,L a→M a):∀{s:Sem α},Ok P L s→Ok P M s
 |.pure a,h=>hm a h
 |.load _ _ _,h=>fun v=>Ok.mono hm (h v)
 |.store _ _ _ k,h=>Ok.mono hm (s:=k) h
 |.new _ _,h=>fun r=>Ok.mono hm (h r)
 |.shape _ _,h=>fun r=>Ok.mono hm (h r)
 |.freeze _ _ k,h=>Ok.mono hm (s:=k) h
 |.frozen _ _,h=>fun r=>Ok.mono hm (h r)
 |.getObj _ _,h=>fun r=>Ok.mono hm (h r)
 |.setObj _ _ k,h=>Ok.mono hm (s:=k) h
 |.choose _ _,h=>fun r=>Ok.mono hm (h r)
 |.sys _ _,h=>h.elim
 |.program k,h=>Ok.mono hm (s:=k P) h
 |.mark _ k,h=>⟨h.1,Ok.mono hm (s:=k) h.2⟩
 |.halt _,h=>h
theorem Y2f {α:Type} {L:α→Prop} (s:String):Ok P L (stuck s:Sem α):=trivial
theorem Y20 {α:Type} {L:α→Prop} (v:Value):Ok P L (goPanic v:Sem α):=trivial
theorem Y0S {α:Type} {L:α→Prop} (e:RuntimeError):Ok P L (runtimePanic e:Sem α):=by
 unfold runtimePanic;refine Ok.bindT Xr fun p=>?_;cases e with
 |typeAssertion i c a m=>exact Ok.bindT (Y1j _) fun _=>Ok.bindT (JN _ _) fun _=>Y20 _
 |panicNil=>exact Ok.bindT (Y1j _) fun _=>Ok.bindT (JN _ _) fun _=>Y20 _
 |_=>exact Y20 _
theorem YP {s:Sem Value} (hs:Ok P T s) (hf:ZC A h o=true):Ok P (ZV P A h o) (do pure (.value (←s)):Sem Next):=Ok.bindT hs fun v=>YV.free hf v
theorem Y16 {s:Sem Unit} (hs:Ok P T s):Ok P (ZV P A h o) (do s;pure .skip:Sem Next):=Ok.bindT hs fun _=>trivial
theorem Yi {f:Nat} {fn:Func} (H:X4 P A) (hf:P.funcs[f]?=some fn) (hn:JG P A f=true) (ρ:Nat→Value):Xv A f ρ:=fun t=>by
 unfold JG at hn;rw [hf] at hn;simp only [List.all_eq_true,List.mem_range,Bool.and_eq_true,Bool.not_eq_true'] at hn;have:A.fs f t=false∧A.ps f t=false:=by
  by_cases ht:t<fn.ntmps+64
  ·exact hn t ht
  ·exact H.far f t fn hf (by omega)
 exact ⟨fun e=>(by rw [this.1] at e;cases e),fun e=>(by rw [this.2] at e;cases e)⟩
theorem Y0m {f : Nat} (hb : Zu P A f = true) : ∃ fn c, P.funcs[f]? = some fn ∧ fn.body = some c ∧ (fn.name == "runtime.NumGoroutine") = false ∧ A.fns f = true := by
 unfold Zu at hb;rw [Bool.and_eq_true] at hb;obtain ⟨hA,hb⟩:=hb;split at hb
 ·rename_i fn hf
  simp only [Bool.and_eq_true,Bool.not_eq_true'] at hb;obtain ⟨c,hc⟩:=Option.isSome_iff_exists.1 hb.1;exact ⟨fn,c,hf,hc,hb.2,hA⟩
 ·cases hb
theorem Y1E {f:Nat} {args:Array Value} (hb:Zu P A f=true):Ok P (fun n=>n=.enter f args) (callFunc f args):=by
 obtain ⟨fn,c,hf,hc,hn,-⟩:=Y0m hb;unfold callFunc;refine Ok.bindL (L:=fun p=>p=P) rfl (fun p hp=>?_);subst hp;simp only [hf,hn,hc];exact rfl
theorem Y3G {v:Value} {args:Array Value} (H:X4 P A) (hv:ZP A v):Ok P (fun d=>Jd P A d∧∃f c,d={target:=.fn (.func f) c,args:=args}∧A.cf f=true) (Deferred.ofValue v args):=by
 rcases hv with rfl|⟨f,c,rfl,hc⟩
 ·exact Y2f _
 ·have hb:=H.cf f hc;exact ⟨.inr ⟨f,c,rfl,hb⟩,f,c,by simp,hc⟩
theorem Y3Y {b:Builtin} (hb:Y0E b=true) (ts:Array TypeId) (t:TypeId) (cs:Array Bool) (args:Array Value):Ok P (fun n=>∃v,n=.value v) (builtin b ts t cs args):=by
 cases b<;>first|(cases hb;done)|skip
 ·exact Ok.bindT (Y8J _ _ _) fun v=>⟨v,rfl⟩
 ·exact Ok.bindT (Y58 _ _ _) fun v=>⟨v,rfl⟩
 ·exact Ok.bindT (YaX _ _ _) fun v=>⟨v,rfl⟩
 ·exact Ok.bindT (Y5p _ _ _) fun v=>⟨v,rfl⟩
 ·exact Ok.bindT (Y6b _ _ _) fun v=>⟨v,rfl⟩
 ·exact Ok.bindT (Yb9 _ _ _) fun v=>⟨v,rfl⟩
theorem Ybl {ρ:Operand→Value} {x:Operand} (hop:o.op=.nilCheck x) (hf:ZC A h o=true):Ok P (ZV P A h o) (execOp ρ o):=by
 unfold execOp;simp only [hop];split
 ·exact Y0S _
 ·exact Y0S _
 ·exact Y0S _
 ·split
  ·exact Y0S _
  ·refine Ok.bindT Xr fun _=>Ok.bindT (Y7l _ _ _ _) fun _=>?_;split
   ·exact Ok.bindT (YD _) fun _=>YV.free hf _
   ·exact YV.free hf _
  ·exact YV.free hf _
 ·exact YV.free hf _
theorem Y9c {ρ:Operand→Value} {x:Operand} (hρ:Xv A h (fun t=>ρ (.tmp t))) (hfn:∀g,ρ (.func g)=.func (.func g) #[] #[]) (hx:Y0I A h x=true):ZP A (ρ x):=by
 cases x with
 |tmp t=>exact (hρ t).1 hx
 |func g=>exact .inr ⟨g,#[],hfn g,hx⟩
 |_=>cases hx
theorem Y6Y {ρ:Operand→Value} {x:Operand} (hρ:Xv A h (fun t=>ρ (.tmp t))) (hx:JF A h x=true):XT (ρ x):=by
 cases x with
 |tmp t=>exact (hρ t).2 hx
 |_=>cases hx
theorem YbB {ρ:Operand→Value} {f:Nat} {args:Array Operand} (hρ:Xv A h (fun t=>ρ (.tmp t))) (hfn:∀g,ρ (.func g)=.func (.func g) #[] #[]) (ha:Y1D A h f args=true):Xv A f (fun t=>(args.map ρ).getD t undef):=fun t=>by
 show (_→ZP A ((args.map ρ).getD t undef))∧(_→XT ((args.map ρ).getD t undef));by_cases ht:t<args.size
 ·unfold Y1D at ha;simp only [List.all_eq_true,List.mem_range] at ha;have h1:=ha t (by omega);rw [Array.getElem?_eq_getElem ht] at h1;simp only [Bool.and_eq_true,Bool.or_eq_true,Bool.not_eq_true'] at h1;have e:(args.map ρ).getD t undef=ρ args[t]:=by simp [Array.getD,ht]
  rw [e];exact ⟨fun hx=>Y9c hρ hfn (h1.1.resolve_left (by rw [hx];simp)),fun hx=>Y6Y hρ (h1.2.resolve_left (by rw [hx];simp))⟩
 ·have e:(args.map ρ).getD t undef=undef:=by simp [Array.getD,ht]
  rw [e];exact ⟨fun _=>Y1X,fun _=>Y1W⟩
theorem Y3I {ρ:Operand→Value} {x:Operand} (hρ:Xv A h (fun t=>ρ (.tmp t))) (hfn:∀g,ρ (.func g)=.func (.func g) #[] #[])
  (hp:(match o.dst with|some d=>(!A.fs h d || Y0I A h x) && (!A.ps h d || JF A h x)|none=>true)=true):Ok P (ZV P A h o) (pure (.value (ρ x)):Sem Next):=fun d hd=>by
 rw [hd] at hp;simp only [Bool.and_eq_true,Bool.or_eq_true,Bool.not_eq_true'] at hp;refine ⟨fun e=>?_,fun e=>?_⟩
 ·have hx:=hp.1.resolve_left (by rw [e];simp);cases x with
  |tmp t=>exact (hρ t).1 hx
  |func g=>exact .inr ⟨g,#[],hfn g,hx⟩
  |_=>cases hx
 ·have hx:=hp.2.resolve_left (by rw [e];simp);cases x with
  |tmp t=>exact (hρ t).2 hx
  |_=>cases hx
theorem YbC (t:TypeId) (x:Value):Ok P XT (Instr.makeInterface t x):=by
 unfold Instr.makeInterface;refine Ok.bindT (Yu _) fun d=>?_;split
 ·exact Y2f _
 ·show XT _;unfold XT;simp
theorem YaW {ρ:Operand→Value} {c:Call} {t:TypeId} (H:X4 P A) (hρ:Xv A h (fun t=>ρ (.tmp t))) (hfn:∀g,ρ (.func g)=.func (.func g) #[] #[]) (hc:Y1t P A h c=true):Ok P (Jd P A) (resolve ρ c t):=by
 unfold resolve;unfold Y1t at hc;split at hc
 ·rename_i b hb
  simp only [hb];exact .inl ⟨_,_,_,_,rfl,hc⟩
 ·rename_i f hb
  simp only [hb,hfn];simp only [Bool.and_eq_true] at hc;exact .inr ⟨f,_,rfl,hc⟩
 ·rename_i u hb
  simp only [hb];exact Ok.mono (fun _ x=>x.1) (Y3G H ((hρ u).1 hc))
 ·cases hc
theorem Y8O {ρ:Operand→Value} {c:Call} (H:X4 P A) (hρ:Xv A h (fun t=>ρ (.tmp t))) (hfn:∀g,ρ (.func g)=.func (.func g) #[] #[]) (hd:ZC A h o=true) (hc:Y1I P A h c=true):
  Ok P (ZV P A h o) (do let d ←resolve ρ c o.type;invoke d.target d.args:Sem Next):=by
 unfold Y1I at hc;split at hc
 ·rename_i hb
  refine Ok.bindL (L:=fun d=>d={target:=.builtin .recover c.argTypes o.type (c.args.map fun|.const _=>true|_=>false),args:=c.args.map ρ}) ?_ fun d hd'=>?_
  ·unfold resolve;simp only [hb];exact rfl
  ·subst hd';exact fun v=>YV.free hd v
 ·rename_i b _ hb
  refine Ok.bindL (L:=fun d=>d={target:=.builtin b c.argTypes o.type (c.args.map fun|.const _=>true|_=>false),args:=c.args.map ρ}) ?_ fun d hd'=>?_
  ·unfold resolve;simp only [hb];exact rfl
  ·subst hd';exact Ok.mono (fun n ⟨v,hv⟩=>by subst hv;exact YV.free hd v) (Y3Y hc _ _ _ _)
 ·rename_i f hb
  simp only [Bool.and_eq_true] at hc;refine Ok.bindL (L:=fun d=>d={target:=.fn (.func f) #[],args:=#[]++c.args.map ρ}) ?_ fun d hd'=>?_
  ·unfold resolve;simp only [hb,hfn];exact rfl
  ·subst hd';refine Ok.mono (fun n hn=>?_) (Y1E (args:=#[]++c.args.map ρ++#[]) hc.1);subst hn;refine ⟨⟨hc.1,?_⟩,fun v=>YV.free hd v⟩;have:=YbB hρ hfn hc.2;simpa using this
 ·rename_i u hb
  refine Ok.bindL (L:=fun d=>∃f cap,d={target:=.fn (.func f) cap,args:=c.args.map ρ}∧A.cf f=true) ?_ fun d hd'=>?_
  ·unfold resolve;simp only [hb];exact Ok.mono (fun _ x=>x.2) (Y3G H ((hρ u).1 hc))
  ·obtain ⟨f,cap,rfl,hcf⟩:=hd';have hb:=H.cf f hcf;refine Ok.mono (fun n hn=>?_) (Y1E (args:=c.args.map ρ++cap) hb.1);subst hn;obtain ⟨fn,_,hf,_⟩:=Y0m hb.1;exact ⟨⟨hb.1,Yi H hf hb.2 _⟩,fun v=>YV.free hd v⟩
 ·cases hc
theorem Y1V (H:X4 P A) {ρ:Operand→Value} (hρ:Xv A h (fun t=>ρ (.tmp t))) (hfn:∀g,ρ (.func g)=.func (.func g) #[] #[]) (hp:Yk P A h o=true):Ok P (ZV P A h o) (execOp ρ o):=by
 cases hop:o.op with
 |nilCheck x=>exact Ybl hop (by simpa [Yk,hop] using hp)
 |alloc t=>
  unfold execOp;simp only [hop];simp only [Yk,hop] at hp;exact YP (Y5r _ _ _) hp
 |box t x=>
  unfold execOp;simp only [hop];simp only [Yk,hop] at hp;exact YP (Y9n _ _) hp
 |build t xs=>
  unfold execOp;simp only [hop];simp only [Yk,hop] at hp;exact YP (Y6p _ _) hp
 |buildSlice t n xs=>
  unfold execOp;simp only [hop];simp only [Yk,hop] at hp;exact YP (Y7a _ _ _) hp
 |load t x=>
  unfold execOp;simp only [hop];simp only [Yk,hop] at hp;exact YP (Y9b _ _) hp
 |binOp b t x y u=>
  unfold execOp;simp only [hop];simp only [Yk,hop] at hp;exact YP (Ok.bindT (Y6H _ _ _ _ _ _) fun _=>Yb1 _ _ _ _) hp
 |unOp b t x=>
  unfold execOp;simp only [hop];simp only [Yk,hop] at hp;exact YP (Y8v _ _) hp
 |convert t u x=>
  unfold execOp;simp only [hop];simp only [Yk,hop] at hp;exact YP (Y2z _ _ _) hp
 |sliceToArrayPointer t x=>
  unfold execOp;simp only [hop];simp only [Yk,hop] at hp;exact YP (Y5T _ _) hp
 |makeMap t r=>
  unfold execOp;simp only [hop];simp only [Yk,hop] at hp;exact YP (Yad _ _) hp
 |makeChan t x=>
  unfold execOp;simp only [hop];simp only [Yk,hop] at hp;exact YP (Y5U _ _) hp
 |makeSlice t x y=>
  unfold execOp;simp only [hop];simp only [Yk,hop] at hp;exact YP (Y7i _ _ _) hp
 |slice t x l u m=>
  unfold execOp;simp only [hop];simp only [Yk,hop] at hp;exact YP (YaG _ _ _ _ _) hp
 |fieldAddr t x n=>
  unfold execOp;simp only [hop];simp only [Yk,hop] at hp;exact YP (Y5d _ _ _) hp
 |field t x n=>
  unfold execOp;simp only [hop];simp only [Yk,hop] at hp;exact YP (Y1k _ _ _) hp
 |indexAddr t x y=>
  unfold execOp;simp only [hop];simp only [Yk,hop] at hp;exact YP (Y8r _ _ _) hp
 |index t x y=>
  unfold execOp;simp only [hop];simp only [Yk,hop] at hp;exact YP (Y19 _ _ _) hp
 |lookup t x y b=>
  unfold execOp;simp only [hop];simp only [Yk,hop] at hp;exact YP (Y6A _ _ _ _) hp
 |mapEntry t x y=>
  unfold execOp;simp only [hop];simp only [Yk,hop] at hp;exact YP (Y74 _ _ _) hp
 |range t x=>
  unfold execOp;simp only [hop];simp only [Yk,hop] at hp;exact YP (Y3u _ _) hp
 |next x b=>
  unfold execOp;simp only [hop];simp only [Yk,hop] at hp;exact YP (Ybn _ _ _) hp
 |entry x=>
  unfold execOp;simp only [hop];simp only [Yk,hop] at hp;exact YP (Y80 _) hp
 |typeAssert x t u b=>
  unfold execOp;simp only [hop];simp only [Yk,hop] at hp;exact YP (Y7I _ _ _ _) hp
 |extract x n=>
  unfold execOp;simp only [hop];simp only [Yk,hop] at hp;exact YP (Y2o _ _) hp
 |store t x y=>
  unfold execOp;simp only [hop];exact Y16 (Yaq _ _ _)
 |mapUpdate t m k x=>
  unfold execOp;simp only [hop];exact Y16 (Y4m _ _ _ _)
 |insert t m k x=>
  unfold execOp;simp only [hop];exact Y16 (Y4m _ _ _ _)
 |entryStore t m k x=>
  unfold execOp;simp only [hop];exact Y16 (Ya1 _ _ _ _)
 |move x=>
  unfold execOp;simp only [hop];exact Y3I hρ hfn (by simpa [Yk,hop] using hp)
 |assign x=>
  unfold execOp;simp only [hop];exact Y3I hρ hfn (by simpa [Yk,hop] using hp)
 |pick c x y=>
  unfold execOp;simp only [hop];simp only [Yk,hop] at hp;exact Ok.bindT (Y3H _) fun _=>YV.free hp _
 |select a b=>
  simp [Yk,hop] at hp
 |ready g=>
  simp [Yk,hop] at hp
 |waits g=>
  simp [Yk,hop] at hp
 |makeInterface t x=>
  unfold execOp;simp only [hop];refine Ok.bindL (YbC _ _) fun v hv=>fun d hd=>?_;simp only [Yk,hop,hd] at hp;exact ⟨fun e=>(by rw [e] at hp;cases hp),fun _=>hv⟩
 |makeFunc f first cap=>
  unfold execOp;simp only [hop];cases f with
  |func f=>
   refine Ok.bindL (L:=fun v=>v=.func (.func f) (first.map ρ) (cap.map ρ)) (by unfold Instr.makeFunc;exact rfl) fun v hv=>fun d hd=>?_;subst hv;simp only [Yk,hop,hd,Bool.and_eq_true,Bool.not_eq_true',Bool.or_eq_true] at hp;refine ⟨fun e=>?_,fun e=>(by rw [hp.1] at e;cases e)⟩;rcases hp.2 with h1|⟨h1,h2⟩
   ·rw [h1] at e;cases e
   ·have:first=#[]:=by simpa using h2
    exact .inr ⟨f,cap.map ρ,by simp [this],h1⟩
  |_=>simp [Yk,hop] at hp
 |panic x=>
  unfold execOp;simp only [hop];simp only [Yk,hop,Bool.and_eq_true] at hp;cases x with
  |tmp t=>
   have hv:XT (ρ (.tmp t)):=(hρ t).2 hp.2;refine Ok.bindT ?_ fun v=>YV.free hp.1 v;unfold Instr.panic;cases hx:ρ (.tmp t) with
   |iface a b=>exact Y3R _
   |nilIface=>exact absurd hx hv
   |_=>exact Ya _
  |_=>simp [JF] at hp
 |send c x=>
  simp [Yk,hop] at hp
 |recv t c b=>
  simp [Yk,hop] at hp
 |go c=>
  simp [Yk,hop] at hp
 |defer c=>
  unfold execOp;simp only [hop];simp only [Yk,hop,Bool.and_eq_true] at hp;exact Ok.bindL (YaW H hρ hfn hp.2) fun d hd=>⟨hd,by simp [Y0D,hop]⟩
 |call c=>
  unfold execOp;simp only [hop];simp only [Yk,hop,Bool.and_eq_true] at hp;exact Y8O H hρ hfn hp.1 hp.2
end
open Go.Conc
section
variable (P:Program) (A:Plan)
def Xp (h:Nat):Item→Prop
 |.code c|.inLoop c|.inScope c=>YH P A h c=true
 |.inBlock _=>True
 |.inRegion ops _=>ops.all (Yk P A h)=true
 |_=>False
structure FrOk (fr:Frame):Prop where
 fn:∃fn,P.funcs[fr.fn]?=some fn
 round:fr.roundOf=none
 kind:fr.kind=.normal∨fr.kind=.deferred
 todo:∀it∈fr.todo,Xp P A fr.fn it
 slots:Xv A fr.fn (fun t=>fr.tmps.getD t undef)
 defers:∀d∈fr.defers,Jd P A d
def Xy:CallKind→List Frame→Prop
 |k,[]=>k=.normal
 |k,c::rest=>FrOk P A c∧(k=.normal→∀v,FrOk P A (c.finish v))∧Xy c.kind rest
end
def Agree (w:World) (τ:Nat→Question→Nat) (d n:Nat):Prop:=∀k,k<n→τ (d+k)=w.tape (w.drawn+k)
def YK (P:Program) (A:Plan) (fr:Frame) (top:List Frame) (w:World):Prop:=∃n,
 (∃fr' top' w' es,FrOk P A fr'∧Xy P A fr'.kind top'∧(∀e∈es,EvOk e)∧w'.tape=w.tape∧w'.drawn=w.drawn+n∧
  ∀τ d,Agree w τ d n→∀main cs,stepG P main (G fr (top++cs)) (reW w τ d)=.go (G fr' (top'++cs)) (reW w' τ (d+n)) es)∨
 (∀τ d,Agree w τ d n→∀main cs,∃o w' es,stepG P main (G fr (top++cs)) (reW w τ d)=.ended o w' es)
section
variable {P:Program} {A:Plan} {fr:Frame} {top:List Frame} {w:World}
theorem FrOk.upd (h:FrOk P A fr) {todo:List Item} (ht:∀it∈todo,Xp P A fr.fn it):FrOk P A {fr with todo}:=⟨h.fn,h.round,h.kind,ht,h.slots,h.defers⟩
theorem FrOk.mode (h:FrOk P A fr) (m:FrameMode):FrOk P A {fr with mode:=m}:=⟨h.fn,h.round,h.kind,h.todo,h.slots,h.defers⟩
theorem FrOk.raise (h:FrOk P A fr) (c:List PanicEntry):FrOk P A (fr.raise c):=by
 unfold Frame.raise;split<;>exact h.mode _
theorem JO (fr:Frame) (c:List PanicEntry):(fr.raise c).kind=fr.kind:=by unfold Frame.raise;split<;>rfl
theorem Y9A {h d:Nat} {tmps:Array Value} {v:Value} (hs:Xv A h (fun t=>tmps.getD t undef)) (hd:(A.fs h d=true→ZP A v)∧(A.ps h d=true→XT v)):Xv A h (fun t=>(tmps.setIfInBounds d v).getD t undef):=fun t=>by
 have hst:=hs t;show (_→ZP A ((tmps.setIfInBounds d v).getD t undef))∧(_→XT ((tmps.setIfInBounds d v).getD t undef));by_cases ht:t<tmps.size
 ·by_cases e:d=t
  ·subst e;have:(tmps.setIfInBounds d v).getD d undef=v:=by simp [Array.getD,ht]
   rw [this];exact hd
  ·have:(tmps.setIfInBounds d v).getD t undef=tmps.getD t undef:=by
    simp [Array.getD,ht,Array.getElem_setIfInBounds_ne,e]
   rw [this];exact hst
 ·have:(tmps.setIfInBounds d v).getD t undef=undef:=by simp [Array.getD,ht]
  rw [this];exact ⟨fun _=>Y1X,fun _=>Y1W⟩
theorem FrOk.finish {ops:Array Oper} {i:Nat} {rest:List Nat} {k:List Item} {o:Oper} {v:Value} (h:FrOk P A fr) (ht:fr.todo=.inRegion ops (i::rest)::k) (ho:ops[i]?=some o) (hv:YV A fr.fn o v):FrOk P A (fr.finish v):=by
 have ht1:∀it∈(Item.inRegion ops rest::k),Xp P A fr.fn it:=fun it hit=>by
  have:=h.todo;rw [ht] at this;rcases List.mem_cons.1 hit with rfl|hit
  ·exact this (.inRegion ops (i::rest)) (List.mem_cons_self)
  ·exact this it (List.mem_cons_of_mem _ hit)
 unfold Frame.finish;rw [ht];simp only [ho,Option.bind_some];cases hd:o.dst with
 |none=>exact ⟨h.fn,h.round,h.kind,ht1,h.slots,h.defers⟩
 |some d=>exact ⟨h.fn,h.round,h.kind,ht1,Y9A h.slots (hv d hd),h.defers⟩
theorem Z5 (fr:Frame) (v:Value):(fr.finish v).kind=fr.kind:=by unfold Frame.finish;split<;>rfl
theorem YK.to {todo:List Item} (h:FrOk P A fr) (hst:Xy P A fr.kind top) (ht:∀it∈todo,Xp P A fr.fn it) (hs:∀(w:World) main cs,stepG P main (G fr (top++cs)) w=.go (G {fr with todo} (top++cs)) w #[]):YK P A fr top w:=
 ⟨0,.inl ⟨{fr with todo},top,w,#[],h.upd ht,hst,by simp,rfl,rfl,fun τ d _ main cs=>hs _ _ _⟩⟩
theorem YK.ended (hs:∀(w:World) main cs,∃o w' es,stepG P main (G fr (top++cs)) w=.ended o w' es):YK P A fr top w:=⟨0,.inr (fun _ _ _ _ _=>hs _ _ _)⟩
theorem Y43 {k:List Frame} (h:fr.kind=.normal∨fr.kind=.deferred) (hne:fr.kind=.normal∨k≠[]) (cs:List Frame):tryRecover fr (k++cs)=(tryRecover fr k).map fun x=>(x.1,x.2++cs):=by
 rcases h with h|h
 ·unfold tryRecover;simp [h]
 ·cases k with
  |nil=>rcases hne with e|e
        ·rw [h] at e;cases e
        ·exact absurd rfl e
  |cons c r=>
   unfold tryRecover;simp only [h,List.cons_append];split<;>simp_all
theorem Ya7 {v:Value} {l:List Frame} (hst:Xy P A fr.kind top) (hk:fr.kind=.normal∨fr.kind=.deferred) (e:tryRecover fr top=some (v,l)):Xy P A fr.kind l:=by
 rcases hk with h|h
 ·unfold tryRecover at e;simp [h] at e
 ·unfold tryRecover at e;cases top with
  |nil=>simp [h] at e
  |cons c r=>
   simp only [h] at e;split at e
   ·rename_i hh
    cases e;refine ⟨hst.1.mode _,fun e=>?_,hst.2.2⟩;rw [h] at e;cases e
   ·cases e
theorem Xn.frame (H:X4 P A) {f:Nat} {args:Array Value} {k:CallKind} (h:Xn P A f args) (hk:k=.normal∨k=.deferred):FrOk P A (Frame.enter P f args k):=by
 obtain ⟨hb,hs⟩:=h;obtain ⟨fn,c,hf,hc,_,hA⟩:=Y0m hb;unfold Frame.enter;refine ⟨⟨fn,hf⟩,rfl,hk,fun it hit=>?_,fun t=>?_,by simp⟩
 ·simp only [hf,Option.bind_some,hc,Option.getD_some,List.mem_singleton] at hit;subst hit;exact H.code f fn c hA hf hc
 ·have:=hs t;simp only [] at this ⊢;have e:(args++Array.replicate (((P.funcs[f]?).map (·.ntmps)).getD 0-args.size) undef).getD t undef=args.getD t undef:=by
   rw [Array.getD_eq_getD_getElem?,Array.getD_eq_getD_getElem?];by_cases ht:t<args.size
   ·rw [Array.getElem?_append_left ht]
   ·rw [Array.getElem?_append_right (by omega),Array.getElem?_eq_none (by omega:args.size≤t),Array.getElem?_replicate];split<;>rfl
  rw [e];exact this
theorem Y6i {s:Sem Next} {ops:Array Oper} {i:Nat} {rest:List Nat} {k:List Item} {o:Oper} (H:X4 P A) (h:FrOk P A fr) (hst:Xy P A fr.kind top) (ht:fr.todo=.inRegion ops (i::rest)::k) (ho:ops[i]?=some o)
  (hs:Ok P (ZV P A fr.fn o) s) (heq:∀w main cs,stepG P main (G fr (top++cs)) w=stepG.apply P true fr (top++cs) none s w) (hstep:∀g,P.stepOf g=none):YK P A fr top w:=by
 obtain ⟨n,h1,h2,h3⟩:=Y0v P s w #[] hs;obtain ⟨s1,s2⟩:=J4 P s w #[] hs (by simp);have hke:(fr.kind==.early)=false:=by rcases h.kind with e|e<;>rw [e]<;>rfl
 have hne:fr.kind=.normal∨top≠[]:=by
  cases top with
  |nil=>exact .inl hst
  |cons=>exact .inr (by simp)
 cases hr:(s.runT P w #[]).1 with
 |ok a w'=>
  rw [hr] at h1 h2 h3 s1;have key:∀τ d,Agree w τ d n→∀main cs,stepG P main (G fr (top++cs)) (reW w τ d)=stepG.apply P true fr (top++cs) none s (reW w τ d):=fun τ d _ main cs=>heq _ _ _;have e3:∀τ d,Agree w τ d n→s.runT P (reW w τ d) #[]=(.ok a (reW w' τ (d+n)),(s.runT P w #[]).2):=fun τ d hA=>h3 τ d hA;cases a with
  |value v=>
   refine ⟨n,.inl ⟨fr.finish v,top,w',seen P fr.fn (s.runT P w #[]).2,h.finish ht ho s1,by rw [Z5];exact hst,Xw s2,h1,h2,fun τ d hA main cs=>?_⟩⟩;rw [key τ d hA];simp only [stepG.apply,if_true,e3 τ d hA,hke,GStep.after];simp [G]
  |skip=>
   refine ⟨n,.inl ⟨fr.finish undef,top,w',seen P fr.fn (s.runT P w #[]).2,h.finish ht ho YV.undef,by rw [Z5];exact hst,Xw s2,h1,h2,fun τ d hA main cs=>?_⟩⟩;rw [key τ d hA];simp only [stepG.apply,if_true,e3 τ d hA,hke,GStep.after];simp [G]
  |enter f args=>
   refine ⟨n,.inl ⟨Frame.enter P f args .normal,fr::top,w',seen P fr.fn (s.runT P w #[]).2,s1.1.frame H (.inl rfl),⟨h,fun _ v=>h.finish ht ho (s1.2 v),hst⟩,Xw s2,h1,h2,fun τ d hA main cs=>?_⟩⟩;rw [key τ d hA];simp only [stepG.apply,if_true,e3 τ d hA,hke,GStep.after,ht];simp [G]
  |defer df=>
   have h':FrOk P A {fr with defers:=df::fr.defers}:=⟨h.fn,h.round,h.kind,h.todo,h.slots,fun x hx=>by
    rcases List.mem_cons.1 hx with rfl|hx
    ·exact s1.1
    ·exact h.defers x hx⟩
   refine ⟨n,.inl ⟨({fr with defers:=df::fr.defers}:Frame).finish undef,top,w',seen P fr.fn (s.runT P w #[]).2,FrOk.finish (fr:={fr with defers:=df::fr.defers}) h' ht ho YV.undef,by rw [Z5];exact hst,Xw s2,h1,h2,fun τ d hA main cs=>?_⟩⟩;rw [key τ d hA];simp only [stepG.apply,if_true,e3 τ d hA,hke,GStep.after];simp [G]
  |recover=>
   have hrd:fr.roundOf=none:=h.round;cases hrec:tryRecover fr top with
   |none=>
    refine ⟨n,.inl ⟨fr.finish .nilIface,top,w',seen P fr.fn (s.runT P w #[]).2,h.finish ht ho (s1 _),by rw [Z5];exact hst,Xw s2,h1,h2,fun τ d hA main cs=>?_⟩⟩;rw [key τ d hA];simp only [stepG.apply,if_true,e3 τ d hA,hke,GStep.after,hrd,Y43 h.kind hne cs,hrec];simp [G]
   |some x=>
    obtain ⟨v,l⟩:=x;refine ⟨n,.inl ⟨fr.finish v,l,w',seen P fr.fn (s.runT P w #[]).2,h.finish ht ho (s1 _),by rw [Z5];exact Ya7 hst h.kind hrec,Xw s2,h1,h2,fun τ d hA main cs=>?_⟩⟩;rw [key τ d hA];simp only [stepG.apply,if_true,e3 τ d hA,hke,GStep.after,hrd,Y43 h.kind hne cs,hrec];simp [G]
  |_=>exact s1.elim
 |halt hh w'=>
  rw [hr] at h1 h2 h3 s1;have e3:∀τ d,Agree w τ d n→s.runT P (reW w τ d) #[]=(.halt hh (reW w' τ (d+n)),(s.runT P w #[]).2):=fun τ d hA=>h3 τ d hA;cases hh with
  |panic v=>
   refine ⟨n,.inl ⟨fr.raise [{v,recovered:=false}],top,w',seen P fr.fn (s.runT P w #[]).2,h.raise _,by rw [JO];exact hst,Xw s2,h1,h2,fun τ d hA main cs=>?_⟩⟩;rw [heq];simp only [stepG.apply,if_true,e3 τ d hA,hke,GStep.after];simp [G]
  |stuck m=>
   refine ⟨n,.inr (fun τ d hA main cs=>?_)⟩;rw [heq];simp only [stepG.apply,if_true,e3 τ d hA,hke,GStep.after];exact ⟨_,_,_,rfl⟩
  |unsupported u=>
   cases u with
   |initOrder g=>
    cases hfo:P.follows .staticDataAhead with
    |true=>
     refine ⟨n,.inr (fun τ d hA main cs=>?_)⟩;rw [heq];simp only [stepG.apply,if_true,e3 τ d hA,hke,GStep.after,early,hfo,hstep];exact ⟨_,_,_,rfl⟩
    |false=>
     cases hg:w'.heap[g]? with
     |none=>
      refine ⟨n,.inr (fun τ d hA main cs=>?_)⟩;rw [heq];have hg':(reW w' τ (d+n)).heap[g]?=none:=hg;simp only [stepG.apply,if_true,e3 τ d hA,hke,GStep.after,early,hfo,hg'];exact ⟨_,_,_,rfl⟩
     |some ob=>
      cases ob with
      |pending c e=>
       refine ⟨n,.inl ⟨fr,top,{w' with heap:=w'.heap.setIfInBounds g (.cells c e)},seen P fr.fn #[],h,hst,Xw (by simp),h1,h2,fun τ d hA main cs=>?_⟩⟩;rw [heq];have hg':(reW w' τ (d+n)).heap[g]?=some (.pending c e):=hg;simp only [stepG.apply,if_true,e3 τ d hA,hke,GStep.after,early,hfo,hg'];simp [G,reW]
      |_=>
       refine ⟨n,.inr (fun τ d hA main cs=>?_)⟩;rw [heq];have hg':(reW w' τ (d+n)).heap[g]?=w'.heap[g]?:=rfl;rw [hg] at hg';simp only [stepG.apply,if_true,e3 τ d hA,hke,GStep.after,early,hfo,hg'];exact ⟨_,_,_,rfl⟩
   |_=>
    refine ⟨n,.inr (fun τ d hA main cs=>?_)⟩;rw [heq];simp only [stepG.apply,if_true,e3 τ d hA,hke,GStep.after];exact ⟨_,_,_,rfl⟩
  |_=>exact s1.elim
end
end Go.Proofs.YtdoghgnifkgfdaaGreat.Mute
