import Derived.Test.YtdoghgnifkgfdaaGreatP00
import Derived.Test.YtdoghgnifkgfdaaGreatP01
set_option maxRecDepth 100000
set_option maxHeartbeats 16000000
open Option renaming none->Ai,some->yi
open Go renaming World->ui,Value->ti,undef->ri
open Bool renaming true->ji,false->gi
namespace Go.Proofs.YtdoghgnifkgfdaaGreat.Mute
open Tryz Go
structure Ou where
 fns:Nat->Bool
 fs:Nat->Nat->Bool
 ps:Nat->Nat->Bool
 cf:Nat->Bool
section
variable (P:Program)(A:Ou)
def Eu(f:Nat):Bool:=A.fns f&&match P.funcs[f]? with
 | some fn => fn.body.isSome && !(fn.name == "runtime.NumGoroutine")
 |none=>gi
def fA(f:Nat):Bool:=match P.funcs[f]? with
 |some fn=>(List.range (fn.ntmps+64)).all fun t=>!A.fs f t && !A.ps f t
 |none=>gi
def aA(h:Nat):Operand->Bool
 |.tmp t=>A.fs h t
 |.func g=>A.cf g
 |_=>gi
def Ru(h:Nat):Operand->Bool
 |.tmp t=>A.ps h t
 |_=>gi
def fL(h f:Nat)(args:Array Operand):Bool:=
 (List.range (args.size+64)).all fun j=>match args[j]? with
  |some x=>(!A.fs f j || aA A h x)&&(!A.ps f j || Ru A h x)
  |none=>ji
def xu:Builtin->Bool
 |.append|.cap|.close|.copy|.delete|.len=>ji
 |_=>gi
def zE(h:Nat)(c:Call):Bool:=match c.callee with
 |.builtin .recover=>ji
 |.builtin b=>xu b
 |.value (.func f)=>Eu P A f&&fL A h f c.args
 |.value (.tmp t)=>A.fs h t
 |_=>gi
def UA(h:Nat)(c:Call):Bool:=match c.callee with
 |.builtin b=>xu b
 |.value (.func f)=>Eu P A f&&fA P A f
 |.value (.tmp t)=>A.fs h t
 |_=>gi
def Ju(h:Nat)(o:Oper):Bool:=match o.dst with
 |some d=>!A.fs h d && !A.ps h d
 |none=>ji
def gj(h:Nat)(o:Oper):Bool:=match o.op with
 |.move x|.assign x=>match o.dst with
  |some d=>(!A.fs h d || aA A h x)&&(!A.ps h d || Ru A h x)
  |none=>ji
 |.makeFunc (.func f) first _=>match o.dst with
  |some d=>!A.ps h d&&(!A.fs h d || (A.cf f&&first.isEmpty))
  |none=>ji
 |.makeInterface _ _=>match o.dst with
  |some d=>!A.fs h d
  |none=>ji
 |.call c=>Ju A h o&&zE P A h c
 |.defer c=>Ju A h o&&UA P A h c
 |.panic x=>Ju A h o&&Ru A h x
 |.go _|.send ..|.recv ..|.select ..|.ready _|.waits _|.makeFunc ..=>gi
 |_=>Ju A h o
def Tj(h:Nat):Code->Bool
 |.region _ ops _=>ops.all (gj P A h)
 |.seq a b|.cond _ a b=>Tj h a&&Tj h b
 |.block _ c|.loop c|.scope c=>Tj h c
 |.ret|.skip|.exit _|.label _=>ji
 |_=>gi
structure Dk:Prop where
 code:∀(f:Nat)(fn:Func)(c:Code),A.fns f=ji->P.funcs[f]?=yi fn->fn.body=yi c->Tj P A f c=ji
 cf:∀f,A.cf f=ji->Eu P A f=ji/\fA P A f=ji
 far:∀f t fn,P.funcs[f]?=yi fn->fn.ntmps+64<=t->A.fs f t=gi/\A.ps f t=gi
end
def aF(A:Ou)(v:ti):Prop:=v=ri\/∃f c,v=.func (.func f) #[] c/\A.cf f=ji
def ly(v:ti):Prop:=v≠.nilIface
def Yo(A:Ou)(h:Nat)(ρ:Nat->ti):Prop:=∀t,(A.fs h t=ji->aF A (ρ t))/\(A.ps h t=ji->ly (ρ t))
def vo(P:Program)(A:Ou)(f:Nat)(args:Array ti):Prop:=Eu P A f=ji/\Yo A f (fun t=>args.getD t ri)
def SH(P:Program)(A:Ou)(d:Deferred):Prop:=
 (∃b ts t cs,d.target=.builtin b ts t cs/\xu b=ji)\/(∃f c,d.target=.fn (.func f) c/\Eu P A f=ji/\fA P A f=ji)
def tq(A:Ou)(h:Nat)(o:Oper)(v:ti):Prop:=∀d,o.dst=yi d->(A.fs h d=ji->aF A v)/\(A.ps h d=ji->ly v)
def qw(o:Oper):Bool:=match o.op with
 |.defer _=>ji
 |_=>gi
def Gz(P:Program)(A:Ou)(h:Nat)(o:Oper):Next->Prop
 |.value v=>tq A h o v
 |.skip=>True
 |.enter f args=>vo P A f args/\∀v,tq A h o v
 |.defer d=>SH P A d/\qw o=ji
 |.recover=>∀v,tq A h o v
 |_=>False
section
variable {P:Program}{A:Ou}{h:Nat}{o:Oper}
theorem tq.free(hf:Ju A h o=ji)(v:ti):tq A h o v:=fun d hd=>by
 unfold Ju at hf;rw[hd]at hf;simp only[Bool.and_eq_true,Bool.not_eq_true']at hf;exact⟨fun e=>(by rw[hf.1]at e;cases e),fun e=>(by rw[hf.2]at e;cases e)⟩
theorem uz:aF A undef:=.inl rfl
theorem Dz:ly undef:=by unfold ly ri;simp
theorem tq.undef:tq A h o undef:=fun _ _=>⟨fun _=>uz,fun _=>Dz⟩
theorem Ok.mono{α:Type}{L M:α->Prop}(hm:∀a,L a->M a):∀{s:Sem α},Ok P L s->Ok P M s
 |.pure a,h=>hm a h
 |.load _ _ _,h=>fun v=>Ok.mono hm (h v)
 |.store _ _ _ k,h=>Ok.mono hm (s:=k) h
 |.new _ _,h=>fun r=>Ok.mono hm (h r)
 |.shape _ _,h=>fun r=>Ok.mono hm (h r)
 |.freeze _ _ k,h=>Ok.mono hm (s:=k) h
 |.frozen _ _,h=>fun r=>Ok.mono hm (h r)
 |.getObj _ _,h=>fun r=>Ok.mono hm (h r)
 |.setObj _ _ k,h=>Ok.mono hm (s:=k) h
 |.choose _ _,h=>fun r=>Ok.mono hm (h r)
 |.sys _ _,h=>h.elim
 |.program k,h=>Ok.mono hm (s:=k P) h
 |.mark _ k,h=>⟨h.1,Ok.mono hm (s:=k) h.2⟩
 |.halt _,h=>h
theorem ZJ{α:Type}{L:α->Prop}(s:String):Ok P L (stuck s:Sem α):=trivial
theorem Ez{α:Type}{L:α->Prop}(v:ti):Ok P L (goPanic v:Sem α):=trivial
theorem jq{α:Type}{L:α->Prop}(e:RuntimeError):Ok P L (runtimePanic e:Sem α):=by
 unfold runtimePanic;refine Ok.Qm cB fun p=>?_;cases e with
 |typeAssertion i c a m=>exact Ok.Qm (LD _) fun _=>Ok.Qm (pD _ _) fun _=>Ez _
 |panicNil=>exact Ok.Qm (LD _) fun _=>Ok.Qm (pD _ _) fun _=>Ez _
 |_=>exact Ez _
theorem Jk{s:Sem ti}(hs:Ok P T s)(hf:Ju A h o=ji):Ok P (Gz P A h o) (do pure (.value (<-s)):Sem Next):=Ok.Qm hs fun v=>tq.free hf v
theorem sG{s:Sem Unit}(hs:Ok P T s):Ok P (Gz P A h o) (do s;pure .skip:Sem Next):=Ok.Qm hs fun _=>trivial
theorem Vi{f:Nat}{fn:Func}(H:Dk P A)(hf:P.funcs[f]?=yi fn)(hn:fA P A f=ji)(ρ:Nat->ti):Yo A f ρ:=fun t=>by
 unfold fA at hn;rw[hf]at hn;simp only[List.all_eq_true,List.mem_range,Bool.and_eq_true,Bool.not_eq_true']at hn;have:A.fs f t=gi/\A.ps f t=false:=by
  by_cases ht:t<fn.ntmps+64
  ·exact hn t ht
  ·exact H.far f t fn hf E0
 exact⟨fun e=>(by rw[this.1]at e;cases e),fun e=>(by rw[this.2]at e;cases e)⟩
theorem Du {f : Nat} (hb : Eu P A f = ji) : ∃ fn c, P.funcs[f]? = yi fn /\ fn.body = yi c /\ (fn.name == "runtime.NumGoroutine") = gi /\ A.fns f = ji := by
 unfold Eu at hb;rw[Bool.and_eq_true]at hb;obtain⟨hA,hb⟩:=hb;split at hb
 ·rename_i fn hf
  simp only[Bool.and_eq_true,Bool.not_eq_true']at hb;obtain⟨c,hc⟩:=Option.isSome_iff_exists.1 hb.1;exact⟨fn,c,hf,hc,hb.2,hA⟩
 ·cases hb
theorem jz{f:Nat}{args:Array ti}(hb:Eu P A f=ji):Ok P (fun n=>n=.enter f args) (callFunc f args):=by
 obtain⟨fn,c,hf,hc,hn,-⟩:=Du hb;unfold callFunc;refine Ok.vF (L:=fun p=>p=P) rfl (fun p hp=>?_);subst hp;simp only[hf,hn,hc];exact rfl
theorem yG{v:ti}{args:Array ti}(H:Dk P A)(hv:aF A v):Ok P (fun d=>SH P A d/\∃f c,d={target:=.fn (.func f) c,args:=args}/\A.cf f=ji) (Deferred.ofValue v args):=by
 rcases hv with rfl|⟨f,c,rfl,hc⟩
 ·exact ZJ _
 ·have hb:=H.cf f hc;exact⟨.inr ⟨f,c,rfl,hb⟩,f,c,P0,hc⟩
theorem lH{b:Builtin}(hb:xu b=ji)(ts:Array TypeId)(t:TypeId)(cs:Array Bool)(args:Array ti):Ok P (fun n=>∃v,n=.value v) (builtin b ts t cs args):=by
 cases b<;>first|(cases hb;done)|skip
 ·exact Ok.Qm (bU _ _ _) fun v=>⟨v,rfl⟩
 ·exact Ok.Qm (w40 _ _ _) fun v=>⟨v,rfl⟩
 ·exact Ok.Qm (AX _ _ _) fun v=>⟨v,rfl⟩
 ·exact Ok.Qm (I_ _ _ _) fun v=>⟨v,rfl⟩
 ·exact Ok.Qm (zT _ _ _) fun v=>⟨v,rfl⟩
 ·exact Ok.Qm (E40 _ _ _) fun v=>⟨v,rfl⟩
theorem sO{ρ:Operand->ti}{x:Operand}(hop:o.op=.nilCheck x)(hf:Ju A h o=ji):Ok P (Gz P A h o) (execOp ρ o):=by
 refine G9 ?_;split
 ·exact jq _
 ·exact jq _
 ·exact jq _
 ·split
  ·exact jq _
  ·refine Ok.Qm cB fun _=>Ok.Qm (rQ _ _ _ _) fun _=>?_;split
   ·exact Ok.Qm (bz _) fun _=>tq.free hf _
   ·exact tq.free hf _
  ·exact tq.free hf _
 ·exact tq.free hf _
theorem UI{ρ:Operand->ti}{x:Operand}(hρ:Yo A h (fun t=>ρ (.tmp t)))(QA:∀g,ρ (.func g)=.func (.func g) #[] #[])(hx:aA A h x=ji):aF A (ρ x):=by
 cases x with
 |tmp t=>exact(hρ t).1 hx
 |func g=>exact .inr ⟨g,#[],QA g,hx⟩
 |_=>cases hx
theorem LI{ρ:Operand->ti}{x:Operand}(hρ:Yo A h (fun t=>ρ (.tmp t)))(hx:Ru A h x=ji):ly (ρ x):=by
 cases x with
 |tmp t=>exact(hρ t).2 hx
 |_=>cases hx
theorem U40{ρ:Operand->ti}{f:Nat}{args:Array Operand}(hρ:Yo A h (fun t=>ρ (.tmp t)))(QA:∀g,ρ (.func g)=.func (.func g) #[] #[])(ha:fL A h f args=ji):Yo A f (fun t=>(args.map ρ).getD t ri):=fun t=>by
 show (_->aF A ((args.map ρ).getD t ri))/\(_->ly ((args.map ρ).getD t ri));by_cases ht:t<args.size
 ·unfold fL at ha;simp only[List.all_eq_true,List.mem_range]at ha;have h1:=ha t E0;rw[Array.getElem?_eq_getElem ht]at h1;simp only[Bool.and_eq_true,Bool.or_eq_true,Bool.not_eq_true']at h1;have e:(args.map ρ).getD t ri=ρ args[t]:=by simp[Array.getD,ht]
  rw[e];exact⟨fun hx=>UI hρ QA (h1.1.resolve_left (by rw[hx];simp)),fun hx=>LI hρ (h1.2.resolve_left (by rw[hx];simp))⟩
 ·have e:(args.map ρ).getD t ri=undef:=by simp[Array.getD,ht]
  rw[e];exact⟨fun _=>uz,fun _=>Dz⟩
theorem tP{ρ:Operand->ti}{x:Operand}(hρ:Yo A h (fun t=>ρ (.tmp t)))(QA:∀g,ρ (.func g)=.func (.func g) #[] #[])
  (hp:(match o.dst with|some d=>(!A.fs h d || aA A h x)&&(!A.ps h d || Ru A h x)|none=>ji)=ji):Ok P (Gz P A h o) (pure (.value (ρ x)):Sem Next):=fun d hd=>by
 rw[hd]at hp;simp only[Bool.and_eq_true,Bool.or_eq_true,Bool.not_eq_true']at hp;refine⟨fun e=>?_,fun e=>?_⟩
 ·have hx:=hp.1.resolve_left I3;cases x with
  |tmp t=>exact(hρ t).1 hx
  |func g=>exact .inr ⟨g,#[],QA g,hx⟩
  |_=>cases hx
 ·have hx:=hp.2.resolve_left I3;cases x with
  |tmp t=>exact(hρ t).2 hx
  |_=>cases hx
theorem WC(t:TypeId)(x:ti):Ok P ly (Instr.makeInterface t x):=by
 unfold Instr.makeInterface;refine Ok.Qm (EA _) fun d=>?_;split
 ·exact ZJ _
 ·show ly _;unfold ly;simp
theorem iU{ρ:Operand->ti}{c:Call}{t:TypeId}(H:Dk P A)(hρ:Yo A h (fun t=>ρ (.tmp t)))(QA:∀g,ρ (.func g)=.func (.func g) #[] #[])(hc:UA P A h c=ji):Ok P (SH P A) (resolve ρ c t):=by
 unfold resolve;unfold UA at hc;split at hc
 ·rename_i b hb
  simp only[hb];exact .inl ⟨_,_,_,_,rfl,hc⟩
 ·rename_i f hb
  simp only[hb,QA];simp only[Bool.and_eq_true]at hc;exact .inr ⟨f,_,rfl,hc⟩
 ·rename_i u hb
  simp only[hb];exact Ok.mono (fun _ x=>x.1) (yG H ((hρ u).1 hc))
 ·cases hc
theorem D50{ρ:Operand->ti}{c:Call}(H:Dk P A)(hρ:Yo A h (fun t=>ρ (.tmp t)))(QA:∀g,ρ (.func g)=.func (.func g) #[] #[])(hd:Ju A h o=ji)(hc:zE P A h c=ji):
  Ok P (Gz P A h o) (do let d <-resolve ρ c o.type;invoke d.target d.args:Sem Next):=by
 unfold zE at hc;split at hc
 ·rename_i hb
  refine Ok.vF (L:=fun d=>d={target:=.builtin .recover c.argTypes o.type (c.args.map fun|.const _=>ji|_=>gi),args:=c.args.map ρ}) ?_ fun d QI=>?_
  ·unfold resolve;simp only[hb];exact rfl
  ·subst QI;exact fun v=>tq.free hd v
 ·rename_i b _ hb
  refine Ok.vF (L:=fun d=>d={target:=.builtin b c.argTypes o.type (c.args.map fun|.const _=>ji|_=>gi),args:=c.args.map ρ}) ?_ fun d QI=>?_
  ·unfold resolve;simp only[hb];exact rfl
  ·subst QI;exact Ok.mono (fun n ⟨v,hv⟩=>by subst hv;exact tq.free hd v) (lH hc _ _ _ _)
 ·rename_i f hb
  simp only[Bool.and_eq_true]at hc;refine Ok.vF (L:=fun d=>d={target:=.fn (.func f) #[],args:=#[]++c.args.map ρ}) ?_ fun d QI=>?_
  ·unfold resolve;simp only[hb,QA];exact rfl
  ·subst QI;refine Ok.mono (fun n hn=>?_) (jz (args:=#[]++c.args.map ρ++#[]) hc.1);subst hn;refine⟨⟨hc.1,?_⟩,fun v=>tq.free hd v⟩;have:=U40 hρ QA hc.2;exact Yc
 ·rename_i u hb
  refine Ok.vF (L:=fun d=>∃f cap,d={target:=.fn (.func f) cap,args:=c.args.map ρ}/\A.cf f=ji) ?_ fun d QI=>?_
  ·unfold resolve;simp only[hb];exact Ok.mono (fun _ x=>x.2) (yG H ((hρ u).1 hc))
  ·obtain⟨f,cap,rfl,qL⟩:=QI;have hb:=H.cf f qL;refine Ok.mono (fun n hn=>?_) (jz (args:=c.args.map ρ++cap) hb.1);subst hn;obtain⟨fn,_,hf,_⟩:=Du hb.1;exact⟨⟨hb.1,Vi H hf hb.2 _⟩,fun v=>tq.free hd v⟩
 ·cases hc
theorem ZD(H:Dk P A){ρ:Operand->ti}(hρ:Yo A h (fun t=>ρ (.tmp t)))(QA:∀g,ρ (.func g)=.func (.func g) #[] #[])(hp:gj P A h o=ji):Ok P (Gz P A h o) (execOp ρ o):=by
 cases hop:o.op with
 |nilCheck x=>exact sO hop K6
 |alloc t=>
  refine G9 ?_;simp only[gj,hop]at hp;exact Jk (o20 _ _ _) hp
 |box t x=>
  refine G9 ?_;simp only[gj,hop]at hp;exact Jk (sa0 _ _) hp
 |build t xs=>
  refine G9 ?_;simp only[gj,hop]at hp;exact Jk (R00 _ _) hp
 |buildSlice t n xs=>
  refine G9 ?_;simp only[gj,hop]at hp;exact Jk (iJ _ _ _) hp
 |load t x=>
  refine G9 ?_;simp only[gj,hop]at hp;exact Jk (rY _ _) hp
 |binOp b t x y u=>
  refine G9 ?_;simp only[gj,hop]at hp;exact Jk (Ok.Qm (hU _ _ _ _ _ _) fun _=>g00 _ _ _ _) hp
 |unOp b t x=>
  refine G9 ?_;simp only[gj,hop]at hp;exact Jk (E20 _ _) hp
 |convert t u x=>
  refine G9 ?_;simp only[gj,hop]at hp;exact Jk (aH _ _ _) hp
 |sliceToArrayPointer t x=>
  refine G9 ?_;simp only[gj,hop]at hp;exact Jk (ET _ _) hp
 |makeMap t r=>
  refine G9 ?_;simp only[gj,hop]at hp;exact Jk (fU _ _) hp
 |makeChan t x=>
  refine G9 ?_;simp only[gj,hop]at hp;exact Jk (mQ _ _) hp
 |makeSlice t x y=>
  refine G9 ?_;simp only[gj,hop]at hp;exact Jk (AL _ _ _) hp
 |slice t x l u m=>
  refine G9 ?_;simp only[gj,hop]at hp;exact Jk (dU _ _ _ _ _) hp
 |fieldAddr t x n=>
  refine G9 ?_;simp only[gj,hop]at hp;exact Jk (XR _ _ _) hp
 |field t x n=>
  refine G9 ?_;simp only[gj,hop]at hp;exact Jk (YO _ _ _) hp
 |indexAddr t x y=>
  refine G9 ?_;simp only[gj,hop]at hp;exact Jk (rS _ _ _) hp
 |index t x y=>
  refine G9 ?_;simp only[gj,hop]at hp;exact Jk (BP _ _ _) hp
 |lookup t x y b=>
  refine G9 ?_;simp only[gj,hop]at hp;exact Jk (pX _ _ _ _) hp
 |mapEntry t x y=>
  refine G9 ?_;simp only[gj,hop]at hp;exact Jk (LP _ _ _) hp
 |range t x=>
  refine G9 ?_;simp only[gj,hop]at hp;exact Jk (VN _ _) hp
 |next x b=>
  refine G9 ?_;simp only[gj,hop]at hp;exact Jk (d50 _ _ _) hp
 |entry x=>
  refine G9 ?_;simp only[gj,hop]at hp;exact Jk (S10 _) hp
 |typeAssert x t u b=>
  refine G9 ?_;simp only[gj,hop]at hp;exact Jk (MJ _ _ _ _) hp
 |extract x n=>
  refine G9 ?_;simp only[gj,hop]at hp;exact Jk (mH _ _) hp
 |store t x y=>
  refine G9 ?_;exact sG (LR _ _ _)
 |mapUpdate t m k x=>
  refine G9 ?_;exact sG (iC _ _ _ _)
 |insert t m k x=>
  refine G9 ?_;exact sG (iC _ _ _ _)
 |entryStore t m k x=>
  refine G9 ?_;exact sG (BJ _ _ _ _)
 |move x=>
  refine G9 ?_;exact tP hρ QA K6
 |assign x=>
  refine G9 ?_;exact tP hρ QA K6
 |pick c x y=>
  refine G9 ?_;simp only[gj,hop]at hp;exact Ok.Qm (OJ _) fun _=>tq.free hp _
 |select a b=>
  simp[gj,hop]at hp
 |ready g=>
  simp[gj,hop]at hp
 |waits g=>
  simp[gj,hop]at hp
 |makeInterface t x=>
  refine G9 ?_;refine Ok.vF (WC _ _) fun v hv=>fun d hd=>?_;simp only[gj,hop,hd]at hp;exact⟨fun e=>(by rw[e]at hp;cases hp),fun _=>hv⟩
 |makeFunc f first cap=>
  refine G9 ?_;cases f with
  |func f=>
   refine Ok.vF (L:=fun v=>v=.func (.func f) (first.map ρ) (cap.map ρ)) (by unfold Instr.makeFunc;exact rfl) fun v hv=>fun d hd=>?_;subst hv;simp only[gj,hop,hd,Bool.and_eq_true,Bool.not_eq_true',Bool.or_eq_true]at hp;refine⟨fun e=>?_,fun e=>(by rw[hp.1]at e;cases e)⟩;rcases hp.2 with h1|⟨h1,h2⟩
   ·rw[h1]at e;cases e
   ·have:first=#[]:=by simpa using h2
    exact .inr ⟨f,cap.map ρ,by simp[this],h1⟩
  |_=>simp[gj,hop]at hp
 |panic x=>
  refine G9 ?_;simp only[gj,hop,Bool.and_eq_true]at hp;cases x with
  |tmp t=>
   have hv:ly (ρ (.tmp t)):=(hρ t).2 hp.2;refine Ok.Qm ?_ fun v=>tq.free hp.1 v;unfold Instr.panic;cases hx:ρ (.tmp t)with
   |iface a b=>exact OH _
   |nilIface=>exact absurd hx hv
   |_=>exact Nr _
  |_=>simp[Ru]at hp
 |send c x=>
  simp[gj,hop]at hp
 |recv t c b=>
  simp[gj,hop]at hp
 |go c=>
  simp[gj,hop]at hp
 |defer c=>
  refine G9 ?_;simp only[gj,hop,Bool.and_eq_true]at hp;exact Ok.vF (iU H hρ QA hp.2) fun d hd=>⟨hd,by simp[qw,hop]⟩
 |call c=>
  refine G9 ?_;simp only[gj,hop,Bool.and_eq_true]at hp;exact D50 H hρ QA hp.1 hp.2
end
open Go.Conc
section
variable (P:Program)(A:Ou)
def Qq(h:Nat):Item->Prop
 |.code c|.inLoop c|.inScope c=>Tj P A h c=ji
 |.inBlock _=>True
 |.inRegion ops _=>ops.all (gj P A h)=ji
 |_=>False
structure bp(fr:Frame):Prop where
 fn:∃fn,P.funcs[fr.fn]?=yi fn
 round:fr.roundOf=Ai
 kind:fr.kind=.normal\/fr.kind=.deferred
 todo:∀it∈fr.todo,Qq P A fr.fn it
 slots:Yo A fr.fn (fun t=>fr.tmps.getD t ri)
 defers:∀d∈fr.defers,SH P A d
def Vo:CallKind->List Frame->Prop
 |k,[]=>k=.normal
 |k,c::rest=>bp P A c/\(k=.normal->∀v,bp P A (c.finish v))/\Vo c.kind rest
end
def Agree(w:ui)(τ:Nat->Question->Nat)(d n:Nat):Prop:=∀k,k<n->τ (d+k)=w.tape (w.drawn+k)
def yl(P:Program)(A:Ou)(fr:Frame)(top:List Frame)(w:ui):Prop:=∃n,
 (∃Gq sD w' es,bp P A Gq/\Vo P A Gq.kind sD/\(∀e∈es,ko e)/\w'.tape=w.tape/\w'.drawn=w.drawn+n/\
  ∀τ d,Agree w τ d n->∀main cs,stepG P main (G fr (top++cs)) (Rj w τ d)=.go (G Gq (sD++cs)) (Rj w' τ (d+n)) es)\/
 (∀τ d,Agree w τ d n->∀main cs,∃o w' es,stepG P main (G fr (top++cs)) (Rj w τ d)=.ended o w' es)
section
variable {P:Program}{A:Ou}{fr:Frame}{top:List Frame}{w:ui}
theorem bp.upd(h:bp P A fr){todo:List Item}(ht:∀it∈todo,Qq P A fr.fn it):bp P A {fr with todo}:=⟨h.fn,h.round,h.kind,ht,h.slots,h.defers⟩
theorem bp.mode(h:bp P A fr)(m:FrameMode):bp P A {fr with mode:=m}:=⟨h.fn,h.round,h.kind,h.todo,h.slots,h.defers⟩
theorem bp.raise(h:bp P A fr)(c:List PanicEntry):bp P A (fr.raise c):=by
 unfold Frame.raise;split<;>exact h.mode _
theorem Pv(fr:Frame)(c:List PanicEntry):(fr.raise c).kind=fr.kind:=by unfold Frame.raise;split<;>rfl
theorem ZX{h d:Nat}{tmps:Array ti}{v:ti}(hs:Yo A h (fun t=>tmps.getD t ri))(hd:(A.fs h d=ji->aF A v)/\(A.ps h d=ji->ly v)):Yo A h (fun t=>(tmps.setIfInBounds d v).getD t ri):=fun t=>by
 have wm:=hs t;show (_->aF A ((tmps.setIfInBounds d v).getD t ri))/\(_->ly ((tmps.setIfInBounds d v).getD t ri));by_cases ht:t<tmps.size
 ·by_cases e:d=t
  ·subst e;have:(tmps.setIfInBounds d v).getD d ri=v:=by simp[Array.getD,ht]
   rw[this];exact hd
  ·have:(tmps.setIfInBounds d v).getD t ri=tmps.getD t undef:=by
    simp[Array.getD,ht,Array.getElem_setIfInBounds_ne,e]
   rw[this];exact wm
 ·have:(tmps.setIfInBounds d v).getD t ri=undef:=by simp[Array.getD,ht]
  rw[this];exact⟨fun _=>uz,fun _=>Dz⟩
theorem bp.finish{ops:Array Oper}{i:Nat}{rest:List Nat}{k:List Item}{o:Oper}{v:ti}(h:bp P A fr)(ht:fr.todo=.inRegion ops (i::rest)::k)(ho:ops[i]?=yi o)(hv:tq A fr.fn o v):bp P A (fr.finish v):=by
 have ht1:∀it∈(Item.inRegion ops rest::k),Qq P A fr.fn it:=fun it hit=>by
  have:=h.todo;rw[ht]at this;rcases List.mem_cons.1 hit with rfl|hit
  ·exact this (.inRegion ops (i::rest)) (List.mem_cons_self)
  ·exact this it (List.mem_cons_of_mem _ hit)
 unfold Frame.finish;rw[ht];simp only[ho,Option.bind_some];cases hd:o.dst with
 |none=>exact⟨h.fn,h.round,h.kind,ht1,h.slots,h.defers⟩
 |some d=>exact⟨h.fn,h.round,h.kind,ht1,ZX h.slots (hv d hd),h.defers⟩
theorem om(fr:Frame)(v:ti):(fr.finish v).kind=fr.kind:=by unfold Frame.finish;split<;>rfl
theorem yl.to{todo:List Item}(h:bp P A fr)(wm:Vo P A fr.kind top)(ht:∀it∈todo,Qq P A fr.fn it)(hs:∀(w:ui) main cs,stepG P main (G fr (top++cs)) w=.go (G {fr with todo} (top++cs)) w #[]):yl P A fr top w:=
 ⟨0,.inl ⟨{fr with todo},top,w,#[],h.upd ht,wm,P0,rfl,rfl,fun τ d _ main cs=>hs _ _ _⟩⟩
theorem yl.ended(hs:∀(w:ui) main cs,∃o w' es,stepG P main (G fr (top++cs)) w=.ended o w' es):yl P A fr top w:=⟨0,.inr (fun _ _ _ _ _=>hs _ _ _)⟩
theorem Jz{k:List Frame}(h:fr.kind=.normal\/fr.kind=.deferred)(Jj:fr.kind=.normal\/k≠[])(cs:List Frame):tryRecover fr (k++cs)=(tryRecover fr k).map fun x=>(x.1,x.2++cs):=by
 rcases h with h|h
 ·unfold tryRecover;simp[h]
 ·cases k with
  |nil=>rcases Jj with e|e
        ·rw[h]at e;cases e
        ·exact absurd rfl e
  |cons c r=>
   unfold tryRecover;simp only[h,List.cons_append];split<;>simp_all
theorem wJ{v:ti}{l:List Frame}(wm:Vo P A fr.kind top)(hk:fr.kind=.normal\/fr.kind=.deferred)(e:tryRecover fr top=yi (v,l)):Vo P A fr.kind l:=by
 rcases hk with h|h
 ·unfold tryRecover at e;simp[h]at e
 ·unfold tryRecover at e;cases top with
  |nil=>simp[h]at e
  |cons c r=>
   simp only[h]at e;split at e
   ·rename_i hh
    cases e;refine⟨wm.1.mode _,fun e=>?_,wm.2.2⟩;rw[h]at e;cases e
   ·cases e
theorem vo.frame(H:Dk P A){f:Nat}{args:Array ti}{k:CallKind}(h:vo P A f args)(hk:k=.normal\/k=.deferred):bp P A (Frame.enter P f args k):=by
 obtain⟨hb,hs⟩:=h;obtain⟨fn,c,hf,hc,_,hA⟩:=Du hb;unfold Frame.enter;refine⟨⟨fn,hf⟩,rfl,hk,fun it hit=>?_,fun t=>?_,P0⟩
 ·simp only[hf,Option.bind_some,hc,Option.getD_some,List.mem_singleton]at hit;subst hit;exact H.code f fn c hA hf hc
 ·have:=hs t;simp only[]at this ⊢;have e:(args++Array.replicate (((P.funcs[f]?).map (·.ntmps)).getD 0-args.size) ri).getD t ri=args.getD t undef:=by
   rw[Array.getD_eq_getD_getElem?,Array.getD_eq_getD_getElem?];by_cases ht:t<args.size
   ·rw[Array.getElem?_append_left ht]
   ·rw[Array.getElem?_append_right E0,Array.getElem?_eq_none (by omega:args.size<=t),Array.getElem?_replicate];split<;>rfl
  rw[e];exact nh
theorem kU{s:Sem Next}{ops:Array Oper}{i:Nat}{rest:List Nat}{k:List Item}{o:Oper}(H:Dk P A)(h:bp P A fr)(wm:Vo P A fr.kind top)(ht:fr.todo=.inRegion ops (i::rest)::k)(ho:ops[i]?=yi o)
  (hs:Ok P (Gz P A fr.fn o) s)(heq:∀w main cs,stepG P main (G fr (top++cs)) w=stepG.apply P ji fr (top++cs) Ai s w)(Po:∀g,P.stepOf g=Ai):yl P A fr top w:=by
 obtain⟨n,h1,h2,h3⟩:=Xx P s w #[] hs;obtain⟨s1,s2⟩:=Vq P s w #[] hs P0;have SE:(fr.kind==.early)=false:=by rcases h.kind with e|e<;>rw[e]<;>rfl
 have Jj:fr.kind=.normal\/top≠[]:=by
  cases top with
  |nil=>exact .inl wm
  |cons=>exact .inr P0
 cases hr:(s.runT P w #[]).1 with
 |ok a w'=>
  rw[hr]at h1 h2 h3 s1;have key:∀τ d,Agree w τ d n->∀main cs,stepG P main (G fr (top++cs)) (Rj w τ d)=stepG.apply P ji fr (top++cs) Ai s (Rj w τ d):=fun τ d _ main cs=>heq _ _ _;have e3:∀τ d,Agree w τ d n->s.runT P (Rj w τ d) #[]=(.ok a (Rj w' τ (d+n)),(s.runT P w #[]).2):=fun τ d hA=>h3 τ d hA;cases a with
  |value v=>
   refine⟨n,.inl ⟨fr.finish v,top,w',seen P fr.fn (s.runT P w #[]).2,h.finish ht ho s1,G5,zm s2,h1,h2,fun τ d hA main cs=>?_⟩⟩;rw[key τ d hA];refine gd ?_;simp[G]
  |skip=>
   refine⟨n,.inl ⟨fr.finish ri,top,w',seen P fr.fn (s.runT P w #[]).2,h.finish ht ho tq.undef,G5,zm s2,h1,h2,fun τ d hA main cs=>?_⟩⟩;rw[key τ d hA];refine gd ?_;simp[G]
  |enter f args=>
   refine⟨n,.inl ⟨Frame.enter P f args .normal,fr::top,w',seen P fr.fn (s.runT P w #[]).2,s1.1.frame H (.inl rfl),⟨h,fun _ v=>h.finish ht ho (s1.2 v),wm⟩,zm s2,h1,h2,fun τ d hA main cs=>?_⟩⟩;rw[key τ d hA];simp only[stepG.apply,if_true,e3 τ d hA,SE,GStep.after,ht];simp[G]
  |defer df=>
   have h':bp P A {fr with defers:=df::fr.defers}:=⟨h.fn,h.round,h.kind,h.todo,h.slots,fun x hx=>by
    rcases List.mem_cons.1 hx with rfl|hx
    ·exact s1.1
    ·exact h.defers x hx⟩
   refine⟨n,.inl ⟨({fr with defers:=df::fr.defers}:Frame).finish ri,top,w',seen P fr.fn (s.runT P w #[]).2,bp.finish (fr:={fr with defers:=df::fr.defers}) h' ht ho tq.undef,G5,zm s2,h1,h2,fun τ d hA main cs=>?_⟩⟩;rw[key τ d hA];refine gd ?_;simp[G]
  |recover=>
   have IU:fr.roundOf=none:=h.round;cases A30:tryRecover fr top with
   |none=>
    refine⟨n,.inl ⟨fr.finish .nilIface,top,w',seen P fr.fn (s.runT P w #[]).2,h.finish ht ho (s1 _),G5,zm s2,h1,h2,fun τ d hA main cs=>?_⟩⟩;rw[key τ d hA];simp only[stepG.apply,if_true,e3 τ d hA,SE,GStep.after,IU,Jz h.kind Jj cs,A30];simp[G]
   |some x=>
    obtain⟨v,l⟩:=x;refine⟨n,.inl ⟨fr.finish v,l,w',seen P fr.fn (s.runT P w #[]).2,h.finish ht ho (s1 _),by rw[om];exact wJ wm h.kind A30,zm s2,h1,h2,fun τ d hA main cs=>?_⟩⟩;rw[key τ d hA];simp only[stepG.apply,if_true,e3 τ d hA,SE,GStep.after,IU,Jz h.kind Jj cs,A30];simp[G]
  |_=>exact s1.elim
 |halt hh w'=>
  rw[hr]at h1 h2 h3 s1;have e3:∀τ d,Agree w τ d n->s.runT P (Rj w τ d) #[]=(.halt hh (Rj w' τ (d+n)),(s.runT P w #[]).2):=fun τ d hA=>h3 τ d hA;cases hh with
  |panic v=>
   refine⟨n,.inl ⟨fr.raise [{v,recovered:=gi}],top,w',seen P fr.fn (s.runT P w #[]).2,h.raise _,by rw[Pv];exact wm,zm s2,h1,h2,fun τ d hA main cs=>?_⟩⟩;rw[heq];refine gd ?_;simp[G]
  |stuck m=>
   refine⟨n,.inr (fun τ d hA main cs=>?_)⟩;rw[heq];refine gd ?_;exact⟨_,_,_,rfl⟩
  |unsupported u=>
   cases u with
   |initOrder g=>
    cases hfo:P.follows .staticDataAhead with
    |true=>
     refine⟨n,.inr (fun τ d hA main cs=>?_)⟩;rw[heq];simp only[stepG.apply,if_true,e3 τ d hA,SE,GStep.after,early,hfo,Po];exact⟨_,_,_,rfl⟩
    |false=>
     cases hg:w'.heap[g]? with
     |none=>
      refine⟨n,.inr (fun τ d hA main cs=>?_)⟩;rw[heq];have yE:(Rj w' τ (d+n)).heap[g]?=none:=hg;refine Og ?_;exact⟨_,_,_,rfl⟩
     |some ob=>
      cases ob with
      |pending c e=>
       refine⟨n,.inl ⟨fr,top,{w' with heap:=w'.heap.setIfInBounds g (.cells c e)},seen P fr.fn #[],h,wm,zm P0,h1,h2,fun τ d hA main cs=>?_⟩⟩;rw[heq];have yE:(Rj w' τ (d+n)).heap[g]?=yi (.pending c e):=hg;refine Og ?_;simp[G,Rj]
      |_=>
       refine⟨n,.inr (fun τ d hA main cs=>?_)⟩;rw[heq];have yE:(Rj w' τ (d+n)).heap[g]?=w'.heap[g]?:=rfl;rw[hg]at yE;refine Og ?_;exact⟨_,_,_,rfl⟩
   |_=>
    refine⟨n,.inr (fun τ d hA main cs=>?_)⟩;rw[heq];refine gd ?_;exact⟨_,_,_,rfl⟩
  |_=>exact s1.elim
end
section
variable {P:Program}{A:Ou}{fr:Frame}{top:List Frame}{w:ui}
theorem Qz(hm:fr.mode=.run)(main:Bool)(cs:List Frame)(w:ui):stepG P main (G fr cs) w=stepG.exec P main ji fr cs Ai w:=by
 unfold stepG G;simp only[hm]
theorem Zl(hm:fr.mode≠.run)(main:Bool)(cs:List Frame)(w:ui):stepG P main (G fr cs) w=unwind P main fr cs Ai w:=by
 unfold stepG G;cases hx:fr.mode with
 |run=>exact absurd hx hm
 |returning=>simp only[hx]
 |panicking c=>simp only[hx]
theorem IX{d:Deferred}(H:Dk P A)(hd:SH P A d):Ok P (fun n=>(∃v,n=.value v)\/∃f args,n=.enter f args/\vo P A f args) (invoke d.target d.args):=by
 rcases hd with⟨b,ts,t,cs,e,hb⟩|⟨f,c,e,hb,hn⟩
 ·rw[e];exact Ok.mono (fun _ h=>.inl h) (lH hb _ _ _ _)
 ·rw[e];obtain⟨fn,_,hf,_⟩:=Du hb;exact Ok.mono (fun n h=>.inr ⟨f,_,h,hb,Vi H hf hn _⟩) (jz (args:=d.args++c) hb)
theorem notNil{d:Deferred}(hd:SH P A d):(match d.target with|.nil=>ji|_=>gi)=false:=by
 rcases hd with⟨b,ts,t,cs,e,_⟩|⟨f,c,e,_⟩<;>rw[e]
theorem EJ{d:Deferred}{ds:List Deferred}(H:Dk P A)(h:bp P A fr)(wm:Vo P A fr.kind top)(hm:fr.mode≠.run)(hds:fr.defers=d::ds):yl P A fr top w:=by
 have hd:SH P A d:=h.defers d (by rw[hds];exact List.mem_cons_self);have hi:=IX H hd;obtain⟨n,h1,h2,h3⟩:=Xx P _ w #[] hi;obtain⟨s1,s2⟩:=Vq P _ w #[] hi P0;have h':bp P A {fr with defers:=ds}:=⟨h.fn,h.round,h.kind,h.todo,h.slots,fun x hx=>h.defers x (by rw[hds];exact List.mem_cons_of_mem _ hx)⟩;have heq:∀w main cs,stepG P main (G fr (top++cs)) w=callDeferred P {fr with defers:=ds} (top++cs) Ai d w:=fun w main cs=>by
  rw[Zl hm];unfold unwind;rw[hds];rcases hd with⟨b,ts,t,cs,e,_⟩|⟨f,c,e,_⟩
  ·obtain⟨tg,ar⟩:=d;simp only at e;subst e;rfl
  ·obtain⟨tg,ar⟩:=d;simp only at e;subst e;rfl
 have Ry:∀(X:Prop),(match d.target with|.nil=>ji|_=>gi)=ji->X:=fun X hx=>by
  rcases hd with⟨b,ts,t,cs,e,_⟩|⟨f,c,e,_⟩<;>rw[e]at hx<;>cases hx
 cases hr:((invoke d.target d.args).runT P w #[]).1 with
 |ok a w'=>
  rw[hr]at h1 h2 h3 s1;have e3:∀τ dd,Agree w τ dd n->(invoke d.target d.args).runT P (Rj w τ dd) #[]=(.ok a (Rj w' τ (dd+n)),((invoke d.target d.args).runT P w #[]).2):=fun τ dd hA=>h3 τ dd hA;rcases s1 with⟨v,rfl⟩|⟨f,args,rfl,hen⟩
  ·refine⟨n,.inl ⟨{fr with defers:=ds},top,w',seen P fr.fn ((invoke d.target d.args).runT P w #[]).2,h',wm,zm s2,h1,h2,fun τ dd hA main cs=>?_⟩⟩;refine je ?_;simp[G];exact Ry _
  ·refine⟨n,.inl ⟨Frame.enter P f args .deferred,{fr with defers:=ds}::top,w',seen P fr.fn ((invoke d.target d.args).runT P w #[]).2,hen.frame H (.inr rfl),⟨h',fun e=>G3,wm⟩,zm s2,h1,h2,fun τ dd hA main cs=>?_⟩⟩;refine je ?_;simp[G];exact Ry _
 |halt hh w'=>
  rw[hr]at h1 h2 h3 s1;have e3:∀τ dd,Agree w τ dd n->(invoke d.target d.args).runT P (Rj w τ dd) #[]=(.halt hh (Rj w' τ (dd+n)),((invoke d.target d.args).runT P w #[]).2):=fun τ dd hA=>h3 τ dd hA;cases hh with
  |panic v=>
   refine⟨n,.inl ⟨({fr with defers:=ds}:Frame).raise [{v,recovered:=gi}],top,w',seen P fr.fn ((invoke d.target d.args).runT P w #[]).2,h'.raise _,by rw[Pv];exact wm,zm s2,h1,h2,fun τ dd hA main cs=>?_⟩⟩;refine je ?_;simp[G];exact Ry _
  |stuck m=>
   refine⟨n,.inr (fun τ dd hA main cs=>?_)⟩;refine je ?_;repeat' split
   all_goals exact⟨_,_,_,rfl⟩
  |unsupported u=>
   refine⟨n,.inr (fun τ dd hA main cs=>?_)⟩;refine je ?_;repeat' split
   all_goals exact⟨_,_,_,rfl⟩
  |_=>exact s1.elim
theorem Ix(fn:Func)(tmps:Array ti):Ok P T (results fn tmps):=by
 unfold results;refine Ok.Qm (WB _ (fun x=>?_) _) fun _=>trivial;cases x with
 |tmp t=>exact trivial
 |cell a t=>exact Ok.Qm (XJ _) fun _=>iH _ _
theorem UO(h:bp P A fr){c:Frame}{rest:List Frame}(wm:Vo P A fr.kind (c::rest))(v:ti):∃c',bp P A c'/\Vo P A c'.kind rest/\
  ∀main cs (w:ui),doReturn P main fr (c::(rest++cs)) Ai v w=.go (G c' (rest++cs)) w:=by
 rcases h.kind with hk|hk
 ·refine⟨c.finish v,wm.2.1 hk v,by rw[om];exact wm.2.2,fun main cs w=>?_⟩;unfold doReturn;simp only[hk];rfl
 ·have hb:∀m,bp P A {c with mode:=m}:=fun m=>wm.1.mode m;unfold doReturn;simp only[hk];cases hm:c.mode with
  |panicking chain=>
   cases chain with
   |nil=>exact⟨c,wm.1,wm.2.2,fun _ _ _=>rfl⟩
   |cons x older=>
    obtain⟨xv,xr,xg⟩:=x;cases xr with
    |false=>exact⟨c,wm.1,wm.2.2,fun _ _ _=>rfl⟩
    |true=>
     cases hold:older.dropWhile (!·.goexit)with
     |nil=>exact⟨{c with mode:=.returning},hb _,wm.2.2,fun _ _ _=>by simp only[hold];rfl⟩
     |cons y l=>exact⟨{c with mode:=.panicking (y::l)},hb _,wm.2.2,fun _ _ _=>by simp only[hold];rfl⟩
  |_=>exact⟨c,wm.1,wm.2.2,fun _ _ _=>rfl⟩
theorem Ut(h:bp P A fr):fr.catches P=false:=by
 obtain⟨fn,hf⟩:=h.fn;unfold Frame.catches;rw[hf]
theorem FP(h:bp P A fr){c:Frame}{rest:List Frame}(wm:Vo P A fr.kind (c::rest))(hm:fr.mode≠.run)(hds:fr.defers=[]):yl P A fr (c::rest) w:=by
 have heq:∀w main cs,stepG P main (G fr ((c::rest)++cs)) w=unwind P main fr (c::(rest++cs)) Ai w:=fun w main cs=>Zl hm _ _ _;cases hx:fr.mode with
 |run=>exact absurd hx hm
 |panicking chain=>
  refine⟨0,.inl ⟨c.raise chain,rest,w,#[],wm.1.raise _,by rw[Pv];exact wm.2.2,P0,rfl,rfl,fun τ d _ main cs=>?_⟩⟩;rw[heq];unfold unwind;simp only[hds,hx,Ut h];rfl
 |returning=>
  obtain⟨fn,hf⟩:=h.fn;have ho:=Ix (P:=P) fn fr.tmps;obtain⟨n,h1,h2,h3⟩:=Xx P _ w #[] ho;obtain⟨s1,s2⟩:=Vq P _ w #[] ho P0;cases hr:((results fn fr.tmps).runT P w #[]).1 with
  |ok v w'=>
   rw[hr]at h1 h2 h3;obtain⟨c',xN,MF,hc3⟩:=UO h wm v;refine⟨n,.inl ⟨c',rest,w',seen P fr.fn ((results fn fr.tmps).runT P w #[]).2,xN,MF,zm s2,h1,h2,fun τ d hA main cs=>?_⟩⟩;have e3:(results fn fr.tmps).runT P (Rj w τ d) #[]=(.ok v (Rj w' τ (d+n)),((results fn fr.tmps).runT P w #[]).2):=h3 τ d hA;rw[heq];unfold unwind;simp only[hds,hx,hf,e3,hc3,GStep.after];simp
  |halt hh w'=>
   rw[hr]at h1 h2 h3;refine⟨n,.inr (fun τ d hA main cs=>?_)⟩;have e3:(results fn fr.tmps).runT P (Rj w τ d) #[]=(.halt hh (Rj w' τ (d+n)),((results fn fr.tmps).runT P w #[]).2):=h3 τ d hA;rw[heq];unfold unwind;simp only[hds,hx,hf,e3];cases hh<;>exact⟨_,_,_,rfl⟩
theorem dE{id:Nat}:∀{k l:List Item}{h:Nat},(∀it∈k,Qq P A h it)->exitTo id k=yi l->∀it∈l,Qq P A h it
 | [],l,h,_,e=>by simp[exitTo]at e
 |x::k,l,h,hk,e=>by
  have sF:∀it∈k,Qq P A h it:=fun it hit=>hk it (List.mem_cons_of_mem _ hit);cases x with
  |inBlock id'=>
   unfold exitTo at e;split at e
   ·cases e;exact sF
   ·exact dE sF e
  |_=>exact dE sF (by simpa[exitTo]using e)
theorem OE(P:Program)(q:Question)(w:ui):∃n t,∃w':ui,w'.tape=w.tape/\w'.drawn=w.drawn+n/\∀τ d,Agree w τ d n->(choose q).run P (Rj w τ d)=.ok t (Rj w' τ (d+n)):=by
 unfold choose;by_cases hq:q.forced=ji
 ·exact⟨0,0,w,rfl,rfl,fun τ d _=>by simp[Sem.run,hq]⟩
 ·refine⟨1,q.cut (w.tape w.drawn q),{w with drawn:=w.drawn+1},rfl,rfl,fun τ d hA=>?_⟩;have h0:=hA 0 E0;simp only[Nat.add_zero]at h0;have e:(Rj w τ d).tape (Rj w τ d).drawn q=w.tape w.drawn q:=congrFun h0 q;simp only[Sem.run,hq];rw[e];rfl
theorem oW(H:Dk P A)(Po:∀g,P.stepOf g=Ai)(h:bp P A fr)(wm:Vo P A fr.kind top)(hm:fr.mode=.run):yl P A fr top w:=by
 have heq:∀w main cs,stepG P main (G fr (top++cs)) w=stepG.exec P main ji fr (top++cs) Ai w:=fun w main cs=>Qz hm _ _ _;have hto:=h.todo;have IU:=h.round;cases ht:fr.todo with
 |nil=>
  refine⟨0,.inl ⟨{fr with mode:=.returning},top,w,#[],h.mode _,wm,P0,rfl,rfl,fun τ d _ main cs=>?_⟩⟩;rw[heq];simp only[stepG.exec,ht,IU];simp[G]
 |cons it k=>
  rw[ht]at hto;have hk:∀x∈k,Qq P A fr.fn x:=fun x hx=>hto x (List.mem_cons_of_mem _ hx);have hit:=hto it List.mem_cons_self;have two:∀{a b:Item},Qq P A fr.fn a->Qq P A fr.fn b->∀x∈a::b::k,Qq P A fr.fn x:=fun ha hb x hx=>by
   rcases List.mem_cons.1 hx with rfl|hx
   ·exact ha
   ·rcases List.mem_cons.1 hx with rfl|hx
    ·exact hb
    ·exact hk x hx
  have one:∀{a:Item},Qq P A fr.fn a->∀x∈a::k,Qq P A fr.fn x:=fun ha x hx=>by
   rcases List.mem_cons.1 hx with rfl|hx
   ·exact ha
   ·exact hk x hx
  cases it with
  |inBlock id=>exact yl.to h wm hk fun w main cs=>by rw[heq];refine Xf ?_;simp[G]
  |inScope c=>exact yl.to h wm hk fun w main cs=>by rw[heq];refine Xf ?_;simp[G]
  |inLoop c=>exact yl.to h wm (two (a:=.code c) (b:=.inLoop c) hit hit) fun w main cs=>by rw[heq];refine Xf ?_;simp[G]
  |inRegion ops l=>
   cases l with
   |nil=>exact yl.to h wm hk fun w main cs=>by rw[heq];refine Xf ?_;simp[G]
   |cons i rest=>
    cases dx:((ops[i]?).map (Region.wanted · (yielded ops fr.tmps))).getD gi with
    |true=>
     obtain⟨o,ho⟩:∃o,ops[i]?=yi o:=by
      cases hx:ops[i]? with
      |none=>rw[hx]at dx;cases dx
      |some o=>exact⟨o,rfl⟩
     have hpl:gj P A fr.fn o=true:=by
      have:ops.all (gj P A fr.fn)=true:=hit;exact Rh
     refine kU H h wm ht ho (ZD (ρ:=fr.eval) H h.slots (fun _=>rfl) hpl) (fun w main cs=>?_) Po;rw[heq];rw[ho]at dx;simp only[stepG.exec,ht,stepG.oper,Frame.oper?,ho,IU];rw[if_pos dx]
    |false=>
     by_cases hn:∃o,ops[i]?=yi o
     ·obtain⟨o,ho⟩:=hn;refine⟨0,.inl ⟨fr.finish ri,top,w,#[],h.finish ht ho tq.undef,G5,P0,rfl,rfl,fun τ d _ main cs=>?_⟩⟩;rw[heq];simp only[stepG.exec,ht,dx];simp[G]
     ·have qB:ops[i]?=none:=by
       cases hx:ops[i]? with
       |none=>rfl
       |some o=>exact absurd ⟨o,hx⟩ hn
      have e:fr.finish ri={fr with todo:=.inRegion ops rest::k}:=by
       unfold Frame.finish;rw[ht];simp[qB]
      refine yl.to h wm (one (a:=.inRegion ops rest) hit) fun w main cs=>?_;rw[heq,<-e];simp only[stepG.exec,ht,dx];simp[G]
  |code c=>
   cases c with
   |skip=>exact yl.to h wm hk fun w main cs=>by rw[heq];refine Xf ?_;simp[G]
   |label l=>exact yl.to h wm hk fun w main cs=>by rw[heq];refine Xf ?_;simp[G]
   |seq a b=>
    have hp:Tj P A fr.fn a=ji/\Tj P A fr.fn b=true:=by
     have:Tj P A fr.fn (.seq a b)=true:=hit;exact qg
    exact yl.to h wm (two (a:=.code a) (b:=.code b) hp.1 hp.2) fun w main cs=>by rw[heq];refine Xf ?_;simp[G]
   |cond x a b=>
    have hp:Tj P A fr.fn a=ji/\Tj P A fr.fn b=true:=by
     have:Tj P A fr.fn (.cond x a b)=true:=hit;exact qg
    cases hx:fr.eval x with
    |bool bb=>
     cases bb with
     |true=>exact yl.to h wm (one (a:=.code a) hp.1) fun w main cs=>by rw[heq];simp only[stepG.exec,ht,hx];simp[G]
     |false=>exact yl.to h wm (one (a:=.code b) hp.2) fun w main cs=>by rw[heq];simp only[stepG.exec,ht,hx];simp[G]
    |_=>exact yl.ended fun w main cs=>by rw[heq];simp only[stepG.exec,ht,hx];exact⟨_,_,_,rfl⟩
   |block id c=>
    have hp:Tj P A fr.fn c=true:=by
     have:Tj P A fr.fn (.block id c)=true:=hit;exact qg
    exact yl.to h wm (two (a:=.code c) (b:=.inBlock id) hp trivial) fun w main cs=>by rw[heq];refine Xf ?_;simp[G]
   |loop c=>
    have hp:Tj P A fr.fn c=true:=by
     have:Tj P A fr.fn (.loop c)=true:=hit;exact qg
    exact yl.to h wm (two (a:=.code c) (b:=.inLoop c) hp hp) fun w main cs=>by rw[heq];refine Xf ?_;simp[G]
   |scope c=>
    have hp:Tj P A fr.fn c=true:=by
     have:Tj P A fr.fn (.scope c)=true:=hit;exact qg
    exact yl.to h wm (two (a:=.code c) (b:=.inScope c) hp hp) fun w main cs=>by rw[heq];refine Xf ?_;simp[G]
   |ret=>
    refine⟨0,.inl ⟨{fr with mode:=.returning},top,w,#[],h.mode _,wm,P0,rfl,rfl,fun τ d _ main cs=>?_⟩⟩;rw[heq];simp only[stepG.exec,ht,IU];simp[G]
   |exit id=>
    cases hx:exitTo id k with
    |some l=>exact yl.to h wm (dE hk hx) fun w main cs=>by rw[heq];simp only[stepG.exec,ht,hx];simp[G]
    |none=>exact yl.ended fun w main cs=>by rw[heq];simp only[stepG.exec,ht,hx,IU];exact⟨_,_,_,rfl⟩
   |region id ops draw=>
    have hp:ops.all (gj P A fr.fn)=true:=by
     have:Tj P A fr.fn (.region id ops draw)=true:=hit;exact qg
    cases draw with
    |false=>exact yl.to h wm (one (a:=.inRegion ops (List.range ops.size)) hp) fun w main cs=>by rw[heq];refine Xf ?_;simp[G]
    |true=>
     obtain⟨n,t,w',q1,q2,q3⟩:=OE P (.order fr.fn id) w;refine⟨n,.inl ⟨{fr with todo:=.inRegion ops (Region.schedule (P.follows .mixedOrders) ops t)::k},top,w',#[],h.upd (one (a:=.inRegion ops _) hp),wm,P0,q1,q2,fun τ d hA main cs=>?_⟩⟩;rw[heq];simp only[stepG.exec,ht,q3 τ d hA];simp[G]
   |_=>
    exfalso;simp[Qq,Tj]at hit
  |_=>exact(hit:False).elim
theorem iE(H:Dk P A)(Po:∀g,P.stepOf g=Ai)(h:bp P A fr)(wm:Vo P A fr.kind top)(hl:fr.mode=.run\/fr.defers≠[]\/top≠[])(w:ui):yl P A fr top w:=by
 by_cases hm:fr.mode=.run
 ·exact oW H Po h wm hm
 ·cases hd:fr.defers with
  |cons d ds=>exact EJ H h wm hm hd
  |nil=>
   cases top with
   |nil=>rcases hl with e|e|e
         ·exact absurd e hm
         ·exact absurd hd e
         ·exact absurd rfl e
   |cons c rest=>exact FP h wm hm hd
end
end Go.Proofs.YtdoghgnifkgfdaaGreat.Mute
