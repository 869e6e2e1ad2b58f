/-
  For every list of numbers and every two numbers Relayed answers true, whatever the schedule, without a data race; the list reads as it did. No condition beyond the form's own.
-/
import Derived.Test.YtdoghgnifkgfdaaRows
import Derived.Conc.LeavingOf
import Derived.Conc.Holds
import Derived.Test.YtdoghgnifkgfdaaP46
import Derived.Test.YtdoghgnifkgfdaaP47
set_option maxRecDepth 100000
set_option maxHeartbeats 16000000
namespace Go.Proofs.Ytdoghgnifkgfdaa
open Go.ChangeShapes Go.WideShapes Go.ChangeAt Go.RowKit Go.Conc
theorem Try.own:ownKnob Try.prog.godebug=Option.none:=by kernel_rfl
theorem Try.laidOut:laidOutB Try.prog=true:=by kernel_rfl
theorem rel_lifted (os:Os) (started:os.Started) (H:Type) (enc:TypeId×Value→H):
  ReturnsInLeavingWide {} Try.checked os 5 .any (Rows.relayedSpec.pre6 enc Try.prog Try.f5 Rows.relayedRow.domain false) (Rows.relayedSpec.post enc Try.prog Try.f5 false true false false):=by
 refine returnsInLeavingWide_of_change_sized (C:=Try.checked) Try.own started Try.func5
  (ChangeSpec.witness6 (enc:=enc) (C:=Try.checked) false ⟨#[],#[.slice Option.none 0 0,.int .i64 0,.int .i64 0],[]⟩ 8 (by kernel_rfl) (by kernel_rfl) (by kernel_rfl) (by kernel_rfl)) ?_
 intro W base args ds gs before hval0 hW _ hsz0 _;have hsz:(DataW.weightsEach Try.prog (Try.f5.params.toList++Rows.relayedSpec.plain.varTypes Try.prog) (ds++gs)).all (·≤reachBytes)=true:=hsz0;clear hsz0;have hval:∀(j:Nat) t v,Try.f5.params[j]?=some t→args[j]?=some v→Value.okWide Try.prog W .any base t v:=hval0;have hW':=hW;obtain ⟨p,q,hA0,hV,rfl,_,_⟩:=hW;have hA:DataW.TrodAll enc Try.prog W 0 (fun _=>true) true Try.f5.params.toList args.toList ds p:=hA0;rw [Try.params5] at hA hval hsz;obtain ⟨v0,v1,v2,d0,d1,d2,p0,p1,p2,rfl,rfl,rfl,h0,h1,h2⟩:=trodAll_three hA;obtain ⟨rfl,rfl⟩:=trodVars_none hV;obtain ⟨a0,len0,cap0,rfl⟩:=okWide_slice Try.underlying56 (hval 0 56 v0 rfl rfl);obtain ⟨n1,rfl,rfl,rfl,w1⟩:=open_int Try.underlying3 (hval 1 3 v1 rfl rfl) h1;obtain ⟨n2,rfl,rfl,rfl,w2⟩:=open_int Try.underlying3 (hval 2 3 v2 rfl rfl) h2;clear hA0 hval0;have h0k:=h0;obtain ⟨fuel,hf⟩:=h0;have hlt:∀x∈p0,x.block<W.heap.size:=fun x hx=>by
  have:=hW'.lt x (by simp [hx]);simpa using this
 have hargs:∀(W':World),Below W.heap.size W W'→DataW.Trod enc Try.prog W' 0 (fun b=>decide (b<W.heap.size)) true 56 (.slice a0 len0 cap0) d0 p0:=
  fun W' hn=>Below.trod Try.laidOut (by kernel_rfl) (of_decide_eq_true (by kernel_rfl)) h0k hn hlt
 have hfit:Fit Try.prog 56 d0:=fun n hn=>by
  have hh:=List.all_eq_true.1 hsz n (DataW.weights_mem_each (j:=0) (t:=56) (d:=d0) rfl rfl n hn);simpa using hh
 obtain ⟨nl,n,z,⟨po,cap,hv,hc,_,_,hb,hs⟩,_⟩:=open_z Try.underlying56 c_int64 (by omega) y_int64 (num1 Try.underlying2) (by simpa [Value.cells] using hf) hfit;simp only [Value.slice.injEq] at hv;obtain ⟨rfl,rfl,rfl⟩:=hv;rw [Nat.mul_one] at hs;have bd:∀n:Int,(Lit.int .i64 n).wf=true→-9223372036854775808≤n∧n≤9223372036854775807:=fun n h=>by
  have h':(decide (-9223372036854775808≤n) && decide (n≤9223372036854775807))=true:=h;simpa using h'
 exact Mute.CallsR.good (Post:=fun v W'=>Rows.relayedSpec.post enc Try.prog Try.f5 false true false false W #[.slice a0 len0 cap0,.int .i64 n1,.int .i64 n2] v W') (Mute.rel_calls a0 len0 cap0 z n1 n2 (bd n1 w1) (bd n2 w2) W hs (by omega)) (by kernel_rfl) (fun v w' d hR=>by
  obtain ⟨rfl,hB⟩:=hR;have hnx:Below W.heap.size W (w'.at d):=⟨hB.os,hB.tape,hB.output,hB.size,hB.block⟩;refine ⟨_,_,_,[],_,[],hW',?_,trodAll_mk3 (hargs _ hnx) (shut_int Try.underlying3 w1) (shut_int Try.underlying3 w2),rfl,hnx.frame _,fun h=>by cases h⟩;exact trodAll_mk1 (shut_bool Try.underlying4 true))
theorem rel_holds:Rows.RelayedSaid:=
 OpenClaim.holds_of_wide_leaving 5 Try.f5 rfl rfl rfl rfl rfl rfl rfl ⟨rfl,rfl,rfl,rfl,rfl⟩ rfl rfl rfl rfl rfl (by kernel_rfl) Try.func5 (by kernel_rfl)
  (of_decide_eq_true (by kernel_rfl)) (by unfold Func.isWrapper;first|(rw [if_pos (by decide +kernel)];kernel_rfl)|(rw [if_neg (by decide +kernel)];exact ⟨rfl,rfl⟩))
  (fun os started H enc _=>rel_lifted os started H enc)
#print axioms rel_holds
end Go.Proofs.Ytdoghgnifkgfdaa
