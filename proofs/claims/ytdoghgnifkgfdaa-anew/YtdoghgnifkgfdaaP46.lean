/-
  For every three numbers Anew answers true, whatever the schedule, without a data race; no condition beyond the form's own.
-/
import Derived.Test.YtdoghgnifkgfdaaRows
import Derived.Conc.LeavingOf
import Derived.Conc.Holds
import Derived.Test.YtdoghgnifkgfdaaP44
import Derived.Test.YtdoghgnifkgfdaaP45
set_option maxRecDepth 100000
set_option maxHeartbeats 16000000
namespace Go.Proofs.Ytdoghgnifkgfdaa
open Go.ChangeShapes Go.WideShapes Go.ChangeAt Go.RowKit Go.Conc
theorem Try.own:ownKnob Try.prog.godebug=Option.none:=by kernel_rfl
theorem anew_lifted (os:Os) (started:os.Started) (H:Type) (enc:TypeId×Value→H):
  ReturnsInLeavingWide {} Try.checked os 6 .any (Rows.anewSpec.pre6 enc Try.prog Try.f6 Rows.anewRow.domain false) (Rows.anewSpec.post enc Try.prog Try.f6 false true false false):=by
 refine returnsInLeavingWide_of_change_sized (C:=Try.checked) Try.own started Try.func6
  (ChangeSpec.witness6 (enc:=enc) (C:=Try.checked) false ⟨#[],#[.int .i64 0,.int .i64 0,.int .i64 0],[]⟩ 8 (by kernel_rfl) (by kernel_rfl) (by kernel_rfl) (by kernel_rfl)) ?_
 intro W base args ds gs before hval0 hW _ _ _;have hval:∀(j:Nat) t v,Try.f6.params[j]?=some t→args[j]?=some v→Value.okWide Try.prog W .any base t v:=hval0;have hW':=hW;obtain ⟨p,q,hA0,hV,rfl,_,_⟩:=hW;have hA:DataW.TrodAll enc Try.prog W 0 (fun _=>true) true Try.f6.params.toList args.toList ds p:=hA0;rw [Try.params6] at hA hval;obtain ⟨v0,v1,v2,d0,d1,d2,p0,p1,p2,rfl,rfl,rfl,h0,h1,h2⟩:=trodAll_three hA;obtain ⟨rfl,rfl⟩:=trodVars_none hV;obtain ⟨n0,rfl,rfl,rfl,w0⟩:=open_int Try.underlying3 (hval 0 3 v0 rfl rfl) h0;obtain ⟨n1,rfl,rfl,rfl,w1⟩:=open_int Try.underlying3 (hval 1 3 v1 rfl rfl) h1;obtain ⟨n2,rfl,rfl,rfl,w2⟩:=open_int Try.underlying3 (hval 2 3 v2 rfl rfl) h2;clear hA0 hval0;have bd:∀n:Int,(Lit.int .i64 n).wf=true→-9223372036854775808≤n∧n≤9223372036854775807:=fun n h=>by
  have h':(decide (-9223372036854775808≤n) && decide (n≤9223372036854775807))=true:=h;simpa using h'
 exact Mute.CallsR.good (Post:=fun v W'=>Rows.anewSpec.post enc Try.prog Try.f6 false true false false W #[.int .i64 n0,.int .i64 n1,.int .i64 n2] v W') (Mute.anew_calls n0 n1 n2 (bd n0 w0) (bd n1 w1) (bd n2 w2) W) (by kernel_rfl) (fun v w' d hR=>by
  obtain ⟨rfl,hB⟩:=hR;have hnx:Below W.heap.size W (w'.at d):=⟨hB.os,hB.tape,hB.output,hB.size,hB.block⟩;refine ⟨_,_,_,[],[],[],hW',?_,trodAll_mk3 (shut_int Try.underlying3 w0) (shut_int Try.underlying3 w1) (shut_int Try.underlying3 w2),rfl,hnx.frame _,fun h=>by cases h⟩;exact trodAll_mk1 (shut_bool Try.underlying4 true))
theorem anew_holds:Rows.AnewSaid:=
 OpenClaim.holds_of_wide_leaving 6 Try.f6 rfl rfl rfl rfl rfl rfl rfl ⟨rfl,rfl,rfl,rfl,rfl⟩ rfl rfl rfl rfl rfl (by kernel_rfl) Try.func6 (by kernel_rfl)
  (of_decide_eq_true (by kernel_rfl)) (by unfold Func.isWrapper;first|(rw [if_pos (by decide +kernel)];kernel_rfl)|(rw [if_neg (by decide +kernel)];exact ⟨rfl,rfl⟩))
  (fun os started H enc _=>anew_lifted os started H enc)
#print axioms anew_holds
end Go.Proofs.Ytdoghgnifkgfdaa
