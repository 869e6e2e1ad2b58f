/-
  For every two plans, every number and every two lists of shots Unseen answers true, whatever the schedule, without a data race; what came in reads as it did. No condition beyond the form's own.
-/
import Derived.Test.YtdoghgnifkgfdaaGreatRows
import Derived.Conc.LeavingOf
import Derived.Conc.Holds
import Derived.Test.YtdoghgnifkgfdaaGreatP08
import Derived.Test.YtdoghgnifkgfdaaGreatP52
import Derived.Test.YtdoghgnifkgfdaaGreatP53
set_option maxRecDepth 100000
set_option maxHeartbeats 16000000
namespace Go.Proofs.YtdoghgnifkgfdaaGreat
open Go.ChangeShapes Go.WideShapes Go.ChangeAt Go.RowKit Go.Conc
theorem Tryz.own:ownKnob Tryz.prog.godebug=Option.none:=by kernel_rfl
theorem Tryz.laidOut:laidOutB Tryz.prog=true:=by kernel_rfl
section
variable {H:Type} {enc:TypeId×Value→H} {P:Program} {w:World} {base:Nat} {spare:Nat→Bool} {held:Bool}
theorem Yex {t t' t'' t3 t4:TypeId} {args:Array Value} {ds:List (DataW H)} {ps:List MemPlace} (h:DataW.TrodAll enc P w base spare held [t,t',t'',t3,t4] args.toList ds ps):
  ∃v v' v'' v3 v4 d d' d'' d3 d4 p p' p'' p3 p4,args=#[v,v',v'',v3,v4]∧ds=[d,d',d'',d3,d4]∧ps=p++(p'++(p''++(p3++p4)))∧DataW.Trod enc P w base spare held t v d p∧DataW.Trod enc P w base spare held t' v' d' p'∧DataW.Trod enc P w base spare held t'' v'' d'' p''∧DataW.Trod enc P w base spare held t3 v3 d3 p3∧DataW.Trod enc P w base spare held t4 v4 d4 p4:=by
 obtain ⟨v,vs,d,ds0,p,q,hargs,rfl,rfl,hd,hrest⟩:=trodAll_cons h;obtain ⟨v',vs',d',ds1,p',q',rfl,rfl,rfl,hd',hrest'⟩:=trodAll_cons hrest;obtain ⟨v'',vs'',d'',ds2,p'',q'',rfl,rfl,rfl,hd'',hrest''⟩:=trodAll_cons hrest';obtain ⟨v3,vs3,d3,ds3,p3,q3,rfl,rfl,rfl,hd3,hrest3⟩:=trodAll_cons hrest'';obtain ⟨v4,vs4,d4,ds4,p4,q4,rfl,rfl,rfl,hd4,hrest4⟩:=trodAll_cons hrest3;obtain ⟨rfl,rfl,rfl⟩:=trodAll_nil hrest4;exact ⟨v,v',v'',v3,v4,d,d',d'',d3,d4,p,p',p'',p3,p4,by cases args;simp_all,rfl,by simp,hd,hd',hd'',hd3,hd4⟩
end
theorem Yff (os:Os) (started:os.Started) (H:Type) (enc:TypeId×Value→H):
  ReturnsInLeavingWide {} Tryz.checked os 5 .any (Rows.unseenSpec.pre6 enc Tryz.prog Tryz.f5 Rows.unseenRow.domain false) (Rows.unseenSpec.post enc Tryz.prog Tryz.f5 false true false false):=by
 refine returnsInLeavingWide_of_change_sized (C:=Tryz.checked) Tryz.own started Tryz.func5
  (ChangeSpec.witness6 (enc:=enc) (C:=Tryz.checked) false ⟨#[],#[.agg #[.slice Option.none 0 0,.slice Option.none 0 0,.slice Option.none 0 0,.slice Option.none 0 0,.int .i64 0,.int .i64 0,.int .i64 0,.int .i64 0,.int .i64 0,.int .i64 0,.int .i64 0,.int .i64 0,.slice Option.none 0 0,.slice Option.none 0 0],.agg #[.slice Option.none 0 0,.slice Option.none 0 0,.slice Option.none 0 0,.slice Option.none 0 0,.int .i64 0,.int .i64 0,.int .i64 0,.int .i64 0,.int .i64 0,.int .i64 0,.int .i64 0,.int .i64 0,.slice Option.none 0 0,.slice Option.none 0 0],.int .i64 0,.slice Option.none 0 0,.slice Option.none 0 0],[]⟩ 12 (by kernel_rfl) (by kernel_rfl) (by kernel_rfl) (by kernel_rfl)) ?_
 intro W base args ds gs before hval0 hW _ hsz0 _;have hsz:(DataW.weightsEach Tryz.prog (Tryz.f5.params.toList++Rows.unseenSpec.plain.varTypes Tryz.prog) (ds++gs)).all (·≤reachBytes)=true:=hsz0;clear hsz0;have hval:∀(j:Nat) t v,Tryz.f5.params[j]?=some t→args[j]?=some v→Value.okWide Tryz.prog W .any base t v:=hval0;have hW':=hW;obtain ⟨p,q,hA0,hV,rfl,_,_⟩:=hW;have hA:DataW.TrodAll enc Tryz.prog W 0 (fun _=>true) true Tryz.f5.params.toList args.toList ds p:=hA0;rw [Tryz.params5] at hA hval hsz;obtain ⟨v0,v1,v2,v3,v4,d0,d1,d2,d3,d4,p0,p1,p2,p3,p4,rfl,rfl,rfl,h0,h1,h2,h3,h4⟩:=Yex hA;obtain ⟨rfl,rfl⟩:=trodVars_none hV;obtain ⟨cs0,rfl,z0⟩:=okWide_struct Tryz.underlying39 (hval 0 39 v0 rfl rfl);obtain ⟨cs1,rfl,z1⟩:=okWide_struct Tryz.underlying39 (hval 1 39 v1 rfl rfl);obtain ⟨n2,rfl,rfl,rfl,w2⟩:=open_int Tryz.underlying3 (hval 2 3 v2 rfl rfl) h2;obtain ⟨a3,len3,cap3,rfl⟩:=okWide_slice Tryz.underlying40 (hval 3 40 v3 rfl rfl);obtain ⟨a4,len4,cap4,rfl⟩:=okWide_slice Tryz.underlying40 (hval 4 40 v4 rfl rfl);rw [Mute.c_plan] at z0 z1;clear hA0 hval0;have hlt:∀x,x∈p0∨x∈p1∨x∈p3∨x∈p4→x.block<W.heap.size:=fun x hx=>by
  have:=hW'.lt x (by simp;rcases hx with hx|hx|hx|hx<;>simp [hx]);simpa using this
 have k0:∀(W':World),Below W.heap.size W W'→DataW.Trod enc Tryz.prog W' 0 (fun b=>decide (b<W.heap.size)) true 39 (.agg cs0) d0 p0:=
  fun W' hn=>Below.trod Tryz.laidOut (by kernel_rfl) (of_decide_eq_true (by kernel_rfl)) h0 hn fun x hx=>hlt x (.inl hx)
 have k1:∀(W':World),Below W.heap.size W W'→DataW.Trod enc Tryz.prog W' 0 (fun b=>decide (b<W.heap.size)) true 39 (.agg cs1) d1 p1:=
  fun W' hn=>Below.trod Tryz.laidOut (by kernel_rfl) (of_decide_eq_true (by kernel_rfl)) h1 hn fun x hx=>hlt x (.inr (.inl hx))
 have k3:∀(W':World),Below W.heap.size W W'→DataW.Trod enc Tryz.prog W' 0 (fun b=>decide (b<W.heap.size)) true 40 (.slice a3 len3 cap3) d3 p3:=
  fun W' hn=>Below.trod Tryz.laidOut (by kernel_rfl) (of_decide_eq_true (by kernel_rfl)) h3 hn fun x hx=>hlt x (.inr (.inr (.inl hx)))
 have k4:∀(W':World),Below W.heap.size W W'→DataW.Trod enc Tryz.prog W' 0 (fun b=>decide (b<W.heap.size)) true 40 (.slice a4 len4 cap4) d4 p4:=
  fun W' hn=>Below.trod Tryz.laidOut (by kernel_rfl) (of_decide_eq_true (by kernel_rfl)) h4 hn fun x hx=>hlt x (.inr (.inr (.inr hx)))
 have hfit0:Fit Tryz.prog 39 d0:=fun n hn=>by
  have hh:=List.all_eq_true.1 hsz n (DataW.weights_mem_each (j:=0) (t:=39) (d:=d0) rfl rfl n hn);simpa using hh
 have hfit1:Fit Tryz.prog 39 d1:=fun n hn=>by
  have hh:=List.all_eq_true.1 hsz n (DataW.weights_mem_each (j:=1) (t:=39) (d:=d1) rfl rfl n hn);simpa using hh
 have hfit3:Fit Tryz.prog 40 d3:=fun n hn=>by
  have hh:=List.all_eq_true.1 hsz n (DataW.weights_mem_each (j:=3) (t:=40) (d:=d3) rfl rfl n hn);simpa using hh
 have hfit4:Fit Tryz.prog 40 d4:=fun n hn=>by
  have hh:=List.all_eq_true.1 hsz n (DataW.weights_mem_each (j:=4) (t:=40) (d:=d4) rfl rfl n hn);simpa using hh
 obtain ⟨A1,K1,P,e0,hP⟩:=Mute.open_planV z0 h0 hfit0;obtain ⟨A2,K2,Q,e1,hQ⟩:=Mute.open_planV z1 h1 hfit1;obtain ⟨fuel,hf⟩:=h3;obtain ⟨q3,c3,S,e3,hS⟩:=Mute.open_shots (by simpa [Value.cells] using hf) hfit3;simp only [Value.slice.injEq] at e3;obtain ⟨rfl,rfl,rfl⟩:=e3;obtain ⟨fuel4,hf4⟩:=h4;obtain ⟨q4,c4,S4,e4,hS4⟩:=Mute.open_shots (by simpa [Value.cells] using hf4) hfit4;simp only [Value.slice.injEq] at e4;obtain ⟨rfl,rfl,rfl⟩:=e4;have bd:-9223372036854775808≤n2∧n2≤9223372036854775807:=by
  have h':(decide (-9223372036854775808≤n2) && decide (n2≤9223372036854775807))=true:=w2;simpa using h'
 have hcalls:=Mute.unseen_calls A1 A2 K1 K2 P Q S S4 a3 a4 cap3 cap4 n2 bd W hP hQ hS hS4;rw [←e0,←e1] at hcalls;exact Mute.CallsR.good (Post:=fun v W'=>Rows.unseenSpec.post enc Tryz.prog Tryz.f5 false true false false W #[.agg cs0,.agg cs1,.int .i64 n2,.slice a3 S.n cap3,.slice a4 S4.n cap4] v W') hcalls (by kernel_rfl) (fun v w' d hR=>by
  obtain ⟨rfl,hB⟩:=hR;have hnx:Below W.heap.size W (w'.at d):=⟨hB.os,hB.tape,hB.output,hB.size,hB.block⟩;refine ⟨_,_,_,[],_,[],hW',?_,trodAll_cons_mk (k0 _ hnx) (trodAll_mk4 (k1 _ hnx) (shut_int Tryz.underlying3 w2) (k3 _ hnx) (k4 _ hnx)),rfl,hnx.frame _,fun h=>by cases h⟩;exact trodAll_mk1 (shut_bool Tryz.underlying4 true))
theorem unseen_holds:Rows.UnseenSaid:=
 OpenClaim.holds_of_wide_leaving 5 Tryz.f5 rfl rfl rfl rfl rfl rfl rfl ⟨rfl,rfl,rfl,rfl,rfl⟩ rfl rfl rfl rfl rfl (by kernel_rfl) Tryz.func5 (by kernel_rfl)
  (of_decide_eq_true (by kernel_rfl)) (by unfold Func.isWrapper;first|(rw [if_pos (by decide +kernel)];kernel_rfl)|(rw [if_neg (by decide +kernel)];exact ⟨rfl,rfl⟩))
  (fun os started H enc _=>Yff os started H enc)
#print axioms unseen_holds
end Go.Proofs.YtdoghgnifkgfdaaGreat
