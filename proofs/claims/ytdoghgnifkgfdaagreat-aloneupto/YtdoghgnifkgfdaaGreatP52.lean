/-
  For every script that holds, all told, at most 1048576 values, Alone answers true, whatever the schedule, without a data race; the script reads as it did.
-/
import Derived.Test.YtdoghgnifkgfdaaGreatRows
import Derived.JoinedCond
import Derived.SizedLaws
import Derived.Test.YtdoghgnifkgfdaaGreatP50
import Derived.Test.YtdoghgnifkgfdaaGreatP51
set_option maxRecDepth 100000
set_option maxHeartbeats 4000000
namespace Go.Proofs.YtdoghgnifkgfdaaGreat
open Go.ChangeShapes Go.WideShapes Go.ChangeAt Go.RowKit Go.Conc
theorem Tryz.own:ownKnob Tryz.prog.godebug=Option.none:=by kernel_rfl
theorem Tryz.laidOut:laidOutB Tryz.prog=true:=by kernel_rfl
theorem Y6w (os:Os) (started:os.Started) (H:Type) (enc:TypeId×Value→H) (F:Stop.Interp):
  ReturnsInLeavingWide {} Tryz.checked os 3 .any ((Rows.OpenSpec.upto Rows.aloneSpec).pre6 enc Tryz.prog Tryz.f3 Rows.aloneUptoRow.domain false) (((Rows.OpenSpec.upto Rows.aloneSpec).at F).post enc Tryz.prog Tryz.f3 false true false false):=by
 refine returnsInLeavingWide_of_good (C:=Tryz.checked) Tryz.own started
  (OpenSpec.witness (enc:=enc) (C:=Tryz.checked) (s:=Rows.OpenSpec.upto Rows.aloneSpec) (k:=Rows.uptoSmall) rfl false ⟨#[],#[.slice Option.none 0 0],[]⟩ 8 (by kernel_rfl) (by kernel_rfl) (by kernel_rfl) (x:=([.nil],[],[])) (by kernel_rfl) rfl (by kernel_rfl)) ?_
 intro w tape i _ _ _ hok hpre _;obtain ⟨_,_,_,fn',hfn',_,_,_,_,hval0⟩:=hok;obtain rfl:fn'=Tryz.f3:=Option.some.inj (hfn'.symm.trans Tryz.func3);obtain ⟨ds,gs,before,hw0,_,hkk⟩:=(OpenSpec.pre_some (s:=Rows.OpenSpec.upto Rows.aloneSpec) (k:=Rows.uptoSmall) rfl _ _ _ _).1 hpre.1;have hsz:(DataW.weightsEach Tryz.prog (Tryz.f3.params.toList++(Rows.OpenSpec.upto Rows.aloneSpec).bare.plain.varTypes Tryz.prog) (ds++gs)).all (·≤reachBytes)=true:=hpre.2.weights hw0;have hW:DataW.Whole enc Tryz.prog Tryz.f3.params.toList [] false (w.forCall tape i) i.args.toList ds gs before:=DataW.Whole.of_heap (w':=w.forCall tape i) (by rfl) hw0;have hval:∀(j:Nat) t v,Tryz.f3.params[j]?=some t→i.args[j]?=some v→Value.okWide Tryz.prog (w.forCall tape i) .any w.heap.size t v:=hval0;clear hw0 hval0 hpre;generalize w.forCall tape i=W at *;generalize i.args=args at *;have hW':=hW;obtain ⟨p,q,hA0,hV,rfl,_,_⟩:=hW;have hA:DataW.TrodAll enc Tryz.prog W 0 (fun _=>true) true Tryz.f3.params.toList args.toList ds p:=hA0;rw [Tryz.params3] at hA hval hsz;obtain ⟨v0,d0,rfl,rfl,h0⟩:=trodAll_one hA;obtain ⟨rfl,rfl⟩:=trodVars_none hV;obtain ⟨a0,len0,cap0,rfl⟩:=okWide_slice Tryz.underlying22 (hval 0 22 v0 rfl rfl);have h0k:=h0;obtain ⟨fuel,hf⟩:=h0;clear hA0;simp only [List.append_nil] at hW';have hlt:∀x∈p,x.block<W.heap.size:=fun x hx=>by simpa using hW'.lt x hx
 have hargs:∀(W':World),Below W.heap.size W W'→DataW.Trod enc Tryz.prog W' 0 (fun b=>decide (b<W.heap.size)) true 22 (.slice a0 len0 cap0) d0 p:=
  fun W' hn=>Below.trod Tryz.laidOut (by kernel_rfl) (of_decide_eq_true (by kernel_rfl)) h0k hn hlt
 have hfit:Fit Tryz.prog 22 d0:=fun n hn=>by
  have hh:=List.all_eq_true.1 hsz n (DataW.weights_mem_each (j:=0) (t:=22) (d:=d0) rfl rfl n hn);simpa using hh
 obtain ⟨po,n,cap,o,hv,hb,hs,hin⟩:=Mute.open_ops (by simpa [Value.cells] using hf) hfit;simp only [Value.slice.injEq] at hv;obtain ⟨rfl,rfl,rfl⟩:=hv;have hn:len0≤1048576:=by
  have hk:=of_decide_eq_true hkk;simp only [List.append_nil,Rows.uptoBulkAll] at hk;have hb':len0≤Rows.uptoBulk d0:=hb;omega
 obtain ⟨M,last,oc,w',t',r1,r2,r3,r4⟩:=Mute.CallsR.good (Post:=fun v W'=>((Rows.OpenSpec.upto Rows.aloneSpec).at F).post enc Tryz.prog Tryz.f3 false true false false W #[.slice a0 len0 cap0] v W') (Mute.alone_calls W a0 len0 cap0 o hn hs hin) (by kernel_rfl) (fun v w' d hR=>by
  obtain ⟨rfl,hB⟩:=hR;have hnx:Below W.heap.size W (w'.at d):=⟨hB.os,hB.tape,hB.output,hB.size,hB.block⟩;refine ⟨_,_,_,[],p,[],hW',?_,trodAll_mk1 (hargs _ hnx),rfl,hnx.frame _,fun h=>by cases h⟩;exact trodAll_mk1 (shut_bool Tryz.underlying4 true))
 exact ⟨M,last,oc,w',t',r1,r2,r3,r4.mono fun v hp=>ChangeSpec.post_blind hp⟩
theorem alone_upto:Rows.AloneUptoSaid:=by
 have hkn:Tryz.prog.stopKnobs=[]:=by kernel_rfl
 have hall:∀t∈Tryz.f3.params,Tryz.prog.readableRec t=true:=fun t ht=>by
  obtain rfl:t=22:=by simpa [Tryz.params3] using ht
  kernel_rfl
 have hres:∀t∈Tryz.f3.resultTypes,Tryz.prog.readableRec t=true∧t<Tryz.prog.types.size:=fun t ht=>by
  have ht':t∈#[4]:=ht;obtain rfl:t=4:=by simpa using ht'
  exact ⟨by kernel_rfl,of_decide_eq_true (by kernel_rfl)⟩
 refine ⟨by kernel_rfl,rfl,rfl,rfl,by kernel_rfl,by kernel_rfl,show Tryz.prog.mayEnter=true by kernel_rfl,⟨rfl,rfl,rfl,rfl,rfl,rfl,rfl⟩,3,Tryz.f3,by kernel_rfl,Tryz.func3,⟨hall,hres⟩,(fun h=>by cases h),by kernel_rfl,of_decide_eq_true (by kernel_rfl),
  (by unfold Func.isWrapper;first|(rw [if_pos (by decide +kernel)];kernel_rfl)|(rw [if_neg (by decide +kernel)];exact ⟨rfl,rfl⟩)),by kernel_rfl,⟨by kernel_rfl,by kernel_rfl,by kernel_rfl⟩,by kernel_rfl,by kernel_rfl,by kernel_rfl,by kernel_rfl,by kernel_rfl,⟨by kernel_rfl,by kernel_rfl,by kernel_rfl⟩,⟨by kernel_rfl,by kernel_rfl⟩,⟨by kernel_rfl,by kernel_rfl,by kernel_rfl,by kernel_rfl⟩,⟨by kernel_rfl,by kernel_rfl,by kernel_rfl,by kernel_rfl⟩,rfl,(fun n hn=>by cases hn),
  ⟨_,WideRow.started_initial,fun k hk=>by
   have hk':k∈Tryz.prog.stopKnobs:=hk;rw [hkn] at hk';cases hk'⟩,[],rfl,fun os st _ H enc _=>?_⟩
 rw [OpenClaim.post_not_still rfl,OpenClaim.pre_of_none' rfl];intro F;exact Y6w os st H enc F (by kernel_rfl)
#print axioms alone_upto
end Go.Proofs.YtdoghgnifkgfdaaGreat
