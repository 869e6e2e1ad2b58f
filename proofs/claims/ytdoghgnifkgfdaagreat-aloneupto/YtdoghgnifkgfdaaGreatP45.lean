import Derived.Test.YtdoghgnifkgfdaaGreatP44
set_option maxRecDepth 100000
set_option maxHeartbeats 4000000
namespace Go.Proofs.YtdoghgnifkgfdaaGreat.Mute
open Go Go.Conc Go.RowKit
section
variable {w:World} {k:Ker} {r:RK} {t t':Tab} {to_ fr rr il ic:Nat} {s:KSt} {f vs:Nat→Value} {S S':Nat→Prop} {lp:Option Addr} {zi:Nat→Int}
theorem Y55 (hKF:X8 w k t s f rr S) (hRF:YZ w k r t' to_ s vs fr S') (hd:∀b,S b→S' b→False) (h0:il=0) (hfr:fr≤1000000000000) (hm:∀i,s.m i+1600≤1000000000):
  CallsR Tryz.prog 21 #[.pointer (some ⟨k.kb,0,none⟩),.pointer (some ⟨r.Kb,0,none⟩),.slice none il ic] w (fun v w'=>v=.bool true∧∃f' vs' SK SR,X8 w' k t (rowS k (t.wn rr) (t.nw rr) 0 s) f' ((rr+1) % t.nT) SK∧YZ w' k r t' to_ (rowS k (t'.wn (fr % t'.nT)) (t'.nw (fr % t'.nT)) 0 s) vs' (fr+1) SR∧But (fun b=>S b∨S' b) w w'∧(∀b,SK b→SR b→False)∧(∀b,SK b→S b∨w.heap.size≤b)∧∀b,SR b→S' b∨w.heap.size≤b):=by
 refine CallsR.introT (List.toArray ((.pointer (some ⟨k.kb,0,none⟩))::(.pointer (some ⟨r.Kb,0,none⟩))::(.slice none il ic)::undef::undef::undef::undef::undef::undef::undef::undef::undef::undef::undef::undef::undef::undef::undef::undef::undef::undef::undef::undef::undef::undef::undef::undef::undef::undef::undef::undef::undef::undef::undef::undef::undef::undef::undef::undef::undef::undef::undef::undef::undef::undef::undef::undef::undef::undef::undef::undef::undef::undef::undef::undef::undef::undef::[])) Tryz.func21 (by rfl) (by kernel_rfl) fun cs Post hp=>?_;have hk:(base 21).kind≠.early:=by simp [base]
 refine Y3.of_goes ?_;have hF:=Is.self w;have hil:il≤4:=by omega
 obtain ⟨zi,-⟩:∃z:Nat→Int,z 0=z 0:=⟨fun _=>0,rfl⟩;have hl:Sl w none (il*2) (fun j=>.int .i64 (zi j)):=.inl (by omega);have H0:Hid (il=0):=h0;clear h0;have hsl:(il:Int)≤(il:Int)+2:=by omega
 have heq:=fun W a n c=>Go.Lib.run_eql_slice_nil (P:=Tryz.prog) W 29 59 a n c 0 0 Tryz.underlying29;repeat refine .c1 Y2 rfl ?_
 refine .regionL Y2 [0] (by rfl) ?_;refine .opV Y2 rfl (by rfl) hk ?_;try walk_nrm
 repeat refine .c1 Y2 rfl ?_
 refine .regionL Y2 [0,1,2] (by rfl) ?_;refine .opV Y2 rfl (by rfl) hk ?_;try walk_nrm
 refine .stop rfl fun w4 hR=>?_;obtain ⟨d4,rfl⟩:=hF.rely hR;clear hF hR;refine Y3.call rfl (by rfl) hk (fun d=>?run1) (fun d=>?evs1) (JH (w:=w.at d4) (p:=none) (n:=il) (cap:=ic) (z:=zi) hl (fun _=>H0.out) (by omega)) (fun v wA hv=>?_)
 case run1=>kernel_rfl
 case evs1=>
  rw [listed_nil (by kernel_rfl)];simp
 obtain ⟨rfl,hA1,hA2,hA3⟩:=hv;refine Y3.of_goes ?_;have hF:=Is.self wA;try walk_nrm
 replace hA1:wA.heap.size=w.heap.size+1:=hA1;replace hA2:Below w.heap.size w wA:=⟨hA2.os,hA2.tape,hA2.output,hA2.size,hA2.block⟩;replace hA3:RowF wA w.heap.size ((il+2)*2) 59 (fun j=>.int .i64 (padZ 2 il zi j)):=hA3;have eA:(w.at d4).heap.size=w.heap.size:=rfl;rw [eA];clear eA;refine .opV Y2 rfl (by rfl) hk ?_;try walk_nrm
 repeat refine .c1 Y2 rfl ?_
 refine .regionL Y2 [0,1,2,3,4] (by rfl) ?_;iterate 3 (refine .opV Y2 rfl (by rfl) hk ?_;try walk_nrm)
 refine .op rfl (by rfl) hk fun w1 hR K hK=>?_;replace hF:=hF.rely hR;clear hR;go_simp;try (unfold stored;go_simp)
 refine hK _ _ ⟨?_,?_⟩
 ·exact Yw plain (Yi plain Tryz.func21 (by kernel_rfl) _) (by kernel_rfl) _
 clear hK K;try walk_nrm
 refine .opV Y2 rfl (by rfl) hk ?_;try walk_nrm
 repeat refine .c1 Y2 rfl ?_
 refine .regionL Y2 [0,1] (by rfl) ?_;refine .opV Y2 rfl (by rfl) hk ?_;try walk_nrm
 refine .op rfl (by rfl) hk fun w1 hR K hK=>?_;replace hF:=hF.rely hR;clear hR;have hq:=heq w1 none il ic;go_simp;try (unfold stored;go_simp)
 refine hK _ _ ⟨?_,?_⟩
 ·exact Yw plain (Yi plain Tryz.func21 (by kernel_rfl) _) (by kernel_rfl) _
 clear hK K;try walk_nrm
 repeat refine .c1 Y2 rfl ?_
 refine Y1.condT Y2 (by first|rfl|simp [Act.eval]) ?_;repeat refine .c1 Y2 rfl ?_
 refine .regionL Y2 [0] (by rfl) ?_;refine .opV Y2 rfl (by rfl) hk ?_;try walk_nrm
 repeat refine .c1 Y2 rfl ?_
 refine .regionL Y2 [0,1,2,3] (by rfl) ?_;iterate 2 (refine .opV Y2 rfl (by rfl) hk ?_;try walk_nrm)
 have hKA:=hKF.keep (w':=wA) (fun b hb=>hA2.block b (hKF.sz b hb)) hA2.size;have hRA:=hRF.keep (w':=wA) (fun b hb=>hA2.block b (hRF.sz b hb)) hA2.size;refine .stop rfl fun w4 hR=>?_;obtain ⟨d4,rfl⟩:=hF.rely hR;clear hF hR;refine Y3.call rfl (by rfl) hk (fun d=>?run2) (fun d=>?evs2) ((hKA.keep (w':=wA.at d4) (fun _ _=>rfl) (Nat.le_refl _)).frame (fun i=>by have:=hm i;omega) none (il:=0) (ic:=0) (by omega)) (fun v wB hv=>?_)
 case run2=>kernel_rfl
 case evs2=>
  rw [listed_nil (by kernel_rfl)];simp
 obtain ⟨rfl,f1,hKB,hBB⟩:=hv;refine Y3.of_goes ?_;have hF:=Is.self wB;try walk_nrm
 refine .opV Y2 rfl (by rfl) hk ?_;try walk_nrm
 replace hBB:But S wA wB:=⟨hBB.os,hBB.tape,hBB.output,hBB.size,hBB.block⟩;have hRB:=hRA.keep (w':=wB) (fun b hb=>hBB.block b (hRA.sz b hb) (fun hs=>hd b hs hb)) hBB.size;have hlB:Sl wB none (il*2) (fun j=>.int .i64 (zi j)):=.inl (by have:=H0.out;omega);have hKb:il=0∨∀b o,(none:Option Addr)=some ⟨b,o,none⟩→b≠r.Kb:=.inl H0.out;repeat refine .c1 Y2 rfl ?_
 refine .regionL Y2 [0,1,2,3] (by rfl) ?_;iterate 2 (refine .opV Y2 rfl (by rfl) hk ?_;try walk_nrm)
 refine .stop rfl fun w4 hR=>?_;obtain ⟨d4,rfl⟩:=hF.rely hR;clear hF hR;refine Y3.call rfl (by rfl) hk (fun d=>?run3) (fun d=>?evs3) ((hRB.keep (w':=wB.at d4) (fun _ _=>rfl) (Nat.le_refl _)).calls (ic:=ic) hfr hm hlB hKb hil) (fun v wC hv=>?_)
 case run3=>kernel_rfl
 case evs3=>
  rw [listed_nil (by kernel_rfl)];simp
 obtain ⟨rfl,vs1,hRC,hBC⟩:=hv;refine Y3.of_goes ?_;have hF:=Is.self wC;try walk_nrm
 replace hBC:But S' wB wC:=⟨hBC.os,hBC.tape,hBC.output,hBC.size,hBC.block⟩;have hlC:Sl wC none (il*2) (fun j=>.int .i64 (zi j)):=.inl (by have:=H0.out;omega);refine .opV Y2 rfl (by rfl) hk ?_;try walk_nrm
 repeat refine .c1 Y2 rfl ?_
 refine .regionL Y2 [0,1,2,3,4] (by rfl) ?_;refine .opV Y2 rfl (by rfl) hk ?_;try walk_nrm
 refine .stop rfl fun w4 hR=>?_;obtain ⟨d4,rfl⟩:=hF.rely hR;clear hF hR;refine Y3.call rfl (by rfl) hk (fun d=>?run4) (fun d=>?evs4) (Y1c 0 (wC.at d4)) (fun v wC2 hv=>?_)
 case run4=>kernel_rfl
 case evs4=>
  rw [listed_nil (by kernel_rfl)];simp
 obtain ⟨rfl,hIs⟩:=hv;refine Y3.of_goes ?_;have hF:=Is.self wC2;try walk_nrm
 obtain ⟨d5,rfl⟩:=hIs;replace hF:Is wC ((wC.at d4).at d5):=⟨d5,rfl⟩;iterate 3 (refine .opV Y2 rfl (by rfl) hk ?_;try walk_nrm)
 repeat refine .c1 Y2 rfl ?_
 refine .regionL Y2 [0,1,2] (by rfl) ?_;refine .opV Y2 rfl (by rfl) hk ?_;try walk_nrm
 refine .stop rfl fun w4 hR=>?_;obtain ⟨d4,rfl⟩:=hF.rely hR;clear hF hR;refine Y3.call rfl (by rfl) hk (fun d=>?run5) (fun d=>?evs5) (JH (w:=wC.at d4) (p:=none) (n:=il) (cap:=ic) (z:=zi) hlC (fun _=>H0.out) (by omega)) (fun v wD hv=>?_)
 case run5=>kernel_rfl
 case evs5=>
  rw [listed_nil (by kernel_rfl)];simp
 obtain ⟨rfl,hD1,hD2,hD3⟩:=hv;refine Y3.of_goes ?_;have hF:=Is.self wD;try walk_nrm
 replace hD1:wD.heap.size=wC.heap.size+1:=hD1;replace hD2:Below wC.heap.size wC wD:=⟨hD2.os,hD2.tape,hD2.output,hD2.size,hD2.block⟩;replace hD3:RowF wD wC.heap.size ((il+2)*2) 59 (fun j=>.int .i64 (padZ 2 il zi j)):=hD3;have eD:(wC.at d4).heap.size=wC.heap.size:=rfl;rw [eD];clear eD;refine .opV Y2 rfl (by rfl) hk ?_;try walk_nrm
 refine Y1.regionEnd Y2 ?_;refine Y1.seq Y2 ?_;refine .stop rfl fun w9 hR=>?_;obtain ⟨d9,rfl⟩:=hF.rely hR;clear hF hR;have hAw:∀b,S b→b<w.heap.size:=hKF.sz;have hAw':∀b,S' b→b<w.heap.size:=hRF.sz;have hAD:RowF wD w.heap.size ((il+2)*2) 59 (fun j=>.int .i64 (padZ 2 il zi j)):=((hA3.of_heap (hBB.block _ hA3.lt (fun h=>by have:=hAw _ h;omega))).of_heap (hBC.block _ (Nat.lt_of_lt_of_le hA3.lt hBB.size) (fun h=>by have:=hAw' _ h;omega))).below hD2 (Nat.lt_of_lt_of_le (Nat.lt_of_lt_of_le hA3.lt hBB.size) hBC.size);have hne:w.heap.size≠wC.heap.size:=by have:=hBB.size;have:=hBC.size;omega
 refine Y3.piece plain Y08 (Qn:=fun a' w'=>a'.tmps.size=57∧a'.tmps.getD 11 undef=.bool true∧a'.defers=[]∧(w'.os=wD.os∧w'.output=wD.output∧wD.heap.size≤w'.heap.size∧∀b,b<wD.heap.size→b≠w.heap.size→w'.heap[b]?=wD.heap[b]?)) (by kernel_rfl) (by kernel_rfl) ⟨_,Tryz.func21⟩ rfl (Yi plain Tryz.func21 (by kernel_rfl) _) rfl (fun τ=>?wp) (fun a' w' τ' d' d hq=>?post)
 case wp=>
  have HA0:Hid (RowF (reW (wD.at d9) τ 0) w.heap.size ((il+2)*2) 59 (fun j=>.int .i64 (padZ 2 il zi j))):=hAD;have HD0:Hid (RowF (reW (wD.at d9) τ 0) wC.heap.size ((il+2)*2) 59 (fun j=>.int .i64 (padZ 2 il zi j))):=hD3;have HE0:Hid ((reW (wD.at d9) τ 0).os=wD.os∧(reW (wD.at d9) τ 0).output=wD.output∧wD.heap.size≤(reW (wD.at d9) τ 0).heap.size∧∀b,b<wD.heap.size→b≠w.heap.size→(reW (wD.at d9) τ 0).heap[b]?=wD.heap[b]?):=⟨rfl,rfl,Nat.le_refl _,fun _ _ _=>rfl⟩;generalize reW (wD.at d9) τ 0=W0 at *;clear hD1 hA1;generalize hAg:w.heap.size=A at *;generalize hDg:wC.heap.size=D at *;clear hp heq hKA hRA hRB hKB hRC hBB hBC hlB hlC hA2 hA3 hD2 hD3 hAD hl hKF hRF hAw hAw' hKb hm hd;go_wp2_with fail
  go_loopw [11,13] (fun o i wr=>∃j:Nat,j≤il+2∧i=.int .i64 j∧o=.bool true∧Hid ((∀q,j*2≤q→q<(il+2)*2→wr.cell? ⟨A,q,none⟩=some (.int .i64 (padZ 2 il zi q)))∧(∀q,wr.frozen? ⟨A,q,none⟩=false))∧Hid (RowF wr D ((il+2)*2) 59 (fun j=>.int .i64 (padZ 2 il zi j)))∧Hid (wr.os=wD.os∧wr.output=wD.output∧wD.heap.size≤wr.heap.size∧∀b,b<wD.heap.size→b≠A→wr.heap[b]?=wD.heap[b]?)) (fun _ i _=>il+2-(intOf i).toNat)
  case atStart=>exact ⟨0,Nat.zero_le _,rfl,rfl,⟨fun q _ h2=>HA0.out.cell h2,fun q=>HA0.out.frozen q⟩,HD0,HE0⟩
  case round=>
   obtain ⟨j,hj,rfl,rfl,HA,HD,HE⟩:=hrel;by_cases hlt:j<il+2
   ·have c0:=HA.out.1 (j*2) (by omega) (by omega);have c1:=HA.out.1 (j*2+1) (by omega) (by omega);have e0:=HD.out.cell (j:=j*2) (by omega);have e1:=HD.out.cell (j:=j*2+1) (by omega);have f0:=HA.out.2 (j*2);have f1:=HA.out.2 (j*2+1);have hli:(j:Int)<(il:Int)+2:=by omega
    generalize padZ 2 il zi (j*2)=x0 at *;generalize padZ 2 il zi (j*2+1)=x1 at *;go_wp2_with fail
    go_quiet (fail)
    go_wp2_with fail
    refine ⟨⟨j+1,by omega,by go_num,rfl,⟨fun q h1 h2=>?_,fun q=>?_⟩,?_,?_⟩,by simp [intOf];omega⟩
    ·refine (World.cell?_setCell_other _ _ _ _ (fun e=>by have:=congrArg Addr.off e;simp only at this;omega)).trans ((World.cell?_setCell_other _ _ _ _ (fun e=>by have:=congrArg Addr.off e;simp only at this;omega)).trans ?_);exact HA.out.1 q (by omega) h2
    ·simpa using HA.out.2 q
    ·have hrow:RowF (wr.drewN nq) D ((il+2)*2) 59 (fun j=>.int .i64 (padZ 2 il zi j)):=HD.out;exact (hrow.other _ _ (by simpa using hne)).other _ _ (by simpa using hne)
    ·refine ⟨HE.out.1,HE.out.2.1,by rw [size_setCell,size_setCell];exact HE.out.2.2.1,fun b hb hn=>?_⟩;rw [heap_setCell_other _ _ _ _ (by simpa using hn),heap_setCell_other _ _ _ _ (by simpa using hn)];exact HE.out.2.2.2 b hb hn
   ·obtain rfl:j=il+2:=by omega
    go_wp2_with fail
    first
     |exact ⟨rfl,rfl,rfl,rfl,HE.out⟩
     |exact ⟨rfl,rfl,rfl,HE.out⟩
     |exact HE.out
     |simpa using HE.out
 case post=>
  obtain ⟨hs,h11,hdf,hE⟩:=hq;refine Y3.seq ?_;refine Y3.region ?_;show Y3 Tryz.prog Post (G ((base 21).at a' (.inRegion _ [0,1]::_)) cs) _;refine Y3.value rfl (by rfl) hk (fun d=>⟨d,rfl⟩) (fun d=>Yw plain (Yi plain Tryz.func21 (by kernel_rfl) _) (by kernel_rfl) _) ?_;refine Y3.value rfl (by rfl) hk (fun d=>⟨d,rfl⟩) (fun d=>Yw plain (Yi plain Tryz.func21 (by kernel_rfl) _) (by kernel_rfl) _) ?_;refine Y3.regionEnd ?_;refine Y3.ret fun todo=>?_;refine hp _ _ _ _ hdf (fun d=>(resultsC_tmp (t:=6) (by rfl) _ _).1) ⟨?_,?_⟩
  ·show ((a'.tmps.setIfInBounds 56 (a'.tmps.getD 11 undef)).setIfInBounds 6 ((a'.tmps.setIfInBounds 56 (a'.tmps.getD 11 undef)).getD 56 undef)).getD 6 undef=.bool true;rw [h11];simp [hs]
  ·have hsB:=hBB.size;have hsC:=hBC.size;have hE4:∀b,b<wD.heap.size→b≠w.heap.size→w'.heap[b]?=wD.heap[b]?:=hE.2.2.2;have hE3:wD.heap.size≤w'.heap.size:=hE.2.2.1;have toC:∀b,b<wC.heap.size→b≠w.heap.size→w'.heap[b]?=wC.heap[b]?:=fun b hb hn=>(hE4 b (by omega) hn).trans (hD2.block b hb);refine ⟨f1,vs1,_,_,hKB.keep (w':=reW w' (wD.at d9).tape d) (fun b hb=>?_) (by show wB.heap.size≤w'.heap.size;omega),hRC.keep (w':=reW w' (wD.at d9).tape d) (fun b hb=>?_) (by show wC.heap.size≤w'.heap.size;omega),⟨?_,?_,?_,by show w.heap.size≤w'.heap.size;omega,fun b hb hn=>?_⟩,fun b h1 h2=>?_,fun b h1=>?_,fun b h1=>?_⟩
   ·show w'.heap[b]?=wB.heap[b]?;have hbB:b<wB.heap.size:=hKB.sz b hb;have hb':S b∨(wA.heap.size≤b∧b<wB.heap.size):=hb;have hn1:b≠w.heap.size:=by
     rcases hb' with h|h
     ·have:=hAw b h;omega
     ·omega
    rw [toC b (by omega) hn1];exact hBC.block b hbB (fun h=>by
     rcases hb' with h'|h'
     ·exact hd b h' h
     ·have:=hAw' b h;omega)
   ·show w'.heap[b]?=wC.heap[b]?;have hbC:b<wC.heap.size:=hRC.sz b hb;have hb':S' b∨(wB.heap.size≤b∧b<wC.heap.size):=hb;have hn1:b≠w.heap.size:=by
     rcases hb' with h|h
     ·have:=hAw' b h;omega
     ·omega
    exact toC b hbC hn1
   ·exact hE.1.trans (hD2.os.trans (hBC.os.trans (hBB.os.trans hA2.os)))
   ·exact hD2.tape.trans (hBC.tape.trans (hBB.tape.trans hA2.tape))
   ·exact hE.2.1.trans (hD2.output.trans (hBC.output.trans (hBB.output.trans hA2.output)))
   ·show w'.heap[b]?=w.heap[b]?;rw [toC b (by omega) (by omega),hBC.block b (by omega) (fun h=>hn (.inr h)),hBB.block b (by omega) (fun h=>hn (.inl h))];exact hA2.block b hb
   ·have h1':S b∨(wA.heap.size≤b∧b<wB.heap.size):=h1;have h2':S' b∨(wB.heap.size≤b∧b<wC.heap.size):=h2;rcases h1' with h1'|h1'<;>rcases h2' with h2'|h2'
    ·exact hd b h1' h2'
    ·have:=hAw b h1';omega
    ·have:=hAw' b h2';omega
    ·omega
   ·have h1':S b∨(wA.heap.size≤b∧b<wB.heap.size):=h1;exact h1'.imp id (fun h=>by omega)
   ·have h1':S' b∨(wB.heap.size≤b∧b<wC.heap.size):=h1;exact h1'.imp id (fun h=>by omega)
end
theorem Ybg (Kb:Nat) (ip:Option Addr) (il ic:Nat) (w:World) (h:4<il):CallsR Tryz.prog 44 #[.pointer (some ⟨Kb,0,none⟩),.slice ip il ic] w (fun v w'=>v=.int .i64 6∧Is w w'):=by
 refine CallsR.ofPlain (Y2R _ _) (fun v w'=>v=.int .i64 6∧∃τ d,w'=reW w τ d) (fun τ=>(YaF Kb ip il ic _ h).mono ?_) ?_
 ·rintro e w' ⟨rfl,rfl⟩;exact ⟨_,rfl,rfl,τ,0,rfl⟩
 ·rintro v w₁ τ d d' ⟨h1,τ',d'',h2⟩;refine ⟨h1,d',?_⟩;have e:reW w₁ w.tape d'=reW (reW w₁ τ d) w.tape d':=rfl;rw [e,h2];rfl
section
variable {w:World} {k:Ker} {r:RK} {t t':Tab} {to_ fr rr il ic:Nat} {s:KSt} {f vs:Nat→Value} {S S':Nat→Prop} {lp:Option Addr} {zi:Nat→Int}
theorem Y8W {lb lo:Nat} (hKF:X8 w k t s f rr S) (hRF:YZ w k r t' to_ s vs fr S') (hd:∀b,S b→S' b→False) (hl:Sl w (some ⟨lb,lo,none⟩) (il*2) (fun j=>.int .i64 (zi j))) (hlS:¬S lb∧¬S' lb) (hil:4<il) (hb:16*il≤140737488351232):
  CallsR Tryz.prog 21 #[.pointer (some ⟨k.kb,0,none⟩),.pointer (some ⟨r.Kb,0,none⟩),.slice (some ⟨lb,lo,none⟩) il ic] w (fun v w'=>v=.bool true∧∃f' vs' SK SR,X8 w' k t s f' rr SK∧YZ w' k r t' to_ s vs' fr SR∧But (fun b=>S b∨S' b) w w'∧(∀b,SK b→SR b→False)∧(∀b,SK b→S b∨w.heap.size≤b)∧∀b,SR b→S' b∨w.heap.size≤b):=by
 refine CallsR.introT (List.toArray ((.pointer (some ⟨k.kb,0,none⟩))::(.pointer (some ⟨r.Kb,0,none⟩))::(.slice (some ⟨lb,lo,none⟩) il ic)::undef::undef::undef::undef::undef::undef::undef::undef::undef::undef::undef::undef::undef::undef::undef::undef::undef::undef::undef::undef::undef::undef::undef::undef::undef::undef::undef::undef::undef::undef::undef::undef::undef::undef::undef::undef::undef::undef::undef::undef::undef::undef::undef::undef::undef::undef::undef::undef::undef::undef::undef::undef::undef::undef::[])) Tryz.func21 (by rfl) (by kernel_rfl) fun cs Post hp=>?_;have hk:(base 21).kind≠.early:=by simp [base]
 refine Y3.of_goes ?_;have hF:=Is.self w;have hsl:(il:Int)≤(il:Int)+2:=by omega
 have heq:=fun W a n c=>Go.Lib.run_eql_slice_nil (P:=Tryz.prog) W 29 59 a n c 0 0 Tryz.underlying29;repeat refine .c1 Y2 rfl ?_
 refine .regionL Y2 [0] (by rfl) ?_;refine .opV Y2 rfl (by rfl) hk ?_;try walk_nrm
 repeat refine .c1 Y2 rfl ?_
 refine .regionL Y2 [0,1,2] (by rfl) ?_;refine .opV Y2 rfl (by rfl) hk ?_;try walk_nrm
 refine .stop rfl fun w4 hR=>?_;obtain ⟨d4,rfl⟩:=hF.rely hR;clear hF hR;refine Y3.call rfl (by rfl) hk (fun d=>?run1) (fun d=>?evs1) (JH (w:=w.at d4) (p:=some ⟨lb,lo,none⟩) (n:=il) (cap:=ic) (z:=zi) hl (by simp) (by omega)) (fun v wA hv=>?_)
 case run1=>kernel_rfl
 case evs1=>
  rw [listed_nil (by kernel_rfl)];simp
 obtain ⟨rfl,hA1,hA2,hA3⟩:=hv;refine Y3.of_goes ?_;have hF:=Is.self wA;try walk_nrm
 replace hA1:wA.heap.size=w.heap.size+1:=hA1;replace hA2:Below w.heap.size w wA:=⟨hA2.os,hA2.tape,hA2.output,hA2.size,hA2.block⟩;replace hA3:RowF wA w.heap.size ((il+2)*2) 59 (fun j=>.int .i64 (padZ 2 il zi j)):=hA3;have eA:(w.at d4).heap.size=w.heap.size:=rfl;rw [eA];clear eA;refine .opV Y2 rfl (by rfl) hk ?_;try walk_nrm
 repeat refine .c1 Y2 rfl ?_
 refine .regionL Y2 [0,1,2,3,4] (by rfl) ?_;iterate 3 (refine .opV Y2 rfl (by rfl) hk ?_;try walk_nrm)
 refine .op rfl (by rfl) hk fun w1 hR K hK=>?_;replace hF:=hF.rely hR;clear hR;go_simp;try (unfold stored;go_simp)
 refine hK _ _ ⟨?_,?_⟩
 ·exact Yw plain (Yi plain Tryz.func21 (by kernel_rfl) _) (by kernel_rfl) _
 clear hK K;try walk_nrm
 refine .opV Y2 rfl (by rfl) hk ?_;try walk_nrm
 repeat refine .c1 Y2 rfl ?_
 refine .regionL Y2 [0,1] (by rfl) ?_;refine .opV Y2 rfl (by rfl) hk ?_;try walk_nrm
 refine .op rfl (by rfl) hk fun w1 hR K hK=>?_;replace hF:=hF.rely hR;clear hR;have hq:=heq w1 (some ⟨lb,lo,none⟩) il ic;go_simp;try (unfold stored;go_simp)
 refine hK _ _ ⟨?_,?_⟩
 ·exact Yw plain (Yi plain Tryz.func21 (by kernel_rfl) _) (by kernel_rfl) _
 clear hK K;try walk_nrm
 repeat refine .c1 Y2 rfl ?_
 refine Y1.condF Y2 (by first|rfl|simp [Act.eval]) ?_;repeat refine .c1 Y2 rfl ?_
 refine .regionL Y2 [0,1,2,3] (by rfl) ?_;iterate 2 (refine .opV Y2 rfl (by rfl) hk ?_;try walk_nrm)
 have hKA:=hKF.keep (w':=wA) (fun b hb=>hA2.block b (hKF.sz b hb)) hA2.size;have hRA:=hRF.keep (w':=wA) (fun b hb=>hA2.block b (hRF.sz b hb)) hA2.size;refine .stop rfl fun w4 hR=>?_;obtain ⟨d4,rfl⟩:=hF.rely hR;clear hF hR;refine Y3.call rfl (by rfl) hk (fun d=>?run2) (fun d=>?evs2) (Y4J (w:=wA.at d4) (kb:=k.kb) (il:=il) (ic:=il+2) (some ⟨w.heap.size,0,none⟩) hil) (fun v wB hv=>?_)
 case run2=>kernel_rfl
 case evs2=>
  rw [listed_nil (by kernel_rfl)];simp
 obtain ⟨rfl,hdB⟩:=hv;refine Y3.of_goes ?_;have hF:=Is.self wB;try walk_nrm
 have hKB:X8 wB k t s f rr S:=by
  obtain ⟨d,rfl⟩:=hdB;exact hKA.keep (fun _ _=>rfl) (Nat.le_refl _)
 have hBB:But S wA wB:=by
  obtain ⟨d,rfl⟩:=hdB;exact ⟨rfl,rfl,rfl,Nat.le_refl _,fun _ _ _=>rfl⟩
 clear hdB;refine .opV Y2 rfl (by rfl) hk ?_;try walk_nrm
 replace hBB:But S wA wB:=⟨hBB.os,hBB.tape,hBB.output,hBB.size,hBB.block⟩;have hRB:=hRA.keep (w':=wB) (fun b hb=>hBB.block b (hRA.sz b hb) (fun hs=>hd b hs hb)) hBB.size;have hlA:=hl.below hA2;have hlB:=Y15 hlA hBB (.inr fun lb2 lo2 e=>by cases e;exact hlS.1);have hKb:∀b o,(some ⟨lb,lo,none⟩:Option Addr)=some ⟨b,o,none⟩→b≠r.Kb:=fun b o e x=>hlS.2 (by cases e;rw [x];exact hRF.inS _ (.inl (.inl rfl)));repeat refine .c1 Y2 rfl ?_
 refine .regionL Y2 [0,1,2,3] (by rfl) ?_;iterate 2 (refine .opV Y2 rfl (by rfl) hk ?_;try walk_nrm)
 refine .stop rfl fun w4 hR=>?_;obtain ⟨d4,rfl⟩:=hF.rely hR;clear hF hR;refine Y3.call rfl (by rfl) hk (fun d=>?run3) (fun d=>?evs3) (Ybg r.Kb (some ⟨lb,lo,none⟩) il ic (wB.at d4) hil) (fun v wC hv=>?_)
 case run3=>kernel_rfl
 case evs3=>
  rw [listed_nil (by kernel_rfl)];simp
 obtain ⟨rfl,hdC⟩:=hv;refine Y3.of_goes ?_;have hF:=Is.self wC;try walk_nrm
 have hRC:YZ wC k r t' to_ s vs fr S':=by
  obtain ⟨d,rfl⟩:=hdC;exact hRB.keep (fun _ _=>rfl) (Nat.le_refl _)
 have hBC:But S' wB wC:=by
  obtain ⟨d,rfl⟩:=hdC;exact ⟨rfl,rfl,rfl,Nat.le_refl _,fun _ _ _=>rfl⟩
 clear hdC;replace hBC:But S' wB wC:=⟨hBC.os,hBC.tape,hBC.output,hBC.size,hBC.block⟩;have hlC:=Y15 hlB hBC (.inr fun lb2 lo2 e=>by cases e;exact hlS.2);refine .opV Y2 rfl (by rfl) hk ?_;try walk_nrm
 repeat refine .c1 Y2 rfl ?_
 refine .regionL Y2 [0,1,2,3,4] (by rfl) ?_;refine .opV Y2 rfl (by rfl) hk ?_;try walk_nrm
 refine .stop rfl fun w4 hR=>?_;obtain ⟨d4,rfl⟩:=hF.rely hR;clear hF hR;refine Y3.call rfl (by rfl) hk (fun d=>?run4) (fun d=>?evs4) (Y1c 6 (wC.at d4)) (fun v wC2 hv=>?_)
 case run4=>kernel_rfl
 case evs4=>
  rw [listed_nil (by kernel_rfl)];simp
 obtain ⟨rfl,hIs⟩:=hv;refine Y3.of_goes ?_;have hF:=Is.self wC2;try walk_nrm
 obtain ⟨d5,rfl⟩:=hIs;replace hF:Is wC ((wC.at d4).at d5):=⟨d5,rfl⟩;iterate 3 (refine .opV Y2 rfl (by rfl) hk ?_;try walk_nrm)
 repeat refine .c1 Y2 rfl ?_
 refine .regionL Y2 [0,1,2] (by rfl) ?_;refine .opV Y2 rfl (by rfl) hk ?_;try walk_nrm
 refine .stop rfl fun w4 hR=>?_;obtain ⟨d4,rfl⟩:=hF.rely hR;clear hF hR;refine Y3.call rfl (by rfl) hk (fun d=>?run5) (fun d=>?evs5) (JH (w:=wC.at d4) (p:=some ⟨lb,lo,none⟩) (n:=il) (cap:=ic) (z:=zi) hlC (by simp) (by omega)) (fun v wD hv=>?_)
 case run5=>kernel_rfl
 case evs5=>
  rw [listed_nil (by kernel_rfl)];simp
 obtain ⟨rfl,hD1,hD2,hD3⟩:=hv;refine Y3.of_goes ?_;have hF:=Is.self wD;try walk_nrm
 replace hD1:wD.heap.size=wC.heap.size+1:=hD1;replace hD2:Below wC.heap.size wC wD:=⟨hD2.os,hD2.tape,hD2.output,hD2.size,hD2.block⟩;replace hD3:RowF wD wC.heap.size ((il+2)*2) 59 (fun j=>.int .i64 (padZ 2 il zi j)):=hD3;have eD:(wC.at d4).heap.size=wC.heap.size:=rfl;rw [eD];clear eD;refine .opV Y2 rfl (by rfl) hk ?_;try walk_nrm
 refine Y1.regionEnd Y2 ?_;refine Y1.seq Y2 ?_;refine .stop rfl fun w9 hR=>?_;obtain ⟨d9,rfl⟩:=hF.rely hR;clear hF hR;have hAw:∀b,S b→b<w.heap.size:=hKF.sz;have hAw':∀b,S' b→b<w.heap.size:=hRF.sz;have hAD:RowF wD w.heap.size ((il+2)*2) 59 (fun j=>.int .i64 (padZ 2 il zi j)):=((hA3.of_heap (hBB.block _ hA3.lt (fun h=>by have:=hAw _ h;omega))).of_heap (hBC.block _ (Nat.lt_of_lt_of_le hA3.lt hBB.size) (fun h=>by have:=hAw' _ h;omega))).below hD2 (Nat.lt_of_lt_of_le (Nat.lt_of_lt_of_le hA3.lt hBB.size) hBC.size);have hne:w.heap.size≠wC.heap.size:=by have:=hBB.size;have:=hBC.size;omega
 refine Y3.piece plain Y08 (Qn:=fun a' w'=>a'.tmps.size=57∧a'.tmps.getD 11 undef=.bool true∧a'.defers=[]∧(w'.os=wD.os∧w'.output=wD.output∧wD.heap.size≤w'.heap.size∧∀b,b<wD.heap.size→b≠w.heap.size→w'.heap[b]?=wD.heap[b]?)) (by kernel_rfl) (by kernel_rfl) ⟨_,Tryz.func21⟩ rfl (Yi plain Tryz.func21 (by kernel_rfl) _) rfl (fun τ=>?wp) (fun a' w' τ' d' d hq=>?post)
 case wp=>
  have HA0:Hid (RowF (reW (wD.at d9) τ 0) w.heap.size ((il+2)*2) 59 (fun j=>.int .i64 (padZ 2 il zi j))):=hAD;have HD0:Hid (RowF (reW (wD.at d9) τ 0) wC.heap.size ((il+2)*2) 59 (fun j=>.int .i64 (padZ 2 il zi j))):=hD3;have HE0:Hid ((reW (wD.at d9) τ 0).os=wD.os∧(reW (wD.at d9) τ 0).output=wD.output∧wD.heap.size≤(reW (wD.at d9) τ 0).heap.size∧∀b,b<wD.heap.size→b≠w.heap.size→(reW (wD.at d9) τ 0).heap[b]?=wD.heap[b]?):=⟨rfl,rfl,Nat.le_refl _,fun _ _ _=>rfl⟩;generalize reW (wD.at d9) τ 0=W0 at *;clear hD1 hA1;generalize hAg:w.heap.size=A at *;generalize hDg:wC.heap.size=D at *;clear hp heq hKA hRA hRB hKB hRC hBB hBC hlA hlB hlC hA2 hA3 hD2 hD3 hAD hl hKF hRF hAw hAw' hKb hd hlS;go_wp2_with fail
  go_loopw [11,13] (fun o i wr=>∃j:Nat,j≤il+2∧i=.int .i64 j∧o=.bool true∧Hid ((∀q,j*2≤q→q<(il+2)*2→wr.cell? ⟨A,q,none⟩=some (.int .i64 (padZ 2 il zi q)))∧(∀q,wr.frozen? ⟨A,q,none⟩=false))∧Hid (RowF wr D ((il+2)*2) 59 (fun j=>.int .i64 (padZ 2 il zi j)))∧Hid (wr.os=wD.os∧wr.output=wD.output∧wD.heap.size≤wr.heap.size∧∀b,b<wD.heap.size→b≠A→wr.heap[b]?=wD.heap[b]?)) (fun _ i _=>il+2-(intOf i).toNat)
  case atStart=>exact ⟨0,Nat.zero_le _,rfl,rfl,⟨fun q _ h2=>HA0.out.cell h2,fun q=>HA0.out.frozen q⟩,HD0,HE0⟩
  case round=>
   obtain ⟨j,hj,rfl,rfl,HA,HD,HE⟩:=hrel;by_cases hlt:j<il+2
   ·have c0:=HA.out.1 (j*2) (by omega) (by omega);have c1:=HA.out.1 (j*2+1) (by omega) (by omega);have e0:=HD.out.cell (j:=j*2) (by omega);have e1:=HD.out.cell (j:=j*2+1) (by omega);have f0:=HA.out.2 (j*2);have f1:=HA.out.2 (j*2+1);have hli:(j:Int)<(il:Int)+2:=by omega
    generalize padZ 2 il zi (j*2)=x0 at *;generalize padZ 2 il zi (j*2+1)=x1 at *;go_wp2_with fail
    go_quiet (fail)
    go_wp2_with fail
    refine ⟨⟨j+1,by omega,by go_num,rfl,⟨fun q h1 h2=>?_,fun q=>?_⟩,?_,?_⟩,by simp [intOf];omega⟩
    ·refine (World.cell?_setCell_other _ _ _ _ (fun e=>by have:=congrArg Addr.off e;simp only at this;omega)).trans ((World.cell?_setCell_other _ _ _ _ (fun e=>by have:=congrArg Addr.off e;simp only at this;omega)).trans ?_);exact HA.out.1 q (by omega) h2
    ·simpa using HA.out.2 q
    ·have hrow:RowF (wr.drewN nq) D ((il+2)*2) 59 (fun j=>.int .i64 (padZ 2 il zi j)):=HD.out;exact (hrow.other _ _ (by simpa using hne)).other _ _ (by simpa using hne)
    ·refine ⟨HE.out.1,HE.out.2.1,by rw [size_setCell,size_setCell];exact HE.out.2.2.1,fun b hb hn=>?_⟩;rw [heap_setCell_other _ _ _ _ (by simpa using hn),heap_setCell_other _ _ _ _ (by simpa using hn)];exact HE.out.2.2.2 b hb hn
   ·obtain rfl:j=il+2:=by omega
    go_wp2_with fail
    first
     |exact ⟨rfl,rfl,rfl,rfl,HE.out⟩
     |exact ⟨rfl,rfl,rfl,HE.out⟩
     |exact HE.out
     |simpa using HE.out
 case post=>
  obtain ⟨hs,h11,hdf,hE⟩:=hq;refine Y3.seq ?_;refine Y3.region ?_;show Y3 Tryz.prog Post (G ((base 21).at a' (.inRegion _ [0,1]::_)) cs) _;refine Y3.value rfl (by rfl) hk (fun d=>⟨d,rfl⟩) (fun d=>Yw plain (Yi plain Tryz.func21 (by kernel_rfl) _) (by kernel_rfl) _) ?_;refine Y3.value rfl (by rfl) hk (fun d=>⟨d,rfl⟩) (fun d=>Yw plain (Yi plain Tryz.func21 (by kernel_rfl) _) (by kernel_rfl) _) ?_;refine Y3.regionEnd ?_;refine Y3.ret fun todo=>?_;refine hp _ _ _ _ hdf (fun d=>(resultsC_tmp (t:=6) (by rfl) _ _).1) ⟨?_,?_⟩
  ·show ((a'.tmps.setIfInBounds 56 (a'.tmps.getD 11 undef)).setIfInBounds 6 ((a'.tmps.setIfInBounds 56 (a'.tmps.getD 11 undef)).getD 56 undef)).getD 6 undef=.bool true;rw [h11];simp [hs]
  ·have hsB:=hBB.size;have hsC:=hBC.size;have hE4:∀b,b<wD.heap.size→b≠w.heap.size→w'.heap[b]?=wD.heap[b]?:=hE.2.2.2;have hE3:wD.heap.size≤w'.heap.size:=hE.2.2.1;have toC:∀b,b<wC.heap.size→b≠w.heap.size→w'.heap[b]?=wC.heap[b]?:=fun b hb hn=>(hE4 b (by omega) hn).trans (hD2.block b hb);refine ⟨f,vs,_,_,hKB.keep (w':=reW w' (wD.at d9).tape d) (fun b hb=>?_) (by show wB.heap.size≤w'.heap.size;omega),hRC.keep (w':=reW w' (wD.at d9).tape d) (fun b hb=>?_) (by show wC.heap.size≤w'.heap.size;omega),⟨?_,?_,?_,by show w.heap.size≤w'.heap.size;omega,fun b hb hn=>?_⟩,fun b h1 h2=>?_,fun b h1=>?_,fun b h1=>?_⟩
   ·show w'.heap[b]?=wB.heap[b]?;have hbB:b<wB.heap.size:=hKB.sz b hb;have hb':S b∨(wA.heap.size≤b∧b<wB.heap.size):=.inl hb;have hn1:b≠w.heap.size:=by
     rcases hb' with h|h
     ·have:=hAw b h;omega
     ·omega
    rw [toC b (by omega) hn1];exact hBC.block b hbB (fun h=>by
     rcases hb' with h'|h'
     ·exact hd b h' h
     ·have:=hAw' b h;omega)
   ·show w'.heap[b]?=wC.heap[b]?;have hbC:b<wC.heap.size:=hRC.sz b hb;have hb':S' b∨(wB.heap.size≤b∧b<wC.heap.size):=.inl hb;have hn1:b≠w.heap.size:=by
     rcases hb' with h|h
     ·have:=hAw' b h;omega
     ·omega
    exact toC b hbC hn1
   ·exact hE.1.trans (hD2.os.trans (hBC.os.trans (hBB.os.trans hA2.os)))
   ·exact hD2.tape.trans (hBC.tape.trans (hBB.tape.trans hA2.tape))
   ·exact hE.2.1.trans (hD2.output.trans (hBC.output.trans (hBB.output.trans hA2.output)))
   ·show w'.heap[b]?=w.heap[b]?;rw [toC b (by omega) (by omega),hBC.block b (by omega) (fun h=>hn (.inr h)),hBB.block b (by omega) (fun h=>hn (.inl h))];exact hA2.block b hb
   ·have h1':S b∨(wA.heap.size≤b∧b<wB.heap.size):=.inl h1;have h2':S' b∨(wB.heap.size≤b∧b<wC.heap.size):=.inl h2;rcases h1' with h1'|h1'<;>rcases h2' with h2'|h2'
    ·exact hd b h1' h2'
    ·have:=hAw b h1';omega
    ·have:=hAw' b h2';omega
    ·omega
   ·have h1':S b∨(wA.heap.size≤b∧b<wB.heap.size):=.inl h1;exact h1'.imp id (fun h=>by omega)
   ·have h1':S' b∨(wB.heap.size≤b∧b<wC.heap.size):=.inl h1;exact h1'.imp id (fun h=>by omega)
end
end Go.Proofs.YtdoghgnifkgfdaaGreat.Mute
