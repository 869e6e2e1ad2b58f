import Derived.Test.YtdoghgnifkgfdaaGreatP00
import Derived.Test.YtdoghgnifkgfdaaGreatP19
set_option maxRecDepth 100000
set_option maxHeartbeats 16000000
open Option renaming none->Ai,some->yi
open Go renaming World->ui,Value->ti,undef->ri
open Bool renaming true->ji,false->gi
namespace Go.Proofs.YtdoghgnifkgfdaaGreat.Mute
open Tryz Go Go.Conc Go.RowKit
section
variable {L:km}{w0:ui}{rows:List Row}{ic g cb co n cc:Nat}{num:Int}{net:ti}{z ci:Nat->Int}
theorem U00(vm:((97:Nat)==L.ev)=gi)(hi:rows[ic]?=yi (Ri g num net (.slice (yi ⟨cb,co,Ai⟩) n cc) z))(hs:Still L w0 cb)(Gj:∀j,j<n*4->w0.cell? ⟨cb,co+j,Ai⟩=yi (.int .i64 (ci j)))(nx:Nat)(hz:z 45=nx)(Wi:nx<n)(hn:n<=48)
  (R A:Nat)(dp:R<4)(ep:A<4)(hop:ci (nx*4)=2)(hR:ci (nx*4+1)=R)(hA:ci (nx*4+2)=A)(N:Int)(hN:ci (nx*4+3)=N)(inV Kt:ti)(w:ui)(hF:Kn L w0 rows w):
  Xi prog gi L.R1 L.D1 113 #[.pointer (yi ⟨g,0,Ai⟩),inV,Kt] w (fun v w'=>v=.int .i64 2/\Kn L w0 (rows.set ic (Ri g num net (.slice (yi ⟨cb,co,Ai⟩) n cc) (Ji (Ji (Ji z 46 (IntKind.i64.wrap (z 46+1))) 45 ((nx:Int)+1)) (25+R) (IntKind.i64.wrap ((Ji (Ji z 46 (IntKind.i64.wrap (z 46+1))) 45 ((nx:Int)+1)) (25+R)+(Ji (Ji z 46 (IntKind.i64.wrap (z 46+1))) 45 ((nx:Int)+1)) (25+A)))))) w') (fun _ _=>False):=by
 refine jc fun hk=>?_;refine step_head vm hi hs Gj nx hz Wi hn R A dp ep hop hR hA N hN inV Kt w hF fun cl cs Stop jm _ B w3 hF=>?_;refine Xa fun YN QO=>?_;refine J8 ?_;refine Xd ?_;refine L8 ?_;refine J8 ?_;refine T9 ?_;refine J8 ?_;refine Ci.Ym (S:=Si L w0 (rows.set ic (Ri g num net (.slice (yi ⟨cb,co,Ai⟩) n cc) (Ji (Ji z 46 (IntKind.i64.wrap (z 46+1))) 45 ((nx:Int)+1)))) [uj B 2 R A N]) (Die:=fun _ _=>False) L.Bi L.Wm 9 I0 hk J0 (fun _ _ _ h=>h) (fun _ _ _ h=>h.elim) fun w1 hR=>?_;replace hF:=(hF.rely hR).rely (Turn.drew _);clear hR;refine Q8 ?_;refine aj L.Bi 2 rfl (fun _ _ h r=>Si.rely h r) hF ?_ fun _ hw=>⟨run_eq_of (by
  intro K hK;refine S8 fun hc=>?_;go_simp;exact hK),by
  refine S8 fun hc=>?_;refine Ld ?_;co_evs (exact⟨_,rfl⟩)⟩
 refine W9 ?_;refine Ib ?_;refine y9 ?_;refine aj L.Bi 5 rfl (fun _ _ h r=>Si.rely h r) hF ?_ fun _ hw=>⟨run_eq_of (by
  intro K hK;refine T8 fun hc=>?_;go_simp;exact hK),by
  refine T8 fun hc=>?_;refine Ld ?_;co_evs (exact⟨_,rfl⟩)⟩
 refine D9 ?_;refine Zm (i:=8) T0 rfl I0 ?_;refine ze fun w1 K hK hF=>?_;refine k9 fun hc=>?_;refine Va fun Bn=>?_;refine E9 ?_ ?_ ?_
 ·exact Oa
 ·exact Cc
 clear hK K;clear hc Bn;replace hF:=Si.yu hi hF (j:=25+R) E0 (IntKind.i64.wrap ((Ji (Ji z 46 (IntKind.i64.wrap (z 46+1))) 45 ((nx:Int)+1)) (25+R)+(Ji (Ji z 46 (IntKind.i64.wrap (z 46+1))) 45 ((nx:Int)+1)) (25+A)));refine H9 ?_;refine J8 ?_;refine Q9 ?_;refine M8 ?_;refine K8 fun w1 K hK hF=>?_;refine mb fun a0 a1 a2 a3=>?_;refine I8 ?_ ?_
 ·refine V9 ?_;exact W8
 clear hK K;clear a0 a1 a2 a3;refine W9 ?_;refine M8 ?_;refine J8 ?_;exact Z8
theorem S00(vm:((97:Nat)==L.ev)=gi)(hi:rows[ic]?=yi (Ri g num net (.slice (yi ⟨cb,co,Ai⟩) n cc) z))(hs:Still L w0 cb)(Gj:∀j,j<n*4->w0.cell? ⟨cb,co+j,Ai⟩=yi (.int .i64 (ci j)))(nx:Nat)(hz:z 45=nx)(Wi:nx<n)(hn:n<=48)
  (R A:Nat)(dp:R<4)(ep:A<4)(hop:ci (nx*4)=3)(hR:ci (nx*4+1)=R)(hA:ci (nx*4+2)=A)(N:Int)(hN:ci (nx*4+3)=N)(inV Kt:ti)(w:ui)(hF:Kn L w0 rows w):
  Xi prog gi L.R1 L.D1 113 #[.pointer (yi ⟨g,0,Ai⟩),inV,Kt] w (fun v w'=>v=.int .i64 3/\Kn L w0 (rows.set ic (Ri g num net (.slice (yi ⟨cb,co,Ai⟩) n cc) (Ji (Ji (Ji z 46 (IntKind.i64.wrap (z 46+1))) 45 ((nx:Int)+1)) (25+R) (IntKind.i64.wrap ((Ji (Ji z 46 (IntKind.i64.wrap (z 46+1))) 45 ((nx:Int)+1)) (25+R)-(Ji (Ji z 46 (IntKind.i64.wrap (z 46+1))) 45 ((nx:Int)+1)) (25+A)))))) w') (fun _ _=>False):=by
 refine jc fun hk=>?_;refine step_head vm hi hs Gj nx hz Wi hn R A dp ep hop hR hA N hN inV Kt w hF fun cl cs Stop jm _ B w3 hF=>?_;refine Xa fun YN QO=>?_;refine J8 ?_;refine Da ?_;refine L8 ?_;refine J8 ?_;refine T9 ?_;refine J8 ?_;refine Ci.Ym (S:=Si L w0 (rows.set ic (Ri g num net (.slice (yi ⟨cb,co,Ai⟩) n cc) (Ji (Ji z 46 (IntKind.i64.wrap (z 46+1))) 45 ((nx:Int)+1)))) [uj B 3 R A N]) (Die:=fun _ _=>False) L.Bi L.Wm 9 I0 hk J0 (fun _ _ _ h=>h) (fun _ _ _ h=>h.elim) fun w1 hR=>?_;replace hF:=(hF.rely hR).rely (Turn.drew _);clear hR;refine Q8 ?_;refine aj L.Bi 2 rfl (fun _ _ h r=>Si.rely h r) hF ?_ fun _ hw=>⟨run_eq_of (by
  intro K hK;refine S8 fun hc=>?_;go_simp;exact hK),by
  refine S8 fun hc=>?_;refine Ld ?_;co_evs (exact⟨_,rfl⟩)⟩
 refine W9 ?_;refine Ib ?_;refine y9 ?_;refine aj L.Bi 5 rfl (fun _ _ h r=>Si.rely h r) hF ?_ fun _ hw=>⟨run_eq_of (by
  intro K hK;refine T8 fun hc=>?_;go_simp;exact hK),by
  refine T8 fun hc=>?_;refine Ld ?_;co_evs (exact⟨_,rfl⟩)⟩
 refine D9 ?_;refine Zm (i:=8) T0 rfl I0 ?_;refine ze fun w1 K hK hF=>?_;refine k9 fun hc=>?_;refine Va fun Bn=>?_;refine E9 ?_ ?_ ?_
 ·exact Oa
 ·exact Cc
 clear hK K;clear hc Bn;replace hF:=Si.yu hi hF (j:=25+R) E0 (IntKind.i64.wrap ((Ji (Ji z 46 (IntKind.i64.wrap (z 46+1))) 45 ((nx:Int)+1)) (25+R)-(Ji (Ji z 46 (IntKind.i64.wrap (z 46+1))) 45 ((nx:Int)+1)) (25+A)));refine H9 ?_;refine J8 ?_;refine Q9 ?_;refine M8 ?_;refine K8 fun w1 K hK hF=>?_;refine mb fun a0 a1 a2 a3=>?_;refine I8 ?_ ?_
 ·refine V9 ?_;exact W8
 clear hK K;clear a0 a1 a2 a3;refine W9 ?_;refine M8 ?_;refine J8 ?_;exact Z8
theorem N20(vm:((97:Nat)==L.ev)=gi)(hi:rows[ic]?=yi (Ri g num net (.slice (yi ⟨cb,co,Ai⟩) n cc) z))(hs:Still L w0 cb)(Gj:∀j,j<n*4->w0.cell? ⟨cb,co+j,Ai⟩=yi (.int .i64 (ci j)))(nx:Nat)(hz:z 45=nx)(Wi:nx<n)(hn:n<=48)
  (R A:Nat)(dp:R<4)(ep:A<4)(hop:ci (nx*4)=4)(hR:ci (nx*4+1)=R)(hA:ci (nx*4+2)=A)(N:Int)(hN:ci (nx*4+3)=N)(inV Kt:ti)(w:ui)(hF:Kn L w0 rows w):
  Xi prog gi L.R1 L.D1 113 #[.pointer (yi ⟨g,0,Ai⟩),inV,Kt] w (fun v w'=>v=.int .i64 4/\Kn L w0 (rows.set ic (Ri g num net (.slice (yi ⟨cb,co,Ai⟩) n cc) (Ji (Ji (Ji z 46 (IntKind.i64.wrap (z 46+1))) 45 ((nx:Int)+1)) (25+R) (IntKind.i64.wrap ((Ji (Ji z 46 (IntKind.i64.wrap (z 46+1))) 45 ((nx:Int)+1)) (25+R)*(Ji (Ji z 46 (IntKind.i64.wrap (z 46+1))) 45 ((nx:Int)+1)) (25+A)))))) w') (fun _ _=>False):=by
 refine jc fun hk=>?_;refine step_head vm hi hs Gj nx hz Wi hn R A dp ep hop hR hA N hN inV Kt w hF fun cl cs Stop jm _ B w3 hF=>?_;refine Xa fun YN QO=>?_;refine J8 ?_;refine Yd ?_;refine L8 ?_;refine J8 ?_;refine T9 ?_;refine J8 ?_;refine Ci.Ym (S:=Si L w0 (rows.set ic (Ri g num net (.slice (yi ⟨cb,co,Ai⟩) n cc) (Ji (Ji z 46 (IntKind.i64.wrap (z 46+1))) 45 ((nx:Int)+1)))) [uj B 4 R A N]) (Die:=fun _ _=>False) L.Bi L.Wm 9 I0 hk J0 (fun _ _ _ h=>h) (fun _ _ _ h=>h.elim) fun w1 hR=>?_;replace hF:=(hF.rely hR).rely (Turn.drew _);clear hR;refine Q8 ?_;refine aj L.Bi 2 rfl (fun _ _ h r=>Si.rely h r) hF ?_ fun _ hw=>⟨run_eq_of (by
  intro K hK;refine S8 fun hc=>?_;go_simp;exact hK),by
  refine S8 fun hc=>?_;refine Ld ?_;co_evs (exact⟨_,rfl⟩)⟩
 refine W9 ?_;refine Ib ?_;refine y9 ?_;refine aj L.Bi 5 rfl (fun _ _ h r=>Si.rely h r) hF ?_ fun _ hw=>⟨run_eq_of (by
  intro K hK;refine T8 fun hc=>?_;go_simp;exact hK),by
  refine T8 fun hc=>?_;refine Ld ?_;co_evs (exact⟨_,rfl⟩)⟩
 refine D9 ?_;refine Zm (i:=8) T0 rfl I0 ?_;refine ze fun w1 K hK hF=>?_;refine k9 fun hc=>?_;refine Va fun Bn=>?_;refine E9 ?_ ?_ ?_
 ·exact Oa
 ·exact Cc
 clear hK K;clear hc Bn;replace hF:=Si.yu hi hF (j:=25+R) E0 (IntKind.i64.wrap ((Ji (Ji z 46 (IntKind.i64.wrap (z 46+1))) 45 ((nx:Int)+1)) (25+R)*(Ji (Ji z 46 (IntKind.i64.wrap (z 46+1))) 45 ((nx:Int)+1)) (25+A)));refine H9 ?_;refine J8 ?_;refine Q9 ?_;refine M8 ?_;refine K8 fun w1 K hK hF=>?_;refine mb fun a0 a1 a2 a3=>?_;refine I8 ?_ ?_
 ·refine V9 ?_;exact W8
 clear hK K;clear a0 a1 a2 a3;refine W9 ?_;refine M8 ?_;refine J8 ?_;exact Z8
end
section
variable {L:km}{w0:ui}{rows:List Row}{ic g cb co n cc:Nat}{num:Int}{net:ti}{z ci:Nat->Int}
theorem d30(vm:((97:Nat)==L.ev)=gi)(hi:rows[ic]?=yi (Ri g num net (.slice (yi ⟨cb,co,Ai⟩) n cc) z))(hs:Still L w0 cb)(Gj:∀j,j<n*4->w0.cell? ⟨cb,co+j,Ai⟩=yi (.int .i64 (ci j)))(nx:Nat)(hz:z 45=nx)(Wi:nx<n)(hn:n<=48)
  (R A:Nat)(dp:R<4)(ep:A<4)(hop:ci (nx*4)=5)(hR:ci (nx*4+1)=R)(hA:ci (nx*4+2)=A)(N:Int)(hN:ci (nx*4+3)=N)(h0:(Ji (Ji z 46 (IntKind.i64.wrap (z 46+1))) 45 ((nx:Int)+1)) (25+A)≠0)(inV Kt:ti)(w:ui)(hF:Kn L w0 rows w):
  Xi prog gi L.R1 L.D1 113 #[.pointer (yi ⟨g,0,Ai⟩),inV,Kt] w (fun v w'=>v=.int .i64 5/\Kn L w0 (rows.set ic (Ri g num net (.slice (yi ⟨cb,co,Ai⟩) n cc) (Ji (Ji (Ji z 46 (IntKind.i64.wrap (z 46+1))) 45 ((nx:Int)+1)) (25+R) (IntKind.i64.wrap (((Ji (Ji z 46 (IntKind.i64.wrap (z 46+1))) 45 ((nx:Int)+1)) (25+R)).tdiv ((Ji (Ji z 46 (IntKind.i64.wrap (z 46+1))) 45 ((nx:Int)+1)) (25+A))))))) w') (fun _ _=>False):=by
 refine jc fun hk=>?_;refine step_head vm hi hs Gj nx hz Wi hn R A dp ep hop hR hA N hN inV Kt w hF fun cl cs Stop jm _ B w3 hF=>?_;refine Xa fun YN QO=>?_;refine J8 ?_;refine Ea ?_;refine L8 ?_;refine J8 ?_;refine T9 ?_;refine J8 ?_;refine Ci.Ym (S:=Si L w0 (rows.set ic (Ri g num net (.slice (yi ⟨cb,co,Ai⟩) n cc) (Ji (Ji z 46 (IntKind.i64.wrap (z 46+1))) 45 ((nx:Int)+1)))) [uj B 5 R A N]) (Die:=fun _ _=>False) L.Bi L.Wm 10 I0 hk J0 (fun _ _ _ h=>h) (fun _ _ _ h=>h.elim) fun w1 hR=>?_;replace hF:=(hF.rely hR).rely (Turn.drew _);clear hR;refine Q8 ?_;refine S9 ?_;refine aj L.Bi 3 rfl (fun _ _ h r=>Si.rely h r) hF ?_ fun _ hw=>⟨run_eq_of (by
  intro K hK;refine S8 fun hc=>?_;go_simp;exact hK),by
  refine S8 fun hc=>?_;refine Ld ?_;co_evs (exact⟨_,rfl⟩)⟩
 refine y9 ?_;refine Ba ?_;refine W9 ?_;refine aj L.Bi 6 rfl (fun _ _ h r=>Si.rely h r) hF ?_ fun _ hw=>⟨run_eq_of (by
  intro K hK;refine T8 fun hc=>?_;go_simp;exact hK),by
  refine T8 fun hc=>?_;refine Ld ?_;co_evs (exact⟨_,rfl⟩)⟩
 refine W9 ?_;refine Rl (i:=7) T0 rfl I0 rfl func127 I0 rfl #[.int .i64 ((Ji (Ji z 46 (IntKind.i64.wrap (z 46+1))) 45 ((nx:Int)+1)) (25+R)),.int .i64 ((Ji (Ji z 46 (IntKind.i64.wrap (z 46+1))) 45 ((nx:Int)+1)) (25+A))] J0 (UT (rows:=rows.set ic (Ri g num net (.slice (yi ⟨cb,co,Ai⟩) n cc) (Ji (Ji z 46 (IntKind.i64.wrap (z 46+1))) 45 ((nx:Int)+1)))++[uj B 5 R A N]) _ _ h0 _ hF) ?_;rintro v w2 ⟨rfl,ql⟩;replace hF:Si L w0 (rows.set ic (Ri g num net (.slice (yi ⟨cb,co,Ai⟩) n cc) (Ji (Ji z 46 (IntKind.i64.wrap (z 46+1))) 45 ((nx:Int)+1)))) [uj B 5 R A N] w2:=ql;clear ql;refine⟨.inl hF,?_⟩;refine W9 ?_;refine Jb ?_;refine W9 ?_;refine Zm (i:=9) T0 rfl I0 ?_;refine ze fun w1 K hK hF=>?_;refine k9 fun hc=>?_;refine Va fun Bn=>?_;refine E9 ?_ ?_ ?_
 ·exact Oa
 ·exact Cc
 clear hK K;clear hc Bn;replace hF:=Si.yu hi hF (j:=25+R) E0 (IntKind.i64.wrap (((Ji (Ji z 46 (IntKind.i64.wrap (z 46+1))) 45 ((nx:Int)+1)) (25+R)).tdiv ((Ji (Ji z 46 (IntKind.i64.wrap (z 46+1))) 45 ((nx:Int)+1)) (25+A))));refine H9 ?_;refine J8 ?_;refine Q9 ?_;refine M8 ?_;refine K8 fun w1 K hK hF=>?_;refine mb fun a0 a1 a2 a3=>?_;refine I8 ?_ ?_
 ·refine V9 ?_;exact W8
 clear hK K;clear a0 a1 a2 a3;refine W9 ?_;refine M8 ?_;refine J8 ?_;exact Z8
theorem FW(vm:((97:Nat)==L.ev)=gi)(hi:rows[ic]?=yi (Ri g num net (.slice (yi ⟨cb,co,Ai⟩) n cc) z))(hs:Still L w0 cb)(Gj:∀j,j<n*4->w0.cell? ⟨cb,co+j,Ai⟩=yi (.int .i64 (ci j)))(nx:Nat)(hz:z 45=nx)(Wi:nx<n)(hn:n<=48)
  (R A:Nat)(dp:R<4)(ep:A<4)(hop:ci (nx*4)=6)(hR:ci (nx*4+1)=R)(hA:ci (nx*4+2)=A)(N:Int)(hN:ci (nx*4+3)=N)(y:Nat)(hy:y<16)(h0:(Ji (Ji z 46 (IntKind.i64.wrap (z 46+1))) 45 ((nx:Int)+1)) (25+A)=(y:Int))(inV Kt:ti)(w:ui)(hF:Kn L w0 rows w):
  Xi prog gi L.R1 L.D1 113 #[.pointer (yi ⟨g,0,Ai⟩),inV,Kt] w (fun v w'=>v=.int .i64 6/\Kn L w0 (rows.set ic (Ri g num net (.slice (yi ⟨cb,co,Ai⟩) n cc) (Ji (Ji (Ji z 46 (IntKind.i64.wrap (z 46+1))) 45 ((nx:Int)+1)) (25+R) ((Ji (Ji z 46 (IntKind.i64.wrap (z 46+1))) 45 ((nx:Int)+1)) (29+y))))) w') (fun _ _=>False):=by
 refine jc fun hk=>?_;refine step_head vm hi hs Gj nx hz Wi hn R A dp ep hop hR hA N hN inV Kt w hF fun cl cs Stop jm _ B w3 hF=>?_;refine Xa fun YN QO=>?_;refine J8 ?_;refine Fa ?_;refine L8 ?_;refine J8 ?_;refine T9 ?_;refine J8 ?_;refine .Gi L.Bi [0,1,2,3,4,5,6,7,8,9] I0 ?_;refine P9 ?_;refine K8 fun w1 K hK hF=>?_;refine Dh fun hc=>?_;refine I8 ?_ ?_
 ·refine Xg ?_;exact W8
 clear hK K;clear hc;refine W9 ?_;refine Ci.Bv L.Bi rfl I0 hk rfl func128 I0 rfl #[.pointer (yi ⟨g,0,Ai⟩),.int .i64 y] J0 (j10 (rows:=rows.set ic (Ri g num net (.slice (yi ⟨cb,co,Ai⟩) n cc) (Ji (Ji z 46 (IntKind.i64.wrap (z 46+1))) 45 ((nx:Int)+1)))++[uj B 6 R A N]) y hy _ hF) ?_ (fun _ _ _ h=>h.elim);rintro v w2 ⟨rfl,ql⟩;replace hF:Si L w0 (rows.set ic (Ri g num net (.slice (yi ⟨cb,co,Ai⟩) n cc) (Ji (Ji z 46 (IntKind.i64.wrap (z 46+1))) 45 ((nx:Int)+1)))) [uj B 6 R A N] w2:=ql;clear ql;refine W9 ?_;refine M8 ?_;refine K8 fun w1 K hK hF=>?_;refine Eh fun hc=>?_;refine I8 ?_ ?_
 ·refine Xg ?_;exact W8
 clear hK K;clear hc;refine W9 ?_;refine M8 ?_;refine K8 fun w1 K hK hF=>?_;refine k9 fun hc=>?_;refine Va fun Bn=>?_;refine I8 ?_ ?_
 ·exact Oa
 clear hK K;clear hc Bn;replace hF:=Si.yu hi hF (j:=25+R) E0 ((Ji (Ji z 46 (IntKind.i64.wrap (z 46+1))) 45 ((nx:Int)+1)) (29+y));refine W9 ?_;refine J8 ?_;refine Q9 ?_;refine M8 ?_;refine K8 fun w1 K hK hF=>?_;refine mb fun a0 a1 a2 a3=>?_;refine I8 ?_ ?_
 ·refine V9 ?_;exact W8
 clear hK K;clear a0 a1 a2 a3;refine W9 ?_;refine M8 ?_;refine J8 ?_;exact Z8
theorem bT(vm:((97:Nat)==L.ev)=gi)(hi:rows[ic]?=yi (Ri g num net (.slice (yi ⟨cb,co,Ai⟩) n cc) z))(hs:Still L w0 cb)(Gj:∀j,j<n*4->w0.cell? ⟨cb,co+j,Ai⟩=yi (.int .i64 (ci j)))(nx:Nat)(hz:z 45=nx)(Wi:nx<n)(hn:n<=48)
  (R A:Nat)(dp:R<4)(ep:A<4)(hop:ci (nx*4)=7)(hR:ci (nx*4+1)=R)(hA:ci (nx*4+2)=A)(N:Int)(hN:ci (nx*4+3)=N)(y:Nat)(hy:y<16)(h0:(Ji (Ji z 46 (IntKind.i64.wrap (z 46+1))) 45 ((nx:Int)+1)) (25+A)=(y:Int))(inV Kt:ti)(w:ui)(hF:Kn L w0 rows w):
  Xi prog gi L.R1 L.D1 113 #[.pointer (yi ⟨g,0,Ai⟩),inV,Kt] w (fun v w'=>v=.int .i64 7/\Kn L w0 (rows.set ic (Ri g num net (.slice (yi ⟨cb,co,Ai⟩) n cc) (Ji (Ji (Ji z 46 (IntKind.i64.wrap (z 46+1))) 45 ((nx:Int)+1)) (29+y) ((Ji (Ji z 46 (IntKind.i64.wrap (z 46+1))) 45 ((nx:Int)+1)) (25+R))))) w') (fun _ _=>False):=by
 refine jc fun hk=>?_;refine step_head vm hi hs Gj nx hz Wi hn R A dp ep hop hR hA N hN inV Kt w hF fun cl cs Stop jm _ B w3 hF=>?_;refine Xa fun YN QO=>?_;refine J8 ?_;refine Zd ?_;refine L8 ?_;refine J8 ?_;refine T9 ?_;refine J8 ?_;refine Ci.Ym (S:=Si L w0 (rows.set ic (Ri g num net (.slice (yi ⟨cb,co,Ai⟩) n cc) (Ji (Ji z 46 (IntKind.i64.wrap (z 46+1))) 45 ((nx:Int)+1)))) [uj B 7 R A N]) (Die:=fun _ _=>False) L.Bi L.Wm 10 I0 hk J0 (fun _ _ _ h=>h) (fun _ _ _ h=>h.elim) fun w1 hR=>?_;replace hF:=(hF.rely hR).rely (Turn.drew _);clear hR;refine Q8 ?_;refine S9 ?_;refine aj L.Bi 3 rfl (fun _ _ h r=>Si.rely h r) hF ?_ fun _ hw=>⟨run_eq_of (by
  intro K hK;refine T8 fun hc=>?_;go_simp;exact hK),by
  refine T8 fun hc=>?_;refine Ld ?_;co_evs (exact⟨_,rfl⟩)⟩
 refine W9 ?_;refine Ba ?_;refine W9 ?_;refine Ii L.Bi 6 (fun _ _ h r=>Si.rely h r) hF ?_;refine W9 ?_;refine aj L.Bi 7 rfl (fun _ _ h r=>Si.rely h r) hF ?_ fun _ hw=>⟨run_eq_of (by
  intro K hK;refine S8 fun hc=>?_;go_simp;exact hK),by
  refine S8 fun hc=>?_;refine Ld ?_;co_evs (exact⟨_,rfl⟩)⟩
 refine W9 ?_;refine Rl (i:=4) T0 rfl I0 rfl func128 I0 rfl #[.pointer (yi ⟨g,0,Ai⟩),.int .i64 y] J0 (j10 (rows:=rows.set ic (Ri g num net (.slice (yi ⟨cb,co,Ai⟩) n cc) (Ji (Ji z 46 (IntKind.i64.wrap (z 46+1))) 45 ((nx:Int)+1)))++[uj B 7 R A N]) y hy _ hF) ?_;rintro v w2 ⟨rfl,ql⟩;replace hF:Si L w0 (rows.set ic (Ri g num net (.slice (yi ⟨cb,co,Ai⟩) n cc) (Ji (Ji z 46 (IntKind.i64.wrap (z 46+1))) 45 ((nx:Int)+1)))) [uj B 7 R A N] w2:=ql;clear ql;refine⟨.inl hF,?_⟩;refine W9 ?_;refine Jb ?_;refine W9 ?_;refine Zm (i:=9) T0 rfl I0 ?_;refine ze fun w1 K hK hF=>?_;refine Eh fun hc=>?_;have Bn:World.frozen? _ ⟨g,29+y,Ai⟩=false:=Si.XI hi hF (29+y);refine E9 ?_ ?_ ?_
 ·refine Si.Hq hi hF (29+y) _ ?_;exact Ec
 ·exact Cc
 clear hK K;clear hc Bn;replace hF:=Si.yu hi hF (j:=29+y) E0 ((Ji (Ji z 46 (IntKind.i64.wrap (z 46+1))) 45 ((nx:Int)+1)) (25+R));refine H9 ?_;refine J8 ?_;refine Q9 ?_;refine M8 ?_;refine K8 fun w1 K hK hF=>?_;refine mb fun a0 a1 a2 a3=>?_;refine I8 ?_ ?_
 ·refine V9 ?_;exact W8
 clear hK K;clear a0 a1 a2 a3;refine W9 ?_;refine M8 ?_;refine J8 ?_;exact Z8
end
section
variable {L:km}{w0:ui}{rows:List Row}{ic g cb co n cc:Nat}{num:Int}{net:ti}{z ci:Nat->Int}
theorem kP(vm:((97:Nat)==L.ev)=gi)(hi:rows[ic]?=yi (Ri g num net (.slice (yi ⟨cb,co,Ai⟩) n cc) z))(hz:z 45=n)(inV Kt:ti)(w:ui)(hF:Kn L w0 rows w):
  Xi prog gi L.R1 L.D1 113 #[.pointer (yi ⟨g,0,Ai⟩),inV,Kt] w (fun _ _=>False) (fun ch w'=>ch=[{v:=.iface 222 (.int .i64 3),recovered:=gi}]/\Kn L w0 (rows.set ic (Ri g num net (.slice (yi ⟨cb,co,Ai⟩) n cc) (Ji z 46 (IntKind.i64.wrap (z 46+1))))) w'):=by
 replace hF:=hF.start hi;refine jc fun hk=>?_;refine Xi.intro L.Bi #[.pointer (yi ⟨g,0,Ai⟩),inV,Kt,ri,ri,ri,ri,ri,ri,ri,ri,ri,ri,ri,ri,ri,ri,ri,ri,ri,ri,ri,ri,ri,ri,ri,ri,ri,ri,ri,ri,ri,ri,ri,ri,ri,ri,ri,ri,ri,ri,ri,ri,ri,ri,ri,ri,ri,ri,ri,ri,ri,ri,ri,ri,ri,ri,ri,ri,ri,ri,ri,ri,ri,ri,ri,ri,ri,ri,ri,ri,ri,ri,ri,ri,ri,ri,ri,ri,ri,ri,ri,ri,ri,ri,ri,ri,ri,ri,ri,ri,ri,ri,ri,ri,ri,ri,ri,ri,ri,ri,ri,ri,ri,ri,ri,ri,ri,ri,ri,ri,ri,ri,ri,ri,ri,ri,ri,ri,ri,ri,ri,ri,ri,ri,ri,ri,ri,ri,ri,ri,ri,ri,ri,ri,ri,ri,ri,ri,ri,ri,ri,ri,ri] func113 rfl J0 fun cl cs Stop jm zQ=>?_;refine J8 ?_;refine s9 ?_;refine M8 ?_;refine J8 ?_;refine Ic ?_;refine P8 ?_;refine K8 fun w1 K hK hF=>?_;refine Je fun hc=>?_;refine I8 ?_ ?_
 ·refine Xg ?_;exact W8
 clear hK K;clear hc;refine W9 ?_;refine P8 ?_;refine K8 fun w1 K hK hF=>?_;refine Je fun hc=>?_;have Bn:World.frozen? _ ⟨g,46,Ai⟩=false:=Si.XI hi hF 46;refine I8 ?_ ?_
 ·refine Si.Hq hi hF 46 _ ?_;exact Ec
 clear hK K;clear hc Bn;replace hF:=Si.yu hi hF (j:=46) E0 (IntKind.i64.wrap (z 46+1));refine W9 ?_;refine J8 ?_;refine Fb ?_;refine M8 ?_;exact Ci.Bv L.Bi rfl I0 hk rfl func126 I0 rfl #[.pointer (yi ⟨g,0,Ai⟩)] J0 (NV (ic:=ic) vm (at2 hi (Ri g num net (.slice (yi ⟨cb,co,Ai⟩) n cc) (Ji z 46 (IntKind.i64.wrap (z 46+1))))) _ rfl ((Qk z _ E0).trans hz) _ hF) (fun _ _ h=>h.elim) fun ch w' fr h h1 _ h3 h4=>zQ fr ch w' h1 h3 h4 ⟨h.1,h.2.drop⟩
theorem cQ(vm:((97:Nat)==L.ev)=gi)(hi:rows[ic]?=yi (Ri g num net (.slice (yi ⟨cb,co,Ai⟩) n cc) z))(hs:Still L w0 cb)(Gj:∀j,j<n*4->w0.cell? ⟨cb,co+j,Ai⟩=yi (.int .i64 (ci j)))(nx:Nat)(hz:z 45=nx)(Wi:nx<n)(hn:n<=48)
  (R A:Nat)(dp:R<4)(ep:A<4)(hop:ci (nx*4)=5)(hR:ci (nx*4+1)=R)(hA:ci (nx*4+2)=A)(N:Int)(hN:ci (nx*4+3)=N)(h0:(Ji (Ji z 46 (IntKind.i64.wrap (z 46+1))) 45 ((nx:Int)+1)) (25+A)=0)(inV Kt:ti)(w:ui)(hF:Kn L w0 rows w):
  Xi prog gi L.R1 L.D1 113 #[.pointer (yi ⟨g,0,Ai⟩),inV,Kt] w (fun _ _=>False) (fun ch w'=>ch=[{v:=.iface 222 (.int .i64 1),recovered:=gi}]/\Kn L w0 (rows.set ic (Ri g num net (.slice (yi ⟨cb,co,Ai⟩) n cc) (Ji (Ji z 46 (IntKind.i64.wrap (z 46+1))) 45 ((nx:Int)+1)))) w'):=by
 refine jc fun hk=>?_;refine step_head vm hi hs Gj nx hz Wi hn R A dp ep hop hR hA N hN inV Kt w hF fun cl cs Stop jm zQ B w3 hF=>?_;refine Xa fun YN QO=>?_;refine J8 ?_;refine Ea ?_;refine L8 ?_;refine J8 ?_;refine T9 ?_;refine J8 ?_;refine Ci.Ym (S:=Si L w0 (rows.set ic (Ri g num net (.slice (yi ⟨cb,co,Ai⟩) n cc) (Ji (Ji z 46 (IntKind.i64.wrap (z 46+1))) 45 ((nx:Int)+1)))) [uj B 5 R A N]) (Die:=fun ch w'=>ch=[{v:=.iface 222 (.int .i64 1),recovered:=gi}]/\Kn L w0 (rows.set ic (Ri g num net (.slice (yi ⟨cb,co,Ai⟩) n cc) (Ji (Ji z 46 (IntKind.i64.wrap (z 46+1))) 45 ((nx:Int)+1)))) w') L.Bi L.Wm 10 I0 hk J0 (fun _ _ _ h=>h) (fun ch w' fr h h1 _ h3 h4=>zQ fr ch w' h1 h3 h4 h) fun w1 hR=>?_;replace hF:=(hF.rely hR).rely (Turn.drew _);clear hR;co_applyP sj L.Bi (fun _ _ _ _ h _=>h.elim) (fun _ _ h r=>Si.rely h r) ?QK (i:=0) rfl T0 T0 T0 T0 (.inl ⟨I0,fun _ hw=>⟨run_eq_of ?zx,?qC⟩⟩) hF ?AU
 case QK=>exact fun _ _ _ h r=>Ci.rely L.Bi.trans h r
 case zx=>
  exact oa
 case qC=>
  exact Cb
 refine W9 ?_;co_applyP sj L.Bi (fun _ _ _ _ h _=>h.elim) (fun _ _ h r=>Si.rely h r) ?iM (i:=1) rfl T0 T0 T0 T0 (.inl ⟨I0,fun _ hw=>⟨run_eq_of ?mB,?xC⟩⟩) hF ?PU
 case iM=>exact fun _ _ _ h r=>Ci.rely L.Bi.trans h r
 case mB=>
  exact oa
 case xC=>
  exact Cb
 refine W9 ?_;co_applyP sj L.Bi (fun _ _ _ _ h _=>h.elim) (fun _ _ h r=>Si.rely h r) ?CM (i:=2) rfl T0 T0 T0 T0 (.inl ⟨I0,fun _ hw=>⟨run_eq_of ?wE,?NB⟩⟩) hF ?GU
 case CM=>exact fun _ _ _ h r=>Ci.rely L.Bi.trans h r
 case wE=>
  exact oa
 case NB=>
  exact Cb
 refine W9 ?_;co_applyP sj L.Bi (fun _ _ _ _ h _=>h.elim) (fun _ _ h r=>Si.rely h r) ?BM (i:=3) rfl T0 T0 T0 T0 (.inl ⟨I0,fun _ hw=>⟨run_eq_of ?MD,?aD⟩⟩) hF ?XU
 case BM=>exact fun _ _ _ h r=>Ci.rely L.Bi.trans h r
 case MD=>
  intro K hK;refine S8 fun hc=>?_;exact kg
 case aD=>
  refine S8 fun hc=>?_;refine Ld ?_;exact W8
 refine W9 ?_;co_applyP sj L.Bi (fun _ _ _ _ h _=>h.elim) (fun _ _ h r=>Si.rely h r) ?nM (i:=4) rfl T0 T0 T0 T0 (.inl ⟨I0,fun _ hw=>⟨run_eq_of ?ZG,?JB⟩⟩) hF ?uV
 case nM=>exact fun _ _ _ h r=>Ci.rely L.Bi.trans h r
 case ZG=>
  exact oa
 case JB=>
  exact Cb
 refine W9 ?_;co_applyP sj L.Bi (fun _ _ _ _ h _=>h.elim) (fun _ _ h r=>Si.rely h r) ?IL (i:=5) rfl T0 T0 T0 T0 (.inl ⟨I0,fun _ hw=>⟨run_eq_of ?vM,?OB⟩⟩) hF ?aV
 case IL=>exact fun _ _ _ h r=>Ci.rely L.Bi.trans h r
 case vM=>
  exact oa
 case OB=>
  exact Cb
 refine W9 ?_;co_applyP sj L.Bi (fun _ _ _ _ h _=>h.elim) (fun _ _ h r=>Si.rely h r) ?rL (i:=6) rfl T0 T0 T0 T0 (.inl ⟨I0,fun _ hw=>⟨run_eq_of ?TM,?bD⟩⟩) hF ?iV
 case rL=>exact fun _ _ _ h r=>Ci.rely L.Bi.trans h r
 case TM=>
  intro K hK;refine T8 fun hc=>?_;exact kg
 case bD=>
  refine T8 fun hc=>?_;refine Ld ?_;exact W8
 refine W9 ?_;refine Rl (Post:=fun _ _=>False) (i:=7) T0 rfl I0 rfl func127 I0 rfl #[.int .i64 ((Ji (Ji z 46 (IntKind.i64.wrap (z 46+1))) 45 ((nx:Int)+1)) (25+R)),.int .i64 0] J0 ((sL (rows:=rows.set ic (Ri g num net (.slice (yi ⟨cb,co,Ai⟩) n cc) (Ji (Ji z 46 (IntKind.i64.wrap (z 46+1))) 45 ((nx:Int)+1)))++[uj B 5 R A N]) _ _ hF).mono (fun _ _ h=>h.elim) fun ch w' h=>⟨h.1,h.2.drop⟩) ?_;exact fun _ _ h=>h.elim
theorem nN(vm:((97:Nat)==L.ev)=gi)(hi:rows[ic]?=yi (Ri g num net (.slice (yi ⟨cb,co,Ai⟩) n cc) z))(hs:Still L w0 cb)(Gj:∀j,j<n*4->w0.cell? ⟨cb,co+j,Ai⟩=yi (.int .i64 (ci j)))(nx:Nat)(hz:z 45=nx)(Wi:nx<n)(hn:n<=48)
  (R A:Nat)(dp:R<4)(ep:A<4)(hop:ci (nx*4)=6)(hR:ci (nx*4+1)=R)(hA:ci (nx*4+2)=A)(N:Int)(hN:ci (nx*4+3)=N)(hy:(Ji (Ji z 46 (IntKind.i64.wrap (z 46+1))) 45 ((nx:Int)+1)) (25+A)<0\/16<=(Ji (Ji z 46 (IntKind.i64.wrap (z 46+1))) 45 ((nx:Int)+1)) (25+A))(inV Kt:ti)(w:ui)(hF:Kn L w0 rows w):
  Xi prog gi L.R1 L.D1 113 #[.pointer (yi ⟨g,0,Ai⟩),inV,Kt] w (fun _ _=>False) (fun ch w'=>ch=[{v:=.iface 222 (.int .i64 2),recovered:=gi}]/\Kn L w0 (rows.set ic (Ri g num net (.slice (yi ⟨cb,co,Ai⟩) n cc) (Ji (Ji z 46 (IntKind.i64.wrap (z 46+1))) 45 ((nx:Int)+1)))) w'):=by
 refine jc fun hk=>?_;refine step_head vm hi hs Gj nx hz Wi hn R A dp ep hop hR hA N hN inV Kt w hF fun cl cs Stop jm zQ B w3 hF=>?_;refine Xa fun YN QO=>?_;refine J8 ?_;refine Fa ?_;refine L8 ?_;refine J8 ?_;refine T9 ?_;refine J8 ?_;refine .Gi L.Bi [0,1,2,3,4,5,6,7,8,9] I0 ?_;refine P9 ?_;refine K8 fun w1 K hK hF=>?_;refine Dh fun hc=>?_;refine I8 ?_ ?_
 ·refine Xg ?_;exact W8
 clear hK K;clear hc;refine W9 ?_;exact Ci.Bv L.Bi rfl I0 hk rfl func128 I0 rfl #[.pointer (yi ⟨g,0,Ai⟩),.int .i64 ((Ji (Ji z 46 (IntKind.i64.wrap (z 46+1))) 45 ((nx:Int)+1)) (25+A))] J0 (CO (rows:=rows.set ic (Ri g num net (.slice (yi ⟨cb,co,Ai⟩) n cc) (Ji (Ji z 46 (IntKind.i64.wrap (z 46+1))) 45 ((nx:Int)+1)))++[uj B 6 R A N]) _ hy _ hF) (fun _ _ h=>h.elim) fun ch w' fr h h1 _ h3 h4=>zQ fr ch w' h1 h3 h4 ⟨h.1,h.2.drop⟩
theorem FI(vm:((97:Nat)==L.ev)=gi)(hi:rows[ic]?=yi (Ri g num net (.slice (yi ⟨cb,co,Ai⟩) n cc) z))(hs:Still L w0 cb)(Gj:∀j,j<n*4->w0.cell? ⟨cb,co+j,Ai⟩=yi (.int .i64 (ci j)))(nx:Nat)(hz:z 45=nx)(Wi:nx<n)(hn:n<=48)
  (R A:Nat)(dp:R<4)(ep:A<4)(hop:ci (nx*4)=7)(hR:ci (nx*4+1)=R)(hA:ci (nx*4+2)=A)(N:Int)(hN:ci (nx*4+3)=N)(hy:(Ji (Ji z 46 (IntKind.i64.wrap (z 46+1))) 45 ((nx:Int)+1)) (25+A)<0\/16<=(Ji (Ji z 46 (IntKind.i64.wrap (z 46+1))) 45 ((nx:Int)+1)) (25+A))(inV Kt:ti)(w:ui)(hF:Kn L w0 rows w):
  Xi prog gi L.R1 L.D1 113 #[.pointer (yi ⟨g,0,Ai⟩),inV,Kt] w (fun _ _=>False) (fun ch w'=>ch=[{v:=.iface 222 (.int .i64 2),recovered:=gi}]/\Kn L w0 (rows.set ic (Ri g num net (.slice (yi ⟨cb,co,Ai⟩) n cc) (Ji (Ji z 46 (IntKind.i64.wrap (z 46+1))) 45 ((nx:Int)+1)))) w'):=by
 refine jc fun hk=>?_;refine step_head vm hi hs Gj nx hz Wi hn R A dp ep hop hR hA N hN inV Kt w hF fun cl cs Stop jm zQ B w3 hF=>?_;refine Xa fun YN QO=>?_;refine J8 ?_;refine Zd ?_;refine L8 ?_;refine J8 ?_;refine T9 ?_;refine J8 ?_;refine Ci.Ym (S:=Si L w0 (rows.set ic (Ri g num net (.slice (yi ⟨cb,co,Ai⟩) n cc) (Ji (Ji z 46 (IntKind.i64.wrap (z 46+1))) 45 ((nx:Int)+1)))) [uj B 7 R A N]) (Die:=fun ch w'=>ch=[{v:=.iface 222 (.int .i64 2),recovered:=gi}]/\Kn L w0 (rows.set ic (Ri g num net (.slice (yi ⟨cb,co,Ai⟩) n cc) (Ji (Ji z 46 (IntKind.i64.wrap (z 46+1))) 45 ((nx:Int)+1)))) w') L.Bi L.Wm 10 I0 hk J0 (fun _ _ _ h=>h) (fun ch w' fr h h1 _ h3 h4=>zQ fr ch w' h1 h3 h4 h) fun w1 hR=>?_;replace hF:=(hF.rely hR).rely (Turn.drew _);clear hR;co_applyP sj L.Bi (fun _ _ _ _ h _=>h.elim) (fun _ _ h r=>Si.rely h r) ?QK (i:=0) rfl T0 T0 T0 T0 (.inl ⟨I0,fun _ hw=>⟨run_eq_of ?zx,?qC⟩⟩) hF ?AU
 case QK=>exact fun _ _ _ h r=>Ci.rely L.Bi.trans h r
 case zx=>
  exact oa
 case qC=>
  exact Cb
 refine W9 ?_;co_applyP sj L.Bi (fun _ _ _ _ h _=>h.elim) (fun _ _ h r=>Si.rely h r) ?iM (i:=1) rfl T0 T0 T0 T0 (.inl ⟨I0,fun _ hw=>⟨run_eq_of ?mB,?xC⟩⟩) hF ?PU
 case iM=>exact fun _ _ _ h r=>Ci.rely L.Bi.trans h r
 case mB=>
  exact oa
 case xC=>
  exact Cb
 refine W9 ?_;co_applyP sj L.Bi (fun _ _ _ _ h _=>h.elim) (fun _ _ h r=>Si.rely h r) ?CM (i:=2) rfl T0 T0 T0 T0 (.inl ⟨I0,fun _ hw=>⟨run_eq_of ?wE,?NB⟩⟩) hF ?GU
 case CM=>exact fun _ _ _ h r=>Ci.rely L.Bi.trans h r
 case wE=>
  exact oa
 case NB=>
  exact Cb
 refine W9 ?_;co_applyP sj L.Bi (fun _ _ _ _ h _=>h.elim) (fun _ _ h r=>Si.rely h r) ?BM (i:=3) rfl T0 T0 T0 T0 (.inl ⟨I0,fun _ hw=>⟨run_eq_of ?MD,?aD⟩⟩) hF ?XU
 case BM=>exact fun _ _ _ h r=>Ci.rely L.Bi.trans h r
 case MD=>
  intro K hK;refine T8 fun hc=>?_;exact kg
 case aD=>
  refine T8 fun hc=>?_;refine Ld ?_;exact W8
 refine W9 ?_;co_applyP sj L.Bi (fun _ _ _ _ h _=>h.elim) (fun _ _ h r=>Si.rely h r) ?nM (i:=5) rfl T0 T0 T0 T0 (.inl ⟨I0,fun _ hw=>⟨run_eq_of ?ZG,?JB⟩⟩) hF ?uV
 case nM=>exact fun _ _ _ h r=>Ci.rely L.Bi.trans h r
 case ZG=>
  exact oa
 case JB=>
  exact Cb
 refine W9 ?_;co_applyP sj L.Bi (fun _ _ _ _ h _=>h.elim) (fun _ _ h r=>Si.rely h r) ?IL (i:=6) rfl T0 T0 T0 T0 (.inl ⟨I0,fun _ hw=>⟨run_eq_of ?vM,?OB⟩⟩) hF ?aV
 case IL=>exact fun _ _ _ h r=>Ci.rely L.Bi.trans h r
 case vM=>
  exact oa
 case OB=>
  exact Cb
 refine W9 ?_;co_applyP sj L.Bi (fun _ _ _ _ h _=>h.elim) (fun _ _ h r=>Si.rely h r) ?rL (i:=7) rfl T0 T0 T0 T0 (.inl ⟨I0,fun _ hw=>⟨run_eq_of ?TM,?bD⟩⟩) hF ?iV
 case rL=>exact fun _ _ _ h r=>Ci.rely L.Bi.trans h r
 case TM=>
  intro K hK;refine S8 fun hc=>?_;exact kg
 case bD=>
  refine S8 fun hc=>?_;refine Ld ?_;exact W8
 refine W9 ?_;refine Rl (Post:=fun _ _=>False) (i:=4) T0 rfl I0 rfl func128 I0 rfl #[.pointer (yi ⟨g,0,Ai⟩),.int .i64 ((Ji (Ji z 46 (IntKind.i64.wrap (z 46+1))) 45 ((nx:Int)+1)) (25+A))] J0 ((CO (rows:=rows.set ic (Ri g num net (.slice (yi ⟨cb,co,Ai⟩) n cc) (Ji (Ji z 46 (IntKind.i64.wrap (z 46+1))) 45 ((nx:Int)+1)))++[uj B 7 R A N]) _ hy _ hF).mono (fun _ _ h=>h.elim) fun ch w' h=>⟨h.1,h.2.drop⟩) ?_;exact fun _ _ h=>h.elim
end
def Bt(P:Program)(L:km)(FS:ui->Prop)(f:FuncId)(args:Array ti)(w:ui)(evs:List ti)(Post:ti->ui->Prop)(Die:List PanicEntry->ui->Prop):Prop:=
 ∀(cl:Frame)(cs:List Frame)(vs:List ti),(∀v w',Post v w'->Ci P gi L.R1 L.D1 (StopB P L.c L.R1 L.D1 L.SL FS vs) (G (cl.finish v) cs) w')->(∀ch w',Die ch w'->Ci P gi L.R1 L.D1 (StopB P L.c L.R1 L.D1 L.SL FS vs) (G (cl.raise ch) cs) w')->
  Ci P gi L.R1 L.D1 (StopB P L.c L.R1 L.D1 L.SL FS (evs++vs)) (G (Frame.enter P f args .normal) (cl::cs)) w
theorem Xi.quiet{P:Program}{L:km}{FS:ui->Prop}{f:FuncId}{args:Array ti}{w:ui}{Post:ti->ui->Prop}{Die:List PanicEntry->ui->Prop}(h:Xi P gi L.R1 L.D1 f args w Post Die):Bt P L FS f args w [] Post Die:=fun cl cs _ h1 h2=>h cl cs _ h1 h2
theorem Bt.intro{P:Program}{L:km}{FS:ui->Prop}{f:FuncId}{fn:Func}{c:Code}{args:Array ti}{w:ui}{evs:List ti}(tmps:Array ti){Post:ti->ui->Prop}{Die:List PanicEntry->ui->Prop}(hf:P.funcs[f]?=yi fn)(hb:fn.body=yi c)(ht:args++Array.replicate (fn.ntmps-args.size) ri=tmps)
  (h:∀(cl:Frame)(cs:List Frame)(vs:List ti),
   (∀a todo w' v,a.defers=[]->qp P L.R1 L.D1 f fn a.tmps w' v->Post v w'->Ci P gi L.R1 L.D1 (StopB P L.c L.R1 L.D1 L.SL FS vs) (G {(base f).at a todo with mode:=.returning} (cl::cs)) w')->
   (∀fr ch w',fr.fn=f->fr.defers=[]->fr.mode=.panicking ch->Die ch w'->Ci P gi L.R1 L.D1 (StopB P L.c L.R1 L.D1 L.SL FS vs) (G fr (cl::cs)) w')->
   Ci P gi L.R1 L.D1 (StopB P L.c L.R1 L.D1 L.SL FS (evs++vs)) (G ((base f).at {tmps:=tmps,defers:=[]} [.code c]) (cl::cs)) w):Bt P L FS f args w evs Post Die:=fun cl cs vs hp hd=>by
 rw[enter_at args hf hb,ht];exact h cl cs vs (fun a todo w' v h1 h2 h3=>.leave L.Bi hf h1 h2 (hp v w' h3)) fun fr ch w' h1 h2 h3 h4=>.up L.Bi h3 h2 (by rw[h1];exact hf) (hd ch w' h4)
theorem Ci.send{P:Program}{L:km}{FS:ui->Prop}{vs:List ti}{b:Frame}{a:Act}{k:List Item}{cs:List Frame}{w:ui}{ops:Array Oper}{i:Nat}{rest:List Nat}{o:Oper}{x y:Operand}{v:ti}(ho:ops[i]?=yi o)(hw:Region.wanted o (yielded ops a.tmps)=ji)(hk:b.kind≠.early)(hop:o.op=.send x y)(hx:a.eval x=.chan (yi L.c))(hy:a.eval y=v)
  (h:Ci P gi L.R1 L.D1 (StopB P L.c L.R1 L.D1 L.SL FS vs) (G (b.at (a.put o.dst ri) (.inRegion ops rest::k)) cs) w):Ci P gi L.R1 L.D1 (StopB P L.c L.R1 L.D1 L.SL FS (v::vs)) (G (b.at a (.inRegion ops (i::rest)::k)) cs) w:=by
 refine .stop rfl fun w₁ r=>⟨G (b.at a (.inRegion ops (i::rest)::k)) cs,.tuple #[],#[],?_,P0,fun w₂ r₂=>?_⟩
 ·rw[stepG_comm (cases:=#[scase L.c v (.tuple #[])]) (blocking:=ji) (shape:=.send) (w':=w₁) ho hw hk (by simp[execOp,hop,hx,hy,scase])];have he:(execOp a.eval o).events P w₁ #[]=#[]:=by
   refine G9 ?_;rfl
  rw[listed_nil he]
 ·have e:Go.Conc.served (G (b.at a (.inRegion ops (i::rest)::k)) cs) ri=G (b.at (a.put o.dst ri) (.inRegion ops rest::k)) cs:=by
   rw[served_G];simp[ho]
  rw[e];exact(h.rely L.Bi.trans r).rely L.Bi.trans r₂
section
variable {L:km}{w0:ui}{rows:List Row}{ic g cb co n cc:Nat}{num:Int}{net:ti}{z ci:Nat->Int}
theorem t00{FS:ui->Prop}(vm:((97:Nat)==L.ev)=gi)(hi:rows[ic]?=yi (Ri g num net (.slice (yi ⟨cb,co,Ai⟩) n cc) z))(hs:Still L w0 cb)(Gj:∀j,j<n*4->w0.cell? ⟨cb,co+j,Ai⟩=yi (.int .i64 (ci j)))(nx:Nat)(hz:z 45=nx)(Wi:nx<n)(hn:n<=48)
  (R A:Nat)(dp:R<4)(ep:A<4)(hop:ci (nx*4)=15)(hR:ci (nx*4+1)=R)(hA:ci (nx*4+2)=A)(N:Int)(hN:ci (nx*4+3)=N)(inV:ti)(w:ui)(hF:Kn L w0 rows w):
  Bt prog L FS 113 #[.pointer (yi ⟨g,0,Ai⟩),inV,.chan (yi L.c)] w [.agg #[.int .i64 1,.int .i64 ((Ji (Ji z 46 (IntKind.i64.wrap (z 46+1))) 45 ((nx:Int)+1)) (25+R)),.int .i64 0]] (fun v w'=>v=.int .i64 15/\Kn L w0 (rows.set ic (Ri g num net (.slice (yi ⟨cb,co,Ai⟩) n cc) (Ji (Ji z 46 (IntKind.i64.wrap (z 46+1))) 45 ((nx:Int)+1)))) w') (fun _ _=>False):=by
 refine jc fun hk=>?_;refine Bt.intro (c:=SS) _ func113 rfl J0 fun cl cs vs jm _=>jH vm hi hs Gj nx hz Wi hn R A dp ep hop hR hA N hN inV (.chan (yi L.c)) w hF fun B w3 hF=>?_;refine Xa fun YN QO=>?_;refine J8 ?_;iterate 9 (refine .Gi L.Bi [0,1] I0 ?_;iterate 2 (refine .pj L.Bi rfl I0 hk ?_;try walk_nrm);repeat refine .c1 L.Bi rfl ?_;refine .xk L.Bi I0 ?_;repeat refine .c1 L.Bi rfl ?_)
 refine L8 ?_;refine J8 ?_;refine T9 ?_;refine J8 ?_;refine N9 ?_;refine P8 ?_;refine K8 fun w1 K hK hF=>?_;refine k9 fun hc=>?_;refine I8 ?_ ?_
 ·refine Xg ?_;exact W8
 clear hK K;clear hc;refine W9 ?_;refine M8 ?_;refine Ci.send rfl I0 hk rfl rfl rfl ?_;refine W9 ?_;refine J8 ?_;refine Q9 ?_;refine M8 ?_;refine K8 fun w1 K hK hF=>?_;refine mb fun a0 a1 a2 a3=>?_;refine I8 ?_ ?_
 ·refine V9 ?_;exact W8
 clear hK K;clear a0 a1 a2 a3;refine W9 ?_;refine M8 ?_;refine J8 ?_;exact Z8
end
section
variable {P:Program}{main:Bool}{R:ui->ui->Prop}{D:ui->ui->Array Event->Prop}{Stop:Goroutine->ui->Prop}{b:Frame}{a:Act}{k:List Item}{cs:List Frame}{w:ui}{ops:Array Oper}{i:Nat}{rest:List Nat}{o:Oper}
theorem Ci.defer(T:Terms R D)(ho:ops[i]?=yi o)(hw:Region.wanted o (yielded ops a.tmps)=ji)(hk:b.kind≠.early)(d:Deferred)(hr:∀w,(execOp a.eval o).run P w=.ok (.defer d) w)(he:∀w,(execOp a.eval o).events P w #[]=#[])
  (h:Ci P main R D Stop (G (b.at (Act.put ⟨a.tmps,d::a.defers⟩ o.dst ri) (.inRegion ops rest::k)) cs) w):Ci P main R D Stop (G (b.at a (.inRegion ops (i::rest)::k)) cs) w:=by
 refine .ctl T rfl (fun w₁=>?_) h;have Us:(b.at ⟨a.tmps,d::a.defers⟩ (.inRegion ops (i::rest)::k)).finish ri=b.at (Act.put ⟨a.tmps,d::a.defers⟩ o.dst ri) (.inRegion ops rest::k):=by rw[Frame.finish_at,ho];rfl
 have sF:(b.kind==CallKind.early)=false:=by simpa using hk
 rw[stepG_oper ho hw,<-Us];simp[stepG.apply,hr,he,G,Frame.at,sF,GStep.after,seen_none]
theorem Ci.pO(T:Terms R D){c:Frame}(ho:ops[i]?=yi o)(hw:Region.wanted o (yielded ops a.tmps)=ji)(hk:b.kind=.deferred)(hop:o.op=.call {callee:=.builtin .recover,args:=#[],argTypes:=#[]})(hc:c.mode=.returning)
  (h:Ci P main R D Stop (G (b.at (a.put o.dst .nilIface) (.inRegion ops rest::k)) (c::cs)) w):Ci P main R D Stop (G (b.at a (.inRegion ops (i::rest)::k)) (c::cs)) w:=by
 refine .ctl T rfl (fun w₁=>?_) h;have Us:(b.at a (.inRegion ops (i::rest)::k)).finish .nilIface=b.at (a.put o.dst .nilIface) (.inRegion ops rest::k):=by rw[Frame.finish_at,ho];rfl
 have hr:(execOp a.eval o).run P w₁=.ok .recover w₁:=by
  exact Df
 have he:(execOp a.eval o).events P w₁ #[]=#[]:=by
  exact Df
 exact Bg
theorem Ci.XO(T:Terms R D){c:Frame}{v:ti}(ho:ops[i]?=yi o)(hw:Region.wanted o (yielded ops a.tmps)=ji)(hk:b.kind=.deferred)(hop:o.op=.call {callee:=.builtin .recover,args:=#[],argTypes:=#[]})(hc:c.mode=.panicking [{v,recovered:=gi}])
  (h:Ci P main R D Stop (G (b.at (a.put o.dst v) (.inRegion ops rest::k)) ({c with mode:=.panicking [{v,recovered:=ji}]}::cs)) w):Ci P main R D Stop (G (b.at a (.inRegion ops (i::rest)::k)) (c::cs)) w:=by
 refine .ctl T rfl (fun w₁=>?_) h;have Us:(b.at a (.inRegion ops (i::rest)::k)).finish v=b.at (a.put o.dst v) (.inRegion ops rest::k):=by rw[Frame.finish_at,ho];rfl
 have hr:(execOp a.eval o).run P w₁=.ok .recover w₁:=by
  exact Df
 have he:(execOp a.eval o).events P w₁ #[]=#[]:=by
  exact Df
 exact Bg
theorem Ci.unwind (T : Terms R D) {fr : Frame} {f : FuncId} {fn : Func} {c : Code} {xs cap : Array ti} {ds : List Deferred} (tmps : Array ti) (hm : fr.mode ≠ .run) (hd : fr.defers = { target := .fn (.func f) cap, args := xs } :: ds) (hf : P.funcs[f]? = yi fn) (Xw : (fn.name == "runtime.NumGoroutine") = gi) (hb : fn.body = yi c)
  (ht:(xs++cap)++Array.replicate (fn.ntmps-(xs++cap).size) ri=tmps)
  (h:Ci P main R D Stop (G ((baseD f).at {tmps:=tmps,defers:=[]} [.code c]) ({fr with defers:=ds}::cs)) w):Ci P main R D Stop (G fr cs) w:=by
 refine .ctl T rfl (fun w₁=>?_) h;have h1 : ¬ fn.name = "runtime.NumGoroutine" := by simpa using Xw
 rw[Zl hm,<-ht,<-enter_atD (xs++cap) hf hb];unfold Go.unwind;simp only[hd];simp[callDeferred,invoke,callFunc,hf,h1,hb,GStep.after,seen_none,G]
theorem Ci.leaveD(T:Terms R D){f:FuncId}{fn:Func}{todo:List Item}{c c':Frame}{v:ti}(hf:P.funcs[f]?=yi fn)(hd:a.defers=[])(hr:qp P R D f fn a.tmps w v)
  (hc:(c.mode=.returning/\c'=c)\/(∃x,c.mode=.panicking [{v:=x,recovered:=ji}]/\c'={c with mode:=.returning}))
  (h:Ci P main R D Stop (G c' cs) w):Ci P main R D Stop (G {(baseD f).at a todo with mode:=.returning} (c::cs)) w:=by
 refine .one rfl fun w₁ h₁=>⟨_,_,seen P f ((results fn a.tmps).events P w₁ #[]),?_,(hr w₁ h₁).2,h.rely T.trans h₁⟩;have e:=(hr w₁ h₁).1;rcases hc with⟨hm,rfl⟩|⟨x,hm,rfl⟩
 ·simp[G,stepG,Go.unwind,doReturn,Frame.at,baseD,hd,hf,e,hm,GStep.after]
 ·simp[G,stepG,Go.unwind,doReturn,Frame.at,baseD,hd,hf,e,hm,GStep.after]
end
section
variable {P:Program}{L:km}{FS:ui->Prop}{b:Frame}{a:Act}{k:List Item}{cs:List Frame}{w:ui}{ops:Array Oper}{i:Nat}{rest:List Nat}{o:Oper}
theorem Ci.V70{f:FuncId}{fn:Func}{c:Code}{args:Array Operand}{qG:Array TypeId}{Post:ti->ui->Prop}{Die:List PanicEntry->ui->Prop}{evs vs:List ti}
  (ho:ops[i]?=yi o)(hw:Region.wanted o (yielded ops a.tmps)=ji)(hk:b.kind≠.early)(hop:o.op=.call {callee:=.value (.func f),args,argTypes:=qG})
  (hf : P.funcs[f]? = yi fn) (Xw : (fn.name == "runtime.NumGoroutine") = gi) (hb : fn.body = yi c) (xs : Array ti) (hv : args.map a.eval = xs) (hc : Bt P L FS f xs w evs Post Die)
  (h:∀v w',Post v w'->Ci P gi L.R1 L.D1 (StopB P L.c L.R1 L.D1 L.SL FS vs) (G (b.at (a.put o.dst v) (.inRegion ops rest::k)) cs) w')
  (hd:∀ch w',Die ch w'->Ci P gi L.R1 L.D1 (StopB P L.c L.R1 L.D1 L.SL FS vs) (G {b.at a (.inRegion ops (i::rest)::k)with mode:=.panicking ch} cs) w'):
  Ci P gi L.R1 L.D1 (StopB P L.c L.R1 L.D1 L.SL FS (evs++vs)) (G (b.at a (.inRegion ops (i::rest)::k)) cs) w:=by
 refine Ci.enter L.Bi ho hw hk hop hf Xw hb ?_;rw[<-enter_at _ hf hb,hv];refine hc _ cs vs (fun v w' x=>?_) fun ch w' x=>hd ch w' x;rw[Frame.finish_at,ho];exact h v w' x
end
end Go.Proofs.YtdoghgnifkgfdaaGreat.Mute
