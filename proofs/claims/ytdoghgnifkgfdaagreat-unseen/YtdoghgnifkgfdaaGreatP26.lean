import Derived.Test.YtdoghgnifkgfdaaGreatP25
set_option maxRecDepth 100000
set_option maxHeartbeats 16000000
namespace Go.Proofs.YtdoghgnifkgfdaaGreat.Mute
open Go Go.Conc Go.RowKit
section
variable {L:Lot} {w0:World} {rows:List Row} {ic g cb co n cc:Nat} {num:Int} {net:Value} {z ci:Nat→Int}
theorem Y4Q (hev:((97:Nat)==L.ev)=false) (hi:rows[ic]?=some (Y5 g num net (.slice (some ⟨cb,co,none⟩) n cc) z)) (hs:Still L w0 cb) (hcode:∀j,j<n*4→w0.cell? ⟨cb,co+j,none⟩=some (.int .i64 (ci j))) (nx:Nat) (hz:z 45=nx) (hlt:nx<n) (hn:n≤48)
  (R A:Nat) (hR4:R<4) (hA4:A<4) (hop:ci (nx*4)=2) (hR:ci (nx*4+1)=R) (hA:ci (nx*4+2)=A) (N:Int) (hN:ci (nx*4+3)=N) (inV chV:Value) (w:World) (hF:Kn L w0 rows w):
  Yl Tryz.prog false L.R1 L.D1 113 #[.pointer (some ⟨g,0,none⟩),inV,chV] w (fun v w'=>v=.int .i64 2∧Kn L w0 (rows.set ic (Y5 g num net (.slice (some ⟨cb,co,none⟩) n cc) (zset (zset (zset z 46 (IntKind.i64.wrap (z 46+1))) 45 ((nx:Int)+1)) (25+R) (IntKind.i64.wrap ((zset (zset z 46 (IntKind.i64.wrap (z 46+1))) 45 ((nx:Int)+1)) (25+R)+(zset (zset z 46 (IntKind.i64.wrap (z 46+1))) 45 ((nx:Int)+1)) (25+A)))))) w') (fun _ _=>False):=by
 have hk:(base 113).kind≠.early:=by simp [base]
 refine XI hev hi hs hcode nx hz hlt hn R A hR4 hA4 hop hR hA N hN inV chV w hF fun cl cs Stop Ret _ B w3 hF=>?_;have hRi:(R:Int)<4:=by omega
 have hAi:(A:Int)<4:=by omega
 repeat refine .c1 L.terms1 rfl ?_
 iterate 1 (refine .regionL L.terms1 [0,1] (by rfl) ?_;iterate 2 (refine .opV L.terms1 rfl (by rfl) hk ?_;try walk_nrm);repeat refine .c1 L.terms1 rfl ?_;refine .condF L.terms1 (by rfl) ?_;repeat refine .c1 L.terms1 rfl ?_)
 refine .regionL L.terms1 [0,1] (by rfl) ?_;iterate 2 (refine .opV L.terms1 rfl (by rfl) hk ?_;try walk_nrm)
 repeat refine .c1 L.terms1 rfl ?_
 refine Y1.condT L.terms1 (by rfl) ?_;repeat refine .c1 L.terms1 rfl ?_
 refine Y1.drawnN (S:=KnL L w0 (rows.set ic (Y5 g num net (.slice (some ⟨cb,co,none⟩) n cc) (zset (zset z 46 (IntKind.i64.wrap (z 46+1))) 45 ((nx:Int)+1)))) [Yt B 2 R A N]) (Die:=fun _ _=>False) L.terms1 L.draws1 9 (by rfl) hk (by kernel_rfl) (fun _ _ _ h=>h) (fun _ _ _ h=>h.elim) fun w1 hR=>?_;replace hF:=(hF.rely hR).rely (Turn.drew _);clear hR;refine Y4 L.terms1 0 (fun _ _ h r=>KnL.rely h r) hF ?_;try walk_nrm
 refine Y4 L.terms1 1 (fun _ _ h r=>KnL.rely h r) hF ?_;try walk_nrm
 refine Ye L.terms1 2 rfl (fun _ _ h r=>KnL.rely h r) hF ?_ fun _ hw=>⟨run_eq_of (by
  intro K hK;have hc:World.cell? _ ⟨g,25+R,none⟩=some (.int .i64 ((zset (zset z 46 (IntKind.i64.wrap (z 46+1))) 45 ((nx:Int)+1)) (25+R))):=KnL.cz hi hw (by omega) (by omega);go_simp;exact hK),by
  have hc:World.cell? _ ⟨g,25+R,none⟩=some (.int .i64 ((zset (zset z 46 (IntKind.i64.wrap (z 46+1))) 45 ((nx:Int)+1)) (25+R))):=KnL.cz hi hw (by omega) (by omega);refine KnL.clooks hi hw ?_;co_evs (exact ⟨_,rfl⟩)⟩
 try walk_nrm
 refine Y4 L.terms1 3 (fun _ _ h r=>KnL.rely h r) hF ?_;try walk_nrm
 refine Y4 L.terms1 4 (fun _ _ h r=>KnL.rely h r) hF ?_;try walk_nrm
 refine Ye L.terms1 5 rfl (fun _ _ h r=>KnL.rely h r) hF ?_ fun _ hw=>⟨run_eq_of (by
  intro K hK;have hc:World.cell? _ ⟨g,25+A,none⟩=some (.int .i64 ((zset (zset z 46 (IntKind.i64.wrap (z 46+1))) 45 ((nx:Int)+1)) (25+A))):=KnL.cz hi hw (by omega) (by omega);go_simp;exact hK),by
  have hc:World.cell? _ ⟨g,25+A,none⟩=some (.int .i64 ((zset (zset z 46 (IntKind.i64.wrap (z 46+1))) 45 ((nx:Int)+1)) (25+A))):=KnL.cz hi hw (by omega) (by omega);refine KnL.clooks hi hw ?_;co_evs (exact ⟨_,rfl⟩)⟩
 try walk_nrm
 refine Y4 L.terms1 6 (fun _ _ h r=>KnL.rely h r) hF ?_;try walk_nrm
 refine Y4 L.terms1 7 (fun _ _ h r=>KnL.rely h r) hF ?_;try walk_nrm
 refine XZ (i:=8) (by first|kernel_rfl|decide +kernel) rfl (by rfl) ?_;intro w1 hR K hK;replace hF:=hF.rely hR;clear hR;have hc:World.cell? _ ⟨g,25+R,none⟩=some (.int .i64 ((zset (zset z 46 (IntKind.i64.wrap (z 46+1))) 45 ((nx:Int)+1)) (25+R))):=KnL.cz hi hF (by omega) (by omega);have hz2:World.frozen? _ ⟨g,25+R,none⟩=false:=KnL.cfz hi hF (25+R);go_simp;try (unfold stored;go_simp)
 refine hK _ _ ⟨?_,?_,?_⟩
 ·refine KnL.cdoes hi hF (25+R) _ ?_;co_evs (exact rfl)
 ·exact .inr (Z8 rfl (by first|kernel_rfl|decide +kernel))
 clear hK K;clear hc hz2;replace hF:=KnL.cset hi hF (j:=25+R) (by omega) (IntKind.i64.wrap ((zset (zset z 46 (IntKind.i64.wrap (z 46+1))) 45 ((nx:Int)+1)) (25+R)+(zset (zset z 46 (IntKind.i64.wrap (z 46+1))) 45 ((nx:Int)+1)) (25+A)));try walk_nrm
 refine Xi (by first|kernel_rfl|decide +kernel) ?_ _;repeat refine .c1 L.terms1 rfl ?_
 refine .regionL L.terms1 [0,1,2] (by rfl) ?_;refine .opV L.terms1 rfl (by rfl) hk ?_;try walk_nrm
 refine .op rfl (by rfl) hk fun w1 hR K hK=>?_;replace hF:=hF.rely hR;clear hR;obtain ⟨a0,a1,a2,a3⟩:=hF.lins (k:=0) rfl;go_simp;try (unfold stored;go_simp)
 refine hK _ _ ⟨?_,?_⟩
 ·refine hF.llooks (k:=0) rfl ?_;co_evs (exact ⟨_,rfl⟩)
 clear hK K;clear a0 a1 a2 a3;try walk_nrm
 refine .opV L.terms1 rfl (by rfl) hk ?_;try walk_nrm
 repeat refine .c1 L.terms1 rfl ?_
 refine Y1.ret L.terms1 fun todo=>?_;exact Ret _ todo _ _ rfl (Xj L.terms1 (by rfl) _) ⟨by rfl,hF.drop⟩
theorem Yav (hev:((97:Nat)==L.ev)=false) (hi:rows[ic]?=some (Y5 g num net (.slice (some ⟨cb,co,none⟩) n cc) z)) (hs:Still L w0 cb) (hcode:∀j,j<n*4→w0.cell? ⟨cb,co+j,none⟩=some (.int .i64 (ci j))) (nx:Nat) (hz:z 45=nx) (hlt:nx<n) (hn:n≤48)
  (R A:Nat) (hR4:R<4) (hA4:A<4) (hop:ci (nx*4)=3) (hR:ci (nx*4+1)=R) (hA:ci (nx*4+2)=A) (N:Int) (hN:ci (nx*4+3)=N) (inV chV:Value) (w:World) (hF:Kn L w0 rows w):
  Yl Tryz.prog false L.R1 L.D1 113 #[.pointer (some ⟨g,0,none⟩),inV,chV] w (fun v w'=>v=.int .i64 3∧Kn L w0 (rows.set ic (Y5 g num net (.slice (some ⟨cb,co,none⟩) n cc) (zset (zset (zset z 46 (IntKind.i64.wrap (z 46+1))) 45 ((nx:Int)+1)) (25+R) (IntKind.i64.wrap ((zset (zset z 46 (IntKind.i64.wrap (z 46+1))) 45 ((nx:Int)+1)) (25+R)-(zset (zset z 46 (IntKind.i64.wrap (z 46+1))) 45 ((nx:Int)+1)) (25+A)))))) w') (fun _ _=>False):=by
 have hk:(base 113).kind≠.early:=by simp [base]
 refine XI hev hi hs hcode nx hz hlt hn R A hR4 hA4 hop hR hA N hN inV chV w hF fun cl cs Stop Ret _ B w3 hF=>?_;have hRi:(R:Int)<4:=by omega
 have hAi:(A:Int)<4:=by omega
 repeat refine .c1 L.terms1 rfl ?_
 iterate 2 (refine .regionL L.terms1 [0,1] (by rfl) ?_;iterate 2 (refine .opV L.terms1 rfl (by rfl) hk ?_;try walk_nrm);repeat refine .c1 L.terms1 rfl ?_;refine .condF L.terms1 (by rfl) ?_;repeat refine .c1 L.terms1 rfl ?_)
 refine .regionL L.terms1 [0,1] (by rfl) ?_;iterate 2 (refine .opV L.terms1 rfl (by rfl) hk ?_;try walk_nrm)
 repeat refine .c1 L.terms1 rfl ?_
 refine Y1.condT L.terms1 (by rfl) ?_;repeat refine .c1 L.terms1 rfl ?_
 refine Y1.drawnN (S:=KnL L w0 (rows.set ic (Y5 g num net (.slice (some ⟨cb,co,none⟩) n cc) (zset (zset z 46 (IntKind.i64.wrap (z 46+1))) 45 ((nx:Int)+1)))) [Yt B 3 R A N]) (Die:=fun _ _=>False) L.terms1 L.draws1 9 (by rfl) hk (by kernel_rfl) (fun _ _ _ h=>h) (fun _ _ _ h=>h.elim) fun w1 hR=>?_;replace hF:=(hF.rely hR).rely (Turn.drew _);clear hR;refine Y4 L.terms1 0 (fun _ _ h r=>KnL.rely h r) hF ?_;try walk_nrm
 refine Y4 L.terms1 1 (fun _ _ h r=>KnL.rely h r) hF ?_;try walk_nrm
 refine Ye L.terms1 2 rfl (fun _ _ h r=>KnL.rely h r) hF ?_ fun _ hw=>⟨run_eq_of (by
  intro K hK;have hc:World.cell? _ ⟨g,25+R,none⟩=some (.int .i64 ((zset (zset z 46 (IntKind.i64.wrap (z 46+1))) 45 ((nx:Int)+1)) (25+R))):=KnL.cz hi hw (by omega) (by omega);go_simp;exact hK),by
  have hc:World.cell? _ ⟨g,25+R,none⟩=some (.int .i64 ((zset (zset z 46 (IntKind.i64.wrap (z 46+1))) 45 ((nx:Int)+1)) (25+R))):=KnL.cz hi hw (by omega) (by omega);refine KnL.clooks hi hw ?_;co_evs (exact ⟨_,rfl⟩)⟩
 try walk_nrm
 refine Y4 L.terms1 3 (fun _ _ h r=>KnL.rely h r) hF ?_;try walk_nrm
 refine Y4 L.terms1 4 (fun _ _ h r=>KnL.rely h r) hF ?_;try walk_nrm
 refine Ye L.terms1 5 rfl (fun _ _ h r=>KnL.rely h r) hF ?_ fun _ hw=>⟨run_eq_of (by
  intro K hK;have hc:World.cell? _ ⟨g,25+A,none⟩=some (.int .i64 ((zset (zset z 46 (IntKind.i64.wrap (z 46+1))) 45 ((nx:Int)+1)) (25+A))):=KnL.cz hi hw (by omega) (by omega);go_simp;exact hK),by
  have hc:World.cell? _ ⟨g,25+A,none⟩=some (.int .i64 ((zset (zset z 46 (IntKind.i64.wrap (z 46+1))) 45 ((nx:Int)+1)) (25+A))):=KnL.cz hi hw (by omega) (by omega);refine KnL.clooks hi hw ?_;co_evs (exact ⟨_,rfl⟩)⟩
 try walk_nrm
 refine Y4 L.terms1 6 (fun _ _ h r=>KnL.rely h r) hF ?_;try walk_nrm
 refine Y4 L.terms1 7 (fun _ _ h r=>KnL.rely h r) hF ?_;try walk_nrm
 refine XZ (i:=8) (by first|kernel_rfl|decide +kernel) rfl (by rfl) ?_;intro w1 hR K hK;replace hF:=hF.rely hR;clear hR;have hc:World.cell? _ ⟨g,25+R,none⟩=some (.int .i64 ((zset (zset z 46 (IntKind.i64.wrap (z 46+1))) 45 ((nx:Int)+1)) (25+R))):=KnL.cz hi hF (by omega) (by omega);have hz2:World.frozen? _ ⟨g,25+R,none⟩=false:=KnL.cfz hi hF (25+R);go_simp;try (unfold stored;go_simp)
 refine hK _ _ ⟨?_,?_,?_⟩
 ·refine KnL.cdoes hi hF (25+R) _ ?_;co_evs (exact rfl)
 ·exact .inr (Z8 rfl (by first|kernel_rfl|decide +kernel))
 clear hK K;clear hc hz2;replace hF:=KnL.cset hi hF (j:=25+R) (by omega) (IntKind.i64.wrap ((zset (zset z 46 (IntKind.i64.wrap (z 46+1))) 45 ((nx:Int)+1)) (25+R)-(zset (zset z 46 (IntKind.i64.wrap (z 46+1))) 45 ((nx:Int)+1)) (25+A)));try walk_nrm
 refine Xi (by first|kernel_rfl|decide +kernel) ?_ _;repeat refine .c1 L.terms1 rfl ?_
 refine .regionL L.terms1 [0,1,2] (by rfl) ?_;refine .opV L.terms1 rfl (by rfl) hk ?_;try walk_nrm
 refine .op rfl (by rfl) hk fun w1 hR K hK=>?_;replace hF:=hF.rely hR;clear hR;obtain ⟨a0,a1,a2,a3⟩:=hF.lins (k:=0) rfl;go_simp;try (unfold stored;go_simp)
 refine hK _ _ ⟨?_,?_⟩
 ·refine hF.llooks (k:=0) rfl ?_;co_evs (exact ⟨_,rfl⟩)
 clear hK K;clear a0 a1 a2 a3;try walk_nrm
 refine .opV L.terms1 rfl (by rfl) hk ?_;try walk_nrm
 repeat refine .c1 L.terms1 rfl ?_
 refine Y1.ret L.terms1 fun todo=>?_;exact Ret _ todo _ _ rfl (Xj L.terms1 (by rfl) _) ⟨by rfl,hF.drop⟩
theorem YaB (hev:((97:Nat)==L.ev)=false) (hi:rows[ic]?=some (Y5 g num net (.slice (some ⟨cb,co,none⟩) n cc) z)) (hs:Still L w0 cb) (hcode:∀j,j<n*4→w0.cell? ⟨cb,co+j,none⟩=some (.int .i64 (ci j))) (nx:Nat) (hz:z 45=nx) (hlt:nx<n) (hn:n≤48)
  (R A:Nat) (hR4:R<4) (hA4:A<4) (hop:ci (nx*4)=4) (hR:ci (nx*4+1)=R) (hA:ci (nx*4+2)=A) (N:Int) (hN:ci (nx*4+3)=N) (inV chV:Value) (w:World) (hF:Kn L w0 rows w):
  Yl Tryz.prog false L.R1 L.D1 113 #[.pointer (some ⟨g,0,none⟩),inV,chV] w (fun v w'=>v=.int .i64 4∧Kn L w0 (rows.set ic (Y5 g num net (.slice (some ⟨cb,co,none⟩) n cc) (zset (zset (zset z 46 (IntKind.i64.wrap (z 46+1))) 45 ((nx:Int)+1)) (25+R) (IntKind.i64.wrap ((zset (zset z 46 (IntKind.i64.wrap (z 46+1))) 45 ((nx:Int)+1)) (25+R)*(zset (zset z 46 (IntKind.i64.wrap (z 46+1))) 45 ((nx:Int)+1)) (25+A)))))) w') (fun _ _=>False):=by
 have hk:(base 113).kind≠.early:=by simp [base]
 refine XI hev hi hs hcode nx hz hlt hn R A hR4 hA4 hop hR hA N hN inV chV w hF fun cl cs Stop Ret _ B w3 hF=>?_;have hRi:(R:Int)<4:=by omega
 have hAi:(A:Int)<4:=by omega
 repeat refine .c1 L.terms1 rfl ?_
 iterate 3 (refine .regionL L.terms1 [0,1] (by rfl) ?_;iterate 2 (refine .opV L.terms1 rfl (by rfl) hk ?_;try walk_nrm);repeat refine .c1 L.terms1 rfl ?_;refine .condF L.terms1 (by rfl) ?_;repeat refine .c1 L.terms1 rfl ?_)
 refine .regionL L.terms1 [0,1] (by rfl) ?_;iterate 2 (refine .opV L.terms1 rfl (by rfl) hk ?_;try walk_nrm)
 repeat refine .c1 L.terms1 rfl ?_
 refine Y1.condT L.terms1 (by rfl) ?_;repeat refine .c1 L.terms1 rfl ?_
 refine Y1.drawnN (S:=KnL L w0 (rows.set ic (Y5 g num net (.slice (some ⟨cb,co,none⟩) n cc) (zset (zset z 46 (IntKind.i64.wrap (z 46+1))) 45 ((nx:Int)+1)))) [Yt B 4 R A N]) (Die:=fun _ _=>False) L.terms1 L.draws1 9 (by rfl) hk (by kernel_rfl) (fun _ _ _ h=>h) (fun _ _ _ h=>h.elim) fun w1 hR=>?_;replace hF:=(hF.rely hR).rely (Turn.drew _);clear hR;refine Y4 L.terms1 0 (fun _ _ h r=>KnL.rely h r) hF ?_;try walk_nrm
 refine Y4 L.terms1 1 (fun _ _ h r=>KnL.rely h r) hF ?_;try walk_nrm
 refine Ye L.terms1 2 rfl (fun _ _ h r=>KnL.rely h r) hF ?_ fun _ hw=>⟨run_eq_of (by
  intro K hK;have hc:World.cell? _ ⟨g,25+R,none⟩=some (.int .i64 ((zset (zset z 46 (IntKind.i64.wrap (z 46+1))) 45 ((nx:Int)+1)) (25+R))):=KnL.cz hi hw (by omega) (by omega);go_simp;exact hK),by
  have hc:World.cell? _ ⟨g,25+R,none⟩=some (.int .i64 ((zset (zset z 46 (IntKind.i64.wrap (z 46+1))) 45 ((nx:Int)+1)) (25+R))):=KnL.cz hi hw (by omega) (by omega);refine KnL.clooks hi hw ?_;co_evs (exact ⟨_,rfl⟩)⟩
 try walk_nrm
 refine Y4 L.terms1 3 (fun _ _ h r=>KnL.rely h r) hF ?_;try walk_nrm
 refine Y4 L.terms1 4 (fun _ _ h r=>KnL.rely h r) hF ?_;try walk_nrm
 refine Ye L.terms1 5 rfl (fun _ _ h r=>KnL.rely h r) hF ?_ fun _ hw=>⟨run_eq_of (by
  intro K hK;have hc:World.cell? _ ⟨g,25+A,none⟩=some (.int .i64 ((zset (zset z 46 (IntKind.i64.wrap (z 46+1))) 45 ((nx:Int)+1)) (25+A))):=KnL.cz hi hw (by omega) (by omega);go_simp;exact hK),by
  have hc:World.cell? _ ⟨g,25+A,none⟩=some (.int .i64 ((zset (zset z 46 (IntKind.i64.wrap (z 46+1))) 45 ((nx:Int)+1)) (25+A))):=KnL.cz hi hw (by omega) (by omega);refine KnL.clooks hi hw ?_;co_evs (exact ⟨_,rfl⟩)⟩
 try walk_nrm
 refine Y4 L.terms1 6 (fun _ _ h r=>KnL.rely h r) hF ?_;try walk_nrm
 refine Y4 L.terms1 7 (fun _ _ h r=>KnL.rely h r) hF ?_;try walk_nrm
 refine XZ (i:=8) (by first|kernel_rfl|decide +kernel) rfl (by rfl) ?_;intro w1 hR K hK;replace hF:=hF.rely hR;clear hR;have hc:World.cell? _ ⟨g,25+R,none⟩=some (.int .i64 ((zset (zset z 46 (IntKind.i64.wrap (z 46+1))) 45 ((nx:Int)+1)) (25+R))):=KnL.cz hi hF (by omega) (by omega);have hz2:World.frozen? _ ⟨g,25+R,none⟩=false:=KnL.cfz hi hF (25+R);go_simp;try (unfold stored;go_simp)
 refine hK _ _ ⟨?_,?_,?_⟩
 ·refine KnL.cdoes hi hF (25+R) _ ?_;co_evs (exact rfl)
 ·exact .inr (Z8 rfl (by first|kernel_rfl|decide +kernel))
 clear hK K;clear hc hz2;replace hF:=KnL.cset hi hF (j:=25+R) (by omega) (IntKind.i64.wrap ((zset (zset z 46 (IntKind.i64.wrap (z 46+1))) 45 ((nx:Int)+1)) (25+R)*(zset (zset z 46 (IntKind.i64.wrap (z 46+1))) 45 ((nx:Int)+1)) (25+A)));try walk_nrm
 refine Xi (by first|kernel_rfl|decide +kernel) ?_ _;repeat refine .c1 L.terms1 rfl ?_
 refine .regionL L.terms1 [0,1,2] (by rfl) ?_;refine .opV L.terms1 rfl (by rfl) hk ?_;try walk_nrm
 refine .op rfl (by rfl) hk fun w1 hR K hK=>?_;replace hF:=hF.rely hR;clear hR;obtain ⟨a0,a1,a2,a3⟩:=hF.lins (k:=0) rfl;go_simp;try (unfold stored;go_simp)
 refine hK _ _ ⟨?_,?_⟩
 ·refine hF.llooks (k:=0) rfl ?_;co_evs (exact ⟨_,rfl⟩)
 clear hK K;clear a0 a1 a2 a3;try walk_nrm
 refine .opV L.terms1 rfl (by rfl) hk ?_;try walk_nrm
 repeat refine .c1 L.terms1 rfl ?_
 refine Y1.ret L.terms1 fun todo=>?_;exact Ret _ todo _ _ rfl (Xj L.terms1 (by rfl) _) ⟨by rfl,hF.drop⟩
end
section
variable {L:Lot} {w0:World} {rows:List Row} {ic g cb co n cc:Nat} {num:Int} {net:Value} {z ci:Nat→Int}
theorem Y8K (hev:((97:Nat)==L.ev)=false) (hi:rows[ic]?=some (Y5 g num net (.slice (some ⟨cb,co,none⟩) n cc) z)) (hs:Still L w0 cb) (hcode:∀j,j<n*4→w0.cell? ⟨cb,co+j,none⟩=some (.int .i64 (ci j))) (nx:Nat) (hz:z 45=nx) (hlt:nx<n) (hn:n≤48)
  (R A:Nat) (hR4:R<4) (hA4:A<4) (hop:ci (nx*4)=5) (hR:ci (nx*4+1)=R) (hA:ci (nx*4+2)=A) (N:Int) (hN:ci (nx*4+3)=N) (h0:(zset (zset z 46 (IntKind.i64.wrap (z 46+1))) 45 ((nx:Int)+1)) (25+A)≠0) (inV chV:Value) (w:World) (hF:Kn L w0 rows w):
  Yl Tryz.prog false L.R1 L.D1 113 #[.pointer (some ⟨g,0,none⟩),inV,chV] w (fun v w'=>v=.int .i64 5∧Kn L w0 (rows.set ic (Y5 g num net (.slice (some ⟨cb,co,none⟩) n cc) (zset (zset (zset z 46 (IntKind.i64.wrap (z 46+1))) 45 ((nx:Int)+1)) (25+R) (IntKind.i64.wrap (((zset (zset z 46 (IntKind.i64.wrap (z 46+1))) 45 ((nx:Int)+1)) (25+R)).tdiv ((zset (zset z 46 (IntKind.i64.wrap (z 46+1))) 45 ((nx:Int)+1)) (25+A))))))) w') (fun _ _=>False):=by
 have hk:(base 113).kind≠.early:=by simp [base]
 refine XI hev hi hs hcode nx hz hlt hn R A hR4 hA4 hop hR hA N hN inV chV w hF fun cl cs Stop Ret _ B w3 hF=>?_;have hRi:(R:Int)<4:=by omega
 have hAi:(A:Int)<4:=by omega
 repeat refine .c1 L.terms1 rfl ?_
 iterate 4 (refine .regionL L.terms1 [0,1] (by rfl) ?_;iterate 2 (refine .opV L.terms1 rfl (by rfl) hk ?_;try walk_nrm);repeat refine .c1 L.terms1 rfl ?_;refine .condF L.terms1 (by rfl) ?_;repeat refine .c1 L.terms1 rfl ?_)
 refine .regionL L.terms1 [0,1] (by rfl) ?_;iterate 2 (refine .opV L.terms1 rfl (by rfl) hk ?_;try walk_nrm)
 repeat refine .c1 L.terms1 rfl ?_
 refine Y1.condT L.terms1 (by rfl) ?_;repeat refine .c1 L.terms1 rfl ?_
 refine Y1.drawnN (S:=KnL L w0 (rows.set ic (Y5 g num net (.slice (some ⟨cb,co,none⟩) n cc) (zset (zset z 46 (IntKind.i64.wrap (z 46+1))) 45 ((nx:Int)+1)))) [Yt B 5 R A N]) (Die:=fun _ _=>False) L.terms1 L.draws1 10 (by rfl) hk (by kernel_rfl) (fun _ _ _ h=>h) (fun _ _ _ h=>h.elim) fun w1 hR=>?_;replace hF:=(hF.rely hR).rely (Turn.drew _);clear hR;refine Y4 L.terms1 0 (fun _ _ h r=>KnL.rely h r) hF ?_;try walk_nrm
 refine Y4 L.terms1 1 (fun _ _ h r=>KnL.rely h r) hF ?_;try walk_nrm
 refine Y4 L.terms1 2 (fun _ _ h r=>KnL.rely h r) hF ?_;try walk_nrm
 refine Ye L.terms1 3 rfl (fun _ _ h r=>KnL.rely h r) hF ?_ fun _ hw=>⟨run_eq_of (by
  intro K hK;have hc:World.cell? _ ⟨g,25+R,none⟩=some (.int .i64 ((zset (zset z 46 (IntKind.i64.wrap (z 46+1))) 45 ((nx:Int)+1)) (25+R))):=KnL.cz hi hw (by omega) (by omega);go_simp;exact hK),by
  have hc:World.cell? _ ⟨g,25+R,none⟩=some (.int .i64 ((zset (zset z 46 (IntKind.i64.wrap (z 46+1))) 45 ((nx:Int)+1)) (25+R))):=KnL.cz hi hw (by omega) (by omega);refine KnL.clooks hi hw ?_;co_evs (exact ⟨_,rfl⟩)⟩
 try walk_nrm
 refine Y4 L.terms1 4 (fun _ _ h r=>KnL.rely h r) hF ?_;try walk_nrm
 refine Y4 L.terms1 5 (fun _ _ h r=>KnL.rely h r) hF ?_;try walk_nrm
 refine Ye L.terms1 6 rfl (fun _ _ h r=>KnL.rely h r) hF ?_ fun _ hw=>⟨run_eq_of (by
  intro K hK;have hc:World.cell? _ ⟨g,25+A,none⟩=some (.int .i64 ((zset (zset z 46 (IntKind.i64.wrap (z 46+1))) 45 ((nx:Int)+1)) (25+A))):=KnL.cz hi hw (by omega) (by omega);go_simp;exact hK),by
  have hc:World.cell? _ ⟨g,25+A,none⟩=some (.int .i64 ((zset (zset z 46 (IntKind.i64.wrap (z 46+1))) 45 ((nx:Int)+1)) (25+A))):=KnL.cz hi hw (by omega) (by omega);refine KnL.clooks hi hw ?_;co_evs (exact ⟨_,rfl⟩)⟩
 try walk_nrm
 refine JS (i:=7) (by first|kernel_rfl|decide +kernel) rfl (by rfl) rfl Tryz.func127 (by rfl) rfl #[.int .i64 ((zset (zset z 46 (IntKind.i64.wrap (z 46+1))) 45 ((nx:Int)+1)) (25+R)),.int .i64 ((zset (zset z 46 (IntKind.i64.wrap (z 46+1))) 45 ((nx:Int)+1)) (25+A))] (by kernel_rfl) (Y6Q (rows:=rows.set ic (Y5 g num net (.slice (some ⟨cb,co,none⟩) n cc) (zset (zset z 46 (IntKind.i64.wrap (z 46+1))) 45 ((nx:Int)+1)))++[Yt B 5 R A N]) _ _ h0 _ hF) ?_;rintro v w2 ⟨rfl,hF2⟩;replace hF:KnL L w0 (rows.set ic (Y5 g num net (.slice (some ⟨cb,co,none⟩) n cc) (zset (zset z 46 (IntKind.i64.wrap (z 46+1))) 45 ((nx:Int)+1)))) [Yt B 5 R A N] w2:=hF2;clear hF2;refine ⟨.inl hF,?_⟩;try walk_nrm
 refine Y4 L.terms1 8 (fun _ _ h r=>KnL.rely h r) hF ?_;try walk_nrm
 refine XZ (i:=9) (by first|kernel_rfl|decide +kernel) rfl (by rfl) ?_;intro w1 hR K hK;replace hF:=hF.rely hR;clear hR;have hc:World.cell? _ ⟨g,25+R,none⟩=some (.int .i64 ((zset (zset z 46 (IntKind.i64.wrap (z 46+1))) 45 ((nx:Int)+1)) (25+R))):=KnL.cz hi hF (by omega) (by omega);have hz2:World.frozen? _ ⟨g,25+R,none⟩=false:=KnL.cfz hi hF (25+R);go_simp;try (unfold stored;go_simp)
 refine hK _ _ ⟨?_,?_,?_⟩
 ·refine KnL.cdoes hi hF (25+R) _ ?_;co_evs (exact rfl)
 ·exact .inr (Z8 rfl (by first|kernel_rfl|decide +kernel))
 clear hK K;clear hc hz2;replace hF:=KnL.cset hi hF (j:=25+R) (by omega) (IntKind.i64.wrap (((zset (zset z 46 (IntKind.i64.wrap (z 46+1))) 45 ((nx:Int)+1)) (25+R)).tdiv ((zset (zset z 46 (IntKind.i64.wrap (z 46+1))) 45 ((nx:Int)+1)) (25+A))));try walk_nrm
 refine Xi (by first|kernel_rfl|decide +kernel) ?_ _;repeat refine .c1 L.terms1 rfl ?_
 refine .regionL L.terms1 [0,1,2] (by rfl) ?_;refine .opV L.terms1 rfl (by rfl) hk ?_;try walk_nrm
 refine .op rfl (by rfl) hk fun w1 hR K hK=>?_;replace hF:=hF.rely hR;clear hR;obtain ⟨a0,a1,a2,a3⟩:=hF.lins (k:=0) rfl;go_simp;try (unfold stored;go_simp)
 refine hK _ _ ⟨?_,?_⟩
 ·refine hF.llooks (k:=0) rfl ?_;co_evs (exact ⟨_,rfl⟩)
 clear hK K;clear a0 a1 a2 a3;try walk_nrm
 refine .opV L.terms1 rfl (by rfl) hk ?_;try walk_nrm
 repeat refine .c1 L.terms1 rfl ?_
 refine Y1.ret L.terms1 fun todo=>?_;exact Ret _ todo _ _ rfl (Xj L.terms1 (by rfl) _) ⟨by rfl,hF.drop⟩
theorem Y67 (hev:((97:Nat)==L.ev)=false) (hi:rows[ic]?=some (Y5 g num net (.slice (some ⟨cb,co,none⟩) n cc) z)) (hs:Still L w0 cb) (hcode:∀j,j<n*4→w0.cell? ⟨cb,co+j,none⟩=some (.int .i64 (ci j))) (nx:Nat) (hz:z 45=nx) (hlt:nx<n) (hn:n≤48)
  (R A:Nat) (hR4:R<4) (hA4:A<4) (hop:ci (nx*4)=6) (hR:ci (nx*4+1)=R) (hA:ci (nx*4+2)=A) (N:Int) (hN:ci (nx*4+3)=N) (y:Nat) (hy:y<16) (h0:(zset (zset z 46 (IntKind.i64.wrap (z 46+1))) 45 ((nx:Int)+1)) (25+A)=(y:Int)) (inV chV:Value) (w:World) (hF:Kn L w0 rows w):
  Yl Tryz.prog false L.R1 L.D1 113 #[.pointer (some ⟨g,0,none⟩),inV,chV] w (fun v w'=>v=.int .i64 6∧Kn L w0 (rows.set ic (Y5 g num net (.slice (some ⟨cb,co,none⟩) n cc) (zset (zset (zset z 46 (IntKind.i64.wrap (z 46+1))) 45 ((nx:Int)+1)) (25+R) ((zset (zset z 46 (IntKind.i64.wrap (z 46+1))) 45 ((nx:Int)+1)) (29+y))))) w') (fun _ _=>False):=by
 have hk:(base 113).kind≠.early:=by simp [base]
 refine XI hev hi hs hcode nx hz hlt hn R A hR4 hA4 hop hR hA N hN inV chV w hF fun cl cs Stop Ret _ B w3 hF=>?_;have hRi:(R:Int)<4:=by omega
 have hAi:(A:Int)<4:=by omega
 repeat refine .c1 L.terms1 rfl ?_
 iterate 5 (refine .regionL L.terms1 [0,1] (by rfl) ?_;iterate 2 (refine .opV L.terms1 rfl (by rfl) hk ?_;try walk_nrm);repeat refine .c1 L.terms1 rfl ?_;refine .condF L.terms1 (by rfl) ?_;repeat refine .c1 L.terms1 rfl ?_)
 refine .regionL L.terms1 [0,1] (by rfl) ?_;iterate 2 (refine .opV L.terms1 rfl (by rfl) hk ?_;try walk_nrm)
 repeat refine .c1 L.terms1 rfl ?_
 refine Y1.condT L.terms1 (by rfl) ?_;repeat refine .c1 L.terms1 rfl ?_
 refine .regionL L.terms1 [0,1,2,3,4,5,6,7,8,9] (by rfl) ?_;iterate 4 (refine .opV L.terms1 rfl (by rfl) hk ?_;try walk_nrm)
 refine .op rfl (by rfl) hk fun w1 hR K hK=>?_;replace hF:=hF.rely hR;clear hR;have hc:World.cell? _ ⟨g,25+A,none⟩=some (.int .i64 ((zset (zset z 46 (IntKind.i64.wrap (z 46+1))) 45 ((nx:Int)+1)) (25+A))):=KnL.cz hi hF (by omega) (by omega);go_simp;try (unfold stored;go_simp)
 refine hK _ _ ⟨?_,?_⟩
 ·refine KnL.clooks hi hF ?_;co_evs (exact ⟨_,rfl⟩)
 clear hK K;clear hc;try walk_nrm
 refine Y1.callX L.terms1 rfl (by rfl) hk rfl Tryz.func128 (by rfl) rfl #[.pointer (some ⟨g,0,none⟩),.int .i64 y] (by kernel_rfl) (Y3B (rows:=rows.set ic (Y5 g num net (.slice (some ⟨cb,co,none⟩) n cc) (zset (zset z 46 (IntKind.i64.wrap (z 46+1))) 45 ((nx:Int)+1)))++[Yt B 6 R A N]) y hy _ hF) ?_ (fun _ _ _ h=>h.elim);rintro v w2 ⟨rfl,hF2⟩;replace hF:KnL L w0 (rows.set ic (Y5 g num net (.slice (some ⟨cb,co,none⟩) n cc) (zset (zset z 46 (IntKind.i64.wrap (z 46+1))) 45 ((nx:Int)+1)))) [Yt B 6 R A N] w2:=hF2;clear hF2;try walk_nrm
 refine .opV L.terms1 rfl (by rfl) hk ?_;try walk_nrm
 refine .op rfl (by rfl) hk fun w1 hR K hK=>?_;replace hF:=hF.rely hR;clear hR;have hc:World.cell? _ ⟨g,29+y,none⟩=some (.int .i64 ((zset (zset z 46 (IntKind.i64.wrap (z 46+1))) 45 ((nx:Int)+1)) (29+y))):=KnL.cz hi hF (by omega) (by omega);go_simp;try (unfold stored;go_simp)
 refine hK _ _ ⟨?_,?_⟩
 ·refine KnL.clooks hi hF ?_;co_evs (exact ⟨_,rfl⟩)
 clear hK K;clear hc;try walk_nrm
 refine .opV L.terms1 rfl (by rfl) hk ?_;try walk_nrm
 refine .op rfl (by rfl) hk fun w1 hR K hK=>?_;replace hF:=hF.rely hR;clear hR;have hc:World.cell? _ ⟨g,25+R,none⟩=some (.int .i64 ((zset (zset z 46 (IntKind.i64.wrap (z 46+1))) 45 ((nx:Int)+1)) (25+R))):=KnL.cz hi hF (by omega) (by omega);have hz2:World.frozen? _ ⟨g,25+R,none⟩=false:=KnL.cfz hi hF (25+R);go_simp;try (unfold stored;go_simp)
 refine hK _ _ ⟨?_,?_⟩
 ·refine KnL.cdoes hi hF (25+R) _ ?_;co_evs (exact rfl)
 clear hK K;clear hc hz2;replace hF:=KnL.cset hi hF (j:=25+R) (by omega) ((zset (zset z 46 (IntKind.i64.wrap (z 46+1))) 45 ((nx:Int)+1)) (29+y));try walk_nrm
 repeat refine .c1 L.terms1 rfl ?_
 refine .regionL L.terms1 [0,1,2] (by rfl) ?_;refine .opV L.terms1 rfl (by rfl) hk ?_;try walk_nrm
 refine .op rfl (by rfl) hk fun w1 hR K hK=>?_;replace hF:=hF.rely hR;clear hR;obtain ⟨a0,a1,a2,a3⟩:=hF.lins (k:=0) rfl;go_simp;try (unfold stored;go_simp)
 refine hK _ _ ⟨?_,?_⟩
 ·refine hF.llooks (k:=0) rfl ?_;co_evs (exact ⟨_,rfl⟩)
 clear hK K;clear a0 a1 a2 a3;try walk_nrm
 refine .opV L.terms1 rfl (by rfl) hk ?_;try walk_nrm
 repeat refine .c1 L.terms1 rfl ?_
 refine Y1.ret L.terms1 fun todo=>?_;exact Ret _ todo _ _ rfl (Xj L.terms1 (by rfl) _) ⟨by rfl,hF.drop⟩
theorem Y4M (hev:((97:Nat)==L.ev)=false) (hi:rows[ic]?=some (Y5 g num net (.slice (some ⟨cb,co,none⟩) n cc) z)) (hs:Still L w0 cb) (hcode:∀j,j<n*4→w0.cell? ⟨cb,co+j,none⟩=some (.int .i64 (ci j))) (nx:Nat) (hz:z 45=nx) (hlt:nx<n) (hn:n≤48)
  (R A:Nat) (hR4:R<4) (hA4:A<4) (hop:ci (nx*4)=7) (hR:ci (nx*4+1)=R) (hA:ci (nx*4+2)=A) (N:Int) (hN:ci (nx*4+3)=N) (y:Nat) (hy:y<16) (h0:(zset (zset z 46 (IntKind.i64.wrap (z 46+1))) 45 ((nx:Int)+1)) (25+A)=(y:Int)) (inV chV:Value) (w:World) (hF:Kn L w0 rows w):
  Yl Tryz.prog false L.R1 L.D1 113 #[.pointer (some ⟨g,0,none⟩),inV,chV] w (fun v w'=>v=.int .i64 7∧Kn L w0 (rows.set ic (Y5 g num net (.slice (some ⟨cb,co,none⟩) n cc) (zset (zset (zset z 46 (IntKind.i64.wrap (z 46+1))) 45 ((nx:Int)+1)) (29+y) ((zset (zset z 46 (IntKind.i64.wrap (z 46+1))) 45 ((nx:Int)+1)) (25+R))))) w') (fun _ _=>False):=by
 have hk:(base 113).kind≠.early:=by simp [base]
 refine XI hev hi hs hcode nx hz hlt hn R A hR4 hA4 hop hR hA N hN inV chV w hF fun cl cs Stop Ret _ B w3 hF=>?_;have hRi:(R:Int)<4:=by omega
 have hAi:(A:Int)<4:=by omega
 repeat refine .c1 L.terms1 rfl ?_
 iterate 6 (refine .regionL L.terms1 [0,1] (by rfl) ?_;iterate 2 (refine .opV L.terms1 rfl (by rfl) hk ?_;try walk_nrm);repeat refine .c1 L.terms1 rfl ?_;refine .condF L.terms1 (by rfl) ?_;repeat refine .c1 L.terms1 rfl ?_)
 refine .regionL L.terms1 [0,1] (by rfl) ?_;iterate 2 (refine .opV L.terms1 rfl (by rfl) hk ?_;try walk_nrm)
 repeat refine .c1 L.terms1 rfl ?_
 refine Y1.condT L.terms1 (by rfl) ?_;repeat refine .c1 L.terms1 rfl ?_
 refine Y1.drawnN (S:=KnL L w0 (rows.set ic (Y5 g num net (.slice (some ⟨cb,co,none⟩) n cc) (zset (zset z 46 (IntKind.i64.wrap (z 46+1))) 45 ((nx:Int)+1)))) [Yt B 7 R A N]) (Die:=fun _ _=>False) L.terms1 L.draws1 10 (by rfl) hk (by kernel_rfl) (fun _ _ _ h=>h) (fun _ _ _ h=>h.elim) fun w1 hR=>?_;replace hF:=(hF.rely hR).rely (Turn.drew _);clear hR;refine Y4 L.terms1 0 (fun _ _ h r=>KnL.rely h r) hF ?_;try walk_nrm
 refine Y4 L.terms1 1 (fun _ _ h r=>KnL.rely h r) hF ?_;try walk_nrm
 refine Y4 L.terms1 2 (fun _ _ h r=>KnL.rely h r) hF ?_;try walk_nrm
 refine Ye L.terms1 3 rfl (fun _ _ h r=>KnL.rely h r) hF ?_ fun _ hw=>⟨run_eq_of (by
  intro K hK;have hc:World.cell? _ ⟨g,25+A,none⟩=some (.int .i64 ((zset (zset z 46 (IntKind.i64.wrap (z 46+1))) 45 ((nx:Int)+1)) (25+A))):=KnL.cz hi hw (by omega) (by omega);go_simp;exact hK),by
  have hc:World.cell? _ ⟨g,25+A,none⟩=some (.int .i64 ((zset (zset z 46 (IntKind.i64.wrap (z 46+1))) 45 ((nx:Int)+1)) (25+A))):=KnL.cz hi hw (by omega) (by omega);refine KnL.clooks hi hw ?_;co_evs (exact ⟨_,rfl⟩)⟩
 try walk_nrm
 refine Y4 L.terms1 5 (fun _ _ h r=>KnL.rely h r) hF ?_;try walk_nrm
 refine Y4 L.terms1 6 (fun _ _ h r=>KnL.rely h r) hF ?_;try walk_nrm
 refine Ye L.terms1 7 rfl (fun _ _ h r=>KnL.rely h r) hF ?_ fun _ hw=>⟨run_eq_of (by
  intro K hK;have hc:World.cell? _ ⟨g,25+R,none⟩=some (.int .i64 ((zset (zset z 46 (IntKind.i64.wrap (z 46+1))) 45 ((nx:Int)+1)) (25+R))):=KnL.cz hi hw (by omega) (by omega);go_simp;exact hK),by
  have hc:World.cell? _ ⟨g,25+R,none⟩=some (.int .i64 ((zset (zset z 46 (IntKind.i64.wrap (z 46+1))) 45 ((nx:Int)+1)) (25+R))):=KnL.cz hi hw (by omega) (by omega);refine KnL.clooks hi hw ?_;co_evs (exact ⟨_,rfl⟩)⟩
 try walk_nrm
 refine JS (i:=4) (by first|kernel_rfl|decide +kernel) rfl (by rfl) rfl Tryz.func128 (by rfl) rfl #[.pointer (some ⟨g,0,none⟩),.int .i64 y] (by kernel_rfl) (Y3B (rows:=rows.set ic (Y5 g num net (.slice (some ⟨cb,co,none⟩) n cc) (zset (zset z 46 (IntKind.i64.wrap (z 46+1))) 45 ((nx:Int)+1)))++[Yt B 7 R A N]) y hy _ hF) ?_;rintro v w2 ⟨rfl,hF2⟩;replace hF:KnL L w0 (rows.set ic (Y5 g num net (.slice (some ⟨cb,co,none⟩) n cc) (zset (zset z 46 (IntKind.i64.wrap (z 46+1))) 45 ((nx:Int)+1)))) [Yt B 7 R A N] w2:=hF2;clear hF2;refine ⟨.inl hF,?_⟩;try walk_nrm
 refine Y4 L.terms1 8 (fun _ _ h r=>KnL.rely h r) hF ?_;try walk_nrm
 refine XZ (i:=9) (by first|kernel_rfl|decide +kernel) rfl (by rfl) ?_;intro w1 hR K hK;replace hF:=hF.rely hR;clear hR;have hc:World.cell? _ ⟨g,29+y,none⟩=some (.int .i64 ((zset (zset z 46 (IntKind.i64.wrap (z 46+1))) 45 ((nx:Int)+1)) (29+y))):=KnL.cz hi hF (by omega) (by omega);have hz2:World.frozen? _ ⟨g,29+y,none⟩=false:=KnL.cfz hi hF (29+y);go_simp;try (unfold stored;go_simp)
 refine hK _ _ ⟨?_,?_,?_⟩
 ·refine KnL.cdoes hi hF (29+y) _ ?_;co_evs (exact rfl)
 ·exact .inr (Z8 rfl (by first|kernel_rfl|decide +kernel))
 clear hK K;clear hc hz2;replace hF:=KnL.cset hi hF (j:=29+y) (by omega) ((zset (zset z 46 (IntKind.i64.wrap (z 46+1))) 45 ((nx:Int)+1)) (25+R));try walk_nrm
 refine Xi (by first|kernel_rfl|decide +kernel) ?_ _;repeat refine .c1 L.terms1 rfl ?_
 refine .regionL L.terms1 [0,1,2] (by rfl) ?_;refine .opV L.terms1 rfl (by rfl) hk ?_;try walk_nrm
 refine .op rfl (by rfl) hk fun w1 hR K hK=>?_;replace hF:=hF.rely hR;clear hR;obtain ⟨a0,a1,a2,a3⟩:=hF.lins (k:=0) rfl;go_simp;try (unfold stored;go_simp)
 refine hK _ _ ⟨?_,?_⟩
 ·refine hF.llooks (k:=0) rfl ?_;co_evs (exact ⟨_,rfl⟩)
 clear hK K;clear a0 a1 a2 a3;try walk_nrm
 refine .opV L.terms1 rfl (by rfl) hk ?_;try walk_nrm
 repeat refine .c1 L.terms1 rfl ?_
 refine Y1.ret L.terms1 fun todo=>?_;exact Ret _ todo _ _ rfl (Xj L.terms1 (by rfl) _) ⟨by rfl,hF.drop⟩
end
end Go.Proofs.YtdoghgnifkgfdaaGreat.Mute
