import Derived.Test.YtdoghgnifkgfdaaGreatP25
set_option maxRecDepth 100000
set_option maxHeartbeats 16000000
namespace Go.Proofs.YtdoghgnifkgfdaaGreat.Mute
open Go Go.Conc Go.RowKit
section
variable {L:Lot} {w0:World} {rows:List Row} {ic g cb co n cc:Nat} {num:Int} {net:Value} {z ci:Nat→Int}
theorem Y5g (hev:((97:Nat)==L.ev)=false) (hi:rows[ic]?=some (Y5 g num net (.slice (some ⟨cb,co,none⟩) n cc) z)) (hz:z 45=n) (inV chV:Value) (w:World) (hF:Kn L w0 rows w):
  Yl Tryz.prog false L.R1 L.D1 113 #[.pointer (some ⟨g,0,none⟩),inV,chV] w (fun _ _=>False) (fun ch w'=>ch=[{v:=.iface 222 (.int .i64 3),recovered:=false}]∧Kn L w0 (rows.set ic (Y5 g num net (.slice (some ⟨cb,co,none⟩) n cc) (zset z 46 (IntKind.i64.wrap (z 46+1))))) w'):=by
 replace hF:=hF.start hi;have hk:(base 113).kind≠.early:=by simp [base]
 refine Yl.intro L.terms1 #[.pointer (some ⟨g,0,none⟩),inV,chV,undef,undef,undef,undef,undef,undef,undef,undef,undef,undef,undef,undef,undef,undef,undef,undef,undef,undef,undef,undef,undef,undef,undef,undef,undef,undef,undef,undef,undef,undef,undef,undef,undef,undef,undef,undef,undef,undef,undef,undef,undef,undef,undef,undef,undef,undef,undef,undef,undef,undef,undef,undef,undef,undef,undef,undef,undef,undef,undef,undef,undef,undef,undef,undef,undef,undef,undef,undef,undef,undef,undef,undef,undef,undef,undef,undef,undef,undef,undef,undef,undef,undef,undef,undef,undef,undef,undef,undef,undef,undef,undef,undef,undef,undef,undef,undef,undef,undef,undef,undef,undef,undef,undef,undef,undef,undef,undef,undef,undef,undef,undef,undef,undef,undef,undef,undef,undef,undef,undef,undef,undef,undef,undef,undef,undef,undef,undef,undef,undef,undef,undef,undef,undef,undef,undef,undef,undef,undef,undef,undef,undef] Tryz.func113 rfl (by kernel_rfl) fun cl cs Stop Ret Pan=>?_;repeat refine .c1 L.terms1 rfl ?_
 refine .regionL L.terms1 [0] (by rfl) ?_;refine .opV L.terms1 rfl (by rfl) hk ?_;try walk_nrm
 repeat refine .c1 L.terms1 rfl ?_
 refine .regionL L.terms1 [0,1,2,3,4,5,6,7] (by rfl) ?_;iterate 3 (refine .opV L.terms1 rfl (by rfl) hk ?_;try walk_nrm)
 refine .op rfl (by rfl) hk fun w1 hR K hK=>?_;replace hF:=hF.rely hR;clear hR;have hc:World.cell? _ ⟨g,46,none⟩=some (.int .i64 (z 46)):=KnL.cz hi hF (by omega) (by omega);go_simp;try (unfold stored;go_simp)
 refine hK _ _ ⟨?_,?_⟩
 ·refine KnL.clooks hi hF ?_;co_evs (exact ⟨_,rfl⟩)
 clear hK K;clear hc;try walk_nrm
 iterate 3 (refine .opV L.terms1 rfl (by rfl) hk ?_;try walk_nrm)
 refine .op rfl (by rfl) hk fun w1 hR K hK=>?_;replace hF:=hF.rely hR;clear hR;have hc:World.cell? _ ⟨g,46,none⟩=some (.int .i64 (z 46)):=KnL.cz hi hF (by omega) (by omega);have hz2:World.frozen? _ ⟨g,46,none⟩=false:=KnL.cfz hi hF 46;go_simp;try (unfold stored;go_simp)
 refine hK _ _ ⟨?_,?_⟩
 ·refine KnL.cdoes hi hF 46 _ ?_;co_evs (exact rfl)
 clear hK K;clear hc hz2;replace hF:=KnL.cset hi hF (j:=46) (by omega) (IntKind.i64.wrap (z 46+1));try walk_nrm
 repeat refine .c1 L.terms1 rfl ?_
 refine .regionL L.terms1 [0,1,2,3] (by rfl) ?_;refine .opV L.terms1 rfl (by rfl) hk ?_;try walk_nrm
 exact Y1.callX L.terms1 rfl (by rfl) hk rfl Tryz.func126 (by rfl) rfl #[.pointer (some ⟨g,0,none⟩)] (by kernel_rfl) (Y5O (ic:=ic) hev (at2 hi (Y5 g num net (.slice (some ⟨cb,co,none⟩) n cc) (zset z 46 (IntKind.i64.wrap (z 46+1))))) _ rfl ((YQ z _ (by omega)).trans hz) _ hF) (fun _ _ h=>h.elim) fun ch w' fr h h1 _ h3 h4=>Pan fr ch w' h1 h3 h4 ⟨h.1,h.2.drop⟩
theorem Y81 (hev:((97:Nat)==L.ev)=false) (hi:rows[ic]?=some (Y5 g num net (.slice (some ⟨cb,co,none⟩) n cc) z)) (hs:Still L w0 cb) (hcode:∀j,j<n*4→w0.cell? ⟨cb,co+j,none⟩=some (.int .i64 (ci j))) (nx:Nat) (hz:z 45=nx) (hlt:nx<n) (hn:n≤48)
  (R A:Nat) (hR4:R<4) (hA4:A<4) (hop:ci (nx*4)=5) (hR:ci (nx*4+1)=R) (hA:ci (nx*4+2)=A) (N:Int) (hN:ci (nx*4+3)=N) (h0:(zset (zset z 46 (IntKind.i64.wrap (z 46+1))) 45 ((nx:Int)+1)) (25+A)=0) (inV chV:Value) (w:World) (hF:Kn L w0 rows w):
  Yl Tryz.prog false L.R1 L.D1 113 #[.pointer (some ⟨g,0,none⟩),inV,chV] w (fun _ _=>False) (fun ch w'=>ch=[{v:=.iface 222 (.int .i64 1),recovered:=false}]∧Kn L w0 (rows.set ic (Y5 g num net (.slice (some ⟨cb,co,none⟩) n cc) (zset (zset z 46 (IntKind.i64.wrap (z 46+1))) 45 ((nx:Int)+1)))) w'):=by
 have hk:(base 113).kind≠.early:=by simp [base]
 refine XI hev hi hs hcode nx hz hlt hn R A hR4 hA4 hop hR hA N hN inV chV w hF fun cl cs Stop Ret Pan B w3 hF=>?_;have hRi:(R:Int)<4:=by omega
 have hAi:(A:Int)<4:=by omega
 repeat refine .c1 L.terms1 rfl ?_
 iterate 4 (refine .regionL L.terms1 [0,1] (by rfl) ?_;iterate 2 (refine .opV L.terms1 rfl (by rfl) hk ?_;try walk_nrm);repeat refine .c1 L.terms1 rfl ?_;refine .condF L.terms1 (by rfl) ?_;repeat refine .c1 L.terms1 rfl ?_)
 refine .regionL L.terms1 [0,1] (by rfl) ?_;iterate 2 (refine .opV L.terms1 rfl (by rfl) hk ?_;try walk_nrm)
 repeat refine .c1 L.terms1 rfl ?_
 refine Y1.condT L.terms1 (by rfl) ?_;repeat refine .c1 L.terms1 rfl ?_
 refine Y1.drawnN (S:=KnL L w0 (rows.set ic (Y5 g num net (.slice (some ⟨cb,co,none⟩) n cc) (zset (zset z 46 (IntKind.i64.wrap (z 46+1))) 45 ((nx:Int)+1)))) [Yt B 5 R A N]) (Die:=fun ch w'=>ch=[{v:=.iface 222 (.int .i64 1),recovered:=false}]∧Kn L w0 (rows.set ic (Y5 g num net (.slice (some ⟨cb,co,none⟩) n cc) (zset (zset z 46 (IntKind.i64.wrap (z 46+1))) 45 ((nx:Int)+1)))) w') L.terms1 L.draws1 10 (by rfl) hk (by kernel_rfl) (fun _ _ _ h=>h) (fun ch w' fr h h1 _ h3 h4=>Pan fr ch w' h1 h3 h4 h) fun w1 hR=>?_;replace hF:=(hF.rely hR).rely (Turn.drew _);clear hR;co_applyP Yq L.terms1 (fun _ _ _ _ h _=>h.elim) (fun _ _ h r=>KnL.rely h r) ?hqr1 (i:=0) rfl (by first|kernel_rfl|decide +kernel) (by first|kernel_rfl|decide +kernel) (by first|kernel_rfl|decide +kernel) (by first|kernel_rfl|decide +kernel) (.inl ⟨by rfl,fun _ hw=>⟨run_eq_of ?run1,?guar1⟩⟩) hF ?rest1
 case hqr1=>exact fun _ _ _ h r=>Y1.rely L.terms1.trans h r
 case run1=>
  intro K hK;skip;go_simp;exact hK
 case guar1=>
  skip
  co_quiet L.terms1
 try walk_nrm
 co_applyP Yq L.terms1 (fun _ _ _ _ h _=>h.elim) (fun _ _ h r=>KnL.rely h r) ?hqr2 (i:=1) rfl (by first|kernel_rfl|decide +kernel) (by first|kernel_rfl|decide +kernel) (by first|kernel_rfl|decide +kernel) (by first|kernel_rfl|decide +kernel) (.inl ⟨by rfl,fun _ hw=>⟨run_eq_of ?run2,?guar2⟩⟩) hF ?rest2
 case hqr2=>exact fun _ _ _ h r=>Y1.rely L.terms1.trans h r
 case run2=>
  intro K hK;skip;go_simp;exact hK
 case guar2=>
  skip
  co_quiet L.terms1
 try walk_nrm
 co_applyP Yq L.terms1 (fun _ _ _ _ h _=>h.elim) (fun _ _ h r=>KnL.rely h r) ?hqr3 (i:=2) rfl (by first|kernel_rfl|decide +kernel) (by first|kernel_rfl|decide +kernel) (by first|kernel_rfl|decide +kernel) (by first|kernel_rfl|decide +kernel) (.inl ⟨by rfl,fun _ hw=>⟨run_eq_of ?run3,?guar3⟩⟩) hF ?rest3
 case hqr3=>exact fun _ _ _ h r=>Y1.rely L.terms1.trans h r
 case run3=>
  intro K hK;skip;go_simp;exact hK
 case guar3=>
  skip
  co_quiet L.terms1
 try walk_nrm
 co_applyP Yq L.terms1 (fun _ _ _ _ h _=>h.elim) (fun _ _ h r=>KnL.rely h r) ?hqr4 (i:=3) rfl (by first|kernel_rfl|decide +kernel) (by first|kernel_rfl|decide +kernel) (by first|kernel_rfl|decide +kernel) (by first|kernel_rfl|decide +kernel) (.inl ⟨by rfl,fun _ hw=>⟨run_eq_of ?run4,?guar4⟩⟩) hF ?rest4
 case hqr4=>exact fun _ _ _ h r=>Y1.rely L.terms1.trans h r
 case run4=>
  intro K hK;have hc:World.cell? _ ⟨g,25+R,none⟩=some (.int .i64 ((zset (zset z 46 (IntKind.i64.wrap (z 46+1))) 45 ((nx:Int)+1)) (25+R))):=KnL.cz hi hw (by omega) (by omega);go_simp;exact hK
 case guar4=>
  have hc:World.cell? _ ⟨g,25+R,none⟩=some (.int .i64 ((zset (zset z 46 (IntKind.i64.wrap (z 46+1))) 45 ((nx:Int)+1)) (25+R))):=KnL.cz hi hw (by omega) (by omega);refine KnL.clooks hi hw ?_;co_evs (exact ⟨_,rfl⟩)
 try walk_nrm
 co_applyP Yq L.terms1 (fun _ _ _ _ h _=>h.elim) (fun _ _ h r=>KnL.rely h r) ?hqr5 (i:=4) rfl (by first|kernel_rfl|decide +kernel) (by first|kernel_rfl|decide +kernel) (by first|kernel_rfl|decide +kernel) (by first|kernel_rfl|decide +kernel) (.inl ⟨by rfl,fun _ hw=>⟨run_eq_of ?run5,?guar5⟩⟩) hF ?rest5
 case hqr5=>exact fun _ _ _ h r=>Y1.rely L.terms1.trans h r
 case run5=>
  intro K hK;skip;go_simp;exact hK
 case guar5=>
  skip
  co_quiet L.terms1
 try walk_nrm
 co_applyP Yq L.terms1 (fun _ _ _ _ h _=>h.elim) (fun _ _ h r=>KnL.rely h r) ?hqr6 (i:=5) rfl (by first|kernel_rfl|decide +kernel) (by first|kernel_rfl|decide +kernel) (by first|kernel_rfl|decide +kernel) (by first|kernel_rfl|decide +kernel) (.inl ⟨by rfl,fun _ hw=>⟨run_eq_of ?run6,?guar6⟩⟩) hF ?rest6
 case hqr6=>exact fun _ _ _ h r=>Y1.rely L.terms1.trans h r
 case run6=>
  intro K hK;skip;go_simp;exact hK
 case guar6=>
  skip
  co_quiet L.terms1
 try walk_nrm
 co_applyP Yq L.terms1 (fun _ _ _ _ h _=>h.elim) (fun _ _ h r=>KnL.rely h r) ?hqr7 (i:=6) rfl (by first|kernel_rfl|decide +kernel) (by first|kernel_rfl|decide +kernel) (by first|kernel_rfl|decide +kernel) (by first|kernel_rfl|decide +kernel) (.inl ⟨by rfl,fun _ hw=>⟨run_eq_of ?run7,?guar7⟩⟩) hF ?rest7
 case hqr7=>exact fun _ _ _ h r=>Y1.rely L.terms1.trans h r
 case run7=>
  intro K hK;have hc:World.cell? _ ⟨g,25+A,none⟩=some (.int .i64 ((zset (zset z 46 (IntKind.i64.wrap (z 46+1))) 45 ((nx:Int)+1)) (25+A))):=KnL.cz hi hw (by omega) (by omega);go_simp;exact hK
 case guar7=>
  have hc:World.cell? _ ⟨g,25+A,none⟩=some (.int .i64 ((zset (zset z 46 (IntKind.i64.wrap (z 46+1))) 45 ((nx:Int)+1)) (25+A))):=KnL.cz hi hw (by omega) (by omega);refine KnL.clooks hi hw ?_;co_evs (exact ⟨_,rfl⟩)
 try walk_nrm
 refine JS (Post:=fun _ _=>False) (i:=7) (by first|kernel_rfl|decide +kernel) rfl (by rfl) rfl Tryz.func127 (by rfl) rfl #[.int .i64 ((zset (zset z 46 (IntKind.i64.wrap (z 46+1))) 45 ((nx:Int)+1)) (25+R)),.int .i64 0] (by kernel_rfl) ((Y6c (rows:=rows.set ic (Y5 g num net (.slice (some ⟨cb,co,none⟩) n cc) (zset (zset z 46 (IntKind.i64.wrap (z 46+1))) 45 ((nx:Int)+1)))++[Yt B 5 R A N]) _ _ hF).mono (fun _ _ h=>h.elim) fun ch w' h=>⟨h.1,h.2.drop⟩) ?_;exact fun _ _ h=>h.elim
theorem Ybr (hev:((97:Nat)==L.ev)=false) (hi:rows[ic]?=some (Y5 g num net (.slice (some ⟨cb,co,none⟩) n cc) z)) (hs:Still L w0 cb) (hcode:∀j,j<n*4→w0.cell? ⟨cb,co+j,none⟩=some (.int .i64 (ci j))) (nx:Nat) (hz:z 45=nx) (hlt:nx<n) (hn:n≤48)
  (R A:Nat) (hR4:R<4) (hA4:A<4) (hop:ci (nx*4)=6) (hR:ci (nx*4+1)=R) (hA:ci (nx*4+2)=A) (N:Int) (hN:ci (nx*4+3)=N) (hy:(zset (zset z 46 (IntKind.i64.wrap (z 46+1))) 45 ((nx:Int)+1)) (25+A)<0∨16≤(zset (zset z 46 (IntKind.i64.wrap (z 46+1))) 45 ((nx:Int)+1)) (25+A)) (inV chV:Value) (w:World) (hF:Kn L w0 rows w):
  Yl Tryz.prog false L.R1 L.D1 113 #[.pointer (some ⟨g,0,none⟩),inV,chV] w (fun _ _=>False) (fun ch w'=>ch=[{v:=.iface 222 (.int .i64 2),recovered:=false}]∧Kn L w0 (rows.set ic (Y5 g num net (.slice (some ⟨cb,co,none⟩) n cc) (zset (zset z 46 (IntKind.i64.wrap (z 46+1))) 45 ((nx:Int)+1)))) w'):=by
 have hk:(base 113).kind≠.early:=by simp [base]
 refine XI hev hi hs hcode nx hz hlt hn R A hR4 hA4 hop hR hA N hN inV chV w hF fun cl cs Stop Ret Pan B w3 hF=>?_;have hRi:(R:Int)<4:=by omega
 have hAi:(A:Int)<4:=by omega
 repeat refine .c1 L.terms1 rfl ?_
 iterate 5 (refine .regionL L.terms1 [0,1] (by rfl) ?_;iterate 2 (refine .opV L.terms1 rfl (by rfl) hk ?_;try walk_nrm);repeat refine .c1 L.terms1 rfl ?_;refine .condF L.terms1 (by rfl) ?_;repeat refine .c1 L.terms1 rfl ?_)
 refine .regionL L.terms1 [0,1] (by rfl) ?_;iterate 2 (refine .opV L.terms1 rfl (by rfl) hk ?_;try walk_nrm)
 repeat refine .c1 L.terms1 rfl ?_
 refine Y1.condT L.terms1 (by rfl) ?_;repeat refine .c1 L.terms1 rfl ?_
 refine .regionL L.terms1 [0,1,2,3,4,5,6,7,8,9] (by rfl) ?_;iterate 4 (refine .opV L.terms1 rfl (by rfl) hk ?_;try walk_nrm)
 refine .op rfl (by rfl) hk fun w1 hR K hK=>?_;replace hF:=hF.rely hR;clear hR;have hc:World.cell? _ ⟨g,25+A,none⟩=some (.int .i64 ((zset (zset z 46 (IntKind.i64.wrap (z 46+1))) 45 ((nx:Int)+1)) (25+A))):=KnL.cz hi hF (by omega) (by omega);go_simp;try (unfold stored;go_simp)
 refine hK _ _ ⟨?_,?_⟩
 ·refine KnL.clooks hi hF ?_;co_evs (exact ⟨_,rfl⟩)
 clear hK K;clear hc;try walk_nrm
 exact Y1.callX L.terms1 rfl (by rfl) hk rfl Tryz.func128 (by rfl) rfl #[.pointer (some ⟨g,0,none⟩),.int .i64 ((zset (zset z 46 (IntKind.i64.wrap (z 46+1))) 45 ((nx:Int)+1)) (25+A))] (by kernel_rfl) (Y4a (rows:=rows.set ic (Y5 g num net (.slice (some ⟨cb,co,none⟩) n cc) (zset (zset z 46 (IntKind.i64.wrap (z 46+1))) 45 ((nx:Int)+1)))++[Yt B 6 R A N]) _ hy _ hF) (fun _ _ h=>h.elim) fun ch w' fr h h1 _ h3 h4=>Pan fr ch w' h1 h3 h4 ⟨h.1,h.2.drop⟩
theorem Y54 (hev:((97:Nat)==L.ev)=false) (hi:rows[ic]?=some (Y5 g num net (.slice (some ⟨cb,co,none⟩) n cc) z)) (hs:Still L w0 cb) (hcode:∀j,j<n*4→w0.cell? ⟨cb,co+j,none⟩=some (.int .i64 (ci j))) (nx:Nat) (hz:z 45=nx) (hlt:nx<n) (hn:n≤48)
  (R A:Nat) (hR4:R<4) (hA4:A<4) (hop:ci (nx*4)=7) (hR:ci (nx*4+1)=R) (hA:ci (nx*4+2)=A) (N:Int) (hN:ci (nx*4+3)=N) (hy:(zset (zset z 46 (IntKind.i64.wrap (z 46+1))) 45 ((nx:Int)+1)) (25+A)<0∨16≤(zset (zset z 46 (IntKind.i64.wrap (z 46+1))) 45 ((nx:Int)+1)) (25+A)) (inV chV:Value) (w:World) (hF:Kn L w0 rows w):
  Yl Tryz.prog false L.R1 L.D1 113 #[.pointer (some ⟨g,0,none⟩),inV,chV] w (fun _ _=>False) (fun ch w'=>ch=[{v:=.iface 222 (.int .i64 2),recovered:=false}]∧Kn L w0 (rows.set ic (Y5 g num net (.slice (some ⟨cb,co,none⟩) n cc) (zset (zset z 46 (IntKind.i64.wrap (z 46+1))) 45 ((nx:Int)+1)))) w'):=by
 have hk:(base 113).kind≠.early:=by simp [base]
 refine XI hev hi hs hcode nx hz hlt hn R A hR4 hA4 hop hR hA N hN inV chV w hF fun cl cs Stop Ret Pan B w3 hF=>?_;have hRi:(R:Int)<4:=by omega
 have hAi:(A:Int)<4:=by omega
 repeat refine .c1 L.terms1 rfl ?_
 iterate 6 (refine .regionL L.terms1 [0,1] (by rfl) ?_;iterate 2 (refine .opV L.terms1 rfl (by rfl) hk ?_;try walk_nrm);repeat refine .c1 L.terms1 rfl ?_;refine .condF L.terms1 (by rfl) ?_;repeat refine .c1 L.terms1 rfl ?_)
 refine .regionL L.terms1 [0,1] (by rfl) ?_;iterate 2 (refine .opV L.terms1 rfl (by rfl) hk ?_;try walk_nrm)
 repeat refine .c1 L.terms1 rfl ?_
 refine Y1.condT L.terms1 (by rfl) ?_;repeat refine .c1 L.terms1 rfl ?_
 refine Y1.drawnN (S:=KnL L w0 (rows.set ic (Y5 g num net (.slice (some ⟨cb,co,none⟩) n cc) (zset (zset z 46 (IntKind.i64.wrap (z 46+1))) 45 ((nx:Int)+1)))) [Yt B 7 R A N]) (Die:=fun ch w'=>ch=[{v:=.iface 222 (.int .i64 2),recovered:=false}]∧Kn L w0 (rows.set ic (Y5 g num net (.slice (some ⟨cb,co,none⟩) n cc) (zset (zset z 46 (IntKind.i64.wrap (z 46+1))) 45 ((nx:Int)+1)))) w') L.terms1 L.draws1 10 (by rfl) hk (by kernel_rfl) (fun _ _ _ h=>h) (fun ch w' fr h h1 _ h3 h4=>Pan fr ch w' h1 h3 h4 h) fun w1 hR=>?_;replace hF:=(hF.rely hR).rely (Turn.drew _);clear hR;co_applyP Yq L.terms1 (fun _ _ _ _ h _=>h.elim) (fun _ _ h r=>KnL.rely h r) ?hqr1 (i:=0) rfl (by first|kernel_rfl|decide +kernel) (by first|kernel_rfl|decide +kernel) (by first|kernel_rfl|decide +kernel) (by first|kernel_rfl|decide +kernel) (.inl ⟨by rfl,fun _ hw=>⟨run_eq_of ?run1,?guar1⟩⟩) hF ?rest1
 case hqr1=>exact fun _ _ _ h r=>Y1.rely L.terms1.trans h r
 case run1=>
  intro K hK;skip;go_simp;exact hK
 case guar1=>
  skip
  co_quiet L.terms1
 try walk_nrm
 co_applyP Yq L.terms1 (fun _ _ _ _ h _=>h.elim) (fun _ _ h r=>KnL.rely h r) ?hqr2 (i:=1) rfl (by first|kernel_rfl|decide +kernel) (by first|kernel_rfl|decide +kernel) (by first|kernel_rfl|decide +kernel) (by first|kernel_rfl|decide +kernel) (.inl ⟨by rfl,fun _ hw=>⟨run_eq_of ?run2,?guar2⟩⟩) hF ?rest2
 case hqr2=>exact fun _ _ _ h r=>Y1.rely L.terms1.trans h r
 case run2=>
  intro K hK;skip;go_simp;exact hK
 case guar2=>
  skip
  co_quiet L.terms1
 try walk_nrm
 co_applyP Yq L.terms1 (fun _ _ _ _ h _=>h.elim) (fun _ _ h r=>KnL.rely h r) ?hqr3 (i:=2) rfl (by first|kernel_rfl|decide +kernel) (by first|kernel_rfl|decide +kernel) (by first|kernel_rfl|decide +kernel) (by first|kernel_rfl|decide +kernel) (.inl ⟨by rfl,fun _ hw=>⟨run_eq_of ?run3,?guar3⟩⟩) hF ?rest3
 case hqr3=>exact fun _ _ _ h r=>Y1.rely L.terms1.trans h r
 case run3=>
  intro K hK;skip;go_simp;exact hK
 case guar3=>
  skip
  co_quiet L.terms1
 try walk_nrm
 co_applyP Yq L.terms1 (fun _ _ _ _ h _=>h.elim) (fun _ _ h r=>KnL.rely h r) ?hqr4 (i:=3) rfl (by first|kernel_rfl|decide +kernel) (by first|kernel_rfl|decide +kernel) (by first|kernel_rfl|decide +kernel) (by first|kernel_rfl|decide +kernel) (.inl ⟨by rfl,fun _ hw=>⟨run_eq_of ?run4,?guar4⟩⟩) hF ?rest4
 case hqr4=>exact fun _ _ _ h r=>Y1.rely L.terms1.trans h r
 case run4=>
  intro K hK;have hc:World.cell? _ ⟨g,25+A,none⟩=some (.int .i64 ((zset (zset z 46 (IntKind.i64.wrap (z 46+1))) 45 ((nx:Int)+1)) (25+A))):=KnL.cz hi hw (by omega) (by omega);go_simp;exact hK
 case guar4=>
  have hc:World.cell? _ ⟨g,25+A,none⟩=some (.int .i64 ((zset (zset z 46 (IntKind.i64.wrap (z 46+1))) 45 ((nx:Int)+1)) (25+A))):=KnL.cz hi hw (by omega) (by omega);refine KnL.clooks hi hw ?_;co_evs (exact ⟨_,rfl⟩)
 try walk_nrm
 co_applyP Yq L.terms1 (fun _ _ _ _ h _=>h.elim) (fun _ _ h r=>KnL.rely h r) ?hqr5 (i:=5) rfl (by first|kernel_rfl|decide +kernel) (by first|kernel_rfl|decide +kernel) (by first|kernel_rfl|decide +kernel) (by first|kernel_rfl|decide +kernel) (.inl ⟨by rfl,fun _ hw=>⟨run_eq_of ?run5,?guar5⟩⟩) hF ?rest5
 case hqr5=>exact fun _ _ _ h r=>Y1.rely L.terms1.trans h r
 case run5=>
  intro K hK;skip;go_simp;exact hK
 case guar5=>
  skip
  co_quiet L.terms1
 try walk_nrm
 co_applyP Yq L.terms1 (fun _ _ _ _ h _=>h.elim) (fun _ _ h r=>KnL.rely h r) ?hqr6 (i:=6) rfl (by first|kernel_rfl|decide +kernel) (by first|kernel_rfl|decide +kernel) (by first|kernel_rfl|decide +kernel) (by first|kernel_rfl|decide +kernel) (.inl ⟨by rfl,fun _ hw=>⟨run_eq_of ?run6,?guar6⟩⟩) hF ?rest6
 case hqr6=>exact fun _ _ _ h r=>Y1.rely L.terms1.trans h r
 case run6=>
  intro K hK;skip;go_simp;exact hK
 case guar6=>
  skip
  co_quiet L.terms1
 try walk_nrm
 co_applyP Yq L.terms1 (fun _ _ _ _ h _=>h.elim) (fun _ _ h r=>KnL.rely h r) ?hqr7 (i:=7) rfl (by first|kernel_rfl|decide +kernel) (by first|kernel_rfl|decide +kernel) (by first|kernel_rfl|decide +kernel) (by first|kernel_rfl|decide +kernel) (.inl ⟨by rfl,fun _ hw=>⟨run_eq_of ?run7,?guar7⟩⟩) hF ?rest7
 case hqr7=>exact fun _ _ _ h r=>Y1.rely L.terms1.trans h r
 case run7=>
  intro K hK;have hc:World.cell? _ ⟨g,25+R,none⟩=some (.int .i64 ((zset (zset z 46 (IntKind.i64.wrap (z 46+1))) 45 ((nx:Int)+1)) (25+R))):=KnL.cz hi hw (by omega) (by omega);go_simp;exact hK
 case guar7=>
  have hc:World.cell? _ ⟨g,25+R,none⟩=some (.int .i64 ((zset (zset z 46 (IntKind.i64.wrap (z 46+1))) 45 ((nx:Int)+1)) (25+R))):=KnL.cz hi hw (by omega) (by omega);refine KnL.clooks hi hw ?_;co_evs (exact ⟨_,rfl⟩)
 try walk_nrm
 refine JS (Post:=fun _ _=>False) (i:=4) (by first|kernel_rfl|decide +kernel) rfl (by rfl) rfl Tryz.func128 (by rfl) rfl #[.pointer (some ⟨g,0,none⟩),.int .i64 ((zset (zset z 46 (IntKind.i64.wrap (z 46+1))) 45 ((nx:Int)+1)) (25+A))] (by kernel_rfl) ((Y4a (rows:=rows.set ic (Y5 g num net (.slice (some ⟨cb,co,none⟩) n cc) (zset (zset z 46 (IntKind.i64.wrap (z 46+1))) 45 ((nx:Int)+1)))++[Yt B 7 R A N]) _ hy _ hF).mono (fun _ _ h=>h.elim) fun ch w' h=>⟨h.1,h.2.drop⟩) ?_;exact fun _ _ h=>h.elim
end
def XQ (P:Program) (L:Lot) (FS:World→Prop) (f:FuncId) (args:Array Value) (w:World) (evs:List Value) (Post:Value→World→Prop) (Die:List PanicEntry→World→Prop):Prop:=
 ∀(cl:Frame) (cs:List Frame) (vs:List Value),(∀v w',Post v w'→Y1 P false L.R1 L.D1 (StopB P L.c L.R1 L.D1 L.SL FS vs) (G (cl.finish v) cs) w')→(∀ch w',Die ch w'→Y1 P false L.R1 L.D1 (StopB P L.c L.R1 L.D1 L.SL FS vs) (G (cl.raise ch) cs) w')→
  Y1 P false L.R1 L.D1 (StopB P L.c L.R1 L.D1 L.SL FS (evs++vs)) (G (Frame.enter P f args .normal) (cl::cs)) w
theorem Yl.quiet {P:Program} {L:Lot} {FS:World→Prop} {f:FuncId} {args:Array Value} {w:World} {Post:Value→World→Prop} {Die:List PanicEntry→World→Prop} (h:Yl P false L.R1 L.D1 f args w Post Die):XQ P L FS f args w [] Post Die:=fun cl cs _ h1 h2=>h cl cs _ h1 h2
theorem XQ.intro {P:Program} {L:Lot} {FS:World→Prop} {f:FuncId} {fn:Func} {c:Code} {args:Array Value} {w:World} {evs:List Value} (tmps:Array Value) {Post:Value→World→Prop} {Die:List PanicEntry→World→Prop} (hf:P.funcs[f]?=some fn) (hb:fn.body=some c) (ht:args++Array.replicate (fn.ntmps-args.size) undef=tmps)
  (h:∀(cl:Frame) (cs:List Frame) (vs:List Value),
   (∀a todo w' v,a.defers=[]→ZK P L.R1 L.D1 f fn a.tmps w' v→Post v w'→Y1 P false L.R1 L.D1 (StopB P L.c L.R1 L.D1 L.SL FS vs) (G {(base f).at a todo with mode:=.returning} (cl::cs)) w')→
   (∀fr ch w',fr.fn=f→fr.defers=[]→fr.mode=.panicking ch→Die ch w'→Y1 P false L.R1 L.D1 (StopB P L.c L.R1 L.D1 L.SL FS vs) (G fr (cl::cs)) w')→
   Y1 P false L.R1 L.D1 (StopB P L.c L.R1 L.D1 L.SL FS (evs++vs)) (G ((base f).at {tmps:=tmps,defers:=[]} [.code c]) (cl::cs)) w):XQ P L FS f args w evs Post Die:=fun cl cs vs hp hd=>by
 rw [enter_at args hf hb,ht];exact h cl cs vs (fun a todo w' v h1 h2 h3=>.leave L.terms1 hf h1 h2 (hp v w' h3)) fun fr ch w' h1 h2 h3 h4=>.up L.terms1 h3 h2 (by rw [h1];exact hf) (hd ch w' h4)
theorem Y1.send {P:Program} {L:Lot} {FS:World→Prop} {vs:List Value} {b:Frame} {a:Act} {k:List Item} {cs:List Frame} {w:World} {ops:Array Oper} {i:Nat} {rest:List Nat} {o:Oper} {x y:Operand} {v:Value} (ho:ops[i]?=some o) (hw:Region.wanted o (yielded ops a.tmps)=true) (hk:b.kind≠.early) (hop:o.op=.send x y) (hx:a.eval x=.chan (some L.c)) (hy:a.eval y=v)
  (h:Y1 P false L.R1 L.D1 (StopB P L.c L.R1 L.D1 L.SL FS vs) (G (b.at (a.put o.dst undef) (.inRegion ops rest::k)) cs) w):Y1 P false L.R1 L.D1 (StopB P L.c L.R1 L.D1 L.SL FS (v::vs)) (G (b.at a (.inRegion ops (i::rest)::k)) cs) w:=by
 refine .stop rfl fun w₁ r=>⟨G (b.at a (.inRegion ops (i::rest)::k)) cs,.tuple #[],#[],?_,by simp,fun w₂ r₂=>?_⟩
 ·rw [stepG_comm (cases:=#[scase L.c v (.tuple #[])]) (blocking:=true) (shape:=.send) (w':=w₁) ho hw hk (by simp [execOp,hop,hx,hy,scase])];have he:(execOp a.eval o).events P w₁ #[]=#[]:=by
   unfold execOp;simp only [hop];rfl
  rw [listed_nil he]
 ·have e:Go.Conc.served (G (b.at a (.inRegion ops (i::rest)::k)) cs) undef=G (b.at (a.put o.dst undef) (.inRegion ops rest::k)) cs:=by
   rw [served_G];simp [ho]
  rw [e];exact (h.rely L.terms1.trans r).rely L.terms1.trans r₂
section
variable {L:Lot} {w0:World} {rows:List Row} {ic g cb co n cc:Nat} {num:Int} {net:Value} {z ci:Nat→Int}
theorem Y6n {FS:World→Prop} (hev:((97:Nat)==L.ev)=false) (hi:rows[ic]?=some (Y5 g num net (.slice (some ⟨cb,co,none⟩) n cc) z)) (hs:Still L w0 cb) (hcode:∀j,j<n*4→w0.cell? ⟨cb,co+j,none⟩=some (.int .i64 (ci j))) (nx:Nat) (hz:z 45=nx) (hlt:nx<n) (hn:n≤48)
  (R A:Nat) (hR4:R<4) (hA4:A<4) (hop:ci (nx*4)=15) (hR:ci (nx*4+1)=R) (hA:ci (nx*4+2)=A) (N:Int) (hN:ci (nx*4+3)=N) (inV:Value) (w:World) (hF:Kn L w0 rows w):
  XQ Tryz.prog L FS 113 #[.pointer (some ⟨g,0,none⟩),inV,.chan (some L.c)] w [.agg #[.int .i64 1,.int .i64 ((zset (zset z 46 (IntKind.i64.wrap (z 46+1))) 45 ((nx:Int)+1)) (25+R)),.int .i64 0]] (fun v w'=>v=.int .i64 15∧Kn L w0 (rows.set ic (Y5 g num net (.slice (some ⟨cb,co,none⟩) n cc) (zset (zset z 46 (IntKind.i64.wrap (z 46+1))) 45 ((nx:Int)+1)))) w') (fun _ _=>False):=by
 have hk:(base 113).kind≠.early:=by simp [base]
 refine XQ.intro (c:=Y1Y) _ Tryz.func113 rfl (by kernel_rfl) fun cl cs vs Ret _=>Y2V hev hi hs hcode nx hz hlt hn R A hR4 hA4 hop hR hA N hN inV (.chan (some L.c)) w hF fun B w3 hF=>?_;have hRi:(R:Int)<4:=by omega
 have hAi:(A:Int)<4:=by omega
 repeat refine .c1 L.terms1 rfl ?_
 iterate 9 (refine .regionL L.terms1 [0,1] (by rfl) ?_;iterate 2 (refine .opV L.terms1 rfl (by rfl) hk ?_;try walk_nrm);repeat refine .c1 L.terms1 rfl ?_;refine .condF L.terms1 (by rfl) ?_;repeat refine .c1 L.terms1 rfl ?_)
 refine .regionL L.terms1 [0,1] (by rfl) ?_;iterate 2 (refine .opV L.terms1 rfl (by rfl) hk ?_;try walk_nrm)
 repeat refine .c1 L.terms1 rfl ?_
 refine Y1.condT L.terms1 (by rfl) ?_;repeat refine .c1 L.terms1 rfl ?_
 refine .regionL L.terms1 [0,1,2,3,4,5] (by rfl) ?_;iterate 3 (refine .opV L.terms1 rfl (by rfl) hk ?_;try walk_nrm)
 refine .op rfl (by rfl) hk fun w1 hR K hK=>?_;replace hF:=hF.rely hR;clear hR;have hc:World.cell? _ ⟨g,25+R,none⟩=some (.int .i64 ((zset (zset z 46 (IntKind.i64.wrap (z 46+1))) 45 ((nx:Int)+1)) (25+R))):=KnL.cz hi hF (by omega) (by omega);go_simp;try (unfold stored;go_simp)
 refine hK _ _ ⟨?_,?_⟩
 ·refine KnL.clooks hi hF ?_;co_evs (exact ⟨_,rfl⟩)
 clear hK K;clear hc;try walk_nrm
 refine .opV L.terms1 rfl (by rfl) hk ?_;try walk_nrm
 refine Y1.send rfl (by rfl) hk rfl rfl rfl ?_;try walk_nrm
 repeat refine .c1 L.terms1 rfl ?_
 refine .regionL L.terms1 [0,1,2] (by rfl) ?_;refine .opV L.terms1 rfl (by rfl) hk ?_;try walk_nrm
 refine .op rfl (by rfl) hk fun w1 hR K hK=>?_;replace hF:=hF.rely hR;clear hR;obtain ⟨a0,a1,a2,a3⟩:=hF.lins (k:=0) rfl;go_simp;try (unfold stored;go_simp)
 refine hK _ _ ⟨?_,?_⟩
 ·refine hF.llooks (k:=0) rfl ?_;co_evs (exact ⟨_,rfl⟩)
 clear hK K;clear a0 a1 a2 a3;try walk_nrm
 refine .opV L.terms1 rfl (by rfl) hk ?_;try walk_nrm
 repeat refine .c1 L.terms1 rfl ?_
 refine Y1.ret L.terms1 fun todo=>?_;exact Ret _ todo _ _ rfl (Xj L.terms1 (by rfl) _) ⟨by rfl,hF.drop⟩
end
section
variable {P:Program} {main:Bool} {R:World→World→Prop} {D:World→World→Array Event→Prop} {Stop:Goroutine→World→Prop} {b:Frame} {a:Act} {k:List Item} {cs:List Frame} {w:World} {ops:Array Oper} {i:Nat} {rest:List Nat} {o:Oper}
theorem Y1.defer (T:Terms R D) (ho:ops[i]?=some o) (hw:Region.wanted o (yielded ops a.tmps)=true) (hk:b.kind≠.early) (d:Deferred) (hr:∀w,(execOp a.eval o).run P w=.ok (.defer d) w) (he:∀w,(execOp a.eval o).events P w #[]=#[])
  (h:Y1 P main R D Stop (G (b.at (Act.put ⟨a.tmps,d::a.defers⟩ o.dst undef) (.inRegion ops rest::k)) cs) w):Y1 P main R D Stop (G (b.at a (.inRegion ops (i::rest)::k)) cs) w:=by
 refine .ctl T rfl (fun w₁=>?_) h;have hfin:(b.at ⟨a.tmps,d::a.defers⟩ (.inRegion ops (i::rest)::k)).finish undef=b.at (Act.put ⟨a.tmps,d::a.defers⟩ o.dst undef) (.inRegion ops rest::k):=by rw [Frame.finish_at,ho];rfl
 have hk':(b.kind==CallKind.early)=false:=by simpa using hk
 rw [stepG_oper ho hw,←hfin];simp [stepG.apply,hr,he,G,Frame.at,hk',GStep.after,seen_none]
theorem Y1.recoverNone (T:Terms R D) {c:Frame} (ho:ops[i]?=some o) (hw:Region.wanted o (yielded ops a.tmps)=true) (hk:b.kind=.deferred) (hop:o.op=.call {callee:=.builtin .recover,args:=#[],argTypes:=#[]}) (hc:c.mode=.returning)
  (h:Y1 P main R D Stop (G (b.at (a.put o.dst .nilIface) (.inRegion ops rest::k)) (c::cs)) w):Y1 P main R D Stop (G (b.at a (.inRegion ops (i::rest)::k)) (c::cs)) w:=by
 refine .ctl T rfl (fun w₁=>?_) h;have hfin:(b.at a (.inRegion ops (i::rest)::k)).finish .nilIface=b.at (a.put o.dst .nilIface) (.inRegion ops rest::k):=by rw [Frame.finish_at,ho];rfl
 have hr:(execOp a.eval o).run P w₁=.ok .recover w₁:=by
  unfold execOp;simp [hop,resolve,invoke,builtin]
 have he:(execOp a.eval o).events P w₁ #[]=#[]:=by
  unfold execOp;simp [hop,resolve,invoke,builtin]
 rw [stepG_oper ho hw,←hfin];simp [stepG.apply,hr,he,G,Frame.at,hk,GStep.after,seen_none,tryRecover,hc]
theorem Y1.recoverSome (T:Terms R D) {c:Frame} {v:Value} (ho:ops[i]?=some o) (hw:Region.wanted o (yielded ops a.tmps)=true) (hk:b.kind=.deferred) (hop:o.op=.call {callee:=.builtin .recover,args:=#[],argTypes:=#[]}) (hc:c.mode=.panicking [{v,recovered:=false}])
  (h:Y1 P main R D Stop (G (b.at (a.put o.dst v) (.inRegion ops rest::k)) ({c with mode:=.panicking [{v,recovered:=true}]}::cs)) w):Y1 P main R D Stop (G (b.at a (.inRegion ops (i::rest)::k)) (c::cs)) w:=by
 refine .ctl T rfl (fun w₁=>?_) h;have hfin:(b.at a (.inRegion ops (i::rest)::k)).finish v=b.at (a.put o.dst v) (.inRegion ops rest::k):=by rw [Frame.finish_at,ho];rfl
 have hr:(execOp a.eval o).run P w₁=.ok .recover w₁:=by
  unfold execOp;simp [hop,resolve,invoke,builtin]
 have he:(execOp a.eval o).events P w₁ #[]=#[]:=by
  unfold execOp;simp [hop,resolve,invoke,builtin]
 rw [stepG_oper ho hw,←hfin];simp [stepG.apply,hr,he,G,Frame.at,hk,GStep.after,seen_none,tryRecover,hc]
theorem Y1.unwind (T : Terms R D) {fr : Frame} {f : FuncId} {fn : Func} {c : Code} {xs cap : Array Value} {ds : List Deferred} (tmps : Array Value) (hm : fr.mode ≠ .run) (hd : fr.defers = { target := .fn (.func f) cap, args := xs } :: ds) (hf : P.funcs[f]? = some fn) (hname : (fn.name == "runtime.NumGoroutine") = false) (hb : fn.body = some c)
  (ht:(xs++cap)++Array.replicate (fn.ntmps-(xs++cap).size) undef=tmps)
  (h:Y1 P main R D Stop (G ((baseD f).at {tmps:=tmps,defers:=[]} [.code c]) ({fr with defers:=ds}::cs)) w):Y1 P main R D Stop (G fr cs) w:=by
 refine .ctl T rfl (fun w₁=>?_) h;have h1 : ¬ fn.name = "runtime.NumGoroutine" := by simpa using hname
 rw [Z6 hm,←ht,←enter_atD (xs++cap) hf hb];unfold Go.unwind;simp only [hd];simp [callDeferred,invoke,callFunc,hf,h1,hb,GStep.after,seen_none,G]
theorem Y1.leaveD (T:Terms R D) {f:FuncId} {fn:Func} {todo:List Item} {c c':Frame} {v:Value} (hf:P.funcs[f]?=some fn) (hd:a.defers=[]) (hr:ZK P R D f fn a.tmps w v)
  (hc:(c.mode=.returning∧c'=c)∨(∃x,c.mode=.panicking [{v:=x,recovered:=true}]∧c'={c with mode:=.returning}))
  (h:Y1 P main R D Stop (G c' cs) w):Y1 P main R D Stop (G {(baseD f).at a todo with mode:=.returning} (c::cs)) w:=by
 refine .one rfl fun w₁ h₁=>⟨_,_,seen P f ((results fn a.tmps).events P w₁ #[]),?_,(hr w₁ h₁).2,h.rely T.trans h₁⟩;have e:=(hr w₁ h₁).1;rcases hc with ⟨hm,rfl⟩|⟨x,hm,rfl⟩
 ·simp [G,stepG,Go.unwind,doReturn,Frame.at,baseD,hd,hf,e,hm,GStep.after]
 ·simp [G,stepG,Go.unwind,doReturn,Frame.at,baseD,hd,hf,e,hm,GStep.after]
end
section
variable {P:Program} {L:Lot} {FS:World→Prop} {b:Frame} {a:Act} {k:List Item} {cs:List Frame} {w:World} {ops:Array Oper} {i:Nat} {rest:List Nat} {o:Oper}
theorem Y1.callE {f:FuncId} {fn:Func} {c:Code} {args:Array Operand} {ats:Array TypeId} {Post:Value→World→Prop} {Die:List PanicEntry→World→Prop} {evs vs:List Value}
  (ho:ops[i]?=some o) (hw:Region.wanted o (yielded ops a.tmps)=true) (hk:b.kind≠.early) (hop:o.op=.call {callee:=.value (.func f),args,argTypes:=ats})
  (hf : P.funcs[f]? = some fn) (hname : (fn.name == "runtime.NumGoroutine") = false) (hb : fn.body = some c) (xs : Array Value) (hv : args.map a.eval = xs) (hc : XQ P L FS f xs w evs Post Die)
  (h:∀v w',Post v w'→Y1 P false L.R1 L.D1 (StopB P L.c L.R1 L.D1 L.SL FS vs) (G (b.at (a.put o.dst v) (.inRegion ops rest::k)) cs) w')
  (hd:∀ch w',Die ch w'→Y1 P false L.R1 L.D1 (StopB P L.c L.R1 L.D1 L.SL FS vs) (G {b.at a (.inRegion ops (i::rest)::k) with mode:=.panicking ch} cs) w'):
  Y1 P false L.R1 L.D1 (StopB P L.c L.R1 L.D1 L.SL FS (evs++vs)) (G (b.at a (.inRegion ops (i::rest)::k)) cs) w:=by
 refine Y1.enter L.terms1 ho hw hk hop hf hname hb ?_;rw [←enter_at _ hf hb,hv];refine hc _ cs vs (fun v w' x=>?_) fun ch w' x=>hd ch w' x;rw [Frame.finish_at,ho];exact h v w' x
end
end Go.Proofs.YtdoghgnifkgfdaaGreat.Mute
