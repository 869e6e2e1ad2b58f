import Derived.Test.YtdoghgnifkgfdaaGreatP30
set_option maxRecDepth 100000
set_option maxHeartbeats 16000000
namespace Go.Proofs.YtdoghgnifkgfdaaGreat.Mute
open Go Go.Conc Go.RowKit
section
variable {L:Lot} {w0:World} {rows:List Row} {ic is g nb k cs_:Nat} {num:Int} {code:Value} {z:Nat→Int} {rs:Row}
theorem YfJ (hev:((97:Nat)==L.ev)=false) (hi:rows[ic]?=some (Y5 g num (.pointer (some ⟨nb,0,none⟩)) code z)) (hs:rows[is]?=some rs) (sn:Still L w0 nb) (n2:w0.cell? ⟨nb,2,none⟩=some (.slice (some ⟨rs.g,0,none⟩) k cs_)) (i:Nat) (hik:i<k) (hsm:k*4≤rs.m) (R A:Nat) (hR4:R<4) (hA4:A<4) (inV:Value) (w:World) (hF:Kn L w0 rows w):
  Yl Tryz.prog false L.R1 L.D1 129 #[.pointer (some ⟨g,0,none⟩),.agg #[.int .i64 11,.int .i64 R,.int .i64 A,.int .i64 i],inV] w (fun v w'=>v=.tuple #[]∧Kn L w0 (rows.set is ((rs.put (i*4+2) (.int .i64 (z (25+R)))).put (i*4+3) (.bool true))) w') (fun _ _=>False):=by
 have hk:(base 129).kind≠.early:=by simp [base]
 refine Yl.intro (c:=Ycm) L.terms1 _ Tryz.func129 rfl (by kernel_rfl) fun cl cs Stop Ret _=>Ycr (g:=g) hev R A hR4 hA4 11 i inV w hF fun B w3 hF=>?_;repeat refine .c1 L.terms1 rfl ?_
 iterate 1 (refine .regionL L.terms1 [0,1] (by rfl) ?_;iterate 2 (refine .opV L.terms1 rfl (by rfl) hk ?_;try walk_nrm);repeat refine .c1 L.terms1 rfl ?_;refine .condF L.terms1 (by rfl) ?_;repeat refine .c1 L.terms1 rfl ?_)
 refine .regionL L.terms1 [0,1] (by rfl) ?_;iterate 2 (refine .opV L.terms1 rfl (by rfl) hk ?_;try walk_nrm)
 repeat refine .c1 L.terms1 rfl ?_
 refine Y1.condT L.terms1 (by rfl) ?_;repeat refine .c1 L.terms1 rfl ?_
 refine Y1.drawnN (S:=KnL L w0 rows [Yt B 11 R A (i:Nat)]) (Die:=fun _ _=>False) L.terms1 L.draws1 11 (by rfl) hk (by kernel_rfl) (fun _ _ _ h=>h) (fun _ _ _ h=>h.elim) fun w1 hR=>?_;replace hF:=(hF.rely hR).rely (Turn.drew _);clear hR;refine Y4 L.terms1 0 (fun _ _ h r=>KnL.rely h r) hF ?_;try walk_nrm
 refine Y4 L.terms1 1 (fun _ _ h r=>KnL.rely h r) hF ?_;try walk_nrm
 refine Y4 L.terms1 2 (fun _ _ h r=>KnL.rely h r) hF ?_;try walk_nrm
 refine Ye L.terms1 3 rfl (fun _ _ h r=>KnL.rely h r) hF ?_ fun _ hw=>⟨run_eq_of (by
  intro K hK;have hc:World.cell? _ ⟨g,1,none⟩=some (.pointer (some ⟨nb,0,none⟩)):=hw.cell hi (j:=1) (show 1<48 by omega);go_simp;exact hK),by
  have hc:World.cell? _ ⟨g,1,none⟩=some (.pointer (some ⟨nb,0,none⟩)):=hw.cell hi (j:=1) (show 1<48 by omega);refine hw.looks hi ?_;co_evs (exact ⟨_,rfl⟩)⟩
 try walk_nrm
 refine Y4 L.terms1 4 (fun _ _ h r=>KnL.rely h r) hF ?_;try walk_nrm
 refine Ye L.terms1 5 rfl (fun _ _ h r=>KnL.rely h r) hF ?_ fun _ hw=>⟨run_eq_of (by
  intro K hK;obtain ⟨a0,a1,a2,a3⟩:=hw.lins (k:=0) rfl;go_simp;exact hK),by
  obtain ⟨a0,a1,a2,a3⟩:=hw.lins (k:=0) rfl;refine hw.llooks (k:=0) rfl ?_;co_evs (exact ⟨_,rfl⟩)⟩
 try walk_nrm
 refine Y4 L.terms1 7 (fun _ _ h r=>KnL.rely h r) hF ?_;try walk_nrm
 refine Y4 L.terms1 8 (fun _ _ h r=>KnL.rely h r) hF ?_;try walk_nrm
 refine Ye L.terms1 9 rfl (fun _ _ h r=>KnL.rely h r) hF ?_ fun _ hw=>⟨run_eq_of (by
  intro K hK;have hc:World.cell? _ ⟨g,25+R,none⟩=some (.int .i64 (z (25+R))):=hw.cellZ hi (by omega) (by omega);go_simp;exact hK),by
  have hc:World.cell? _ ⟨g,25+R,none⟩=some (.int .i64 (z (25+R))):=hw.cellZ hi (by omega) (by omega);refine hw.looks hi ?_;co_evs (exact ⟨_,rfl⟩)⟩
 try walk_nrm
 refine JS (i:=6) (by first|kernel_rfl|decide +kernel) rfl (by rfl) rfl Tryz.func139 (by rfl) rfl #[.pointer (some ⟨nb,0,none⟩),.int .i64 i] (by kernel_rfl) (YdK sn n2 i hik _ hF) ?_;rintro v w2 ⟨rfl,hF2⟩;refine ⟨.inl hF2,?_⟩;replace hF:KnL L w0 rows [Yt B 11 R A (i:Nat)] _:=hF2;clear hF2;try walk_nrm
 refine JS (i:=10) (by first|kernel_rfl|decide +kernel) rfl (by rfl) rfl Tryz.func140 (by rfl) rfl #[.pointer (some ⟨rs.g,i*4,none⟩),.int .i64 (z (25+R))] (by kernel_rfl) (Yfs (J2 hs) i (z (25+R)) (by omega) _ hF) ?_;rintro v w2 ⟨rfl,hF2⟩;refine ⟨.inr (Z8 rfl (by first|kernel_rfl|decide +kernel)),?_⟩;rw [List.set_set,Y2q hs] at hF2;replace hF:=Kn.drop hF2;clear hF2;try walk_nrm
 refine Xi (by first|kernel_rfl|decide +kernel) ?_ _;repeat refine .c1 L.terms1 rfl ?_
 refine Y1.fin L.terms1 ?_;exact Ret _ [] _ _ rfl (Y0L L.terms1 (by rfl) _) ⟨rfl,hF⟩
end
section
variable {L:Lot} {w0:World} {rows:List Row} {ic is g nb k cs_:Nat} {num:Int} {code:Value} {z:Nat→Int} {rs:Row}
theorem YfY (hev:((97:Nat)==L.ev)=false) (hi:rows[ic]?=some (Y5 g num (.pointer (some ⟨nb,0,none⟩)) code z)) (hs:rows[is]?=some rs) (hne:is≠ic) (sn:Still L w0 nb) (n2:w0.cell? ⟨nb,2,none⟩=some (.slice (some ⟨rs.g,0,none⟩) k cs_)) (i:Nat) (hik:i<k) (hsm:k*4≤rs.m) (x y:Int) (hx:rs.f (i*4)=.int .i64 x) (hy:rs.f (i*4+1)=.int .i64 y) (R A:Nat) (hR4:R<4) (hA4:A<4) (inV:Value) (w:World) (hF:Kn L w0 rows w):
  Yl Tryz.prog false L.R1 L.D1 129 #[.pointer (some ⟨g,0,none⟩),.agg #[.int .i64 13,.int .i64 R,.int .i64 A,.int .i64 i],inV] w (fun v w'=>v=.tuple #[]∧Kn L w0 (rows.set ic (Y5 g num (.pointer (some ⟨nb,0,none⟩)) code (zset (zset z (25+R) x) (25+A) y))) w') (fun _ _=>False):=by
 have hk:(base 129).kind≠.early:=by simp [base]
 refine Yl.intro (c:=Ycm) L.terms1 _ Tryz.func129 rfl (by kernel_rfl) fun cl cs Stop Ret _=>Ycr (g:=g) hev R A hR4 hA4 13 i inV w hF fun B w3 hF=>?_;replace hF:KnL L w0 (rows.set ic (Y5 g num (.pointer (some ⟨nb,0,none⟩)) code z)) [Yt B 13 R A (i:Nat)] w3:=by rw [Y4p hi];exact hF
 have hs2:∀Z,(rows.set ic (Y5 g num (.pointer (some ⟨nb,0,none⟩)) code Z))[is]?=some rs:=fun Z=>by rw [ZZ hne];exact hs
 repeat refine .c1 L.terms1 rfl ?_
 iterate 3 (refine .regionL L.terms1 [0,1] (by rfl) ?_;iterate 2 (refine .opV L.terms1 rfl (by rfl) hk ?_;try walk_nrm);repeat refine .c1 L.terms1 rfl ?_;refine .condF L.terms1 (by rfl) ?_;repeat refine .c1 L.terms1 rfl ?_)
 refine .regionL L.terms1 [0,1] (by rfl) ?_;iterate 2 (refine .opV L.terms1 rfl (by rfl) hk ?_;try walk_nrm)
 repeat refine .c1 L.terms1 rfl ?_
 refine Y1.condT L.terms1 (by rfl) ?_;repeat refine .c1 L.terms1 rfl ?_
 refine Y1.drawnN (S:=fun w=>∃z1,KnL L w0 (rows.set ic (Y5 g num (.pointer (some ⟨nb,0,none⟩)) code z1)) [Yt B 13 R A (i:Nat)] w) (Die:=fun _ _=>False) L.terms1 L.draws1 17 (by rfl) hk (by kernel_rfl) (fun _ _ _ h=>h) (fun _ _ _ h=>h.elim) fun w1 hR=>?_;replace hF:=(hF.rely hR).rely (Turn.drew _);clear hR;refine Y4 L.terms1 0 (fun _ _ ⟨z1,h⟩ r=>⟨z1,KnL.rely h r⟩) ⟨_,hF⟩ ?_;try walk_nrm
 refine Y4 L.terms1 1 (fun _ _ ⟨z1,h⟩ r=>⟨z1,KnL.rely h r⟩) ⟨_,hF⟩ ?_;try walk_nrm
 refine Y4 L.terms1 2 (fun _ _ ⟨z1,h⟩ r=>⟨z1,KnL.rely h r⟩) ⟨_,hF⟩ ?_;try walk_nrm
 refine Y4 L.terms1 3 (fun _ _ ⟨z1,h⟩ r=>⟨z1,KnL.rely h r⟩) ⟨_,hF⟩ ?_;try walk_nrm
 refine Y4 L.terms1 4 (fun _ _ ⟨z1,h⟩ r=>⟨z1,KnL.rely h r⟩) ⟨_,hF⟩ ?_;try walk_nrm
 refine Ye L.terms1 5 rfl (fun _ _ ⟨z1,h⟩ r=>⟨z1,KnL.rely h r⟩) ⟨_,hF⟩ ?_ fun _ hw=>⟨run_eq_of (by
  intro K hK;obtain ⟨z1,hw⟩:=hw;have hc:World.cell? _ ⟨g,1,none⟩=some (.pointer (some ⟨nb,0,none⟩)):=hw.cell (YN hi _) (j:=1) (show 1<48 by omega);go_simp;exact hK),by
  obtain ⟨z1,hw⟩:=hw;have hc:World.cell? _ ⟨g,1,none⟩=some (.pointer (some ⟨nb,0,none⟩)):=hw.cell (YN hi _) (j:=1) (show 1<48 by omega);refine hw.looks (YN hi _) ?_;co_evs (exact ⟨_,rfl⟩)⟩
 try walk_nrm
 refine Y4 L.terms1 6 (fun _ _ ⟨z1,h⟩ r=>⟨z1,KnL.rely h r⟩) ⟨_,hF⟩ ?_;try walk_nrm
 refine Ye L.terms1 7 rfl (fun _ _ ⟨z1,h⟩ r=>⟨z1,KnL.rely h r⟩) ⟨_,hF⟩ ?_ fun _ hw=>⟨run_eq_of (by
  intro K hK;obtain ⟨z1,hw⟩:=hw;obtain ⟨a0,a1,a2,a3⟩:=hw.lins (k:=0) rfl;go_simp;exact hK),by
  obtain ⟨z1,hw⟩:=hw;obtain ⟨a0,a1,a2,a3⟩:=hw.lins (k:=0) rfl;refine hw.llooks (k:=0) rfl ?_;co_evs (exact ⟨_,rfl⟩)⟩
 try walk_nrm
 refine JS (i:=8) (by first|kernel_rfl|decide +kernel) rfl (by rfl) rfl Tryz.func139 (by rfl) rfl #[.pointer (some ⟨nb,0,none⟩),.int .i64 i] (by kernel_rfl) (YdK sn n2 i hik _ hF) ?_;rintro v w2 ⟨rfl,hF2⟩;refine ⟨.inl ⟨_,hF2⟩,?_⟩;replace hF:KnL L w0 (rows.set ic (Y5 g num (.pointer (some ⟨nb,0,none⟩)) code z)) [Yt B 13 R A (i:Nat)] _:=hF2;clear hF2;try walk_nrm
 refine JS (i:=9) (by first|kernel_rfl|decide +kernel) rfl (by rfl) rfl Tryz.func142 (by rfl) rfl #[.pointer (some ⟨rs.g,i*4,none⟩)] (by kernel_rfl) (Ygh (J2 (hs2 z)) i x y hx hy (by omega) _ hF) ?_;rintro v w2 ⟨rfl,hF2⟩;refine ⟨.inl ⟨_,hF2⟩,?_⟩;replace hF:KnL L w0 (rows.set ic (Y5 g num (.pointer (some ⟨nb,0,none⟩)) code z)) [Yt B 13 R A (i:Nat)] _:=hF2;clear hF2;try walk_nrm
 refine Y4 L.terms1 10 (fun _ _ ⟨z1,h⟩ r=>⟨z1,KnL.rely h r⟩) ⟨_,hF⟩ ?_;try walk_nrm
 refine Y4 L.terms1 11 (fun _ _ ⟨z1,h⟩ r=>⟨z1,KnL.rely h r⟩) ⟨_,hF⟩ ?_;try walk_nrm
 refine Y4 L.terms1 12 (fun _ _ ⟨z1,h⟩ r=>⟨z1,KnL.rely h r⟩) ⟨_,hF⟩ ?_;try walk_nrm
 refine Y4 L.terms1 13 (fun _ _ ⟨z1,h⟩ r=>⟨z1,KnL.rely h r⟩) ⟨_,hF⟩ ?_;try walk_nrm
 refine XZ (i:=14) (by first|kernel_rfl|decide +kernel) rfl (by rfl) ?_;intro w1 hR K hK;replace hF:=hF.rely hR;clear hR;have hc:World.cell? _ ⟨g,25+R,none⟩=some (.int .i64 (z (25+R))):=KnL.cz hi hF (by omega) (by omega);have hz2:World.frozen? _ ⟨g,25+R,none⟩=false:=KnL.cfz hi hF (25+R);go_simp;try (unfold stored;go_simp)
 refine hK _ _ ⟨?_,?_,?_⟩
 ·refine KnL.cdoes hi hF (25+R) _ ?_;co_evs (exact rfl)
 ·exact .inl ⟨_,KnL.cset hi hF (j:=25+R) (by omega) (x)⟩
 clear hK K;clear hc hz2;replace hF:=KnL.cset hi hF (j:=25+R) (by omega) (x);try walk_nrm
 refine Y4 L.terms1 15 (fun _ _ ⟨z1,h⟩ r=>⟨z1,KnL.rely h r⟩) ⟨_,hF⟩ ?_;try walk_nrm
 refine XZ (i:=16) (by first|kernel_rfl|decide +kernel) rfl (by rfl) ?_;intro w1 hR K hK;replace hF:=hF.rely hR;clear hR;have hc:World.cell? _ ⟨g,25+A,none⟩=some (.int .i64 ((zset z (25+R) x) (25+A))):=KnL.cz hi hF (by omega) (by omega);have hz2:World.frozen? _ ⟨g,25+A,none⟩=false:=KnL.cfz hi hF (25+A);go_simp;try (unfold stored;go_simp)
 refine hK _ _ ⟨?_,?_,?_⟩
 ·refine KnL.cdoes hi hF (25+A) _ ?_;co_evs (exact rfl)
 ·exact .inr (Z8 rfl (by first|kernel_rfl|decide +kernel))
 clear hK K;clear hc hz2;replace hF:=KnL.cset hi hF (j:=25+A) (by omega) (y);try walk_nrm
 refine Xi (by first|kernel_rfl|decide +kernel) ?_ _;repeat refine .c1 L.terms1 rfl ?_
 refine Y1.fin L.terms1 ?_;exact Ret _ [] _ _ rfl (Y0L L.terms1 (by rfl) _) ⟨rfl,hF.drop⟩
end
section
variable {L:Lot} {w0:World} {rows:List Row} {ic iq g nb kk cq k:Nat} {num:Int} {code:Value} {z:Nat→Int} {rq rk:Row}
theorem Yf7 (hev:((97:Nat)==L.ev)=false) (hi:rows[ic]?=some (Y5 g num (.pointer (some ⟨nb,0,none⟩)) code z)) (hq:rows[iq]?=some rq) (hne:iq≠ic) (sn:Still L w0 nb) (n1:w0.cell? ⟨nb,1,none⟩=some (.slice (some ⟨rq.g,0,none⟩) kk cq)) (i:Nat) (hik:i<kk) (hqm:kk*3≤rq.m) {a:Option Addr} {cc:Nat} (hv:rq.f (i*3)=.slice a 0 cc) (R A:Nat) (hR4:R<4) (hA4:A<4) (inV:Value) (w:World) (hF:Kn L w0 rows w):
  Yl Tryz.prog false L.R1 L.D1 129 #[.pointer (some ⟨g,0,none⟩),.agg #[.int .i64 12,.int .i64 R,.int .i64 A,.int .i64 i],inV] w (fun v w'=>v=.tuple #[]∧Kn L w0 (List.set rows ic (Y5 g num (.pointer (some ⟨nb,0,none⟩)) code (zset (zset z (25+R) (0)) (25+A) (0)))) w') (fun _ _=>False):=by
 have hk:(base 129).kind≠.early:=by simp [base]
 refine Yl.intro (c:=Ycm) L.terms1 _ Tryz.func129 rfl (by kernel_rfl) fun cl cs Stop Ret _=>Ycr (g:=g) hev R A hR4 hA4 12 i inV w hF fun B w3 hF=>?_;replace hF:KnL L w0 (List.set rows ic (Y5 g num (.pointer (some ⟨nb,0,none⟩)) code z)) [Yt B 12 R A (i:Nat)] w3:=by rw [Y4p hi];exact hF
 have hq2:∀Z,(rows.set ic (Y5 g num (.pointer (some ⟨nb,0,none⟩)) code Z))[iq]?=some rq:=fun Z=>by rw [ZZ hne];exact hq
 have hiT:(List.set rows ic (Y5 g num (.pointer (some ⟨nb,0,none⟩)) code z))[ic]?=some (Y5 g num (.pointer (some ⟨nb,0,none⟩)) code z)∧(rows)[ic]?=some (Y5 g num (.pointer (some ⟨nb,0,none⟩)) code z):=by
  have e:(rows)[ic]?=some (Y5 g num (.pointer (some ⟨nb,0,none⟩)) code z):=by exact hi
  exact ⟨YN e _,e⟩
 have hgs:∀RS:List Row,(RS=rows∨RS=rows)→RS[ic]?=some (Y5 g num (.pointer (some ⟨nb,0,none⟩)) code z):=fun RS h=>by
  rcases h with rfl|rfl
  ·exact hi
  ·exact hiT.2
 repeat refine .c1 L.terms1 rfl ?_
 iterate 2 (refine .regionL L.terms1 [0,1] (by rfl) ?_;iterate 2 (refine .opV L.terms1 rfl (by rfl) hk ?_;try walk_nrm);repeat refine .c1 L.terms1 rfl ?_;refine .condF L.terms1 (by rfl) ?_;repeat refine .c1 L.terms1 rfl ?_)
 refine .regionL L.terms1 [0,1] (by rfl) ?_;iterate 2 (refine .opV L.terms1 rfl (by rfl) hk ?_;try walk_nrm)
 repeat refine .c1 L.terms1 rfl ?_
 refine Y1.condT L.terms1 (by rfl) ?_;repeat refine .c1 L.terms1 rfl ?_
 refine Y1.drawnN (S:=fun w=>∃RS z1,(RS=rows∨RS=rows)∧KnL L w0 (RS.set ic (Y5 g num (.pointer (some ⟨nb,0,none⟩)) code z1)) [Yt B 12 R A (i:Nat)] w) (Die:=fun _ _=>False) L.terms1 L.draws1 17 (by rfl) hk (by kernel_rfl) (fun _ _ _ h=>h) (fun _ _ _ h=>h.elim) fun w1 hR=>?_;replace hF:=(hF.rely hR).rely (Turn.drew _);clear hR;refine Y4 L.terms1 0 (fun _ _ ⟨RS,z1,hRS,h⟩ r=>⟨RS,z1,hRS,KnL.rely h r⟩) ⟨_,_,.inl rfl,hF⟩ ?_;try walk_nrm
 refine Y4 L.terms1 1 (fun _ _ ⟨RS,z1,hRS,h⟩ r=>⟨RS,z1,hRS,KnL.rely h r⟩) ⟨_,_,.inl rfl,hF⟩ ?_;try walk_nrm
 refine Y4 L.terms1 2 (fun _ _ ⟨RS,z1,hRS,h⟩ r=>⟨RS,z1,hRS,KnL.rely h r⟩) ⟨_,_,.inl rfl,hF⟩ ?_;try walk_nrm
 refine Y4 L.terms1 3 (fun _ _ ⟨RS,z1,hRS,h⟩ r=>⟨RS,z1,hRS,KnL.rely h r⟩) ⟨_,_,.inl rfl,hF⟩ ?_;try walk_nrm
 refine Y4 L.terms1 4 (fun _ _ ⟨RS,z1,hRS,h⟩ r=>⟨RS,z1,hRS,KnL.rely h r⟩) ⟨_,_,.inl rfl,hF⟩ ?_;try walk_nrm
 refine Ye L.terms1 5 rfl (fun _ _ ⟨RS,z1,hRS,h⟩ r=>⟨RS,z1,hRS,KnL.rely h r⟩) ⟨_,_,.inl rfl,hF⟩ ?_ fun _ hw=>⟨run_eq_of (by
  intro K hK;obtain ⟨RS,z1,hRS,hw⟩:=hw;have hc:World.cell? _ ⟨g,1,none⟩=some (.pointer (some ⟨nb,0,none⟩)):=hw.cell (YN (hgs RS hRS) _) (j:=1) (show 1<48 by omega);go_simp;exact hK),by
  obtain ⟨RS,z1,hRS,hw⟩:=hw;have hc:World.cell? _ ⟨g,1,none⟩=some (.pointer (some ⟨nb,0,none⟩)):=hw.cell (YN (hgs RS hRS) _) (j:=1) (show 1<48 by omega);refine hw.looks (YN (hgs RS hRS) _) ?_;co_evs (exact ⟨_,rfl⟩)⟩
 try walk_nrm
 refine Y4 L.terms1 6 (fun _ _ ⟨RS,z1,hRS,h⟩ r=>⟨RS,z1,hRS,KnL.rely h r⟩) ⟨_,_,.inl rfl,hF⟩ ?_;try walk_nrm
 refine Ye L.terms1 7 rfl (fun _ _ ⟨RS,z1,hRS,h⟩ r=>⟨RS,z1,hRS,KnL.rely h r⟩) ⟨_,_,.inl rfl,hF⟩ ?_ fun _ hw=>⟨run_eq_of (by
  intro K hK;obtain ⟨RS,z1,hRS,hw⟩:=hw;obtain ⟨a0,a1,a2,a3⟩:=hw.lins (k:=0) rfl;go_simp;exact hK),by
  obtain ⟨RS,z1,hRS,hw⟩:=hw;obtain ⟨a0,a1,a2,a3⟩:=hw.lins (k:=0) rfl;refine hw.llooks (k:=0) rfl ?_;co_evs (exact ⟨_,rfl⟩)⟩
 try walk_nrm
 refine JS (i:=8) (by first|kernel_rfl|decide +kernel) rfl (by rfl) rfl Tryz.func137 (by rfl) rfl #[.pointer (some ⟨nb,0,none⟩),.int .i64 i] (by kernel_rfl) (YcZ sn n1 i hik _ hF) ?_;rintro v w2 ⟨rfl,hF2⟩;refine ⟨.inl ⟨_,_,.inl rfl,hF2⟩,?_⟩;replace hF:KnL L w0 (List.set rows ic (Y5 g num (.pointer (some ⟨nb,0,none⟩)) code z)) [Yt B 12 R A (i:Nat)] _:=hF2;clear hF2;try walk_nrm
 refine JS (i:=9) (by first|kernel_rfl|decide +kernel) rfl (by rfl) rfl Tryz.func141 (by rfl) rfl #[.pointer (some ⟨rq.g,i*3,none⟩)] (by kernel_rfl) (YgV (J2 (hq2 z)) i (by omega) hv _ hF) ?_;rintro v w2 ⟨rfl,hF2⟩;replace hF:KnL L w0 (List.set rows ic (Y5 g num (.pointer (some ⟨nb,0,none⟩)) code z)) [Yt B 12 R A (i:Nat)] _:=hF2;clear hF2;refine ⟨.inl ⟨_,_,.inr rfl,hF⟩,?_⟩;try walk_nrm
 refine Y4 L.terms1 10 (fun _ _ ⟨RS,z1,hRS,h⟩ r=>⟨RS,z1,hRS,KnL.rely h r⟩) ⟨_,_,.inr rfl,hF⟩ ?_;try walk_nrm
 refine Y4 L.terms1 11 (fun _ _ ⟨RS,z1,hRS,h⟩ r=>⟨RS,z1,hRS,KnL.rely h r⟩) ⟨_,_,.inr rfl,hF⟩ ?_;try walk_nrm
 refine Y4 L.terms1 12 (fun _ _ ⟨RS,z1,hRS,h⟩ r=>⟨RS,z1,hRS,KnL.rely h r⟩) ⟨_,_,.inr rfl,hF⟩ ?_;try walk_nrm
 refine Y4 L.terms1 13 (fun _ _ ⟨RS,z1,hRS,h⟩ r=>⟨RS,z1,hRS,KnL.rely h r⟩) ⟨_,_,.inr rfl,hF⟩ ?_;try walk_nrm
 refine XZ (i:=14) (by first|kernel_rfl|decide +kernel) rfl (by rfl) ?_;intro w1 hR K hK;replace hF:=hF.rely hR;clear hR;have hc:World.cell? _ ⟨g,25+R,none⟩=some (.int .i64 (z (25+R))):=KnL.cz hiT.2 hF (by omega) (by omega);have hz2:World.frozen? _ ⟨g,25+R,none⟩=false:=KnL.cfz hiT.2 hF (25+R);go_simp;try (unfold stored;go_simp)
 refine hK _ _ ⟨?_,?_,?_⟩
 ·refine KnL.cdoes hiT.2 hF (25+R) _ ?_;co_evs (exact rfl)
 ·exact .inl ⟨_,_,.inr rfl,KnL.cset hiT.2 hF (j:=25+R) (by omega) (0)⟩
 clear hK K;clear hc hz2;replace hF:=KnL.cset hiT.2 hF (j:=25+R) (by omega) (0);try walk_nrm
 refine Y4 L.terms1 15 (fun _ _ ⟨RS,z1,hRS,h⟩ r=>⟨RS,z1,hRS,KnL.rely h r⟩) ⟨_,_,.inr rfl,hF⟩ ?_;try walk_nrm
 refine XZ (i:=16) (by first|kernel_rfl|decide +kernel) rfl (by rfl) ?_;intro w1 hR K hK;replace hF:=hF.rely hR;clear hR;have hc:World.cell? _ ⟨g,25+A,none⟩=some (.int .i64 ((zset z (25+R) (0)) (25+A))):=KnL.cz hiT.2 hF (by omega) (by omega);have hz2:World.frozen? _ ⟨g,25+A,none⟩=false:=KnL.cfz hiT.2 hF (25+A);go_simp;try (unfold stored;go_simp)
 refine hK _ _ ⟨?_,?_,?_⟩
 ·refine KnL.cdoes hiT.2 hF (25+A) _ ?_;co_evs (exact rfl)
 ·exact .inr (Z8 rfl (by first|kernel_rfl|decide +kernel))
 clear hK K;clear hc hz2;replace hF:=KnL.cset hiT.2 hF (j:=25+A) (by omega) (0);try walk_nrm
 refine Xi (by first|kernel_rfl|decide +kernel) ?_ _;repeat refine .c1 L.terms1 rfl ?_
 refine Y1.fin L.terms1 ?_;exact Ret _ [] _ _ rfl (Y0L L.terms1 (by rfl) _) ⟨rfl,hF.drop⟩
theorem Yfq (hev:((97:Nat)==L.ev)=false) (hi:rows[ic]?=some (Y5 g num (.pointer (some ⟨nb,0,none⟩)) code z)) (hq:rows[iq]?=some rq) (hne:iq≠ic) (sn:Still L w0 nb) (n1:w0.cell? ⟨nb,1,none⟩=some (.slice (some ⟨rq.g,0,none⟩) kk cq)) (i:Nat) (hik:i<kk) (hqm:kk*3≤rq.m) (hk0:rows[k]?=some rk) (hkq:k≠iq) (hkc:k≠ic) (ht:rk.t=2) (n:Nat) (xs:Nat→Int) (hxs:∀j,j<n+1→rk.f j=.int .i64 (xs j)) (hn1:n+1≤rk.m) (hml:rk.m≤maxLen) (hn9:n≤1000000000) (hv:rq.f (i*3)=.slice (some ⟨rk.g,0,none⟩) (n+1:Nat) rk.m) (R A:Nat) (hR4:R<4) (hA4:A<4) (inV:Value) (w:World) (hF:Kn L w0 rows w):
  Yl Tryz.prog false L.R1 L.D1 129 #[.pointer (some ⟨g,0,none⟩),.agg #[.int .i64 12,.int .i64 R,.int .i64 A,.int .i64 i],inV] w (fun v w'=>v=.tuple #[]∧Kn L w0 (List.set ((rows.set k {rk with f:=fun j=>if j<n then rk.f (j+1) else if j=n then .int .i64 0 else rk.f j}).set iq (rq.put (i*3) (.slice (some ⟨rk.g,0,none⟩) n rk.m))) ic (Y5 g num (.pointer (some ⟨nb,0,none⟩)) code (zset (zset z (25+R) (xs 0)) (25+A) (1)))) w') (fun _ _=>False):=by
 have hk:(base 129).kind≠.early:=by simp [base]
 refine Yl.intro (c:=Ycm) L.terms1 _ Tryz.func129 rfl (by kernel_rfl) fun cl cs Stop Ret _=>Ycr (g:=g) hev R A hR4 hA4 12 i inV w hF fun B w3 hF=>?_;replace hF:KnL L w0 (List.set rows ic (Y5 g num (.pointer (some ⟨nb,0,none⟩)) code z)) [Yt B 12 R A (i:Nat)] w3:=by rw [Y4p hi];exact hF
 have hq2:∀Z,(rows.set ic (Y5 g num (.pointer (some ⟨nb,0,none⟩)) code Z))[iq]?=some rq:=fun Z=>by rw [ZZ hne];exact hq
 have hiT:(List.set ((rows.set k {rk with f:=fun j=>if j<n then rk.f (j+1) else if j=n then .int .i64 0 else rk.f j}).set iq (rq.put (i*3) (.slice (some ⟨rk.g,0,none⟩) n rk.m))) ic (Y5 g num (.pointer (some ⟨nb,0,none⟩)) code z))[ic]?=some (Y5 g num (.pointer (some ⟨nb,0,none⟩)) code z)∧(((rows.set k {rk with f:=fun j=>if j<n then rk.f (j+1) else if j=n then .int .i64 0 else rk.f j}).set iq (rq.put (i*3) (.slice (some ⟨rk.g,0,none⟩) n rk.m))))[ic]?=some (Y5 g num (.pointer (some ⟨nb,0,none⟩)) code z):=by
  have e:(((rows.set k {rk with f:=fun j=>if j<n then rk.f (j+1) else if j=n then .int .i64 0 else rk.f j}).set iq (rq.put (i*3) (.slice (some ⟨rk.g,0,none⟩) n rk.m))))[ic]?=some (Y5 g num (.pointer (some ⟨nb,0,none⟩)) code z):=by rw [ZZ (Ne.symm hne),ZZ (Ne.symm hkc)];exact hi
  exact ⟨YN e _,e⟩
 have hgs:∀RS:List Row,(RS=rows∨RS=((rows.set k {rk with f:=fun j=>if j<n then rk.f (j+1) else if j=n then .int .i64 0 else rk.f j}).set iq (rq.put (i*3) (.slice (some ⟨rk.g,0,none⟩) n rk.m))))→RS[ic]?=some (Y5 g num (.pointer (some ⟨nb,0,none⟩)) code z):=fun RS h=>by
  rcases h with rfl|rfl
  ·exact hi
  ·exact hiT.2
 repeat refine .c1 L.terms1 rfl ?_
 iterate 2 (refine .regionL L.terms1 [0,1] (by rfl) ?_;iterate 2 (refine .opV L.terms1 rfl (by rfl) hk ?_;try walk_nrm);repeat refine .c1 L.terms1 rfl ?_;refine .condF L.terms1 (by rfl) ?_;repeat refine .c1 L.terms1 rfl ?_)
 refine .regionL L.terms1 [0,1] (by rfl) ?_;iterate 2 (refine .opV L.terms1 rfl (by rfl) hk ?_;try walk_nrm)
 repeat refine .c1 L.terms1 rfl ?_
 refine Y1.condT L.terms1 (by rfl) ?_;repeat refine .c1 L.terms1 rfl ?_
 refine Y1.drawnN (S:=fun w=>∃RS z1,(RS=rows∨RS=((rows.set k {rk with f:=fun j=>if j<n then rk.f (j+1) else if j=n then .int .i64 0 else rk.f j}).set iq (rq.put (i*3) (.slice (some ⟨rk.g,0,none⟩) n rk.m))))∧KnL L w0 (RS.set ic (Y5 g num (.pointer (some ⟨nb,0,none⟩)) code z1)) [Yt B 12 R A (i:Nat)] w) (Die:=fun _ _=>False) L.terms1 L.draws1 17 (by rfl) hk (by kernel_rfl) (fun _ _ _ h=>h) (fun _ _ _ h=>h.elim) fun w1 hR=>?_;replace hF:=(hF.rely hR).rely (Turn.drew _);clear hR;refine Y4 L.terms1 0 (fun _ _ ⟨RS,z1,hRS,h⟩ r=>⟨RS,z1,hRS,KnL.rely h r⟩) ⟨_,_,.inl rfl,hF⟩ ?_;try walk_nrm
 refine Y4 L.terms1 1 (fun _ _ ⟨RS,z1,hRS,h⟩ r=>⟨RS,z1,hRS,KnL.rely h r⟩) ⟨_,_,.inl rfl,hF⟩ ?_;try walk_nrm
 refine Y4 L.terms1 2 (fun _ _ ⟨RS,z1,hRS,h⟩ r=>⟨RS,z1,hRS,KnL.rely h r⟩) ⟨_,_,.inl rfl,hF⟩ ?_;try walk_nrm
 refine Y4 L.terms1 3 (fun _ _ ⟨RS,z1,hRS,h⟩ r=>⟨RS,z1,hRS,KnL.rely h r⟩) ⟨_,_,.inl rfl,hF⟩ ?_;try walk_nrm
 refine Y4 L.terms1 4 (fun _ _ ⟨RS,z1,hRS,h⟩ r=>⟨RS,z1,hRS,KnL.rely h r⟩) ⟨_,_,.inl rfl,hF⟩ ?_;try walk_nrm
 refine Ye L.terms1 5 rfl (fun _ _ ⟨RS,z1,hRS,h⟩ r=>⟨RS,z1,hRS,KnL.rely h r⟩) ⟨_,_,.inl rfl,hF⟩ ?_ fun _ hw=>⟨run_eq_of (by
  intro K hK;obtain ⟨RS,z1,hRS,hw⟩:=hw;have hc:World.cell? _ ⟨g,1,none⟩=some (.pointer (some ⟨nb,0,none⟩)):=hw.cell (YN (hgs RS hRS) _) (j:=1) (show 1<48 by omega);go_simp;exact hK),by
  obtain ⟨RS,z1,hRS,hw⟩:=hw;have hc:World.cell? _ ⟨g,1,none⟩=some (.pointer (some ⟨nb,0,none⟩)):=hw.cell (YN (hgs RS hRS) _) (j:=1) (show 1<48 by omega);refine hw.looks (YN (hgs RS hRS) _) ?_;co_evs (exact ⟨_,rfl⟩)⟩
 try walk_nrm
 refine Y4 L.terms1 6 (fun _ _ ⟨RS,z1,hRS,h⟩ r=>⟨RS,z1,hRS,KnL.rely h r⟩) ⟨_,_,.inl rfl,hF⟩ ?_;try walk_nrm
 refine Ye L.terms1 7 rfl (fun _ _ ⟨RS,z1,hRS,h⟩ r=>⟨RS,z1,hRS,KnL.rely h r⟩) ⟨_,_,.inl rfl,hF⟩ ?_ fun _ hw=>⟨run_eq_of (by
  intro K hK;obtain ⟨RS,z1,hRS,hw⟩:=hw;obtain ⟨a0,a1,a2,a3⟩:=hw.lins (k:=0) rfl;go_simp;exact hK),by
  obtain ⟨RS,z1,hRS,hw⟩:=hw;obtain ⟨a0,a1,a2,a3⟩:=hw.lins (k:=0) rfl;refine hw.llooks (k:=0) rfl ?_;co_evs (exact ⟨_,rfl⟩)⟩
 try walk_nrm
 refine JS (i:=8) (by first|kernel_rfl|decide +kernel) rfl (by rfl) rfl Tryz.func137 (by rfl) rfl #[.pointer (some ⟨nb,0,none⟩),.int .i64 i] (by kernel_rfl) (YcZ sn n1 i hik _ hF) ?_;rintro v w2 ⟨rfl,hF2⟩;refine ⟨.inl ⟨_,_,.inl rfl,hF2⟩,?_⟩;replace hF:KnL L w0 (List.set rows ic (Y5 g num (.pointer (some ⟨nb,0,none⟩)) code z)) [Yt B 12 R A (i:Nat)] _:=hF2;clear hF2;try walk_nrm
 refine JS (i:=9) (by first|kernel_rfl|decide +kernel) rfl (by rfl) rfl Tryz.func141 (by rfl) rfl #[.pointer (some ⟨rq.g,i*3,none⟩)] (by kernel_rfl) (Yey (J2 (hq2 z)) (J2 (by rw [ZZ hkc];exact hk0)) hkq i (by omega) ht n xs hxs hn1 hml hn9 hv _ hF) ?_;rintro v w2 ⟨rfl,hF2⟩;rw [List.set_append_left _ _ (by simpa using (List.getElem?_eq_some_iff.1 hk0).1),List.set_append_left _ _ (by simpa using (List.getElem?_eq_some_iff.1 hq).1),List.set_comm _ _ (Ne.symm hkc),List.set_comm _ _ (Ne.symm hne)] at hF2;replace hF:KnL L w0 (List.set ((rows.set k {rk with f:=fun j=>if j<n then rk.f (j+1) else if j=n then .int .i64 0 else rk.f j}).set iq (rq.put (i*3) (.slice (some ⟨rk.g,0,none⟩) n rk.m))) ic (Y5 g num (.pointer (some ⟨nb,0,none⟩)) code z)) [Yt B 12 R A (i:Nat)] _:=hF2;clear hF2;refine ⟨.inl ⟨_,_,.inr rfl,hF⟩,?_⟩;try walk_nrm
 refine Y4 L.terms1 10 (fun _ _ ⟨RS,z1,hRS,h⟩ r=>⟨RS,z1,hRS,KnL.rely h r⟩) ⟨_,_,.inr rfl,hF⟩ ?_;try walk_nrm
 refine Y4 L.terms1 11 (fun _ _ ⟨RS,z1,hRS,h⟩ r=>⟨RS,z1,hRS,KnL.rely h r⟩) ⟨_,_,.inr rfl,hF⟩ ?_;try walk_nrm
 refine Y4 L.terms1 12 (fun _ _ ⟨RS,z1,hRS,h⟩ r=>⟨RS,z1,hRS,KnL.rely h r⟩) ⟨_,_,.inr rfl,hF⟩ ?_;try walk_nrm
 refine Y4 L.terms1 13 (fun _ _ ⟨RS,z1,hRS,h⟩ r=>⟨RS,z1,hRS,KnL.rely h r⟩) ⟨_,_,.inr rfl,hF⟩ ?_;try walk_nrm
 refine XZ (i:=14) (by first|kernel_rfl|decide +kernel) rfl (by rfl) ?_;intro w1 hR K hK;replace hF:=hF.rely hR;clear hR;have hc:World.cell? _ ⟨g,25+R,none⟩=some (.int .i64 (z (25+R))):=KnL.cz hiT.2 hF (by omega) (by omega);have hz2:World.frozen? _ ⟨g,25+R,none⟩=false:=KnL.cfz hiT.2 hF (25+R);go_simp;try (unfold stored;go_simp)
 refine hK _ _ ⟨?_,?_,?_⟩
 ·refine KnL.cdoes hiT.2 hF (25+R) _ ?_;co_evs (exact rfl)
 ·exact .inl ⟨_,_,.inr rfl,KnL.cset hiT.2 hF (j:=25+R) (by omega) (xs 0)⟩
 clear hK K;clear hc hz2;replace hF:=KnL.cset hiT.2 hF (j:=25+R) (by omega) (xs 0);try walk_nrm
 refine Y4 L.terms1 15 (fun _ _ ⟨RS,z1,hRS,h⟩ r=>⟨RS,z1,hRS,KnL.rely h r⟩) ⟨_,_,.inr rfl,hF⟩ ?_;try walk_nrm
 refine XZ (i:=16) (by first|kernel_rfl|decide +kernel) rfl (by rfl) ?_;intro w1 hR K hK;replace hF:=hF.rely hR;clear hR;have hc:World.cell? _ ⟨g,25+A,none⟩=some (.int .i64 ((zset z (25+R) (xs 0)) (25+A))):=KnL.cz hiT.2 hF (by omega) (by omega);have hz2:World.frozen? _ ⟨g,25+A,none⟩=false:=KnL.cfz hiT.2 hF (25+A);go_simp;try (unfold stored;go_simp)
 refine hK _ _ ⟨?_,?_,?_⟩
 ·refine KnL.cdoes hiT.2 hF (25+A) _ ?_;co_evs (exact rfl)
 ·exact .inr (Z8 rfl (by first|kernel_rfl|decide +kernel))
 clear hK K;clear hc hz2;replace hF:=KnL.cset hiT.2 hF (j:=25+A) (by omega) (1);try walk_nrm
 refine Xi (by first|kernel_rfl|decide +kernel) ?_ _;repeat refine .c1 L.terms1 rfl ?_
 refine Y1.fin L.terms1 ?_;exact Ret _ [] _ _ rfl (Y0L L.terms1 (by rfl) _) ⟨rfl,hF.drop⟩
theorem YgG (hev:((97:Nat)==L.ev)=false) (hi:rows[ic]?=some (Y5 g num (.pointer (some ⟨nb,0,none⟩)) code z)) (hq:rows[iq]?=some rq) (hne:iq≠ic) (sn:Still L w0 nb) (n1:w0.cell? ⟨nb,1,none⟩=some (.slice (some ⟨rq.g,0,none⟩) kk cq)) (i:Nat) (hik:i<kk) (hqm:kk*3≤rq.m) (x:Int) (hx:rq.f (i*3+2)=.int .i64 x) (R A:Nat) (hR4:R<4) (hA4:A<4) (inV:Value) (w:World) (hF:Kn L w0 rows w):
  Yl Tryz.prog false L.R1 L.D1 129 #[.pointer (some ⟨g,0,none⟩),.agg #[.int .i64 16,.int .i64 R,.int .i64 A,.int .i64 i],inV] w (fun v w'=>v=.tuple #[]∧Kn L w0 (List.set (rows.set iq (rq.put (i*3+2) (.int .i64 0))) ic (Y5 g num (.pointer (some ⟨nb,0,none⟩)) code (zset z (25+R) (x)))) w') (fun _ _=>False):=by
 have hk:(base 129).kind≠.early:=by simp [base]
 refine Yl.intro (c:=Ycm) L.terms1 _ Tryz.func129 rfl (by kernel_rfl) fun cl cs Stop Ret _=>Ycr (g:=g) hev R A hR4 hA4 16 i inV w hF fun B w3 hF=>?_;replace hF:KnL L w0 (List.set rows ic (Y5 g num (.pointer (some ⟨nb,0,none⟩)) code z)) [Yt B 16 R A (i:Nat)] w3:=by rw [Y4p hi];exact hF
 have hq2:∀Z,(rows.set ic (Y5 g num (.pointer (some ⟨nb,0,none⟩)) code Z))[iq]?=some rq:=fun Z=>by rw [ZZ hne];exact hq
 have hiT:(List.set (rows.set iq (rq.put (i*3+2) (.int .i64 0))) ic (Y5 g num (.pointer (some ⟨nb,0,none⟩)) code z))[ic]?=some (Y5 g num (.pointer (some ⟨nb,0,none⟩)) code z)∧((rows.set iq (rq.put (i*3+2) (.int .i64 0))))[ic]?=some (Y5 g num (.pointer (some ⟨nb,0,none⟩)) code z):=by
  have e:((rows.set iq (rq.put (i*3+2) (.int .i64 0))))[ic]?=some (Y5 g num (.pointer (some ⟨nb,0,none⟩)) code z):=by rw [ZZ (Ne.symm hne)];exact hi
  exact ⟨YN e _,e⟩
 have hgs:∀RS:List Row,(RS=rows∨RS=(rows.set iq (rq.put (i*3+2) (.int .i64 0))))→RS[ic]?=some (Y5 g num (.pointer (some ⟨nb,0,none⟩)) code z):=fun RS h=>by
  rcases h with rfl|rfl
  ·exact hi
  ·exact hiT.2
 repeat refine .c1 L.terms1 rfl ?_
 iterate 5 (refine .regionL L.terms1 [0,1] (by rfl) ?_;iterate 2 (refine .opV L.terms1 rfl (by rfl) hk ?_;try walk_nrm);repeat refine .c1 L.terms1 rfl ?_;refine .condF L.terms1 (by rfl) ?_;repeat refine .c1 L.terms1 rfl ?_)
 refine .regionL L.terms1 [0,1] (by rfl) ?_;iterate 2 (refine .opV L.terms1 rfl (by rfl) hk ?_;try walk_nrm)
 repeat refine .c1 L.terms1 rfl ?_
 refine Y1.condT L.terms1 (by rfl) ?_;repeat refine .c1 L.terms1 rfl ?_
 refine Y1.drawnN (S:=fun w=>∃RS z1,(RS=rows∨RS=(rows.set iq (rq.put (i*3+2) (.int .i64 0))))∧KnL L w0 (RS.set ic (Y5 g num (.pointer (some ⟨nb,0,none⟩)) code z1)) [Yt B 16 R A (i:Nat)] w) (Die:=fun _ _=>False) L.terms1 L.draws1 11 (by rfl) hk (by kernel_rfl) (fun _ _ _ h=>h) (fun _ _ _ h=>h.elim) fun w1 hR=>?_;replace hF:=(hF.rely hR).rely (Turn.drew _);clear hR;refine Y4 L.terms1 0 (fun _ _ ⟨RS,z1,hRS,h⟩ r=>⟨RS,z1,hRS,KnL.rely h r⟩) ⟨_,_,.inl rfl,hF⟩ ?_;try walk_nrm
 refine Y4 L.terms1 1 (fun _ _ ⟨RS,z1,hRS,h⟩ r=>⟨RS,z1,hRS,KnL.rely h r⟩) ⟨_,_,.inl rfl,hF⟩ ?_;try walk_nrm
 refine Y4 L.terms1 2 (fun _ _ ⟨RS,z1,hRS,h⟩ r=>⟨RS,z1,hRS,KnL.rely h r⟩) ⟨_,_,.inl rfl,hF⟩ ?_;try walk_nrm
 refine Y4 L.terms1 3 (fun _ _ ⟨RS,z1,hRS,h⟩ r=>⟨RS,z1,hRS,KnL.rely h r⟩) ⟨_,_,.inl rfl,hF⟩ ?_;try walk_nrm
 refine Ye L.terms1 4 rfl (fun _ _ ⟨RS,z1,hRS,h⟩ r=>⟨RS,z1,hRS,KnL.rely h r⟩) ⟨_,_,.inl rfl,hF⟩ ?_ fun _ hw=>⟨run_eq_of (by
  intro K hK;obtain ⟨RS,z1,hRS,hw⟩:=hw;have hc:World.cell? _ ⟨g,1,none⟩=some (.pointer (some ⟨nb,0,none⟩)):=hw.cell (YN (hgs RS hRS) _) (j:=1) (show 1<48 by omega);go_simp;exact hK),by
  obtain ⟨RS,z1,hRS,hw⟩:=hw;have hc:World.cell? _ ⟨g,1,none⟩=some (.pointer (some ⟨nb,0,none⟩)):=hw.cell (YN (hgs RS hRS) _) (j:=1) (show 1<48 by omega);refine hw.looks (YN (hgs RS hRS) _) ?_;co_evs (exact ⟨_,rfl⟩)⟩
 try walk_nrm
 refine Y4 L.terms1 5 (fun _ _ ⟨RS,z1,hRS,h⟩ r=>⟨RS,z1,hRS,KnL.rely h r⟩) ⟨_,_,.inl rfl,hF⟩ ?_;try walk_nrm
 refine Ye L.terms1 6 rfl (fun _ _ ⟨RS,z1,hRS,h⟩ r=>⟨RS,z1,hRS,KnL.rely h r⟩) ⟨_,_,.inl rfl,hF⟩ ?_ fun _ hw=>⟨run_eq_of (by
  intro K hK;obtain ⟨RS,z1,hRS,hw⟩:=hw;obtain ⟨a0,a1,a2,a3⟩:=hw.lins (k:=0) rfl;go_simp;exact hK),by
  obtain ⟨RS,z1,hRS,hw⟩:=hw;obtain ⟨a0,a1,a2,a3⟩:=hw.lins (k:=0) rfl;refine hw.llooks (k:=0) rfl ?_;co_evs (exact ⟨_,rfl⟩)⟩
 try walk_nrm
 refine JS (i:=7) (by first|kernel_rfl|decide +kernel) rfl (by rfl) rfl Tryz.func137 (by rfl) rfl #[.pointer (some ⟨nb,0,none⟩),.int .i64 i] (by kernel_rfl) (YcZ sn n1 i hik _ hF) ?_;rintro v w2 ⟨rfl,hF2⟩;refine ⟨.inl ⟨_,_,.inl rfl,hF2⟩,?_⟩;replace hF:KnL L w0 (List.set rows ic (Y5 g num (.pointer (some ⟨nb,0,none⟩)) code z)) [Yt B 16 R A (i:Nat)] _:=hF2;clear hF2;try walk_nrm
 refine JS (i:=8) (by first|kernel_rfl|decide +kernel) rfl (by rfl) rfl Tryz.func144 (by rfl) rfl #[.pointer (some ⟨rq.g,i*3,none⟩)] (by kernel_rfl) (Yf4 (J2 (hq2 z)) i x hx (by omega) _ hF) ?_;rintro v w2 ⟨rfl,hF2⟩;rw [List.set_append_left _ _ (by simpa using (List.getElem?_eq_some_iff.1 hq).1),List.set_comm _ _ (Ne.symm hne)] at hF2;replace hF:KnL L w0 (List.set (rows.set iq (rq.put (i*3+2) (.int .i64 0))) ic (Y5 g num (.pointer (some ⟨nb,0,none⟩)) code z)) [Yt B 16 R A (i:Nat)] _:=hF2;clear hF2;refine ⟨.inl ⟨_,_,.inr rfl,hF⟩,?_⟩;try walk_nrm
 refine Y4 L.terms1 9 (fun _ _ ⟨RS,z1,hRS,h⟩ r=>⟨RS,z1,hRS,KnL.rely h r⟩) ⟨_,_,.inr rfl,hF⟩ ?_;try walk_nrm
 refine XZ (i:=10) (by first|kernel_rfl|decide +kernel) rfl (by rfl) ?_;intro w1 hR K hK;replace hF:=hF.rely hR;clear hR;have hc:World.cell? _ ⟨g,25+R,none⟩=some (.int .i64 (z (25+R))):=KnL.cz hiT.2 hF (by omega) (by omega);have hz2:World.frozen? _ ⟨g,25+R,none⟩=false:=KnL.cfz hiT.2 hF (25+R);go_simp;try (unfold stored;go_simp)
 refine hK _ _ ⟨?_,?_,?_⟩
 ·refine KnL.cdoes hiT.2 hF (25+R) _ ?_;co_evs (exact rfl)
 ·exact .inr (Z8 rfl (by first|kernel_rfl|decide +kernel))
 clear hK K;clear hc hz2;replace hF:=KnL.cset hiT.2 hF (j:=25+R) (by omega) (x);try walk_nrm
 refine Xi (by first|kernel_rfl|decide +kernel) ?_ _;repeat refine .c1 L.terms1 rfl ?_
 refine Y1.fin L.terms1 ?_;exact Ret _ [] _ _ rfl (Y0L L.terms1 (by rfl) _) ⟨rfl,hF.drop⟩
end
end Go.Proofs.YtdoghgnifkgfdaaGreat.Mute
