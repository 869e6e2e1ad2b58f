import Derived.Test.YtdoghgnifkgfdaaGreatP32
import Derived.Test.YtdoghgnifkgfdaaGreatP33
set_option maxRecDepth 100000
set_option maxHeartbeats 4000000
namespace Go.Proofs.YtdoghgnifkgfdaaGreat.Mute
open Go Go.Conc Go.RowKit
theorem Y96 (Kb Gc n nC cq bo oo cb co nI cc nx r a:Nat) (N:Int) (Q:Nat→RC) (w:World) (h0:w.cell? ⟨Kb,0,none⟩=some (.slice (some ⟨bo,oo,none⟩) nC cq)) (h4:w.cell? ⟨Kb,4,none⟩=some (.slice (some ⟨Gc,0,none⟩) nC nC))
  (hc:w.cell? ⟨bo,oo+n*3,none⟩=some (.slice (some ⟨cb,co,none⟩) nI cc)) (c0:w.cell? ⟨cb,co+nx*4,none⟩=some (.int .i64 7)) (c1:w.cell? ⟨cb,co+nx*4+1,none⟩=some (.int .i64 r)) (c2:w.cell? ⟨cb,co+nx*4+2,none⟩=some (.int .i64 a)) (c3:w.cell? ⟨cb,co+nx*4+3,none⟩=some (.int .i64 N))
  (hr:RowF w Gc (nC*26) 131 (refC Q)) (h45:(Q n).z 45=nx) (hn:n<nC) (hx:nx<nI) (h48:nI≤48) (hr4:r<4) (ha4:a<4) (_g1:Kb≠Gc) (_g2:bo≠Gc) (_g3:cb≠Gc) (hy0:(Q n).z (25+a)<0):
  Calls Tryz.prog 88 #[.pointer (some ⟨Kb,0,none⟩),.int .i64 n] w fun e w'=>e=.returned (.int .i64 (2))∧RowF w' Gc (nC*26) 131 (refC (updN Q n {Q n with z:=(zset (Q n).z 45 (nx+1))}))∧But (fun j=>j=Gc) w w':=by
 have hG:=hr.lt;refine Xg Kb Gc n nC cq bo oo cb co nI cc nx r a N Q w h0 h4 hc c0 c1 c2 c3 hr h45 hn hx h48 hr4 ha4 _g1 _g2 _g3 rfl fun B W x y hB b0 b1 b2 b3 er ea fr HRW' HBut' hGW hBW HZR HZA=>?_;have i3:(r:Int)<4:=by omega
 have i4:(a:Int)<4:=by omega
 clear h0 h4 hc c0 c1 c2 c3 hr;obtain rfl:=HZR.out;obtain rfl:=HZA.out;clear HZR HZA;generalize hzr:(Q n).z (25+r)=x at *;generalize hza:(Q n).z (25+a)=y at *;have HZR:Hid ((Q n).z (25+r)=x):=hzr;have HZA:Hid ((Q n).z (25+a)=y):=hza;clear hzr hza;have hy:y<0:=hy0;clear hy0;go_wp2_with fail
 go_ret;exact ⟨rfl,HRW'.out,(by first|exact HBut'.out|exact HBut'.out.drew|exact HBut'.out.drew.drew|exact HBut'.out.drew.drew.drew|exact HBut'.out.drew.drew.drew.drew)⟩
theorem Y5b (Kb Gc n nC cq bo oo cb co nI cc nx r a:Nat) (N:Int) (Q:Nat→RC) (w:World) (h0:w.cell? ⟨Kb,0,none⟩=some (.slice (some ⟨bo,oo,none⟩) nC cq)) (h4:w.cell? ⟨Kb,4,none⟩=some (.slice (some ⟨Gc,0,none⟩) nC nC))
  (hc:w.cell? ⟨bo,oo+n*3,none⟩=some (.slice (some ⟨cb,co,none⟩) nI cc)) (c0:w.cell? ⟨cb,co+nx*4,none⟩=some (.int .i64 7)) (c1:w.cell? ⟨cb,co+nx*4+1,none⟩=some (.int .i64 r)) (c2:w.cell? ⟨cb,co+nx*4+2,none⟩=some (.int .i64 a)) (c3:w.cell? ⟨cb,co+nx*4+3,none⟩=some (.int .i64 N))
  (hr:RowF w Gc (nC*26) 131 (refC Q)) (h45:(Q n).z 45=nx) (hn:n<nC) (hx:nx<nI) (h48:nI≤48) (hr4:r<4) (ha4:a<4) (_g1:Kb≠Gc) (_g2:bo≠Gc) (_g3:cb≠Gc) (hy0:16≤(Q n).z (25+a)):
  Calls Tryz.prog 88 #[.pointer (some ⟨Kb,0,none⟩),.int .i64 n] w fun e w'=>e=.returned (.int .i64 (2))∧RowF w' Gc (nC*26) 131 (refC (updN Q n {Q n with z:=(zset (Q n).z 45 (nx+1))}))∧But (fun j=>j=Gc) w w':=by
 have hG:=hr.lt;refine Xg Kb Gc n nC cq bo oo cb co nI cc nx r a N Q w h0 h4 hc c0 c1 c2 c3 hr h45 hn hx h48 hr4 ha4 _g1 _g2 _g3 rfl fun B W x y hB b0 b1 b2 b3 er ea fr HRW' HBut' hGW hBW HZR HZA=>?_;have i3:(r:Int)<4:=by omega
 have i4:(a:Int)<4:=by omega
 clear h0 h4 hc c0 c1 c2 c3 hr;obtain rfl:=HZR.out;obtain rfl:=HZA.out;clear HZR HZA;generalize hzr:(Q n).z (25+r)=x at *;generalize hza:(Q n).z (25+a)=y at *;have HZR:Hid ((Q n).z (25+r)=x):=hzr;have HZA:Hid ((Q n).z (25+a)=y):=hza;clear hzr hza;have hy:16≤y:=hy0;clear hy0;go_wp2_with fail
 go_ret;exact ⟨rfl,HRW'.out,(by first|exact HBut'.out|exact HBut'.out.drew|exact HBut'.out.drew.drew|exact HBut'.out.drew.drew.drew|exact HBut'.out.drew.drew.drew.drew)⟩
theorem Y50 (Kb Gc n nC cq bo oo cb co nI cc nx r a:Nat) (N:Int) (Q:Nat→RC) (w:World) (h0:w.cell? ⟨Kb,0,none⟩=some (.slice (some ⟨bo,oo,none⟩) nC cq)) (h4:w.cell? ⟨Kb,4,none⟩=some (.slice (some ⟨Gc,0,none⟩) nC nC))
  (hc:w.cell? ⟨bo,oo+n*3,none⟩=some (.slice (some ⟨cb,co,none⟩) nI cc)) (c0:w.cell? ⟨cb,co+nx*4,none⟩=some (.int .i64 6)) (c1:w.cell? ⟨cb,co+nx*4+1,none⟩=some (.int .i64 r)) (c2:w.cell? ⟨cb,co+nx*4+2,none⟩=some (.int .i64 a)) (c3:w.cell? ⟨cb,co+nx*4+3,none⟩=some (.int .i64 N))
  (hr:RowF w Gc (nC*26) 131 (refC Q)) (h45:(Q n).z 45=nx) (hn:n<nC) (hx:nx<nI) (h48:nI≤48) (hr4:r<4) (ha4:a<4) (_g1:Kb≠Gc) (_g2:bo≠Gc) (_g3:cb≠Gc) (j:Nat) (hj:j<16) (hy0:(Q n).z (25+a)=j):
  Calls Tryz.prog 88 #[.pointer (some ⟨Kb,0,none⟩),.int .i64 n] w fun e w'=>e=.returned (.int .i64 (0))∧RowF w' Gc (nC*26) 131 (refC (updN Q n {Q n with z:=zset (zset (Q n).z 45 (nx+1)) (25+r) ((Q n).z (29+j))}))∧But (fun j=>j=Gc) w w':=by
 have hG:=hr.lt;refine Xg Kb Gc n nC cq bo oo cb co nI cc nx r a N Q w h0 h4 hc c0 c1 c2 c3 hr h45 hn hx h48 hr4 ha4 _g1 _g2 _g3 rfl fun B W x y hB b0 b1 b2 b3 er ea fr HRW' HBut' hGW hBW HZR HZA=>?_;have i3:(r:Int)<4:=by omega
 have i4:(a:Int)<4:=by omega
 clear h0 h4 hc c0 c1 c2 c3 hr;obtain rfl:=HZR.out;obtain rfl:=HZA.out;clear HZR HZA;generalize hzr:(Q n).z (25+r)=x at *;generalize hza:(Q n).z (25+a)=y at *;have HZR:Hid ((Q n).z (25+r)=x):=hzr;have HZA:Hid ((Q n).z (25+a)=y):=hza;clear hzr hza;have hy:y=j:=hy0;subst hy;clear hy0;have em:=RowF.rat HRW'.out (n:=n) (i:=4+j) (by omega) rfl (by omega);rw [Y26 _ _ _ (by omega),←Nat.add_assoc,show 25+(4+j)=29+j by omega] at em;generalize hzm:(Q n).z (29+j)=v at *;have HZM:Hid ((Q n).z (29+j)=v):=hzm;clear hzm;have j1:(j:Int)<16:=by omega
 have j0:¬((j:Int)<0):=by omega
 have j2:¬((16:Int)≤j):=by omega
 go_wp2_with fail
 have k0':∀(V:World) (v:Value),(V.setCell ⟨Gc,n*26+r,none⟩ v).cell? ⟨B,1,none⟩=V.cell? ⟨B,1,none⟩:=fun V v=>World.cell?_setCell_other _ _ _ _ (fun e=>by have e1:=congrArg Addr.block e;simp only at e1;omega);have k1':∀(V:World) (v:Value),(V.setCell ⟨Gc,n*26+r,none⟩ v).cell? ⟨Gc,n*26+4+j,none⟩=V.cell? ⟨Gc,n*26+4+j,none⟩:=fun V v=>World.cell?_setCell_other _ _ _ _ (fun e=>by have e1:=congrArg Addr.off e;simp only at e1;omega);go_region_held3 (fun W=>W.cell? ⟨B,1,none⟩=some (.int .i64 r)∧W.cell? ⟨Gc,n*26+4+j,none⟩=some (.int .i64 v)) (go_keep) (fail)
 clear k0' k1';go_wp2_with fail
 go_ret;try rw [HZM.out]
 exact ⟨rfl,RowF.rzs (i:=r) HRW'.out (by omega) rfl _,(by first|exact Ym HBut'.out _ _|exact (Ym HBut'.out _ _).drew|exact (Ym HBut'.out _ _).drew.drew|exact (Ym HBut'.out _ _).drew.drew.drew|exact (Ym HBut'.out _ _).drew.drew.drew.drew)⟩
theorem Ybv (Kb Gc n nC cq bo oo cb co nI cc nx r a:Nat) (N:Int) (Q:Nat→RC) (w:World) (h0:w.cell? ⟨Kb,0,none⟩=some (.slice (some ⟨bo,oo,none⟩) nC cq)) (h4:w.cell? ⟨Kb,4,none⟩=some (.slice (some ⟨Gc,0,none⟩) nC nC))
  (hc:w.cell? ⟨bo,oo+n*3,none⟩=some (.slice (some ⟨cb,co,none⟩) nI cc)) (c0:w.cell? ⟨cb,co+nx*4,none⟩=some (.int .i64 7)) (c1:w.cell? ⟨cb,co+nx*4+1,none⟩=some (.int .i64 r)) (c2:w.cell? ⟨cb,co+nx*4+2,none⟩=some (.int .i64 a)) (c3:w.cell? ⟨cb,co+nx*4+3,none⟩=some (.int .i64 N))
  (hr:RowF w Gc (nC*26) 131 (refC Q)) (h45:(Q n).z 45=nx) (hn:n<nC) (hx:nx<nI) (h48:nI≤48) (hr4:r<4) (ha4:a<4) (_g1:Kb≠Gc) (_g2:bo≠Gc) (_g3:cb≠Gc) (j:Nat) (hj:j<16) (hy0:(Q n).z (25+a)=j):
  Calls Tryz.prog 88 #[.pointer (some ⟨Kb,0,none⟩),.int .i64 n] w fun e w'=>e=.returned (.int .i64 (0))∧RowF w' Gc (nC*26) 131 (refC (updN Q n {Q n with z:=zset (zset (Q n).z 45 (nx+1)) (25+(4+j)) ((Q n).z (25+r))}))∧But (fun j=>j=Gc) w w':=by
 have hG:=hr.lt;refine Xg Kb Gc n nC cq bo oo cb co nI cc nx r a N Q w h0 h4 hc c0 c1 c2 c3 hr h45 hn hx h48 hr4 ha4 _g1 _g2 _g3 rfl fun B W x y hB b0 b1 b2 b3 er ea fr HRW' HBut' hGW hBW HZR HZA=>?_;have i3:(r:Int)<4:=by omega
 have i4:(a:Int)<4:=by omega
 clear h0 h4 hc c0 c1 c2 c3 hr;obtain rfl:=HZR.out;obtain rfl:=HZA.out;clear HZR HZA;generalize hzr:(Q n).z (25+r)=x at *;generalize hza:(Q n).z (25+a)=y at *;have HZR:Hid ((Q n).z (25+r)=x):=hzr;have HZA:Hid ((Q n).z (25+a)=y):=hza;clear hzr hza;have hy:y=j:=hy0;subst hy;clear hy0;have em:=RowF.rat HRW'.out (n:=n) (i:=4+j) (by omega) rfl (by omega);rw [Y26 _ _ _ (by omega),←Nat.add_assoc] at em;have fm:=HRW'.out.frozen (n*26+4+j);have j1:(j:Int)<16:=by omega
 have j0:¬((j:Int)<0):=by omega
 have j2:¬((16:Int)≤j):=by omega
 go_wp2_with fail
 go_ret;try rw [HZR.out]
 exact ⟨rfl,RowF.rzs (i:=4+j) HRW'.out (by omega) (by omega) _,(by first|exact Ym HBut'.out _ _|exact (Ym HBut'.out _ _).drew|exact (Ym HBut'.out _ _).drew.drew|exact (Ym HBut'.out _ _).drew.drew.drew|exact (Ym HBut'.out _ _).drew.drew.drew.drew)⟩
theorem Y8p (Kb Gc n nC cq bo oo cb co nI cc nx r a:Nat) (N:Int) (Q:Nat→RC) (w:World) (h0:w.cell? ⟨Kb,0,none⟩=some (.slice (some ⟨bo,oo,none⟩) nC cq)) (h4:w.cell? ⟨Kb,4,none⟩=some (.slice (some ⟨Gc,0,none⟩) nC nC))
  (hc:w.cell? ⟨bo,oo+n*3,none⟩=some (.slice (some ⟨cb,co,none⟩) nI cc)) (c0:w.cell? ⟨cb,co+nx*4,none⟩=some (.int .i64 8)) (c1:w.cell? ⟨cb,co+nx*4+1,none⟩=some (.int .i64 r)) (c2:w.cell? ⟨cb,co+nx*4+2,none⟩=some (.int .i64 a)) (c3:w.cell? ⟨cb,co+nx*4+3,none⟩=some (.int .i64 N))
  (hr:RowF w Gc (nC*26) 131 (refC Q)) (h45:(Q n).z 45=nx) (hn:n<nC) (hx:nx<nI) (h48:nI≤48) (hr4:r<4) (ha4:a<4) (_g1:Kb≠Gc) (_g2:bo≠Gc) (_g3:cb≠Gc):
  Calls Tryz.prog 88 #[.pointer (some ⟨Kb,0,none⟩),.int .i64 n] w fun e w'=>e=.returned (.int .i64 (0))∧RowF w' Gc (nC*26) 131 (refC (updN Q n {Q n with z:=zset (zset (Q n).z 45 (nx+1)) (25+20) N}))∧But (fun j=>j=Gc) w w':=by
 have hG:=hr.lt;refine Xg Kb Gc n nC cq bo oo cb co nI cc nx r a N Q w h0 h4 hc c0 c1 c2 c3 hr h45 hn hx h48 hr4 ha4 _g1 _g2 _g3 rfl fun B W x y hB b0 b1 b2 b3 er ea fr HRW' HBut' hGW hBW HZR HZA=>?_;have i3:(r:Int)<4:=by omega
 have i4:(a:Int)<4:=by omega
 clear h0 h4 hc c0 c1 c2 c3 hr;obtain rfl:=HZR.out;obtain rfl:=HZA.out;clear HZR HZA;generalize hzr:(Q n).z (25+r)=x at *;generalize hza:(Q n).z (25+a)=y at *;have HZR:Hid ((Q n).z (25+r)=x):=hzr;have HZA:Hid ((Q n).z (25+a)=y):=hza;clear hzr hza;have e20:=RowF.rat HRW'.out (n:=n) (i:=20) (by omega) rfl (by omega);have f20:=HRW'.out.frozen (n*26+20);go_wp2_with fail
 go_ret;exact ⟨rfl,RowF.rzs (i:=20) HRW'.out (by omega) rfl _,(by first|exact Ym HBut'.out _ _|exact (Ym HBut'.out _ _).drew|exact (Ym HBut'.out _ _).drew.drew|exact (Ym HBut'.out _ _).drew.drew.drew|exact (Ym HBut'.out _ _).drew.drew.drew.drew)⟩
theorem Y5K (Kb Gc n nC cq bo oo cb co nI cc nx r a:Nat) (N:Int) (Q:Nat→RC) (w:World) (h0:w.cell? ⟨Kb,0,none⟩=some (.slice (some ⟨bo,oo,none⟩) nC cq)) (h4:w.cell? ⟨Kb,4,none⟩=some (.slice (some ⟨Gc,0,none⟩) nC nC))
  (hc:w.cell? ⟨bo,oo+n*3,none⟩=some (.slice (some ⟨cb,co,none⟩) nI cc)) (c0:w.cell? ⟨cb,co+nx*4,none⟩=some (.int .i64 9)) (c1:w.cell? ⟨cb,co+nx*4+1,none⟩=some (.int .i64 r)) (c2:w.cell? ⟨cb,co+nx*4+2,none⟩=some (.int .i64 a)) (c3:w.cell? ⟨cb,co+nx*4+3,none⟩=some (.int .i64 N))
  (hr:RowF w Gc (nC*26) 131 (refC Q)) (h45:(Q n).z 45=nx) (hn:n<nC) (hx:nx<nI) (h48:nI≤48) (hr4:r<4) (ha4:a<4) (_g1:Kb≠Gc) (_g2:bo≠Gc) (_g3:cb≠Gc) (hx0:(Q n).z (25+r)=0):
  Calls Tryz.prog 88 #[.pointer (some ⟨Kb,0,none⟩),.int .i64 n] w fun e w'=>e=.returned (.int .i64 (0))∧RowF w' Gc (nC*26) 131 (refC (updN Q n {Q n with z:=zset (zset (Q n).z 45 (nx+1)) (25+20) N}))∧But (fun j=>j=Gc) w w':=by
 have hG:=hr.lt;refine Xg Kb Gc n nC cq bo oo cb co nI cc nx r a N Q w h0 h4 hc c0 c1 c2 c3 hr h45 hn hx h48 hr4 ha4 _g1 _g2 _g3 rfl fun B W x y hB b0 b1 b2 b3 er ea fr HRW' HBut' hGW hBW HZR HZA=>?_;have i3:(r:Int)<4:=by omega
 have i4:(a:Int)<4:=by omega
 clear h0 h4 hc c0 c1 c2 c3 hr;obtain rfl:=HZR.out;obtain rfl:=HZA.out;clear HZR HZA;generalize hzr:(Q n).z (25+r)=x at *;generalize hza:(Q n).z (25+a)=y at *;have HZR:Hid ((Q n).z (25+r)=x):=hzr;have HZA:Hid ((Q n).z (25+a)=y):=hza;clear hzr hza;have hx1:x=0:=hx0;subst hx1;clear hx0;have e20:=RowF.rat HRW'.out (n:=n) (i:=20) (by omega) rfl (by omega);have f20:=HRW'.out.frozen (n*26+20);go_wp2_with fail
 go_ret;exact ⟨rfl,RowF.rzs (i:=20) HRW'.out (by omega) rfl _,(by first|exact Ym HBut'.out _ _|exact (Ym HBut'.out _ _).drew|exact (Ym HBut'.out _ _).drew.drew|exact (Ym HBut'.out _ _).drew.drew.drew|exact (Ym HBut'.out _ _).drew.drew.drew.drew)⟩
theorem Y60 (Kb Gc n nC cq bo oo cb co nI cc nx r a:Nat) (N:Int) (Q:Nat→RC) (w:World) (h0:w.cell? ⟨Kb,0,none⟩=some (.slice (some ⟨bo,oo,none⟩) nC cq)) (h4:w.cell? ⟨Kb,4,none⟩=some (.slice (some ⟨Gc,0,none⟩) nC nC))
  (hc:w.cell? ⟨bo,oo+n*3,none⟩=some (.slice (some ⟨cb,co,none⟩) nI cc)) (c0:w.cell? ⟨cb,co+nx*4,none⟩=some (.int .i64 9)) (c1:w.cell? ⟨cb,co+nx*4+1,none⟩=some (.int .i64 r)) (c2:w.cell? ⟨cb,co+nx*4+2,none⟩=some (.int .i64 a)) (c3:w.cell? ⟨cb,co+nx*4+3,none⟩=some (.int .i64 N))
  (hr:RowF w Gc (nC*26) 131 (refC Q)) (h45:(Q n).z 45=nx) (hn:n<nC) (hx:nx<nI) (h48:nI≤48) (hr4:r<4) (ha4:a<4) (_g1:Kb≠Gc) (_g2:bo≠Gc) (_g3:cb≠Gc) (hx0:(Q n).z (25+r)≠0):
  Calls Tryz.prog 88 #[.pointer (some ⟨Kb,0,none⟩),.int .i64 n] w fun e w'=>e=.returned (.int .i64 (0))∧RowF w' Gc (nC*26) 131 (refC (updN Q n {Q n with z:=(zset (Q n).z 45 (nx+1))}))∧But (fun j=>j=Gc) w w':=by
 have hG:=hr.lt;refine Xg Kb Gc n nC cq bo oo cb co nI cc nx r a N Q w h0 h4 hc c0 c1 c2 c3 hr h45 hn hx h48 hr4 ha4 _g1 _g2 _g3 rfl fun B W x y hB b0 b1 b2 b3 er ea fr HRW' HBut' hGW hBW HZR HZA=>?_;have i3:(r:Int)<4:=by omega
 have i4:(a:Int)<4:=by omega
 clear h0 h4 hc c0 c1 c2 c3 hr;obtain rfl:=HZR.out;obtain rfl:=HZA.out;clear HZR HZA;generalize hzr:(Q n).z (25+r)=x at *;generalize hza:(Q n).z (25+a)=y at *;have HZR:Hid ((Q n).z (25+r)=x):=hzr;have HZA:Hid ((Q n).z (25+a)=y):=hza;clear hzr hza;have hx1:(x==0)=false:=by simpa using hx0
 clear hx0;go_wp2_with fail
 go_ret;exact ⟨rfl,HRW'.out,(by first|exact HBut'.out|exact HBut'.out.drew|exact HBut'.out.drew.drew|exact HBut'.out.drew.drew.drew|exact HBut'.out.drew.drew.drew.drew)⟩
theorem YaC (Kb Gc n nC cq bo oo cb co nI cc nx r a:Nat) (N:Int) (Q:Nat→RC) (w:World) (h0:w.cell? ⟨Kb,0,none⟩=some (.slice (some ⟨bo,oo,none⟩) nC cq)) (h4:w.cell? ⟨Kb,4,none⟩=some (.slice (some ⟨Gc,0,none⟩) nC nC))
  (hc:w.cell? ⟨bo,oo+n*3,none⟩=some (.slice (some ⟨cb,co,none⟩) nI cc)) (c0:w.cell? ⟨cb,co+nx*4,none⟩=some (.int .i64 15)) (c1:w.cell? ⟨cb,co+nx*4+1,none⟩=some (.int .i64 r)) (c2:w.cell? ⟨cb,co+nx*4+2,none⟩=some (.int .i64 a)) (c3:w.cell? ⟨cb,co+nx*4+3,none⟩=some (.int .i64 N))
  (hr:RowF w Gc (nC*26) 131 (refC Q)) (h45:(Q n).z 45=nx) (hn:n<nC) (hx:nx<nI) (h48:nI≤48) (hr4:r<4) (ha4:a<4) (_g1:Kb≠Gc) (_g2:bo≠Gc) (_g3:cb≠Gc) (m:Nat) (xs:List Value) (hown:w.ownsRow 0 111 3 (Q n).v m xs) (hob:(Q n).v.ownBlock≠some Gc) (hm:m<1000000000):
  Calls Tryz.prog 88 #[.pointer (some ⟨Kb,0,none⟩),.int .i64 n] w fun e w'=>e=.returned (.int .i64 0)∧∃v',RowF w' Gc (nC*26) 131 (refC (updN Q n {Q n with z:=(zset (Q n).z 45 (nx+1)),v:=v'}))∧But (fun j=>j=Gc∨(Q n).v.ownBlock=some j) w w'∧w'.ownsRow 0 111 3 v' (m+1) (xs++[.int .i64 1,.int .i64 ((Q n).z (25+r)),.int .i64 0])∧∀b,v'.ownBlock=some b→(Q n).v.ownBlock=some b∨w.heap.size≤b:=by
 have hG:=hr.lt;refine Xg Kb Gc n nC cq bo oo cb co nI cc nx r a N Q w h0 h4 hc c0 c1 c2 c3 hr h45 hn hx h48 hr4 ha4 _g1 _g2 _g3 rfl fun B W x y hB b0 b1 b2 b3 er ea fr HRW' HBut' hGW hBW HZR HZA=>?_;have i3:(r:Int)<4:=by omega
 have i4:(a:Int)<4:=by omega
 clear h0 h4 hc c0 c1 c2 c3 hr;obtain rfl:=HZR.out;obtain rfl:=HZA.out;clear HZR HZA;generalize hzr:(Q n).z (25+r)=x at *;generalize hza:(Q n).z (25+a)=y at *;have HZR:Hid ((Q n).z (25+r)=x):=hzr;have HZA:Hid ((Q n).z (25+a)=y):=hza;clear hzr hza;have ev:=RowF.rat HRW'.out (n:=n) (i:=22) (by omega) rfl (by omega);rw [Yas] at ev;have HOW:Hid (∀o,(W.alloc o).ownsRow 0 111 3 (Q n).v m xs):=fun o=>own_below (Xd (L:=⟨0,0,111,fun _=>False,fun _=>False⟩) hown fun b hb=>by
  have hlt:=Y01 hown hb;exact HBut'.out.block b hlt (fun e=>hob (by rw [←e];exact hb))) ((Below.refl _ _).alloc (Nat.le_refl _) _)
 have HOB:Hid ((Q n).v.ownBlock≠some Gc):=hob;have HOL:Hid (∀b,(Q n).v.ownBlock=some b→b<w.heap.size):=fun b hb=>Y01 hown hb;have HX:Hid (x=(Q n).z (25+r)):=HZR.out.symm;clear hown hob;go_wp2_with (at_builtin;refine YX _ rfl _ _ 61 rfl 0 111 _ 3 24 Tryz.underlying61 Zg rfl (by omega) (Q n).v m xs rfl (by exact HOW.out _) W.heap.size [.int .i64 1,.int .i64 x,.int .i64 0] 111 rfl rfl (by exact alloc_at rfl) (by simp [Value.oneCell']) (by simp only [maxLen];omega) (by omega) (by omega) ?_)
 intro g cap w1 hown1 hgrow1 hat hlt1;have hG1:w1.heap[Gc]?=W.heap[Gc]?:=(hgrow1.block Gc (by show Gc<(W.alloc _).heap.size;simp;omega) (fun e=>HOB.out e.symm)).trans (heap_alloc_old W _ hGW);have R1:Hid (RowF w1 Gc (nC*26) 131 (refC (updN Q n {Q n with z:=zset (Q n).z 45 (nx+1)}))):=HRW'.out.of_heap hG1;have ev1:=RowF.rat R1.out (n:=n) (i:=22) (by omega) rfl (by omega);have fv1:=R1.out.frozen (n*26+22);have HF:Hid (Jc w W w1 Gc (Q n).v g cap (m+1) (xs++[.int .i64 1,.int .i64 x,.int .i64 0])):=⟨HBut'.out,hgrow1.os,hgrow1.tape,hgrow1.output,Nat.le_trans (by simp) hgrow1.size,fun b hb hne=>(hgrow1.block b (by show b<(W.alloc _).heap.size;simp;omega) (fun e=>hne e.symm)).trans (heap_alloc_old W _ hb),hown1,hat.imp id (fun e=>by rw [e];first|omega|simp),HOB.out,hGW⟩;clear hown1 hgrow1 hat hlt1 hG1;go_wp2_with fail
 go_ret;rw [←HX.out] at *;exact ⟨rfl,.slice (some ⟨g,0,none⟩) (m+1:Nat) cap,by
  have:=RowF.rv R1.out (n:=n) rfl (.slice (some ⟨g,0,none⟩) (m+1:Nat) cap);rw [ZN,Yh] at this;exact this,HF.out.but,HF.out.own1,by rw [←hB];exact HF.out.blk⟩
structure RK where
 hi:Nat
 Kb:Nat
 Gc:Nat
 bo:Nat
 oo:Nat
 cq:Nat
 cb:Nat→Nat
 co:Nat→Nat
 cc:Nat→Nat
 iq:Nat→Option Addr
 ic:Nat→Nat
 nG:Nat→Nat
 img:Nat→Nat→Int
 lim:Nat→Int
def YM (r:RK) (w:World) (b:Nat):Prop:=b<r.hi∧b≠r.Gc∧r.hi≤w.heap.size
structure RNow (w:World) (k:Ker) (r:RK) (Q:Nat→RC) (m:Nat→Nat) (xs:Nat→List Value):Prop where
 h0:w.cell? ⟨r.Kb,0,none⟩=some (.slice (some ⟨r.bo,r.oo,none⟩) k.nC r.cq)
 h4:w.cell? ⟨r.Kb,4,none⟩=some (.slice (some ⟨r.Gc,0,none⟩) k.nC k.nC)
 sK:YM r w r.Kb
 sb:YM r w r.bo
 sc:∀i,i<k.nC→YM r w (r.cb i)
 si:∀i,i<k.nC→∀b o,r.iq i=some ⟨b,o,none⟩→YM r w b
 oh:∀i b,i<k.nC→(Q i).v.ownBlock=some b→r.hi≤b
 hc:∀i,i<k.nC→w.cell? ⟨r.bo,r.oo+i*3,none⟩=some (.slice (some ⟨r.cb i,r.co i,none⟩) (k.n i) (r.cc i))
 hi:∀i,i<k.nC→w.cell? ⟨r.bo,r.oo+i*3+1,none⟩=some (.slice (r.iq i) (r.nG i) (r.ic i))
 hl:∀i,i<k.nC→w.cell? ⟨r.bo,r.oo+i*3+2,none⟩=some (.int .i64 (r.lim i))
 code:∀i,i<k.nC→∀j,j<k.n i*4→w.cell? ⟨r.cb i,r.co i+j,none⟩=some (.int .i64 (k.ci i j))
 imgs:∀i,i<k.nC→Sl w (r.iq i) (r.nG i) (fun j=>.int .i64 (r.img i j))
 row:RowF w r.Gc (k.nC*26) 131 (refC Q)
 own:∀i,i<k.nC→w.ownsRow 0 111 3 (Q i).v (m i) (xs i)
 ownNe:∀i j,i<k.nC→j<k.nC→i≠j→∀b,(Q i).v.ownBlock=some b→(Q j).v.ownBlock≠some b
 g16:∀i,i<k.nC→r.nG i≤16
 n48:∀i,i<k.nC→k.n i≤48
 ok:∀i,i<k.nC→Xc (k.n i) (k.ci i)
 fst:∀i,i<k.nC→∀j,3≤j→j<25→(Q i).z j=newZ (r.lim i) (r.nG i) (r.img i) j
section
variable {w w' w2:World} {k:Ker} {r:RK} {Q:Nat→RC} {m:Nat→Nat} {xs:Nat→List Value} {n m' m2:Nat} {c' c2:RC} {xs' xs2:List Value}
theorem YM.ne_row {b m:Nat} {f:Nat→Value} (h:YM r w b) (_hr:RowF w r.Gc m 131 f):b≠r.Gc:=h.2.1
theorem YM.ne_own {b:Nat} (h:YM r w b) {v:Value} (ho:∀b,v.ownBlock=some b→r.hi≤b):v.ownBlock≠some b:=fun e=>by
 have h1:=h.1;have h2:=ho b e;omega
theorem YM.to {b:Nat} (h:YM r w b) (e:w.heap.size≤w'.heap.size):YM r w' b:=⟨h.1,h.2.1,Nat.le_trans h.2.2 e⟩
theorem YM.lt {b:Nat} (h:YM r w b):b<w.heap.size:=Nat.lt_of_lt_of_le h.1 h.2.2
structure RAft (w:World) (Gc nC n:Nat) (Q:Nat→RC) (c':RC) (m':Nat) (xs':List Value) (w':World):Prop where
 row:RowF w' Gc (nC*26) 131 (refC (updN Q n c'))
 but:But (fun j=>j=Gc∨(Q n).v.ownBlock=some j) w w'
 own:w'.ownsRow 0 111 3 c'.v m' xs'
 blk:∀b,c'.v.ownBlock=some b→(Q n).v.ownBlock=some b∨w.heap.size≤b
theorem RAft.trans {Gc nC:Nat} (h:RAft w Gc nC n Q c' m' xs' w') (h2:RAft w' Gc nC n (updN Q n c') c2 m2 xs2 w2):RAft w Gc nC n Q c2 m2 xs2 w2:=by
 refine ⟨by have:=h2.row;rwa [ZN] at this,h.but.trans h2.but (fun _ x=>x) (fun j hj x=>?_),h2.own,fun b hb=>?_⟩
 ·rw [Yh] at x;rcases x with x|x
  ·exact .inl x
  ·rcases h.blk j x with x|x
   ·exact .inr x
   ·omega
 ·have:=h2.blk b hb;rw [Yh] at this;rcases this with x|x
  ·exact h.blk b x
  ·exact .inr (Nat.le_trans h.but.size x)
theorem RNow.after (h:RNow w k r Q m xs) (hn:n<k.nC) (hA:RAft w r.Gc k.nC n Q c' m' xs' w') (hz:∀j,3≤j→j<25→c'.z j=(Q n).z j):RNow w' k r (updN Q n c') (updN m n m') (updN xs n xs'):=by
 have kk:∀{b:Nat},YM r w b→w'.heap[b]?=w.heap[b]?:=fun {b} hs=>hA.but.block b hs.lt (fun e=>by
  rcases e with e|e
  ·exact hs.ne_row h.row e
  ·exact hs.ne_own (fun b=>h.oh n b hn) e)
 have keptO:∀i,i<k.nC→i≠n→∀b,(Q i).v.ownBlock=some b→b<w.heap.size∧w'.heap[b]?=w.heap[b]?:=fun i hi hne b hb=>by
  obtain ⟨cs,fz,h1⟩:=J5 (h.own i hi) hb;have hlt:=(Array.getElem?_eq_some_iff.1 h1).1;refine ⟨hlt,hA.but.block b hlt (fun e=>?_)⟩;rcases e with e|e
  ·exact Zh h.row (by decide) (h.own i hi) (by rw [←e];exact hb)
  ·exact h.ownNe i n hi hn hne b hb e
 refine ⟨(cell_of_heap (a:=⟨r.Kb,0,none⟩) (kk h.sK)).trans h.h0,(cell_of_heap (a:=⟨r.Kb,4,none⟩) (kk h.sK)).trans h.h4,h.sK.to hA.but.size,h.sb.to hA.but.size,fun i hi=>(h.sc i hi).to hA.but.size,fun i hi b o e=>(h.si i hi b o e).to hA.but.size,fun i b hi hb=>?_,
  fun i hi=>(cell_of_heap (a:=⟨r.bo,r.oo+i*3,none⟩) (kk h.sb)).trans (h.hc i hi),fun i hi=>(cell_of_heap (a:=⟨r.bo,r.oo+i*3+1,none⟩) (kk h.sb)).trans (h.hi i hi),fun i hi=>(cell_of_heap (a:=⟨r.bo,r.oo+i*3+2,none⟩) (kk h.sb)).trans (h.hl i hi),
  fun i hi j hj=>(cell_of_heap (a:=⟨r.cb i,r.co i+j,none⟩) (kk (h.sc i hi))).trans (h.code i hi j hj),fun i hi=>?_,hA.row,fun i hi=>?_,fun i j hi hj hne b hb hb'=>?_,h.g16,h.n48,h.ok,fun i hi j h3 h25=>?_⟩
 ·by_cases e:i=n
  ·subst e;rw [Yh] at hb;rcases hA.blk b hb with hb|hb
   ·exact h.oh i b hi hb
   ·exact Nat.le_trans h.sK.2.2 hb
  ·rw [YG _ _ e] at hb;exact h.oh i b hi hb
 ·rcases h.imgs i hi with e|⟨b,o,e,hc⟩
  ·exact .inl e
  ·exact .inr ⟨b,o,e,fun j hj=>(cell_of_heap (a:=⟨b,o+j,none⟩) (kk (h.si i hi b o e))).trans (hc j hj)⟩
 ·by_cases e:i=n
  ·subst e;rw [Yh,Yh,Yh];exact hA.own
  ·rw [YG _ _ e,YG _ _ e,YG _ _ e];exact Xd (L:=⟨0,0,111,fun _=>False,fun _=>False⟩) (h.own i hi) fun b hb=>(keptO i hi e b hb).2
 ·by_cases e:i=n
  ·subst e;have hj':j≠i:=fun x=>hne x.symm;rw [YG _ _ hj'] at hb';rw [Yh] at hb;rcases hA.blk b hb with hb|hb
   ·exact h.ownNe i j hi hj hne b hb hb'
   ·have:=(keptO j hj hj' b hb').1;omega
  ·rw [YG _ _ e] at hb;by_cases e2:j=n
   ·subst e2;rw [Yh] at hb';rcases hA.blk b hb' with hb'|hb'
    ·exact h.ownNe i j hi hj hne b hb hb'
    ·have:=(keptO i hi e b hb).1;omega
   ·rw [YG _ _ e2] at hb';exact h.ownNe i j hi hj hne b hb hb'
 ·by_cases e:i=n
  ·subst e;rw [Yh,hz j h3 h25];exact h.fst i hi j h3 h25
  ·rw [YG _ _ e];exact h.fst i hi j h3 h25
end
def rres:Out→Int×(Nat→Int)
 |.on op _ z=>(if op=0 then -1 else 0,z)
 |.broke y z=>(y,z)
theorem Y5L (Kb Gc n nC cq bo oo cb co nI cc:Nat) (Q:Nat→RC) (w:World) (h0:w.cell? ⟨Kb,0,none⟩=some (.slice (some ⟨bo,oo,none⟩) nC cq)) (h4:w.cell? ⟨Kb,4,none⟩=some (.slice (some ⟨Gc,0,none⟩) nC nC))
  (hc:w.cell? ⟨bo,oo+n*3,none⟩=some (.slice (some ⟨cb,co,none⟩) nI cc)) (hr:RowF w Gc (nC*26) 131 (refC Q)) (h45:(Q n).z 45=nI) (hn:n<nC) (_h48:nI≤48):
  Calls Tryz.prog 88 #[.pointer (some ⟨Kb,0,none⟩),.int .i64 n] w fun e w'=>e=.returned (.int .i64 3)∧w'=w.drew:=by
 have e20:w.cell? ⟨Gc,n*26+20,none⟩=some (.int .i64 nI):=by rw [RowF.rat hr (n:=n) (i:=20) (by omega) rfl (by omega)];show some (Value.int .i64 ((Q n).z 45))=_;rw [h45]
 clear hr;have i1:(nI:Int)≤(nI:Int):=by omega
 go_enter Tryz.func88,Tryz.ntmps88
 go_wp2_with fail
 go_region_held3 (fun W=>W.cell? ⟨Kb,0,none⟩=some (.slice (some ⟨bo,oo,none⟩) nC cq)∧W.cell? ⟨bo,oo+n*3,none⟩=some (.slice (some ⟨cb,co,none⟩) nI cc)∧W.cell? ⟨Gc,n*26+20,none⟩=some (.int .i64 nI)) (go_keep) (fail)
 go_wp2_with fail
 go_ret;exact ⟨rfl,rfl⟩
section
variable {w w':World} {k:Ker} {r:RK} {Q:Nat→RC} {m:Nat→Nat} {xs:Nat→List Value} {n:Nat}
theorem Y2t {Z Z':Nat→Int} (h:RNow w k r Q m xs) (hn:n<k.nC) (hrow:RowF w' r.Gc (k.nC*26) 131 (refC (updN Q n {Q n with z:=Z}))) (hb:But (fun j=>j=r.Gc) w w') (he:∀j,(25≤j∧j<46)∨j=47→Z j=Z' j):
  RAft w r.Gc k.nC n Q {Q n with z:=Z'} (m n) (xs n) w':=
 ⟨RowF.rc hrow he,hb.mono fun _ x=>.inl x,Xd (L:=⟨0,0,111,fun _=>False,fun _=>False⟩) (h.own n hn) fun b hb'=>hb.block b (Y01 (h.own n hn) hb') (fun e=>Zh h.row (by decide) (h.own n hn) (by rw [←e];exact hb')),fun _ x=>.inl x⟩
theorem w64 (x:Int):IntKind.i64.wrap x=wrap64 x:=by rw [IntKind.wrap_i64];unfold wrap64;omega
theorem Zl (z:Nat→Int) {nx:Nat} (hnx:z 45=nx) (j:Nat) (h:(25≤j∧j<46)∨j=47):zset z 45 (nx+1) j=Y9 z j:=by
 unfold Y9;rw [J9,J9,J9,hnx];by_cases e:j=45
 ·rw [if_pos e,if_pos e];simp
 ·rw [if_neg e,if_neg e,if_neg (by omega)]
theorem Zo (z:Nat→Int) {nx:Nat} (hnx:z 45=nx) (i:Nat) (v:Int) (j:Nat) (h:(25≤j∧j<46)∨j=47):zset (zset z 45 (nx+1)) i v j=zset (Y9 z) i v j:=by
 rw [J9 (zset z 45 _) i v j,J9 (Y9 z) i v j];by_cases e:j=i
 ·rw [if_pos e,if_pos e]
 ·rw [if_neg e,if_neg e];exact Zl z hnx j h
theorem Y1h (z:Nat→Int) {i:Nat} (hi:25≤i) (h2:i<45):Y9 z i=z i:=by
 unfold Y9;rw [YQ _ _ (by omega),YQ _ _ (by omega)]
theorem Y8x (h:RNow w k r Q m xs) (hn:n<k.nC) (h45:0≤(Q n).z 45∧(Q n).z 45≤k.n n) (hm:m n<1000000000):
  Calls Tryz.prog 88 #[.pointer (some ⟨r.Kb,0,none⟩),.int .i64 n] w fun e w'=>e=.returned (.int .i64 (rres (Y7 (k.n n) (k.ci n) (Q n).z)).1)∧
   ∃v',RAft w r.Gc k.nC n Q {Q n with z:=(rres (Y7 (k.n n) (k.ci n) (Q n).z)).2,v:=v'} (m n+(Y7 (k.n n) (k.ci n) (Q n).z).sent.length) (xs n++(Y7 (k.n n) (k.ci n) (Q n).z).sent.flatMap Yv) w':=by
 have gK:=h.sK.ne_row h.row;have gb:=h.sb.ne_row h.row;have gc:=(h.sc n hn).ne_row h.row;by_cases hz:(Q n).z 45=k.n n
 ·have e:Y7 (k.n n) (k.ci n) (Q n).z=.broke 3 (zset (Q n).z 46 (IntKind.i64.wrap ((Q n).z 46+1))):=by unfold Y7;rw [if_pos hz]
  rw [e];refine (Y5L r.Kb r.Gc n k.nC r.cq r.bo r.oo (r.cb n) (r.co n) (k.n n) (r.cc n) Q w h.h0 h.h4 (h.hc n hn) h.row hz hn (h.n48 n hn)).mono ?_;rintro e w' ⟨rfl,rfl⟩;refine ⟨rfl,(Q n).v,?_⟩;have:=Y2t (Z:=(Q n).z) (Z':=zset (Q n).z 46 (IntKind.i64.wrap ((Q n).z 46+1))) (w':=w.drew) h hn (RowF.r0 h.row n) (But.refl _ _).drew (fun j hj=>by rw [YQ _ _ (by omega)]);simpa [Out.sent,rres] using this
 ·obtain ⟨nx,hnx⟩:∃nx:Nat,(Q n).z 45=nx:=⟨((Q n).z 45).toNat,by omega⟩;have hlt:nx<k.n n:=by omega
  have ht:((Q n).z 45).toNat=nx:=by omega
  obtain ⟨ho,⟨r0,r4⟩,⟨a0,a4⟩,hj⟩:=h.ok n hn nx hlt;obtain ⟨R,hR⟩:∃R:Nat,k.ci n (nx*4+1)=R:=⟨(k.ci n (nx*4+1)).toNat,by omega⟩;obtain ⟨A,hA⟩:∃A:Nat,k.ci n (nx*4+2)=A:=⟨(k.ci n (nx*4+2)).toNat,by omega⟩;have hRt:(k.ci n (nx*4+1)).toNat=R:=by omega
  have hAt:(k.ci n (nx*4+2)).toNat=A:=by omega
  have hR4:R<4:=by omega
  have hA4:A<4:=by omega
  have c0:=h.code n hn (nx*4) (by omega);have c1:=h.code n hn (nx*4+1) (by omega);have c2:=h.code n hn (nx*4+2) (by omega);have c3:=h.code n hn (nx*4+3) (by omega);rw [←Nat.add_assoc] at c1 c2 c3;rw [hR] at c1;rw [hA] at c2;have zR:=Y1h (Q n).z (i:=25+R) (by omega) (by omega);have zA:=Y1h (Q n).z (i:=25+A) (by omega) (by omega);have fin:∀{st:Out} {Z:Nat→Int} {rt:Int} {e:Ending} {w':World},Y7 (k.n n) (k.ci n) (Q n).z=st→(rres st).1=rt→st.sent=[]→(∀j,(25≤j∧j<46)∨j=47→Z j=(rres st).2 j)→
    (e=.returned (.int .i64 rt)∧RowF w' r.Gc (k.nC*26) 131 (refC (updN Q n {Q n with z:=Z}))∧But (fun j=>j=r.Gc) w w')→
    e=.returned (.int .i64 (rres (Y7 (k.n n) (k.ci n) (Q n).z)).1)∧∃v',RAft w r.Gc k.nC n Q {Q n with z:=(rres (Y7 (k.n n) (k.ci n) (Q n).z)).2,v:=v'} (m n+(Y7 (k.n n) (k.ci n) (Q n).z).sent.length) (xs n++(Y7 (k.n n) (k.ci n) (Q n).z).sent.flatMap Yv) w':=by
   intro st Z rt e w' h1 h2 h3 h4 ⟨h5,h6,h7⟩;rw [h1,h2,h3];exact ⟨h5,(Q n).v,by simpa using Y2t h hn h6 h7 h4⟩
  have hops:k.ci n (nx*4)=0∨k.ci n (nx*4)=1∨k.ci n (nx*4)=2∨k.ci n (nx*4)=3∨k.ci n (nx*4)=4∨k.ci n (nx*4)=5∨k.ci n (nx*4)=6∨k.ci n (nx*4)=7∨k.ci n (nx*4)=8∨k.ci n (nx*4)=9∨k.ci n (nx*4)=15:=by omega
  rcases hops with ho|ho|ho|ho|ho|ho|ho|ho|ho|ho|ho
  ·rw [ho] at c0;have e:Y7 (k.n n) (k.ci n) (Q n).z=.on 0 none (Y9 (Q n).z):=by simp [Y7,hz,ht,ho]
   exact (Y5j r.Kb r.Gc n k.nC r.cq r.bo r.oo (r.cb n) (r.co n) (k.n n) (r.cc n) nx R A _ Q w h.h0 h.h4 (h.hc n hn) c0 c1 c2 c3 h.row hnx hn hlt (h.n48 n hn) hR4 hA4 gK gb gc).mono fun e' w' x=>fin e rfl rfl (fun j hj=>Zl _ hnx j hj) x
  ·rw [ho] at c0;have e:Y7 (k.n n) (k.ci n) (Q n).z=.on 1 none (zset (Y9 (Q n).z) (25+R) (k.ci n (nx*4+3))):=by simp [Y7,hz,ht,ho,hRt]
   exact (Y56 r.Kb r.Gc n k.nC r.cq r.bo r.oo (r.cb n) (r.co n) (k.n n) (r.cc n) nx R A _ Q w h.h0 h.h4 (h.hc n hn) c0 c1 c2 c3 h.row hnx hn hlt (h.n48 n hn) hR4 hA4 gK gb gc).mono fun e' w' x=>fin e rfl rfl (fun j hj=>Zo _ hnx _ _ j hj) x
  ·rw [ho] at c0;have e:Y7 (k.n n) (k.ci n) (Q n).z=.on 2 none (zset (Y9 (Q n).z) (25+R) (IntKind.i64.wrap (Y9 (Q n).z (25+R)+Y9 (Q n).z (25+A)))):=by simp [Y7,hz,ht,ho,hRt,hAt]
   rw [zR,zA,w64] at e;exact (Y6o r.Kb r.Gc n k.nC r.cq r.bo r.oo (r.cb n) (r.co n) (k.n n) (r.cc n) nx R A _ Q w h.h0 h.h4 (h.hc n hn) c0 c1 c2 c3 h.row hnx hn hlt (h.n48 n hn) hR4 hA4 gK gb gc).mono fun e' w' x=>fin e rfl rfl (fun j hj=>Zo _ hnx _ _ j hj) x
  ·rw [ho] at c0;have e:Y7 (k.n n) (k.ci n) (Q n).z=.on 3 none (zset (Y9 (Q n).z) (25+R) (IntKind.i64.wrap (Y9 (Q n).z (25+R)-Y9 (Q n).z (25+A)))):=by simp [Y7,hz,ht,ho,hRt,hAt]
   rw [zR,zA,w64] at e;exact (Y6q r.Kb r.Gc n k.nC r.cq r.bo r.oo (r.cb n) (r.co n) (k.n n) (r.cc n) nx R A _ Q w h.h0 h.h4 (h.hc n hn) c0 c1 c2 c3 h.row hnx hn hlt (h.n48 n hn) hR4 hA4 gK gb gc).mono fun e' w' x=>fin e rfl rfl (fun j hj=>Zo _ hnx _ _ j hj) x
  ·rw [ho] at c0;have e:Y7 (k.n n) (k.ci n) (Q n).z=.on 4 none (zset (Y9 (Q n).z) (25+R) (IntKind.i64.wrap (Y9 (Q n).z (25+R)*Y9 (Q n).z (25+A)))):=by simp [Y7,hz,ht,ho,hRt,hAt]
   rw [zR,zA,w64] at e;exact (Y88 r.Kb r.Gc n k.nC r.cq r.bo r.oo (r.cb n) (r.co n) (k.n n) (r.cc n) nx R A _ Q w h.h0 h.h4 (h.hc n hn) c0 c1 c2 c3 h.row hnx hn hlt (h.n48 n hn) hR4 hA4 gK gb gc).mono fun e' w' x=>fin e rfl rfl (fun j hj=>Zo _ hnx _ _ j hj) x
  ·rw [ho] at c0;by_cases h0:(Q n).z (25+A)=0
   ·have e:Y7 (k.n n) (k.ci n) (Q n).z=.broke 1 (Y9 (Q n).z):=by simp [Y7,hz,ht,ho,hAt,zA,h0]
    exact (Y4V r.Kb r.Gc n k.nC r.cq r.bo r.oo (r.cb n) (r.co n) (k.n n) (r.cc n) nx R A _ Q w h.h0 h.h4 (h.hc n hn) c0 c1 c2 c3 h.row hnx hn hlt (h.n48 n hn) hR4 hA4 gK gb gc h0).mono fun e' w' x=>fin e rfl rfl (fun j hj=>Zl _ hnx j hj) x
   ·have e:Y7 (k.n n) (k.ci n) (Q n).z=.on 5 none (zset (Y9 (Q n).z) (25+R) (IntKind.i64.wrap ((Y9 (Q n).z (25+R)).tdiv (Y9 (Q n).z (25+A))))):=by simp [Y7,hz,ht,ho,hRt,hAt,zA,h0]
    rw [zR,zA,w64] at e;exact (Y6X r.Kb r.Gc n k.nC r.cq r.bo r.oo (r.cb n) (r.co n) (k.n n) (r.cc n) nx R A _ Q w h.h0 h.h4 (h.hc n hn) c0 c1 c2 c3 h.row hnx hn hlt (h.n48 n hn) hR4 hA4 gK gb gc h0).mono fun e' w' x=>fin e rfl rfl (fun j hj=>Zo _ hnx _ _ j hj) x
  ·rw [ho] at c0;by_cases h0:(Q n).z (25+A)<0
   ·have e:Y7 (k.n n) (k.ci n) (Q n).z=.broke 2 (Y9 (Q n).z):=by simp [Y7,hz,ht,ho,hAt,zA,h0]
    exact (Y9J r.Kb r.Gc n k.nC r.cq r.bo r.oo (r.cb n) (r.co n) (k.n n) (r.cc n) nx R A _ Q w h.h0 h.h4 (h.hc n hn) c0 c1 c2 c3 h.row hnx hn hlt (h.n48 n hn) hR4 hA4 gK gb gc h0).mono fun e' w' x=>fin e rfl rfl (fun j hj=>Zl _ hnx j hj) x
   ·by_cases h1:16≤(Q n).z (25+A)
    ·have e:Y7 (k.n n) (k.ci n) (Q n).z=.broke 2 (Y9 (Q n).z):=by simp [Y7,hz,ht,ho,hAt,zA,h1]
     exact (Y9S r.Kb r.Gc n k.nC r.cq r.bo r.oo (r.cb n) (r.co n) (k.n n) (r.cc n) nx R A _ Q w h.h0 h.h4 (h.hc n hn) c0 c1 c2 c3 h.row hnx hn hlt (h.n48 n hn) hR4 hA4 gK gb gc h1).mono fun e' w' x=>fin e rfl rfl (fun j hj=>Zl _ hnx j hj) x
    ·obtain ⟨j,hj⟩:∃j:Nat,(Q n).z (25+A)=j:=⟨((Q n).z (25+A)).toNat,by omega⟩;have hj16:j<16:=by omega
     have zM:=Y1h (Q n).z (i:=29+j) (by omega) (by omega);have e:Y7 (k.n n) (k.ci n) (Q n).z=.on 6 none (zset (Y9 (Q n).z) (25+R) (Y9 (Q n).z (29+((Q n).z (25+A)).toNat))):=by simp [Y7,hz,ht,ho,hRt,hAt,zA,h0,h1]
     rw [hj,Int.toNat_natCast,zM] at e;exact (Y50 r.Kb r.Gc n k.nC r.cq r.bo r.oo (r.cb n) (r.co n) (k.n n) (r.cc n) nx R A _ Q w h.h0 h.h4 (h.hc n hn) c0 c1 c2 c3 h.row hnx hn hlt (h.n48 n hn) hR4 hA4 gK gb gc j hj16 hj).mono fun e' w' x=>fin e rfl rfl (fun j hj=>Zo _ hnx _ _ j hj) x
  ·rw [ho] at c0;by_cases h0:(Q n).z (25+A)<0
   ·have e:Y7 (k.n n) (k.ci n) (Q n).z=.broke 2 (Y9 (Q n).z):=by simp [Y7,hz,ht,ho,hAt,zA,h0]
    exact (Y96 r.Kb r.Gc n k.nC r.cq r.bo r.oo (r.cb n) (r.co n) (k.n n) (r.cc n) nx R A _ Q w h.h0 h.h4 (h.hc n hn) c0 c1 c2 c3 h.row hnx hn hlt (h.n48 n hn) hR4 hA4 gK gb gc h0).mono fun e' w' x=>fin e rfl rfl (fun j hj=>Zl _ hnx j hj) x
   ·by_cases h1:16≤(Q n).z (25+A)
    ·have e:Y7 (k.n n) (k.ci n) (Q n).z=.broke 2 (Y9 (Q n).z):=by simp [Y7,hz,ht,ho,hAt,zA,h1]
     exact (Y5b r.Kb r.Gc n k.nC r.cq r.bo r.oo (r.cb n) (r.co n) (k.n n) (r.cc n) nx R A _ Q w h.h0 h.h4 (h.hc n hn) c0 c1 c2 c3 h.row hnx hn hlt (h.n48 n hn) hR4 hA4 gK gb gc h1).mono fun e' w' x=>fin e rfl rfl (fun j hj=>Zl _ hnx j hj) x
    ·obtain ⟨j,hj⟩:∃j:Nat,(Q n).z (25+A)=j:=⟨((Q n).z (25+A)).toNat,by omega⟩;have hj16:j<16:=by omega
     have e:Y7 (k.n n) (k.ci n) (Q n).z=.on 7 none (zset (Y9 (Q n).z) (29+((Q n).z (25+A)).toNat) (Y9 (Q n).z (25+R))):=by simp [Y7,hz,ht,ho,hRt,hAt,zA,h0,h1]
     rw [hj,Int.toNat_natCast,zR,show 29+j=25+(4+j) by omega] at e;exact (Ybv r.Kb r.Gc n k.nC r.cq r.bo r.oo (r.cb n) (r.co n) (k.n n) (r.cc n) nx R A _ Q w h.h0 h.h4 (h.hc n hn) c0 c1 c2 c3 h.row hnx hn hlt (h.n48 n hn) hR4 hA4 gK gb gc j hj16 hj).mono fun e' w' x=>fin e rfl rfl (fun j hj=>Zo _ hnx _ _ j hj) x
  ·rw [ho] at c0;have e:Y7 (k.n n) (k.ci n) (Q n).z=.on 8 none (zset (Y9 (Q n).z) 45 (k.ci n (nx*4+3))):=by simp [Y7,hz,ht,ho]
   exact (Y8p r.Kb r.Gc n k.nC r.cq r.bo r.oo (r.cb n) (r.co n) (k.n n) (r.cc n) nx R A _ Q w h.h0 h.h4 (h.hc n hn) c0 c1 c2 c3 h.row hnx hn hlt (h.n48 n hn) hR4 hA4 gK gb gc).mono fun e' w' x=>fin e rfl rfl (fun j hj=>Zo _ hnx _ _ j hj) x
  ·rw [ho] at c0;by_cases h0:(Q n).z (25+R)=0
   ·have e:Y7 (k.n n) (k.ci n) (Q n).z=.on 9 none (zset (Y9 (Q n).z) 45 (k.ci n (nx*4+3))):=by simp [Y7,hz,ht,ho,hRt,zR,h0]
    exact (Y5K r.Kb r.Gc n k.nC r.cq r.bo r.oo (r.cb n) (r.co n) (k.n n) (r.cc n) nx R A _ Q w h.h0 h.h4 (h.hc n hn) c0 c1 c2 c3 h.row hnx hn hlt (h.n48 n hn) hR4 hA4 gK gb gc h0).mono fun e' w' x=>fin e rfl rfl (fun j hj=>Zo _ hnx _ _ j hj) x
   ·have e:Y7 (k.n n) (k.ci n) (Q n).z=.on 9 none (Y9 (Q n).z):=by simp [Y7,hz,ht,ho,hRt,zR,h0]
    exact (Y60 r.Kb r.Gc n k.nC r.cq r.bo r.oo (r.cb n) (r.co n) (k.n n) (r.cc n) nx R A _ Q w h.h0 h.h4 (h.hc n hn) c0 c1 c2 c3 h.row hnx hn hlt (h.n48 n hn) hR4 hA4 gK gb gc h0).mono fun e' w' x=>fin e rfl rfl (fun j hj=>Zl _ hnx j hj) x
  ·rw [ho] at c0;have e:Y7 (k.n n) (k.ci n) (Q n).z=.on 15 (some (Y9 (Q n).z (25+R))) (Y9 (Q n).z):=by simp [Y7,hz,ht,ho,hRt]
   rw [zR] at e;rw [e];refine (YaC r.Kb r.Gc n k.nC r.cq r.bo r.oo (r.cb n) (r.co n) (k.n n) (r.cc n) nx R A _ Q w h.h0 h.h4 (h.hc n hn) c0 c1 c2 c3 h.row hnx hn hlt (h.n48 n hn) hR4 hA4 gK gb gc (m n) (xs n) (h.own n hn) (Zh h.row (by decide) (h.own n hn)) hm).mono ?_;rintro e' w' ⟨rfl,v',h1,h2,h3,h4⟩;refine ⟨rfl,v',⟨?_,h2,h3,h4⟩⟩;refine h1.congr fun j _=>?_;unfold refC;by_cases e:j / 26=n
   ·rw [e,Yh,Yh];exact Y0j (c:={Q n with v:=v'}) (fun j hj=>Zl _ hnx j hj) _
   ·rw [YG _ _ e,YG _ _ e]
end
end Go.Proofs.YtdoghgnifkgfdaaGreat.Mute
