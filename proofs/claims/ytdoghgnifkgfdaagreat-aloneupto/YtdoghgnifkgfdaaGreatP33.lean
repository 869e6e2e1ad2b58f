import Derived.Test.YtdoghgnifkgfdaaGreatP11
import Derived.Test.YtdoghgnifkgfdaaGreatP32
set_option maxRecDepth 100000
set_option maxHeartbeats 4000000
namespace Go.Proofs.YtdoghgnifkgfdaaGreat.Mute
open Go Go.Conc Go.RowKit
theorem Y26 (Q:Nat→RC) (n:Nat) (x:Int) {i:Nat} (hi:i<20):refV (updN Q n {Q n with z:=zset (Q n).z 45 x} n) i=.int .i64 ((Q n).z (25+i)):=by
 rw [Yh];unfold refV;rw [if_pos (by omega)];show Value.int .i64 (zset _ 45 x (25+i))=_;rw [YQ _ _ (by omega)]
theorem Ym {w W:World} {g:Nat} (h:But (fun j=>j=g) w W) (j:Nat) (v:Value):But (fun j=>j=g) w (W.setCell ⟨g,j,none⟩ v):=⟨h.os,h.tape,h.output,by rw [size_setCell];exact h.size,fun k hk hn=>(heap_setCell_other _ _ _ _ hn).trans (h.block k hk hn)⟩
theorem Y7c (x y:Int) (hy:y≠0) (w:World):Calls Tryz.prog 114 #[.int .i64 5,.int .i64 x,.int .i64 y] w fun e w'=>e=.returned (.tuple #[.int .i64 (wrap64 (x.tdiv y)),.bool true])∧w'=w:=by
 by_cases h1:y=-1
 ·subst h1;have e:x.tdiv (-1)=-x:=by simp
  rw [e];exact YaP x w
 ·exact Yb8 x y w (by simpa using hy) (by simpa using h1)
theorem Yas (Q:Nat→RC) (n:Nat) (x:Int):refV (updN Q n {Q n with z:=zset (Q n).z 45 x} n) 22=(Q n).v:=by
 rw [Yh];rfl
theorem Y01 {w:World} {v:Value} {m:Nat} {xs:List Value} (h:w.ownsRow 0 111 3 v m xs) {b:Nat} (hb:v.ownBlock=some b):b<w.heap.size:=by
 obtain ⟨cs,fz,h1⟩:=J5 h hb;exact (Array.getElem?_eq_some_iff.1 h1).1
structure Jc (w W w1:World) (Gc:Nat) (v:Value) (g cap m:Nat) (xs:List Value):Prop where
 b1:But (fun j=>j=Gc) w W
 os:w1.os=W.os
 tape:w1.tape=W.tape
 output:w1.output=W.output
 size:W.heap.size≤w1.heap.size
 block:∀b,b<W.heap.size→v.ownBlock≠some b→w1.heap[b]?=W.heap[b]?
 own:w1.ownsRow 0 111 3 (.slice (some ⟨g,0,none⟩) m cap) m xs
 at':v.ownBlock=some g∨W.heap.size≤g
 ne:v.ownBlock≠some Gc
 lt:Gc<W.heap.size
section
variable {w W w1:World} {Gc:Nat} {v:Value} {g cap m j:Nat} {xs:List Value} {x:Value}
theorem Jc.but (h:Jc w W w1 Gc v g cap m xs):But (fun j=>j=Gc∨v.ownBlock=some j) w (w1.setCell ⟨Gc,j,none⟩ x):=by
 refine ⟨h.os.trans h.b1.os,h.tape.trans h.b1.tape,h.output.trans h.b1.output,?_,fun k hk hn=>?_⟩
 ·rw [size_setCell];exact Nat.le_trans h.b1.size h.size
 ·rw [heap_setCell_other _ _ _ _ (fun e=>hn (.inl e)),h.block k (Nat.lt_of_lt_of_le hk h.b1.size) (fun e=>hn (.inr e))];exact h.b1.block k hk (fun e=>hn (.inl e))
theorem Jc.own1 (h:Jc w W w1 Gc v g cap m xs):(w1.setCell ⟨Gc,j,none⟩ x).ownsRow 0 111 3 (.slice (some ⟨g,0,none⟩) m cap) m xs:=
 Xd (L:=⟨0,0,111,fun _=>False,fun _=>False⟩) h.own fun b hb=>heap_setCell_other _ _ _ _ (fun e=>by
  have hg:g=b:=by simpa [Value.ownBlock] using hb
  subst hg;have e:g=Gc:=e;subst e;rcases h.at' with h1|h1
  ·exact h.ne h1
  ·have:=h.lt;omega)
theorem Jc.blk (h:Jc w W w1 Gc v g cap m xs) (b:Nat) (hb:(Value.slice (some ⟨g,0,none⟩) m cap).ownBlock=some b):v.ownBlock=some b∨w.heap.size≤b:=by
 have hg:g=b:=by simpa [Value.ownBlock] using hb
 subst hg;exact h.at'.imp id (Nat.le_trans h.b1.size)
end
theorem Y93 {w:World} {Gc m t n:Nat} {Q:Nat→RC} {o0 o1 o2 o3:Value} (hr:RowF w Gc m t (refC Q)) (x:Int):
  RowF (World.alloc (w.setCell ⟨Gc,n*26+20,none⟩ (.int .i64 x)) (.cells #[o0,o1,o2,o3] 97)).drew.drew Gc m t (refC (updN Q n {Q n with z:=zset (Q n).z 45 x}))∧
  RowF (World.alloc (w.setCell ⟨Gc,n*26+20,none⟩ (.int .i64 x)) (.cells #[o0,o1,o2,o3] 97)).drew.drew w.heap.size 4 97 (Yc o0 o1 o2 o3)∧
  But (fun j=>j=Gc) w (World.alloc (w.setCell ⟨Gc,n*26+20,none⟩ (.int .i64 x)) (.cells #[o0,o1,o2,o3] 97)).drew.drew:=by
 have h1:=RowF.rz (n:=n) (i:=20) hr (by omega) rfl x;refine ⟨h1.alloc _,?_,?_⟩
 ·have:=row4 (w.setCell ⟨Gc,n*26+20,none⟩ (.int .i64 x)) o0 o1 o2 o3 97;rw [size_setCell] at this;exact this
 ·refine ⟨rfl,rfl,rfl,by show _≤(World.alloc _ _).heap.size;simp,fun k hk hn=>?_⟩;show (World.alloc _ _).heap[k]?=_;rw [heap_alloc_old _ _ (by rw [size_setCell];exact hk),heap_setCell_other _ _ _ _ hn]
theorem Xg {op:Int} {R0 R1 R2 R4 R5 R6 R7 rest:Code} (Kb Gc n nC cq bo oo cb co nI cc nx r a:Nat) (N:Int) (Q:Nat→RC) (w:World) (h0:w.cell? ⟨Kb,0,none⟩=some (.slice (some ⟨bo,oo,none⟩) nC cq)) (h4:w.cell? ⟨Kb,4,none⟩=some (.slice (some ⟨Gc,0,none⟩) nC nC))
  (hc:w.cell? ⟨bo,oo+n*3,none⟩=some (.slice (some ⟨cb,co,none⟩) nI cc)) (c0:w.cell? ⟨cb,co+nx*4,none⟩=some (.int .i64 op)) (c1:w.cell? ⟨cb,co+nx*4+1,none⟩=some (.int .i64 r)) (c2:w.cell? ⟨cb,co+nx*4+2,none⟩=some (.int .i64 a)) (c3:w.cell? ⟨cb,co+nx*4+3,none⟩=some (.int .i64 N))
  (hr:RowF w Gc (nC*26) 131 (refC Q)) (h45:(Q n).z 45=nx) (hn:n<nC) (hx:nx<nI) (h48:nI≤48) (hr4:r<4) (ha4:a<4) (_g1:Kb≠Gc) (_g2:bo≠Gc) (_g3:cb≠Gc) {Rt:Ending→World→Prop} (hb:Tryz.f88.body=some (.seq R0 (.seq R1 (.seq R2 (.seq R4 (.seq R5 (.seq R6 (.seq R7 rest))))))))
  (h:∀(B:Nat) (W:World) (x y:Int),w.heap.size=B→W.cell? ⟨B,0,none⟩=some (.int .i64 op)→W.cell? ⟨B,1,none⟩=some (.int .i64 r)→W.cell? ⟨B,2,none⟩=some (.int .i64 a)→W.cell? ⟨B,3,none⟩=some (.int .i64 N)→W.cell? ⟨Gc,n*26+r,none⟩=some (.int .i64 x)→W.cell? ⟨Gc,n*26+a,none⟩=some (.int .i64 y)→W.frozen? ⟨Gc,n*26+r,none⟩=false→Hid (RowF W Gc (nC*26) 131 (refC (updN Q n {Q n with z:=zset (Q n).z 45 (nx+1)})))→Hid (But (fun j=>j=Gc) w W)→Gc<W.heap.size→B<W.heap.size→Hid ((Q n).z (25+r)=x)→Hid ((Q n).z (25+a)=y)→
   rest.wp Tryz.prog (bodyPost Tryz.prog Tryz.f88 Rt) {tmps:=#[.pointer (some ⟨Kb,0,none⟩),.int .i64 n,undef,undef,.int .i64 0,.pointer (some ⟨Gc,n*26,none⟩),.pointer (some ⟨B,0,none⟩),.int .i64 x,.int .i64 y,undef,undef,undef,undef,.pointer (some ⟨Kb,0,none⟩),.pointer (some ⟨Kb,0,none⟩),.pointer (some ⟨Kb,4,none⟩),.slice (some ⟨Gc,0,none⟩) nC nC,.int .i64 n,.pointer (some ⟨Gc,n*26,none⟩),.pointer (some ⟨Gc,n*26,none⟩),.pointer (some ⟨Gc,n*26,none⟩),.pointer (some ⟨Gc,n*26+20,none⟩),.int .i64 nx,.pointer (some ⟨Kb,0,none⟩),.pointer (some ⟨Kb,0,none⟩),.pointer (some ⟨Kb,0,none⟩),.pointer (some ⟨Kb,0,none⟩),.slice (some ⟨bo,oo,none⟩) nC cq,.int .i64 n,.pointer (some ⟨bo,oo+n*3,none⟩),.pointer (some ⟨bo,oo+n*3,none⟩),.slice (some ⟨cb,co,none⟩) nI cc,.int .i64 nI,.bool false,.pointer (some ⟨Kb,0,none⟩),.pointer (some ⟨Kb,0,none⟩),.pointer (some ⟨Kb,0,none⟩),.pointer (some ⟨Kb,0,none⟩),.slice (some ⟨bo,oo,none⟩) nC cq,.int .i64 n,.pointer (some ⟨bo,oo+n*3,none⟩),.pointer (some ⟨bo,oo+n*3,none⟩),.slice (some ⟨cb,co,none⟩) nI cc,.pointer (some ⟨Gc,n*26,none⟩),.pointer (some ⟨Gc,n*26,none⟩),.pointer (some ⟨Gc,n*26+20,none⟩),.int .i64 nx,.pointer (some ⟨cb,co+nx*4,none⟩),.agg #[.int .i64 op,.int .i64 r,.int .i64 a,.int .i64 N],.pointer (some ⟨Gc,n*26,none⟩),.pointer (some ⟨Gc,n*26,none⟩),.pointer (some ⟨Gc,n*26+20,none⟩),.int .i64 nx,.int .i64 ((nx:Int)+1),.pointer (some ⟨Gc,n*26,none⟩),.pointer (some ⟨Gc,n*26+20,none⟩),.pointer (some ⟨Gc,n*26,none⟩),.pointer (some ⟨B,1,none⟩),.int .i64 r,.pointer (some ⟨Gc,n*26,none⟩),.pointer (some ⟨Gc,n*26,none⟩),.pointer (some ⟨Gc,n*26+r,none⟩),.int .i64 x,.pointer (some ⟨Gc,n*26,none⟩),.pointer (some ⟨B,2,none⟩),.int .i64 a,.pointer (some ⟨Gc,n*26,none⟩),.pointer (some ⟨Gc,n*26,none⟩),.pointer (some ⟨Gc,n*26+a,none⟩),.int .i64 y,undef,undef,undef,undef,undef,undef,undef,undef,undef,undef,undef,undef,undef,undef,undef,undef,undef,undef,undef,undef,undef,undef,undef,undef,undef,undef,undef,undef,undef,undef,undef,undef,undef,undef,undef,undef,undef,undef,undef,undef,undef,undef,undef,undef,undef,undef,undef,undef,undef,undef,undef,undef,undef,undef,undef,undef,undef,undef,undef,undef,undef,undef,undef,undef,undef,undef,undef,undef,undef,undef,undef,undef,undef,undef,undef,undef,undef,undef,undef,undef,undef,undef,undef,undef,undef,undef,undef,undef,undef,undef,undef,undef,undef,undef,undef,undef,undef,undef,undef,undef,undef,undef,undef,undef,undef,undef,undef,undef,undef,undef,undef,undef,undef,undef,undef,undef,undef,undef,undef,undef,undef,undef,undef,undef,undef,undef,undef,undef,undef,undef,undef,undef,undef,undef,undef,undef,undef,undef,undef,undef,undef,undef,undef,undef,undef,undef,undef,undef,undef,undef,undef,undef,undef,undef,undef,undef],defers:=[]} W.drew.drew):
  Calls Tryz.prog 88 #[.pointer (some ⟨Kb,0,none⟩),.int .i64 n] w Rt:=by
 have HH:Hid (∀(B:Nat) (W:World) (x y:Int),_):=h;clear h;cases hb;have e20:w.cell? ⟨Gc,n*26+20,none⟩=some (.int .i64 nx):=by rw [RowF.rat hr (n:=n) (i:=20) (by omega) rfl (by omega)];show some (Value.int .i64 ((Q n).z 45))=_;rw [h45]
 have f20:=hr.frozen (n*26+20);have hG:=hr.lt;have HR:Hid (RowF w Gc (nC*26) 131 (refC Q)):=hr;clear hr;have i1:(nx:Int)<(nI:Int):=by omega
 have i2:¬((nI:Int)≤(nx:Int)):=by omega
 go_enter Tryz.func88,Tryz.ntmps88
 go_wp2_with fail
 go_region_held3 (fun W=>W.cell? ⟨Kb,0,none⟩=some (.slice (some ⟨bo,oo,none⟩) nC cq)∧W.cell? ⟨bo,oo+n*3,none⟩=some (.slice (some ⟨cb,co,none⟩) nI cc)∧W.cell? ⟨Gc,n*26+20,none⟩=some (.int .i64 nx)) (go_keep) (fail)
 go_wp2_with fail
 go_region_held3 (fun W=>W.cell? ⟨Kb,0,none⟩=some (.slice (some ⟨bo,oo,none⟩) nC cq)∧W.cell? ⟨bo,oo+n*3,none⟩=some (.slice (some ⟨cb,co,none⟩) nI cc)∧W.cell? ⟨Gc,n*26+20,none⟩=some (.int .i64 nx)∧W.cell? ⟨cb,co+nx*4,none⟩=some (.int .i64 op)∧W.cell? ⟨cb,co+nx*4+1,none⟩=some (.int .i64 r)∧W.cell? ⟨cb,co+nx*4+2,none⟩=some (.int .i64 a)∧W.cell? ⟨cb,co+nx*4+3,none⟩=some (.int .i64 N)) (go_keep) (fail)
 go_wp2_with fail
 have HW:=Y93 (w:=w) (n:=n) (o0:=.int .i64 op) (o1:=.int .i64 r) (o2:=.int .i64 a) (o3:=.int .i64 N) HR.out ((nx:Int)+1);clear h0 h4 hc c0 c1 c2 c3 e20 f20 i1 i2;generalize hB:w.heap.size=B at *;generalize (World.alloc (w.setCell ⟨Gc,n*26+20,none⟩ (.int .i64 ((nx:Int)+1))) (.cells #[.int .i64 op,.int .i64 r,.int .i64 a,.int .i64 N] 97)).drew.drew=W at *;obtain ⟨HRW,HBW,HBut⟩:=HW;have b0:=HBW.at4.1;have b1:=HBW.at4.2.1;have b2:=HBW.at4.2.2.1;have b3:=HBW.at4.2.2.2;have er:=RowF.rat HRW (n:=n) (i:=r) (by omega) rfl (by omega);have ea:=RowF.rat HRW (n:=n) (i:=a) (by omega) rfl (by omega);rw [Y26 _ _ _ (by omega)] at er ea;have fr:=HRW.frozen (n*26+r);have HRW':Hid (RowF W Gc (nC*26) 131 (refC (updN Q n {Q n with z:=zset (Q n).z 45 (nx+1)}))):=HRW;have HBut':Hid (But (fun j=>j=Gc) w W):=HBut;have hGW:=HRW.lt;have hBW:=HBW.lt;have i3:(r:Int)<4:=by omega
 have i4:(a:Int)<4:=by omega
 clear HRW HBW HBut;generalize hzr:(Q n).z (25+r)=x at *;generalize hza:(Q n).z (25+a)=y at *;have HZR:Hid ((Q n).z (25+r)=x):=hzr;have HZA:Hid ((Q n).z (25+a)=y):=hza;clear hzr hza;go_region_held3 (fun W=>W.cell? ⟨B,1,none⟩=some (.int .i64 r)∧W.cell? ⟨Gc,n*26+r,none⟩=some (.int .i64 x)) (go_keep) (fail)
 go_wp2_with fail
 go_region_held3 (fun W=>W.cell? ⟨B,2,none⟩=some (.int .i64 a)∧W.cell? ⟨Gc,n*26+a,none⟩=some (.int .i64 y)) (go_keep) (fail)
 simp only [Exit.then];refine ‹∀(a:Act) (w:World),Code.wp _ _ _ a w→_› _ _ (HH.out B W x y rfl b0 b1 b2 b3 er ea fr HRW' HBut' hGW hBW (rfl:x=x) (rfl:y=y))
theorem Y5j (Kb Gc n nC cq bo oo cb co nI cc nx r a:Nat) (N:Int) (Q:Nat→RC) (w:World) (h0:w.cell? ⟨Kb,0,none⟩=some (.slice (some ⟨bo,oo,none⟩) nC cq)) (h4:w.cell? ⟨Kb,4,none⟩=some (.slice (some ⟨Gc,0,none⟩) nC nC))
  (hc:w.cell? ⟨bo,oo+n*3,none⟩=some (.slice (some ⟨cb,co,none⟩) nI cc)) (c0:w.cell? ⟨cb,co+nx*4,none⟩=some (.int .i64 0)) (c1:w.cell? ⟨cb,co+nx*4+1,none⟩=some (.int .i64 r)) (c2:w.cell? ⟨cb,co+nx*4+2,none⟩=some (.int .i64 a)) (c3:w.cell? ⟨cb,co+nx*4+3,none⟩=some (.int .i64 N))
  (hr:RowF w Gc (nC*26) 131 (refC Q)) (h45:(Q n).z 45=nx) (hn:n<nC) (hx:nx<nI) (h48:nI≤48) (hr4:r<4) (ha4:a<4) (_g1:Kb≠Gc) (_g2:bo≠Gc) (_g3:cb≠Gc):
  Calls Tryz.prog 88 #[.pointer (some ⟨Kb,0,none⟩),.int .i64 n] w fun e w'=>e=.returned (.int .i64 (-1))∧RowF w' Gc (nC*26) 131 (refC (updN Q n {Q n with z:=(zset (Q n).z 45 (nx+1))}))∧But (fun j=>j=Gc) w w':=by
 have hG:=hr.lt;refine Xg Kb Gc n nC cq bo oo cb co nI cc nx r a N Q w h0 h4 hc c0 c1 c2 c3 hr h45 hn hx h48 hr4 ha4 _g1 _g2 _g3 rfl fun B W x y hB b0 b1 b2 b3 er ea fr HRW' HBut' hGW hBW HZR HZA=>?_;have i3:(r:Int)<4:=by omega
 have i4:(a:Int)<4:=by omega
 clear h0 h4 hc c0 c1 c2 c3 hr;obtain rfl:=HZR.out;obtain rfl:=HZA.out;clear HZR HZA;generalize hzr:(Q n).z (25+r)=x at *;generalize hza:(Q n).z (25+a)=y at *;have HZR:Hid ((Q n).z (25+r)=x):=hzr;have HZA:Hid ((Q n).z (25+a)=y):=hza;clear hzr hza;go_wp2_with fail
 go_ret;exact ⟨rfl,HRW'.out,(by first|exact HBut'.out|exact HBut'.out.drew|exact HBut'.out.drew.drew|exact HBut'.out.drew.drew.drew|exact HBut'.out.drew.drew.drew.drew)⟩
theorem Y56 (Kb Gc n nC cq bo oo cb co nI cc nx r a:Nat) (N:Int) (Q:Nat→RC) (w:World) (h0:w.cell? ⟨Kb,0,none⟩=some (.slice (some ⟨bo,oo,none⟩) nC cq)) (h4:w.cell? ⟨Kb,4,none⟩=some (.slice (some ⟨Gc,0,none⟩) nC nC))
  (hc:w.cell? ⟨bo,oo+n*3,none⟩=some (.slice (some ⟨cb,co,none⟩) nI cc)) (c0:w.cell? ⟨cb,co+nx*4,none⟩=some (.int .i64 1)) (c1:w.cell? ⟨cb,co+nx*4+1,none⟩=some (.int .i64 r)) (c2:w.cell? ⟨cb,co+nx*4+2,none⟩=some (.int .i64 a)) (c3:w.cell? ⟨cb,co+nx*4+3,none⟩=some (.int .i64 N))
  (hr:RowF w Gc (nC*26) 131 (refC Q)) (h45:(Q n).z 45=nx) (hn:n<nC) (hx:nx<nI) (h48:nI≤48) (hr4:r<4) (ha4:a<4) (_g1:Kb≠Gc) (_g2:bo≠Gc) (_g3:cb≠Gc):
  Calls Tryz.prog 88 #[.pointer (some ⟨Kb,0,none⟩),.int .i64 n] w fun e w'=>e=.returned (.int .i64 (0))∧RowF w' Gc (nC*26) 131 (refC (updN Q n {Q n with z:=zset (zset (Q n).z 45 (nx+1)) (25+r) N}))∧But (fun j=>j=Gc) w w':=by
 have hG:=hr.lt;refine Xg Kb Gc n nC cq bo oo cb co nI cc nx r a N Q w h0 h4 hc c0 c1 c2 c3 hr h45 hn hx h48 hr4 ha4 _g1 _g2 _g3 rfl fun B W x y hB b0 b1 b2 b3 er ea fr HRW' HBut' hGW hBW HZR HZA=>?_;have i3:(r:Int)<4:=by omega
 have i4:(a:Int)<4:=by omega
 clear h0 h4 hc c0 c1 c2 c3 hr;obtain rfl:=HZR.out;obtain rfl:=HZA.out;clear HZR HZA;generalize hzr:(Q n).z (25+r)=x at *;generalize hza:(Q n).z (25+a)=y at *;have HZR:Hid ((Q n).z (25+r)=x):=hzr;have HZA:Hid ((Q n).z (25+a)=y):=hza;clear hzr hza;go_wp2_with fail
 have k0':∀(V:World) (v:Value),(V.setCell ⟨Gc,n*26+r,none⟩ v).cell? ⟨B,1,none⟩=V.cell? ⟨B,1,none⟩:=fun V v=>World.cell?_setCell_other _ _ _ _ (fun e=>by have e1:=congrArg Addr.block e;simp only at e1;omega);have k1':∀(V:World) (v:Value),(V.setCell ⟨Gc,n*26+r,none⟩ v).cell? ⟨B,3,none⟩=V.cell? ⟨B,3,none⟩:=fun V v=>World.cell?_setCell_other _ _ _ _ (fun e=>by have e1:=congrArg Addr.block e;simp only at e1;omega);go_region_held3 (fun W=>W.cell? ⟨B,1,none⟩=some (.int .i64 r)∧W.cell? ⟨B,3,none⟩=some (.int .i64 N)) (go_keep) (fail)
 clear k0' k1';go_wp2_with fail
 go_ret;exact ⟨rfl,RowF.rzs (i:=r) HRW'.out (by omega) rfl _,(by first|exact Ym HBut'.out _ _|exact (Ym HBut'.out _ _).drew|exact (Ym HBut'.out _ _).drew.drew|exact (Ym HBut'.out _ _).drew.drew.drew|exact (Ym HBut'.out _ _).drew.drew.drew.drew)⟩
theorem Y6o (Kb Gc n nC cq bo oo cb co nI cc nx r a:Nat) (N:Int) (Q:Nat→RC) (w:World) (h0:w.cell? ⟨Kb,0,none⟩=some (.slice (some ⟨bo,oo,none⟩) nC cq)) (h4:w.cell? ⟨Kb,4,none⟩=some (.slice (some ⟨Gc,0,none⟩) nC nC))
  (hc:w.cell? ⟨bo,oo+n*3,none⟩=some (.slice (some ⟨cb,co,none⟩) nI cc)) (c0:w.cell? ⟨cb,co+nx*4,none⟩=some (.int .i64 2)) (c1:w.cell? ⟨cb,co+nx*4+1,none⟩=some (.int .i64 r)) (c2:w.cell? ⟨cb,co+nx*4+2,none⟩=some (.int .i64 a)) (c3:w.cell? ⟨cb,co+nx*4+3,none⟩=some (.int .i64 N))
  (hr:RowF w Gc (nC*26) 131 (refC Q)) (h45:(Q n).z 45=nx) (hn:n<nC) (hx:nx<nI) (h48:nI≤48) (hr4:r<4) (ha4:a<4) (_g1:Kb≠Gc) (_g2:bo≠Gc) (_g3:cb≠Gc):
  Calls Tryz.prog 88 #[.pointer (some ⟨Kb,0,none⟩),.int .i64 n] w fun e w'=>e=.returned (.int .i64 (0))∧RowF w' Gc (nC*26) 131 (refC (updN Q n {Q n with z:=zset (zset (Q n).z 45 (nx+1)) (25+r) (wrap64 ((Q n).z (25+r)+(Q n).z (25+a)))}))∧But (fun j=>j=Gc) w w':=by
 have hG:=hr.lt;refine Xg Kb Gc n nC cq bo oo cb co nI cc nx r a N Q w h0 h4 hc c0 c1 c2 c3 hr h45 hn hx h48 hr4 ha4 _g1 _g2 _g3 rfl fun B W x y hB b0 b1 b2 b3 er ea fr HRW' HBut' hGW hBW HZR HZA=>?_;have i3:(r:Int)<4:=by omega
 have i4:(a:Int)<4:=by omega
 clear h0 h4 hc c0 c1 c2 c3 hr;obtain rfl:=HZR.out;obtain rfl:=HZA.out;clear HZR HZA;generalize hzr:(Q n).z (25+r)=x at *;generalize hza:(Q n).z (25+a)=y at *;have HZR:Hid ((Q n).z (25+r)=x):=hzr;have HZA:Hid ((Q n).z (25+a)=y):=hza;clear hzr hza;go_wp2_with fail
 refine (YaI x y _).mono ?_;rintro e V ⟨rfl,rfl⟩;go_wp2_with fail
 have k0':∀(V:World) (v:Value),(V.setCell ⟨Gc,n*26+r,none⟩ v).cell? ⟨B,1,none⟩=V.cell? ⟨B,1,none⟩:=fun V v=>World.cell?_setCell_other _ _ _ _ (fun e=>by have e1:=congrArg Addr.block e;simp only at e1;omega);go_region_held3 (fun W=>W.cell? ⟨B,1,none⟩=some (.int .i64 r)) (go_keep) (fail)
 clear k0';go_wp2_with fail
 go_ret;try rw [HZR.out,HZA.out]
 exact ⟨rfl,RowF.rzs (i:=r) HRW'.out (by omega) rfl _,(by first|exact Ym HBut'.out _ _|exact (Ym HBut'.out _ _).drew|exact (Ym HBut'.out _ _).drew.drew|exact (Ym HBut'.out _ _).drew.drew.drew|exact (Ym HBut'.out _ _).drew.drew.drew.drew)⟩
theorem Y6q (Kb Gc n nC cq bo oo cb co nI cc nx r a:Nat) (N:Int) (Q:Nat→RC) (w:World) (h0:w.cell? ⟨Kb,0,none⟩=some (.slice (some ⟨bo,oo,none⟩) nC cq)) (h4:w.cell? ⟨Kb,4,none⟩=some (.slice (some ⟨Gc,0,none⟩) nC nC))
  (hc:w.cell? ⟨bo,oo+n*3,none⟩=some (.slice (some ⟨cb,co,none⟩) nI cc)) (c0:w.cell? ⟨cb,co+nx*4,none⟩=some (.int .i64 3)) (c1:w.cell? ⟨cb,co+nx*4+1,none⟩=some (.int .i64 r)) (c2:w.cell? ⟨cb,co+nx*4+2,none⟩=some (.int .i64 a)) (c3:w.cell? ⟨cb,co+nx*4+3,none⟩=some (.int .i64 N))
  (hr:RowF w Gc (nC*26) 131 (refC Q)) (h45:(Q n).z 45=nx) (hn:n<nC) (hx:nx<nI) (h48:nI≤48) (hr4:r<4) (ha4:a<4) (_g1:Kb≠Gc) (_g2:bo≠Gc) (_g3:cb≠Gc):
  Calls Tryz.prog 88 #[.pointer (some ⟨Kb,0,none⟩),.int .i64 n] w fun e w'=>e=.returned (.int .i64 (0))∧RowF w' Gc (nC*26) 131 (refC (updN Q n {Q n with z:=zset (zset (Q n).z 45 (nx+1)) (25+r) (wrap64 ((Q n).z (25+r)-(Q n).z (25+a)))}))∧But (fun j=>j=Gc) w w':=by
 have hG:=hr.lt;refine Xg Kb Gc n nC cq bo oo cb co nI cc nx r a N Q w h0 h4 hc c0 c1 c2 c3 hr h45 hn hx h48 hr4 ha4 _g1 _g2 _g3 rfl fun B W x y hB b0 b1 b2 b3 er ea fr HRW' HBut' hGW hBW HZR HZA=>?_;have i3:(r:Int)<4:=by omega
 have i4:(a:Int)<4:=by omega
 clear h0 h4 hc c0 c1 c2 c3 hr;obtain rfl:=HZR.out;obtain rfl:=HZA.out;clear HZR HZA;generalize hzr:(Q n).z (25+r)=x at *;generalize hza:(Q n).z (25+a)=y at *;have HZR:Hid ((Q n).z (25+r)=x):=hzr;have HZA:Hid ((Q n).z (25+a)=y):=hza;clear hzr hza;go_wp2_with fail
 refine (Yb5 x y _).mono ?_;rintro e V ⟨rfl,rfl⟩;go_wp2_with fail
 have k0':∀(V:World) (v:Value),(V.setCell ⟨Gc,n*26+r,none⟩ v).cell? ⟨B,1,none⟩=V.cell? ⟨B,1,none⟩:=fun V v=>World.cell?_setCell_other _ _ _ _ (fun e=>by have e1:=congrArg Addr.block e;simp only at e1;omega);go_region_held3 (fun W=>W.cell? ⟨B,1,none⟩=some (.int .i64 r)) (go_keep) (fail)
 clear k0';go_wp2_with fail
 go_ret;try rw [HZR.out,HZA.out]
 exact ⟨rfl,RowF.rzs (i:=r) HRW'.out (by omega) rfl _,(by first|exact Ym HBut'.out _ _|exact (Ym HBut'.out _ _).drew|exact (Ym HBut'.out _ _).drew.drew|exact (Ym HBut'.out _ _).drew.drew.drew|exact (Ym HBut'.out _ _).drew.drew.drew.drew)⟩
theorem Y88 (Kb Gc n nC cq bo oo cb co nI cc nx r a:Nat) (N:Int) (Q:Nat→RC) (w:World) (h0:w.cell? ⟨Kb,0,none⟩=some (.slice (some ⟨bo,oo,none⟩) nC cq)) (h4:w.cell? ⟨Kb,4,none⟩=some (.slice (some ⟨Gc,0,none⟩) nC nC))
  (hc:w.cell? ⟨bo,oo+n*3,none⟩=some (.slice (some ⟨cb,co,none⟩) nI cc)) (c0:w.cell? ⟨cb,co+nx*4,none⟩=some (.int .i64 4)) (c1:w.cell? ⟨cb,co+nx*4+1,none⟩=some (.int .i64 r)) (c2:w.cell? ⟨cb,co+nx*4+2,none⟩=some (.int .i64 a)) (c3:w.cell? ⟨cb,co+nx*4+3,none⟩=some (.int .i64 N))
  (hr:RowF w Gc (nC*26) 131 (refC Q)) (h45:(Q n).z 45=nx) (hn:n<nC) (hx:nx<nI) (h48:nI≤48) (hr4:r<4) (ha4:a<4) (_g1:Kb≠Gc) (_g2:bo≠Gc) (_g3:cb≠Gc):
  Calls Tryz.prog 88 #[.pointer (some ⟨Kb,0,none⟩),.int .i64 n] w fun e w'=>e=.returned (.int .i64 (0))∧RowF w' Gc (nC*26) 131 (refC (updN Q n {Q n with z:=zset (zset (Q n).z 45 (nx+1)) (25+r) (wrap64 ((Q n).z (25+r)*(Q n).z (25+a)))}))∧But (fun j=>j=Gc) w w':=by
 have hG:=hr.lt;refine Xg Kb Gc n nC cq bo oo cb co nI cc nx r a N Q w h0 h4 hc c0 c1 c2 c3 hr h45 hn hx h48 hr4 ha4 _g1 _g2 _g3 rfl fun B W x y hB b0 b1 b2 b3 er ea fr HRW' HBut' hGW hBW HZR HZA=>?_;have i3:(r:Int)<4:=by omega
 have i4:(a:Int)<4:=by omega
 clear h0 h4 hc c0 c1 c2 c3 hr;obtain rfl:=HZR.out;obtain rfl:=HZA.out;clear HZR HZA;generalize hzr:(Q n).z (25+r)=x at *;generalize hza:(Q n).z (25+a)=y at *;have HZR:Hid ((Q n).z (25+r)=x):=hzr;have HZA:Hid ((Q n).z (25+a)=y):=hza;clear hzr hza;go_wp2_with fail
 refine (Y9f x y _).mono ?_;rintro e V ⟨rfl,rfl⟩;go_wp2_with fail
 have k0':∀(V:World) (v:Value),(V.setCell ⟨Gc,n*26+r,none⟩ v).cell? ⟨B,1,none⟩=V.cell? ⟨B,1,none⟩:=fun V v=>World.cell?_setCell_other _ _ _ _ (fun e=>by have e1:=congrArg Addr.block e;simp only at e1;omega);go_region_held3 (fun W=>W.cell? ⟨B,1,none⟩=some (.int .i64 r)) (go_keep) (fail)
 clear k0';go_wp2_with fail
 go_ret;try rw [HZR.out,HZA.out]
 exact ⟨rfl,RowF.rzs (i:=r) HRW'.out (by omega) rfl _,(by first|exact Ym HBut'.out _ _|exact (Ym HBut'.out _ _).drew|exact (Ym HBut'.out _ _).drew.drew|exact (Ym HBut'.out _ _).drew.drew.drew|exact (Ym HBut'.out _ _).drew.drew.drew.drew)⟩
theorem Y4V (Kb Gc n nC cq bo oo cb co nI cc nx r a:Nat) (N:Int) (Q:Nat→RC) (w:World) (h0:w.cell? ⟨Kb,0,none⟩=some (.slice (some ⟨bo,oo,none⟩) nC cq)) (h4:w.cell? ⟨Kb,4,none⟩=some (.slice (some ⟨Gc,0,none⟩) nC nC))
  (hc:w.cell? ⟨bo,oo+n*3,none⟩=some (.slice (some ⟨cb,co,none⟩) nI cc)) (c0:w.cell? ⟨cb,co+nx*4,none⟩=some (.int .i64 5)) (c1:w.cell? ⟨cb,co+nx*4+1,none⟩=some (.int .i64 r)) (c2:w.cell? ⟨cb,co+nx*4+2,none⟩=some (.int .i64 a)) (c3:w.cell? ⟨cb,co+nx*4+3,none⟩=some (.int .i64 N))
  (hr:RowF w Gc (nC*26) 131 (refC Q)) (h45:(Q n).z 45=nx) (hn:n<nC) (hx:nx<nI) (h48:nI≤48) (hr4:r<4) (ha4:a<4) (_g1:Kb≠Gc) (_g2:bo≠Gc) (_g3:cb≠Gc) (hy0:(Q n).z (25+a)=0):
  Calls Tryz.prog 88 #[.pointer (some ⟨Kb,0,none⟩),.int .i64 n] w fun e w'=>e=.returned (.int .i64 (1))∧RowF w' Gc (nC*26) 131 (refC (updN Q n {Q n with z:=(zset (Q n).z 45 (nx+1))}))∧But (fun j=>j=Gc) w w':=by
 have hG:=hr.lt;refine Xg Kb Gc n nC cq bo oo cb co nI cc nx r a N Q w h0 h4 hc c0 c1 c2 c3 hr h45 hn hx h48 hr4 ha4 _g1 _g2 _g3 rfl fun B W x y hB b0 b1 b2 b3 er ea fr HRW' HBut' hGW hBW HZR HZA=>?_;have i3:(r:Int)<4:=by omega
 have i4:(a:Int)<4:=by omega
 clear h0 h4 hc c0 c1 c2 c3 hr;obtain rfl:=HZR.out;obtain rfl:=HZA.out;clear HZR HZA;generalize hzr:(Q n).z (25+r)=x at *;generalize hza:(Q n).z (25+a)=y at *;have HZR:Hid ((Q n).z (25+r)=x):=hzr;have HZA:Hid ((Q n).z (25+a)=y):=hza;clear hzr hza;have hy:y=0:=hy0;subst hy;go_wp2_with fail
 refine (Y8d x _).mono ?_;rintro e V ⟨rfl,rfl⟩;go_wp2_with fail
 go_ret;exact ⟨rfl,HRW'.out,(by first|exact HBut'.out|exact HBut'.out.drew|exact HBut'.out.drew.drew|exact HBut'.out.drew.drew.drew|exact HBut'.out.drew.drew.drew.drew)⟩
theorem Y6X (Kb Gc n nC cq bo oo cb co nI cc nx r a:Nat) (N:Int) (Q:Nat→RC) (w:World) (h0:w.cell? ⟨Kb,0,none⟩=some (.slice (some ⟨bo,oo,none⟩) nC cq)) (h4:w.cell? ⟨Kb,4,none⟩=some (.slice (some ⟨Gc,0,none⟩) nC nC))
  (hc:w.cell? ⟨bo,oo+n*3,none⟩=some (.slice (some ⟨cb,co,none⟩) nI cc)) (c0:w.cell? ⟨cb,co+nx*4,none⟩=some (.int .i64 5)) (c1:w.cell? ⟨cb,co+nx*4+1,none⟩=some (.int .i64 r)) (c2:w.cell? ⟨cb,co+nx*4+2,none⟩=some (.int .i64 a)) (c3:w.cell? ⟨cb,co+nx*4+3,none⟩=some (.int .i64 N))
  (hr:RowF w Gc (nC*26) 131 (refC Q)) (h45:(Q n).z 45=nx) (hn:n<nC) (hx:nx<nI) (h48:nI≤48) (hr4:r<4) (ha4:a<4) (_g1:Kb≠Gc) (_g2:bo≠Gc) (_g3:cb≠Gc) (hy0:(Q n).z (25+a)≠0):
  Calls Tryz.prog 88 #[.pointer (some ⟨Kb,0,none⟩),.int .i64 n] w fun e w'=>e=.returned (.int .i64 (0))∧RowF w' Gc (nC*26) 131 (refC (updN Q n {Q n with z:=zset (zset (Q n).z 45 (nx+1)) (25+r) (wrap64 (((Q n).z (25+r)).tdiv ((Q n).z (25+a))))}))∧But (fun j=>j=Gc) w w':=by
 have hG:=hr.lt;refine Xg Kb Gc n nC cq bo oo cb co nI cc nx r a N Q w h0 h4 hc c0 c1 c2 c3 hr h45 hn hx h48 hr4 ha4 _g1 _g2 _g3 rfl fun B W x y hB b0 b1 b2 b3 er ea fr HRW' HBut' hGW hBW HZR HZA=>?_;have i3:(r:Int)<4:=by omega
 have i4:(a:Int)<4:=by omega
 clear h0 h4 hc c0 c1 c2 c3 hr;obtain rfl:=HZR.out;obtain rfl:=HZA.out;clear HZR HZA;generalize hzr:(Q n).z (25+r)=x at *;generalize hza:(Q n).z (25+a)=y at *;have HZR:Hid ((Q n).z (25+r)=x):=hzr;have HZA:Hid ((Q n).z (25+a)=y):=hza;clear hzr hza;have hy:y≠0:=hy0;clear hy0;go_wp2_with fail
 refine (Y7c x y hy _).mono ?_;rintro e V ⟨rfl,rfl⟩;go_wp2_with fail
 have k0':∀(V:World) (v:Value),(V.setCell ⟨Gc,n*26+r,none⟩ v).cell? ⟨B,1,none⟩=V.cell? ⟨B,1,none⟩:=fun V v=>World.cell?_setCell_other _ _ _ _ (fun e=>by have e1:=congrArg Addr.block e;simp only at e1;omega);go_region_held3 (fun W=>W.cell? ⟨B,1,none⟩=some (.int .i64 r)) (go_keep) (fail)
 clear k0';go_wp2_with fail
 go_ret;try rw [HZR.out,HZA.out]
 exact ⟨rfl,RowF.rzs (i:=r) HRW'.out (by omega) rfl _,(by first|exact Ym HBut'.out _ _|exact (Ym HBut'.out _ _).drew|exact (Ym HBut'.out _ _).drew.drew|exact (Ym HBut'.out _ _).drew.drew.drew|exact (Ym HBut'.out _ _).drew.drew.drew.drew)⟩
theorem Y9J (Kb Gc n nC cq bo oo cb co nI cc nx r a:Nat) (N:Int) (Q:Nat→RC) (w:World) (h0:w.cell? ⟨Kb,0,none⟩=some (.slice (some ⟨bo,oo,none⟩) nC cq)) (h4:w.cell? ⟨Kb,4,none⟩=some (.slice (some ⟨Gc,0,none⟩) nC nC))
  (hc:w.cell? ⟨bo,oo+n*3,none⟩=some (.slice (some ⟨cb,co,none⟩) nI cc)) (c0:w.cell? ⟨cb,co+nx*4,none⟩=some (.int .i64 6)) (c1:w.cell? ⟨cb,co+nx*4+1,none⟩=some (.int .i64 r)) (c2:w.cell? ⟨cb,co+nx*4+2,none⟩=some (.int .i64 a)) (c3:w.cell? ⟨cb,co+nx*4+3,none⟩=some (.int .i64 N))
  (hr:RowF w Gc (nC*26) 131 (refC Q)) (h45:(Q n).z 45=nx) (hn:n<nC) (hx:nx<nI) (h48:nI≤48) (hr4:r<4) (ha4:a<4) (_g1:Kb≠Gc) (_g2:bo≠Gc) (_g3:cb≠Gc) (hy0:(Q n).z (25+a)<0):
  Calls Tryz.prog 88 #[.pointer (some ⟨Kb,0,none⟩),.int .i64 n] w fun e w'=>e=.returned (.int .i64 (2))∧RowF w' Gc (nC*26) 131 (refC (updN Q n {Q n with z:=(zset (Q n).z 45 (nx+1))}))∧But (fun j=>j=Gc) w w':=by
 have hG:=hr.lt;refine Xg Kb Gc n nC cq bo oo cb co nI cc nx r a N Q w h0 h4 hc c0 c1 c2 c3 hr h45 hn hx h48 hr4 ha4 _g1 _g2 _g3 rfl fun B W x y hB b0 b1 b2 b3 er ea fr HRW' HBut' hGW hBW HZR HZA=>?_;have i3:(r:Int)<4:=by omega
 have i4:(a:Int)<4:=by omega
 clear h0 h4 hc c0 c1 c2 c3 hr;obtain rfl:=HZR.out;obtain rfl:=HZA.out;clear HZR HZA;generalize hzr:(Q n).z (25+r)=x at *;generalize hza:(Q n).z (25+a)=y at *;have HZR:Hid ((Q n).z (25+r)=x):=hzr;have HZA:Hid ((Q n).z (25+a)=y):=hza;clear hzr hza;have hy:y<0:=hy0;clear hy0;go_wp2_with fail
 go_ret;exact ⟨rfl,HRW'.out,(by first|exact HBut'.out|exact HBut'.out.drew|exact HBut'.out.drew.drew|exact HBut'.out.drew.drew.drew|exact HBut'.out.drew.drew.drew.drew)⟩
theorem Y9S (Kb Gc n nC cq bo oo cb co nI cc nx r a:Nat) (N:Int) (Q:Nat→RC) (w:World) (h0:w.cell? ⟨Kb,0,none⟩=some (.slice (some ⟨bo,oo,none⟩) nC cq)) (h4:w.cell? ⟨Kb,4,none⟩=some (.slice (some ⟨Gc,0,none⟩) nC nC))
  (hc:w.cell? ⟨bo,oo+n*3,none⟩=some (.slice (some ⟨cb,co,none⟩) nI cc)) (c0:w.cell? ⟨cb,co+nx*4,none⟩=some (.int .i64 6)) (c1:w.cell? ⟨cb,co+nx*4+1,none⟩=some (.int .i64 r)) (c2:w.cell? ⟨cb,co+nx*4+2,none⟩=some (.int .i64 a)) (c3:w.cell? ⟨cb,co+nx*4+3,none⟩=some (.int .i64 N))
  (hr:RowF w Gc (nC*26) 131 (refC Q)) (h45:(Q n).z 45=nx) (hn:n<nC) (hx:nx<nI) (h48:nI≤48) (hr4:r<4) (ha4:a<4) (_g1:Kb≠Gc) (_g2:bo≠Gc) (_g3:cb≠Gc) (hy0:16≤(Q n).z (25+a)):
  Calls Tryz.prog 88 #[.pointer (some ⟨Kb,0,none⟩),.int .i64 n] w fun e w'=>e=.returned (.int .i64 (2))∧RowF w' Gc (nC*26) 131 (refC (updN Q n {Q n with z:=(zset (Q n).z 45 (nx+1))}))∧But (fun j=>j=Gc) w w':=by
 have hG:=hr.lt;refine Xg Kb Gc n nC cq bo oo cb co nI cc nx r a N Q w h0 h4 hc c0 c1 c2 c3 hr h45 hn hx h48 hr4 ha4 _g1 _g2 _g3 rfl fun B W x y hB b0 b1 b2 b3 er ea fr HRW' HBut' hGW hBW HZR HZA=>?_;have i3:(r:Int)<4:=by omega
 have i4:(a:Int)<4:=by omega
 clear h0 h4 hc c0 c1 c2 c3 hr;obtain rfl:=HZR.out;obtain rfl:=HZA.out;clear HZR HZA;generalize hzr:(Q n).z (25+r)=x at *;generalize hza:(Q n).z (25+a)=y at *;have HZR:Hid ((Q n).z (25+r)=x):=hzr;have HZA:Hid ((Q n).z (25+a)=y):=hza;clear hzr hza;have hy:16≤y:=hy0;clear hy0;go_wp2_with fail
 go_ret;exact ⟨rfl,HRW'.out,(by first|exact HBut'.out|exact HBut'.out.drew|exact HBut'.out.drew.drew|exact HBut'.out.drew.drew.drew|exact HBut'.out.drew.drew.drew.drew)⟩
end Go.Proofs.YtdoghgnifkgfdaaGreat.Mute
