import Derived.Test.YtdoghgnifkgfdaaGreatP28
import Derived.Test.YtdoghgnifkgfdaaGreatP33
import Derived.Test.YtdoghgnifkgfdaaGreatP35
set_option maxRecDepth 100000
set_option maxHeartbeats 16000000
namespace Go.Proofs.YtdoghgnifkgfdaaGreat.Mute
open Go Go.Conc Go.RowKit
noncomputable def YdV:Code:=match Tryz.f32.body with
 |some (.seq (.seq _ (.block _ (.loop c))) _)=>c
 |_=>.skip
noncomputable def Ye9:Code:=match Tryz.f32.body with
 |some (.seq _ c)=>c
 |_=>.skip
noncomputable def Ye0:Code:=match Tryz.f32.body with
 |some (.seq _ (.seq _ (.block _ (.loop c))))=>c
 |_=>.skip
section
variable {L:Lot} {w0:World} {K:NetK} {cq cs_:Nat}
theorem YfK (hev:((2:Nat)==L.ev)=false) (hW:NetW L w0 K) (hk0:0<K.k) (n1:w0.cell? ⟨K.nb,1,none⟩=some (.slice (some ⟨K.qb,0,none⟩) K.k cq)) {C:Nat→Chn} (hl:∀i,i<K.k→(C i).sent.length≤1000000000∧(C i).wait.length≤4) {Stop:Goroutine→World→Prop} (cs:List Frame)
  (Ret:∀(rn:List Row) (w':World) (u1 u2 u3 u10 u11 u12 u13 u14 u15 u16 u17 u18 u19 u20 u21 u22 u23 u24 u25 u26 u27 u28 u29 u30 u31 u32 u33 u34 u35:Value),NR K rn (Ycg K.k endQ C)→KnL L w0 rn [] w'→Y1 Tryz.prog true L.R1 L.D1 Stop (G ((base 32).at {tmps:=#[.pointer (some ⟨K.nb,0,none⟩),u1,u2,u3,.pointer (some ⟨K.nb,0,none⟩),.pointer (some ⟨K.nb,0,none⟩),.pointer (some ⟨K.nb,1,none⟩),.slice (some ⟨K.qb,0,none⟩) K.k cq,.int .i64 K.k,.int .i64 K.k,u10,u11,u12,u13,u14,u15,u16,u17,u18,u19,u20,u21,u22,u23,u24,u25,u26,u27,u28,u29,u30,u31,u32,u33,u34,u35],defers:=[]} [.code Ye9]) cs) w'):
  ∀(rem i:Nat) (rn:List Row) (w:World) (u1 u2 u3 u10 u11 u12 u13 u14 u15 u16 u17 u18 u19 u20 u21 u22 u23 u24 u25 u26 u27 u28 u29 u30 u31 u32 u33 u34 u35:Value),i+rem=K.k→NR K rn (Ycg i endQ C)→KnL L w0 rn [] w→
   Y1 Tryz.prog true L.R1 L.D1 Stop (G ((base 32).at {tmps:=#[.pointer (some ⟨K.nb,0,none⟩),u1,u2,u3,.pointer (some ⟨K.nb,0,none⟩),.pointer (some ⟨K.nb,0,none⟩),.pointer (some ⟨K.nb,1,none⟩),.slice (some ⟨K.qb,0,none⟩) K.k cq,.int .i64 K.k,.int .i64 i,u10,u11,u12,u13,u14,u15,u16,u17,u18,u19,u20,u21,u22,u23,u24,u25,u26,u27,u28,u29,u30,u31,u32,u33,u34,u35],defers:=[]} [.code YdV,.inLoop YdV,.inBlock 0,.code Ye9]) cs) w:=by
 have hk:(base 32).kind≠.early:=by simp [base]
 have hk8:=hW.hk;intro rem;induction rem with
 |zero=>
  intro i rn w u1 u2 u3 u10 u11 u12 u13 u14 u15 u16 u17 u18 u19 u20 u21 u22 u23 u24 u25 u26 u27 u28 u29 u30 u31 u32 u33 u34 u35 hi hN hF;obtain rfl:i=K.k:=by omega
  repeat refine .c1 L.terms1 rfl ?_
  refine .regionL L.terms1 [0] (by rfl) ?_;refine .opV L.terms1 rfl (by rfl) hk ?_;try walk_nrm
  repeat refine .c1 L.terms1 rfl ?_
  refine Y1.condF L.terms1 (by first|rfl|simp [Act.eval]) ?_;refine Y1.exit L.terms1 (by rfl) ?_;exact Ret rn _ _ _ _ _ _ _ _ _ _ _ _ _ _ _ _ _ _ _ _ _ _ _ _ _ _ _ _ _ _ hN hF
 |succ rem ih=>
  intro i rn w u1 u2 u3 u10 u11 u12 u13 u14 u15 u16 u17 u18 u19 u20 u21 u22 u23 u24 u25 u26 u27 u28 u29 u30 u31 u32 u33 u34 u35 hi hN hF;have hlt:i<K.k:=by omega
  have hli:(i:Int)<(K.k:Int):=by omega
  have hwr:IntKind.i64.wrap ((i:Int)+1)=((i+1:Nat):Int):=by rw [IntKind.wrap_i64];omega
  repeat refine .c1 L.terms1 rfl ?_
  refine .regionL L.terms1 [0] (by rfl) ?_;refine .opV L.terms1 rfl (by rfl) hk ?_;try walk_nrm
  repeat refine .c1 L.terms1 rfl ?_
  refine Y1.condT L.terms1 (by first|rfl|simp [Act.eval,hli]) ?_;repeat refine .c1 L.terms1 rfl ?_
  refine .regionL L.terms1 [0,1] (by rfl) ?_;iterate 2 (refine .opV L.terms1 rfl (by rfl) hk ?_;try walk_nrm)
  repeat refine .c1 L.terms1 rfl ?_
  refine .regionL L.terms1 [0,1,2,3,4,5,6] (by rfl) ?_;iterate 3 (refine .opV L.terms1 rfl (by rfl) hk ?_;try walk_nrm)
  refine .op rfl (by rfl) hk fun w1 hR K_ hK=>?_;replace hF:=hF.rely hR;clear hR;have hn1:World.cell? _ ⟨K.nb,1,none⟩=some (.slice (some ⟨K.qb,0,none⟩) K.k cq):=(hF.stillCell hW.sn).trans n1;go_simp;try (unfold stored;go_simp)
  refine hK _ _ ⟨?_,?_⟩
  ·refine hF.stillLooks hW.sn ?_;co_evs (exact ⟨_,rfl⟩)
  clear hK K_;clear hn1;try walk_nrm
  refine .opV L.terms1 rfl (by rfl) hk ?_;try walk_nrm
  refine .op rfl (by rfl) hk fun w1 hR K_ hK=>?_;replace hF:=hF.rely hR;clear hR;go_simp;try (unfold stored;go_simp)
  refine hK _ _ ⟨?_,?_⟩
  ·co_still L.terms1
  clear hK K_;try walk_nrm
  refine Y1.callX L.terms1 rfl (by rfl) hk rfl Tryz.func58 (by rfl) rfl #[.pointer (some ⟨K.qb,i*3,none⟩)] (by kernel_rfl) (YfO hev hlt hW.hqm hN (by rw [YcY];exact (hl i hlt).1) (by rw [YcY];exact (hl i hlt).2) _ hF.drop) ?_ (fun _ _ _ h=>h.elim);rintro v w2 ⟨rfl,rn2,hN2,hF2⟩;rw [YcY,←YdZ] at hN2;replace hF:=hF2.lay;clear hF2;try walk_nrm
  repeat refine .c1 L.terms1 rfl ?_
  refine .regionL L.terms1 [0,1] (by rfl) ?_;iterate 2 (refine .opV L.terms1 rfl (by rfl) hk ?_;try walk_nrm)
  repeat refine .c1 L.terms1 rfl ?_
  refine Y1.inLoop L.terms1 ?_;exact ih (i+1) rn2 _ _ _ _ _ _ _ _ _ _ _ _ _ _ _ _ _ _ _ _ _ _ _ _ _ _ _ _ _ _ (by omega) hN2 hF
theorem YeI (hW:NetW L w0 K) (hk0:0<K.k) (n2:w0.cell? ⟨K.nb,2,none⟩=some (.slice (some ⟨K.sb,0,none⟩) K.k cs_)) {C:Nat→Chn} {Stop:Goroutine→World→Prop} (cs:List Frame)
  (Ret:∀(a:Act) (todo:List Item) (w':World) (v:Value),a.defers=[]→ZK Tryz.prog L.R1 L.D1 32 Tryz.f32 a.tmps w' v→(v=.tuple #[]∧∃rn',NR K rn' (Ycg K.k endS C)∧Kn L w0 rn' w')→Y1 Tryz.prog true L.R1 L.D1 Stop (G {(base 32).at a todo with mode:=.returning} cs) w'):
  ∀(rem i:Nat) (rn:List Row) (w:World) (u1 u2 u3 u4 u5 u6 u7 u8 u9 u10 u11 u12 u13 u14 u15 u16 u17 u18 u19 u26 u27 u28 u29 u30 u31 u32 u33 u34 u35:Value),i+rem=K.k→NR K rn (Ycg i endS C)→KnL L w0 rn [] w→
   Y1 Tryz.prog true L.R1 L.D1 Stop (G ((base 32).at {tmps:=#[.pointer (some ⟨K.nb,0,none⟩),u1,u2,u3,u4,u5,u6,u7,u8,u9,u10,u11,u12,u13,u14,u15,u16,u17,u18,u19,.pointer (some ⟨K.nb,0,none⟩),.pointer (some ⟨K.nb,0,none⟩),.pointer (some ⟨K.nb,2,none⟩),.slice (some ⟨K.sb,0,none⟩) K.k cs_,.int .i64 K.k,.int .i64 i,u26,u27,u28,u29,u30,u31,u32,u33,u34,u35],defers:=[]} [.code Ye0,.inLoop Ye0,.inBlock 2]) cs) w:=by
 have hk:(base 32).kind≠.early:=by simp [base]
 have hk8:=hW.hk;intro rem;induction rem with
 |zero=>
  intro i rn w u1 u2 u3 u4 u5 u6 u7 u8 u9 u10 u11 u12 u13 u14 u15 u16 u17 u18 u19 u26 u27 u28 u29 u30 u31 u32 u33 u34 u35 hi hN hF;obtain rfl:i=K.k:=by omega
  repeat refine .c1 L.terms1 rfl ?_
  refine .regionL L.terms1 [0] (by rfl) ?_;refine .opV L.terms1 rfl (by rfl) hk ?_;try walk_nrm
  repeat refine .c1 L.terms1 rfl ?_
  refine Y1.condF L.terms1 (by first|rfl|simp [Act.eval]) ?_;refine Y1.exit L.terms1 (by rfl) ?_;repeat refine .c1 L.terms1 rfl ?_
  refine Y1.fin L.terms1 ?_;exact Ret _ [] _ _ rfl (Y0L L.terms1 (by rfl) _) ⟨rfl,rn,hN,hF.drop⟩
 |succ rem ih=>
  intro i rn w u1 u2 u3 u4 u5 u6 u7 u8 u9 u10 u11 u12 u13 u14 u15 u16 u17 u18 u19 u26 u27 u28 u29 u30 u31 u32 u33 u34 u35 hi hN hF;have hlt:i<K.k:=by omega
  have hli:(i:Int)<(K.k:Int):=by omega
  have hwr:IntKind.i64.wrap ((i:Int)+1)=((i+1:Nat):Int):=by rw [IntKind.wrap_i64];omega
  repeat refine .c1 L.terms1 rfl ?_
  refine .regionL L.terms1 [0] (by rfl) ?_;refine .opV L.terms1 rfl (by rfl) hk ?_;try walk_nrm
  repeat refine .c1 L.terms1 rfl ?_
  refine Y1.condT L.terms1 (by first|rfl|simp [Act.eval,hli]) ?_;repeat refine .c1 L.terms1 rfl ?_
  refine .regionL L.terms1 [0,1] (by rfl) ?_;iterate 2 (refine .opV L.terms1 rfl (by rfl) hk ?_;try walk_nrm)
  repeat refine .c1 L.terms1 rfl ?_
  refine .regionL L.terms1 [0,1,2,3,4,5,6] (by rfl) ?_;iterate 3 (refine .opV L.terms1 rfl (by rfl) hk ?_;try walk_nrm)
  refine .op rfl (by rfl) hk fun w1 hR K_ hK=>?_;replace hF:=hF.rely hR;clear hR;have hn2:World.cell? _ ⟨K.nb,2,none⟩=some (.slice (some ⟨K.sb,0,none⟩) K.k cs_):=(hF.stillCell hW.sn).trans n2;go_simp;try (unfold stored;go_simp)
  refine hK _ _ ⟨?_,?_⟩
  ·refine hF.stillLooks hW.sn ?_;co_evs (exact ⟨_,rfl⟩)
  clear hK K_;clear hn2;try walk_nrm
  refine .opV L.terms1 rfl (by rfl) hk ?_;try walk_nrm
  refine .op rfl (by rfl) hk fun w1 hR K_ hK=>?_;replace hF:=hF.rely hR;clear hR;go_simp;try (unfold stored;go_simp)
  refine hK _ _ ⟨?_,?_⟩
  ·co_still L.terms1
  clear hK K_;try walk_nrm
  refine Y1.callX L.terms1 rfl (by rfl) hk rfl Tryz.func59 (by rfl) rfl #[.pointer (some ⟨K.sb,i*4,none⟩)] (by kernel_rfl) (YfA hlt hW.hsm hN _ hF.drop) ?_ (fun _ _ _ h=>h.elim);rintro v w2 ⟨rfl,rn2,hN2,hF2⟩;rw [YcY,←YdZ] at hN2;replace hF:=hF2.lay;clear hF2;try walk_nrm
  repeat refine .c1 L.terms1 rfl ?_
  refine .regionL L.terms1 [0,1] (by rfl) ?_;iterate 2 (refine .opV L.terms1 rfl (by rfl) hk ?_;try walk_nrm)
  repeat refine .c1 L.terms1 rfl ?_
  refine Y1.inLoop L.terms1 ?_;exact ih (i+1) rn2 _ _ _ _ _ _ _ _ _ _ _ _ _ _ _ _ _ _ _ _ _ _ _ _ _ _ _ _ _ _ (by omega) hN2 hF
theorem YfR (hev:((2:Nat)==L.ev)=false) (hW:NetW L w0 K) (hk0:0<K.k) {rn:List Row} {C:Nat→Chn} (hl:∀i,i<K.k→(C i).sent.length≤1000000000∧(C i).wait.length≤4) (hN:NR K rn C) (w:World) (hF:Kn L w0 rn w):
  Yl Tryz.prog true L.R1 L.D1 32 #[.pointer (some ⟨K.nb,0,none⟩)] w (fun v w'=>v=.tuple #[]∧∃rn',NR K rn' (endC K.k C)∧Kn L w0 rn' w') (fun _ _=>False):=by
 obtain ⟨cq,n1⟩:=hW.n1 hk0;obtain ⟨cs_,n2⟩:=hW.n2 hk0;replace hF:=hF.lay;have hk:(base 32).kind≠.early:=by simp [base]
 refine Yl.intro L.terms1 #[.pointer (some ⟨K.nb,0,none⟩),undef,undef,undef,undef,undef,undef,undef,undef,undef,undef,undef,undef,undef,undef,undef,undef,undef,undef,undef,undef,undef,undef,undef,undef,undef,undef,undef,undef,undef,undef,undef,undef,undef,undef,undef] Tryz.func32 rfl (by kernel_rfl) fun cl cs Stop Ret _=>?_;repeat refine .c1 L.terms1 rfl ?_
 refine .regionL L.terms1 [0,1,2,3,4,5] (by rfl) ?_;iterate 3 (refine .opV L.terms1 rfl (by rfl) hk ?_;try walk_nrm)
 refine .op rfl (by rfl) hk fun w1 hR K_ hK=>?_;replace hF:=hF.rely hR;clear hR;have hn1:World.cell? _ ⟨K.nb,1,none⟩=some (.slice (some ⟨K.qb,0,none⟩) K.k cq):=(hF.stillCell hW.sn).trans n1;go_simp;try (unfold stored;go_simp)
 refine hK _ _ ⟨?_,?_⟩
 ·refine hF.stillLooks hW.sn ?_;co_evs (exact ⟨_,rfl⟩)
 clear hK K_;clear hn1;try walk_nrm
 iterate 2 (refine .opV L.terms1 rfl (by rfl) hk ?_;try walk_nrm)
 repeat refine .c1 L.terms1 rfl ?_
 refine Y1.loop L.terms1 ?_;refine YfK hev hW hk0 n1 hl _ (fun rn w' u1 u2 u3 u10 u11 u12 u13 u14 u15 u16 u17 u18 u19 u20 u21 u22 u23 u24 u25 u26 u27 u28 u29 u30 u31 u32 u33 u34 u35 hN hF=>?_) K.k 0 rn _ _ _ _ _ _ _ _ _ _ _ _ _ _ _ _ _ _ _ _ _ _ _ _ _ _ _ _ _ _ (by omega) (by rw [Yed];exact hN) hF;try walk_nrm
 repeat refine .c1 L.terms1 rfl ?_
 refine .regionL L.terms1 [0,1,2,3,4,5] (by rfl) ?_;iterate 3 (refine .opV L.terms1 rfl (by rfl) hk ?_;try walk_nrm)
 refine .op rfl (by rfl) hk fun w1 hR K_ hK=>?_;replace hF:=hF.rely hR;clear hR;have hn2:World.cell? _ ⟨K.nb,2,none⟩=some (.slice (some ⟨K.sb,0,none⟩) K.k cs_):=(hF.stillCell hW.sn).trans n2;go_simp;try (unfold stored;go_simp)
 refine hK _ _ ⟨?_,?_⟩
 ·refine hF.stillLooks hW.sn ?_;co_evs (exact ⟨_,rfl⟩)
 clear hK K_;clear hn2;try walk_nrm
 iterate 2 (refine .opV L.terms1 rfl (by rfl) hk ?_;try walk_nrm)
 repeat refine .c1 L.terms1 rfl ?_
 refine Y1.loop L.terms1 ?_;exact YeI hW hk0 n2 _ Ret K.k 0 rn _ _ _ _ _ _ _ _ _ _ _ _ _ _ _ _ _ _ _ _ _ _ _ _ _ _ _ _ _ _ (by omega) (by rw [Yed];exact hN) hF
end
section
variable {L:Lot} {w0:World} {rows:List Row} {ic g cb co n cc:Nat} {num:Int} {net:Value} {z ci:Nat→Int}
theorem Ygy {FS:World→Prop} (hev:((97:Nat)==L.ev)=false) (hi:rows[ic]?=some (Y5 g num net (YB cb co n cc) z)) (hs:Still L w0 cb) (hcode:∀j,j<n*4→w0.cell? ⟨cb,co+j,none⟩=some (.int .i64 (ci j))) (hn:n≤48) (hok:∀k:Nat,z 45=(k:Int)→k<n→((0≤ci (k*4)∧ci (k*4)≤9)∨ci (k*4)=15)∧(0≤ci (k*4+1)∧ci (k*4+1)<4)∧(0≤ci (k*4+2)∧ci (k*4+2)<4)∧(ci (k*4)=8∨ci (k*4)=9→0≤ci (k*4+3)∧ci (k*4+3)<n)) (h45:0≤z 45∧z 45≤n) (inV:Value) (w:World) (hF:Kn L w0 rows w):
  XQ Tryz.prog L FS 113 #[.pointer (some ⟨g,0,none⟩),inV,.chan (some L.c)] w (Y7 n ci z).sent
   (fun v w'=>∃op e z',Y7 n ci z=.on op e z'∧v=.int .i64 op∧Kn L w0 (rows.set ic (Y5 g num net (YB cb co n cc) z')) w')
   (fun ch w'=>∃y z',Y7 n ci z=.broke y z'∧ch=brk y∧Kn L w0 (rows.set ic (Y5 g num net (YB cb co n cc) z')) w'):=by
 by_cases hz:z 45=n
 ·have e:Y7 n ci z=.broke 3 (zset z 46 (IntKind.i64.wrap (z 46+1))):=by unfold Y7;rw [if_pos hz]
  exact (Y5g hev hi hz inV _ w hF).quiet.mono (by rw [e];rfl) (fun _ _ h=>h.elim) fun ch w' h=>⟨3,_,e,h.1,h.2⟩
 ·obtain ⟨nx,hnx⟩:∃nx:Nat,z 45=nx:=⟨(z 45).toNat,by omega⟩;have hlt:nx<n:=by omega
  have ht:(z 45).toNat=nx:=by omega
  obtain ⟨ho,⟨r0,r4⟩,⟨a0,a4⟩,hj⟩:=hok nx hnx hlt;obtain ⟨R,hR⟩:∃R:Nat,ci (nx*4+1)=R:=⟨(ci (nx*4+1)).toNat,by omega⟩;obtain ⟨A,hA⟩:∃A:Nat,ci (nx*4+2)=A:=⟨(ci (nx*4+2)).toNat,by omega⟩;have hRt:(ci (nx*4+1)).toNat=R:=by omega
  have hAt:(ci (nx*4+2)).toNat=A:=by omega
  have hR4:R<4:=by omega
  have hA4:A<4:=by omega
  have hf:Y9 z=zset (zset z 46 (IntKind.i64.wrap (z 46+1))) 45 ((nx:Int)+1):=by unfold Y9;rw [ht]
  have hops:ci (nx*4)=0∨ci (nx*4)=1∨ci (nx*4)=2∨ci (nx*4)=3∨ci (nx*4)=4∨ci (nx*4)=5∨ci (nx*4)=6∨ci (nx*4)=7∨ci (nx*4)=8∨ci (nx*4)=9∨ci (nx*4)=15:=by omega
  rcases hops with h|h|h|h|h|h|h|h|h|h|h
  ·have e:Y7 n ci z=.on 0 none (Y9 z):=by simp [Y7,hz,ht,h]
   exact (Yap hev hi hs hcode nx hnx hlt hn R A hR4 hA4 h hR hA _ rfl inV _ w hF).quiet.mono (by rw [e];rfl) (fun v w' x=>⟨0,none,_,e,x.1,by rw [hf];exact x.2⟩) (fun _ _ x=>x.elim)
  ·have e:Y7 n ci z=.on 1 none (zset (Y9 z) (25+R) (ci (nx*4+3))):=by simp [Y7,hz,ht,h,hRt]
   exact (Y7M hev hi hs hcode nx hnx hlt hn R A hR4 hA4 h hR hA _ rfl inV _ w hF).quiet.mono (by rw [e];rfl) (fun v w' x=>⟨1,none,_,e,x.1,by rw [hf];exact x.2⟩) (fun _ _ x=>x.elim)
  ·have e:Y7 n ci z=.on 2 none (zset (Y9 z) (25+R) (IntKind.i64.wrap (Y9 z (25+R)+Y9 z (25+A)))):=by simp [Y7,hz,ht,h,hRt,hAt]
   exact (Y4Q hev hi hs hcode nx hnx hlt hn R A hR4 hA4 h hR hA _ rfl inV _ w hF).quiet.mono (by rw [e];rfl) (fun v w' x=>⟨2,none,_,e,x.1,by rw [hf];exact x.2⟩) (fun _ _ x=>x.elim)
  ·have e:Y7 n ci z=.on 3 none (zset (Y9 z) (25+R) (IntKind.i64.wrap (Y9 z (25+R)-Y9 z (25+A)))):=by simp [Y7,hz,ht,h,hRt,hAt]
   exact (Yav hev hi hs hcode nx hnx hlt hn R A hR4 hA4 h hR hA _ rfl inV _ w hF).quiet.mono (by rw [e];rfl) (fun v w' x=>⟨3,none,_,e,x.1,by rw [hf];exact x.2⟩) (fun _ _ x=>x.elim)
  ·have e:Y7 n ci z=.on 4 none (zset (Y9 z) (25+R) (IntKind.i64.wrap (Y9 z (25+R)*Y9 z (25+A)))):=by simp [Y7,hz,ht,h,hRt,hAt]
   exact (YaB hev hi hs hcode nx hnx hlt hn R A hR4 hA4 h hR hA _ rfl inV _ w hF).quiet.mono (by rw [e];rfl) (fun v w' x=>⟨4,none,_,e,x.1,by rw [hf];exact x.2⟩) (fun _ _ x=>x.elim)
  ·by_cases h0:Y9 z (25+A)=0
   ·have e:Y7 n ci z=.broke 1 (Y9 z):=by simp [Y7,hz,ht,h,hAt,h0]
    exact (Y81 hev hi hs hcode nx hnx hlt hn R A hR4 hA4 h hR hA _ rfl (by rw [←hf];exact h0) inV _ w hF).quiet.mono (by rw [e];rfl) (fun _ _ x=>x.elim) (fun ch w' x=>⟨1,_,e,x.1,by rw [hf];exact x.2⟩)
   ·have e:Y7 n ci z=.on 5 none (zset (Y9 z) (25+R) (IntKind.i64.wrap ((Y9 z (25+R)).tdiv (Y9 z (25+A))))):=by simp [Y7,hz,ht,h,hRt,hAt,h0]
    exact (Y8K hev hi hs hcode nx hnx hlt hn R A hR4 hA4 h hR hA _ rfl (by rw [←hf];exact h0) inV _ w hF).quiet.mono (by rw [e];rfl) (fun v w' x=>⟨5,none,_,e,x.1,by rw [hf];exact x.2⟩) (fun _ _ x=>x.elim)
  ·by_cases h0:Y9 z (25+A)<0∨16≤Y9 z (25+A)
   ·have e:Y7 n ci z=.broke 2 (Y9 z):=by simp [Y7,hz,ht,h,hAt,h0]
    exact (Ybr hev hi hs hcode nx hnx hlt hn R A hR4 hA4 h hR hA _ rfl (by rw [←hf];exact h0) inV _ w hF).quiet.mono (by rw [e];rfl) (fun _ _ x=>x.elim) (fun ch w' x=>⟨2,_,e,x.1,by rw [hf];exact x.2⟩)
   ·have e:Y7 n ci z=.on 6 none (zset (Y9 z) (25+R) (Y9 z (29+(Y9 z (25+A)).toNat))):=by simp [Y7,hz,ht,h,hRt,hAt,h0]
    exact (Y67 hev hi hs hcode nx hnx hlt hn R A hR4 hA4 h hR hA _ rfl (Y9 z (25+A)).toNat (by omega) (by rw [←hf];omega) inV _ w hF).quiet.mono (by rw [e];rfl) (fun v w' x=>⟨6,none,_,e,x.1,by rw [←hf] at x;exact x.2⟩) (fun _ _ x=>x.elim)
  ·by_cases h0:Y9 z (25+A)<0∨16≤Y9 z (25+A)
   ·have e:Y7 n ci z=.broke 2 (Y9 z):=by simp [Y7,hz,ht,h,hAt,h0]
    exact (Y54 hev hi hs hcode nx hnx hlt hn R A hR4 hA4 h hR hA _ rfl (by rw [←hf];exact h0) inV _ w hF).quiet.mono (by rw [e];rfl) (fun _ _ x=>x.elim) (fun ch w' x=>⟨2,_,e,x.1,by rw [hf];exact x.2⟩)
   ·have e:Y7 n ci z=.on 7 none (zset (Y9 z) (29+(Y9 z (25+A)).toNat) (Y9 z (25+R))):=by simp [Y7,hz,ht,h,hRt,hAt,h0]
    exact (Y4M hev hi hs hcode nx hnx hlt hn R A hR4 hA4 h hR hA _ rfl (Y9 z (25+A)).toNat (by omega) (by rw [←hf];omega) inV _ w hF).quiet.mono (by rw [e];rfl) (fun v w' x=>⟨7,none,_,e,x.1,by rw [←hf] at x;exact x.2⟩) (fun _ _ x=>x.elim)
  ·have e:Y7 n ci z=.on 8 none (zset (Y9 z) 45 (ci (nx*4+3))):=by simp [Y7,hz,ht,h]
   exact (Yb6 hev hi hs hcode nx hnx hlt hn R A hR4 hA4 h hR hA _ rfl inV _ w hF).quiet.mono (by rw [e];rfl) (fun v w' x=>⟨8,none,_,e,x.1,by rw [hf];exact x.2⟩) (fun _ _ x=>x.elim)
  ·by_cases h0:Y9 z (25+R)=0
   ·have e:Y7 n ci z=.on 9 none (zset (Y9 z) 45 (ci (nx*4+3))):=by simp [Y7,hz,ht,h,hRt,h0]
    exact (Y5l hev hi hs hcode nx hnx hlt hn R A hR4 hA4 h hR hA _ rfl (by rw [←hf];exact h0) inV _ w hF).quiet.mono (by rw [e];rfl) (fun v w' x=>⟨9,none,_,e,x.1,by rw [hf];exact x.2⟩) (fun _ _ x=>x.elim)
   ·have e:Y7 n ci z=.on 9 none (Y9 z):=by simp [Y7,hz,ht,h,hRt,h0]
    exact (Y8m hev hi hs hcode nx hnx hlt hn R A hR4 hA4 h hR hA _ rfl (by rw [←hf];exact h0) inV _ w hF).quiet.mono (by rw [e];rfl) (fun v w' x=>⟨9,none,_,e,x.1,by rw [hf];exact x.2⟩) (fun _ _ x=>x.elim)
  ·have e:Y7 n ci z=.on 15 (some (Y9 z (25+R))) (Y9 z):=by simp [Y7,hz,ht,h,hRt]
   exact (Y6n hev hi hs hcode nx hnx hlt hn R A hR4 hA4 h hR hA _ rfl inV w hF).mono (by rw [e,hf];rfl) (fun v w' x=>⟨15,_,_,e,x.1,by rw [hf];exact x.2⟩) (fun _ _ x=>x.elim)
end
theorem Yl.to {P:Program} {main:Bool} {R:World→World→Prop} {D:World→World→Array Event→Prop} {f:FuncId} {args:Array Value} {w:World} {Post Post':Value→World→Prop} {Die:List PanicEntry→World→Prop} (h:Yl P main R D f args w Post Die) (hp:∀v w',Post v w'→Post' v w'):Yl P main R D f args w Post' Die:=
 fun cl cs Stop h1 h2=>h cl cs Stop (fun v w' x=>h1 v w' (hp v w' x)) h2
section
variable {L:Lot} {w0 w':World} {rn ls rows':List Row} {a rq:Row} {v':Value} {xs:List Int} {P p':Option Nat}
theorem Ygx (hP:∀y,P=some y→y<rn.length) (hn:1≤rn.length) (hK:Kn L w0 rows' w') (h1:rows'[1]?=some rq) (hl:Lst rows' v' xs p') (hlen:((a::rn)++ls).length≤rows'.length) (hk:∀k,k≠1→P.map (·+1)≠some k→k<((a::rn)++ls).length→rows'[k]?=((a::rn)++ls)[k]?) (hp':p'=P.map (·+1)∨p'=some ((a::rn)++ls).length):
  ∃rn' q,Kn L w0 ((a::rn')++ls) w'∧rn'[0]?=some rq∧Lst rn' v' xs q∧(q=P∨q=some rn.length)∧(∀k,k≠0→P≠some k→k<rn.length→rn'[k]?=rn[k]?):=by
 have hlen':rn.length+1+ls.length≤rows'.length:=by simpa [Nat.add_comm,Nat.add_left_comm,Nat.add_assoc] using hlen
 have e0:rows'[0]?=some a:=by
  rw [hk 0 (by omega) (by cases P<;>simp) (by simp)];rfl
 obtain ⟨mid,hmid⟩:∃mid,mid=(rows'.drop 1).take rn.length:=⟨_,rfl⟩;have ml:mid.length=rn.length:=by rw [hmid];simp;omega
 have mg:∀k,k<rn.length→mid[k]?=rows'[k+1]?:=fun k hkl=>by rw [hmid,List.getElem?_take,if_pos hkl,List.getElem?_drop,Nat.add_comm]
 have lg:∀m,m<ls.length→rows'[rn.length+1+m]?=ls[m]?:=fun m hm=>by
  rw [hk _ (by omega) (fun e=>?_) (by simp;omega),List.getElem?_append_right (by simp only [List.length_cons];omega)]
  ·congr 1;rw [List.length_cons];omega
  ·cases hPx:P with
   |none=>rw [hPx] at e;cases e
   |some y=>rw [hPx] at e;have:=hP y hPx;have e:y+1=_:=Option.some.inj e;omega
 have kp:∀k,k≠0→P≠some k→k<rn.length→mid[k]?=rn[k]?:=fun k h0 hne hkl=>by
  rw [mg k hkl,hk (k+1) (by omega) (fun e=>?_) (by simp;omega)]
  ·rw [show (a::rn)++ls=a::(rn++ls) from rfl,List.getElem?_cons_succ,List.getElem?_append_left hkl]
  ·cases hPx:P with
   |none=>rw [hPx] at e;cases e
   |some y=>rw [hPx] at e;have e:y+1=_:=Option.some.inj e;exact hne (by rw [hPx];congr 1;omega)
 rcases hp' with hp'|hp'
 ·refine ⟨mid,P,hK.sub id (fun i r hi=>?_) (fun _ _ _ _ e=>e),by rw [mg 0 (by omega)];exact h1,?_,.inl rfl,kp⟩
  ·show rows'[i]?=some r;rw [←hi];cases i with
   |zero=>rw [e0];rfl
   |succ i=>
    rw [show (a::mid)++ls=a::(mid++ls) from rfl,List.getElem?_cons_succ,List.getElem?_append];by_cases hlt:i<mid.length
    ·rw [if_pos hlt,mg i (by omega)]
    ·rw [if_neg hlt,ml];have:i-rn.length<ls.length:=by
      have:=(List.getElem?_eq_some_iff.1 hi).1;simp at this;omega
     rw [←lg _ this];congr 1;omega
  ·refine hl.move (fun e=>?_) (fun x hx=>?_)
   ·rw [hp'] at e;cases hPx:P with
    |none=>rfl
    |some y=>rw [hPx] at e;cases e
   ·rw [hp'] at hx;cases hPx:P with
    |none=>rw [hPx] at hx;cases hx
    |some y=>
     rw [hPx] at hx;have:y+1=x:=Option.some.inj hx;exact ⟨y,rfl,by rw [mg y (hP y hPx),this]⟩
 ·obtain ⟨r,hr⟩:∃r,rows'[rn.length+1+ls.length]?=some r:=by
   rcases hl with ⟨h0,_⟩|⟨k,r,h0,hr,_⟩
   ·rw [h0] at hp';cases hp'
   ·refine ⟨r,?_⟩;rw [h0] at hp';have:=Option.some.inj hp';rw [←hr,this];congr 1;simp;omega
  refine ⟨mid++[r],some rn.length,hK.sub (fun i=>if i<rn.length+1 then i else if i=rn.length+1 then rn.length+1+ls.length else i-1) (fun i r' hi=>?_) (fun i j hi hj e=>?_),?_,?_,.inr rfl,fun k h0 hne hkl=>?_⟩
  ·show rows'[(if i<rn.length+1 then i else if i=rn.length+1 then rn.length+1+ls.length else i-1)]?=some r';rw [←hi];cases i with
   |zero=>rw [if_pos (by omega),e0];rfl
   |succ i=>
    rw [show (a::(mid++[r]))++ls=a::(mid++[r]++ls) from rfl,List.getElem?_cons_succ,List.getElem?_append,List.getElem?_append];simp only [List.length_append,List.length_singleton,ml];by_cases h2:i<rn.length
    ·rw [if_pos (by omega),if_pos (by omega),if_pos h2,mg i h2]
    ·by_cases h3:i=rn.length
     ·subst h3;rw [if_neg (by omega),if_pos rfl,if_pos (by omega),if_neg (by omega),hr];simp
     ·rw [if_neg (by omega),if_neg (by omega),if_neg (by omega)];have:i-(rn.length+1)<ls.length:=by
       have:=(List.getElem?_eq_some_iff.1 hi).1;simp [ml] at this;omega
      rw [←lg _ this];congr 1;omega
  ·simp [ml] at hi hj;revert e;show (if i<rn.length+1 then i else if i=rn.length+1 then rn.length+1+ls.length else i-1)=(if j<rn.length+1 then j else if j=rn.length+1 then rn.length+1+ls.length else j-1)→i=j;split<;>split<;>(try split)<;>(try split)<;>omega
  ·rw [List.getElem?_append_left (by omega),mg 0 (by omega)];exact h1
  ·refine hl.move (fun e=>by rw [hp'] at e;cases e) (fun x hx=>?_);rw [hp'] at hx;have:=Option.some.inj hx;refine ⟨rn.length,rfl,?_⟩;rw [←this,List.getElem?_append_right (by omega),ml,Nat.sub_self];rw [show ((a::rn)++ls).length=rn.length+1+ls.length by simp;omega,hr];rfl
  ·rw [List.getElem?_append_left (by omega)];exact kp k h0 hne hkl
end
section
variable {L:Lot} {w0:World} {rn ls:List Row} {K:NetK} {C:Nat→Chn} {g:Nat} {num:Int} {code inV:Value} {z:Nat→Int} {ins:List (Int×Int)}
abbrev ZQ (K:NetK) (g:Nat) (num:Int) (code:Value) (z:Nat→Int):Row:=Y5 g num (.pointer (some ⟨K.nb,0,none⟩)) code z
structure Evs (L:Lot):Prop where
 ins:((97:Nat)==L.ev)=false
 inn:((59:Nat)==L.ev)=false
 i64:((2:Nat)==L.ev)=false
 ends:((151:Nat)==L.ev)=false
theorem ex_q (he:Evs L) (hW:NetW L w0 K) (hin:InR L w0 inV ins) (hln:ins.length≤1000) (hN:NR K rn C) (op:Int) (hop:op=10∨op=11∨op=12∨op=13∨op=14∨op=16) (N:Int) (hNk:op≠14→0≤N∧N<K.k) (hsm:∀i,i<K.k→(C i).sent.length≤1000000000∧(C i).wait.length≤1000000000) (R A:Nat) (hR4:R<4) (hA4:A<4) (w:World) (hF:KnL L w0 (ZQ K g num code z::rn) ls w):
  Yl Tryz.prog false L.R1 L.D1 129 #[.pointer (some ⟨g,0,none⟩),.agg #[.int .i64 op,.int .i64 R,.int .i64 A,.int .i64 N],inV] w (fun v w'=>v=.tuple #[]∧∃rn',NR K rn' (exF ins op R A N z C).2∧KnL L w0 (ZQ K g num code (exF ins op R A N z C).1::rn') ls w') (fun _ _=>False):=by
 have hc0:((ZQ K g num code z::rn)++ls)[0]?=some (Y5 g num (.pointer (some ⟨K.nb,0,none⟩)) code z):=rfl;by_cases h14:op=14
 ·subst h14;refine (Yf0 (ic:=0) (dev:=N) he.ins he.inn he.i64 hc0 hin hln R A hR4 hA4 w hF).to fun v w' ⟨h1,h2⟩=>⟨h1,rn,?_,h2⟩;exact hN
 ·obtain ⟨hN0,hNl⟩:=hNk h14;obtain ⟨i,rfl⟩:∃i:Nat,N=i:=⟨N.toNat,by omega⟩;have hik:i<K.k:=by omega
  obtain ⟨fq,fs,p,hx⟩:=hN (by omega);obtain ⟨cq,n1⟩:=hW.n1 (by omega);obtain ⟨cs_,n2⟩:=hW.n2 (by omega);have hqm:=hW.hqm;have hsm':=hW.hsm;have hc:=hx.ch i hik;have l0:=(List.getElem?_eq_some_iff.1 hx.q).1;have l1:=(List.getElem?_eq_some_iff.1 hx.s).1;have q1:((ZQ K g num code z::rn)++ls)[1]?=some (rowQ K fq):=by
   rw [show (ZQ K g num code z::rn)++ls=ZQ K g num code z::(rn++ls) from rfl,List.getElem?_cons_succ,List.getElem?_append_left l0];exact hx.q
  have s1:((ZQ K g num code z::rn)++ls)[2]?=some (YbP K fs):=by
   rw [show (ZQ K g num code z::rn)++ls=ZQ K g num code z::(rn++ls) from rfl,List.getElem?_cons_succ,List.getElem?_append_left l1];exact hx.s
  have setR:∀{j:Nat} {r:Row} {a:Row},j<rn.length→((a::rn)++ls).set (j+1) r=(a::rn.set j r)++ls:=fun hj=>by
   rw [List.set_append_left _ _ (by simp;omega)];rfl
  have tn:((i:Nat):Int).toNat=i:=by omega
  rcases hop with rfl|rfl|rfl|rfl|rfl|rfl
  ·refine (YgF (ic:=0) (iq:=1) he.ins he.i64 hc0 q1 hW.sn n1 i hik hqm rfl (hc.sent.shift _ ls) (fun e=>?_) (hsm i hik).1 R A hR4 hA4 inV w hF).to fun v w' ⟨h1,rows',v',p',h2,h3,h4,h5,h6,h7⟩=>⟨h1,?_⟩
   ·cases hpx:p (2*i+1) with
    |none=>rw [hpx] at e;cases e
    |some y=>rw [hpx] at e;have:=hx.two _ _ hpx;have e:y+1=_:=Option.some.inj e;omega
   ·obtain ⟨rn',q,g1,g2,g3,g4,g5⟩:=Ygx (fun y hy=>(hx.lt hik).2 hy) (by omega) h2 h3 h4 h5 h6 h7;have:=hx.send hik g2 g3 g4 g5;simp only [exF,tn,if_pos];exact ⟨rn',fun _=>⟨_,_,_,this⟩,g1⟩
  ·refine (YfJ (ic:=0) (is:=2) he.ins hc0 s1 hW.sn n2 i hik hsm' R A hR4 hA4 inV w hF).to fun v w' ⟨h1,h2⟩=>⟨h1,?_⟩;rw [setR l1] at h2;have:=hx.setWrit hik (z (25+R)) true;simp only [exF,tn];exact ⟨_,fun _=>⟨_,_,_,this⟩,h2⟩
  ·cases hwt:(C i).wait with
   |nil=>
    have hw0:∃a cc,fq (i*3)=.slice a 0 cc:=by
     rcases hc.wait with ⟨_,h,_⟩|⟨k,r,_,_,_,h,_⟩
     ·exact ⟨_,_,h⟩
     ·rw [hwt] at h;exact ⟨_,_,h⟩
    obtain ⟨a,cc,hw0⟩:=hw0;refine (Yf7 (ic:=0) (iq:=1) he.ins hc0 q1 (by omega) hW.sn n1 i hik hqm hw0 R A hR4 hA4 inV w hF).to fun v w' ⟨h1,h2⟩=>⟨h1,rn,?_,?_⟩
    ·simp only [exF,tn,hwt];exact fun _=>⟨_,_,_,hx⟩
    ·simp only [exF,tn,hwt];exact h2
   |cons x l=>
    obtain ⟨k,rk,e1,e2,e3,e4,e5,e6,e7⟩:∃k r,p (2*i)=some k∧rn[k]?=some r∧r.t=2∧fq (i*3)=.slice (some ⟨r.g,0,none⟩) (l.length+1:Nat) r.m∧l.length+1≤r.m∧r.m≤maxLen∧∀j,j<l.length+1→r.f j=.int .i64 ((x::l).getD j 0):=by
     rcases hc.wait with ⟨_,_,h⟩|⟨k,r,h1,h2,h3,h4,h5,h6,h7⟩
     ·rw [hwt] at h;cases h
     ·rw [hwt] at h4 h5 h7;exact ⟨k,r,h1,h2,h3,h4,h5,h6,h7⟩
    have kl:=(List.getElem?_eq_some_iff.1 e2).1;have k2:=hx.two _ _ e1;have hk1:((ZQ K g num code z::rn)++ls)[k+1]?=some rk:=by
     rw [show (ZQ K g num code z::rn)++ls=ZQ K g num code z::(rn++ls) from rfl,List.getElem?_cons_succ,List.getElem?_append_left kl];exact e2
    have hl9:l.length≤1000000000:=by have:=(hsm i hik).2;rw [hwt] at this;simp at this;omega
    refine (Yfq (ic:=0) (iq:=1) he.ins hc0 q1 (by omega) hW.sn n1 i hik hqm hk1 (by omega) (by omega) e3 l.length (fun j=>(x::l).getD j 0) e7 e5 e6 hl9 e4 R A hR4 hA4 inV w hF).to fun v w' ⟨h1,h2⟩=>⟨h1,?_⟩;rw [setR kl,show (1:Nat)=0+1 from rfl] at h2;have l0':0<(rn.set k {rk with f:=fun j=>if j<l.length then rk.f (j+1) else if j=l.length then .int .i64 0 else rk.f j}).length:=by simpa using l0
    rw [List.set_append_left _ _ (by simp;exact l0)] at h2;have:=hx.take hik hwt e1 e2 e4;simp only [exF,tn,hwt];exact ⟨_,fun _=>⟨_,_,_,this⟩,h2⟩
  ·refine (YfY (ic:=0) (is:=2) he.ins hc0 s1 (by omega) hW.sn n2 i hik hsm' _ _ hc.shown hc.age R A hR4 hA4 inV w hF).to fun v w' ⟨h1,h2⟩=>⟨h1,rn,?_,?_⟩
   ·simp only [exF,tn];exact fun _=>⟨_,_,_,hx⟩
   ·simp only [exF,tn];exact h2
  ·exact absurd rfl h14
  ·refine (YgG (ic:=0) (iq:=1) he.ins hc0 q1 (by omega) hW.sn n1 i hik hqm _ hc.lost R A hR4 hA4 inV w hF).to fun v w' ⟨h1,h2⟩=>⟨h1,?_⟩;rw [show (1:Nat)=0+1 from rfl,setR l0] at h2;have:=hx.setLost hik 0;simp only [exF,tn];exact ⟨_,fun _=>⟨_,_,_,this⟩,h2⟩
end
end Go.Proofs.YtdoghgnifkgfdaaGreat.Mute
