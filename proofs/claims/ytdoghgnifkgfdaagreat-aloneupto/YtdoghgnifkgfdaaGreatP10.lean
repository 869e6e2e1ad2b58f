import Derived.Deep.RegionWith
import Derived.Test.YtdoghgnifkgfdaaGreatP02
import Derived.Test.YtdoghgnifkgfdaaGreatP09
set_option maxRecDepth 100000
set_option maxHeartbeats 4000000
namespace Go.Proofs.YtdoghgnifkgfdaaGreat
open Go.RowKit
theorem Y1a (c:Cfg) (v0 v1 v2 v3:Value) (w:World) (h:CfgR w v0 v1 v2 v3 c):
  Calls Tryz.prog 38 #[.agg #[v0,v1,v2,v3]] w (Chk c w):=by
 obtain ⟨p0,cap0,F0,p1,cap1,F1,p2,cap2,p3,cap3,rfl,rfl,rfl,rfl,s0,k0,s1,k1,s2,s3,b0,b1,b2,b3⟩:=h.parts;clear h;have hb2:c.nCh≤8796093022208:=by omega
 have hb3:c.nD≤17592186044416:=by omega
 have S0:Hid (Sl w p0 (c.nC*3) F0):=s0;have K0:Hid (∀i,i<c.nC→SlZ w (F0 (i*3)) (c.codeN i) (c.nCode i) 4 (c.code i) 32∧SlZ w (F0 (i*3+1)) (c.imgN i) (c.nImg i) 1 (c.img i) 8∧F0 (i*3+2)=.int .i64 (c.lim i)):=k0;have S1:Hid (Sl w p1 c.nT F1):=s1;have K1:Hid (∀i,i<c.nT→SlZ w (F1 i) (c.rowN i) (c.nRow i) 2 (c.row i) 16):=k1;have S2:Hid (Sl w p2 (c.nCh*3) (fun j=>.int .i64 (c.ch j))):=s2;have S3:Hid (Sl w p3 c.nD (fun j=>.int .i64 (c.dv j))):=s3;have B2:Hid (24*c.nCh≤140737488355328):=b2;have B3:Hid (8*c.nD≤140737488355328):=b3;clear s0 k0 s1 k1 s2 s3 b2 b3;have HA:Hid (∀o,Below w.heap.size w (w.alloc o)):=fun o=>(Below.refl _ _).alloc (Nat.le_refl _) _;by_cases n1:NCok c
 case neg=>
  have q:c.nC=0∨6<c.nC:=by unfold NCok at n1;omega
  have C1:Hid (Y8 c 1 0):=Y8.c1 n1;clear n1;rcases q with q|q
  ·have q':((c.nC:Int)==0)=true:=by simpa using q
   clear q
   go_enter Tryz.func38,Tryz.ntmps38
   go_wp2_with fail
   go_ret2
   exact Chk.mk C1.out (HA.out _)
  ·have q':((c.nC:Int)==0)=false:=by simp;omega
   go_enter Tryz.func38,Tryz.ntmps38
   go_wp2_with fail
   go_ret2
   exact Chk.mk C1.out (HA.out _)
 have q1:((c.nC:Int)==0)=false:=by have:=n1.1;simp;omega
 have q1':c.nC≤6:=n1.2;have N1:Hid (NCok c):=n1;clear n1;by_cases n2:NTok c
 case neg=>
  have q:c.nT=0∨8<c.nT:=by unfold NTok at n2;omega
  have C2:Hid (Y8 c 2 0):=Y8.c2 N1.out n2;clear n2;rcases q with q|q
  ·have q':((c.nT:Int)==0)=true:=by simpa using q
   clear q
   go_enter Tryz.func38,Tryz.ntmps38
   go_wp2_with fail
   go_ret2
   exact Chk.mk C2.out (HA.out _)
  ·have q':((c.nT:Int)==0)=false:=by simp;omega
   go_enter Tryz.func38,Tryz.ntmps38
   go_wp2_with fail
   go_ret2
   exact Chk.mk C2.out (HA.out _)
 have q2:((c.nT:Int)==0)=false:=by have:=n2.1;simp;omega
 have q2':c.nT≤8:=n2.2;have N2:Hid (NTok c):=n2;clear n2
 go_enter Tryz.func38,Tryz.ntmps38
 go_wp2_with fail
 go_loop [5] (fun i=>∃k:Nat,k≤c.nT∧i=.int .i64 k∧Hid (Yb (YU c) k)) (fun i=>c.nT-(intOf i).toNat)
 case atStart=>exact ⟨0,Nat.zero_le _,rfl,Yb.zero _⟩
 case round=>
  obtain ⟨k,hk,rfl,HI⟩:=hrel;by_cases hlt:k<c.nT
  ·obtain ⟨b,off,rfl,hc⟩:=S1.out.at (by omega);have c0:=hc k hlt;have hbl:b<w.heap.size:=block_lt_of_cell c0;obtain ⟨pr,capr,hF,-,-,-,hbr,hsr⟩:=K1.out k hlt;rw [hF] at c0;clear hc hF;have HSR:Hid (Sl w pr (c.nRow k*2) (fun j=>.int .i64 (c.row k j))):=hsr;have HBR:Hid (16*c.nRow k≤140737488355328):=hbr;have hle:c.nRow k≤8796093022208:=by omega
   clear hsr hbr;go_wp2_with (go_at_call 68;refine (Yae pr (c.nRow k) capr c.nC (c.row k) _ (by exact HSR.out.below (HA.out _)) HBR.out).mono ?_;rintro e w' ⟨b,rfl,hiff,rfl⟩)
   case roundEnd=>
    have hb:b=true:=by simpa using ‹(!b)=false›
    exact ⟨⟨k+1,by omega,by go_num,HI.out.step (hiff.1 hb)⟩,by simp [intOf];omega⟩
   have hb:¬b=true:=by simpa using ‹(!b)=true›
   go_ret2
   exact Chk.mk (Y8.c3 N1.out N2.out ⟨hlt,fun h=>hb (hiff.2 h),HI.out⟩) (HA.out _)
  ·obtain rfl:k=c.nT:=by omega
   have N3:Hid (Yb (YU c) c.nT):=HI;clear HI S1 K1 hlt hk;by_cases n4:c.nCh≤8
   case neg=>
    have C4:Hid (Y8 c 3 0):=Y8.c4 N1.out N2.out N3.out n4;go_wp2_with fail
    go_ret2
    exact Chk.mk C4.out (HA.out _)
   have HA1:Hid (∀o,Below (w.heap.size+1) (w.alloc o) (w.alloc o)):=fun o=>Below.refl _ _;go_wp2_with fail
   go_loopw [7] (fun i wr=>∃k:Nat,k≤c.nCh∧i=.int .i64 k∧Hid (Yb (ChOk c) k)∧Hid (Below (w.heap.size+1) (w.alloc (.cells #[.slice p0 c.nC cap0,.slice p1 c.nT cap1,.slice p2 c.nCh cap2,.slice p3 c.nD cap3] 28)) wr)) (fun i _=>c.nCh-(intOf i).toNat)
   case atStart=>exact ⟨0,Nat.zero_le _,rfl,Yb.zero _,HA1.out _⟩
   case round=>
    obtain ⟨k,hk,rfl,HI,HW⟩:=hrel;obtain ⟨x0,x1,x2,x3⟩:=box4 HW.out;have hH:w.heap.size<wr.heap.size:=block_lt_of_cell x0;by_cases hlt:k<c.nCh
    ·obtain ⟨b,off,rfl,hc⟩:=(S2.out.below (Yg HW.out)).at (by omega);have c0:=hc (k*3) (by omega);have c1:=hc (k*3+1) (by omega);have c2:=hc (k*3+2) (by omega);have hbl:b<wr.heap.size:=block_lt_of_cell c0;rw [←Nat.add_assoc] at c1 c2;clear hc;by_cases hok:ChOk c k
     ·have HO:Hid (ChOk c k):=hok;obtain ⟨g1,⟨g2,g3⟩,⟨g4,g5⟩,g6⟩:=hok;have g7:1≤c.ch (k*3):=by omega
      have g8:c.ch (k*3)≤2:=by omega
      have g9:(c.ch (k*3+1)==c.ch (k*3+2))=false:=by simpa using g6
      clear g1 g6;go_wp2_with fail
      refine ⟨⟨k+1,by omega,by go_num,HI.out.step HO.out,?_⟩,by simp [intOf];omega⟩;show Below _ _ _;exact HW.out.alloc (by omega) _
     ·have C5:Hid (Y8 c 3 k):=Y8.c5 N1.out N2.out N3.out n4 ⟨hlt,hok,HI.out⟩;have HC:Hid (¬ChOk c k):=hok;clear hok;go_wp2_with fail
      case roundEnd=>
       exfalso;apply HC.out;unfold ChOk;have g9:¬c.ch (k*3+1)=c.ch (k*3+2):=by
        intro e;have:(c.ch (k*3+1)==c.ch (k*3+2))=true:=by simpa using e
        simp_all
       omega
      all_goals
       go_ret2
       exact Chk.mk C5.out (Yg (HW.out.alloc (by omega) _))
    ·obtain rfl:k=c.nCh:=by omega
     have N5:Hid (Yb (ChOk c) c.nCh):=HI;clear HI hlt hk;by_cases n6:c.nD≤4
     case neg=>
      have C6:Hid (Y8 c 4 0):=Y8.c6 N1.out N2.out N3.out n4 N5.out n6;go_wp2_with fail
      go_ret2
      exact Chk.mk C6.out (Yg HW.out)
     go_wp2_with fail
     go_loop [9] (fun i=>∃k:Nat,k≤c.nD∧i=.int .i64 k∧Hid (Yb (DvOk c) k)) (fun i=>c.nD-(intOf i).toNat)
     case atStart=>exact ⟨0,Nat.zero_le _,rfl,Yb.zero _⟩
     case round=>
      obtain ⟨k,hk,rfl,HI⟩:=hrel;by_cases hlt:k<c.nD
      ·obtain ⟨b,off,rfl,hc⟩:=(S3.out.below (Yg HW.out)).at (by omega);have c0:=hc k (by omega);have hbl:b<wr.heap.size:=block_lt_of_cell c0;clear hc;by_cases hok:DvOk c k
       ·have HO:Hid (DvOk c k):=hok;obtain ⟨g2,g3⟩:=hok;go_wp2_with fail
        exact ⟨⟨k+1,by omega,by go_num,HI.out.step HO.out⟩,by simp [intOf];omega⟩
       ·have C7:Hid (Y8 c 4 k):=Y8.c7 N1.out N2.out N3.out n4 N5.out n6 ⟨hlt,hok,HI.out⟩;have HC:Hid (¬DvOk c k):=hok;clear hok;go_wp2_with fail
        all_goals
         go_ret2
         exact Chk.mk C7.out (Yg HW.out)
      ·obtain rfl:k=c.nD:=by omega
       have N7:Hid (Yb (DvOk c) c.nD):=HI;clear HI hlt hk;go_wp2_with fail
       have HW0:=HW;clear HW x0 x1 x2 x3 hH;go_loopw [10] (fun i wr=>∃k:Nat,k≤c.nC∧i=.int .i64 k∧Hid (Yb (X3 c) k)∧Hid (Below (w.heap.size+1) (w.alloc (.cells #[.slice p0 c.nC cap0,.slice p1 c.nT cap1,.slice p2 c.nCh cap2,.slice p3 c.nD cap3] 28)) wr)) (fun i _=>c.nC-(intOf i).toNat)
       case atStart=>exact ⟨0,Nat.zero_le _,rfl,Yb.zero _,HW0⟩
       case round=>
        revert hrel;revert wr;intro wq hrel;obtain ⟨k,hk,rfl,HI,HW⟩:=hrel;obtain ⟨x0,x1,x2,x3⟩:=box4 HW.out;have hH:w.heap.size<wq.heap.size:=block_lt_of_cell x0;by_cases hlt:k<c.nC
        ·obtain ⟨b,off,rfl,hc⟩:=(S0.out.below (Yg HW.out)).at (by omega);have c0:=hc (k*3) (by omega);have c1:=hc (k*3+1) (by omega);have c2:=hc (k*3+2) (by omega);have hbl:b<wq.heap.size:=block_lt_of_cell c0;rw [←Nat.add_assoc] at c1 c2;clear hc;obtain ⟨⟨pc,capc,hF0,-,-,-,bc,sc⟩,⟨pi,capi,hF1,-,-,-,bi,si⟩,hF2⟩:=K0.out k hlt;rw [hF0] at c0;rw [hF1] at c1;rw [hF2] at c2;have SC:Hid (Sl w pc (c.nCode k*4) (fun j=>.int .i64 (c.code k j))):=sc;have hnc:c.nCode k≤8796093022208:=by omega
         have hni:c.nImg k≤17592186044416:=by omega
         clear hF0 hF1 hF2 bc sc bi si;by_cases hA:(0≤c.lim k∧c.lim k≤5)∧c.nImg k≤16∧(1≤c.nCode k∧c.nCode k≤48)
         case neg=>
          have C8:Hid (Y8 c 5 k):=Y8.c8 N1.out N2.out N3.out n4 N5.out n6 N7.out ⟨hlt,fun h=>hA ⟨h.1,h.2.1,h.2.2.1⟩,HI.out⟩;by_cases hz:c.nCode k=0
          ·have hz':((c.nCode k:Int)==0)=true:=by simpa using hz
           have HZ:Hid (c.nCode k=0):=hz;have HA':Hid (¬_):=hA;clear hz hA;go_wp2_with fail
           all_goals
            go_ret2
            exact Chk.mk C8.out (Yg (HW.out.alloc (by omega) _))
          ·have hz':((c.nCode k:Int)==0)=false:=by simpa using hz
           go_wp2_with fail
           all_goals
            go_ret2
            exact Chk.mk C8.out (Yg (HW.out.alloc (by omega) _))
         obtain ⟨⟨g1,g2⟩,g3,g4,g5⟩:=hA;have hz':((c.nCode k:Int)==0)=false:=by simp;omega
         have HK:Hid (∀_,X3 c k):=fun (h:Yb (XO c k) (c.nCode k))=>⟨⟨g1,g2⟩,g3,⟨g4,g5⟩,h⟩;go_wp2_with fail
         go_loopw [12] (fun i wz=>∃j:Nat,j≤c.nCode k∧i=.int .i64 j∧Hid (Yb (XO c k) j)∧Hid (Below (wq.heap.size+1) (wq.alloc (.cells #[.slice pc (c.nCode k) capc,.slice pi (c.nImg k) capi,.int .i64 (c.lim k)] 53)) wz)) (fun i _=>c.nCode k-(intOf i).toNat)
         case atStart=>exact ⟨0,Nat.zero_le _,rfl,Yb.zero _,Below.refl _ _⟩
         case round=>
          obtain ⟨j,hj,rfl,HJ,HZ⟩:=hrel;obtain ⟨y0,y1,y2⟩:=box3 HZ.out;have HWr:Hid (Below (w.heap.size+1) (w.alloc (.cells #[.slice (some ⟨b,off,none⟩) c.nC cap0,.slice p1 c.nT cap1,.slice p2 c.nCh cap2,.slice p3 c.nD cap3] 28)) wr):=(HW.out.alloc (by omega) _).trans (HZ.out.mono (by omega));have d0:=(Yg HZ.out).cell (p:=⟨b,off+k*3,none⟩) hbl;rw [c0] at d0;clear x0 x1 x2 x3 c0 c1 c2;obtain ⟨x0,x1,x2,x3⟩:=box4 HWr.out;have hH2:w.heap.size<wr.heap.size:=block_lt_of_cell x0;have hH3:wq.heap.size<wr.heap.size:=block_lt_of_cell y0;by_cases hjl:j<c.nCode k
          ·have SR:Hid (Sl wr pc (c.nCode k*4) (fun j=>.int .i64 (c.code k j))):=SC.out.below (Yg HWr.out);have S2r:Hid (Sl wr p2 (c.nCh*3) (fun j=>.int .i64 (c.ch j))):=S2.out.below (Yg HWr.out);have S3r:Hid (Sl wr p3 c.nD (fun j=>.int .i64 (c.dv j))):=S3.out.below (Yg HWr.out);obtain ⟨bc,offc,rfl,hc⟩:=SR.out.at (by omega);have e0:=hc (j*4) (by omega);have e1:=hc (j*4+1) (by omega);have e2:=hc (j*4+2) (by omega);have e3:=hc (j*4+3) (by omega);rw [←Nat.add_assoc] at e1 e2 e3;clear hc;by_cases hok:XO c k j
           ·have HO:Hid (XO c k j):=hok;clear hok;have HQ:Hid (∀W:World,(∀a v,wr.cell? a=some v→W.cell? a=some v)→Calls Tryz.prog 69 #[.agg #[.slice (some ⟨b,off,none⟩) c.nC cap0,.slice p1 c.nT cap1,.slice p2 c.nCh cap2,.slice p3 c.nD cap3],.int .i64 k,.agg #[.int .i64 (c.code k (j*4)),.int .i64 (c.code k (j*4+1)),.int .i64 (c.code k (j*4+2)),.int .i64 (c.code k (j*4+3))]] W fun e w'=>e=.returned (.bool true)∧Below W.heap.size W w'):=
             fun W hW=>Ans.says (Y3J c _ b off cap0 k capc cap2 cap3 _ p2 p3 _ _ _ _ W hlt (hW _ _ d0) (S2r.out.keep hW) B2.out (S3r.out.keep hW) B3.out) HO.out
            go_wp2_with fail
            go_region_with (go_at_call 69;refine (HQ.out _ (by exact fun _ _ h=>h)).mono ?_;rintro e w' ⟨rfl,hbel⟩)
            all_goals go_wp2_with fail
            all_goals
             have HB3:Hid (Below wr.heap.size wr w'):=⟨hbel.os,hbel.tape,hbel.output,hbel.size,hbel.block⟩;exact ⟨⟨j+1,by omega,by go_num,HJ.out.step HO.out,HZ.out.trans (HB3.out.mono (by omega))⟩,by simp [intOf];omega⟩
           ·have HO:Hid (¬XO c k j):=hok;have C8:Hid (Y8 c 5 k):=Y8.c8 N1.out N2.out N3.out n4 N5.out n6 N7.out ⟨hlt,fun h=>hok (h.2.2.2 j hjl),HI.out⟩;clear hok;have HQ:Hid (∀W:World,(∀a v,wr.cell? a=some v→W.cell? a=some v)→Calls Tryz.prog 69 #[.agg #[.slice (some ⟨b,off,none⟩) c.nC cap0,.slice p1 c.nT cap1,.slice p2 c.nCh cap2,.slice p3 c.nD cap3],.int .i64 k,.agg #[.int .i64 (c.code k (j*4)),.int .i64 (c.code k (j*4+1)),.int .i64 (c.code k (j*4+2)),.int .i64 (c.code k (j*4+3))]] W fun e w'=>e=.returned (.bool false)∧Below W.heap.size W w'):=
             fun W hW=>Ans.denies (Y3J c _ b off cap0 k capc cap2 cap3 _ p2 p3 _ _ _ _ W hlt (hW _ _ d0) (S2r.out.keep hW) B2.out (S3r.out.keep hW) B3.out) HO.out
            go_wp2_with fail
            go_region_with (go_at_call 69;refine (HQ.out _ (by exact fun _ _ h=>h)).mono ?_;rintro e w' ⟨rfl,hbel⟩)
            all_goals go_wp2_with fail
            all_goals
             have HB3:Hid (Below wr.heap.size wr w'):=⟨hbel.os,hbel.tape,hbel.output,hbel.size,hbel.block⟩
             go_ret2
             exact Chk.mk C8.out (Yg (HWr.out.trans (HB3.out.mono (by omega))))
          ·obtain rfl:j=c.nCode k:=by omega
           go_wp2_with fail
           exact ⟨⟨k+1,by omega,by go_num,HI.out.step (HK.out HJ.out),(HW.out.alloc (by omega) _).trans (HZ.out.mono (by omega))⟩,by simp [intOf];omega⟩
        ·obtain rfl:k=c.nC:=by omega
         go_wp2_with fail
         go_ret2
         exact Chk.mk (Y8.c9 N1.out N2.out N3.out n4 N5.out n6 N7.out HI.out) (Yg HW.out)
end Go.Proofs.YtdoghgnifkgfdaaGreat
