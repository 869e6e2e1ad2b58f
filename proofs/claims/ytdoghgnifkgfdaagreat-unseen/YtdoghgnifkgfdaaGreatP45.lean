import Derived.Deep.RegionHeld3
import Derived.Deep.Cut
import Derived.Test.YtdoghgnifkgfdaaGreatP14
import Derived.Test.YtdoghgnifkgfdaaGreatP43
set_option maxRecDepth 100000
set_option maxHeartbeats 16000000
namespace Go.Proofs.YtdoghgnifkgfdaaGreat
open Go.RowKit
theorem YeS : (Tryz.f13.name == "runtime.NumGoroutine") = false := by kernel_rfl
theorem Ygp:Tryz.f13.body.isNone=false:=by kernel_rfl
theorem Yf2 (A:Nat→Option Addr) (K:Nat→Nat) (P:Pl) (w:World) (hP:Yc4 w A P):
  Calls Tryz.prog 8 #[Yci A K P] w fun e w'=>∃BT v0 vw vd cv gi,e=.returned (.agg #[v0,.slice (some ⟨BT+1+1+1,0,none⟩) 3 3,vw,vd])∧Below w.heap.size w w'∧CfO w w' P BT v0 vw vd cv gi:=by
 have HP:Hid (Yc4 w A P):=hP;clear hP;have HB0:Hid (Below w.heap.size w ((w.alloc (Yc3 A K P)).alloc (.cells #[.slice none 0 0,.slice none 0 0,.slice none 0 0,.slice none 0 0] 28))∧RowF ((w.alloc (Yc3 A K P)).alloc (.cells #[.slice none 0 0,.slice none 0 0,.slice none 0 0,.slice none 0 0] 28)) w.heap.size 14 39 (YbT A K P)∧RowF ((w.alloc (Yc3 A K P)).alloc (.cells #[.slice none 0 0,.slice none 0 0,.slice none 0 0,.slice none 0 0] 28)) (w.heap.size+1) 4 28 (Yc (.slice none 0 0) (.slice none 0 0) (.slice none 0 0) (.slice none 0 0))∧((w.alloc (Yc3 A K P)).alloc (.cells #[.slice none 0 0,.slice none 0 0,.slice none 0 0,.slice none 0 0] 28)).heap.size=w.heap.size+1+1):=by
  have x1:=row4 (w.alloc (Yc3 A K P)) (.slice none 0 0) (.slice none 0 0) (.slice none 0 0) (.slice none 0 0) 28;rw [World.size_alloc] at x1;exact ⟨((Below.refl _ _).alloc (Nat.le_refl _) _).alloc (by simp) _,(YcI w A K P).alloc _,x1,by simp⟩
 unfold Yc3 at HB0;unfold Yci
 go_enter Tryz.func8,Tryz.ntmps8
 go_upto_region 1 with fail
 generalize ((w.alloc (.cells #[.slice (A 0) (P.nC 0) (K 0),.slice (A 1) (P.nC 1) (K 1),.slice (A 2) (P.nC 2) (K 2),.slice (A 3) (P.nC 3) (K 3),.int .i64 (P.lim 0),.int .i64 (P.lim 1),.int .i64 (P.lim 2),.int .i64 (P.lim 3),.int .i64 (P.img 0),.int .i64 (P.img 1),.int .i64 (P.img 2),.int .i64 (P.img 3),.slice (A 4) P.nW (K 4),.slice (A 5) P.nD (K 5)] 39)).alloc (.cells #[.slice none 0 0,.slice none 0 0,.slice none 0 0,.slice none 0 0] 28))=W0 at *;have g12:W0.cell? ⟨w.heap.size,12,none⟩=some (.slice (A 4) P.nW (K 4)):=HB0.out.2.1.cell (by omega);have hz0:=HB0.out.2.2.2;have hn2:¬w.heap.size+1+1=w.heap.size:=by omega
 have hn3:¬w.heap.size=w.heap.size+1+1:=by omega
 go_cut [3] from 6 (fun s3 wx=>∃B3 BT vw,s3=.pointer (some ⟨B3,0,none⟩)∧Hid (CfW w wx (YbT A K P) B3 BT (.slice none 0 0) vw (.slice none 0 0) P.ways (plK P))∧Hid (P.nW=0→vw=.slice none 0 0))
 case first=>
  go_region_held3 (fun W=>W.cell? ⟨w.heap.size,12,none⟩=some (.slice (A 4) P.nW (K 4))) (go_keep)
   (first
    |(go_at_call 24
      refine (table_any (W0.alloc (.cells #[.slice none 0 0,.slice none 0 0,.slice none 0 0,.slice none 0 0] 28)).drew).mono ?_;rintro e wt ⟨rfl,hT⟩;have k12:wt.cell? ⟨w.heap.size,12,none⟩=some (.slice (A 4) P.nW (K 4)):=(hT.1.cell (p:=⟨w.heap.size,12,none⟩) (by show w.heap.size<(W0.alloc _).heap.size;simp;omega)).trans ((((Below.refl W0.heap.size W0).alloc (Nat.le_refl _) _).cell (p:=⟨w.heap.size,12,none⟩) (by show w.heap.size<W0.heap.size;omega)).trans g12);have R:RowF wt (w.heap.size+1+1) 4 28 (Yc (.slice none 0 0) (.slice none 0 0) (.slice none 0 0) (.slice none 0 0)):=(RowF.of_heap (w':=(W0.alloc (.cells #[.slice none 0 0,.slice none 0 0,.slice none 0 0,.slice none 0 0] 28)).drew) (hz0▸row4 W0 (.slice none 0 0) (.slice none 0 0) (.slice none 0 0) (.slice none 0 0) 28) rfl).below hT.1 (by show w.heap.size+1+1<(W0.alloc _).heap.size;simp;omega);obtain ⟨z0,z1,z2,z3⟩:=R.at4;have z0f:=R.frozen 0;have z1f:=R.frozen 1;have z2f:=R.frozen 2;have z3f:=R.frozen 3;have HZ:Hid (RowF wt (w.heap.size+1+1) 4 28 (Yc (.slice none 0 0) (.slice none 0 0) (.slice none 0 0) (.slice none 0 0))):=R;have HT:Hid (_∧_):=hT;have HBT:Hid (Below w.heap.size w wt):=YcB (HB0.out.1.alloc HB0.out.1.size _).drew hT.1 (by show _≤(W0.alloc _).heap.size;simp;omega);have htz:w.heap.size<wt.heap.size:=HZ.out.lt |> fun h=>by omega
      clear hT R)
    |(go_at_call 24
      refine (table_any W0.drew).mono ?_;rintro e wt ⟨rfl,hT⟩;have k12:wt.cell? ⟨w.heap.size,12,none⟩=some (.slice (A 4) P.nW (K 4)):=(hT.1.cell (p:=⟨w.heap.size,12,none⟩) (by show w.heap.size<W0.heap.size;omega)).trans g12;have HT:Hid (_∧_):=hT;have htz:w.heap.size<wt.heap.size:=by have:=hT.1.size;have e:W0.drew.heap.size=W0.heap.size:=rfl;omega
      have HBT:Hid (Below w.heap.size w wt):=YcB HB0.out.1.drew hT.1 (by show _≤W0.heap.size;omega);have htn:¬wt.heap.size=w.heap.size:=by omega
      have htn2:¬w.heap.size=wt.heap.size:=by omega
      clear hT)
    |(go_at_call 25
      refine (Ydc (A 4) P.nW (K 4) P.ways (wt.alloc (.cells #[.slice none 0 0,.slice none 0 0,.slice none 0 0,.slice none 0 0] 28)) ?_ HP.out.ways.2.1 HP.out.ways.2.2).mono ?_
      ·exact HP.out.ways.1.below (HBT.out.alloc HBT.out.size _)
      rintro e ww ⟨vw,rfl,hbw,how,hvw⟩;obtain ⟨pw,mw,cw,rfl⟩:=ZT how;have k12w:ww.cell? ⟨w.heap.size,12,none⟩=some (.slice (A 4) P.nW (K 4)):=(hbw.cell (p:=⟨w.heap.size,12,none⟩) (by show w.heap.size<(wt.alloc _).heap.size;simp;omega)).trans ((((Below.refl wt.heap.size wt).alloc (Nat.le_refl _) _).cell (p:=⟨w.heap.size,12,none⟩) htz).trans k12);have R:RowF ww wt.heap.size 4 28 (Yc (.slice none 0 0) (.slice none 0 0) (.slice none 0 0) (.slice none 0 0)):=(row4 wt (.slice none 0 0) (.slice none 0 0) (.slice none 0 0) (.slice none 0 0) 28).below hbw (by simp);obtain ⟨z0,z1,z2,z3⟩:=R.at4;have z0f:=R.frozen 0;have z1f:=R.frozen 1;have z2f:=R.frozen 2;have z3f:=R.frozen 3;have HZ:Hid (RowF ww wt.heap.size 4 28 (Yc (.slice none 0 0) (.slice none 0 0) (.slice none 0 0) (.slice none 0 0))):=R;have HWW:Hid (_∧_):=⟨hbw,how⟩;have HVW:Hid (P.nW=0→Value.slice pw mw cw=.slice none 0 0):=hvw;clear hbw how R hvw)
    |(go_at_call 25
      refine (Ydc (A 4) P.nW (K 4) P.ways wt ?_ HP.out.ways.2.1 HP.out.ways.2.2).mono ?_
      ·exact HP.out.ways.1.below HBT.out
      rintro e ww ⟨vw,rfl,hbw,how,hvw⟩;obtain ⟨pw,mw,cw,rfl⟩:=ZT how;have k12w:ww.cell? ⟨w.heap.size,12,none⟩=some (.slice (A 4) P.nW (K 4)):=(hbw.cell (p:=⟨w.heap.size,12,none⟩) htz).trans k12;have R:RowF ww (w.heap.size+1+1) 4 28 (Yc (.slice none 0 0) (.slice none 0 0) (.slice none 0 0) (.slice none 0 0)):=HZ.out.below hbw HZ.out.lt;clear z0 z1 z2 z3 z0f z1f z2f z3f;obtain ⟨z0,z1,z2,z3⟩:=R.at4;have z0f:=R.frozen 0;have z1f:=R.frozen 1;have z2f:=R.frozen 2;have z3f:=R.frozen 3;have HZ2:Hid (RowF ww (w.heap.size+1+1) 4 28 (Yc (.slice none 0 0) (.slice none 0 0) (.slice none 0 0) (.slice none 0 0))):=R;have HWW:Hid (_∧_):=⟨hbw,how⟩;have HVW:Hid (P.nW=0→Value.slice pw mw cw=.slice none 0 0):=hvw;clear hbw how R hvw)
    |(go_at_call 25
      refine (Ydc (A 4) P.nW (K 4) P.ways wt ?_ HP.out.ways.2.1 HP.out.ways.2.2).mono ?_
      ·exact HP.out.ways.1.below HBT.out
      rintro e ww ⟨vw,rfl,hbw,how,hvw⟩;obtain ⟨pw,mw,cw,rfl⟩:=ZT how;have k12w:ww.cell? ⟨w.heap.size,12,none⟩=some (.slice (A 4) P.nW (K 4)):=(hbw.cell (p:=⟨w.heap.size,12,none⟩) htz).trans k12;have HWW:Hid (_∧_):=⟨hbw,how⟩;have HVW:Hid (P.nW=0→Value.slice pw mw cw=.slice none 0 0):=hvw;have hwz:¬ww.heap.size=w.heap.size:=by have:=hbw.size;omega
      have hwz2:¬w.heap.size=ww.heap.size:=by omega
      clear hbw how hvw))
  ·go_wp2_with fail
   go_meet
   exact ⟨ww.heap.size,w.heap.size+1+1,_,rfl,(Yd4 (BT:=w.heap.size+1+1) HB0.out.1.drew hz0 (by omega) (HB0.out.2.1.of_heap rfl) (HB0.out.2.2.1.of_heap rfl) HT.out (Below.refl _ _) HWW.out.1 HWW.out.2).last (by have h1:=HT.out.1.size;have h2:=HWW.out.1.size;have e:W0.drew.heap.size=W0.heap.size:=rfl;omega),HVW⟩
  ·go_wp2_with fail
   go_meet
   exact ⟨wt.heap.size,w.heap.size+1+1,_,rfl,(Yd4 (BT:=w.heap.size+1+1) HB0.out.1.drew hz0 (by omega) (HB0.out.2.1.of_heap rfl) (HB0.out.2.2.1.of_heap rfl) HT.out ((Below.refl _ _).alloc (Nat.le_refl _) _) HWW.out.1 HWW.out.2).set HZ.out (by have h1:=HT.out.1.size;have e:W0.drew.heap.size=W0.heap.size:=rfl;omega),HVW⟩
  ·go_wp2_with fail
   go_meet
   exact ⟨w.heap.size+1+1,w.heap.size+1+1+1,_,rfl,(Yd4 (BT:=w.heap.size+1+1+1) (HB0.out.1.alloc HB0.out.1.size _).drew (by show (W0.alloc _).heap.size=_;simp;omega) (by omega) ((HB0.out.2.1.alloc _).of_heap rfl) ((HB0.out.2.2.1.alloc _).of_heap rfl) HT.out (Below.refl _ _) HWW.out.1 HWW.out.2).set HZ2.out (by omega),HVW⟩
 case rest=>
 obtain ⟨B3,BT,vw,rfl,HW,HVW⟩:=hcut;clear g12 hz0 HB0 hn2 hn3;go_wp2_with fail
 go_loopw [4] (fun i wr=>∃d:Nat,d≤P.nD∧d≤4∧i=.int .i64 d∧Hid (∃vd,CfW w wr (YbT A K P) B3 BT (.slice none 0 0) vw vd P.ways (plK P)∧wr.ownsRow (w.heap.size+2) 3 1 vd d (devL P.devs d)∧(d=0→vd=.slice none 0 0))) (fun i _=>4-(intOf i).toNat)
 case atStart=>exact ⟨0,Nat.zero_le _,Nat.zero_le _,rfl,_,HW.out,World.ownsRow_nil _ _ _ _,fun _=>rfl⟩
 case round=>
  obtain ⟨d,hd,hd4,rfl,HR⟩:=hrel;obtain ⟨vd,hcf,hown,hvn⟩:=HR.out;obtain ⟨pd,md,cd,rfl⟩:=ZT hown;have HC:Hid (CfW w wr (YbT A K P) B3 BT (.slice none 0 0) vw (.slice pd md cd) P.ways (plK P)):=hcf;have HO:Hid (wr.ownsRow (w.heap.size+2) 3 1 (.slice pd md cd) d (devL P.devs d)):=hown;have g13:wr.cell? ⟨w.heap.size,13,none⟩=some (.slice (A 5) P.nD (K 5)):=hcf.r0.cell (by omega);have b3:wr.cell? ⟨B3,3,none⟩=some (.slice pd md cd):=hcf.r3.cell (by omega);have b3f:=hcf.r3.frozen 3;have hB3:B3<wr.heap.size:=hcf.r3.lt;have hw2:w.heap.size+2≤wr.heap.size:=by have:=hcf.r1.lt;omega
  have HVN:Hid (d=0→Value.slice pd md cd=.slice none 0 0):=hvn;clear hcf hown HR hvn;by_cases hr:d<P.nD∧d<4
  ·obtain ⟨hlt,h4⟩:=hr;have hli:(d:Int)<(P.nD:Int):=by omega
   have h4i:(d:Int)<4:=by omega
   obtain ⟨b,o,hA,hc⟩:=(HP.out.devs.1.below HC.out.bel).at (by omega);have c0:=hc d hlt;have zb:=HP.out.devs.2.1 d hlt;clear hc;rw [hA] at g13;clear hA;obtain ⟨zd,HZ⟩:∃zd,Hid (P.devs d=zd):=⟨_,rfl⟩;rw [HZ.out] at c0 zb
   go_upto_region 5 with fail
   go_region_law
    (first
     |(refine Yeq rfl 9 _ _ _ _ rfl _ _ rfl rfl Tryz.f9 Tryz.func9 Yez Yf8 (fun r w'=>r=.int .i64 (pk zd 4)∧w'=wr.drew) ?_ ?_
       ·exact (Ydu zd 4 wr.drew (by decide) zb.1 zb.2).mono (fun e w' ⟨h1,h2⟩=>⟨_,h1,rfl,h2⟩)
       rintro r wl ⟨rfl,rfl⟩)
     |(refine Jk rfl _ _ 26 rfl (w.heap.size+2) 3 _ 1 8 Tryz.underlying26 YgT rfl (by omega) (.slice pd md cd) d (devL P.devs d) rfl (own_below HO.out ((Below.refl wr.heap.size wr).drew.alloc (Nat.le_refl _) _)) wr.heap.size [.int .i64 (pk zd 4)] 3 rfl rfl (by exact alloc_at rfl) (by intro u hu;simp at hu;subst hu;rfl) (by simp only [maxLen];omega) (by omega) (by simp;omega) ?_
       intro g cap wg hown1 hgrow1 hat hlt1;have hcf2:=HC.out.grow HO.out (by decide) ((Below.refl wr.heap.size wr).drew.alloc (Nat.le_refl _) _) hgrow1;have q9:wg.cell? ⟨B3,3,none⟩=some (.slice pd md cd):=hcf2.r3.cell (by omega);have q9f:=hcf2.r3.frozen 3;have HS:Hid (CfW w (wg.setCell ⟨B3,3,none⟩ (.slice (some ⟨g,0,none⟩) (d+1) cap)) (YbT A K P) B3 BT (.slice none 0 0) vw (.slice (some ⟨g,0,none⟩) (d+1) cap) P.ways (plK P)∧(wg.setCell ⟨B3,3,none⟩ (.slice (some ⟨g,0,none⟩) (d+1) cap)).ownsRow (w.heap.size+2) 3 1 (.slice (some ⟨g,0,none⟩) (d+1) cap) (d+1) (devL P.devs (d+1))):=⟨hcf2.put3 _,hcf2.own (by rw [Yh5,HZ.out];exact hown1) (by decide) _ _⟩;clear hown1 hgrow1 hat hlt1 hcf2))
   all_goals (go_wp2_with fail;exact ⟨⟨d+1,by omega,by omega,by go_num,_,HS.out.1,HS.out.2,fun h=>absurd h (by omega)⟩,by simp [intOf];omega⟩)
  ·have hcase:((d:Int)<(P.nD:Int)∧¬(d:Int)<4)∨¬(d:Int)<(P.nD:Int):=by omega
   have hde:d=plD P:=by unfold plD;omega
   have HO2:Hid (wr.ownsRow (w.heap.size+2) 3 1 (.slice pd md cd) (plD P) (devL P.devs (plD P))):=by rw [←hde];exact HO.out
   have HVN2:Hid (P.nD=0→Value.slice pd md cd=.slice none 0 0):=fun h=>HVN.out (by rw [hde];unfold plD;omega);clear hde hr HO HVN b3 b3f;rcases hcase with ⟨hli,h4i⟩|hli
   all_goals
    (go_wp2_with fail
     go_loopw [5] (fun i wx=>∃n:Nat,n≤4∧i=.int .i64 n∧Hid (∃v0 cv gi,CfW w wx (YbT A K P) B3 BT v0 vw (.slice pd md cd) P.ways (plK P)∧wx.ownsRow (w.heap.size+2) 3 1 (.slice pd md cd) (plD P) (devL P.devs (plD P))∧Ycn w wx P v0 cv gi n)) (fun i _=>4-(intOf i).toNat)
     case atStart=>exact ⟨0,Nat.zero_le _,rfl,_,fun _=>.slice none 0 0,fun _=>0,HC.out,HO2.out,World.ownsRow_nil _ _ _ _,fun i hi=>absurd hi (by omega),fun i hi=>absurd hi (by omega)⟩
     case round=>
      clear HC HO2 hw2 hB3;obtain ⟨n,hn4,rfl,HR⟩:=hrel;obtain ⟨v0,cv,gi,hcf,hdv,hce⟩:=HR.out;obtain ⟨p0,cap0,rfl,-,-,-⟩:=Zk hce.own;obtain ⟨pw,capw,rfl,-,-,HSW⟩:=Zk hcf.ch;obtain ⟨pd',capd,ed,-,-,HSD⟩:=Zk (size:=1) (F:=fun j=>.int .i64 (plDv P j)) (by rw [Nat.mul_one];exact hdv);injection ed with ed1 ed2 ed3
      subst ed1 ed2 ed3;have HC:Hid (CfW w wr (YbT A K P) B3 BT (.slice p0 n cap0) (.slice pw (plK P) capw) (.slice pd (plD P) cd) P.ways (plK P)):=hcf;have HO:Hid (wr.ownsRow (w.heap.size+2) 3 1 (.slice pd (plD P) cd) (plD P) (devL P.devs (plD P))):=hdv;have HE:Hid (Ycn w wr P (.slice p0 n cap0) cv gi n):=hce;have hB3:B3<wr.heap.size:=hcf.r3.lt;have hw2:w.heap.size+2≤wr.heap.size:=by have:=hcf.r1.lt;omega
      have b0:wr.cell? ⟨B3,0,none⟩=some (.slice p0 n cap0):=hcf.r3.cell (by omega);have b1:wr.cell? ⟨B3,1,none⟩=some (.slice (some ⟨BT+1+1+1,0,none⟩) 3 3):=hcf.r3.cell (by omega);have b2:wr.cell? ⟨B3,2,none⟩=some (.slice pw (plK P) capw):=hcf.r3.cell (by omega);have b3:wr.cell? ⟨B3,3,none⟩=some (.slice pd (plD P) cd):=hcf.r3.cell (by omega);have b0f:=hcf.r3.frozen 0;by_cases hlt:n<4
      ·have hli:(n:Int)<4:=by omega
       have g0:wr.cell? ⟨w.heap.size,0,none⟩=some (.slice (A 0) (P.nC 0) (K 0)):=hcf.r0.cell (by omega);have g1:wr.cell? ⟨w.heap.size,1,none⟩=some (.slice (A 1) (P.nC 1) (K 1)):=hcf.r0.cell (by omega);have g2:wr.cell? ⟨w.heap.size,2,none⟩=some (.slice (A 2) (P.nC 2) (K 2)):=hcf.r0.cell (by omega);have g3:wr.cell? ⟨w.heap.size,3,none⟩=some (.slice (A 3) (P.nC 3) (K 3)):=hcf.r0.cell (by omega);have g4:wr.cell? ⟨w.heap.size,4,none⟩=some (.int .i64 (P.lim 0)):=hcf.r0.cell (by omega);have g5:wr.cell? ⟨w.heap.size,5,none⟩=some (.int .i64 (P.lim 1)):=hcf.r0.cell (by omega);have g6:wr.cell? ⟨w.heap.size,6,none⟩=some (.int .i64 (P.lim 2)):=hcf.r0.cell (by omega);have g7:wr.cell? ⟨w.heap.size,7,none⟩=some (.int .i64 (P.lim 3)):=hcf.r0.cell (by omega);have g8:wr.cell? ⟨w.heap.size,8,none⟩=some (.int .i64 (P.img 0)):=hcf.r0.cell (by omega);have g9:wr.cell? ⟨w.heap.size,9,none⟩=some (.int .i64 (P.img 1)):=hcf.r0.cell (by omega);have g10:wr.cell? ⟨w.heap.size,10,none⟩=some (.int .i64 (P.img 2)):=hcf.r0.cell (by omega);have g11:wr.cell? ⟨w.heap.size,11,none⟩=some (.int .i64 (P.img 3)):=hcf.r0.cell (by omega);have g12:wr.cell? ⟨w.heap.size,12,none⟩=some (.slice (A 4) P.nW (K 4)):=hcf.r0.cell (by omega);have g13:wr.cell? ⟨w.heap.size,13,none⟩=some (.slice (A 5) P.nD (K 5)):=hcf.r0.cell (by omega);have HPw:Hid (Yc4 wr.drew A P):=Yds HP.out HC.out.bel.drew;have HSW2:Hid (Sl wr.drew pw (plK P*3) (fun j=>.int .i64 (plCh P j))):=HSW;have HSD2:Hid (Sl wr.drew pd (plD P) (fun j=>.int .i64 (plDv P j))):=by rw [Nat.mul_one] at HSD;exact HSD
       have hkb:plK P≤1000:=by unfold plK;omega
       have hdb:plD P≤1000:=by unfold plD;omega
       clear hcf hdv hce HR HSW HSD
       go_upto_region 9 with fail
       go_region_law
        (first
         |(refine Y9x rfl 13 _ _ _ _ _ _ rfl _ _ _ rfl rfl rfl Tryz.f13 Tryz.func13 YeS Ygp (fun r w'=>∃pv mv cc g,r=.agg #[.slice pv mv cc,.slice (some ⟨g,0,none⟩) 2 2,.int .i64 (pk (P.lim n) 6)]∧Below wr.heap.size wr w'∧w'.ownsRow wr.heap.size 97 4 (.slice pv mv cc) (plN P n+1) (Yc1 (YbV (plK P) (plCh P) (plD P) (plDv P) P n) (plN P n+1))∧RowF w' g 2 2 (twoF (P.img n))∧wr.heap.size≤g) ?_ ?_
           ·refine (one_any A K P n hlt p0 (some ⟨BT+1+1+1,0,none⟩) pw pd n cap0 3 3 (plK P) capw (plD P) cd (plCh P) (plDv P) wr.drew HPw.out HSW2.out HSD2.out hkb hdb).mono ?_;rintro e w' ⟨v,g,rfl,h1,h2,h3,h4⟩;obtain ⟨pv,mv,cc,rfl⟩:=ZT h2;exact ⟨_,rfl,pv,mv,cc,g,rfl,((Below.refl wr.heap.size wr).drew).trans h1,h2,h3,h4⟩
           rintro r w1 ⟨pv,mv,cc,g,rfl,hb1,ho1,hi1,hg1⟩;have b0':w1.cell? ⟨B3,0,none⟩=some (.slice p0 n cap0):=(hb1.cell (p:=⟨B3,0,none⟩) hB3).trans b0;have hB3':B3<w1.heap.size:=Nat.lt_of_lt_of_le hB3 hb1.size;have H1:Hid (Below wr.heap.size wr w1∧w1.ownsRow wr.heap.size 97 4 (.slice pv mv cc) (plN P n+1) (Yc1 (YbV (plK P) (plCh P) (plD P) (plDv P) P n) (plN P n+1))∧RowF w1 g 2 2 (twoF (P.img n))∧wr.heap.size≤g):=⟨hb1,ho1,hi1,hg1⟩;have hw1:w.heap.size+2≤w1.heap.size:=Nat.le_trans hw2 hb1.size;clear hb1 ho1 hi1 hg1)
         |(refine Jk rfl _ _ 23 rfl (w.heap.size+2) 53 _ 3 56 Tryz.underlying23 Jt rfl (by omega) (.slice p0 n cap0) n (Ycw P cv gi n) rfl (own_below HE.out.own (H1.out.1.alloc H1.out.1.size _)) w1.heap.size [.slice pv mv cc,.slice (some ⟨g,0,none⟩) 2 2,.int .i64 (pk (P.lim n) 6)] 53 rfl rfl (by exact alloc_at rfl) (by intro u hu;simp at hu;rcases hu with rfl|rfl|rfl<;>rfl) (by simp only [maxLen];omega) (by omega) (by simp;omega) ?_
           intro g2 cap wg hown1 hgrow1 hat hlt1;have hW:=H1.out.1.alloc H1.out.1.size (.cells #[.slice pv mv cc,.slice (some ⟨g,0,none⟩) 2 2,.int .i64 (pk (P.lim n) 6)] 53);have hcf2:=HC.out.grow HE.out.own (by decide) hW hgrow1;have q9:wg.cell? ⟨B3,0,none⟩=some (.slice p0 n cap0):=hcf2.r3.cell (by omega);have q9f:=hcf2.r3.frozen 0;have HS:Hid (CfW w (wg.setCell ⟨B3,0,none⟩ (.slice (some ⟨g2,0,none⟩) (n+1) cap)) (YbT A K P) B3 BT (.slice (some ⟨g2,0,none⟩) (n+1) cap) (.slice pw (plK P) capw) (.slice pd (plD P) cd) P.ways (plK P)∧Ycn w (wg.setCell ⟨B3,0,none⟩ (.slice (some ⟨g2,0,none⟩) (n+1) cap)) P (.slice (some ⟨g2,0,none⟩) (n+1) cap) (setV cv n (.slice pv mv cc)) (setAt gi n g) (n+1)∧(wg.setCell ⟨B3,0,none⟩ (.slice (some ⟨g2,0,none⟩) (n+1) cap)).ownsRow (w.heap.size+2) 3 1 (.slice pd (plD P) cd) (plD P) (devL P.devs (plD P))):=HE.out.step HC.out HO.out hW (own_below H1.out.2.1 ((Below.refl _ _).alloc (Nat.le_refl _) _)) (H1.out.2.2.1.alloc _) H1.out.2.2.2 hown1 hgrow1;clear hown1 hgrow1 hat hlt1 hcf2 hW))
       all_goals (go_wp2_with fail;exact ⟨⟨n+1,by omega,by go_num,_,_,_,HS.out.1,HS.out.2.2,HS.out.2.1⟩,by simp [intOf];omega⟩)
      ·obtain rfl:n=4:=by omega
       have a0:wr.cell? ⟨w.heap.size+1,0,none⟩=some (.slice none 0 0):=hcf.r1.cell (by omega);have a1:wr.cell? ⟨w.heap.size+1,1,none⟩=some (.slice none 0 0):=hcf.r1.cell (by omega);have a2:wr.cell? ⟨w.heap.size+1,2,none⟩=some (.slice none 0 0):=hcf.r1.cell (by omega);have a3:wr.cell? ⟨w.heap.size+1,3,none⟩=some (.slice none 0 0):=hcf.r1.cell (by omega);have a0f:=hcf.r1.frozen 0;have a1f:=hcf.r1.frozen 1;have a2f:=hcf.r1.frozen 2;have a3f:=hcf.r1.frozen 3;have HEND:Hid (_∧_):=YfW hcf hce hdv HVW.out HVN2.out;clear hcf hdv hce HR HSW HSD;go_wp2_with fail
       refine bodyPost_ret (results_cell_row (P:=Tryz.prog) rfl _ _ (w.heap.size+1) 28 #[.slice p0 4 cap0,.slice (some ⟨BT+1+1+1,0,none⟩) 3 3,.slice pw (plK P) capw,.slice pd (plD P) cd] (0,0) _ rfl HEND.out.1 Tryz.underlying28 rfl Y03) rfl ?_;exact ⟨BT,_,_,_,_,_,rfl,HEND.out.2.1,HEND.out.2.2⟩)
def v5 (a b c d e:Value) (j:Nat):Value:=if j=0 then a else if j=1 then b else if j=2 then c else if j=3 then d else e
theorem Yee (w:World) (a b c d e:Value) (t:Nat):RowF (w.alloc (.cells #[a,b,c,d,e] t)) w.heap.size 5 t (v5 a b c d e):=
 RowF.new w #[a,b,c,d,e] t _ fun j hj=>by
  have:j=0∨j=1∨j=2∨j=3∨j=4:=by simp at hj;omega
  rcases this with rfl|rfl|rfl|rfl|rfl<;>rfl
structure Ycx (w wr:World) (V U:Nat→Value):Prop where
 bel:Below w.heap.size w wr
 r0:RowF wr w.heap.size 5 65 V
 r1:RowF wr (w.heap.size+1) 5 65 U
theorem Ycx.drew {w wr:World} {V U:Nat→Value} (h:Ycx w wr V U):Ycx w wr.drew V U:=⟨h.bel.drew,h.r0.of_heap rfl,h.r1.of_heap rfl⟩
theorem YfZ (pa pb pm pn:Option Addr) (m ca cb cm cn:Nat) (z y:Nat→Int) (s b:Int) (st:Bool) (w:World) (ha:Sl w pa (m*3) (fun j=>.int .i64 (z j))) (hb:Sl w pb (m*3) (fun j=>.int .i64 (z j))) (hm:Sl w pm 16 (fun j=>.int .i64 (y j))) (hn:Sl w pn 16 (fun j=>.int .i64 (y j))) (hml:m≤1000000000):
  Calls Tryz.prog 17 #[.agg #[.slice pa m ca,.slice pm 16 cm,.int .i64 s,.int .i64 b,.bool st],.agg #[.slice pb m cb,.slice pn 16 cn,.int .i64 s,.int .i64 b,.bool st]] w fun e w'=>e=.returned (.bool true)∧Below w.heap.size w w':=by
 have HA:Hid (Sl w pa (m*3) (fun j=>.int .i64 (z j))):=ha;have HB:Hid (Sl w pb (m*3) (fun j=>.int .i64 (z j))):=hb;have HM:Hid (Sl w pm 16 (fun j=>.int .i64 (y j))):=hm;have HN:Hid (Sl w pn 16 (fun j=>.int .i64 (y j))):=hn;clear ha hb hm hn;have HW0:Hid (Ycx w ((w.alloc (.cells #[.slice pa m ca,.slice pm 16 cm,.int .i64 s,.int .i64 b,.bool st] 65)).alloc (.cells #[.slice pb m cb,.slice pn 16 cn,.int .i64 s,.int .i64 b,.bool st] 65)) (v5 (.slice pa m ca) (.slice pm 16 cm) (.int .i64 s) (.int .i64 b) (.bool st)) (v5 (.slice pb m cb) (.slice pn 16 cn) (.int .i64 s) (.int .i64 b) (.bool st))):=by
  have x1:=Yee (w.alloc (.cells #[.slice pa m ca,.slice pm 16 cm,.int .i64 s,.int .i64 b,.bool st] 65)) (.slice pb m cb) (.slice pn 16 cn) (.int .i64 s) (.int .i64 b) (.bool st) 65;rw [World.size_alloc] at x1;exact ⟨((Below.refl _ _).alloc (Nat.le_refl _) _).alloc (by simp) _,(Yee w _ _ _ _ _ _).alloc _,x1⟩
 go_enter Tryz.func17,Tryz.ntmps17
 go_wp2_with fail
 go_loopw [5] (fun i wr=>∃k:Nat,k≤m∧i=.int .i64 k∧Hid (Ycx w wr (v5 (.slice pa m ca) (.slice pm 16 cm) (.int .i64 s) (.int .i64 b) (.bool st)) (v5 (.slice pb m cb) (.slice pn 16 cn) (.int .i64 s) (.int .i64 b) (.bool st)))) (fun i _=>m-(intOf i).toNat)
 case atStart=>exact ⟨0,Nat.zero_le _,rfl,HW0⟩
 case round=>
  obtain ⟨k,hk,rfl,HS⟩:=hrel;have c0:wr.cell? ⟨w.heap.size,0,none⟩=some (.slice pa m ca):=HS.out.r0.cell (by omega);have d0:wr.cell? ⟨w.heap.size+1,0,none⟩=some (.slice pb m cb):=HS.out.r1.cell (by omega);by_cases hlt:k<m
  ·have hli:(k:Int)<(m:Int):=by omega
   obtain ⟨ab,ao,rfl,hc⟩:=(HA.out.below HS.out.bel).at (by omega);obtain ⟨bb,bo,rfl,hd⟩:=(HB.out.below HS.out.bel).at (by omega);have e0:=hc (k*3) (by omega);have e1:=hc (k*3+1) (by omega);have e2:=hc (k*3+2) (by omega);have f0:=hd (k*3) (by omega);have f1:=hd (k*3+1) (by omega);have f2:=hd (k*3+2) (by omega);rw [←Nat.add_assoc] at e1 e2 f1 f2;clear hc hd;generalize z (k*3)=x0 at *;generalize z (k*3+1)=x1 at *;generalize z (k*3+2)=x2 at *
   go_upto_region 6 with fail
   go_region_held3 (fun W=>W.cell? ⟨w.heap.size,0,none⟩=some (.slice (some ⟨ab,ao,none⟩) m ca)∧W.cell? ⟨w.heap.size+1,0,none⟩=some (.slice (some ⟨bb,bo,none⟩) m cb)∧W.cell? ⟨ab,ao+k*3,none⟩=some (.int .i64 x0)∧W.cell? ⟨ab,ao+k*3+1,none⟩=some (.int .i64 x1)∧W.cell? ⟨ab,ao+k*3+2,none⟩=some (.int .i64 x2)∧W.cell? ⟨bb,bo+k*3,none⟩=some (.int .i64 x0)∧W.cell? ⟨bb,bo+k*3+1,none⟩=some (.int .i64 x1)∧W.cell? ⟨bb,bo+k*3+2,none⟩=some (.int .i64 x2)) (go_keep) (fail)
   all_goals (go_wp2_with fail;exact ⟨⟨k+1,by omega,by go_num,HS.out.drew⟩,by simp [intOf];omega⟩)
  ·obtain rfl:k=m:=by omega
   go_wp2_with fail
   go_loopw [6] (fun i wr=>∃d:Nat,d≤16∧i=.int .i64 d∧Hid (Ycx w wr (v5 (.slice pa k ca) (.slice pm 16 cm) (.int .i64 s) (.int .i64 b) (.bool st)) (v5 (.slice pb k cb) (.slice pn 16 cn) (.int .i64 s) (.int .i64 b) (.bool st)))) (fun i _=>16-(intOf i).toNat)
   case atStart=>exact ⟨0,Nat.zero_le _,rfl,HS⟩
   case round=>
    clear c0 d0 HS;obtain ⟨d,hd16,rfl,HS⟩:=hrel;have c1:wr.cell? ⟨w.heap.size,1,none⟩=some (.slice pm 16 cm):=HS.out.r0.cell (by omega);have d1:wr.cell? ⟨w.heap.size+1,1,none⟩=some (.slice pn 16 cn):=HS.out.r1.cell (by omega);by_cases hlt:d<16
    ·have hli:(d:Int)<16:=by omega
     obtain ⟨ab,ao,rfl,hc⟩:=(HM.out.below HS.out.bel).at (by omega);obtain ⟨bb,bo,rfl,hd⟩:=(HN.out.below HS.out.bel).at (by omega);have e0:=hc d hlt;have f0:=hd d hlt;clear hc hd;generalize y d=x0 at *
     go_upto_region 11 with fail
     go_region_held3 (fun W=>W.cell? ⟨w.heap.size,1,none⟩=some (.slice (some ⟨ab,ao,none⟩) 16 cm)∧W.cell? ⟨w.heap.size+1,1,none⟩=some (.slice (some ⟨bb,bo,none⟩) 16 cn)∧W.cell? ⟨ab,ao+d,none⟩=some (.int .i64 x0)∧W.cell? ⟨bb,bo+d,none⟩=some (.int .i64 x0)) (go_keep) (fail)
     all_goals (go_wp2_with fail;exact ⟨⟨d+1,by omega,by go_num,HS.out.drew⟩,by simp [intOf];omega⟩)
    ·obtain rfl:d=16:=by omega
     go_wp2_with fail
     go_ret;exact ⟨rfl,HS.out.bel⟩
end Go.Proofs.YtdoghgnifkgfdaaGreat
namespace Go.Proofs.YtdoghgnifkgfdaaGreat.Mute
open Go Go.Conc Go.RowKit
def cfg2 (L0 L1:List Int) (n0 n1:Nat) (lm:Int) (rw:List Int) (dvn:Bool) (dv:List Int):Cfg where
 cellsN:=false
 nC:=2
 lim:=fun i=>if i=0 then lm else 0
 codeN:=fun _=>false
 nCode:=fun i=>if i=0 then n0 else n1
 code:=fun i j=>(if i=0 then L0 else L1).getD j 0
 imgN:=fun _=>true
 nImg:=fun _=>0
 img:=fun _ _=>0
 tableN:=false
 nT:=1
 rowN:=fun _=>false
 nRow:=fun _=>2
 row:=fun _ j=>rw.getD j 0
 chN:=false
 nCh:=1
 ch:=fun j=>[1,0,1].getD j 0
 dvN:=dvn
 nD:=dv.length
 dv:=fun j=>dv.getD j 0
def Ycj (L:List Int) (j:Nat):Value:=.int .i64 (L.getD j 0)
theorem YcW (w:World) (L:List Int) (t:Nat):RowF (w.alloc (.cells (L.map (Value.int .i64 ·)).toArray t)) w.heap.size L.length t (Ycj L):=by
 have h:=RowF.new w (L.map (Value.int .i64 ·)).toArray t (Ycj L) (fun j hj=>by
  have hj:j<L.length:=by simpa using hj
  unfold Ycj;simp [hj])
 simpa using h
def Ydn (b0 n0 c0 b1 n1 c1:Nat) (lm:Int) (j:Nat):Value:=if j=0 then .slice (some ⟨b0,0,none⟩) n0 c0 else if j=1 then .slice none 0 0 else if j=2 then .int .i64 lm else if j=3 then .slice (some ⟨b1,0,none⟩) n1 c1 else if j=4 then .slice none 0 0 else .int .i64 0
theorem Yfh (w:World) (b0 n0 c0 b1 n1 c1:Nat) (lm:Int) (t:Nat):RowF (w.alloc (.cells #[.slice (some ⟨b0,0,none⟩) n0 c0,.slice none 0 0,.int .i64 lm,.slice (some ⟨b1,0,none⟩) n1 c1,.slice none 0 0,.int .i64 0] t)) w.heap.size 6 t (Ydn b0 n0 c0 b1 n1 c1 lm):=
 RowF.new w #[.slice (some ⟨b0,0,none⟩) n0 c0,.slice none 0 0,.int .i64 lm,.slice (some ⟨b1,0,none⟩) n1 c1,.slice none 0 0,.int .i64 0] t _ fun j hj=>by
  have:j=0∨j=1∨j=2∨j=3∨j=4∨j=5:=by simp at hj;omega
  rcases this with rfl|rfl|rfl|rfl|rfl|rfl<;>rfl
theorem one_row (w:World) (v:Value) (t:Nat):RowF (w.alloc (.cells #[v] t)) w.heap.size 1 t (fun _=>v):=
 RowF.new w #[v] t _ fun j hj=>by
  have:j=0:=by simpa using hj
  subst this;rfl
section
variable {w:World} {L0 L1 rw dv:List Int} {n0 n1 c0 c1 b0 b1 bc bw bt bh m0 m1 t0 t1 t2 t3 t4 t5:Nat} {lm:Int}
theorem YcQ {w:World} {L:List Int} {b n c k m t bn:Nat} {nl:Bool} (h:RowF w b m t (Ycj L)) (hm:n*k≤m) (hc:n≤c) (hb:bn*n≤140737488355328) (hnl:nl=false):SlZ w (.slice (some ⟨b,0,none⟩) n c) nl n k (fun j=>L.getD j 0) bn:=
 ⟨_,c,rfl,hc,by rw [hnl];simp,fun h=>(by cases h),hb,.inr ⟨b,0,rfl,fun j hj=>by rw [Nat.zero_add];exact h.cell (by omega)⟩⟩
theorem Yen {v3:Value} {dvn:Bool} (h0:RowF w b0 m0 t0 (Ycj L0)) (hm0:n0*4≤m0) (hc0:n0≤c0) (h1:RowF w b1 m1 t1 (Ycj L1)) (hm1:n1*4≤m1) (hc1:n1≤c1) (hn:n0≤1000∧n1≤1000) (hc:RowF w bc 6 t2 (Ydn b0 n0 c0 b1 n1 c1 lm)) (hw:RowF w bw 4 t3 (Ycj rw)) (ht:RowF w bt 1 t4 (fun _=>.slice (some ⟨bw,0,none⟩) 2 2)) (hh:RowF w bh 3 t5 (Ycj [1,0,1])) (hd:SlZ w v3 dvn dv.length 1 (fun j=>dv.getD j 0) 8):
  CfgR w (.slice (some ⟨bc,0,none⟩) 2 2) (.slice (some ⟨bt,0,none⟩) 1 1) (.slice (some ⟨bh,0,none⟩) 1 1) v3 (cfg2 L0 L1 n0 n1 lm rw dvn dv):=by
 refine ⟨⟨_,2,Ydn b0 n0 c0 b1 n1 c1 lm,rfl,Nat.le_refl _,by simp [cfg2],fun h=>(by cases h),by show 56*2≤140737488355328;omega,.inr ⟨bc,0,rfl,fun j hj=>?_⟩,fun i hi=>?_⟩,⟨_,1,fun _=>.slice (some ⟨bw,0,none⟩) 2 2,rfl,Nat.le_refl _,by simp [cfg2],fun h=>(by cases h),by show 24*1≤140737488355328;omega,.inr ⟨bt,0,rfl,fun j hj=>?_⟩,fun i hi=>?_⟩,YcQ hh (by decide) (Nat.le_refl _) (by decide) rfl,hd⟩
 ·rw [Nat.zero_add];exact hc.cell hj
 ·have hi:i<2:=hi;have:i=0∨i=1:=by omega
  have nl:SlZ w (.slice none 0 0) true 0 1 (fun _=>0) 8:=⟨none,0,rfl,Nat.le_refl _,by simp,fun _=>⟨rfl,rfl⟩,by decide,.inl rfl⟩;rcases this with rfl|rfl
  ·exact ⟨YcQ h0 hm0 hc0 (by show 32*n0≤_;omega) rfl,nl,rfl⟩
  ·exact ⟨YcQ h1 hm1 hc1 (by show 32*n1≤_;omega) rfl,nl,rfl⟩
 ·rw [Nat.zero_add];exact ht.cell hj
 ·exact YcQ hw (by show 2*2≤4;omega) (Nat.le_refl _) (by decide) rfl
end
theorem Ydk {W:World} {g t:Nat} {a b c d a' b' c' d':Value} (h:RowF W g 4 t (Yc a b c d)):
  RowF ((((W.setCell ⟨g,0,none⟩ a').setCell ⟨g,1,none⟩ b').setCell ⟨g,2,none⟩ c').setCell ⟨g,3,none⟩ d') g 4 t (Yc a' b' c' d')∧(∀x,x≠g→((((W.setCell ⟨g,0,none⟩ a').setCell ⟨g,1,none⟩ b').setCell ⟨g,2,none⟩ c').setCell ⟨g,3,none⟩ d').heap[x]?=W.heap[x]?)∧((((W.setCell ⟨g,0,none⟩ a').setCell ⟨g,1,none⟩ b').setCell ⟨g,2,none⟩ c').setCell ⟨g,3,none⟩ d').heap.size=W.heap.size:=by
 refine ⟨((((h.set 0 a').set 1 b').set 2 c').set 3 d').congr fun j hj=>?_,fun x hx=>?_,?_⟩
 ·have:j=0∨j=1∨j=2∨j=3:=by omega
  rcases this with rfl|rfl|rfl|rfl<;>rfl
 ·rw [heap_setCell_other _ _ _ _ hx,heap_setCell_other _ _ _ _ hx,heap_setCell_other _ _ _ _ hx,heap_setCell_other _ _ _ _ hx]
 ·rw [size_setCell,size_setCell,size_setCell,size_setCell]
theorem Yer {c:Cfg} (h:∀i,i<c.nC→∃L:List Int,c.code i=(fun j=>L.getD j 0)∧∀x∈L,-9223372036854775808≤x∧x≤9223372036854775807):CfgW c:=fun i hi j _=>by
 obtain ⟨L,e,hL⟩:=h i hi;rw [e];show -9223372036854775808≤L.getD j 0∧L.getD j 0≤9223372036854775807;by_cases hj:j<L.length
 ·have:L.getD j 0=L[j]:=by simp [hj]
  rw [this];exact hL _ (List.getElem_mem hj)
 ·have:L.getD j 0=0:=by simp [Nat.not_lt.1 hj]
  rw [this];omega
theorem YdP {w:World} {F:Nat→Prop}:InW w (.slice none (0:Nat) (0:Nat)) [] F:=⟨none,0,rfl,fun j x h=>by simp at h⟩
theorem Ydj {S:Nat→Prop} {n:Nat} {w a b:World} (h:Below n w a) (hb:But S a b) (hs:∀x,S x→n≤x) (hn:n≤a.heap.size):Below n w b:=
 ⟨hb.os.trans h.os,hb.tape.trans h.tape,hb.output.trans h.output,Nat.le_trans h.size hb.size,fun x hx=>(hb.block x (by omega) fun e=>by have:=hs x e;omega).trans (h.block x hx)⟩
theorem YeQ {c:Cfg} (h1:NCok c) (h2:NTok c) (h3:Yb (YU c) c.nT) (h4:c.nCh≤8) (h5:Yb (ChOk c) c.nCh) (h6:c.nD≤4) (h7:Yb (DvOk c) c.nD) (h8:Yb (X3 c) c.nC):Y8 c 0 0:=by
 unfold Y8;exact .inr (.inr (.inr (.inr (.inr (.inr (.inr (.inr ⟨h1,h2,h3,h4,h5,h6,h7,h8,rfl,rfl⟩)))))))
end Go.Proofs.YtdoghgnifkgfdaaGreat.Mute
