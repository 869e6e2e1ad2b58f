import Derived.Deep.RegionHeld3
import Derived.Deep.Cut
import Derived.Test.YtdoghgnifkgfdaaP42
set_option maxRecDepth 100000
set_option maxHeartbeats 16000000
namespace Go.Proofs.Ytdoghgnifkgfdaa
open Go.RowKit
theorem nameOne : (Try.f29.name == "runtime.NumGoroutine") = false := by kernel_rfl
theorem bodyOne:Try.f29.body.isNone=false:=by kernel_rfl
theorem config_any (A:Nat→Option Addr) (K:Nat→Nat) (P:Pl) (w:World) (hP:PlanR w A P):
  Calls Try.prog 10 #[planV A K P] w fun e w'=>∃v0 v1 v2 v3,e=.returned (.agg #[v0,v1,v2,v3])∧Below w.heap.size w w'∧CfgR w' v0 v1 v2 v3 (cfgP P (fun _=>P)):=by
 have HP:Hid (PlanR w A P):=hP;clear hP;have HB0:Hid (Below w.heap.size w ((w.alloc (planO A K P)).alloc (.cells #[.slice none 0 0,.slice none 0 0,.slice none 0 0,.slice none 0 0] 39))∧RowF ((w.alloc (planO A K P)).alloc (.cells #[.slice none 0 0,.slice none 0 0,.slice none 0 0,.slice none 0 0] 39)) w.heap.size 14 47 (planF A K P)∧RowF ((w.alloc (planO A K P)).alloc (.cells #[.slice none 0 0,.slice none 0 0,.slice none 0 0,.slice none 0 0] 39)) (w.heap.size+1) 4 39 (cells4 (.slice none 0 0) (.slice none 0 0) (.slice none 0 0) (.slice none 0 0))∧((w.alloc (planO A K P)).alloc (.cells #[.slice none 0 0,.slice none 0 0,.slice none 0 0,.slice none 0 0] 39)).heap.size=w.heap.size+1+1):=by
  have x1:=row4 (w.alloc (planO A K P)) (.slice none 0 0) (.slice none 0 0) (.slice none 0 0) (.slice none 0 0) 39;rw [World.size_alloc] at x1;exact ⟨((Below.refl _ _).alloc (Nat.le_refl _) _).alloc (by simp) _,(plan_row w A K P).alloc _,x1,by simp⟩
 unfold planO at HB0;unfold planV
 go_enter Try.func10,Try.ntmps10
 go_upto_region 1 with fail
 generalize ((w.alloc (.cells #[.slice (A 0) (P.nC 0) (K 0),.slice (A 1) (P.nC 1) (K 1),.slice (A 2) (P.nC 2) (K 2),.slice (A 3) (P.nC 3) (K 3),.int .i64 (P.lim 0),.int .i64 (P.lim 1),.int .i64 (P.lim 2),.int .i64 (P.lim 3),.int .i64 (P.img 0),.int .i64 (P.img 1),.int .i64 (P.img 2),.int .i64 (P.img 3),.slice (A 4) P.nW (K 4),.slice (A 5) P.nD (K 5)] 47)).alloc (.cells #[.slice none 0 0,.slice none 0 0,.slice none 0 0,.slice none 0 0] 39))=W0 at *;have g12:W0.cell? ⟨w.heap.size,12,none⟩=some (.slice (A 4) P.nW (K 4)):=HB0.out.2.1.cell (by omega);have hz0:=HB0.out.2.2.2;have hn2:¬w.heap.size+1+1=w.heap.size:=by omega
 have hn3:¬w.heap.size=w.heap.size+1+1:=by omega
 go_cut [3] from 6 (fun s3 wx=>∃B3 BT vw,s3=.pointer (some ⟨B3,0,none⟩)∧Hid (CfW w wx (planF A K P) B3 BT (.slice none 0 0) vw (.slice none 0 0) P.ways (plK P))∧Hid (P.nW=0→vw=.slice none 0 0))
 case first=>
  go_region_held3 (fun W=>W.cell? ⟨w.heap.size,12,none⟩=some (.slice (A 4) P.nW (K 4))) (go_keep)
   (first
    |(go_at_call 27
      refine (table_any (W0.alloc (.cells #[.slice none 0 0,.slice none 0 0,.slice none 0 0,.slice none 0 0] 39)).drew).mono ?_;rintro e wt ⟨rfl,hT⟩;have k12:wt.cell? ⟨w.heap.size,12,none⟩=some (.slice (A 4) P.nW (K 4)):=(hT.1.cell (p:=⟨w.heap.size,12,none⟩) (by show w.heap.size<(W0.alloc _).heap.size;simp;omega)).trans ((((Below.refl W0.heap.size W0).alloc (Nat.le_refl _) _).cell (p:=⟨w.heap.size,12,none⟩) (by show w.heap.size<W0.heap.size;omega)).trans g12);have R:RowF wt (w.heap.size+1+1) 4 39 (cells4 (.slice none 0 0) (.slice none 0 0) (.slice none 0 0) (.slice none 0 0)):=(RowF.of_heap (w':=(W0.alloc (.cells #[.slice none 0 0,.slice none 0 0,.slice none 0 0,.slice none 0 0] 39)).drew) (hz0▸row4 W0 (.slice none 0 0) (.slice none 0 0) (.slice none 0 0) (.slice none 0 0) 39) rfl).below hT.1 (by show w.heap.size+1+1<(W0.alloc _).heap.size;simp;omega);obtain ⟨z0,z1,z2,z3⟩:=R.at4;have z0f:=R.frozen 0;have z1f:=R.frozen 1;have z2f:=R.frozen 2;have z3f:=R.frozen 3;have HZ:Hid (RowF wt (w.heap.size+1+1) 4 39 (cells4 (.slice none 0 0) (.slice none 0 0) (.slice none 0 0) (.slice none 0 0))):=R;have HT:Hid (_∧_):=hT;have HBT:Hid (Below w.heap.size w wt):=bel_then (HB0.out.1.alloc HB0.out.1.size _).drew hT.1 (by show _≤(W0.alloc _).heap.size;simp;omega);have htz:w.heap.size<wt.heap.size:=HZ.out.lt |> fun h=>by omega
      clear hT R)
    |(go_at_call 27
      refine (table_any W0.drew).mono ?_;rintro e wt ⟨rfl,hT⟩;have k12:wt.cell? ⟨w.heap.size,12,none⟩=some (.slice (A 4) P.nW (K 4)):=(hT.1.cell (p:=⟨w.heap.size,12,none⟩) (by show w.heap.size<W0.heap.size;omega)).trans g12;have HT:Hid (_∧_):=hT;have htz:w.heap.size<wt.heap.size:=by have:=hT.1.size;have e:W0.drew.heap.size=W0.heap.size:=rfl;omega
      have HBT:Hid (Below w.heap.size w wt):=bel_then HB0.out.1.drew hT.1 (by show _≤W0.heap.size;omega);have htn:¬wt.heap.size=w.heap.size:=by omega
      have htn2:¬w.heap.size=wt.heap.size:=by omega
      clear hT)
    |(go_at_call 28
      refine (ways_any (A 4) P.nW (K 4) P.ways (wt.alloc (.cells #[.slice none 0 0,.slice none 0 0,.slice none 0 0,.slice none 0 0] 39)) ?_ HP.out.ways.2.1 HP.out.ways.2.2).mono ?_
      ·exact HP.out.ways.1.below (HBT.out.alloc HBT.out.size _)
      rintro e ww ⟨vw,rfl,hbw,how,hvw⟩;obtain ⟨pw,mw,cw,rfl⟩:=own_slice how;have k12w:ww.cell? ⟨w.heap.size,12,none⟩=some (.slice (A 4) P.nW (K 4)):=(hbw.cell (p:=⟨w.heap.size,12,none⟩) (by show w.heap.size<(wt.alloc _).heap.size;simp;omega)).trans ((((Below.refl wt.heap.size wt).alloc (Nat.le_refl _) _).cell (p:=⟨w.heap.size,12,none⟩) htz).trans k12);have R:RowF ww wt.heap.size 4 39 (cells4 (.slice none 0 0) (.slice none 0 0) (.slice none 0 0) (.slice none 0 0)):=(row4 wt (.slice none 0 0) (.slice none 0 0) (.slice none 0 0) (.slice none 0 0) 39).below hbw (by simp);obtain ⟨z0,z1,z2,z3⟩:=R.at4;have z0f:=R.frozen 0;have z1f:=R.frozen 1;have z2f:=R.frozen 2;have z3f:=R.frozen 3;have HZ:Hid (RowF ww wt.heap.size 4 39 (cells4 (.slice none 0 0) (.slice none 0 0) (.slice none 0 0) (.slice none 0 0))):=R;have HWW:Hid (_∧_):=⟨hbw,how⟩;have HVW:Hid (P.nW=0→Value.slice pw mw cw=.slice none 0 0):=hvw;clear hbw how R hvw)
    |(go_at_call 28
      refine (ways_any (A 4) P.nW (K 4) P.ways wt ?_ HP.out.ways.2.1 HP.out.ways.2.2).mono ?_
      ·exact HP.out.ways.1.below HBT.out
      rintro e ww ⟨vw,rfl,hbw,how,hvw⟩;obtain ⟨pw,mw,cw,rfl⟩:=own_slice how;have k12w:ww.cell? ⟨w.heap.size,12,none⟩=some (.slice (A 4) P.nW (K 4)):=(hbw.cell (p:=⟨w.heap.size,12,none⟩) htz).trans k12;have R:RowF ww (w.heap.size+1+1) 4 39 (cells4 (.slice none 0 0) (.slice none 0 0) (.slice none 0 0) (.slice none 0 0)):=HZ.out.below hbw HZ.out.lt;clear z0 z1 z2 z3 z0f z1f z2f z3f;obtain ⟨z0,z1,z2,z3⟩:=R.at4;have z0f:=R.frozen 0;have z1f:=R.frozen 1;have z2f:=R.frozen 2;have z3f:=R.frozen 3;have HZ2:Hid (RowF ww (w.heap.size+1+1) 4 39 (cells4 (.slice none 0 0) (.slice none 0 0) (.slice none 0 0) (.slice none 0 0))):=R;have HWW:Hid (_∧_):=⟨hbw,how⟩;have HVW:Hid (P.nW=0→Value.slice pw mw cw=.slice none 0 0):=hvw;clear hbw how R hvw)
    |(go_at_call 28
      refine (ways_any (A 4) P.nW (K 4) P.ways wt ?_ HP.out.ways.2.1 HP.out.ways.2.2).mono ?_
      ·exact HP.out.ways.1.below HBT.out
      rintro e ww ⟨vw,rfl,hbw,how,hvw⟩;obtain ⟨pw,mw,cw,rfl⟩:=own_slice how;have k12w:ww.cell? ⟨w.heap.size,12,none⟩=some (.slice (A 4) P.nW (K 4)):=(hbw.cell (p:=⟨w.heap.size,12,none⟩) htz).trans k12;have HWW:Hid (_∧_):=⟨hbw,how⟩;have HVW:Hid (P.nW=0→Value.slice pw mw cw=.slice none 0 0):=hvw;have hwz:¬ww.heap.size=w.heap.size:=by have:=hbw.size;omega
      have hwz2:¬w.heap.size=ww.heap.size:=by omega
      clear hbw how hvw))
  ·go_wp2_with fail
   go_meet
   exact ⟨ww.heap.size,w.heap.size+1+1,_,rfl,(cfp_of (BT:=w.heap.size+1+1) HB0.out.1.drew hz0 (by omega) (HB0.out.2.1.of_heap rfl) (HB0.out.2.2.1.of_heap rfl) HT.out (Below.refl _ _) HWW.out.1 HWW.out.2).last (by have h1:=HT.out.1.size;have h2:=HWW.out.1.size;have e:W0.drew.heap.size=W0.heap.size:=rfl;omega),HVW⟩
  ·go_wp2_with fail
   go_meet
   exact ⟨wt.heap.size,w.heap.size+1+1,_,rfl,(cfp_of (BT:=w.heap.size+1+1) HB0.out.1.drew hz0 (by omega) (HB0.out.2.1.of_heap rfl) (HB0.out.2.2.1.of_heap rfl) HT.out ((Below.refl _ _).alloc (Nat.le_refl _) _) HWW.out.1 HWW.out.2).set HZ.out (by have h1:=HT.out.1.size;have e:W0.drew.heap.size=W0.heap.size:=rfl;omega),HVW⟩
  ·go_wp2_with fail
   go_meet
   exact ⟨w.heap.size+1+1,w.heap.size+1+1+1,_,rfl,(cfp_of (BT:=w.heap.size+1+1+1) (HB0.out.1.alloc HB0.out.1.size _).drew (by show (W0.alloc _).heap.size=_;simp;omega) (by omega) ((HB0.out.2.1.alloc _).of_heap rfl) ((HB0.out.2.2.1.alloc _).of_heap rfl) HT.out (Below.refl _ _) HWW.out.1 HWW.out.2).set HZ2.out (by omega),HVW⟩
 case rest=>
 obtain ⟨B3,BT,vw,rfl,HW,HVW⟩:=hcut;clear g12 hz0 HB0 hn2 hn3;go_wp2_with fail
 go_loopw [4] (fun i wr=>∃d:Nat,d≤P.nD∧d≤4∧i=.int .i64 d∧Hid (∃vd,CfW w wr (planF A K P) B3 BT (.slice none 0 0) vw vd P.ways (plK P)∧wr.ownsRow (w.heap.size+2) 3 1 vd d (devL P.devs d)∧(d=0→vd=.slice none 0 0))) (fun i _=>4-(intOf i).toNat)
 case atStart=>exact ⟨0,Nat.zero_le _,Nat.zero_le _,rfl,_,HW.out,World.ownsRow_nil _ _ _ _,fun _=>rfl⟩
 case round=>
  obtain ⟨d,hd,hd4,rfl,HR⟩:=hrel;obtain ⟨vd,hcf,hown,hvn⟩:=HR.out;obtain ⟨pd,md,cd,rfl⟩:=own_slice hown;have HC:Hid (CfW w wr (planF A K P) B3 BT (.slice none 0 0) vw (.slice pd md cd) P.ways (plK P)):=hcf;have HO:Hid (wr.ownsRow (w.heap.size+2) 3 1 (.slice pd md cd) d (devL P.devs d)):=hown;have g13:wr.cell? ⟨w.heap.size,13,none⟩=some (.slice (A 5) P.nD (K 5)):=hcf.r0.cell (by omega);have b3:wr.cell? ⟨B3,3,none⟩=some (.slice pd md cd):=hcf.r3.cell (by omega);have b3f:=hcf.r3.frozen 3;have hB3:B3<wr.heap.size:=hcf.r3.lt;have hw2:w.heap.size+2≤wr.heap.size:=by have:=hcf.r1.lt;omega
  have HVN:Hid (d=0→Value.slice pd md cd=.slice none 0 0):=hvn;clear hcf hown HR hvn;by_cases hr:d<P.nD∧d<4
  ·obtain ⟨hlt,h4⟩:=hr;have hli:(d:Int)<(P.nD:Int):=by omega
   have h4i:(d:Int)<4:=by omega
   obtain ⟨b,o,hA,hc⟩:=(HP.out.devs.1.below HC.out.bel).at (by omega);have c0:=hc d hlt;have zb:=HP.out.devs.2.1 d hlt;clear hc;rw [hA] at g13;clear hA;obtain ⟨zd,HZ⟩:∃zd,Hid (P.devs d=zd):=⟨_,rfl⟩;rw [HZ.out] at c0 zb
   go_upto_region 5 with fail
   go_region_law
    (first
     |(refine step_call_go2 rfl 11 _ _ _ _ rfl _ _ rfl rfl Try.f11 Try.func11 namePick bodyPick (fun r w'=>r=.int .i64 (pk zd 4)∧w'=wr.drew) ?_ ?_
       ·exact (pickI_any zd 4 wr.drew (by decide) zb.1 zb.2).mono (fun e w' ⟨h1,h2⟩=>⟨_,h1,rfl,h2⟩)
       rintro r wl ⟨rfl,rfl⟩)
     |(refine step_append_info rfl _ _ 37 rfl (w.heap.size+2) 3 _ 1 8 Try.underlying37 info_int1 rfl (by omega) (.slice pd md cd) d (devL P.devs d) rfl (own_below HO.out ((Below.refl wr.heap.size wr).drew.alloc (Nat.le_refl _) _)) wr.heap.size [.int .i64 (pk zd 4)] 3 rfl rfl (by exact alloc_at rfl) (by intro u hu;simp at hu;subst hu;rfl) (by simp only [maxLen];omega) (by omega) (by simp;omega) ?_
       intro g cap wg hown1 hgrow1 hat hlt1;have hcf2:=HC.out.grow HO.out (by decide) ((Below.refl wr.heap.size wr).drew.alloc (Nat.le_refl _) _) hgrow1;have q9:wg.cell? ⟨B3,3,none⟩=some (.slice pd md cd):=hcf2.r3.cell (by omega);have q9f:=hcf2.r3.frozen 3;have HS:Hid (CfW w (wg.setCell ⟨B3,3,none⟩ (.slice (some ⟨g,0,none⟩) (d+1) cap)) (planF A K P) B3 BT (.slice none 0 0) vw (.slice (some ⟨g,0,none⟩) (d+1) cap) P.ways (plK P)∧(wg.setCell ⟨B3,3,none⟩ (.slice (some ⟨g,0,none⟩) (d+1) cap)).ownsRow (w.heap.size+2) 3 1 (.slice (some ⟨g,0,none⟩) (d+1) cap) (d+1) (devL P.devs (d+1))):=⟨hcf2.put3 _,hcf2.own (by rw [devL_step,HZ.out];exact hown1) (by decide) _ _⟩;clear hown1 hgrow1 hat hlt1 hcf2))
   all_goals (go_wp2_with fail;exact ⟨⟨d+1,by omega,by omega,by go_num,_,HS.out.1,HS.out.2,fun h=>absurd h (by omega)⟩,by simp [intOf];omega⟩)
  ·have hcase:((d:Int)<(P.nD:Int)∧¬(d:Int)<4)∨¬(d:Int)<(P.nD:Int):=by omega
   have hde:d=plD P:=by unfold plD;omega
   have HO2:Hid (wr.ownsRow (w.heap.size+2) 3 1 (.slice pd md cd) (plD P) (devL P.devs (plD P))):=by rw [←hde];exact HO.out
   have HVN2:Hid (P.nD=0→Value.slice pd md cd=.slice none 0 0):=fun h=>HVN.out (by rw [hde];unfold plD;omega);clear hde hr HO HVN b3 b3f;rcases hcase with ⟨hli,h4i⟩|hli
   all_goals
    (go_wp2_with fail
     go_loopw [5] (fun i wx=>∃n:Nat,n≤4∧i=.int .i64 n∧Hid (∃v0 cv gi,CfW w wx (planF A K P) B3 BT v0 vw (.slice pd md cd) P.ways (plK P)∧wx.ownsRow (w.heap.size+2) 3 1 (.slice pd md cd) (plD P) (devL P.devs (plD P))∧CellsW w wx P v0 cv gi n)) (fun i _=>4-(intOf i).toNat)
     case atStart=>exact ⟨0,Nat.zero_le _,rfl,_,fun _=>.slice none 0 0,fun _=>0,HC.out,HO2.out,World.ownsRow_nil _ _ _ _,fun i hi=>absurd hi (by omega),fun i hi=>absurd hi (by omega)⟩
     case round=>
      clear HC HO2 hw2 hB3;obtain ⟨n,hn4,rfl,HR⟩:=hrel;obtain ⟨v0,cv,gi,hcf,hdv,hce⟩:=HR.out;obtain ⟨p0,cap0,rfl,-,-,-⟩:=own_sl hce.own;obtain ⟨pw,capw,rfl,-,-,HSW⟩:=own_sl hcf.ch;obtain ⟨pd',capd,ed,-,-,HSD⟩:=own_sl (size:=1) (F:=fun j=>.int .i64 (plDv P j)) (by rw [Nat.mul_one];exact hdv);injection ed with ed1 ed2 ed3
      subst ed1 ed2 ed3;have HC:Hid (CfW w wr (planF A K P) B3 BT (.slice p0 n cap0) (.slice pw (plK P) capw) (.slice pd (plD P) cd) P.ways (plK P)):=hcf;have HO:Hid (wr.ownsRow (w.heap.size+2) 3 1 (.slice pd (plD P) cd) (plD P) (devL P.devs (plD P))):=hdv;have HE:Hid (CellsW w wr P (.slice p0 n cap0) cv gi n):=hce;have hB3:B3<wr.heap.size:=hcf.r3.lt;have hw2:w.heap.size+2≤wr.heap.size:=by have:=hcf.r1.lt;omega
      have b0:wr.cell? ⟨B3,0,none⟩=some (.slice p0 n cap0):=hcf.r3.cell (by omega);have b1:wr.cell? ⟨B3,1,none⟩=some (.slice (some ⟨BT+1+1+1,0,none⟩) 3 3):=hcf.r3.cell (by omega);have b2:wr.cell? ⟨B3,2,none⟩=some (.slice pw (plK P) capw):=hcf.r3.cell (by omega);have b3:wr.cell? ⟨B3,3,none⟩=some (.slice pd (plD P) cd):=hcf.r3.cell (by omega);have b0f:=hcf.r3.frozen 0;by_cases hlt:n<4
      ·have hli:(n:Int)<4:=by omega
       have g0:wr.cell? ⟨w.heap.size,0,none⟩=some (.slice (A 0) (P.nC 0) (K 0)):=hcf.r0.cell (by omega);have g1:wr.cell? ⟨w.heap.size,1,none⟩=some (.slice (A 1) (P.nC 1) (K 1)):=hcf.r0.cell (by omega);have g2:wr.cell? ⟨w.heap.size,2,none⟩=some (.slice (A 2) (P.nC 2) (K 2)):=hcf.r0.cell (by omega);have g3:wr.cell? ⟨w.heap.size,3,none⟩=some (.slice (A 3) (P.nC 3) (K 3)):=hcf.r0.cell (by omega);have g4:wr.cell? ⟨w.heap.size,4,none⟩=some (.int .i64 (P.lim 0)):=hcf.r0.cell (by omega);have g5:wr.cell? ⟨w.heap.size,5,none⟩=some (.int .i64 (P.lim 1)):=hcf.r0.cell (by omega);have g6:wr.cell? ⟨w.heap.size,6,none⟩=some (.int .i64 (P.lim 2)):=hcf.r0.cell (by omega);have g7:wr.cell? ⟨w.heap.size,7,none⟩=some (.int .i64 (P.lim 3)):=hcf.r0.cell (by omega);have g8:wr.cell? ⟨w.heap.size,8,none⟩=some (.int .i64 (P.img 0)):=hcf.r0.cell (by omega);have g9:wr.cell? ⟨w.heap.size,9,none⟩=some (.int .i64 (P.img 1)):=hcf.r0.cell (by omega);have g10:wr.cell? ⟨w.heap.size,10,none⟩=some (.int .i64 (P.img 2)):=hcf.r0.cell (by omega);have g11:wr.cell? ⟨w.heap.size,11,none⟩=some (.int .i64 (P.img 3)):=hcf.r0.cell (by omega);have g12:wr.cell? ⟨w.heap.size,12,none⟩=some (.slice (A 4) P.nW (K 4)):=hcf.r0.cell (by omega);have g13:wr.cell? ⟨w.heap.size,13,none⟩=some (.slice (A 5) P.nD (K 5)):=hcf.r0.cell (by omega);have HPw:Hid (PlanR wr.drew A P):=plan_below HP.out HC.out.bel.drew;have HSW2:Hid (Sl wr.drew pw (plK P*3) (fun j=>.int .i64 (plCh P j))):=HSW;have HSD2:Hid (Sl wr.drew pd (plD P) (fun j=>.int .i64 (plDv P j))):=by rw [Nat.mul_one] at HSD;exact HSD
       have hkb:plK P≤1000:=by unfold plK;omega
       have hdb:plD P≤1000:=by unfold plD;omega
       clear hcf hdv hce HR HSW HSD
       go_upto_region 9 with fail
       go_region_law
        (first
         |(refine step_call_k3 rfl 29 _ _ _ _ _ _ rfl _ _ _ rfl rfl rfl Try.f29 Try.func29 nameOne bodyOne (fun r w'=>∃pv mv cc g,r=.agg #[.slice pv mv cc,.slice (some ⟨g,0,none⟩) 2 2,.int .i64 (pk (P.lim n) 6)]∧Below wr.heap.size wr w'∧w'.ownsRow wr.heap.size 73 4 (.slice pv mv cc) (plN P n+1) (codeL (plCode (plK P) (plCh P) (plD P) (plDv P) P n) (plN P n+1))∧RowF w' g 2 2 (twoF (P.img n))∧wr.heap.size≤g) ?_ ?_
           ·refine (one_any A K P n hlt p0 (some ⟨BT+1+1+1,0,none⟩) pw pd n cap0 3 3 (plK P) capw (plD P) cd (plCh P) (plDv P) wr.drew HPw.out HSW2.out HSD2.out hkb hdb).mono ?_;rintro e w' ⟨v,g,rfl,h1,h2,h3,h4⟩;obtain ⟨pv,mv,cc,rfl⟩:=own_slice h2;exact ⟨_,rfl,pv,mv,cc,g,rfl,((Below.refl wr.heap.size wr).drew).trans h1,h2,h3,h4⟩
           rintro r w1 ⟨pv,mv,cc,g,rfl,hb1,ho1,hi1,hg1⟩;have b0':w1.cell? ⟨B3,0,none⟩=some (.slice p0 n cap0):=(hb1.cell (p:=⟨B3,0,none⟩) hB3).trans b0;have hB3':B3<w1.heap.size:=Nat.lt_of_lt_of_le hB3 hb1.size;have H1:Hid (Below wr.heap.size wr w1∧w1.ownsRow wr.heap.size 73 4 (.slice pv mv cc) (plN P n+1) (codeL (plCode (plK P) (plCh P) (plD P) (plDv P) P n) (plN P n+1))∧RowF w1 g 2 2 (twoF (P.img n))∧wr.heap.size≤g):=⟨hb1,ho1,hi1,hg1⟩;have hw1:w.heap.size+2≤w1.heap.size:=Nat.le_trans hw2 hb1.size;clear hb1 ho1 hi1 hg1)
         |(refine step_append_info rfl _ _ 34 rfl (w.heap.size+2) 70 _ 3 56 Try.underlying34 info_cell rfl (by omega) (.slice p0 n cap0) n (cellsV P cv gi n) rfl (own_below HE.out.own (H1.out.1.alloc H1.out.1.size _)) w1.heap.size [.slice pv mv cc,.slice (some ⟨g,0,none⟩) 2 2,.int .i64 (pk (P.lim n) 6)] 70 rfl rfl (by exact alloc_at rfl) (by intro u hu;simp at hu;rcases hu with rfl|rfl|rfl<;>rfl) (by simp only [maxLen];omega) (by omega) (by simp;omega) ?_
           intro g2 cap wg hown1 hgrow1 hat hlt1;have hW:=H1.out.1.alloc H1.out.1.size (.cells #[.slice pv mv cc,.slice (some ⟨g,0,none⟩) 2 2,.int .i64 (pk (P.lim n) 6)] 70);have hcf2:=HC.out.grow HE.out.own (by decide) hW hgrow1;have q9:wg.cell? ⟨B3,0,none⟩=some (.slice p0 n cap0):=hcf2.r3.cell (by omega);have q9f:=hcf2.r3.frozen 0;have HS:Hid (CfW w (wg.setCell ⟨B3,0,none⟩ (.slice (some ⟨g2,0,none⟩) (n+1) cap)) (planF A K P) B3 BT (.slice (some ⟨g2,0,none⟩) (n+1) cap) (.slice pw (plK P) capw) (.slice pd (plD P) cd) P.ways (plK P)∧CellsW w (wg.setCell ⟨B3,0,none⟩ (.slice (some ⟨g2,0,none⟩) (n+1) cap)) P (.slice (some ⟨g2,0,none⟩) (n+1) cap) (setV cv n (.slice pv mv cc)) (setAt gi n g) (n+1)∧(wg.setCell ⟨B3,0,none⟩ (.slice (some ⟨g2,0,none⟩) (n+1) cap)).ownsRow (w.heap.size+2) 3 1 (.slice pd (plD P) cd) (plD P) (devL P.devs (plD P))):=HE.out.step HC.out HO.out hW (own_below H1.out.2.1 ((Below.refl _ _).alloc (Nat.le_refl _) _)) (H1.out.2.2.1.alloc _) H1.out.2.2.2 hown1 hgrow1;clear hown1 hgrow1 hat hlt1 hcf2 hW))
       all_goals (go_wp2_with fail;exact ⟨⟨n+1,by omega,by go_num,_,_,_,HS.out.1,HS.out.2.2,HS.out.2.1⟩,by simp [intOf];omega⟩)
      ·obtain rfl:n=4:=by omega
       have a0:wr.cell? ⟨w.heap.size+1,0,none⟩=some (.slice none 0 0):=hcf.r1.cell (by omega);have a1:wr.cell? ⟨w.heap.size+1,1,none⟩=some (.slice none 0 0):=hcf.r1.cell (by omega);have a2:wr.cell? ⟨w.heap.size+1,2,none⟩=some (.slice none 0 0):=hcf.r1.cell (by omega);have a3:wr.cell? ⟨w.heap.size+1,3,none⟩=some (.slice none 0 0):=hcf.r1.cell (by omega);have a0f:=hcf.r1.frozen 0;have a1f:=hcf.r1.frozen 1;have a2f:=hcf.r1.frozen 2;have a3f:=hcf.r1.frozen 3;have HEND:Hid (_∧_):=cfg_end hcf hce hdv HVW.out HVN2.out;clear hcf hdv hce HR HSW HSD;go_wp2_with fail
       refine bodyPost_ret (results_cell_row (P:=Try.prog) rfl _ _ (w.heap.size+1) 39 #[.slice p0 4 cap0,.slice (some ⟨BT+1+1+1,0,none⟩) 3 3,.slice pw (plK P) capw,.slice pd (plD P) cd] (0,0) _ rfl HEND.out.1 Try.underlying39 rfl size_config) rfl ?_;exact ⟨_,_,_,_,rfl,HEND.out.2.1,HEND.out.2.2⟩)
end Go.Proofs.Ytdoghgnifkgfdaa
