import Derived.Test.YtdoghgnifkgfdaaP09
import Derived.Test.YtdoghgnifkgfdaaP11
set_option maxRecDepth 100000
set_option maxHeartbeats 16000000
namespace Go.Proofs.Ytdoghgnifkgfdaa
open Go.RowKit Go.Maps
def CfgW (c:Cfg):Prop:=∀i,i<c.nC→∀j,j<c.nCode i*4→-9223372036854775808≤c.code i j∧c.code i j≤9223372036854775807
theorem cellMayBe_any (c:Cfg) (cell b cap capc capi:Nat) (p pc pi:Option Addr) (w:World) (hu:UsersR w b c) (hs:Sl w p c.nD (fun j=>.int .i64 (c.dv j))) (hb:c.nD≤4)
  (hcode:Sl w pc (c.nCode cell*4) (fun j=>.int .i64 (c.code cell j))) (hcb:c.nCode cell≤8796093022208) (hib:c.nImg cell≤17592186044416) (hw:∀j,j<c.nCode cell*4→-9223372036854775808≤c.code cell j∧c.code cell j≤9223372036854775807):
  Calls Try.prog 80 #[.agg #[.int .i64 cell,.int .i64 (c.nCode cell),.slice p c.nD cap,.map (some b)],.agg #[.slice pc (c.nCode cell) capc,.slice pi (c.nImg cell) capi,.int .i64 (c.lim cell)]] w (Ans (CellOk c cell) (Below w.heap.size w)):=by
 have HA:Hid (∀o,Below w.heap.size w (w.alloc o)):=fun o=>(Below.refl _ _).alloc (Nat.le_refl _) _;have HB:Hid (∀o o',Below w.heap.size w ((w.alloc o).alloc o')):=fun o o'=>((Below.refl _ _).alloc (Nat.le_refl _) _).alloc (by simp) _;have HQ:Hid (∀o':Obj,Calls Try.prog 84 #[.slice pc (c.nCode cell) capc,.func (.func 85) #[] #[.pointer (some ⟨w.heap.size,0,none⟩)]] ((w.alloc (.cells #[.int .i64 cell,.int .i64 (c.nCode cell),.slice p c.nD cap,.map (some b)] 184)).alloc o')
   (Ans (¬AllOk (InsAt c cell) (c.nCode cell)) (Below ((w.alloc (.cells #[.int .i64 cell,.int .i64 (c.nCode cell),.slice p c.nD cap,.map (some b)] 184)).alloc o').heap.size ((w.alloc (.cells #[.int .i64 cell,.int .i64 (c.nCode cell),.slice p c.nD cap,.map (some b)] 184)).alloc o')))):=by
  intro o';refine contains_any pc (c.nCode cell) capc (c.code cell) w.heap.size (InsAt c cell) _ (hcode.below (HB.out _ _)) (by omega) (fun i hi wr hbel=>?_);have hb1:Below (w.heap.size+1) (w.alloc (.cells #[.int .i64 cell,.int .i64 (c.nCode cell),.slice p c.nD cap,.map (some b)] 184)) wr:=((Below.refl _ _).alloc (by simp) o').trans (hbel.mono (by simp));obtain ⟨x0,x1,x2,x3⟩:=box4 hb1;exact insClosure_any c cell b cap w.heap.size p _ _ _ _ wr x0 x1 x2 x3 (usersR_below hu (box_below hb1)) (hs.below (box_below hb1)) hb (wfi (hw _ (by omega)).1 (hw _ (by omega)).2)
 clear hu hs hcode hw;by_cases h1:(0≤c.lim cell∧c.lim cell≤5)∧c.nImg cell≤16
 case neg=>
  have HN:Hid (¬CellOk c cell):=fun h=>h1 ⟨h.1,h.2.1⟩
  go_enter Try.func80,Try.ntmps80
  go_wp2_with fail
  all_goals
   go_ret;exact Ans.no HN.out (HB.out _ _)
 obtain ⟨⟨g1,g2⟩,g3⟩:=h1;by_cases h2:1≤c.nCode cell∧c.nCode cell≤48
 case neg=>
  have HN:Hid (¬CellOk c cell):=fun h=>h2 h.2.2.1
  go_enter Try.func80,Try.ntmps80
  go_wp2_with fail
  all_goals
   go_ret;exact Ans.no HN.out (HB.out _ _)
 obtain ⟨g4,g5⟩:=h2;by_cases hok:AllOk (InsAt c cell) (c.nCode cell)
 ·have HO:Hid (AllOk (InsAt c cell) (c.nCode cell)):=hok;have HC:Hid (CellOk c cell):=⟨⟨g1,g2⟩,g3,⟨g4,g5⟩,hok⟩;clear hok
  go_enter Try.func80,Try.ntmps80
  go_wp2_with (go_at_call 84;refine (Ans.denies (HQ.out _) (fun h=>h HO.out)).mono ?_;rintro e w' ⟨rfl,hbel⟩)
  go_ret;exact Ans.yes HC.out (below2 hbel)
 ·have HO:Hid (¬AllOk (InsAt c cell) (c.nCode cell)):=hok;have HC:Hid (¬CellOk c cell):=fun h=>hok h.2.2.2;clear hok
  go_enter Try.func80,Try.ntmps80
  go_wp2_with (go_at_call 84;refine (Ans.says (HQ.out _) HO.out).mono ?_;rintro e w' ⟨rfl,hbel⟩)
  go_ret;exact Ans.no HC.out (below2 hbel)
theorem faultyCell_any (c:Cfg) (v0 v1 v2 v3:Value) (w:World) (h:CfgR w v0 v1 v2 v3 c) (hw:CfgW c) (h6:c.nC≤6) (h8:c.nCh≤8) (hch:AllOk (ChOk c) c.nCh) (h4:c.nD≤4):
  Calls Try.prog 62 #[.agg #[v0,v1,v2,v3]] w (Idx (CellOk c) c.nC w):=by
 obtain ⟨p0,cap0,F0,p1,cap1,F1,p2,cap2,p3,cap3,rfl,rfl,rfl,rfl,s0,k0,s1,k1,s2,s3,b0,b1,b2,b3⟩:=h.parts;clear h s1 k1 b1 b2 b3;have S0:Hid (Sl w p0 (c.nC*3) F0):=s0;have K0:Hid (∀i,i<c.nC→SlZ w (F0 (i*3)) (c.codeN i) (c.nCode i) 4 (c.code i) 32∧SlZ w (F0 (i*3+1)) (c.imgN i) (c.nImg i) 1 (c.img i) 8∧F0 (i*3+2)=.int .i64 (c.lim i)):=k0;have S2:Hid (Sl w p2 (c.nCh*3) (fun j=>.int .i64 (c.ch j))):=s2;have S3:Hid (Sl w p3 c.nD (fun j=>.int .i64 (c.dv j))):=s3;have HW0:Hid (CfgW c):=hw;have HC:Hid (AllOk (ChOk c) c.nCh):=hch;clear s0 k0 s2 s3 hw hch;have HA:Hid (∀o,Below w.heap.size w (w.alloc o)):=fun o=>(Below.refl _ _).alloc (Nat.le_refl _) _
 go_enter Try.func62,Try.ntmps62
 go_wp2_with fail
 refine (usersOf_any c p2 cap2 _ (S2.out.below (HA.out _)) h8 HC.out h6).mono ?_;rintro e w1 ⟨bm,rfl,hu,hbel⟩;have HU:Hid (UsersR w1 bm c):=hu;have HB1:Hid (Below (w.heap.size+1) (w.alloc (.cells #[.slice p0 c.nC cap0,.slice p1 c.nT cap1,.slice p2 c.nCh cap2,.slice p3 c.nD cap3] 39)) w1):=hbel.mono (by simp);obtain ⟨x0,x1,x2,x3⟩:=box4 HB1.out;have hH:w.heap.size<w1.heap.size:=block_lt_of_cell x0;clear hu hbel x1 x2;go_wp2_with fail
 go_loopw [13] (fun i wr=>∃k:Nat,k≤c.nC∧i=.int .i64 k∧Hid (AllOk (CellOk c) k)∧Hid (Below w1.heap.size w1 wr)) (fun i _=>c.nC-(intOf i).toNat)
 case atStart=>exact ⟨0,Nat.zero_le _,rfl,AllOk.zero _,Below.refl _ _⟩
 case round=>
  obtain ⟨k,hk,rfl,HI,HW⟩:=hrel;have HBr:Hid (Below (w.heap.size+1) (w.alloc (.cells #[.slice p0 c.nC cap0,.slice p1 c.nT cap1,.slice p2 c.nCh cap2,.slice p3 c.nD cap3] 39)) wr):=HB1.out.trans (HW.out.mono (by omega));clear x0 x3;by_cases hlt:k<c.nC
  ·obtain ⟨b,off,rfl,hc⟩:=(S0.out.below (box_below HBr.out)).at (by omega);obtain ⟨x0,x1,x2,x3⟩:=box4 HBr.out;have hH1:w.heap.size<wr.heap.size:=block_lt_of_cell x0;have hsz:w1.heap.size≤wr.heap.size:=HW.out.size;have c0:=hc (k*3) (by omega);have c1:=hc (k*3+1) (by omega);have c2:=hc (k*3+2) (by omega);have hbl:b<wr.heap.size:=block_lt_of_cell c0;rw [←Nat.add_assoc] at c1 c2;clear hc x1 x2;obtain ⟨⟨pc,capc,hF0,-,-,-,bc,sc⟩,⟨pi,capi,hF1,-,-,-,bi,-⟩,hF2⟩:=K0.out k hlt;rw [hF0] at c0;rw [hF1] at c1;rw [hF2] at c2;have hnc:c.nCode k≤8796093022208:=by omega
   have hni:c.nImg k≤17592186044416:=by omega
   have HQ:Hid (∀W,Below wr.heap.size wr W→Calls Try.prog 80 #[.agg #[.int .i64 k,.int .i64 (c.nCode k),.slice p3 c.nD cap3,.map (some bm)],.agg #[.slice pc (c.nCode k) capc,.slice pi (c.nImg k) capi,.int .i64 (c.lim k)]] W (Ans (CellOk c k) (Below W.heap.size W))):=fun W hW=>
    cellMayBe_any c k bm cap3 capc capi p3 pc pi W (usersR_below (usersR_below HU.out HW.out) hW) ((S3.out.below (box_below HBr.out)).below hW) h4 ((sc.below (box_below HBr.out)).below hW) hnc hni (HW0.out k hlt)
   have HB2:Hid (∀o o',Below wr.heap.size wr ((wr.alloc o).alloc o')):=fun o o'=>((Below.refl _ _).alloc (Nat.le_refl _) _).alloc (by simp) _;clear hF0 hF1 hF2 bc sc bi;by_cases hok:CellOk c k
   ·have HO:Hid (CellOk c k):=hok;clear hok;go_wp2_with (go_at_call 80;refine (Ans.says (HQ.out _ (by exact HB2.out _ _)) HO.out).mono ?_;rintro e w' ⟨rfl,hbel⟩)
    refine ⟨⟨k+1,by omega,by go_num,HI.out.step HO.out,?_⟩,by simp [intOf];omega⟩;exact HW.out.trans ((below2 hbel).mono hsz)
   ·have HO:Hid (¬CellOk c k):=hok;clear hok;go_wp2_with (go_at_call 80;refine (Ans.denies (HQ.out _ (by exact HB2.out _ _)) HO.out).mono ?_;rintro e w' ⟨rfl,hbel⟩)
    go_ret;exact Idx.some ⟨hlt,HO.out,HI.out⟩ (box_below (HBr.out.trans ((below2 hbel).mono (by omega))))
  ·obtain rfl:k=c.nC:=by omega
   go_wp2_with fail
   go_ret;exact Idx.none HI.out (box_below HBr.out)
def IdxL (L:Prop) (P:Nat→Prop) (n:Nat) (w:World) (e:Ending) (w':World):Prop:=
 ∃x:Int,e=.returned (.int .i64 x)∧((¬L∧x=0)∨(L∧x=-1∧AllOk P n)∨∃i:Nat,L∧x=i∧Bad1 P n i)∧Below w.heap.size w w'
theorem IdxL.of {L:Prop} {P:Nat→Prop} {n:Nat} {w w':World} {x:Int} (hL:L) (h:(x=-1∧AllOk P n)∨∃i:Nat,x=i∧Bad1 P n i) (hb:Below w.heap.size w w'):IdxL L P n w (.returned (.int .i64 x)) w':=
 ⟨x,rfl,.inr (h.elim (fun ⟨a,b⟩=>.inl ⟨hL,a,b⟩) (fun ⟨i,a,b⟩=>.inr ⟨i,hL,a,b⟩)),hb⟩
theorem IdxL.long {L:Prop} {P:Nat→Prop} {n:Nat} {w w':World} (hL:¬L) (hb:Below w.heap.size w w'):IdxL L P n w (.returned (.int .i64 0)) w':=⟨0,rfl,.inl ⟨hL,rfl⟩,hb⟩
theorem box1 {w w':World} {v0:Value} {t:Nat} (h:Below (w.alloc (.cells #[v0] t)).heap.size (w.alloc (.cells #[v0] t)) w'):w'.cell? ⟨w.heap.size,0,none⟩=some v0:=by
 rw [h.cell (p:=⟨w.heap.size,0,none⟩) (by simp)];exact cell_of_row _ _ _ _ _ _ (heap_alloc_new w _)
theorem faultyRow_any (c:Cfg) (p:Option Addr) (cap:Nat) (F:Nat→Value) (w:World) (hs:Sl w p c.nT F) (hk:∀i,i<c.nT→SlZ w (F i) (c.rowN i) (c.nRow i) 2 (c.row i) 16) (hb:c.nT≤8796093022208):
  Calls Try.prog 59 #[.slice p c.nT cap,.int .i64 c.nC] w (IdxL (NTok c) (RowAt c) c.nT w):=by
 have HA:Hid (∀o,Below w.heap.size w (w.alloc o)):=fun o=>(Below.refl _ _).alloc (Nat.le_refl _) _;have HQ:Hid (Calls Try.prog 70 #[.slice p c.nT cap,.func (.func 71) #[] #[.pointer (some ⟨w.heap.size,0,none⟩)]] (w.alloc (.cells #[.int .i64 c.nC] 3)) (Idx (RowAt c) c.nT (w.alloc (.cells #[.int .i64 c.nC] 3)))):=by
  refine rowIndex_any p c.nT cap F w.heap.size (RowAt c) _ (hs.below (HA.out _)) hb (fun i hi wr hbel=>?_);obtain ⟨pr,capr,hF,-,-,-,hbr,hsr⟩:=hk i hi;rw [hF];exact rowClosure_any pr (c.nRow i) capr c.nC w.heap.size (c.row i) wr (box1 hbel) ((hsr.below (HA.out _)).below hbel) hbr
 clear hs hk;by_cases hn:NTok c
 ·have HN:Hid (NTok c):=hn;have h1:1≤c.nT:=hn.1;have h2:c.nT≤8:=hn.2;clear hn
  go_enter Try.func59,Try.ntmps59
  go_wp2_with (go_at_call 70;refine HQ.out.mono ?_;rintro e w' ⟨x,rfl,hx,hbel⟩;have HX:Hid _:=hx;clear hx)
  go_ret;exact IdxL.of HN.out HX.out (below1 hbel)
 ·have HN:Hid (¬NTok c):=hn;have hq:c.nT<1∨8<c.nT:=by unfold NTok at hn;omega
  clear hn;rcases hq with hq|hq
  all_goals
   go_enter Try.func59,Try.ntmps59
   go_wp2_with fail
   go_ret;exact IdxL.long HN.out (HA.out _)
theorem faultyChan_any (c:Cfg) (p:Option Addr) (cap:Nat) (w:World) (hs:Sl w p (c.nCh*3) (fun j=>.int .i64 (c.ch j))) (hb:c.nCh≤8796093022208):
  Calls Try.prog 60 #[.slice p c.nCh cap,.int .i64 c.nC] w (IdxL (c.nCh≤8) (ChOk c) c.nCh w):=by
 have HA:Hid (∀o,Below w.heap.size w (w.alloc o)):=fun o=>(Below.refl _ _).alloc (Nat.le_refl _) _;have HQ:Hid (Calls Try.prog 73 #[.slice p c.nCh cap,.func (.func 74) #[] #[.pointer (some ⟨w.heap.size,0,none⟩)]] (w.alloc (.cells #[.int .i64 c.nC] 3)) (Idx (ChOk c) c.nCh (w.alloc (.cells #[.int .i64 c.nC] 3)))):=
  chanIndex_any p c.nCh cap c.ch w.heap.size (ChOk c) _ (hs.below (HA.out _)) (by omega) (fun i hi wr hbel=>chanClosure_any _ _ _ c.nC w.heap.size wr (box1 hbel))
 clear hs;by_cases h2:c.nCh≤8
 ·go_enter Try.func60,Try.ntmps60
  go_wp2_with (go_at_call 73;refine HQ.out.mono ?_;rintro e w' ⟨x,rfl,hx,hbel⟩;have HX:Hid _:=hx;clear hx)
  go_ret;exact IdxL.of h2 HX.out (below1 hbel)
 ·go_enter Try.func60,Try.ntmps60
  go_wp2_with fail
  go_ret;exact IdxL.long h2 (HA.out _)
theorem faultyDev_any (c:Cfg) (p:Option Addr) (cap:Nat) (w:World) (hs:Sl w p c.nD (fun j=>.int .i64 (c.dv j))) (hb:c.nD≤17592186044416):
  Calls Try.prog 61 #[.slice p c.nD cap,.int .i64 c.nC] w (IdxL (c.nD≤4) (DvOk c) c.nD w):=by
 have HA:Hid (∀o,Below w.heap.size w (w.alloc o)):=fun o=>(Below.refl _ _).alloc (Nat.le_refl _) _;have HQ:Hid (Calls Try.prog 76 #[.slice p c.nD cap,.func (.func 77) #[] #[.pointer (some ⟨w.heap.size,0,none⟩)]] (w.alloc (.cells #[.int .i64 c.nC] 3)) (Idx (DvOk c) c.nD (w.alloc (.cells #[.int .i64 c.nC] 3)))):=
  devIndex_any p c.nD cap c.dv w.heap.size (DvOk c) _ (hs.below (HA.out _)) (by omega) (fun i hi wr hbel=>devClosure_any _ c.nC w.heap.size wr (box1 hbel))
 clear hs;by_cases h2:c.nD≤4
 ·go_enter Try.func61,Try.ntmps61
  go_wp2_with (go_at_call 76;refine HQ.out.mono ?_;rintro e w' ⟨x,rfl,hx,hbel⟩;have HX:Hid _:=hx;clear hx)
  go_ret;exact IdxL.of h2 HX.out (below1 hbel)
 ·go_enter Try.func61,Try.ntmps61
  go_wp2_with fail
  go_ret;exact IdxL.long h2 (HA.out _)
end Go.Proofs.Ytdoghgnifkgfdaa
