import Derived.Test.YtdoghgnifkgfdaaGreatP00
import Derived.Test.YtdoghgnifkgfdaaGreatP07
import Derived.Test.YtdoghgnifkgfdaaGreatP08
import Derived.Test.YtdoghgnifkgfdaaGreatP10
import Derived.Test.YtdoghgnifkgfdaaGreatP11
import Derived.Test.YtdoghgnifkgfdaaGreatP14
import Derived.Test.YtdoghgnifkgfdaaGreatP15
import Derived.Test.YtdoghgnifkgfdaaGreatP16
set_option maxRecDepth 100000
set_option maxHeartbeats 16000000
open Option renaming none->Ai,some->yi
open Go renaming World->ui,Value->ti,undef->ri
open Bool renaming true->ji,false->gi
namespace Go.Proofs.YtdoghgnifkgfdaaGreat
open Tryz Go.RowKit
theorem ou.back{w0 w1 w:ui}{base S B c tB t k i:Nat}{fB:Nat->ti}{ve:ti}{us:List ti}{v:ti}{n:Nat}{xs:List ti}(h:ou w1 base S B c tB t k i fB ve us v n xs w)(hb:Below w0.heap.size w0 w1):ou w0 base S B c tB t k i fB ve us v n xs w:=
 ⟨⟨h.but.os.trans hb.os,h.but.tape.trans hb.tape,h.but.output.trans hb.output,Nat.le_trans hb.size h.but.size,fun b hl hn=>(h.but.block b (Nat.lt_of_lt_of_le hl hb.size) hn).trans (hb.block b hl)⟩,h.sz,h.full,h.ub,h.row,h.own,h.blk⟩
def cells8(a b c d e f g h:ti)(j:Nat):Value:=if j=0 then a else if j=1 then b else if j=2 then c else if j=3 then d else if j=4 then e else if j=5 then f else if j=6 then g else h
theorem row8(w:ui)(a b c d e f g h:ti)(t:Nat):Ei (w.alloc (.cells #[a,b,c,d,e,f,g,h] t)) w.heap.size 8 t (cells8 a b c d e f g h):=
 Ei.new w _ t _ (fun j hj=>by
  have Vs:j<8:=hj;have:j=0\/j=1\/j=2\/j=3\/j=4\/j=5\/j=6\/j=7:=E0;rcases this with rfl|rfl|rfl|rfl|rfl|rfl|rfl|rfl<;>rfl)
theorem II(bw K Kb Gc nC cC cG nE:Nat)(q:Option Addr)(a n:Int)(p0 p1 p2 p3 p4:Option Addr)(l0 l1 l2 l3 l4 c0 c1 c2 c3 c4:Nat)(ve:ti)(Ys:List ti)(fB:Nat->ti)(w:ui)
  (hB:Ei w bw 5 79 fB)(hf:fB 2=ve)(hE:w.ownsRow 0 61 1 ve nE Ys)(aK:ve.ownBlock≠yi bw)(bE:nE<=1000000000)
  (h2:w.cell? ⟨K,2,Ai⟩=yi (.slice q nC cC))(h4:w.cell? ⟨Kb,4,Ai⟩=yi (.slice (yi ⟨Gc,0,Ai⟩) nC cG))(hn:¬(0<=n/\n<nC)):
  Calls prog 22 #[.pointer (yi ⟨bw,0,Ai⟩),.pointer (yi ⟨K,0,Ai⟩),.pointer (yi ⟨Kb,0,Ai⟩),.agg #[.int .i64 3,.int .i64 a,.int .i64 n,.slice p0 l0 c0,.slice p1 l1 c1,.slice p2 l2 c2,.slice p3 l3 c3,.slice p4 l4 c4]] w fun e w'=>e=.returned (.bool ji)/\∃qE us S base,us.length=4/\w.heap.size<=base/\base<=S/\ou w base S bw 2 79 61 3 nE fB ve us qE (nE+4) (Ys++us) w':=by
 have Lq:Hid (Ei w bw 5 79 fB):=hB;have yV:Hid (fB 2=ve):=hf;have HE:Hid (w.ownsRow 0 61 1 ve nE Ys):=hE;refine yc fun HVB=>?_;clear hB hf hE aK;refine U8 fun HA=>?_;refine K9 fun lK vN nK nKb=>?_;have HN:Hid (¬(0<=n/\n<nC)):=hn;clear hn;obtain⟨h0,hge⟩|h0:((0<=n)=True/\(n<(nC:Int))=False)\/(0<=n)=False:=by
  have:=HN.out;by_cases h:0<=n
  ·exact .inl ⟨Y2,j7⟩
  ·exact .inr Y2
 all_goals
  go_enter func22,ntmps22
  go_wp2_with fail
  go_quiet (fail)
  have Gu:Hid (Below w.heap.size w ((w.alloc (.cells #[.int .i64 3,.int .i64 a,.int .i64 n,.slice p0 l0 c0,.slice p1 l1 c1,.slice p2 l2 c2,.slice p3 l3 c3,.slice p4 l4 c4] 31)).drewN nq)):=below_drewN (HA.out _) _;have iD:Hid (Ei ((w.alloc (.cells #[.int .i64 3,.int .i64 a,.int .i64 n,.slice p0 l0 c0,.slice p1 l1 c1,.slice p2 l2 c2,.slice p3 l3 c3,.slice p4 l4 c4] 31)).drewN nq) w.heap.size 8 31 (cells8 (.int .i64 3) (.int .i64 a) (.int .i64 n) (.slice p0 l0 c0) (.slice p1 l1 c1) (.slice p2 l2 c2) (.slice p3 l3 c3) (.slice p4 l4 c4))):=row8 w _ _ _ _ _ _ _ _ _;have Hw:w.heap.size<((w.alloc (.cells #[.int .i64 3,.int .i64 a,.int .i64 n,.slice p0 l0 c0,.slice p1 l1 c1,.slice p2 l2 c2,.slice p3 l3 c3,.slice p4 l4 c4] 31)).drewN nq).heap.size:=iD.out.lt;refine qe fun x0 x2=>?_;simp only[cells8,reduceIte,Nat.reduceEqDiff]at x0 x2;refine Z9 fun d2 d4=>?_;generalize ((w.alloc (.cells #[.int .i64 3,.int .i64 a,.int .i64 n,.slice p0 l0 c0,.slice p1 l1 c1,.slice p2 l2 c2,.slice p3 l3 c3,.slice p4 l4 c4] 31)).drewN nq)=w0 at *;go_wp2_with fail;refine(T_ K nC cC q n _ d2 HN.out).mono ?_;rintro e w1 ⟨rfl,zB⟩;replace zB:=zB.symm;subst zB;go_wp2_with fail;refine(Wx 7 _).mono ?_;rintro e w1 ⟨rfl,zB⟩;replace zB:=zB.symm;subst zB;go_wp2_with fail;refine(Hv bw 0 nE w.heap.size (.slice Ai 0 0) ve (fun _=>0) Ys fB _ (Lq.out.below Gu.out Lq.out.lt) yV.out (own_below HE.out Gu.out) (World.ownsRow_nil _ _ _ _) Lq.out.lt HVB.out Gu.out.size bE E0).mono ?_;rintro e w2 ⟨rfl,qE,us,S,r1,r2,r3⟩;have R1:Hid (us.length=4):=r1;have R2:Hid (w0.heap.size<=S):=r2;have R3:Hid _:=r3;clear r1 r2 r3;go_wp2_with fail;go_ret;exact⟨rfl,qE,us,S,w.heap.size,R1.out,Nat.le_refl _,Nat.le_trans Gu.out.size R2.out,R3.out.back Gu.out⟩
theorem MH(bw K Kb Gc nC cC cG nE:Nat)(q:Option Addr)(a n:Int)(p0 p1 p2 p3 p4:Option Addr)(l0 l1 l2 l3 l4 c0 c1 c2 c3 c4:Nat)(ve:ti)(Ys:List ti)(fB:Nat->ti)(w:ui)
  (hB:Ei w bw 5 79 fB)(hf:fB 3=ve)(hE:w.ownsRow 0 51 1 ve nE Ys)(aK:ve.ownBlock≠yi bw)(bE:nE<=1000000000)
  (h2:w.cell? ⟨K,2,Ai⟩=yi (.slice q nC cC))(h4:w.cell? ⟨Kb,4,Ai⟩=yi (.slice (yi ⟨Gc,0,Ai⟩) nC cG))(hn:¬(0<=n/\n<nC)):
  Calls prog 22 #[.pointer (yi ⟨bw,0,Ai⟩),.pointer (yi ⟨K,0,Ai⟩),.pointer (yi ⟨Kb,0,Ai⟩),.agg #[.int .i64 4,.int .i64 a,.int .i64 n,.slice p0 l0 c0,.slice p1 l1 c1,.slice p2 l2 c2,.slice p3 l3 c3,.slice p4 l4 c4]] w fun e w'=>e=.returned (.bool ji)/\∃qE us S base,us.length=4/\w.heap.size<=base/\base<=S/\ou w base S bw 3 79 51 1 nE fB ve us qE (nE+4) (Ys++us) w':=by
 have Lq:Hid (Ei w bw 5 79 fB):=hB;have yV:Hid (fB 3=ve):=hf;have HE:Hid (w.ownsRow 0 51 1 ve nE Ys):=hE;refine yc fun HVB=>?_;clear hB hf hE aK;refine U8 fun HA=>?_;refine K9 fun lK vN nK nKb=>?_;have HN:Hid (¬(0<=n/\n<nC)):=hn;clear hn;obtain⟨h0,hge⟩|h0:((0<=n)=True/\(n<(nC:Int))=False)\/(0<=n)=False:=by
  have:=HN.out;by_cases h:0<=n
  ·exact .inl ⟨Y2,j7⟩
  ·exact .inr Y2
 all_goals
  go_enter func22,ntmps22
  go_wp2_with fail
  go_quiet (fail)
  have Gu:Hid (Below w.heap.size w ((w.alloc (.cells #[.int .i64 4,.int .i64 a,.int .i64 n,.slice p0 l0 c0,.slice p1 l1 c1,.slice p2 l2 c2,.slice p3 l3 c3,.slice p4 l4 c4] 31)).drewN nq)):=below_drewN (HA.out _) _;have iD:Hid (Ei ((w.alloc (.cells #[.int .i64 4,.int .i64 a,.int .i64 n,.slice p0 l0 c0,.slice p1 l1 c1,.slice p2 l2 c2,.slice p3 l3 c3,.slice p4 l4 c4] 31)).drewN nq) w.heap.size 8 31 (cells8 (.int .i64 4) (.int .i64 a) (.int .i64 n) (.slice p0 l0 c0) (.slice p1 l1 c1) (.slice p2 l2 c2) (.slice p3 l3 c3) (.slice p4 l4 c4))):=row8 w _ _ _ _ _ _ _ _ _;have Hw:w.heap.size<((w.alloc (.cells #[.int .i64 4,.int .i64 a,.int .i64 n,.slice p0 l0 c0,.slice p1 l1 c1,.slice p2 l2 c2,.slice p3 l3 c3,.slice p4 l4 c4] 31)).drewN nq).heap.size:=iD.out.lt;refine qe fun x0 x2=>?_;simp only[cells8,reduceIte,Nat.reduceEqDiff]at x0 x2;refine Z9 fun d2 d4=>?_;generalize ((w.alloc (.cells #[.int .i64 4,.int .i64 a,.int .i64 n,.slice p0 l0 c0,.slice p1 l1 c1,.slice p2 l2 c2,.slice p3 l3 c3,.slice p4 l4 c4] 31)).drewN nq)=w0 at *;go_wp2_with fail;refine(g_ K nC cC q n _ d2 HN.out).mono ?_;rintro e w1 ⟨rfl,zB⟩;replace zB:=zB.symm;subst zB;go_wp2_with fail;refine(Wx 7 _).mono ?_;rintro e w1 ⟨rfl,zB⟩;replace zB:=zB.symm;subst zB;go_wp2_with fail;refine(sA bw 0 nE w.heap.size (.slice Ai 0 0) ve (fun _=>0) Ys fB _ (Lq.out.below Gu.out Lq.out.lt) yV.out (own_below HE.out Gu.out) (World.ownsRow_nil _ _ _ _) Lq.out.lt HVB.out Gu.out.size bE E0).mono ?_;rintro e w2 ⟨rfl,qE,us,S,r1,r2,r3⟩;have R1:Hid (us.length=4):=r1;have R2:Hid (w0.heap.size<=S):=r2;have R3:Hid _:=r3;clear r1 r2 r3;go_wp2_with fail;go_ret;exact⟨rfl,qE,us,S,w.heap.size,R1.out,Nat.le_refl _,Nat.le_trans Gu.out.size R2.out,R3.out.back Gu.out⟩
theorem rH(bw K Kb Gc T nC cC cT cG nE cell mr cr:Nat)(q pr:Option Addr)(vp:ti)(tz:Nat->Int)(a:Int)(p0 p1 p2 p3 p4:Option Addr)(l0 l1 l2 l3 l4 c0 c1 c2 c3 c4:Nat)(ve:ti)(Ys:List ti)(fB:Nat->ti)(w:ui)
  (hB:Ei w bw 5 79 fB)(hf:fB 2=ve)(hE:w.ownsRow 0 61 1 ve nE Ys)(aK:ve.ownBlock≠yi bw)(bE:nE<=1000000000)
  (h2:w.cell? ⟨K,2,Ai⟩=yi (.slice q nC cC))(h4p:w.cell? ⟨K,4,Ai⟩=yi (.slice (yi ⟨T,0,Ai⟩) nC cT))(ht:w.cell? ⟨T,cell,Ai⟩=yi vp)(hp:w.ownsRow 0 111 3 vp mr ((List.range (mr*3)).map fun j=>.int .i64 (tz j)))
  (h4:w.cell? ⟨Kb,4,Ai⟩=yi (.slice (yi ⟨Gc,0,Ai⟩) nC cG))(h22:w.cell? ⟨Gc,cell*26+22,Ai⟩=yi (.slice pr mr cr))(hr:Sl w pr (mr*3) fun j=>.int .i64 (tz j))(hc:cell<nC)(hm:mr<=1000000000):
  Calls prog 22 #[.pointer (yi ⟨bw,0,Ai⟩),.pointer (yi ⟨K,0,Ai⟩),.pointer (yi ⟨Kb,0,Ai⟩),.agg #[.int .i64 3,.int .i64 a,.int .i64 (cell:Int),.slice p0 l0 c0,.slice p1 l1 c1,.slice p2 l2 c2,.slice p3 l3 c3,.slice p4 l4 c4]] w fun e w'=>e=.returned (.bool ji)/\∃qE us S base,us.length=4/\w.heap.size<=base/\base<=S/\ou w base S bw 2 79 61 3 nE fB ve us qE (nE+4) (Ys++us) w':=by
 have Lq:Hid (Ei w bw 5 79 fB):=hB;have yV:Hid (fB 2=ve):=hf;have HE:Hid (w.ownsRow 0 61 1 ve nE Ys):=hE;refine yc fun HVB=>?_;clear hB hf hE aK;refine U8 fun HA=>?_;refine K9 fun lK vN nK nKb=>?_;have lT:T<w.heap.size:=block_lt_of_cell ht;have bX:Gc<w.heap.size:=block_lt_of_cell h22;have FC:(cell:Int)<(nC:Int):=E0;have HP:Hid (w.ownsRow 0 111 3 vp mr ((List.range (mr*3)).map fun j=>.int .i64 (tz j))):=hp;have HR:Hid (Sl w pr (mr*3) fun j=>.int .i64 (tz j)):=hr;clear hp hr
 go_enter func22,ntmps22
 go_wp2_with fail
 go_quiet (fail)
 have Gu:Hid (Below w.heap.size w ((w.alloc (.cells #[.int .i64 3,.int .i64 a,.int .i64 (cell:Int),.slice p0 l0 c0,.slice p1 l1 c1,.slice p2 l2 c2,.slice p3 l3 c3,.slice p4 l4 c4] 31)).drewN nq)):=below_drewN (HA.out _) _;have iD:Hid (Ei ((w.alloc (.cells #[.int .i64 3,.int .i64 a,.int .i64 (cell:Int),.slice p0 l0 c0,.slice p1 l1 c1,.slice p2 l2 c2,.slice p3 l3 c3,.slice p4 l4 c4] 31)).drewN nq) w.heap.size 8 31 (cells8 (.int .i64 3) (.int .i64 a) (.int .i64 (cell:Int)) (.slice p0 l0 c0) (.slice p1 l1 c1) (.slice p2 l2 c2) (.slice p3 l3 c3) (.slice p4 l4 c4))):=row8 w _ _ _ _ _ _ _ _ _;have Hw:w.heap.size<((w.alloc (.cells #[.int .i64 3,.int .i64 a,.int .i64 (cell:Int),.slice p0 l0 c0,.slice p1 l1 c1,.slice p2 l2 c2,.slice p3 l3 c3,.slice p4 l4 c4] 31)).drewN nq).heap.size:=iD.out.lt;refine qe fun x0 x2=>?_;simp only[cells8,reduceIte,Nat.reduceEqDiff]at x0 x2;refine Z9 fun d2 d4=>?_;generalize ((w.alloc (.cells #[.int .i64 3,.int .i64 a,.int .i64 (cell:Int),.slice p0 l0 c0,.slice p1 l1 c1,.slice p2 l2 c2,.slice p3 l3 c3,.slice p4 l4 c4] 31)).drewN nq)=w0 at *;go_wp2_with fail;refine(JZ K T nC cT cC cell mr q vp tz _ d2 ((Gu.out.cell (p:=⟨K,4,Ai⟩) lK).trans h4p) ((Gu.out.cell (p:=⟨T,cell,Ai⟩) lT).trans ht) (own_below HP.out Gu.out) hc E0).mono ?_;rintro e w1 ⟨u,rfl,Zs,hu⟩;have Xq:Hid (Below w0.heap.size w0 w1):=Zs;have HU:Hid (w1.ownsRow w0.heap.size 111 3 u mr ((List.range (mr*3)).map fun j=>.int .i64 (tz j))):=hu;obtain⟨pu,cu,rfl,-,-,hsu⟩:=Vx hu;have HSU:Hid (Sl w1 pu (mr*3) fun j=>.int .i64 (tz j)):=hsu;have HSR:Hid (Sl w1 pr (mr*3) fun j=>.int .i64 (tz j)):=(HR.out.below Gu.out).below Xq.out;clear Zs hu hsu x0 x2 d2 d4;have HX1:Hid (Ei w1 w.heap.size 8 31 (cells8 (.int .i64 3) (.int .i64 a) (.int .i64 (cell:Int)) (.slice p0 l0 c0) (.slice p1 l1 c1) (.slice p2 l2 c2) (.slice p3 l3 c3) (.slice p4 l4 c4))):=iD.out.below Xq.out Hw;have x2:=HX1.out.cell (j:=2) E0;simp only[cells8,reduceIte,Nat.reduceEqDiff]at x2;have z0:w.heap.size<w1.heap.size:=Nat.lt_of_lt_of_le Hw Xq.out.size;have z4:Kb<w1.heap.size:=Nat.lt_trans vN z0;have z22:Gc<w1.heap.size:=Nat.lt_trans bX z0;refine ae fun d4=>?_;have d22:=(Xq.out.cell (p:=⟨Gc,cell*26+22,Ai⟩) (Nat.lt_trans bX Hw)).trans ((Gu.out.cell (p:=⟨Gc,cell*26+22,Ai⟩) bX).trans h22);rcases Nat.eq_zero_or_pos mr with hm|hm
 ·subst hm;go_wp2_with fail;refine(Wx 0 _).mono ?_;rintro e w1' ⟨rfl,zB⟩;replace zB:=zB.symm;subst zB;go_wp2_with fail;go_region_held3 (fun W=>W.cell? ⟨w.heap.size,2,Ai⟩=yi (.int .i64 (cell:Int))/\W.cell? ⟨Kb,4,Ai⟩=yi (.slice (yi ⟨Gc,0,Ai⟩) nC cG)/\W.cell? ⟨Gc,cell*26+22,Ai⟩=yi (.slice pr 0 cr)) (go_keep)
   (first
    |(go_at_call 45
      refine(nF pu pr 0 cu cr tz _ (by exact HSU.out) (by exact HSR.out) E0).mono ?_;rintro e wl ⟨rfl,yo⟩;refine Jd fun y2 y4=>?_;have y22:wl.cell? ⟨Gc,cell*26+22,Ai⟩=yi (.slice pr 0 cr):=(yo.cell (p:=⟨Gc,cell*26+22,Ai⟩) z22).trans d22;have FD:Hid (Below w1.heap.size w1 wl):=Below.trans (Below.drew (Below.refl _ _)) yo;clear yo))
  refine Td fun Ey=>?_;have HUL:Hid (wl.ownsRow w0.heap.size 111 3 (.slice pu 0 cu) 0 ((List.range (0*3)).map fun j=>.int .i64 (tz j))):=own_below HU.out FD.out;have CQ:Hid (w0.heap.size<=wl.heap.size):=Nat.le_trans Xq.out.size FD.out.size;go_wp2_with fail;refine(Hv bw 0 nE w0.heap.size (.slice pu 0 cu) ve tz Ys fB _ (Lq.out.below Ey.out Lq.out.lt) yV.out (own_below HE.out Ey.out) HUL.out (Nat.lt_trans Lq.out.lt Hw) (fun b hb=>⟨Nat.lt_trans (HVB.out b hb).1 Hw,(HVB.out b hb).2⟩) CQ.out bE E0).mono ?_;exact J9
 ·have hmi:¬(mr:Int)=0:=by omega
  go_wp2_with fail
  go_region_held3 (fun W=>W.cell? ⟨w.heap.size,2,Ai⟩=yi (.int .i64 (cell:Int))/\W.cell? ⟨Kb,4,Ai⟩=yi (.slice (yi ⟨Gc,0,Ai⟩) nC cG)/\W.cell? ⟨Gc,cell*26+22,Ai⟩=yi (.slice pr mr cr)) (go_keep)
   (first
    |(go_at_call 45
      refine(nF pu pr mr cu cr tz _ (by exact HSU.out) (by exact HSR.out) E0).mono ?_;rintro e wl ⟨rfl,yo⟩;refine Jd fun y2 y4=>?_;have y22:wl.cell? ⟨Gc,cell*26+22,Ai⟩=yi (.slice pr mr cr):=(yo.cell (p:=⟨Gc,cell*26+22,Ai⟩) z22).trans d22;have FD:Hid (Below w1.heap.size w1 wl):=Below.trans (Below.drew (Below.refl _ _)) yo;clear yo))
  refine Td fun Ey=>?_;have HUL:Hid (wl.ownsRow w0.heap.size 111 3 (.slice pu mr cu) mr ((List.range (mr*3)).map fun j=>.int .i64 (tz j))):=own_below HU.out FD.out;have CQ:Hid (w0.heap.size<=wl.heap.size):=Nat.le_trans Xq.out.size FD.out.size;go_wp2_with fail;refine(Hv bw mr nE w0.heap.size (.slice pu mr cu) ve tz Ys fB _ (Lq.out.below Ey.out Lq.out.lt) yV.out (own_below HE.out Ey.out) HUL.out (Nat.lt_trans Lq.out.lt Hw) (fun b hb=>⟨Nat.lt_trans (HVB.out b hb).1 Hw,(HVB.out b hb).2⟩) CQ.out bE E0).mono ?_;exact J9
theorem eG(bw K Kb Gc C g nC cC cG nE cell:Nat)(num:Int)(net code:ti)(z:Nat->Int)(a:Int)(p0 p1 p2 p3 p4:Option Addr)(l0 l1 l2 l3 l4 c0 c1 c2 c3 c4:Nat)(ve:ti)(Ys:List ti)(fB:Nat->ti)(w:ui)
  (hB:Ei w bw 5 79 fB)(hf:fB 3=ve)(hE:w.ownsRow 0 51 1 ve nE Ys)(aK:ve.ownBlock≠yi bw)(bE:nE<=1000000000)
  (h2:w.cell? ⟨K,2,Ai⟩=yi (.slice (yi ⟨C,0,Ai⟩) nC cC))(hp:w.cell? ⟨C,cell,Ai⟩=yi (.pointer (yi ⟨g,0,Ai⟩)))(hr:Ei w g 48 186 (cellV num net code z))
  (h4:w.cell? ⟨Kb,4,Ai⟩=yi (.slice (yi ⟨Gc,0,Ai⟩) nC cG))(zG:∀j,j<16->w.cell? ⟨Gc,cell*26+4+j,Ai⟩=yi (.int .i64 (z (29+j))))(hc:cell<nC):
  Calls prog 22 #[.pointer (yi ⟨bw,0,Ai⟩),.pointer (yi ⟨K,0,Ai⟩),.pointer (yi ⟨Kb,0,Ai⟩),.agg #[.int .i64 4,.int .i64 a,.int .i64 (cell:Int),.slice p0 l0 c0,.slice p1 l1 c1,.slice p2 l2 c2,.slice p3 l3 c3,.slice p4 l4 c4]] w fun e w'=>e=.returned (.bool ji)/\∃qE us S base,us.length=4/\w.heap.size<=base/\base<=S/\ou w base S bw 3 79 51 1 nE fB ve us qE (nE+4) (Ys++us) w':=by
 have Lq:Hid (Ei w bw 5 79 fB):=hB;have yV:Hid (fB 3=ve):=hf;have HE:Hid (w.ownsRow 0 51 1 ve nE Ys):=hE;refine yc fun HVB=>?_;clear hB hf hE aK;refine U8 fun HA=>?_;refine K9 fun lK vN nK nKb=>?_;have lC:C<w.heap.size:=block_lt_of_cell hp;have bX:Gc<w.heap.size:=block_lt_of_cell (zG 0 E0);have FC:(cell:Int)<(nC:Int):=E0;have HP:Hid (Ei w g 48 186 (cellV num net code z)):=hr;clear hr
 go_enter func22,ntmps22
 go_wp2_with fail
 go_quiet (fail)
 have Gu:Hid (Below w.heap.size w ((w.alloc (.cells #[.int .i64 4,.int .i64 a,.int .i64 (cell:Int),.slice p0 l0 c0,.slice p1 l1 c1,.slice p2 l2 c2,.slice p3 l3 c3,.slice p4 l4 c4] 31)).drewN nq)):=below_drewN (HA.out _) _;have iD:Hid (Ei ((w.alloc (.cells #[.int .i64 4,.int .i64 a,.int .i64 (cell:Int),.slice p0 l0 c0,.slice p1 l1 c1,.slice p2 l2 c2,.slice p3 l3 c3,.slice p4 l4 c4] 31)).drewN nq) w.heap.size 8 31 (cells8 (.int .i64 4) (.int .i64 a) (.int .i64 (cell:Int)) (.slice p0 l0 c0) (.slice p1 l1 c1) (.slice p2 l2 c2) (.slice p3 l3 c3) (.slice p4 l4 c4))):=row8 w _ _ _ _ _ _ _ _ _;have Hw:w.heap.size<((w.alloc (.cells #[.int .i64 4,.int .i64 a,.int .i64 (cell:Int),.slice p0 l0 c0,.slice p1 l1 c1,.slice p2 l2 c2,.slice p3 l3 c3,.slice p4 l4 c4] 31)).drewN nq).heap.size:=iD.out.lt;refine qe fun x0 x2=>?_;simp only[cells8,reduceIte,Nat.reduceEqDiff]at x0 x2;refine Z9 fun d2 d4=>?_;generalize ((w.alloc (.cells #[.int .i64 4,.int .i64 a,.int .i64 (cell:Int),.slice p0 l0 c0,.slice p1 l1 c1,.slice p2 l2 c2,.slice p3 l3 c3,.slice p4 l4 c4] 31)).drewN nq)=w0 at *;go_wp2_with fail;refine(KR K C g nC cC cell num net code z _ d2 ((Gu.out.cell (p:=⟨C,cell,Ai⟩) lC).trans hp) (HP.out.below Gu.out HP.out.lt) hc).mono ?_;rintro e w1 ⟨u,rfl,Zs,hu⟩;have Xq:Hid (Below w0.heap.size w0 w1):=Zs;have HU:Hid (w1.ownsRow w0.heap.size 2 1 u 16 ((List.range 16).map fun j=>.int .i64 (z (29+j)))):=hu;obtain⟨gu,cu,rfl,hgu,hgl⟩:=hu.form E0;have HUC:Hid (∀j,j<16->w1.cell? ⟨gu,j,Ai⟩=yi (.int .i64 (z (29+j)))):=fun j hj=>Am HU.out (by simp[hj]);clear Zs hu x0 x2 d2 d4;have HX1:Hid (Ei w1 w.heap.size 8 31 (cells8 (.int .i64 4) (.int .i64 a) (.int .i64 (cell:Int)) (.slice p0 l0 c0) (.slice p1 l1 c1) (.slice p2 l2 c2) (.slice p3 l3 c3) (.slice p4 l4 c4))):=iD.out.below Xq.out Hw;have x2:=HX1.out.cell (j:=2) E0;simp only[cells8,reduceIte,Nat.reduceEqDiff]at x2;have z0:w.heap.size<w1.heap.size:=Nat.lt_of_lt_of_le Hw Xq.out.size;refine ae fun d4=>?_;have HM:Hid (∀j,j<16->w1.cell? ⟨Gc,cell*26+4+j,Ai⟩=yi (.int .i64 (z (29+j)))):=fun j hj=>(Xq.out.cell (p:=⟨Gc,cell*26+4+j,Ai⟩) (Nat.lt_trans bX Hw)).trans ((Gu.out.cell (p:=⟨Gc,cell*26+4+j,Ai⟩) bX).trans (zG j hj));clear zG;go_wp2_with fail;go_loopw [15,16] (fun ok i wr=>∃j:Nat,j<=16/\i=.int .i64 j/\ok=.bool ji/\∃d,wr=w1.drewN d) (fun _ i _=>16-(intOf i).toNat)
 case atStart=>exact⟨0,Nat.zero_le _,rfl,rfl,0,rfl⟩
 case round=>
  obtain⟨j,hj,rfl,rfl,d,rfl⟩:=hrel;by_cases Wi:j<16
  ·have Yq:(j:Int)<16:=by omega
   have cu:=HUC.out j Wi;have cm:=HM.out j Wi;generalize z (29+j)=x at *;go_wp2_with fail;go_region_held3 (fun W=>W.cell? ⟨w.heap.size,2,Ai⟩=yi (.int .i64 (cell:Int))/\W.cell? ⟨Kb,4,Ai⟩=yi (.slice (yi ⟨Gc,0,Ai⟩) nC cG)/\W.cell? ⟨gu,j,Ai⟩=yi (.int .i64 x)/\W.cell? ⟨Gc,cell*26+4+j,Ai⟩=yi (.int .i64 x)) (go_keep) (fail)
   go_wp2_with fail
   exact⟨⟨j+1,E0,J1,rfl,d+1,rfl⟩,U1⟩
  ·obtain rfl:j=16:=by omega
   have FD:Hid (Below w1.heap.size w1 (w1.drewN d)):=below_drewN (Below.refl _ _) _;generalize w1.drewN d=wl at *;refine Td fun Ey=>?_;have HUL:Hid (wl.ownsRow w0.heap.size 2 1 (.slice (yi ⟨gu,0,Ai⟩) (16:Nat) cu) 16 ((List.range (16*1)).map fun j=>.int .i64 (z (29+j)))):=own_below HU.out FD.out;have CQ:Hid (w0.heap.size<=wl.heap.size):=Nat.le_trans Xq.out.size FD.out.size;go_wp2_with fail;refine(sA bw 16 nE w0.heap.size (.slice (yi ⟨gu,0,Ai⟩) (16:Nat) cu) ve (fun j=>z (29+j)) Ys fB _ (Lq.out.below Ey.out Lq.out.lt) yV.out (own_below HE.out Ey.out) HUL.out (Nat.lt_trans Lq.out.lt Hw) (fun b hb=>⟨Nat.lt_trans (HVB.out b hb).1 Hw,(HVB.out b hb).2⟩) CQ.out bE E0).mono ?_;exact J9
theorem CJ(bw K Kb Gc nC cC cG:Nat)(q:Option Addr)(a n:Int)(p0 p1 p2 p3 p4:Option Addr)(l0 l1 l2 l3 l4 c0 c1 c2 c3 c4:Nat)(w:ui)
  (h2:w.cell? ⟨K,2,Ai⟩=yi (.slice q nC cC))(h4:w.cell? ⟨Kb,4,Ai⟩=yi (.slice (yi ⟨Gc,0,Ai⟩) nC cG))(hn:¬(0<=n/\n<nC)):
  Calls prog 22 #[.pointer (yi ⟨bw,0,Ai⟩),.pointer (yi ⟨K,0,Ai⟩),.pointer (yi ⟨Kb,0,Ai⟩),.agg #[.int .i64 5,.int .i64 a,.int .i64 n,.slice p0 l0 c0,.slice p1 l1 c1,.slice p2 l2 c2,.slice p3 l3 c3,.slice p4 l4 c4]] w fun e w'=>e=.returned (.bool ji)/\Below w.heap.size w w':=by
 refine U8 fun HA=>?_;refine K9 fun lK vN nK nKb=>?_;have HN:Hid (¬(0<=n/\n<nC)):=hn;clear hn;obtain⟨h0,hge⟩|h0:((0<=n)=True/\(n<(nC:Int))=False)\/(0<=n)=False:=by
  have:=HN.out;by_cases h:0<=n
  ·exact .inl ⟨Y2,j7⟩
  ·exact .inr Y2
 all_goals
  go_enter func22,ntmps22
  go_wp2_with fail
  go_quiet (fail)
  have Gu:Hid (Below w.heap.size w ((w.alloc (.cells #[.int .i64 5,.int .i64 a,.int .i64 n,.slice p0 l0 c0,.slice p1 l1 c1,.slice p2 l2 c2,.slice p3 l3 c3,.slice p4 l4 c4] 31)).drewN nq)):=below_drewN (HA.out _) _;have iD:Hid (Ei ((w.alloc (.cells #[.int .i64 5,.int .i64 a,.int .i64 n,.slice p0 l0 c0,.slice p1 l1 c1,.slice p2 l2 c2,.slice p3 l3 c3,.slice p4 l4 c4] 31)).drewN nq) w.heap.size 8 31 (cells8 (.int .i64 5) (.int .i64 a) (.int .i64 n) (.slice p0 l0 c0) (.slice p1 l1 c1) (.slice p2 l2 c2) (.slice p3 l3 c3) (.slice p4 l4 c4))):=row8 w _ _ _ _ _ _ _ _ _;have Hw:w.heap.size<((w.alloc (.cells #[.int .i64 5,.int .i64 a,.int .i64 n,.slice p0 l0 c0,.slice p1 l1 c1,.slice p2 l2 c2,.slice p3 l3 c3,.slice p4 l4 c4] 31)).drewN nq).heap.size:=iD.out.lt;refine qe fun x0 x2=>?_;simp only[cells8,reduceIte,Nat.reduceEqDiff]at x0 x2;refine Z9 fun d2 d4=>?_;generalize ((w.alloc (.cells #[.int .i64 5,.int .i64 a,.int .i64 n,.slice p0 l0 c0,.slice p1 l1 c1,.slice p2 l2 c2,.slice p3 l3 c3,.slice p4 l4 c4] 31)).drewN nq)=w0 at *;go_wp2_with fail;refine(B10 K nC cC q n _ d2 HN.out).mono ?_;rintro e w1 ⟨rfl,Zs⟩;have Ey:Hid (Below w.heap.size w w1):=Gu.out.trans (Zs.mono Gu.out.size);clear Zs x0 x2 d2 d4;go_wp2_with fail;refine(Wx 7 _).mono ?_;rintro e w1' ⟨rfl,zB⟩;replace zB:=zB.symm;subst zB;go_wp2_with fail;go_ret;exact⟨rfl,Ey.out.alloc Ey.out.size _⟩
theorem KH(bw K Kb Gc C g nC cC cG cell:Nat)(num:Int)(net code:ti)(z:Nat->Int)(a:Int)(p0 p1 p2 p3 p4:Option Addr)(l0 l1 l2 l3 l4 c0 c1 c2 c3 c4:Nat)(w:ui)
  (h2:w.cell? ⟨K,2,Ai⟩=yi (.slice (yi ⟨C,0,Ai⟩) nC cC))(hp:w.cell? ⟨C,cell,Ai⟩=yi (.pointer (yi ⟨g,0,Ai⟩)))(hr:Ei w g 48 186 (cellV num net code z))
  (h4:w.cell? ⟨Kb,4,Ai⟩=yi (.slice (yi ⟨Gc,0,Ai⟩) nC cG))(h23:w.cell? ⟨Gc,cell*26+23,Ai⟩=yi (.int .i64 (z 46)))(h24:w.cell? ⟨Gc,cell*26+24,Ai⟩=yi (.int .i64 (z 47)))(bO:w.cell? ⟨Gc,cell*26+25,Ai⟩=yi (.bool (decide (z 3<z 47))))(hc:cell<nC):
  Calls prog 22 #[.pointer (yi ⟨bw,0,Ai⟩),.pointer (yi ⟨K,0,Ai⟩),.pointer (yi ⟨Kb,0,Ai⟩),.agg #[.int .i64 5,.int .i64 a,.int .i64 (cell:Int),.slice p0 l0 c0,.slice p1 l1 c1,.slice p2 l2 c2,.slice p3 l3 c3,.slice p4 l4 c4]] w fun e w'=>e=.returned (.bool ji)/\Below w.heap.size w w':=by
 refine U8 fun HA=>?_;refine K9 fun lK vN nK nKb=>?_;have lC:C<w.heap.size:=block_lt_of_cell hp;have bX:Gc<w.heap.size:=block_lt_of_cell h23;have FC:(cell:Int)<(nC:Int):=E0;have HP:Hid (Ei w g 48 186 (cellV num net code z)):=hr;clear hr
 go_enter func22,ntmps22
 go_wp2_with fail
 go_quiet (fail)
 have Gu:Hid (Below w.heap.size w ((w.alloc (.cells #[.int .i64 5,.int .i64 a,.int .i64 (cell:Int),.slice p0 l0 c0,.slice p1 l1 c1,.slice p2 l2 c2,.slice p3 l3 c3,.slice p4 l4 c4] 31)).drewN nq)):=below_drewN (HA.out _) _;have iD:Hid (Ei ((w.alloc (.cells #[.int .i64 5,.int .i64 a,.int .i64 (cell:Int),.slice p0 l0 c0,.slice p1 l1 c1,.slice p2 l2 c2,.slice p3 l3 c3,.slice p4 l4 c4] 31)).drewN nq) w.heap.size 8 31 (cells8 (.int .i64 5) (.int .i64 a) (.int .i64 (cell:Int)) (.slice p0 l0 c0) (.slice p1 l1 c1) (.slice p2 l2 c2) (.slice p3 l3 c3) (.slice p4 l4 c4))):=row8 w _ _ _ _ _ _ _ _ _;have Hw:w.heap.size<((w.alloc (.cells #[.int .i64 5,.int .i64 a,.int .i64 (cell:Int),.slice p0 l0 c0,.slice p1 l1 c1,.slice p2 l2 c2,.slice p3 l3 c3,.slice p4 l4 c4] 31)).drewN nq).heap.size:=iD.out.lt;refine qe fun x0 x2=>?_;simp only[cells8,reduceIte,Nat.reduceEqDiff]at x0 x2;refine Z9 fun d2 d4=>?_;generalize ((w.alloc (.cells #[.int .i64 5,.int .i64 a,.int .i64 (cell:Int),.slice p0 l0 c0,.slice p1 l1 c1,.slice p2 l2 c2,.slice p3 l3 c3,.slice p4 l4 c4] 31)).drewN nq)=w0 at *;go_wp2_with fail;refine(VZ K C g nC cC cell num net code z _ d2 ((Gu.out.cell (p:=⟨C,cell,Ai⟩) lC).trans hp) (HP.out.below Gu.out HP.out.lt) hc).mono ?_;rintro e w1 ⟨rfl,Zs⟩;have Xq:Hid (Below w0.heap.size w0 w1):=Zs;clear Zs x0 x2 d2 d4;have HX1:Hid (Ei w1 w.heap.size 8 31 (cells8 (.int .i64 5) (.int .i64 a) (.int .i64 (cell:Int)) (.slice p0 l0 c0) (.slice p1 l1 c1) (.slice p2 l2 c2) (.slice p3 l3 c3) (.slice p4 l4 c4))):=iD.out.below Xq.out Hw;have x2:=HX1.out.cell (j:=2) E0;simp only[cells8,reduceIte,Nat.reduceEqDiff]at x2;have z0:w.heap.size<w1.heap.size:=Nat.lt_of_lt_of_le Hw Xq.out.size;refine ae fun d4=>?_;have e23:=(Xq.out.cell (p:=⟨Gc,cell*26+23,Ai⟩) (Nat.lt_trans bX Hw)).trans ((Gu.out.cell (p:=⟨Gc,cell*26+23,Ai⟩) bX).trans h23);have e24:=(Xq.out.cell (p:=⟨Gc,cell*26+24,Ai⟩) (Nat.lt_trans bX Hw)).trans ((Gu.out.cell (p:=⟨Gc,cell*26+24,Ai⟩) bX).trans h24);have e25:=(Xq.out.cell (p:=⟨Gc,cell*26+25,Ai⟩) (Nat.lt_trans bX Hw)).trans ((Gu.out.cell (p:=⟨Gc,cell*26+25,Ai⟩) bX).trans bO);have Ey:Hid (Below w.heap.size w w1):=Gu.out.trans (Xq.out.mono (Nat.le_of_lt Hw));generalize z 46=s46 at *;generalize z 47=s47 at *;generalize decide (z 3<s47)=bb at *;have m0:w.heap.size≠w1.heap.size:=E0;have m1:Kb≠w1.heap.size:=E0;have m2:Gc≠w1.heap.size:=E0;go_wp2_with fail
 go_region_held3 (fun W=>W.cell? ⟨w.heap.size,2,Ai⟩=yi (.int .i64 (cell:Int))/\W.cell? ⟨Kb,4,Ai⟩=yi (.slice (yi ⟨Gc,0,Ai⟩) nC cG)/\W.cell? ⟨Gc,cell*26+23,Ai⟩=yi (.int .i64 s46)/\W.cell? ⟨Gc,cell*26+24,Ai⟩=yi (.int .i64 s47)/\W.cell? ⟨Gc,cell*26+25,Ai⟩=yi (.bool bb)/\W.cell? ⟨w1.heap.size,0,Ai⟩=yi (.int .i64 s46)/\W.cell? ⟨w1.heap.size,1,Ai⟩=yi (.int .i64 s47)/\W.cell? ⟨w1.heap.size,2,Ai⟩=yi (.bool bb)) (go_keep) (fail)
 go_wp2_with fail
 go_ret;exact⟨rfl,(Ey.out.alloc Ey.out.size _).drew⟩
theorem zP:(prog.info? 59).map (fun i=>(i.zero,i.size,i.bytes))=yi (yi (.agg #[.int .i64 0,.int .i64 0]),2,16):=J0
theorem ins_any(p:Option Addr)(n cap:Nat)(z:Nat->Int)(w:ui)(hs:Sl w p (n*2) (fun j=>.int .i64 (z j)))(hn:p=Ai->n=0)(hb:16*n<=140737488355328):
  Calls prog 43 #[.slice p n cap] w fun e w'=>e=.returned (.slice (yi ⟨w.heap.size,0,Ai⟩) (n+2:Nat) (n+2:Nat))/\w'.heap.size=w.heap.size+1/\Below w.heap.size w w'/\
   Ei w' w.heap.size ((n+2)*2) 59 (fun j=>.int .i64 (Pj 2 n z j)):=by
 have hB:n<=17592186044416:=E0;have HM:Hid (16*(n+2)<=281474976710656):=by show _<=_;omega
 have HS:Hid (Sl w p (n*2) (fun j=>.int .i64 (z j))):=hs;have HN:Hid (p=Ai->n=0):=hn;clear hs hn hb
 go_enter func43,ntmps43
 go_wp2_with (at_make;refine Ql _ rfl _ _ 29 rfl 59 _ 2 16 underlying29 zP _ _ _ _ (n+2) rfl rfl E0 E0 HM.out Y1 (fun _=>.int .i64 0) (fun j _=>TE j) ?_)
 intro w1 xo Aq Pn;have iw:Hid (Ei w1 w.heap.size ((n+2)*2) 59 (fun _=>.int .i64 0)):=xo;have YB:Hid (w1.heap.size=w.heap.size+1):=Aq;clear xo Aq;go_wp2_with (refine Ul rfl _ _ _ _ rfl 59 _ 2 16 underlying29 zP w.heap.size (n+2) (n+2) p n cap rfl rfl ((n+2)*2) 59 (fun _=>.int .i64 0) (fun j=>.int .i64 (z j)) E0 iw.out E0 (HS.out.below Pn) (fun _ _=>rfl) HN.out ?_);intro w2 Kv ez Ks;have pG:Hid (Ei w2 w.heap.size ((n+2)*2) 59 (fun j=>if j<n*2 then .int .i64 (z j)else .int .i64 0)):=Kv;have EW:Hid (w2.heap.size=w.heap.size+1):=Ks.trans YB.out;have Qv:Hid (Below w.heap.size w w2):=Pn.grown ez j5 (fun k hk=>U4);clear Kv Ks ez Pn iw YB HS HN HM;go_wp2_with fail;go_loopw [4] (fun i wr=>∃k:Nat,n<=k/\k<=n+2/\i=.int .i64 k/\Hid (wr.heap.size=w.heap.size+1)/\Hid (Below w.heap.size w wr)/\Hid (Ei wr w.heap.size ((n+2)*2) 59 (fun j=>.int .i64 (if j<n*2 then z j else if j<k*2 then (if j%2=0 then -77 else 0)else 0))))
  (fun i _=>n+2-(intOf i).toNat)
 case atStart=>exact⟨n,Nat.le_refl _,E0,rfl,EW,Qv,pG.out.congr (fun j _=>by by_cases h:j<n*2<;>simp[h])⟩
 case round=>
  obtain⟨k,vA,qA,rfl,HZ,HB,HR⟩:=hrel;by_cases Wi:k<n+2
  ·have HP:Hid (∀j,_):=fun j=>TP k n j z vA;have c0:=HR.out.cell (j:=k*2) E0;have c1:=HR.out.cell (j:=k*2+1) E0;have f0:=HR.out.frozen (k*2);have f1:=HR.out.frozen (k*2+1);go_wp2
   go_roundw
   case rel=>exact⟨k+1,E0,E0,J1,s7,((HB.out.setCell (Nat.le_refl _) _).setCell (Nat.le_refl _) _),((HR.out.set (k*2) _).set (k*2+1) _).congr (fun j _=>HP.out j)⟩
   case measure=>simp[intOf];omega
  ·obtain rfl:k=n+2:=by omega
   exact yd
def Nj:vl where
 kE:=gi
 nC:=1
 lim:=fun _=>0
 Xl:=fun _=>gi
 Zi:=fun _=>3
 code:=fun _ j=>if j=0 then 1 else if j=3 then 7 else if j=4 then 15 else 0
 Yl:=fun _=>ji
 Vj:=fun _=>0
 img:=fun _ _=>0
 kD:=gi
 nT:=1
 jC:=fun _=>gi
 nRow:=fun _=>1
 row:=fun _ j=>if j=1 then 10 else 0
 Jt:=ji
 qj:=0
 ch:=fun _=>0
 Ws:=ji
 nD:=0
 dv:=fun _=>0
theorem sZ(w:ui):
  Calls prog 19 #[] w fun e w'=>∃v0 v1 v2 v3,e=.returned (.agg #[v0,v1,v2,v3])/\(∀jK:ui,(∀a v,w.heap.size<=a.block->w'.cell? a=yi v->jK.cell? a=yi v)->Bq jK v0 v1 v2 v3 Nj)/\Below w.heap.size w w':=by
 go_enter func19,ntmps19
 go_wp2_with fail
 have kN:Hid (∀o1 o2 o3 o4,((((((w.alloc (.cells #[.slice (yi ⟨w.heap.size+1+1,0,Ai⟩) 1 1,.slice (yi ⟨w.heap.size+1+1+1+1,0,Ai⟩) 1 1,.slice Ai 0 0,.slice Ai 0 0] 28)).alloc o1).alloc o2).alloc o3).alloc o4).heap[w.heap.size]?=yi (.cells #[.slice (yi ⟨w.heap.size+1+1,0,Ai⟩) 1 1,.slice (yi ⟨w.heap.size+1+1+1+1,0,Ai⟩) 1 1,.slice Ai 0 0,.slice Ai 0 0] 28 (0,0)))):=fun o1 o2 o3 o4=>ox (((((row4 w _ _ _ _ _).alloc o1).alloc o2).alloc o3).alloc o4);refine bodyPost_ret (results_cell_row (P:=prog) rfl _ _ w.heap.size 28 #[.slice (yi ⟨w.heap.size+1+1,0,Ai⟩) 1 1,.slice (yi ⟨w.heap.size+1+1+1+1,0,Ai⟩) 1 1,.slice Ai 0 0,.slice Ai 0 0] (0,0) _ rfl (kN.out _ _ _ _) underlying28 rfl Yt) rfl ?_;refine⟨_,_,_,_,rfl,fun jK hk=>⟨?_,?_,?_,?_⟩,((((Below.refl _ _).alloc (Nat.le_refl _) _).alloc P0 _).alloc A1 _ |>.alloc A1 _).alloc A1 _⟩
 ·refine⟨yi ⟨w.heap.size+1+1,0,Ai⟩,1,fun j=>if j=0 then .slice (yi ⟨w.heap.size+1,0,Ai⟩) 3 3 else if j=1 then .slice Ai 0 0 else .int .i64 0,rfl,Nat.le_refl _,J3,P0,U0,.inr ⟨_,_,rfl,fun j hj=>?_⟩,fun i hi=>?_⟩
  ·have:j=0\/j=1\/j=2:=by simp[Nj]at hj;omega
   refine hk _ _ (by show _<=w.heap.size+1+1;omega) ?_;rcases this with rfl|rfl|rfl<;>simp[go_sem]
  ·obtain rfl:i=0:=by simp[Nj]at hi;omega
   refine⟨⟨yi ⟨w.heap.size+1,0,Ai⟩,3,rfl,Nat.le_refl _,J3,P0,U0,.inr ⟨_,_,rfl,fun j hj=>?_⟩⟩,⟨Ai,0,rfl,Nat.le_refl _,J3,fun _=>⟨rfl,rfl⟩,U0,.inl rfl⟩,rfl⟩;have:j=0\/j=1\/j=2\/j=3\/j=4\/j=5\/j=6\/j=7\/j=8\/j=9\/j=10\/j=11:=by simp[Nj]at hj;omega
   refine hk _ _ (by show _<=w.heap.size+1;omega) ?_;rcases this with rfl|rfl|rfl|rfl|rfl|rfl|rfl|rfl|rfl|rfl|rfl|rfl<;>simp[go_sem,Nj]
 ·refine⟨yi ⟨w.heap.size+1+1+1+1,0,Ai⟩,1,fun _=>.slice (yi ⟨w.heap.size+1+1+1,0,Ai⟩) 1 1,rfl,Nat.le_refl _,J3,P0,U0,.inr ⟨_,_,rfl,fun j hj=>?_⟩,fun i hi=>?_⟩
  ·obtain rfl:j=0:=by simp[Nj]at hj;omega
   refine hk _ _ (by show _<=w.heap.size+1+1+1+1;omega) ?_;simp[go_sem]
  ·refine⟨yi ⟨w.heap.size+1+1+1,0,Ai⟩,1,rfl,Nat.le_refl _,J3,P0,J3,.inr ⟨_,_,rfl,fun j hj=>?_⟩⟩;have:j=0\/j=1:=by simp[Nj]at hj;omega
   refine hk _ _ (by show _<=w.heap.size+1+1+1;omega) ?_;rcases this with rfl|rfl<;>simp[go_sem,Nj]
 ·exact⟨Ai,0,rfl,Nat.le_refl _,J3,fun _=>⟨rfl,rfl⟩,U0,.inl rfl⟩
 ·exact⟨Ai,0,rfl,Nat.le_refl _,J3,fun _=>⟨rfl,rfl⟩,U0,.inl rfl⟩
open Go.ChangeShapes Go.WideShapes Go.ChangeAt Go.Deep Go.Joins
section
variable {H:Type}{enc:TypeId×ti->H}{P:Program}{w:ui}{base:Nat}{spare:Nat->Bool}{held:Bool}
def Fit(P:Program)(t:TypeId)(d:DataW H):Prop:=∀n∈DataW.weights P t d,n<=reachBytes
theorem weightsAll_mem{e:TypeId}:∀{l:List (DataW H)}{d:DataW H},d∈l->∀n∈d.weights P e,n∈DataW.weightsAll P e l
 |x::l,d,hd,n,hn=>by
  simp only[DataW.weightsAll,List.mem_append];rcases List.mem_cons.1 hd with rfl|h
  ·exact .inl hn
  ·exact .inr (weightsAll_mem h n hn)
theorem zK{t e:TypeId}{elems sp:List (DataW H)}(hu:P.underlying t=yi (.slice e))(h:Fit P t (.slice elems sp)):
  (elems.length+sp.length)*P.bytesOf e<=reachBytes/\∀d∈elems,Fit P e d:=by
 unfold Fit at h;simp only[DataW.weights,hu,List.mem_cons,List.mem_append]at h;exact⟨h _ (.inl rfl),fun d hd n hn=>h n (.inr (.inl (weightsAll_mem hd n hn)))⟩
theorem Gp{t t':TypeId}{fs:Array Field}{parts:List (DataW H)}{j:Nat}{d:DataW H}(hu:P.underlying t=yi (.struct fs))(h:Fit P t (.agg parts))(ht:(fs.toList.map (·.type))[j]?=yi t')(hd:parts[j]?=yi d):Fit P t' d:=by
 unfold Fit at h;simp only[DataW.weights,hu]at h;exact fun n hn=>h n (DataW.weights_mem_each ht hd n hn)
theorem oG{t e k bn fuel:Nat}{v:ti}{x:DataW H×List MemPlace}(ht:P.underlying t=yi (.slice e))(hce:P.cellsOf e=k)(hk:0<k)(hbe:P.bytesOf e=bn)
  (h:DataW.trod enc P w base spare held fuel t [v]=yi x)(qH:Fit P t x.1):
  ∃(nl:Bool)(p:Option Addr)(n cap:Nat)(F:Nat->ti)(D:Nat->DataW H×List MemPlace)(m:Nat),v=.slice p n cap/\n<=cap/\(p=Ai↔nl=ji)/\(p=Ai->n=0/\cap=0)/\bn*n<=140737488355328/\Sl w p (n*k) F/\
   ∀i,i<n->DataW.trod enc P w base spare held m e ((List.range k).map fun r=>F (i*k+r))=yi (D i)/\Fit P e (D i).1:=by
 rcases open_slice ht h with⟨hcs,rfl⟩|⟨a,len,cap,m,n,D,Pl,hcs,-,hl,-,sV,rfl,hel⟩
 ·obtain rfl:v=.slice Ai 0 0:=by simpa using hcs
  exact⟨ji,Ai,0,0,fun _=>ri,fun _=>(.nil,[]),0,rfl,Nat.le_refl _,P0,P0,P0,.inl P0,fun i hi=>absurd hi E0⟩
 ·obtain rfl:v=.slice (yi a) len cap:=by simpa using hcs
  have hlm:len<=m:=by rw[sV];split<;>omega
  obtain⟨zB,hw2⟩:=zK ht qH;rw[hbe]at zB;simp only[List.length_map,List.length_range,reachBytes]at zB;have hb:bn*len<=140737488355328:=by
   have h1:len*bn<=(len+(m-len))*bn:=Nat.mul_le_mul_right _ E0;rw[Nat.mul_comm];omega
  rw[hce]at hel;obtain⟨CS,hCS⟩:=choose_lt (α:=List ti) (n:=len) (p:=fun i cs=>w.cells? base (a.add (i*k)) k=yi cs/\DataW.trod enc P w base spare held n e cs=yi (D i,Pl i)) (fun i hi=>hel i E0);have hdm:∀i r,r<k->(i*k+r)/k=i/\(i*k+r)%k=r:=fun i r hr=>⟨by rw[Nat.mul_comm,Nat.mul_add_div hk,Nat.div_eq_of_lt hr,Nat.add_zero],by rw[Nat.mul_comm,Nat.mul_add_mod,Nat.mod_eq_of_lt hr]⟩;have hcell:∀j,j<len*k->w.cell? (a.add j)=yi ((CS (j/k))[j%k]!):=fun j hj=>by
   have hi:j/k<len:=(Nat.div_lt_iff_lt_mul hk).2 hj;have hr:j%k<k:=Nat.mod_lt _ hk;obtain⟨_,hlen,hc⟩:=World.cells?_some (hCS (j/k) hi).1;have h3:=hc (j%k) hr;rw[add_add,show j/k*k+j%k=j by rw[Nat.mul_comm];exact Nat.div_add_mod j k]at h3;rw[h3];simp[hlen,hr]
  refine⟨gi,yi a,len,cap,fun j=>(CS (j/k))[j%k]!,fun i=>(D i,Pl i),n,rfl,hl,P0,P0,hb,?_,fun i hi=>⟨?_,hw2 _ (List.mem_map.2 ⟨i,List.mem_range.2 hi,rfl⟩)⟩⟩
  ·by_cases h0:len*k=0
   ·exact .inl h0
   ·obtain⟨b,off,spot⟩:=a;have xe0:spot=none:=by simpa[Addr.add]using World.cell?_spot (hcell 0 E0)
    subst xe0;exact .inr ⟨b,off,rfl,fun j hj=>by rw[<-add_plain];exact hcell j hj⟩
  ·obtain⟨h1,h2⟩:=hCS i hi;obtain⟨_,hlen,_⟩:=World.cells?_some h1;rw[<-h2];congr 1;apply List.ext_getElem?;intro r;by_cases hr:r<k
   ·have:=hdm i r hr;simp[hr,this.1,Nat.mod_eq_of_lt hr,hlen]
   ·simp[hr,hlen]
def Nums(enc:TypeId×ti->H)(P:Program)(w:ui)(base:Nat)(spare:Nat->Bool)(held:Bool)(e k:Nat):Prop:=
 ∀fuel cs x,DataW.trod enc P w base spare held fuel e cs=yi x->∀r,r<k->∃n:Int,cs[r]?=yi (.int .i64 n)/\-9223372036854775808<=n/\n<=9223372036854775807
theorem JD{t e k bn fuel:Nat}{v:ti}{x:DataW H×List MemPlace}(ht:P.underlying t=yi (.slice e))(hce:P.cellsOf e=k)(hk:0<k)(hbe:P.bytesOf e=bn)(hn:Nums enc P w base spare held e k)
  (h:DataW.trod enc P w base spare held fuel t [v]=yi x)(qH:Fit P t x.1):
  ∃(nl:Bool)(n:Nat)(z:Nat->Int),Hu w v nl n k z bn/\∀j,j<n*k->-9223372036854775808<=z j/\z j<=9223372036854775807:=by
 obtain⟨nl,p,n,cap,F,D,m,h1,h2,h3,h4,h5,h6,h7⟩:=oG ht hce hk hbe h qH;obtain⟨z,hz⟩:=choose_lt (α:=Int) (n:=n*k) (p:=fun j y=>F j=.int .i64 y/\-9223372036854775808<=y/\y<=9223372036854775807) (fun j hj=>by
  have hi:j/k<n:=(Nat.div_lt_iff_lt_mul hk).2 hj;have hr:j%k<k:=Nat.mod_lt _ hk;obtain⟨y,hy,hb⟩:=hn _ _ _ (h7 (j/k) hi).1 (j%k) hr;rw[List.getElem?_map,List.getElem?_range hr]at hy;simp only[Option.map_some,Option.some.injEq]at hy;rw[show j/k*k+j%k=j by rw[Nat.mul_comm];exact Nat.div_add_mod j k]at hy;exact⟨y,hy,hb⟩)
 exact⟨nl,n,z,⟨p,cap,h1,h2,h3,h4,h5,h6.congr (fun j hj=>(hz j hj).1)⟩,fun j hj=>(hz j hj).2⟩
end
section
variable {H:Type}{enc:TypeId×ti->H}{w:ui}{base:Nat}{spare:Nat->Bool}{held:Bool}
theorem Zv:prog.cellsOf 3=1:=J0
theorem pL:prog.cellsOf 2=1:=J0
theorem Fc0:prog.cellsOf 97=4:=J0
theorem se0:prog.cellsOf 102=2:=J0
theorem w90:prog.cellsOf 138=3:=J0
theorem y90:prog.cellsOf 53=3:=J0
theorem Tc0:prog.cellsOf 100=1:=J0
theorem jf0:prog.cellsOf 28=4:=J0
theorem X90:prog.cellsOf 50=1:=J0
theorem ye0:prog.cellsOf 51=1:=J0
theorem R40:prog.cellsOf 23=1:=J0
theorem X50:prog.cellsOf 24=1:=J0
theorem N50:prog.cellsOf 25=1:=J0
theorem w80:prog.cellsOf 26=1:=J0
theorem Re0:prog.bytesOf 3=8:=J0
theorem r60:prog.bytesOf 2=8:=J0
theorem Xe0:prog.bytesOf 97=32:=J0
theorem lf0:prog.bytesOf 102=16:=J0
theorem ka0:prog.bytesOf 138=24:=J0
theorem P80:prog.bytesOf 53=56:=J0
theorem Jf0:prog.bytesOf 100=24:=J0
theorem Id0{t:Nat}(ht:prog.underlying t=yi (.int .i64)):Nums enc prog w base spare held t 1:=by
 intro fuel cs x h r hr;obtain rfl:r=0:=E0;obtain⟨n,rfl,-,hw⟩:=DataW.trod_int ht h;exact⟨n,rfl,bounds_i64 hw⟩
theorem Lm{fuel t off c:Nat}{cs:List ti}{y:DataW H×List MemPlace}(ht:prog.underlying t=yi (.int .i64))(hc:prog.cellsOf t=c)(h1:c=1)
  (h:DataW.trod enc prog w base spare held fuel t ((cs.drop off).take (prog.cellsOf t))=yi y):∃n:Int,cs[off]?=yi (.int .i64 n)/\-9223372036854775808<=n/\n<=9223372036854775807:=by
 obtain⟨n,e,-,hw⟩:=DataW.trod_int ht h;rw[hc,h1]at e;refine⟨n,?_,bounds_i64 hw⟩;have:=congrArg (fun l=>l[0]?) e;exact Yc
theorem Y00:Nums enc prog w base spare held 97 4:=by
 intro fuel cs x h r hr;obtain⟨y0,y1,y2,y3,n,-,-,h0,h1,h2,h3⟩:=trod_struct4 underlying97 h;have:r=0\/r=1\/r=2\/r=3:=E0;rcases this with rfl|rfl|rfl|rfl
 ·exact ag
 ·exact Lm underlying3 Zv rfl h1
 ·exact Lm underlying3 Zv rfl h2
 ·exact Lm underlying2 pL rfl h3
theorem CY:Nums enc prog w base spare held 138 3:=by
 intro fuel cs x h r hr;obtain⟨y0,y1,y2,n,-,-,h0,h1,h2⟩:=trod_struct3 underlying138 h;have:r=0\/r=1\/r=2:=E0;rcases this with rfl|rfl|rfl
 ·exact ag
 ·exact Lm underlying3 Zv rfl h1
 ·exact Lm underlying3 Zv rfl h2
theorem c30:Nums enc prog w base spare held 102 2:=by
 intro fuel cs x h r hr;obtain⟨y0,y1,n,-,-,h0,h1⟩:=trod_struct2 underlying102 h;have:r=0\/r=1:=E0;rcases this with rfl|rfl
 ·exact ag
 ·exact Lm underlying3 Zv rfl h1
structure b30(w:ui)(a b d:ti)(x:(Bool×Nat×(Nat->Int))×(Bool×Nat×(Nat->Int))×Int):Prop where
 code:Hu w a x.1.1 x.1.2.1 4 x.1.2.2 32
 fits:∀j,j<x.1.2.1*4->-9223372036854775808<=x.1.2.2 j/\x.1.2.2 j<=9223372036854775807
 img:Hu w b x.2.1.1 x.2.1.2.1 1 x.2.1.2.2 8
 lim:d=.int .i64 x.2.2
theorem open_cell{fuel:Nat}{a b d:ti}{x:DataW H×List MemPlace}(h:DataW.trod enc prog w base spare held fuel 53 [a,b,d]=yi x)(hf:Fit prog 53 x.1):∃y,b30 w a b d y:=by
 obtain⟨y0,y1,y2,n,rfl,-,h0,h1,h2⟩:=trod_struct3 underlying53 h;have f0:=Gp (j:=0) underlying53 hf rfl rfl;have f1:=Gp (j:=1) underlying53 hf rfl rfl;rw[X90]at h0;rw[ye0]at h1;rw[Zv]at h2;obtain⟨nl,k,z,hz,hw⟩:=JD underlying50 Fc0 E0 Xe0 Y00 h0 f0;obtain⟨nl2,k2,z2,Bn,_⟩:=JD underlying51 pL E0 r60 (Id0 underlying2) h1 f1;obtain⟨l,e,-,-⟩:=DataW.trod_int underlying3 h2;exact⟨((nl,k,z),(nl2,k2,z2),l),hz,hw,Bn,by simpa using e⟩
theorem Q20{fuel:Nat}{a b d f:ti}{x:DataW H×List MemPlace}(h:DataW.trod enc prog w base spare held fuel 28 [a,b,d,f]=yi x)(hf:Fit prog 28 x.1):∃c:vl,Bq w a b d f c/\OD c:=by
 obtain⟨y0,y1,y2,y3,n,rfl,-,h0,h1,h2,h3⟩:=trod_struct4 underlying28 h;have f0:=Gp (j:=0) underlying28 hf rfl rfl;have f1:=Gp (j:=1) underlying28 hf rfl rfl;have f2:=Gp (j:=2) underlying28 hf rfl rfl;have f3:=Gp (j:=3) underlying28 hf rfl rfl;rw[R40]at h0;rw[X50]at h1;rw[N50]at h2;rw[w80]at h3;obtain⟨l0,p0,n0,yj,F0,D0,m0,a1,a2,a3,a4,a5,a6,a7⟩:=oG underlying23 y90 E0 P80 h0 f0;obtain⟨l1,p1,n1,wj,F1,D1,m1,b1,b2,b3,b4,b5,b6,b7⟩:=oG underlying24 Tc0 E0 Jf0 h1 f1;obtain⟨l2,n2,z2,Bn,_⟩:=JD underlying25 w90 E0 ka0 CY h2 f2;obtain⟨l3,n3,z3,AH,_⟩:=JD underlying26 Zv E0 Re0 (Id0 underlying3) h3 f3;obtain⟨Y,hY⟩:=choose_lt (α:=(Bool×Nat×(Nat->Int))×(Bool×Nat×(Nat->Int))×Int) (n:=n0) (p:=fun i y=>b30 w (F0 (i*3)) (F0 (i*3+1)) (F0 (i*3+2)) y) (fun i hi=>by
  obtain⟨q1,q2⟩:=a7 i hi;exact open_cell q1 q2)
 obtain⟨R,hR⟩:=choose_lt (α:=Bool×Nat×(Nat->Int)) (n:=n1) (p:=fun i y=>Hu w (F1 i) y.1 y.2.1 2 y.2.2 16) (fun i hi=>by
  obtain⟨q1,q2⟩:=b7 i hi;have q1':DataW.trod enc prog w base spare held m1 100 [F1 i]=yi (D1 i):=by simpa using q1
  obtain⟨nl,k,z,hz,_⟩:=JD underlying100 se0 E0 lf0 c30 q1' q2;exact⟨(nl,k,z),hz⟩)
 refine⟨⟨l0,n0,fun i=>(Y i).2.2,fun i=>(Y i).1.1,fun i=>(Y i).1.2.1,fun i=>(Y i).1.2.2,fun i=>(Y i).2.1.1,fun i=>(Y i).2.1.2.1,fun i=>(Y i).2.1.2.2,l1,n1,fun i=>(R i).1,fun i=>(R i).2.1,fun i=>(R i).2.2,l2,n2,z2,l3,n3,z3⟩,⟨⟨p0,yj,F0,a1,a2,a3,a4,a5,a6,fun i hi=>⟨(hY i hi).code,(hY i hi).img,(hY i hi).lim⟩⟩,⟨p1,wj,F1,b1,b2,b3,b4,b5,by simpa using b6,fun i hi=>hR i hi⟩,Bn,AH⟩,fun i hi j hj=>(hY i hi).fits j hj⟩
end
end Go.Proofs.YtdoghgnifkgfdaaGreat
