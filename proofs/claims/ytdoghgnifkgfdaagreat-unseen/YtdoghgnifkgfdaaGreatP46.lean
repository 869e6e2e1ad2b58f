import Derived.Test.YtdoghgnifkgfdaaGreatP45
set_option maxRecDepth 100000
set_option maxHeartbeats 16000000
namespace Go.Proofs.YtdoghgnifkgfdaaGreat.Mute
open Go Go.Conc Go.RowKit
def Yc7:Cfg:=cfg2 [1,0,0,5,10,0,0,0,0,0,0,0,8,0,0,0] [12,0,1,0,15,0,0,0,15,1,0,0,0,0,0,0,8,0,0,0] 4 5 0 [0,9,1,9] true []
def Ydo:KSq:=frameC Yc7 0 [] (frameC Yc7 0 [] (sq0 Yc7))
theorem Yd1:Ydo.m 1=6∧Ydo.xs 1=(List.range 18).map fun j=>.int .i64 ([1,0,0,1,0,0,3,4,1,1,5,0,1,1,0,3,5,1].getD j 0):=by
 constructor<;>kernel_rfl
theorem YeZ:∀i,(sq0 Yc7).m i+1300≤1000000000:=fun i=>by show 0+1300≤1000000000;omega
theorem YfC:∀i,(frameC Yc7 0 [] (sq0 Yc7)).m i+1300≤1000000000:=fun i=>by
 by_cases h0:i=0
 ·subst h0;have:(frameC Yc7 0 [] (sq0 Yc7)).m 0=1:=by kernel_rfl
  omega
 by_cases h1:i=1
 ·subst h1;have:(frameC Yc7 0 [] (sq0 Yc7)).m 1=3:=by kernel_rfl
  omega
 ·have e:(frameC Yc7 0 [] (sq0 Yc7)).m i=updN (updN (fun _=>0) 0 _) 1 _ i:=rfl;rw [e,YG _ _ h1,YG _ _ h0];omega
theorem Yg6:Y8 Yc7 0 0:=by
 refine YeQ ⟨by decide,by decide⟩ ⟨by decide,by decide⟩ (fun i hi=>?_) (by decide) (fun i hi=>?_) (by decide) (fun i hi=>absurd hi (Nat.not_lt_zero i)) (fun i hi=>?_)
 ·have hi:i<1:=hi;obtain rfl:i=0:=by omega
  refine ⟨by decide,fun j hj=>?_,by show sumTo _ 2≤200;decide⟩;have hj:j<2:=hj;have:j=0∨j=1:=by omega
  rcases this with rfl|rfl
  ·exact ⟨by decide,by decide,by decide⟩
  ·exact ⟨by decide,by decide,by decide⟩
 ·have hi:i<1:=hi;obtain rfl:i=0:=by omega
  exact ⟨.inl rfl,⟨by decide,by decide⟩,⟨by decide,by decide⟩,by decide⟩
 ·have hi:i<2:=hi;have:i=0∨i=1:=by omega
  rcases this with rfl|rfl
  ·refine ⟨⟨by decide,by decide⟩,by decide,⟨by decide,by decide⟩,fun j hj=>?_⟩;have hj:j<4:=hj;have:j=0∨j=1∨j=2∨j=3:=by omega
   unfold XO Xe YA;rcases this with rfl|rfl|rfl|rfl<;>simp [Yc7,cfg2]
  ·refine ⟨⟨by decide,by decide⟩,by decide,⟨by decide,by decide⟩,fun j hj=>?_⟩;have hj:j<5:=hj;have:j=0∨j=1∨j=2∨j=3∨j=4:=by omega
   unfold XO Xe YA;rcases this with rfl|rfl|rfl|rfl|rfl<;>simp [Yc7,cfg2]
theorem YfQ:CfgW Yc7:=Yer fun i hi=>by
 have hi:i<2:=hi;have:i=0∨i=1:=by omega
 rcases this with rfl|rfl
 ·exact ⟨[1,0,0,5,10,0,0,0,0,0,0,0,8,0,0,0],rfl,by decide⟩
 ·exact ⟨[12,0,1,0,15,0,0,0,15,1,0,0,0,0,0,0,8,0,0,0],rfl,by decide⟩
theorem YfT (w:World):CallsR Tryz.prog 26 #[] w (fun v w'=>v=.bool true∧Below w.heap.size w w'):=by
 refine CallsR.introT (List.toArray (undef::undef::undef::undef::undef::undef::undef::undef::undef::undef::undef::undef::undef::undef::undef::undef::undef::undef::undef::undef::undef::undef::undef::undef::undef::undef::undef::undef::undef::undef::undef::undef::undef::undef::undef::undef::undef::undef::undef::undef::undef::undef::undef::undef::undef::undef::undef::undef::undef::undef::undef::undef::undef::undef::undef::undef::undef::undef::undef::undef::undef::undef::undef::undef::undef::undef::undef::undef::undef::undef::undef::undef::undef::undef::undef::undef::undef::undef::undef::undef::undef::undef::undef::undef::undef::undef::undef::undef::undef::undef::undef::undef::undef::undef::undef::undef::undef::undef::undef::undef::undef::undef::undef::undef::undef::[])) Tryz.func26 (by rfl) (by kernel_rfl) fun cs Post hp=>?_;have hk:(base 26).kind≠.early:=by simp [base]
 refine Y3.of_goes ?_;have hF:=Is.self w;have hs:w.heap.size=w.heap.size+0:=rfl;have hB:Below w.heap.size w w:=Below.refl _ _;repeat refine .c1 Y2 rfl ?_
 refine .regionL Y2 [0] (by rfl) ?_;refine .opV Y2 rfl (by rfl) hk ?_;try walk_nrm
 repeat refine .c1 Y2 rfl ?_
 refine .regionL Y2 [0,1,2,3,4,5,6,7,8,9,10,11,12,13,14,15,16,17,18,19,20,21,22] (by rfl) ?_;refine .op rfl (by rfl) hk fun w1 hR K_ hK=>?_;replace hF:=hF.rely hR;clear hR;go_simp;try (unfold stored;go_simp)
 refine hK _ _ ⟨?_,?_⟩
 ·exact Yw plain (Yi plain Tryz.func26 (by kernel_rfl) _) (by kernel_rfl) _
 clear hK K_;try walk_nrm
 refine .op rfl (by rfl) hk fun w1 hR K_ hK=>?_;replace hF:=hF.rely hR;clear hR;go_simp;try (unfold stored;go_simp)
 refine hK _ _ ⟨?_,?_⟩
 ·exact Yw plain (Yi plain Tryz.func26 (by kernel_rfl) _) (by kernel_rfl) _
 clear hK K_;try walk_nrm
 refine .op rfl (by rfl) hk fun w1 hR K_ hK=>?_;replace hF:=hF.rely hR;clear hR;go_simp;try (unfold stored;go_simp)
 refine hK _ _ ⟨?_,?_⟩
 ·exact Yw plain (Yi plain Tryz.func26 (by kernel_rfl) _) (by kernel_rfl) _
 clear hK K_;try walk_nrm
 refine .op rfl (by rfl) hk fun w1 hR K_ hK=>?_;replace hF:=hF.rely hR;clear hR;go_simp;try (unfold stored;go_simp)
 refine hK _ _ ⟨?_,?_⟩
 ·exact Yw plain (Yi plain Tryz.func26 (by kernel_rfl) _) (by kernel_rfl) _
 clear hK K_;try walk_nrm
 refine .op rfl (by rfl) hk fun w1 hR K_ hK=>?_;replace hF:=hF.rely hR;clear hR;go_simp;try (unfold stored;go_simp)
 refine hK _ _ ⟨?_,?_⟩
 ·exact Yw plain (Yi plain Tryz.func26 (by kernel_rfl) _) (by kernel_rfl) _
 clear hK K_;have hz:w1.heap.size=w.heap.size+0:=hF.size.trans hs;replace hF:Is (w.alloc (.cells (([1,0,0,5,10,0,0,0,0,0,0,0,8,0,0,0]:List Int).map (Value.int .i64 ·)).toArray 97)) (w1.alloc (.cells #[.int .i64 1,.int .i64 0,.int .i64 0,.int .i64 5,.int .i64 10,.int .i64 0,.int .i64 0,.int .i64 0,.int .i64 0,.int .i64 0,.int .i64 0,.int .i64 0,.int .i64 8,.int .i64 0,.int .i64 0,.int .i64 0] 97)):=hF.alloc _;rw [hz];generalize w1.alloc (.cells #[.int .i64 1,.int .i64 0,.int .i64 0,.int .i64 5,.int .i64 10,.int .i64 0,.int .i64 0,.int .i64 0,.int .i64 0,.int .i64 0,.int .i64 0,.int .i64 0,.int .i64 8,.int .i64 0,.int .i64 0,.int .i64 0] 97)=w2 at *;clear hz;have r0:=YcW w [1,0,0,5,10,0,0,0,0,0,0,0,8,0,0,0] 97;rw [hs] at r0;have hs2:(w.alloc (.cells (([1,0,0,5,10,0,0,0,0,0,0,0,8,0,0,0]:List Int).map (Value.int .i64 ·)).toArray 97)).heap.size=w.heap.size+1:=by simp<;>omega
 replace hB:=hB.alloc (by rw [hs];omega) (.cells (([1,0,0,5,10,0,0,0,0,0,0,0,8,0,0,0]:List Int).map (Value.int .i64 ·)).toArray 97);clear hs;generalize w.alloc (.cells (([1,0,0,5,10,0,0,0,0,0,0,0,8,0,0,0]:List Int).map (Value.int .i64 ·)).toArray 97)=W1 at *;have hs:=hs2;clear hs2;try walk_nrm
 refine .op rfl (by rfl) hk fun w1 hR K_ hK=>?_;replace hF:=hF.rely hR;clear hR;go_simp;try (unfold stored;go_simp)
 refine hK _ _ ⟨?_,?_⟩
 ·exact Yw plain (Yi plain Tryz.func26 (by kernel_rfl) _) (by kernel_rfl) _
 clear hK K_;try walk_nrm
 refine .op rfl (by rfl) hk fun w1 hR K_ hK=>?_;replace hF:=hF.rely hR;clear hR;go_simp;try (unfold stored;go_simp)
 refine hK _ _ ⟨?_,?_⟩
 ·exact Yw plain (Yi plain Tryz.func26 (by kernel_rfl) _) (by kernel_rfl) _
 clear hK K_;try walk_nrm
 refine .op rfl (by rfl) hk fun w1 hR K_ hK=>?_;replace hF:=hF.rely hR;clear hR;go_simp;try (unfold stored;go_simp)
 refine hK _ _ ⟨?_,?_⟩
 ·exact Yw plain (Yi plain Tryz.func26 (by kernel_rfl) _) (by kernel_rfl) _
 clear hK K_;try walk_nrm
 refine .op rfl (by rfl) hk fun w1 hR K_ hK=>?_;replace hF:=hF.rely hR;clear hR;go_simp;try (unfold stored;go_simp)
 refine hK _ _ ⟨?_,?_⟩
 ·exact Yw plain (Yi plain Tryz.func26 (by kernel_rfl) _) (by kernel_rfl) _
 clear hK K_;try walk_nrm
 refine .op rfl (by rfl) hk fun w1 hR K_ hK=>?_;replace hF:=hF.rely hR;clear hR;go_simp;try (unfold stored;go_simp)
 refine hK _ _ ⟨?_,?_⟩
 ·exact Yw plain (Yi plain Tryz.func26 (by kernel_rfl) _) (by kernel_rfl) _
 clear hK K_;try walk_nrm
 refine .op rfl (by rfl) hk fun w1 hR K_ hK=>?_;replace hF:=hF.rely hR;clear hR;go_simp;try (unfold stored;go_simp)
 refine hK _ _ ⟨?_,?_⟩
 ·exact Yw plain (Yi plain Tryz.func26 (by kernel_rfl) _) (by kernel_rfl) _
 clear hK K_;try walk_nrm
 refine .op rfl (by rfl) hk fun w1 hR K_ hK=>?_;replace hF:=hF.rely hR;clear hR;go_simp;try (unfold stored;go_simp)
 refine hK _ _ ⟨?_,?_⟩
 ·exact Yw plain (Yi plain Tryz.func26 (by kernel_rfl) _) (by kernel_rfl) _
 clear hK K_;have hz:w1.heap.size=w.heap.size+1:=hF.size.trans hs;replace hF:Is (W1.alloc (.cells (([12,0,1,0,15,0,0,0,15,1,0,0,0,0,0,0,8,0,0,0]:List Int).map (Value.int .i64 ·)).toArray 97)) (w1.alloc (.cells #[.int .i64 12,.int .i64 0,.int .i64 1,.int .i64 0,.int .i64 15,.int .i64 0,.int .i64 0,.int .i64 0,.int .i64 15,.int .i64 1,.int .i64 0,.int .i64 0,.int .i64 0,.int .i64 0,.int .i64 0,.int .i64 0,.int .i64 8,.int .i64 0,.int .i64 0,.int .i64 0] 97)):=hF.alloc _;rw [hz];generalize w1.alloc (.cells #[.int .i64 12,.int .i64 0,.int .i64 1,.int .i64 0,.int .i64 15,.int .i64 0,.int .i64 0,.int .i64 0,.int .i64 15,.int .i64 1,.int .i64 0,.int .i64 0,.int .i64 0,.int .i64 0,.int .i64 0,.int .i64 0,.int .i64 8,.int .i64 0,.int .i64 0,.int .i64 0] 97)=w2 at *;clear hz;have r1:=YcW W1 [12,0,1,0,15,0,0,0,15,1,0,0,0,0,0,0,8,0,0,0] 97;rw [hs] at r1;replace r0:=r0.alloc (.cells (([12,0,1,0,15,0,0,0,15,1,0,0,0,0,0,0,8,0,0,0]:List Int).map (Value.int .i64 ·)).toArray 97);have hs2:(W1.alloc (.cells (([12,0,1,0,15,0,0,0,15,1,0,0,0,0,0,0,8,0,0,0]:List Int).map (Value.int .i64 ·)).toArray 97)).heap.size=w.heap.size+2:=by simp<;>omega
 replace hB:=hB.alloc (by rw [hs];omega) (.cells (([12,0,1,0,15,0,0,0,15,1,0,0,0,0,0,0,8,0,0,0]:List Int).map (Value.int .i64 ·)).toArray 97);clear hs;generalize W1.alloc (.cells (([12,0,1,0,15,0,0,0,15,1,0,0,0,0,0,0,8,0,0,0]:List Int).map (Value.int .i64 ·)).toArray 97)=W2 at *;have hs:=hs2;clear hs2;try walk_nrm
 refine .op rfl (by rfl) hk fun w1 hR K_ hK=>?_;replace hF:=hF.rely hR;clear hR;go_simp;try (unfold stored;go_simp)
 refine hK _ _ ⟨?_,?_⟩
 ·exact Yw plain (Yi plain Tryz.func26 (by kernel_rfl) _) (by kernel_rfl) _
 clear hK K_;try walk_nrm
 refine .op rfl (by rfl) hk fun w1 hR K_ hK=>?_;replace hF:=hF.rely hR;clear hR;go_simp;try (unfold stored;go_simp)
 refine hK _ _ ⟨?_,?_⟩
 ·exact Yw plain (Yi plain Tryz.func26 (by kernel_rfl) _) (by kernel_rfl) _
 clear hK K_;have hz:w1.heap.size=w.heap.size+2:=hF.size.trans hs;replace hF:Is (W2.alloc (.cells #[.slice (some ⟨w.heap.size+0,0,none⟩) 4 4,.slice none 0 0,.int .i64 0,.slice (some ⟨w.heap.size+1,0,none⟩) 5 5,.slice none 0 0,.int .i64 0] 53)) (w1.alloc (.cells #[.slice (some ⟨w.heap.size+0,0,none⟩) 4 4,.slice none 0 0,.int .i64 0,.slice (some ⟨w.heap.size+1,0,none⟩) 5 5,.slice none 0 0,.int .i64 0] 53)):=hF.alloc _;rw [hz];generalize w1.alloc (.cells #[.slice (some ⟨w.heap.size+0,0,none⟩) 4 4,.slice none 0 0,.int .i64 0,.slice (some ⟨w.heap.size+1,0,none⟩) 5 5,.slice none 0 0,.int .i64 0] 53)=w2 at *;clear hz;have r2:=Yfh W2 (w.heap.size+0) 4 4 (w.heap.size+1) 5 5 0 53;rw [hs] at r2;replace r0:=r0.alloc (.cells #[.slice (some ⟨w.heap.size+0,0,none⟩) 4 4,.slice none 0 0,.int .i64 0,.slice (some ⟨w.heap.size+1,0,none⟩) 5 5,.slice none 0 0,.int .i64 0] 53);replace r1:=r1.alloc (.cells #[.slice (some ⟨w.heap.size+0,0,none⟩) 4 4,.slice none 0 0,.int .i64 0,.slice (some ⟨w.heap.size+1,0,none⟩) 5 5,.slice none 0 0,.int .i64 0] 53);have hs2:(W2.alloc (.cells #[.slice (some ⟨w.heap.size+0,0,none⟩) 4 4,.slice none 0 0,.int .i64 0,.slice (some ⟨w.heap.size+1,0,none⟩) 5 5,.slice none 0 0,.int .i64 0] 53)).heap.size=w.heap.size+3:=by simp<;>omega
 replace hB:=hB.alloc (by rw [hs];omega) (.cells #[.slice (some ⟨w.heap.size+0,0,none⟩) 4 4,.slice none 0 0,.int .i64 0,.slice (some ⟨w.heap.size+1,0,none⟩) 5 5,.slice none 0 0,.int .i64 0] 53);clear hs;generalize W2.alloc (.cells #[.slice (some ⟨w.heap.size+0,0,none⟩) 4 4,.slice none 0 0,.int .i64 0,.slice (some ⟨w.heap.size+1,0,none⟩) 5 5,.slice none 0 0,.int .i64 0] 53)=W3 at *;have hs:=hs2;clear hs2;try walk_nrm
 refine .op rfl (by rfl) hk fun w1 hR K_ hK=>?_;replace hF:=hF.rely hR;clear hR;go_simp;try (unfold stored;go_simp)
 refine hK _ _ ⟨?_,?_⟩
 ·exact Yw plain (Yi plain Tryz.func26 (by kernel_rfl) _) (by kernel_rfl) _
 clear hK K_;try walk_nrm
 refine .op rfl (by rfl) hk fun w1 hR K_ hK=>?_;replace hF:=hF.rely hR;clear hR;go_simp;try (unfold stored;go_simp)
 refine hK _ _ ⟨?_,?_⟩
 ·exact Yw plain (Yi plain Tryz.func26 (by kernel_rfl) _) (by kernel_rfl) _
 clear hK K_;try walk_nrm
 refine .op rfl (by rfl) hk fun w1 hR K_ hK=>?_;replace hF:=hF.rely hR;clear hR;go_simp;try (unfold stored;go_simp)
 refine hK _ _ ⟨?_,?_⟩
 ·exact Yw plain (Yi plain Tryz.func26 (by kernel_rfl) _) (by kernel_rfl) _
 clear hK K_;have hz:w1.heap.size=w.heap.size+3:=hF.size.trans hs;replace hF:Is (W3.alloc (.cells (([0,9,1,9]:List Int).map (Value.int .i64 ·)).toArray 102)) (w1.alloc (.cells #[.int .i64 0,.int .i64 9,.int .i64 1,.int .i64 9] 102)):=hF.alloc _;rw [hz];generalize w1.alloc (.cells #[.int .i64 0,.int .i64 9,.int .i64 1,.int .i64 9] 102)=w2 at *;clear hz;have r3:=YcW W3 [0,9,1,9] 102;rw [hs] at r3;replace r0:=r0.alloc (.cells (([0,9,1,9]:List Int).map (Value.int .i64 ·)).toArray 102);replace r1:=r1.alloc (.cells (([0,9,1,9]:List Int).map (Value.int .i64 ·)).toArray 102);replace r2:=r2.alloc (.cells (([0,9,1,9]:List Int).map (Value.int .i64 ·)).toArray 102);have hs2:(W3.alloc (.cells (([0,9,1,9]:List Int).map (Value.int .i64 ·)).toArray 102)).heap.size=w.heap.size+4:=by simp<;>omega
 replace hB:=hB.alloc (by rw [hs];omega) (.cells (([0,9,1,9]:List Int).map (Value.int .i64 ·)).toArray 102);clear hs;generalize W3.alloc (.cells (([0,9,1,9]:List Int).map (Value.int .i64 ·)).toArray 102)=W4 at *;have hs:=hs2;clear hs2;try walk_nrm
 refine .op rfl (by rfl) hk fun w1 hR K_ hK=>?_;replace hF:=hF.rely hR;clear hR;go_simp;try (unfold stored;go_simp)
 refine hK _ _ ⟨?_,?_⟩
 ·exact Yw plain (Yi plain Tryz.func26 (by kernel_rfl) _) (by kernel_rfl) _
 clear hK K_;have hz:w1.heap.size=w.heap.size+4:=hF.size.trans hs;replace hF:Is (W4.alloc (.cells #[.slice (some ⟨w.heap.size+3,0,none⟩) 2 2] 100)) (w1.alloc (.cells #[.slice (some ⟨w.heap.size+3,0,none⟩) 2 2] 100)):=hF.alloc _;rw [hz];generalize w1.alloc (.cells #[.slice (some ⟨w.heap.size+3,0,none⟩) 2 2] 100)=w2 at *;clear hz;have r4:=one_row W4 (.slice (some ⟨w.heap.size+3,0,none⟩) 2 2) 100;rw [hs] at r4;replace r0:=r0.alloc (.cells #[.slice (some ⟨w.heap.size+3,0,none⟩) 2 2] 100);replace r1:=r1.alloc (.cells #[.slice (some ⟨w.heap.size+3,0,none⟩) 2 2] 100);replace r2:=r2.alloc (.cells #[.slice (some ⟨w.heap.size+3,0,none⟩) 2 2] 100);replace r3:=r3.alloc (.cells #[.slice (some ⟨w.heap.size+3,0,none⟩) 2 2] 100);have hs2:(W4.alloc (.cells #[.slice (some ⟨w.heap.size+3,0,none⟩) 2 2] 100)).heap.size=w.heap.size+5:=by simp<;>omega
 replace hB:=hB.alloc (by rw [hs];omega) (.cells #[.slice (some ⟨w.heap.size+3,0,none⟩) 2 2] 100);clear hs;generalize W4.alloc (.cells #[.slice (some ⟨w.heap.size+3,0,none⟩) 2 2] 100)=W5 at *;have hs:=hs2;clear hs2;try walk_nrm
 refine .op rfl (by rfl) hk fun w1 hR K_ hK=>?_;replace hF:=hF.rely hR;clear hR;go_simp;try (unfold stored;go_simp)
 refine hK _ _ ⟨?_,?_⟩
 ·exact Yw plain (Yi plain Tryz.func26 (by kernel_rfl) _) (by kernel_rfl) _
 clear hK K_;try walk_nrm
 refine .op rfl (by rfl) hk fun w1 hR K_ hK=>?_;replace hF:=hF.rely hR;clear hR;go_simp;try (unfold stored;go_simp)
 refine hK _ _ ⟨?_,?_⟩
 ·exact Yw plain (Yi plain Tryz.func26 (by kernel_rfl) _) (by kernel_rfl) _
 clear hK K_;have hz:w1.heap.size=w.heap.size+5:=hF.size.trans hs;replace hF:Is (W5.alloc (.cells (([1,0,1]:List Int).map (Value.int .i64 ·)).toArray 138)) (w1.alloc (.cells #[.int .i64 1,.int .i64 0,.int .i64 1] 138)):=hF.alloc _;rw [hz];generalize w1.alloc (.cells #[.int .i64 1,.int .i64 0,.int .i64 1] 138)=w2 at *;clear hz;have r5:=YcW W5 [1,0,1] 138;rw [hs] at r5;replace r0:=r0.alloc (.cells (([1,0,1]:List Int).map (Value.int .i64 ·)).toArray 138);replace r1:=r1.alloc (.cells (([1,0,1]:List Int).map (Value.int .i64 ·)).toArray 138);replace r2:=r2.alloc (.cells (([1,0,1]:List Int).map (Value.int .i64 ·)).toArray 138);replace r3:=r3.alloc (.cells (([1,0,1]:List Int).map (Value.int .i64 ·)).toArray 138);replace r4:=r4.alloc (.cells (([1,0,1]:List Int).map (Value.int .i64 ·)).toArray 138);have hs2:(W5.alloc (.cells (([1,0,1]:List Int).map (Value.int .i64 ·)).toArray 138)).heap.size=w.heap.size+6:=by simp<;>omega
 replace hB:=hB.alloc (by rw [hs];omega) (.cells (([1,0,1]:List Int).map (Value.int .i64 ·)).toArray 138);clear hs;generalize W5.alloc (.cells (([1,0,1]:List Int).map (Value.int .i64 ·)).toArray 138)=W6 at *;have hs:=hs2;clear hs2;try walk_nrm
 refine .op rfl (by rfl) hk fun w1 hR K_ hK=>?_;replace hF:=hF.rely hR;clear hR;go_simp;try (unfold stored;go_simp)
 refine hK _ _ ⟨?_,?_⟩
 ·exact Yw plain (Yi plain Tryz.func26 (by kernel_rfl) _) (by kernel_rfl) _
 clear hK K_;try walk_nrm
 refine .op rfl (by rfl) hk fun w1 hR K_ hK=>?_;replace hF:=hF.rely hR;clear hR;go_simp;try (unfold stored;go_simp)
 refine hK _ _ ⟨?_,?_⟩
 ·exact Yw plain (Yi plain Tryz.func26 (by kernel_rfl) _) (by kernel_rfl) _
 clear hK K_;have hz:w1.heap.size=w.heap.size+6:=hF.size.trans hs;replace hF:Is (W6.alloc (.cells #[.slice none 0 0,.slice none 0 0,.slice none 0 0,.slice none 0 0] 28)) (w1.alloc (.cells #[.slice none 0 0,.slice none 0 0,.slice none 0 0,.slice none 0 0] 28)):=hF.alloc _;rw [hz];generalize w1.alloc (.cells #[.slice none 0 0,.slice none 0 0,.slice none 0 0,.slice none 0 0] 28)=w2 at *;clear hz;have r6:=row4 W6 (.slice none 0 0) (.slice none 0 0) (.slice none 0 0) (.slice none 0 0) 28;rw [hs] at r6;replace r0:=r0.alloc (.cells #[.slice none 0 0,.slice none 0 0,.slice none 0 0,.slice none 0 0] 28);replace r1:=r1.alloc (.cells #[.slice none 0 0,.slice none 0 0,.slice none 0 0,.slice none 0 0] 28);replace r2:=r2.alloc (.cells #[.slice none 0 0,.slice none 0 0,.slice none 0 0,.slice none 0 0] 28);replace r3:=r3.alloc (.cells #[.slice none 0 0,.slice none 0 0,.slice none 0 0,.slice none 0 0] 28);replace r4:=r4.alloc (.cells #[.slice none 0 0,.slice none 0 0,.slice none 0 0,.slice none 0 0] 28);replace r5:=r5.alloc (.cells #[.slice none 0 0,.slice none 0 0,.slice none 0 0,.slice none 0 0] 28);have hs2:(W6.alloc (.cells #[.slice none 0 0,.slice none 0 0,.slice none 0 0,.slice none 0 0] 28)).heap.size=w.heap.size+7:=by simp<;>omega
 replace hB:=hB.alloc (by rw [hs];omega) (.cells #[.slice none 0 0,.slice none 0 0,.slice none 0 0,.slice none 0 0] 28);clear hs;generalize W6.alloc (.cells #[.slice none 0 0,.slice none 0 0,.slice none 0 0,.slice none 0 0] 28)=W7 at *;have hs:=hs2;clear hs2;try walk_nrm
 refine .op rfl (by rfl) hk fun w1 hR K_ hK=>?_;replace hF:=hF.rely hR;clear hR;have q0:World.cell? w1 ⟨w.heap.size+6,0,none⟩=some (.slice none 0 0):=(hF.cell _).trans (r6.cell (j:=0) (by omega));have q1:World.cell? w1 ⟨w.heap.size+6,1,none⟩=some (.slice none 0 0):=(hF.cell _).trans (r6.cell (j:=1) (by omega));have q2:World.cell? w1 ⟨w.heap.size+6,2,none⟩=some (.slice none 0 0):=(hF.cell _).trans (r6.cell (j:=2) (by omega));have q3:World.cell? w1 ⟨w.heap.size+6,3,none⟩=some (.slice none 0 0):=(hF.cell _).trans (r6.cell (j:=3) (by omega));have f0:World.frozen? w1 ⟨w.heap.size+6,0,none⟩=false:=(hF.frozen _).trans (r6.frozen 0);have f1:World.frozen? w1 ⟨w.heap.size+6,1,none⟩=false:=(hF.frozen _).trans (r6.frozen 1);have f2:World.frozen? w1 ⟨w.heap.size+6,2,none⟩=false:=(hF.frozen _).trans (r6.frozen 2);have f3:World.frozen? w1 ⟨w.heap.size+6,3,none⟩=false:=(hF.frozen _).trans (r6.frozen 3);go_simp;try (unfold stored;go_simp)
 refine hK _ _ ⟨?_,?_⟩
 ·exact Yw plain (Yi plain Tryz.func26 (by kernel_rfl) _) (by kernel_rfl) _
 clear hK K_;clear q0 q1 q2 q3 f0 f1 f2 f3;replace hF:Is ((((W7.setCell ⟨w.heap.size+6,0,none⟩ (.slice (some ⟨w.heap.size+2,0,none⟩) 2 2)).setCell ⟨w.heap.size+6,1,none⟩ (.slice (some ⟨w.heap.size+4,0,none⟩) 1 1)).setCell ⟨w.heap.size+6,2,none⟩ (.slice (some ⟨w.heap.size+5,0,none⟩) 1 1)).setCell ⟨w.heap.size+6,3,none⟩ (.slice none 0 0)) ((((w1.setCell ⟨w.heap.size+6,0,none⟩ (.slice (some ⟨w.heap.size+2,0,none⟩) 2 2)).setCell ⟨w.heap.size+6,1,none⟩ (.slice (some ⟨w.heap.size+4,0,none⟩) 1 1)).setCell ⟨w.heap.size+6,2,none⟩ (.slice (some ⟨w.heap.size+5,0,none⟩) 1 1)).setCell ⟨w.heap.size+6,3,none⟩ (.slice none 0 0)):=(((hF.set _ _).set _ _).set _ _).set _ _;generalize ((((w1.setCell ⟨w.heap.size+6,0,none⟩ (.slice (some ⟨w.heap.size+2,0,none⟩) 2 2)).setCell ⟨w.heap.size+6,1,none⟩ (.slice (some ⟨w.heap.size+4,0,none⟩) 1 1)).setCell ⟨w.heap.size+6,2,none⟩ (.slice (some ⟨w.heap.size+5,0,none⟩) 1 1)).setCell ⟨w.heap.size+6,3,none⟩ (.slice none 0 0))=w2 at *;obtain ⟨s1,s2,s3⟩:=Ydk (a':=.slice (some ⟨w.heap.size+2,0,none⟩) 2 2) (b':=.slice (some ⟨w.heap.size+4,0,none⟩) 1 1) (c':=.slice (some ⟨w.heap.size+5,0,none⟩) 1 1) (d':=.slice none 0 0) r6;replace r0:=r0.of_heap (s2 _ (by omega));replace r1:=r1.of_heap (s2 _ (by omega));replace r2:=r2.of_heap (s2 _ (by omega));replace r3:=r3.of_heap (s2 _ (by omega));replace r4:=r4.of_heap (s2 _ (by omega));replace r5:=r5.of_heap (s2 _ (by omega));replace hB:Below w.heap.size w ((((W7.setCell ⟨w.heap.size+6,0,none⟩ (.slice (some ⟨w.heap.size+2,0,none⟩) 2 2)).setCell ⟨w.heap.size+6,1,none⟩ (.slice (some ⟨w.heap.size+4,0,none⟩) 1 1)).setCell ⟨w.heap.size+6,2,none⟩ (.slice (some ⟨w.heap.size+5,0,none⟩) 1 1)).setCell ⟨w.heap.size+6,3,none⟩ (.slice none 0 0)):=⟨hB.os,hB.tape,hB.output,by rw [s3];exact hB.size,fun b hb=>(s2 b (by omega)).trans (hB.block b hb)⟩;rw [hs] at s3;clear hs s2 r6;generalize ((((W7.setCell ⟨w.heap.size+6,0,none⟩ (.slice (some ⟨w.heap.size+2,0,none⟩) 2 2)).setCell ⟨w.heap.size+6,1,none⟩ (.slice (some ⟨w.heap.size+4,0,none⟩) 1 1)).setCell ⟨w.heap.size+6,2,none⟩ (.slice (some ⟨w.heap.size+5,0,none⟩) 1 1)).setCell ⟨w.heap.size+6,3,none⟩ (.slice none 0 0))=W8 at *;have hs:=s3;have r6:=s1;clear s3 s1;try walk_nrm
 repeat refine .c1 Y2 rfl ?_
 refine .regionL Y2 [0,1,2,3,4,5,6,7,8] (by rfl) ?_;refine .op rfl (by rfl) hk fun w1 hR K_ hK=>?_;replace hF:=hF.rely hR;clear hR;have q0:World.cell? w1 ⟨w.heap.size+6,0,none⟩=some (.slice (some ⟨w.heap.size+2,0,none⟩) 2 2):=(hF.cell _).trans (r6.cell (j:=0) (by omega));have q1:World.cell? w1 ⟨w.heap.size+6,1,none⟩=some (.slice (some ⟨w.heap.size+4,0,none⟩) 1 1):=(hF.cell _).trans (r6.cell (j:=1) (by omega));have q2:World.cell? w1 ⟨w.heap.size+6,2,none⟩=some (.slice (some ⟨w.heap.size+5,0,none⟩) 1 1):=(hF.cell _).trans (r6.cell (j:=2) (by omega));have q3:World.cell? w1 ⟨w.heap.size+6,3,none⟩=some (.slice none 0 0):=(hF.cell _).trans (r6.cell (j:=3) (by omega));go_simp;try (unfold stored;go_simp)
 refine hK _ _ ⟨?_,?_⟩
 ·exact Yw plain (Yi plain Tryz.func26 (by kernel_rfl) _) (by kernel_rfl) _
 clear hK K_;clear q0 q1 q2 q3;try walk_nrm
 refine .stop rfl fun w4 hR=>?_;obtain ⟨d4,rfl⟩:=hF.rely hR;clear hF hR;refine Y3.call rfl (by rfl) hk (fun d=>?run1) (fun d=>?evs1) (Ye2 (w:=W8.at d4) (c:=Yc7) (Yen (w:=W8.at d4) r0 (by decide) (by decide) r1 (by decide) (by decide) ⟨by decide,by decide⟩ r2 r3 r4 r5 ⟨none,0,rfl,Nat.le_refl _,by simp,fun _=>⟨rfl,rfl⟩,by decide,.inl rfl⟩) YfQ (fun _ _=>rfl) Yg6) (fun v wN hv=>?_)
 case run1=>kernel_rfl
 case evs1=>
  rw [listed_nil (by kernel_rfl)];simp
 obtain ⟨hN,k,N,t,f,rfl,hO,hK⟩:=hv;refine Y3.of_goes ?_;have hF:=Is.self wN;try walk_nrm
 replace hN:Below W8.heap.size W8 wN:=⟨hN.os,hN.tape,hN.output,hN.size,hN.block⟩;refine .op rfl (by rfl) hk fun w1 hR K_ hK=>?_;replace hF:=hF.rely hR;clear hR;go_simp;try (unfold stored;go_simp)
 refine hK _ _ ⟨?_,?_⟩
 ·exact Yw plain (Yi plain Tryz.func26 (by kernel_rfl) _) (by kernel_rfl) _
 clear hK K_;try walk_nrm
 refine .op rfl (by rfl) hk fun w1 hR K_ hK=>?_;replace hF:=hF.rely hR;clear hR;go_simp;try (unfold stored;go_simp)
 refine hK _ _ ⟨?_,?_⟩
 ·exact Yw plain (Yi plain Tryz.func26 (by kernel_rfl) _) (by kernel_rfl) _
 clear hK K_;try walk_nrm
 refine .op rfl (by rfl) hk fun w1 hR K_ hK=>?_;replace hF:=hF.rely hR;clear hR;go_simp;try (unfold stored;go_simp)
 refine hK _ _ ⟨?_,?_⟩
 ·exact Yw plain (Yi plain Tryz.func26 (by kernel_rfl) _) (by kernel_rfl) _
 clear hK K_;try walk_nrm
 refine .op rfl (by rfl) hk fun w1 hR K_ hK=>?_;replace hF:=hF.rely hR;clear hR;go_simp;try (unfold stored;go_simp)
 refine hK _ _ ⟨?_,?_⟩
 ·exact Yw plain (Yi plain Tryz.func26 (by kernel_rfl) _) (by kernel_rfl) _
 clear hK K_;try walk_nrm
 refine .op rfl (by rfl) hk fun w1 hR K_ hK=>?_;replace hF:=hF.rely hR;clear hR;go_simp;try (unfold stored;go_simp)
 refine hK _ _ ⟨?_,?_⟩
 ·exact Yw plain (Yi plain Tryz.func26 (by kernel_rfl) _) (by kernel_rfl) _
 clear hK K_;try walk_nrm
 refine .op rfl (by rfl) hk fun w1 hR K_ hK=>?_;replace hF:=hF.rely hR;clear hR;go_simp;try (unfold stored;go_simp)
 refine hK _ _ ⟨?_,?_⟩
 ·exact Yw plain (Yi plain Tryz.func26 (by kernel_rfl) _) (by kernel_rfl) _
 clear hK K_;try walk_nrm
 refine .op rfl (by rfl) hk fun w1 hR K_ hK=>?_;replace hF:=hF.rely hR;clear hR;go_simp;try (unfold stored;go_simp)
 refine hK _ _ ⟨?_,?_⟩
 ·exact Yw plain (Yi plain Tryz.func26 (by kernel_rfl) _) (by kernel_rfl) _
 clear hK K_;try walk_nrm
 repeat refine .c1 Y2 rfl ?_
 refine .regionL Y2 [0,1,2,3,4,5] (by rfl) ?_;refine .op rfl (by rfl) hk fun w1 hR K_ hK=>?_;replace hF:=hF.rely hR;clear hR;go_simp;try (unfold stored;go_simp)
 refine hK _ _ ⟨?_,?_⟩
 ·exact Yw plain (Yi plain Tryz.func26 (by kernel_rfl) _) (by kernel_rfl) _
 clear hK K_;try walk_nrm
 refine .op rfl (by rfl) hk fun w1 hR K_ hK=>?_;replace hF:=hF.rely hR;clear hR;go_simp;try (unfold stored;go_simp)
 refine hK _ _ ⟨?_,?_⟩
 ·exact Yw plain (Yi plain Tryz.func26 (by kernel_rfl) _) (by kernel_rfl) _
 clear hK K_;try walk_nrm
 refine .op rfl (by rfl) hk fun w1 hR K_ hK=>?_;replace hF:=hF.rely hR;clear hR;go_simp;try (unfold stored;go_simp)
 refine hK _ _ ⟨?_,?_⟩
 ·exact Yw plain (Yi plain Tryz.func26 (by kernel_rfl) _) (by kernel_rfl) _
 clear hK K_;try walk_nrm
 refine .op rfl (by rfl) hk fun w1 hR K_ hK=>?_;replace hF:=hF.rely hR;clear hR;go_simp;try (unfold stored;go_simp)
 refine hK _ _ ⟨?_,?_⟩
 ·exact Yw plain (Yi plain Tryz.func26 (by kernel_rfl) _) (by kernel_rfl) _
 clear hK K_;try walk_nrm
 refine .op rfl (by rfl) hk fun w1 hR K_ hK=>?_;replace hF:=hF.rely hR;clear hR;go_simp;try (unfold stored;go_simp)
 refine hK _ _ ⟨?_,?_⟩
 ·exact Yw plain (Yi plain Tryz.func26 (by kernel_rfl) _) (by kernel_rfl) _
 clear hK K_;try walk_nrm
 refine .op rfl (by rfl) hk fun w1 hR K_ hK=>?_;replace hF:=hF.rely hR;clear hR;go_simp;try (unfold stored;go_simp)
 refine hK _ _ ⟨?_,?_⟩
 ·exact Yw plain (Yi plain Tryz.func26 (by kernel_rfl) _) (by kernel_rfl) _
 clear hK K_;try walk_nrm
 repeat refine .c1 Y2 rfl ?_
 refine Y1.condF Y2 (by first|rfl|simp [Act.eval]) ?_;have hBN:Below w.heap.size w wN:=⟨hN.os.trans hB.os,hN.tape.trans hB.tape,hN.output.trans hB.output,Nat.le_trans hB.size hN.size,fun b hb=>(hN.block b (by omega)).trans (hB.block b hb)⟩;have hSN:∀b,(W8.heap.size≤b∧b<wN.heap.size)→w.heap.size≤b:=fun b hb=>by omega
 have e0:(0+1) % t.nT=0:=by rw [hO.nT];rfl
 clear hB hN r0 r1 r2 r3 r4 r5 r6;repeat refine .c1 Y2 rfl ?_
 refine .regionL Y2 [0,1,2] (by rfl) ?_;refine .op rfl (by rfl) hk fun w1 hR K_ hK=>?_;replace hF:=hF.rely hR;clear hR;go_simp;try (unfold stored;go_simp)
 refine hK _ _ ⟨?_,?_⟩
 ·exact Yw plain (Yi plain Tryz.func26 (by kernel_rfl) _) (by kernel_rfl) _
 clear hK K_;try walk_nrm
 refine .stop rfl fun w4 hR=>?_;obtain ⟨d4,rfl⟩:=hF.rely hR;clear hF hR;refine Y3.call rfl (by rfl) hk (fun d=>?run2) (fun d=>?evs2) ((hK.keep (w':=wN.at d4) (fun _ _=>rfl) (Nat.le_refl _)).frame YeZ YdP (by omega)) (fun v wF hv=>?_)
 case run2=>kernel_rfl
 case evs2=>
  rw [listed_nil (by kernel_rfl)];simp
 obtain ⟨rfl,f1,lr1,hK1,hB1⟩:=hv;refine Y3.of_goes ?_;have hF:=Is.self wF;try walk_nrm
 rw [hO.frame,e0] at hK1;replace hB1:But (fun b=>W8.heap.size≤b∧b<wN.heap.size) wN wF:=⟨hB1.os,hB1.tape,hB1.output,hB1.size,hB1.block⟩;have hBF:=Ydj hBN hB1 hSN hBN.size;clear hB1 hK;refine .op rfl (by rfl) hk fun w1 hR K_ hK=>?_;replace hF:=hF.rely hR;clear hR;go_simp;try (unfold stored;go_simp)
 refine hK _ _ ⟨?_,?_⟩
 ·exact Yw plain (Yi plain Tryz.func26 (by kernel_rfl) _) (by kernel_rfl) _
 clear hK K_;try walk_nrm
 repeat refine .c1 Y2 rfl ?_
 refine .regionL Y2 [0,1,2] (by rfl) ?_;refine .op rfl (by rfl) hk fun w1 hR K_ hK=>?_;replace hF:=hF.rely hR;clear hR;go_simp;try (unfold stored;go_simp)
 refine hK _ _ ⟨?_,?_⟩
 ·exact Yw plain (Yi plain Tryz.func26 (by kernel_rfl) _) (by kernel_rfl) _
 clear hK K_;try walk_nrm
 refine .stop rfl fun w4 hR=>?_;obtain ⟨d4,rfl⟩:=hF.rely hR;clear hF hR;refine Y3.call rfl (by rfl) hk (fun d=>?run3) (fun d=>?evs3) ((hK1.keep (w':=wF.at d4) (fun _ _=>rfl) (Nat.le_refl _)).frame YfC YdP (by omega)) (fun v wG hv=>?_)
 case run3=>kernel_rfl
 case evs3=>
  rw [listed_nil (by kernel_rfl)];simp
 obtain ⟨rfl,f2,lr2,hK2,hB2⟩:=hv;refine Y3.of_goes ?_;have hF:=Is.self wG;try walk_nrm
 rw [hO.frame,e0] at hK2;have hBG:Below w.heap.size w wG:=Ydj (a:=wF) hBF ⟨hB2.os,hB2.tape,hB2.output,hB2.size,hB2.block⟩ (fun x hx=>hx.elim (hSN x) fun h=>Nat.le_trans hBN.size h.1) hBF.size;clear hB2 hK1;refine .op rfl (by rfl) hk fun w1 hR K_ hK=>?_;replace hF:=hF.rely hR;clear hR;go_simp;try (unfold stored;go_simp)
 refine hK _ _ ⟨?_,?_⟩
 ·exact Yw plain (Yi plain Tryz.func26 (by kernel_rfl) _) (by kernel_rfl) _
 clear hK K_;try walk_nrm
 repeat refine .c1 Y2 rfl ?_
 refine .regionL Y2 [0,1,2,3,4,5,6] (by rfl) ?_;refine .op rfl (by rfl) hk fun w1 hR K_ hK=>?_;replace hF:=hF.rely hR;clear hR;go_simp;try (unfold stored;go_simp)
 refine hK _ _ ⟨?_,?_⟩
 ·exact Yw plain (Yi plain Tryz.func26 (by kernel_rfl) _) (by kernel_rfl) _
 clear hK K_;try walk_nrm
 change YbS wG k N t Ydo f2 lr2 0 _ at hK2;refine .stop rfl fun w4 hR=>?_;obtain ⟨d4,rfl⟩:=hF.rely hR;clear hF hR;refine Y3.call rfl (by rfl) hk (fun d=>?run4) (fun d=>?evs4) ((hK2.keep (w':=wG.at d4) (fun _ _=>rfl) (Nat.le_refl _)).trace (cell:=1) (by rw [hO.nC];decide) (tz:=fun j=>[1,0,0,1,0,0,3,4,1,1,5,0,1,1,0,3,5,1].getD j 0) (by rw [Yd1.1];exact Yd1.2) (by rw [Yd1.1];decide)) (fun v wT hv=>?_)
 case run4=>kernel_rfl
 case evs4=>
  rw [listed_nil (by kernel_rfl)];simp
 obtain ⟨hT,u,rfl,hu⟩:=hv;refine Y3.of_goes ?_;have hF:=Is.self wT;try walk_nrm
 rw [Yd1.1] at hu;have hBT:Below w.heap.size w wT:=⟨hT.os.trans hBG.os,hT.tape.trans hBG.tape,hT.output.trans hBG.output,Nat.le_trans hBG.size hT.size,fun b hb=>(hT.block b (Nat.lt_of_lt_of_le hb hBG.size)).trans (hBG.block b hb)⟩;obtain ⟨g,cap,rfl,-,-⟩:=hu.form (by omega);clear hT hK2;refine .op rfl (by rfl) hk fun w1 hR K_ hK=>?_;replace hF:=hF.rely hR;clear hR;go_simp;try (unfold stored;go_simp)
 refine hK _ _ ⟨?_,?_⟩
 ·exact Yw plain (Yi plain Tryz.func26 (by kernel_rfl) _) (by kernel_rfl) _
 clear hK K_;try walk_nrm
 refine .op rfl (by rfl) hk fun w1 hR K_ hK=>?_;replace hF:=hF.rely hR;clear hR;go_simp;try (unfold stored;go_simp)
 refine hK _ _ ⟨?_,?_⟩
 ·exact Yw plain (Yi plain Tryz.func26 (by kernel_rfl) _) (by kernel_rfl) _
 clear hK K_;try walk_nrm
 refine .op rfl (by rfl) hk fun w1 hR K_ hK=>?_;replace hF:=hF.rely hR;clear hR;go_simp;try (unfold stored;go_simp)
 refine hK _ _ ⟨?_,?_⟩
 ·exact Yw plain (Yi plain Tryz.func26 (by kernel_rfl) _) (by kernel_rfl) _
 clear hK K_;try walk_nrm
 refine .op rfl (by rfl) hk fun w1 hR K_ hK=>?_;replace hF:=hF.rely hR;clear hR;go_simp;try (unfold stored;go_simp)
 refine hK _ _ ⟨?_,?_⟩
 ·exact Yw plain (Yi plain Tryz.func26 (by kernel_rfl) _) (by kernel_rfl) _
 clear hK K_;try walk_nrm
 refine .op rfl (by rfl) hk fun w1 hR K_ hK=>?_;replace hF:=hF.rely hR;clear hR;go_simp;try (unfold stored;go_simp)
 refine hK _ _ ⟨?_,?_⟩
 ·exact Yw plain (Yi plain Tryz.func26 (by kernel_rfl) _) (by kernel_rfl) _
 clear hK K_;try walk_nrm
 repeat refine .c1 Y2 rfl ?_
 refine .regionL Y2 [0,1,2,3,4,5,6,7,8,9,10,11,12,13,14] (by rfl) ?_;refine .op rfl (by rfl) hk fun w1 hR K_ hK=>?_;replace hF:=hF.rely hR;clear hR;go_simp;try (unfold stored;go_simp)
 refine hK _ _ ⟨?_,?_⟩
 ·exact Yw plain (Yi plain Tryz.func26 (by kernel_rfl) _) (by kernel_rfl) _
 clear hK K_;try walk_nrm
 refine .op rfl (by rfl) hk fun w1 hR K_ hK=>?_;replace hF:=hF.rely hR;clear hR;go_simp;try (unfold stored;go_simp)
 refine hK _ _ ⟨?_,?_⟩
 ·exact Yw plain (Yi plain Tryz.func26 (by kernel_rfl) _) (by kernel_rfl) _
 clear hK K_;try walk_nrm
 refine .op rfl (by rfl) hk fun w1 hR K_ hK=>?_;replace hF:=hF.rely hR;clear hR;go_simp;try (unfold stored;go_simp)
 refine hK _ _ ⟨?_,?_⟩
 ·exact Yw plain (Yi plain Tryz.func26 (by kernel_rfl) _) (by kernel_rfl) _
 clear hK K_;try walk_nrm
 refine .op rfl (by rfl) hk fun w1 hR K_ hK=>?_;replace hF:=hF.rely hR;clear hR;go_simp;try (unfold stored;go_simp)
 refine hK _ _ ⟨?_,?_⟩
 ·exact Yw plain (Yi plain Tryz.func26 (by kernel_rfl) _) (by kernel_rfl) _
 clear hK K_;try walk_nrm
 refine .op rfl (by rfl) hk fun w1 hR K_ hK=>?_;replace hF:=hF.rely hR;clear hR;go_simp;try (unfold stored;go_simp)
 refine hK _ _ ⟨?_,?_⟩
 ·exact Yw plain (Yi plain Tryz.func26 (by kernel_rfl) _) (by kernel_rfl) _
 clear hK K_;try walk_nrm
 refine .op rfl (by rfl) hk fun w1 hR K_ hK=>?_;replace hF:=hF.rely hR;clear hR;go_simp;try (unfold stored;go_simp)
 refine hK _ _ ⟨?_,?_⟩
 ·exact Yw plain (Yi plain Tryz.func26 (by kernel_rfl) _) (by kernel_rfl) _
 clear hK K_;try walk_nrm
 refine .op rfl (by rfl) hk fun w1 hR K_ hK=>?_;replace hF:=hF.rely hR;clear hR;go_simp;try (unfold stored;go_simp)
 refine hK _ _ ⟨?_,?_⟩
 ·exact Yw plain (Yi plain Tryz.func26 (by kernel_rfl) _) (by kernel_rfl) _
 clear hK K_;try walk_nrm
 refine .op rfl (by rfl) hk fun w1 hR K_ hK=>?_;replace hF:=hF.rely hR;clear hR;go_simp;try (unfold stored;go_simp)
 refine hK _ _ ⟨?_,?_⟩
 ·exact Yw plain (Yi plain Tryz.func26 (by kernel_rfl) _) (by kernel_rfl) _
 clear hK K_;try walk_nrm
 refine .op rfl (by rfl) hk fun w1 hR K_ hK=>?_;replace hF:=hF.rely hR;clear hR;go_simp;try (unfold stored;go_simp)
 refine hK _ _ ⟨?_,?_⟩
 ·exact Yw plain (Yi plain Tryz.func26 (by kernel_rfl) _) (by kernel_rfl) _
 clear hK K_;try walk_nrm
 refine .op rfl (by rfl) hk fun w1 hR K_ hK=>?_;replace hF:=hF.rely hR;clear hR;go_simp;try (unfold stored;go_simp)
 refine hK _ _ ⟨?_,?_⟩
 ·exact Yw plain (Yi plain Tryz.func26 (by kernel_rfl) _) (by kernel_rfl) _
 clear hK K_;try walk_nrm
 refine .op rfl (by rfl) hk fun w1 hR K_ hK=>?_;replace hF:=hF.rely hR;clear hR;go_simp;try (unfold stored;go_simp)
 refine hK _ _ ⟨?_,?_⟩
 ·exact Yw plain (Yi plain Tryz.func26 (by kernel_rfl) _) (by kernel_rfl) _
 clear hK K_;try walk_nrm
 refine .op rfl (by rfl) hk fun w1 hR K_ hK=>?_;replace hF:=hF.rely hR;clear hR;go_simp;try (unfold stored;go_simp)
 refine hK _ _ ⟨?_,?_⟩
 ·exact Yw plain (Yi plain Tryz.func26 (by kernel_rfl) _) (by kernel_rfl) _
 clear hK K_;try walk_nrm
 refine .op rfl (by rfl) hk fun w1 hR K_ hK=>?_;replace hF:=hF.rely hR;clear hR;go_simp;try (unfold stored;go_simp)
 refine hK _ _ ⟨?_,?_⟩
 ·exact Yw plain (Yi plain Tryz.func26 (by kernel_rfl) _) (by kernel_rfl) _
 clear hK K_;try walk_nrm
 refine .op rfl (by rfl) hk fun w1 hR K_ hK=>?_;replace hF:=hF.rely hR;clear hR;go_simp;try (unfold stored;go_simp)
 refine hK _ _ ⟨?_,?_⟩
 ·exact Yw plain (Yi plain Tryz.func26 (by kernel_rfl) _) (by kernel_rfl) _
 clear hK K_;try walk_nrm
 refine .op rfl (by rfl) hk fun w1 hR K_ hK=>?_;replace hF:=hF.rely hR;clear hR;go_simp;try (unfold stored;go_simp)
 refine hK _ _ ⟨?_,?_⟩
 ·exact Yw plain (Yi plain Tryz.func26 (by kernel_rfl) _) (by kernel_rfl) _
 clear hK K_;try walk_nrm
 repeat refine .c1 Y2 rfl ?_
 refine Y1.condF Y2 (by first|rfl|simp [Act.eval]) ?_;repeat refine .c1 Y2 rfl ?_
 refine .regionL Y2 [0,1,2,3,4,5,6,7,8,9,10,11,12,13,14,15,16,17,18,19,20,21,22,23,24,25,26,27,28,29,30,31,32,33,34,35,36,37,38,39,40] (by rfl) ?_;refine .op rfl (by rfl) hk fun w1 hR K_ hK=>?_;replace hF:=hF.rely hR;clear hR;go_simp;try (unfold stored;go_simp)
 refine hK _ _ ⟨?_,?_⟩
 ·exact Yw plain (Yi plain Tryz.func26 (by kernel_rfl) _) (by kernel_rfl) _
 clear hK K_;try walk_nrm
 refine .op rfl (by rfl) hk fun w1 hR K_ hK=>?_;replace hF:=hF.rely hR;clear hR;go_simp;try (unfold stored;go_simp)
 refine hK _ _ ⟨?_,?_⟩
 ·exact Yw plain (Yi plain Tryz.func26 (by kernel_rfl) _) (by kernel_rfl) _
 clear hK K_;try walk_nrm
 refine .op rfl (by rfl) hk fun w1 hR K_ hK=>?_;replace hF:=hF.rely hR;clear hR;go_simp;try (unfold stored;go_simp)
 refine hK _ _ ⟨?_,?_⟩
 ·exact Yw plain (Yi plain Tryz.func26 (by kernel_rfl) _) (by kernel_rfl) _
 clear hK K_;try walk_nrm
 refine .op rfl (by rfl) hk fun w1 hR K_ hK=>?_;replace hF:=hF.rely hR;clear hR;have hc:World.cell? w1 ⟨g,1,none⟩=some (.int .i64 0):=(hF.cell _).trans (XC hu rfl);go_simp;try (unfold stored;go_simp)
 refine hK _ _ ⟨?_,?_⟩
 ·exact Yw plain (Yi plain Tryz.func26 (by kernel_rfl) _) (by kernel_rfl) _
 clear hK K_;clear hc;try walk_nrm
 refine .op rfl (by rfl) hk fun w1 hR K_ hK=>?_;replace hF:=hF.rely hR;clear hR;go_simp;try (unfold stored;go_simp)
 refine hK _ _ ⟨?_,?_⟩
 ·exact Yw plain (Yi plain Tryz.func26 (by kernel_rfl) _) (by kernel_rfl) _
 clear hK K_;try walk_nrm
 refine .op rfl (by rfl) hk fun w1 hR K_ hK=>?_;replace hF:=hF.rely hR;clear hR;go_simp;try (unfold stored;go_simp)
 refine hK _ _ ⟨?_,?_⟩
 ·exact Yw plain (Yi plain Tryz.func26 (by kernel_rfl) _) (by kernel_rfl) _
 clear hK K_;try walk_nrm
 refine .op rfl (by rfl) hk fun w1 hR K_ hK=>?_;replace hF:=hF.rely hR;clear hR;go_simp;try (unfold stored;go_simp)
 refine hK _ _ ⟨?_,?_⟩
 ·exact Yw plain (Yi plain Tryz.func26 (by kernel_rfl) _) (by kernel_rfl) _
 clear hK K_;try walk_nrm
 refine .op rfl (by rfl) hk fun w1 hR K_ hK=>?_;replace hF:=hF.rely hR;clear hR;go_simp;try (unfold stored;go_simp)
 refine hK _ _ ⟨?_,?_⟩
 ·exact Yw plain (Yi plain Tryz.func26 (by kernel_rfl) _) (by kernel_rfl) _
 clear hK K_;try walk_nrm
 refine .op rfl (by rfl) hk fun w1 hR K_ hK=>?_;replace hF:=hF.rely hR;clear hR;go_simp;try (unfold stored;go_simp)
 refine hK _ _ ⟨?_,?_⟩
 ·exact Yw plain (Yi plain Tryz.func26 (by kernel_rfl) _) (by kernel_rfl) _
 clear hK K_;try walk_nrm
 refine .op rfl (by rfl) hk fun w1 hR K_ hK=>?_;replace hF:=hF.rely hR;clear hR;have hc:World.cell? w1 ⟨g,4,none⟩=some (.int .i64 0):=(hF.cell _).trans (XC hu rfl);go_simp;try (unfold stored;go_simp)
 refine hK _ _ ⟨?_,?_⟩
 ·exact Yw plain (Yi plain Tryz.func26 (by kernel_rfl) _) (by kernel_rfl) _
 clear hK K_;clear hc;try walk_nrm
 refine .op rfl (by rfl) hk fun w1 hR K_ hK=>?_;replace hF:=hF.rely hR;clear hR;go_simp;try (unfold stored;go_simp)
 refine hK _ _ ⟨?_,?_⟩
 ·exact Yw plain (Yi plain Tryz.func26 (by kernel_rfl) _) (by kernel_rfl) _
 clear hK K_;try walk_nrm
 refine .op rfl (by rfl) hk fun w1 hR K_ hK=>?_;replace hF:=hF.rely hR;clear hR;go_simp;try (unfold stored;go_simp)
 refine hK _ _ ⟨?_,?_⟩
 ·exact Yw plain (Yi plain Tryz.func26 (by kernel_rfl) _) (by kernel_rfl) _
 clear hK K_;try walk_nrm
 refine .op rfl (by rfl) hk fun w1 hR K_ hK=>?_;replace hF:=hF.rely hR;clear hR;go_simp;try (unfold stored;go_simp)
 refine hK _ _ ⟨?_,?_⟩
 ·exact Yw plain (Yi plain Tryz.func26 (by kernel_rfl) _) (by kernel_rfl) _
 clear hK K_;try walk_nrm
 refine .op rfl (by rfl) hk fun w1 hR K_ hK=>?_;replace hF:=hF.rely hR;clear hR;go_simp;try (unfold stored;go_simp)
 refine hK _ _ ⟨?_,?_⟩
 ·exact Yw plain (Yi plain Tryz.func26 (by kernel_rfl) _) (by kernel_rfl) _
 clear hK K_;try walk_nrm
 refine .op rfl (by rfl) hk fun w1 hR K_ hK=>?_;replace hF:=hF.rely hR;clear hR;go_simp;try (unfold stored;go_simp)
 refine hK _ _ ⟨?_,?_⟩
 ·exact Yw plain (Yi plain Tryz.func26 (by kernel_rfl) _) (by kernel_rfl) _
 clear hK K_;try walk_nrm
 refine .op rfl (by rfl) hk fun w1 hR K_ hK=>?_;replace hF:=hF.rely hR;clear hR;go_simp;try (unfold stored;go_simp)
 refine hK _ _ ⟨?_,?_⟩
 ·exact Yw plain (Yi plain Tryz.func26 (by kernel_rfl) _) (by kernel_rfl) _
 clear hK K_;try walk_nrm
 refine .op rfl (by rfl) hk fun w1 hR K_ hK=>?_;replace hF:=hF.rely hR;clear hR;have hc:World.cell? w1 ⟨g,6,none⟩=some (.int .i64 3):=(hF.cell _).trans (XC hu rfl);go_simp;try (unfold stored;go_simp)
 refine hK _ _ ⟨?_,?_⟩
 ·exact Yw plain (Yi plain Tryz.func26 (by kernel_rfl) _) (by kernel_rfl) _
 clear hK K_;clear hc;try walk_nrm
 refine .op rfl (by rfl) hk fun w1 hR K_ hK=>?_;replace hF:=hF.rely hR;clear hR;go_simp;try (unfold stored;go_simp)
 refine hK _ _ ⟨?_,?_⟩
 ·exact Yw plain (Yi plain Tryz.func26 (by kernel_rfl) _) (by kernel_rfl) _
 clear hK K_;try walk_nrm
 refine .op rfl (by rfl) hk fun w1 hR K_ hK=>?_;replace hF:=hF.rely hR;clear hR;go_simp;try (unfold stored;go_simp)
 refine hK _ _ ⟨?_,?_⟩
 ·exact Yw plain (Yi plain Tryz.func26 (by kernel_rfl) _) (by kernel_rfl) _
 clear hK K_;try walk_nrm
 refine .op rfl (by rfl) hk fun w1 hR K_ hK=>?_;replace hF:=hF.rely hR;clear hR;go_simp;try (unfold stored;go_simp)
 refine hK _ _ ⟨?_,?_⟩
 ·exact Yw plain (Yi plain Tryz.func26 (by kernel_rfl) _) (by kernel_rfl) _
 clear hK K_;try walk_nrm
 refine .op rfl (by rfl) hk fun w1 hR K_ hK=>?_;replace hF:=hF.rely hR;clear hR;go_simp;try (unfold stored;go_simp)
 refine hK _ _ ⟨?_,?_⟩
 ·exact Yw plain (Yi plain Tryz.func26 (by kernel_rfl) _) (by kernel_rfl) _
 clear hK K_;try walk_nrm
 refine .op rfl (by rfl) hk fun w1 hR K_ hK=>?_;replace hF:=hF.rely hR;clear hR;go_simp;try (unfold stored;go_simp)
 refine hK _ _ ⟨?_,?_⟩
 ·exact Yw plain (Yi plain Tryz.func26 (by kernel_rfl) _) (by kernel_rfl) _
 clear hK K_;try walk_nrm
 refine .op rfl (by rfl) hk fun w1 hR K_ hK=>?_;replace hF:=hF.rely hR;clear hR;go_simp;try (unfold stored;go_simp)
 refine hK _ _ ⟨?_,?_⟩
 ·exact Yw plain (Yi plain Tryz.func26 (by kernel_rfl) _) (by kernel_rfl) _
 clear hK K_;try walk_nrm
 refine .op rfl (by rfl) hk fun w1 hR K_ hK=>?_;replace hF:=hF.rely hR;clear hR;have hc:World.cell? w1 ⟨g,10,none⟩=some (.int .i64 5):=(hF.cell _).trans (XC hu rfl);go_simp;try (unfold stored;go_simp)
 refine hK _ _ ⟨?_,?_⟩
 ·exact Yw plain (Yi plain Tryz.func26 (by kernel_rfl) _) (by kernel_rfl) _
 clear hK K_;clear hc;try walk_nrm
 refine .op rfl (by rfl) hk fun w1 hR K_ hK=>?_;replace hF:=hF.rely hR;clear hR;go_simp;try (unfold stored;go_simp)
 refine hK _ _ ⟨?_,?_⟩
 ·exact Yw plain (Yi plain Tryz.func26 (by kernel_rfl) _) (by kernel_rfl) _
 clear hK K_;try walk_nrm
 refine .op rfl (by rfl) hk fun w1 hR K_ hK=>?_;replace hF:=hF.rely hR;clear hR;go_simp;try (unfold stored;go_simp)
 refine hK _ _ ⟨?_,?_⟩
 ·exact Yw plain (Yi plain Tryz.func26 (by kernel_rfl) _) (by kernel_rfl) _
 clear hK K_;try walk_nrm
 refine .op rfl (by rfl) hk fun w1 hR K_ hK=>?_;replace hF:=hF.rely hR;clear hR;go_simp;try (unfold stored;go_simp)
 refine hK _ _ ⟨?_,?_⟩
 ·exact Yw plain (Yi plain Tryz.func26 (by kernel_rfl) _) (by kernel_rfl) _
 clear hK K_;try walk_nrm
 refine .op rfl (by rfl) hk fun w1 hR K_ hK=>?_;replace hF:=hF.rely hR;clear hR;go_simp;try (unfold stored;go_simp)
 refine hK _ _ ⟨?_,?_⟩
 ·exact Yw plain (Yi plain Tryz.func26 (by kernel_rfl) _) (by kernel_rfl) _
 clear hK K_;try walk_nrm
 refine .op rfl (by rfl) hk fun w1 hR K_ hK=>?_;replace hF:=hF.rely hR;clear hR;go_simp;try (unfold stored;go_simp)
 refine hK _ _ ⟨?_,?_⟩
 ·exact Yw plain (Yi plain Tryz.func26 (by kernel_rfl) _) (by kernel_rfl) _
 clear hK K_;try walk_nrm
 refine .op rfl (by rfl) hk fun w1 hR K_ hK=>?_;replace hF:=hF.rely hR;clear hR;go_simp;try (unfold stored;go_simp)
 refine hK _ _ ⟨?_,?_⟩
 ·exact Yw plain (Yi plain Tryz.func26 (by kernel_rfl) _) (by kernel_rfl) _
 clear hK K_;try walk_nrm
 refine .op rfl (by rfl) hk fun w1 hR K_ hK=>?_;replace hF:=hF.rely hR;clear hR;have hc:World.cell? w1 ⟨g,13,none⟩=some (.int .i64 1):=(hF.cell _).trans (XC hu rfl);go_simp;try (unfold stored;go_simp)
 refine hK _ _ ⟨?_,?_⟩
 ·exact Yw plain (Yi plain Tryz.func26 (by kernel_rfl) _) (by kernel_rfl) _
 clear hK K_;clear hc;try walk_nrm
 refine .op rfl (by rfl) hk fun w1 hR K_ hK=>?_;replace hF:=hF.rely hR;clear hR;go_simp;try (unfold stored;go_simp)
 refine hK _ _ ⟨?_,?_⟩
 ·exact Yw plain (Yi plain Tryz.func26 (by kernel_rfl) _) (by kernel_rfl) _
 clear hK K_;try walk_nrm
 refine .op rfl (by rfl) hk fun w1 hR K_ hK=>?_;replace hF:=hF.rely hR;clear hR;go_simp;try (unfold stored;go_simp)
 refine hK _ _ ⟨?_,?_⟩
 ·exact Yw plain (Yi plain Tryz.func26 (by kernel_rfl) _) (by kernel_rfl) _
 clear hK K_;try walk_nrm
 refine .op rfl (by rfl) hk fun w1 hR K_ hK=>?_;replace hF:=hF.rely hR;clear hR;go_simp;try (unfold stored;go_simp)
 refine hK _ _ ⟨?_,?_⟩
 ·exact Yw plain (Yi plain Tryz.func26 (by kernel_rfl) _) (by kernel_rfl) _
 clear hK K_;try walk_nrm
 refine .op rfl (by rfl) hk fun w1 hR K_ hK=>?_;replace hF:=hF.rely hR;clear hR;go_simp;try (unfold stored;go_simp)
 refine hK _ _ ⟨?_,?_⟩
 ·exact Yw plain (Yi plain Tryz.func26 (by kernel_rfl) _) (by kernel_rfl) _
 clear hK K_;try walk_nrm
 refine .op rfl (by rfl) hk fun w1 hR K_ hK=>?_;replace hF:=hF.rely hR;clear hR;go_simp;try (unfold stored;go_simp)
 refine hK _ _ ⟨?_,?_⟩
 ·exact Yw plain (Yi plain Tryz.func26 (by kernel_rfl) _) (by kernel_rfl) _
 clear hK K_;try walk_nrm
 refine .op rfl (by rfl) hk fun w1 hR K_ hK=>?_;replace hF:=hF.rely hR;clear hR;go_simp;try (unfold stored;go_simp)
 refine hK _ _ ⟨?_,?_⟩
 ·exact Yw plain (Yi plain Tryz.func26 (by kernel_rfl) _) (by kernel_rfl) _
 clear hK K_;try walk_nrm
 refine .op rfl (by rfl) hk fun w1 hR K_ hK=>?_;replace hF:=hF.rely hR;clear hR;have hc:World.cell? w1 ⟨g,17,none⟩=some (.int .i64 1):=(hF.cell _).trans (XC hu rfl);go_simp;try (unfold stored;go_simp)
 refine hK _ _ ⟨?_,?_⟩
 ·exact Yw plain (Yi plain Tryz.func26 (by kernel_rfl) _) (by kernel_rfl) _
 clear hK K_;clear hc;try walk_nrm
 refine .op rfl (by rfl) hk fun w1 hR K_ hK=>?_;replace hF:=hF.rely hR;clear hR;go_simp;try (unfold stored;go_simp)
 refine hK _ _ ⟨?_,?_⟩
 ·exact Yw plain (Yi plain Tryz.func26 (by kernel_rfl) _) (by kernel_rfl) _
 clear hK K_;try walk_nrm
 refine .op rfl (by rfl) hk fun w1 hR K_ hK=>?_;replace hF:=hF.rely hR;clear hR;go_simp;try (unfold stored;go_simp)
 refine hK _ _ ⟨?_,?_⟩
 ·exact Yw plain (Yi plain Tryz.func26 (by kernel_rfl) _) (by kernel_rfl) _
 clear hK K_;try walk_nrm
 refine .op rfl (by rfl) hk fun w1 hR K_ hK=>?_;replace hF:=hF.rely hR;clear hR;go_simp;try (unfold stored;go_simp)
 refine hK _ _ ⟨?_,?_⟩
 ·exact Yw plain (Yi plain Tryz.func26 (by kernel_rfl) _) (by kernel_rfl) _
 clear hK K_;try walk_nrm
 repeat refine .c1 Y2 rfl ?_
 refine Y1.ret Y2 fun todo=>?_;refine .stop rfl fun w6 hR=>?_;obtain ⟨d,rfl⟩:=hF.rely hR;exact hp _ _ _ _ rfl (fun d=>(resultsC_tmp (t:=0) (by rfl) _ _).1) ⟨rfl,hBT.os,hBT.tape,hBT.output,hBT.size,hBT.block⟩
end Go.Proofs.YtdoghgnifkgfdaaGreat.Mute
