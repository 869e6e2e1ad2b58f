import Derived.Test.YtdoghgnifkgfdaaP43
set_option maxRecDepth 100000
set_option maxHeartbeats 16000000
namespace Go.Proofs.Ytdoghgnifkgfdaa.Mute
open Go Go.Conc Go.RowKit
theorem tr_look {xs:List Value} {m i:Nat} {L:List Int} (h:TrIs xs m i L):∃E:List (Int×Int×Int),m=E.length∧E.length≤3*i∧saids E=L∧xs=(List.range (m*3)).map fun j=>.int .i64 (if j % 3=0 then (E.getD (j / 3) (0,0,0)).1 else if j % 3=1 then (E.getD (j / 3) (0,0,0)).2.1 else (E.getD (j / 3) (0,0,0)).2.2):=by
 obtain ⟨E,h1,h2,h3,h4⟩:=h;exact ⟨E,h2,h3,h4,by rw [h1,h2];exact evs_range E⟩
theorem sl_own {w:World} {b e s n c:Nat} {p:Option Addr} {g:Nat→Value} (h:w.ownsRow b e s (.slice p n c) n ((List.range (n*s)).map g)):Sl w p (n*s) g:=by
 rcases h with ⟨hl,⟨hv,h0⟩|⟨g0,cap,cur,hv,hb,hh,h1⟩⟩
 ·subst h0;exact .inl (by simp)
 ·injection hv with hv _ _
  subst hv;have ho:w.ownsRow b e s (.slice (some ⟨g0,0,none⟩) n cap) n ((List.range (n*s)).map g):=⟨hl,.inr ⟨g0,cap,cur,rfl,hb,hh,h1⟩⟩;exact .inr ⟨g0,0,rfl,fun j hj=>by rw [Nat.zero_add];exact own_cellAt ho (by simp [hj])⟩
theorem sl_ownL {w:World} {b e c:Nat} {p:Option Addr} {L:List Int} (h:w.ownsRow b e 1 (.slice p L.length c) L.length (L.map (Value.int .i64 ·))):Sl w p L.length (fun j=>.int .i64 (L.getD j 0)):=by
 have e1:L.map (Value.int .i64 ·)=(List.range (L.length*1)).map (fun j=>Value.int .i64 (L.getD j 0)):=by
  apply List.ext_getElem?;intro j;by_cases hj:j<L.length
  ·simp [hj]
  ·rw [List.getElem?_eq_none (by simp;omega),List.getElem?_eq_none (by simp;omega)]
 rw [e1] at h;have:=sl_own h;rwa [Nat.mul_one] at this
theorem anew_calls (a0 a1 a2:Int) (h0:-9223372036854775808≤a0∧a0≤9223372036854775807) (h1:-9223372036854775808≤a1∧a1≤9223372036854775807) (h2:-9223372036854775808≤a2∧a2≤9223372036854775807) (w:World):CallsR Try.prog 6 #[.int .i64 a0,.int .i64 a1,.int .i64 a2] w (fun v w'=>v=.bool true∧Below w.heap.size w w'):=by
 refine CallsR.introT (List.toArray ((.int .i64 a0)::(.int .i64 a1)::(.int .i64 a2)::undef::undef::undef::undef::undef::undef::undef::undef::undef::undef::undef::undef::undef::undef::undef::undef::undef::undef::undef::undef::undef::undef::undef::undef::undef::undef::undef::undef::undef::undef::undef::undef::undef::undef::undef::undef::undef::undef::undef::undef::undef::undef::undef::undef::undef::undef::undef::undef::undef::undef::undef::undef::undef::undef::undef::undef::undef::undef::undef::undef::undef::undef::undef::undef::undef::undef::undef::undef::undef::undef::undef::undef::undef::undef::undef::undef::undef::undef::undef::undef::undef::undef::undef::undef::undef::undef::undef::undef::undef::undef::undef::undef::undef::undef::undef::undef::undef::undef::undef::undef::undef::undef::undef::undef::undef::undef::undef::undef::undef::undef::undef::undef::undef::undef::undef::undef::undef::undef::undef::undef::undef::undef::undef::undef::undef::undef::undef::undef::undef::undef::undef::undef::undef::undef::undef::undef::undef::undef::undef::undef::undef::undef::undef::undef::undef::undef::undef::undef::undef::undef::undef::undef::undef::undef::undef::undef::undef::undef::undef::undef::undef::undef::undef::undef::undef::undef::undef::undef::undef::undef::undef::undef::undef::undef::undef::undef::undef::undef::undef::undef::undef::undef::undef::undef::undef::undef::undef::undef::undef::undef::undef::undef::undef::undef::undef::undef::undef::undef::undef::undef::undef::undef::undef::undef::[])) Try.func6 (by rfl) (by kernel_rfl) fun cs Post hp=>?_;have hk:(base 6).kind≠.early:=by simp [base]
 refine RunsB.of_goes ?_;have hF:=Is.self w;repeat refine .c1 termsS rfl ?_
 refine .regionL termsS [0] (by rfl) ?_;refine .op rfl (by rfl) hk fun w1 hR K_ hK=>?_;replace hF:=hF.rely hR;clear hR;go_simp;try (unfold stored;go_simp)
 refine hK _ _ ⟨?_,?_⟩
 ·exact listed_ok plain (slots_noSlots plain Try.func6 (by kernel_rfl) _) (by kernel_rfl) _
 clear hK K_;try walk_nrm
 repeat refine .c1 termsS rfl ?_
 refine .regionL termsS [0,1,2,3] (by rfl) ?_;refine .op rfl (by rfl) hk fun w1 hR K_ hK=>?_;replace hF:=hF.rely hR;clear hR;go_simp;try (unfold stored;go_simp)
 refine hK _ _ ⟨?_,?_⟩
 ·exact listed_ok plain (slots_noSlots plain Try.func6 (by kernel_rfl) _) (by kernel_rfl) _
 clear hK K_;try walk_nrm
 refine .stop rfl fun w4 hR=>?_;obtain ⟨d4,rfl⟩:=hF.rely hR;clear hF hR;refine RunsB.call rfl (by rfl) hk (fun d=>?run1) (fun d=>?evs1) (pickK_calls a0 6 (w.at d4) (by omega) (by omega) h0.1 h0.2) (fun v wP hv=>?_)
 case run1=>kernel_rfl
 case evs1=>
  rw [listed_nil (by kernel_rfl)];simp
 obtain ⟨hP,r0,hr0,rfl⟩:=hv;refine RunsB.of_goes ?_;have hF:=Is.self wP;try walk_nrm
 replace hP:Below w.heap.size w wP:=⟨hP.os,hP.tape,hP.output,hP.size,hP.block⟩;obtain ⟨r,HR⟩:∃r:Nat,Hid (r=r0+1):=⟨_,rfl⟩;have hr:1≤r∧r≤6:=by have:=HR.out;omega
 have hw1:IntKind.i64.wrap (1+(r0:Int))=(r:Int):=by have:=HR.out;rw [IntKind.wrap_i64];omega
 refine .op rfl (by rfl) hk fun w1 hR K_ hK=>?_;replace hF:=hF.rely hR;clear hR;go_simp;try (unfold stored;go_simp)
 refine hK _ _ ⟨?_,?_⟩
 ·exact listed_ok plain (slots_noSlots plain Try.func6 (by kernel_rfl) _) (by kernel_rfl) _
 clear hK K_;try walk_nrm
 try rw [hw1]
 refine .op rfl (by rfl) hk fun w1 hR K_ hK=>?_;replace hF:=hF.rely hR;clear hR;go_simp;try (unfold stored;go_simp)
 refine hK _ _ ⟨?_,?_⟩
 ·exact listed_ok plain (slots_noSlots plain Try.func6 (by kernel_rfl) _) (by kernel_rfl) _
 clear hK K_;try walk_nrm
 repeat refine .c1 termsS rfl ?_
 refine .regionL termsS [0,1,2] (by rfl) ?_;refine .op rfl (by rfl) hk fun w1 hR K_ hK=>?_;replace hF:=hF.rely hR;clear hR;go_simp;try (unfold stored;go_simp)
 refine hK _ _ ⟨?_,?_⟩
 ·exact listed_ok plain (slots_noSlots plain Try.func6 (by kernel_rfl) _) (by kernel_rfl) _
 clear hK K_;try walk_nrm
 refine .stop rfl fun w4 hR=>?_;obtain ⟨d4,rfl⟩:=hF.rely hR;clear hF hR;refine RunsB.call rfl (by rfl) hk (fun d=>?run2) (fun d=>?evs2) (pickK_calls a1 6 (wP.at d4) (by omega) (by omega) h1.1 h1.2) (fun v wQ hv=>?_)
 case run2=>kernel_rfl
 case evs2=>
  rw [listed_nil (by kernel_rfl)];simp
 obtain ⟨hP2,x,hx6,rfl⟩:=hv;refine RunsB.of_goes ?_;have hF:=Is.self wQ;try walk_nrm
 replace hP2:Below wP.heap.size wP wQ:=⟨hP2.os,hP2.tape,hP2.output,hP2.size,hP2.block⟩;have hBQ:=Below.then hP hP2 hP.size;clear hP hP2 hw1;have hx:x≤5:=by omega
 refine .op rfl (by rfl) hk fun w1 hR K_ hK=>?_;replace hF:=hF.rely hR;clear hR;go_simp;try (unfold stored;go_simp)
 refine hK _ _ ⟨?_,?_⟩
 ·exact listed_ok plain (slots_noSlots plain Try.func6 (by kernel_rfl) _) (by kernel_rfl) _
 clear hK K_;try walk_nrm
 have hs:wQ.heap.size=wQ.heap.size+0:=rfl;have hB:Below wQ.heap.size wQ wQ:=Below.refl _ _;repeat refine .c1 termsS rfl ?_
 refine .regionL termsS [0,1,2,3,4,5,6,7,8,9,10,11,12,13,14,15] (by rfl) ?_;refine .op rfl (by rfl) hk fun w1 hR K_ hK=>?_;replace hF:=hF.rely hR;clear hR;go_simp;try (unfold stored;go_simp)
 refine hK _ _ ⟨?_,?_⟩
 ·exact listed_ok plain (slots_noSlots plain Try.func6 (by kernel_rfl) _) (by kernel_rfl) _
 clear hK K_;try walk_nrm
 refine .op rfl (by rfl) hk fun w1 hR K_ hK=>?_;replace hF:=hF.rely hR;clear hR;go_simp;try (unfold stored;go_simp)
 refine hK _ _ ⟨?_,?_⟩
 ·exact listed_ok plain (slots_noSlots plain Try.func6 (by kernel_rfl) _) (by kernel_rfl) _
 clear hK K_;try walk_nrm
 refine .op rfl (by rfl) hk fun w1 hR K_ hK=>?_;replace hF:=hF.rely hR;clear hR;go_simp;try (unfold stored;go_simp)
 refine hK _ _ ⟨?_,?_⟩
 ·exact listed_ok plain (slots_noSlots plain Try.func6 (by kernel_rfl) _) (by kernel_rfl) _
 clear hK K_;try walk_nrm
 refine .op rfl (by rfl) hk fun w1 hR K_ hK=>?_;replace hF:=hF.rely hR;clear hR;go_simp;try (unfold stored;go_simp)
 refine hK _ _ ⟨?_,?_⟩
 ·exact listed_ok plain (slots_noSlots plain Try.func6 (by kernel_rfl) _) (by kernel_rfl) _
 clear hK K_;try walk_nrm
 refine .op rfl (by rfl) hk fun w1 hR K_ hK=>?_;replace hF:=hF.rely hR;clear hR;go_simp;try (unfold stored;go_simp)
 refine hK _ _ ⟨?_,?_⟩
 ·exact listed_ok plain (slots_noSlots plain Try.func6 (by kernel_rfl) _) (by kernel_rfl) _
 clear hK K_;try walk_nrm
 refine .op rfl (by rfl) hk fun w1 hR K_ hK=>?_;replace hF:=hF.rely hR;clear hR;go_simp;try (unfold stored;go_simp)
 refine hK _ _ ⟨?_,?_⟩
 ·exact listed_ok plain (slots_noSlots plain Try.func6 (by kernel_rfl) _) (by kernel_rfl) _
 clear hK K_;try walk_nrm
 refine .op rfl (by rfl) hk fun w1 hR K_ hK=>?_;replace hF:=hF.rely hR;clear hR;go_simp;try (unfold stored;go_simp)
 refine hK _ _ ⟨?_,?_⟩
 ·exact listed_ok plain (slots_noSlots plain Try.func6 (by kernel_rfl) _) (by kernel_rfl) _
 clear hK K_;try walk_nrm
 refine .op rfl (by rfl) hk fun w1 hR K_ hK=>?_;replace hF:=hF.rely hR;clear hR;go_simp;try (unfold stored;go_simp)
 refine hK _ _ ⟨?_,?_⟩
 ·exact listed_ok plain (slots_noSlots plain Try.func6 (by kernel_rfl) _) (by kernel_rfl) _
 clear hK K_;try walk_nrm
 refine .op rfl (by rfl) hk fun w1 hR K_ hK=>?_;replace hF:=hF.rely hR;clear hR;go_simp;try (unfold stored;go_simp)
 refine hK _ _ ⟨?_,?_⟩
 ·exact listed_ok plain (slots_noSlots plain Try.func6 (by kernel_rfl) _) (by kernel_rfl) _
 clear hK K_;try walk_nrm
 refine .op rfl (by rfl) hk fun w1 hR K_ hK=>?_;replace hF:=hF.rely hR;clear hR;go_simp;try (unfold stored;go_simp)
 refine hK _ _ ⟨?_,?_⟩
 ·exact listed_ok plain (slots_noSlots plain Try.func6 (by kernel_rfl) _) (by kernel_rfl) _
 clear hK K_;try walk_nrm
 refine .op rfl (by rfl) hk fun w1 hR K_ hK=>?_;replace hF:=hF.rely hR;clear hR;go_simp;try (unfold stored;go_simp)
 refine hK _ _ ⟨?_,?_⟩
 ·exact listed_ok plain (slots_noSlots plain Try.func6 (by kernel_rfl) _) (by kernel_rfl) _
 clear hK K_;try walk_nrm
 refine .op rfl (by rfl) hk fun w1 hR K_ hK=>?_;replace hF:=hF.rely hR;clear hR;go_simp;try (unfold stored;go_simp)
 refine hK _ _ ⟨?_,?_⟩
 ·exact listed_ok plain (slots_noSlots plain Try.func6 (by kernel_rfl) _) (by kernel_rfl) _
 clear hK K_;try walk_nrm
 refine .op rfl (by rfl) hk fun w1 hR K_ hK=>?_;replace hF:=hF.rely hR;clear hR;go_simp;try (unfold stored;go_simp)
 refine hK _ _ ⟨?_,?_⟩
 ·exact listed_ok plain (slots_noSlots plain Try.func6 (by kernel_rfl) _) (by kernel_rfl) _
 clear hK K_;try walk_nrm
 refine .op rfl (by rfl) hk fun w1 hR K_ hK=>?_;replace hF:=hF.rely hR;clear hR;go_simp;try (unfold stored;go_simp)
 refine hK _ _ ⟨?_,?_⟩
 ·exact listed_ok plain (slots_noSlots plain Try.func6 (by kernel_rfl) _) (by kernel_rfl) _
 clear hK K_;try walk_nrm
 refine .op rfl (by rfl) hk fun w1 hR K_ hK=>?_;replace hF:=hF.rely hR;clear hR;go_simp;try (unfold stored;go_simp)
 refine hK _ _ ⟨?_,?_⟩
 ·exact listed_ok plain (slots_noSlots plain Try.func6 (by kernel_rfl) _) (by kernel_rfl) _
 clear hK K_;have hz:w1.heap.size=wQ.heap.size+0:=hF.size.trans hs;replace hF:Is (wQ.alloc (.cells ((anewL0 r).map (Value.int .i64 ·)).toArray 73)) (w1.alloc (.cells (List.toArray ((.int .i64 1)::(.int .i64 1)::(.int .i64 0)::(.int .i64 0)::(.int .i64 6)::(.int .i64 0)::(.int .i64 1)::(.int .i64 0)::(.int .i64 1)::(.int .i64 2)::(.int .i64 0)::(.int .i64 1)::(.int .i64 2)::(.int .i64 0)::(.int .i64 2)::(.int .i64 0)::(.int .i64 7)::(.int .i64 0)::(.int .i64 1)::(.int .i64 0)::(.int .i64 15)::(.int .i64 0)::(.int .i64 0)::(.int .i64 0)::(.int .i64 10)::(.int .i64 0)::(.int .i64 0)::(.int .i64 0)::(.int .i64 1)::(.int .i64 2)::(.int .i64 0)::(.int .i64 r)::(.int .i64 3)::(.int .i64 2)::(.int .i64 0)::(.int .i64 0)::(.int .i64 9)::(.int .i64 2)::(.int .i64 0)::(.int .i64 12)::(.int .i64 0)::(.int .i64 0)::(.int .i64 0)::(.int .i64 0)::(.int .i64 8)::(.int .i64 0)::(.int .i64 0)::(.int .i64 0)::(.int .i64 5)::(.int .i64 0)::(.int .i64 2)::(.int .i64 0)::[])) 73)):=hF.alloc _;rw [hz];generalize w1.alloc (.cells (List.toArray ((.int .i64 1)::(.int .i64 1)::(.int .i64 0)::(.int .i64 0)::(.int .i64 6)::(.int .i64 0)::(.int .i64 1)::(.int .i64 0)::(.int .i64 1)::(.int .i64 2)::(.int .i64 0)::(.int .i64 1)::(.int .i64 2)::(.int .i64 0)::(.int .i64 2)::(.int .i64 0)::(.int .i64 7)::(.int .i64 0)::(.int .i64 1)::(.int .i64 0)::(.int .i64 15)::(.int .i64 0)::(.int .i64 0)::(.int .i64 0)::(.int .i64 10)::(.int .i64 0)::(.int .i64 0)::(.int .i64 0)::(.int .i64 1)::(.int .i64 2)::(.int .i64 0)::(.int .i64 r)::(.int .i64 3)::(.int .i64 2)::(.int .i64 0)::(.int .i64 0)::(.int .i64 9)::(.int .i64 2)::(.int .i64 0)::(.int .i64 12)::(.int .i64 0)::(.int .i64 0)::(.int .i64 0)::(.int .i64 0)::(.int .i64 8)::(.int .i64 0)::(.int .i64 0)::(.int .i64 0)::(.int .i64 5)::(.int .i64 0)::(.int .i64 2)::(.int .i64 0)::[])) 73)=w2 at *;clear hz;have q0:=ints_row wQ (anewL0 r) 73;rw [hs] at q0;have hs2:(wQ.alloc (.cells ((anewL0 r).map (Value.int .i64 ·)).toArray 73)).heap.size=wQ.heap.size+1:=by simp<;>omega
 replace hB:=hB.alloc (by rw [hs];omega) (.cells ((anewL0 r).map (Value.int .i64 ·)).toArray 73);clear hs;generalize wQ.alloc (.cells ((anewL0 r).map (Value.int .i64 ·)).toArray 73)=W1 at *;have hs:=hs2;clear hs2;try walk_nrm
 refine .op rfl (by rfl) hk fun w1 hR K_ hK=>?_;replace hF:=hF.rely hR;clear hR;go_simp;try (unfold stored;go_simp)
 refine hK _ _ ⟨?_,?_⟩
 ·exact listed_ok plain (slots_noSlots plain Try.func6 (by kernel_rfl) _) (by kernel_rfl) _
 clear hK K_;try walk_nrm
 repeat refine .c1 termsS rfl ?_
 refine .regionL termsS [0,1,2,3,4,5,6] (by rfl) ?_;refine .op rfl (by rfl) hk fun w1 hR K_ hK=>?_;replace hF:=hF.rely hR;clear hR;go_simp;try (unfold stored;go_simp)
 refine hK _ _ ⟨?_,?_⟩
 ·exact listed_ok plain (slots_noSlots plain Try.func6 (by kernel_rfl) _) (by kernel_rfl) _
 clear hK K_;try walk_nrm
 refine .op rfl (by rfl) hk fun w1 hR K_ hK=>?_;replace hF:=hF.rely hR;clear hR;go_simp;try (unfold stored;go_simp)
 refine hK _ _ ⟨?_,?_⟩
 ·exact listed_ok plain (slots_noSlots plain Try.func6 (by kernel_rfl) _) (by kernel_rfl) _
 clear hK K_;try walk_nrm
 refine .op rfl (by rfl) hk fun w1 hR K_ hK=>?_;replace hF:=hF.rely hR;clear hR;go_simp;try (unfold stored;go_simp)
 refine hK _ _ ⟨?_,?_⟩
 ·exact listed_ok plain (slots_noSlots plain Try.func6 (by kernel_rfl) _) (by kernel_rfl) _
 clear hK K_;try walk_nrm
 refine .op rfl (by rfl) hk fun w1 hR K_ hK=>?_;replace hF:=hF.rely hR;clear hR;go_simp;try (unfold stored;go_simp)
 refine hK _ _ ⟨?_,?_⟩
 ·exact listed_ok plain (slots_noSlots plain Try.func6 (by kernel_rfl) _) (by kernel_rfl) _
 clear hK K_;try walk_nrm
 refine .op rfl (by rfl) hk fun w1 hR K_ hK=>?_;replace hF:=hF.rely hR;clear hR;go_simp;try (unfold stored;go_simp)
 refine hK _ _ ⟨?_,?_⟩
 ·exact listed_ok plain (slots_noSlots plain Try.func6 (by kernel_rfl) _) (by kernel_rfl) _
 clear hK K_;try walk_nrm
 refine .op rfl (by rfl) hk fun w1 hR K_ hK=>?_;replace hF:=hF.rely hR;clear hR;go_simp;try (unfold stored;go_simp)
 refine hK _ _ ⟨?_,?_⟩
 ·exact listed_ok plain (slots_noSlots plain Try.func6 (by kernel_rfl) _) (by kernel_rfl) _
 clear hK K_;have hz:w1.heap.size=wQ.heap.size+1:=hF.size.trans hs;replace hF:Is (W1.alloc (.cells (anewL1.map (Value.int .i64 ·)).toArray 73)) (w1.alloc (.cells #[.int .i64 12,.int .i64 0,.int .i64 1,.int .i64 0,.int .i64 15,.int .i64 0,.int .i64 0,.int .i64 0,.int .i64 15,.int .i64 1,.int .i64 0,.int .i64 0,.int .i64 0,.int .i64 0,.int .i64 0,.int .i64 0,.int .i64 8,.int .i64 0,.int .i64 0,.int .i64 0] 73)):=hF.alloc _;rw [hz];generalize w1.alloc (.cells #[.int .i64 12,.int .i64 0,.int .i64 1,.int .i64 0,.int .i64 15,.int .i64 0,.int .i64 0,.int .i64 0,.int .i64 15,.int .i64 1,.int .i64 0,.int .i64 0,.int .i64 0,.int .i64 0,.int .i64 0,.int .i64 0,.int .i64 8,.int .i64 0,.int .i64 0,.int .i64 0] 73)=w2 at *;clear hz;have q1:=ints_row W1 anewL1 73;rw [hs] at q1;replace q0:=q0.alloc (.cells (anewL1.map (Value.int .i64 ·)).toArray 73);have hs2:(W1.alloc (.cells (anewL1.map (Value.int .i64 ·)).toArray 73)).heap.size=wQ.heap.size+2:=by simp<;>omega
 replace hB:=hB.alloc (by rw [hs];omega) (.cells (anewL1.map (Value.int .i64 ·)).toArray 73);clear hs;generalize W1.alloc (.cells (anewL1.map (Value.int .i64 ·)).toArray 73)=W2 at *;have hs:=hs2;clear hs2;try walk_nrm
 refine .op rfl (by rfl) hk fun w1 hR K_ hK=>?_;replace hF:=hF.rely hR;clear hR;go_simp;try (unfold stored;go_simp)
 refine hK _ _ ⟨?_,?_⟩
 ·exact listed_ok plain (slots_noSlots plain Try.func6 (by kernel_rfl) _) (by kernel_rfl) _
 clear hK K_;try walk_nrm
 repeat refine .c1 termsS rfl ?_
 refine .regionL termsS [0,1,2,3,4,5,6,7,8,9,10,11,12,13,14,15,16,17,18] (by rfl) ?_;refine .op rfl (by rfl) hk fun w1 hR K_ hK=>?_;replace hF:=hF.rely hR;clear hR;go_simp;try (unfold stored;go_simp)
 refine hK _ _ ⟨?_,?_⟩
 ·exact listed_ok plain (slots_noSlots plain Try.func6 (by kernel_rfl) _) (by kernel_rfl) _
 clear hK K_;try walk_nrm
 refine .op rfl (by rfl) hk fun w1 hR K_ hK=>?_;replace hF:=hF.rely hR;clear hR;go_simp;try (unfold stored;go_simp)
 refine hK _ _ ⟨?_,?_⟩
 ·exact listed_ok plain (slots_noSlots plain Try.func6 (by kernel_rfl) _) (by kernel_rfl) _
 clear hK K_;try walk_nrm
 refine .op rfl (by rfl) hk fun w1 hR K_ hK=>?_;replace hF:=hF.rely hR;clear hR;go_simp;try (unfold stored;go_simp)
 refine hK _ _ ⟨?_,?_⟩
 ·exact listed_ok plain (slots_noSlots plain Try.func6 (by kernel_rfl) _) (by kernel_rfl) _
 clear hK K_;try walk_nrm
 refine .op rfl (by rfl) hk fun w1 hR K_ hK=>?_;replace hF:=hF.rely hR;clear hR;go_simp;try (unfold stored;go_simp)
 refine hK _ _ ⟨?_,?_⟩
 ·exact listed_ok plain (slots_noSlots plain Try.func6 (by kernel_rfl) _) (by kernel_rfl) _
 clear hK K_;try walk_nrm
 refine .op rfl (by rfl) hk fun w1 hR K_ hK=>?_;replace hF:=hF.rely hR;clear hR;go_simp;try (unfold stored;go_simp)
 refine hK _ _ ⟨?_,?_⟩
 ·exact listed_ok plain (slots_noSlots plain Try.func6 (by kernel_rfl) _) (by kernel_rfl) _
 clear hK K_;try walk_nrm
 refine .op rfl (by rfl) hk fun w1 hR K_ hK=>?_;replace hF:=hF.rely hR;clear hR;go_simp;try (unfold stored;go_simp)
 refine hK _ _ ⟨?_,?_⟩
 ·exact listed_ok plain (slots_noSlots plain Try.func6 (by kernel_rfl) _) (by kernel_rfl) _
 clear hK K_;have hz:w1.heap.size=wQ.heap.size+2:=hF.size.trans hs;replace hF:Is (W2.alloc (.cells #[.slice (some ⟨wQ.heap.size+0,0,none⟩) 13 13,.slice none 0 0,.int .i64 x,.slice (some ⟨wQ.heap.size+1,0,none⟩) 5 5,.slice none 0 0,.int .i64 0] 70)) (w1.alloc (.cells #[.slice (some ⟨wQ.heap.size+0,0,none⟩) 13 13,.slice none 0 0,.int .i64 x,.slice (some ⟨wQ.heap.size+1,0,none⟩) 5 5,.slice none 0 0,.int .i64 0] 70)):=hF.alloc _;rw [hz];generalize w1.alloc (.cells #[.slice (some ⟨wQ.heap.size+0,0,none⟩) 13 13,.slice none 0 0,.int .i64 x,.slice (some ⟨wQ.heap.size+1,0,none⟩) 5 5,.slice none 0 0,.int .i64 0] 70)=w2 at *;clear hz;have q2:=cells_row W2 (wQ.heap.size+0) 13 13 (wQ.heap.size+1) 5 5 x 70;rw [hs] at q2;replace q0:=q0.alloc (.cells #[.slice (some ⟨wQ.heap.size+0,0,none⟩) 13 13,.slice none 0 0,.int .i64 x,.slice (some ⟨wQ.heap.size+1,0,none⟩) 5 5,.slice none 0 0,.int .i64 0] 70);replace q1:=q1.alloc (.cells #[.slice (some ⟨wQ.heap.size+0,0,none⟩) 13 13,.slice none 0 0,.int .i64 x,.slice (some ⟨wQ.heap.size+1,0,none⟩) 5 5,.slice none 0 0,.int .i64 0] 70);have hs2:(W2.alloc (.cells #[.slice (some ⟨wQ.heap.size+0,0,none⟩) 13 13,.slice none 0 0,.int .i64 x,.slice (some ⟨wQ.heap.size+1,0,none⟩) 5 5,.slice none 0 0,.int .i64 0] 70)).heap.size=wQ.heap.size+3:=by simp<;>omega
 replace hB:=hB.alloc (by rw [hs];omega) (.cells #[.slice (some ⟨wQ.heap.size+0,0,none⟩) 13 13,.slice none 0 0,.int .i64 x,.slice (some ⟨wQ.heap.size+1,0,none⟩) 5 5,.slice none 0 0,.int .i64 0] 70);clear hs;generalize W2.alloc (.cells #[.slice (some ⟨wQ.heap.size+0,0,none⟩) 13 13,.slice none 0 0,.int .i64 x,.slice (some ⟨wQ.heap.size+1,0,none⟩) 5 5,.slice none 0 0,.int .i64 0] 70)=W3 at *;have hs:=hs2;clear hs2;try walk_nrm
 refine .op rfl (by rfl) hk fun w1 hR K_ hK=>?_;replace hF:=hF.rely hR;clear hR;go_simp;try (unfold stored;go_simp)
 refine hK _ _ ⟨?_,?_⟩
 ·exact listed_ok plain (slots_noSlots plain Try.func6 (by kernel_rfl) _) (by kernel_rfl) _
 clear hK K_;try walk_nrm
 refine .op rfl (by rfl) hk fun w1 hR K_ hK=>?_;replace hF:=hF.rely hR;clear hR;go_simp;try (unfold stored;go_simp)
 refine hK _ _ ⟨?_,?_⟩
 ·exact listed_ok plain (slots_noSlots plain Try.func6 (by kernel_rfl) _) (by kernel_rfl) _
 clear hK K_;try walk_nrm
 refine .op rfl (by rfl) hk fun w1 hR K_ hK=>?_;replace hF:=hF.rely hR;clear hR;go_simp;try (unfold stored;go_simp)
 refine hK _ _ ⟨?_,?_⟩
 ·exact listed_ok plain (slots_noSlots plain Try.func6 (by kernel_rfl) _) (by kernel_rfl) _
 clear hK K_;have hz:w1.heap.size=wQ.heap.size+3:=hF.size.trans hs;replace hF:Is (W3.alloc (.cells (([0,50,1,50]:List Int).map (Value.int .i64 ·)).toArray 65)) (w1.alloc (.cells #[.int .i64 0,.int .i64 50,.int .i64 1,.int .i64 50] 65)):=hF.alloc _;rw [hz];generalize w1.alloc (.cells #[.int .i64 0,.int .i64 50,.int .i64 1,.int .i64 50] 65)=w2 at *;clear hz;have q3:=ints_row W3 [0,50,1,50] 65;rw [hs] at q3;replace q0:=q0.alloc (.cells (([0,50,1,50]:List Int).map (Value.int .i64 ·)).toArray 65);replace q1:=q1.alloc (.cells (([0,50,1,50]:List Int).map (Value.int .i64 ·)).toArray 65);replace q2:=q2.alloc (.cells (([0,50,1,50]:List Int).map (Value.int .i64 ·)).toArray 65);have hs2:(W3.alloc (.cells (([0,50,1,50]:List Int).map (Value.int .i64 ·)).toArray 65)).heap.size=wQ.heap.size+4:=by simp<;>omega
 replace hB:=hB.alloc (by rw [hs];omega) (.cells (([0,50,1,50]:List Int).map (Value.int .i64 ·)).toArray 65);clear hs;generalize W3.alloc (.cells (([0,50,1,50]:List Int).map (Value.int .i64 ·)).toArray 65)=W4 at *;have hs:=hs2;clear hs2;try walk_nrm
 refine .op rfl (by rfl) hk fun w1 hR K_ hK=>?_;replace hF:=hF.rely hR;clear hR;go_simp;try (unfold stored;go_simp)
 refine hK _ _ ⟨?_,?_⟩
 ·exact listed_ok plain (slots_noSlots plain Try.func6 (by kernel_rfl) _) (by kernel_rfl) _
 clear hK K_;have hz:w1.heap.size=wQ.heap.size+4:=hF.size.trans hs;replace hF:Is (W4.alloc (.cells #[.slice (some ⟨wQ.heap.size+3,0,none⟩) 2 2] 63)) (w1.alloc (.cells #[.slice (some ⟨wQ.heap.size+3,0,none⟩) 2 2] 63)):=hF.alloc _;rw [hz];generalize w1.alloc (.cells #[.slice (some ⟨wQ.heap.size+3,0,none⟩) 2 2] 63)=w2 at *;clear hz;have q4:=one_row W4 (.slice (some ⟨wQ.heap.size+3,0,none⟩) 2 2) 63;rw [hs] at q4;replace q0:=q0.alloc (.cells #[.slice (some ⟨wQ.heap.size+3,0,none⟩) 2 2] 63);replace q1:=q1.alloc (.cells #[.slice (some ⟨wQ.heap.size+3,0,none⟩) 2 2] 63);replace q2:=q2.alloc (.cells #[.slice (some ⟨wQ.heap.size+3,0,none⟩) 2 2] 63);replace q3:=q3.alloc (.cells #[.slice (some ⟨wQ.heap.size+3,0,none⟩) 2 2] 63);have hs2:(W4.alloc (.cells #[.slice (some ⟨wQ.heap.size+3,0,none⟩) 2 2] 63)).heap.size=wQ.heap.size+5:=by simp<;>omega
 replace hB:=hB.alloc (by rw [hs];omega) (.cells #[.slice (some ⟨wQ.heap.size+3,0,none⟩) 2 2] 63);clear hs;generalize W4.alloc (.cells #[.slice (some ⟨wQ.heap.size+3,0,none⟩) 2 2] 63)=W5 at *;have hs:=hs2;clear hs2;try walk_nrm
 refine .op rfl (by rfl) hk fun w1 hR K_ hK=>?_;replace hF:=hF.rely hR;clear hR;go_simp;try (unfold stored;go_simp)
 refine hK _ _ ⟨?_,?_⟩
 ·exact listed_ok plain (slots_noSlots plain Try.func6 (by kernel_rfl) _) (by kernel_rfl) _
 clear hK K_;try walk_nrm
 refine .op rfl (by rfl) hk fun w1 hR K_ hK=>?_;replace hF:=hF.rely hR;clear hR;go_simp;try (unfold stored;go_simp)
 refine hK _ _ ⟨?_,?_⟩
 ·exact listed_ok plain (slots_noSlots plain Try.func6 (by kernel_rfl) _) (by kernel_rfl) _
 clear hK K_;have hz:w1.heap.size=wQ.heap.size+5:=hF.size.trans hs;replace hF:Is (W5.alloc (.cells (([1,0,1]:List Int).map (Value.int .i64 ·)).toArray 75)) (w1.alloc (.cells #[.int .i64 1,.int .i64 0,.int .i64 1] 75)):=hF.alloc _;rw [hz];generalize w1.alloc (.cells #[.int .i64 1,.int .i64 0,.int .i64 1] 75)=w2 at *;clear hz;have q5:=ints_row W5 [1,0,1] 75;rw [hs] at q5;replace q0:=q0.alloc (.cells (([1,0,1]:List Int).map (Value.int .i64 ·)).toArray 75);replace q1:=q1.alloc (.cells (([1,0,1]:List Int).map (Value.int .i64 ·)).toArray 75);replace q2:=q2.alloc (.cells (([1,0,1]:List Int).map (Value.int .i64 ·)).toArray 75);replace q3:=q3.alloc (.cells (([1,0,1]:List Int).map (Value.int .i64 ·)).toArray 75);replace q4:=q4.alloc (.cells (([1,0,1]:List Int).map (Value.int .i64 ·)).toArray 75);have hs2:(W5.alloc (.cells (([1,0,1]:List Int).map (Value.int .i64 ·)).toArray 75)).heap.size=wQ.heap.size+6:=by simp<;>omega
 replace hB:=hB.alloc (by rw [hs];omega) (.cells (([1,0,1]:List Int).map (Value.int .i64 ·)).toArray 75);clear hs;generalize W5.alloc (.cells (([1,0,1]:List Int).map (Value.int .i64 ·)).toArray 75)=W6 at *;have hs:=hs2;clear hs2;try walk_nrm
 refine .op rfl (by rfl) hk fun w1 hR K_ hK=>?_;replace hF:=hF.rely hR;clear hR;go_simp;try (unfold stored;go_simp)
 refine hK _ _ ⟨?_,?_⟩
 ·exact listed_ok plain (slots_noSlots plain Try.func6 (by kernel_rfl) _) (by kernel_rfl) _
 clear hK K_;try walk_nrm
 refine .stop rfl fun w4 hR=>?_;obtain ⟨d4,rfl⟩:=hF.rely hR;clear hF hR;refine RunsB.call rfl (by rfl) hk (fun d=>?run3) (fun d=>?evs3) (kernel_calls (w:=W6.at d4) (c:=anewC r x) (cfg2_R (w:=W6.at d4) q0 (Nat.le_refl 52) (by omega) q1 (Nat.le_refl 20) (by omega) ⟨by omega,by omega⟩ q2 q3 q4 q5 ⟨none,0,rfl,Nat.le_refl _,by simp,fun _=>⟨rfl,rfl⟩,by decide,.inl rfl⟩) (anew_cfgW hr.2) (fun _ _=>rfl) (anew_ok hx)) (fun v wK hv=>?_)
 case run3=>kernel_rfl
 case evs3=>
  rw [listed_nil (by kernel_rfl)];simp
 obtain ⟨hN,k,N,t,fT,rfl,hO,hK⟩:=hv;refine RunsB.of_goes ?_;have hF:=Is.self wK;try walk_nrm
 replace hN:Below W6.heap.size W6 wK:=⟨hN.os,hN.tape,hN.output,hN.size,hN.block⟩;have hBK:Below w.heap.size w wK:=Below.then (Below.then hBQ hB hBQ.size) hN (by have:=hBQ.size;omega);have hSK:∀b,(W6.heap.size≤b∧b<wK.heap.size)→w.heap.size≤b:=fun b hb=>by have:=hBQ.size;omega
 clear hN hB hBQ q0 q1 q2 q3 q4 q5 hs;refine .op rfl (by rfl) hk fun w1 hR K_ hK=>?_;replace hF:=hF.rely hR;clear hR;go_simp;try (unfold stored;go_simp)
 refine hK _ _ ⟨?_,?_⟩
 ·exact listed_ok plain (slots_noSlots plain Try.func6 (by kernel_rfl) _) (by kernel_rfl) _
 clear hK K_;try walk_nrm
 refine .op rfl (by rfl) hk fun w1 hR K_ hK=>?_;replace hF:=hF.rely hR;clear hR;go_simp;try (unfold stored;go_simp)
 refine hK _ _ ⟨?_,?_⟩
 ·exact listed_ok plain (slots_noSlots plain Try.func6 (by kernel_rfl) _) (by kernel_rfl) _
 clear hK K_;try walk_nrm
 refine .op rfl (by rfl) hk fun w1 hR K_ hK=>?_;replace hF:=hF.rely hR;clear hR;go_simp;try (unfold stored;go_simp)
 refine hK _ _ ⟨?_,?_⟩
 ·exact listed_ok plain (slots_noSlots plain Try.func6 (by kernel_rfl) _) (by kernel_rfl) _
 clear hK K_;try walk_nrm
 refine .op rfl (by rfl) hk fun w1 hR K_ hK=>?_;replace hF:=hF.rely hR;clear hR;go_simp;try (unfold stored;go_simp)
 refine hK _ _ ⟨?_,?_⟩
 ·exact listed_ok plain (slots_noSlots plain Try.func6 (by kernel_rfl) _) (by kernel_rfl) _
 clear hK K_;try walk_nrm
 refine .op rfl (by rfl) hk fun w1 hR K_ hK=>?_;replace hF:=hF.rely hR;clear hR;go_simp;try (unfold stored;go_simp)
 refine hK _ _ ⟨?_,?_⟩
 ·exact listed_ok plain (slots_noSlots plain Try.func6 (by kernel_rfl) _) (by kernel_rfl) _
 clear hK K_;try walk_nrm
 repeat refine .c1 termsS rfl ?_
 refine .regionL termsS [0,1] (by rfl) ?_;refine .op rfl (by rfl) hk fun w1 hR K_ hK=>?_;replace hF:=hF.rely hR;clear hR;go_simp;try (unfold stored;go_simp)
 refine hK _ _ ⟨?_,?_⟩
 ·exact listed_ok plain (slots_noSlots plain Try.func6 (by kernel_rfl) _) (by kernel_rfl) _
 clear hK K_;try walk_nrm
 refine .op rfl (by rfl) hk fun w1 hR K_ hK=>?_;replace hF:=hF.rely hR;clear hR;go_simp;try (unfold stored;go_simp)
 refine hK _ _ ⟨?_,?_⟩
 ·exact listed_ok plain (slots_noSlots plain Try.func6 (by kernel_rfl) _) (by kernel_rfl) _
 clear hK K_;try walk_nrm
 repeat refine .c1 termsS rfl ?_
 refine GoesW.condF termsS (by first|rfl|simp [Act.eval]) ?_;repeat refine .c1 termsS rfl ?_
 refine .regionL termsS [0,1,2] (by rfl) ?_;refine .op rfl (by rfl) hk fun w1 hR K_ hK=>?_;replace hF:=hF.rely hR;clear hR;go_simp;try (unfold stored;go_simp)
 refine hK _ _ ⟨?_,?_⟩
 ·exact listed_ok plain (slots_noSlots plain Try.func6 (by kernel_rfl) _) (by kernel_rfl) _
 clear hK K_;try walk_nrm
 refine .stop rfl fun w4 hR=>?_;obtain ⟨d4,rfl⟩:=hF.rely hR;clear hF hR;refine RunsB.call rfl (by rfl) hk (fun d=>?run4) (fun d=>?evs4) (pickK_calls a2 40 (wK.at d4) (by omega) (by omega) h2.1 h2.2) (fun v wL hv=>?_)
 case run4=>kernel_rfl
 case evs4=>
  rw [listed_nil (by kernel_rfl)];simp
 obtain ⟨hP,f,hf40,rfl⟩:=hv;refine RunsB.of_goes ?_;have hF:=Is.self wL;try walk_nrm
 replace hP:Below wK.heap.size wK wL:=⟨hP.os,hP.tape,hP.output,hP.size,hP.block⟩;have hf:f≤40:=by omega
 replace hK:=hK.keep (w':=wL) (fun b hb=>hP.block b (hK.sz b hb)) hP.size;replace hBK:=Below.then hBK hP hBK.size;clear hP;refine .op rfl (by rfl) hk fun w1 hR K_ hK=>?_;replace hF:=hF.rely hR;clear hR;go_simp;try (unfold stored;go_simp)
 refine hK _ _ ⟨?_,?_⟩
 ·exact listed_ok plain (slots_noSlots plain Try.func6 (by kernel_rfl) _) (by kernel_rfl) _
 clear hK K_;try walk_nrm
 repeat refine .c1 termsS rfl ?_
 refine .regionL termsS [0] (by rfl) ?_;refine .op rfl (by rfl) hk fun w1 hR K_ hK=>?_;replace hF:=hF.rely hR;clear hR;go_simp;try (unfold stored;go_simp)
 refine hK _ _ ⟨?_,?_⟩
 ·exact listed_ok plain (slots_noSlots plain Try.func6 (by kernel_rfl) _) (by kernel_rfl) _
 clear hK K_;try walk_nrm
 repeat refine .c1 termsS rfl ?_
 refine GoesW.loop termsS ?_;refine .stop rfl fun w1 hR=>?_;obtain ⟨d,rfl⟩:=hF.rely hR;clear hF hR;refine an_loop1 (W0:=w) hO hr hx hf cs f 0 fT (fun _=>none) _ _ _ _ _ _ _ _ _ _ _ _ _ _ _ _ _ _ _ _ _ _ _ _ _ _ _ _ _ _ _ _ _ _ _ _ _ _ _ _ _ _ _ _ _ _ _ _ _ _ _ _ _ _ _ _ _ _ _ _ _ _ _ _ _ _ _ _ _ _ _ _ _ _ _ _ _ _ _ _ _ _ _ _ _ _ _ _ _ _ _ _ _ _ _ _ _ _ _ _ _ _ _ _ _ _ _ _ _ _ _ _ _ _ _ _ _ _ _ _ _ _ _ _ _ _ _ _ _ _ _ _ _ _ _ _ _ _ _ _ _ _ _ _ _ _ _ _ _ _ _ _ _ _ _ _ _ _ _ _ _ _ _ _ _ _ _ _ _ _ _ _ _ _ _ _ _ _ _ _ _ _ _ _ _ _ _ _ _ _ _ _ _ _ _ _ _ _ _ _ _ _ _ (by omega) (hK.keep (w':=wL.at d) (fun _ _=>rfl) (Nat.le_refl _)) ⟨hBK.os,hBK.tape,hBK.output,hBK.size,hBK.block⟩ hSK ?_;clear hK hBK hSK;intro fT lr S wM u0 u1 u2 u3 u4 u5 u9 u10 u12 u15 u16 u17 u18 u19 u20 u21 u22 u23 u24 u25 u26 u27 u28 u29 u30 u31 u32 u33 u34 u35 u36 u37 u38 u39 u40 u41 u42 u43 u44 u45 u46 u47 u48 u49 u50 u51 u52 u53 u54 u55 u56 u57 u58 u59 u60 u61 u62 u63 u64 u65 u66 u67 u68 u69 u70 u71 u72 u73 u74 u75 u76 u77 u78 u79 u80 u81 u82 u83 u84 u85 u86 u87 u88 u89 u90 u91 u92 u93 u94 u95 u96 u97 u98 u99 u100 u101 u102 u103 u104 u105 u106 u107 u108 u109 u110 u111 u112 u113 u114 u115 u116 u117 u118 u119 u120 u121 u122 u123 u124 u125 u126 u127 u128 u129 u130 u131 u132 u133 u134 u135 u136 u137 u138 u139 u140 u141 u142 u143 u144 u145 u146 u147 u148 u149 u150 u151 u152 u153 u154 u155 u156 u157 u158 u159 u160 u161 u162 u163 u164 u165 u166 u167 u168 u169 u170 u171 u172 u173 u174 u175 u176 u177 u178 u179 u180 u181 u182 u183 u184 u185 u186 u187 u188 u189 u190 u191 u192 u193 u194 u195 u196 u197 u198 u199 u200 u201 u202 u203 u204 u205 u206 hK hBM hS;refine RunsB.of_goes ?_;have hF:=Is.self wM;try walk_nrm
 have hSA:=sa_st hr hx f;obtain ⟨E0,m0,l0,s0,x0⟩:=tr_look hSA.e0;obtain ⟨E1,m1,l1,s1,x1⟩:=tr_look hSA.e1;have HZ47:=hSA.z47;have HZ29:=hSA.z29;have HZ3:=hSA.z3;clear hSA;have hvw0:=fun W (h:KFullQ W k N t (stA r x f) fT lr 0 S)=>view_calls h (cell:=0) (by rw [hO.nC];show 0<2;omega) x0 (by rw [m0];omega);have hvw1:=fun W (h:KFullQ W k N t (stA r x f) fT lr 0 S)=>view_calls h (cell:=1) (by rw [hO.nC];show 1<2;omega) x1 (by rw [m1];omega);rw [m0] at hvw0;rw [m1] at hvw1;clear x0 x1 m0 m1;generalize (stA r x f).z 0=z0 at *;generalize (stA r x f).z 1=z1 at *;replace HZ47:Hid (z0 47=if r*(x+1)≤f then (x:Int)+1 else ((f / r:Nat):Int)):=HZ47;replace HZ29:Hid (z0 29=if r*(x+1)≤f then 0 else ((f % r:Nat):Int)):=HZ29;replace HZ3:Hid (z0 3=x):=HZ3;replace s0:Hid (saids E0=saidA r x f):=s0;replace s1:Hid (saids E1=heardA r x f):=s1;generalize stA r x f=st at *;repeat refine .c1 termsS rfl ?_
 refine .regionL termsS [0,1,2,3,4,5,6,7] (by rfl) ?_;refine .op rfl (by rfl) hk fun w1 hR K_ hK=>?_;replace hF:=hF.rely hR;clear hR;go_simp;try (unfold stored;go_simp)
 refine hK _ _ ⟨?_,?_⟩
 ·exact listed_ok plain (slots_noSlots plain Try.func6 (by kernel_rfl) _) (by kernel_rfl) _
 clear hK K_;try walk_nrm
 refine .stop rfl fun w4 hR=>?_;obtain ⟨d4,rfl⟩:=hF.rely hR;clear hF hR;refine RunsB.call rfl (by rfl) hk (fun d=>?run5) (fun d=>?evs5) (hvw0 _ (hK.keep (w':=wM.at d4) (fun _ _=>rfl) (Nat.le_refl _))) (fun v wV0 hv=>?_)
 case run5=>kernel_rfl
 case evs5=>
  rw [listed_nil (by kernel_rfl)];simp
 obtain ⟨hV,u,pm0,cm0,rfl,hu0,hm0⟩:=hv;refine RunsB.of_goes ?_;have hF:=Is.self wV0;try walk_nrm
 replace hV:Below wM.heap.size wM wV0:=⟨hV.os,hV.tape,hV.output,hV.size,hV.block⟩;replace hK:=hK.keep (w':=wV0) (fun b hb=>hV.block b (hK.sz b hb)) hV.size;replace hBM:=Below.then hBM hV hBM.size;have hSG0:∀b,S b→b<wV0.heap.size:=hK.sz;have hG0:w.heap.size≤wV0.heap.size:=hBM.size;obtain ⟨pu0,cu0,e⟩:=own_form hu0;subst e;clear hV;refine .op rfl (by rfl) hk fun w1 hR K_ hK=>?_;replace hF:=hF.rely hR;clear hR;go_simp;try (unfold stored;go_simp)
 refine hK _ _ ⟨?_,?_⟩
 ·exact listed_ok plain (slots_noSlots plain Try.func6 (by kernel_rfl) _) (by kernel_rfl) _
 clear hK K_;try walk_nrm
 refine .op rfl (by rfl) hk fun w1 hR K_ hK=>?_;replace hF:=hF.rely hR;clear hR;go_simp;try (unfold stored;go_simp)
 refine hK _ _ ⟨?_,?_⟩
 ·exact listed_ok plain (slots_noSlots plain Try.func6 (by kernel_rfl) _) (by kernel_rfl) _
 clear hK K_;try walk_nrm
 refine .op rfl (by rfl) hk fun w1 hR K_ hK=>?_;replace hF:=hF.rely hR;clear hR;go_simp;try (unfold stored;go_simp)
 refine hK _ _ ⟨?_,?_⟩
 ·exact listed_ok plain (slots_noSlots plain Try.func6 (by kernel_rfl) _) (by kernel_rfl) _
 clear hK K_;try walk_nrm
 refine .op rfl (by rfl) hk fun w1 hR K_ hK=>?_;replace hF:=hF.rely hR;clear hR;go_simp;try (unfold stored;go_simp)
 refine hK _ _ ⟨?_,?_⟩
 ·exact listed_ok plain (slots_noSlots plain Try.func6 (by kernel_rfl) _) (by kernel_rfl) _
 clear hK K_;have hz:=hF.size;replace hF:Is (wV0.alloc (.cells #[.slice none 0 0,.slice none 0 0,.int .i64 0,.int .i64 0,.bool false] 60)) (w1.alloc (.cells #[.slice none 0 0,.slice none 0 0,.int .i64 0,.int .i64 0,.bool false] 60)):=hF.alloc _;rw [hz];generalize w1.alloc (.cells #[.slice none 0 0,.slice none 0 0,.int .i64 0,.int .i64 0,.bool false] 60)=w2 at *;clear hz;have b0:RowF (wV0.alloc (.cells #[.slice none 0 0,.slice none 0 0,.int .i64 0,.int .i64 0,.bool false] 60)) wV0.heap.size 5 60 (cells5 (.slice none 0 0) (.slice none 0 0) (.int .i64 0) (.int .i64 0) (.bool false)):=row5 wV0 _ _ _ _ _ _;have hA:Below wV0.heap.size wV0 (wV0.alloc (.cells #[.slice none 0 0,.slice none 0 0,.int .i64 0,.int .i64 0,.bool false] 60)):=(Below.refl _ _).alloc (Nat.le_refl _) _;replace hBM:=Below.then hBM hA hBM.size;replace hu0:=own_below hu0 hA;replace hm0:=own_below hm0 hA;replace hK:=hK.keep (w':=wV0.alloc (.cells #[.slice none 0 0,.slice none 0 0,.int .i64 0,.int .i64 0,.bool false] 60)) (fun b hb=>hA.block b (hK.sz b hb)) hA.size;clear hA;generalize wV0.alloc (.cells #[.slice none 0 0,.slice none 0 0,.int .i64 0,.int .i64 0,.bool false] 60)=wA0 at *;generalize wV0.heap.size=G0 at *;try walk_nrm
 refine .op rfl (by rfl) hk fun w1 hR K_ hK=>?_;replace hF:=hF.rely hR;clear hR;have c0:World.cell? w1 ⟨G0,0,none⟩=some (.slice none 0 0):=(hF.cell _).trans (b0.cell (j:=0) (by omega));have c1:World.cell? w1 ⟨G0,1,none⟩=some (.slice none 0 0):=(hF.cell _).trans (b0.cell (j:=1) (by omega));have c2:World.cell? w1 ⟨G0,2,none⟩=some (.int .i64 0):=(hF.cell _).trans (b0.cell (j:=2) (by omega));have c3:World.cell? w1 ⟨G0,3,none⟩=some (.int .i64 0):=(hF.cell _).trans (b0.cell (j:=3) (by omega));have c4:World.cell? w1 ⟨G0,4,none⟩=some (.bool false):=(hF.cell _).trans (b0.cell (j:=4) (by omega));have f0:World.frozen? w1 ⟨G0,0,none⟩=false:=(hF.frozen _).trans (b0.frozen 0);have f1:World.frozen? w1 ⟨G0,1,none⟩=false:=(hF.frozen _).trans (b0.frozen 1);have f2:World.frozen? w1 ⟨G0,2,none⟩=false:=(hF.frozen _).trans (b0.frozen 2);have f3:World.frozen? w1 ⟨G0,3,none⟩=false:=(hF.frozen _).trans (b0.frozen 3);have f4:World.frozen? w1 ⟨G0,4,none⟩=false:=(hF.frozen _).trans (b0.frozen 4);go_simp;try (unfold stored;go_simp)
 refine hK _ _ ⟨?_,?_⟩
 ·exact listed_ok plain (slots_noSlots plain Try.func6 (by kernel_rfl) _) (by kernel_rfl) _
 clear hK K_;clear c0 c1 c2 c3 c4 f0 f1 f2 f3 f4;replace hF:Is (((((wA0.setCell ⟨G0,0,none⟩ (.slice pu0 E0.length cu0)).setCell ⟨G0,1,none⟩ (.slice pm0 16 cm0)).setCell ⟨G0,2,none⟩ (.int .i64 (z0 46))).setCell ⟨G0,3,none⟩ (.int .i64 (z0 47))).setCell ⟨G0,4,none⟩ (.bool (decide (z0 3<z0 47)))) (((((w1.setCell ⟨G0,0,none⟩ (.slice pu0 E0.length cu0)).setCell ⟨G0,1,none⟩ (.slice pm0 16 cm0)).setCell ⟨G0,2,none⟩ (.int .i64 (z0 46))).setCell ⟨G0,3,none⟩ (.int .i64 (z0 47))).setCell ⟨G0,4,none⟩ (.bool (decide (z0 3<z0 47)))):=((((hF.set _ _).set _ _).set _ _).set _ _).set _ _;generalize (((((w1.setCell ⟨G0,0,none⟩ (.slice pu0 E0.length cu0)).setCell ⟨G0,1,none⟩ (.slice pm0 16 cm0)).setCell ⟨G0,2,none⟩ (.int .i64 (z0 46))).setCell ⟨G0,3,none⟩ (.int .i64 (z0 47))).setCell ⟨G0,4,none⟩ (.bool (decide (z0 3<z0 47))))=w2 at *;obtain ⟨t1,t2,t3⟩:=box5_set (a':=.slice pu0 E0.length cu0) (b':=.slice pm0 16 cm0) (c':=.int .i64 (z0 46)) (d':=.int .i64 (z0 47)) (e':=.bool (decide (z0 3<z0 47))) b0;replace hu0:=own_eq hu0 fun g hg=>t2 g (own_ne_row hu0 b0 (by decide) g hg);replace hm0:=own_eq hm0 fun g hg=>t2 g (own_ne_row hm0 b0 (by decide) g hg);replace hK:=hK.keep (w':=(((((wA0.setCell ⟨G0,0,none⟩ (.slice pu0 E0.length cu0)).setCell ⟨G0,1,none⟩ (.slice pm0 16 cm0)).setCell ⟨G0,2,none⟩ (.int .i64 (z0 46))).setCell ⟨G0,3,none⟩ (.int .i64 (z0 47))).setCell ⟨G0,4,none⟩ (.bool (decide (z0 3<z0 47))))) (fun b hb=>t2 b (by have:=hSG0 b hb;omega)) (by rw [t3];exact Nat.le_refl _);replace hBM:Below w.heap.size w (((((wA0.setCell ⟨G0,0,none⟩ (.slice pu0 E0.length cu0)).setCell ⟨G0,1,none⟩ (.slice pm0 16 cm0)).setCell ⟨G0,2,none⟩ (.int .i64 (z0 46))).setCell ⟨G0,3,none⟩ (.int .i64 (z0 47))).setCell ⟨G0,4,none⟩ (.bool (decide (z0 3<z0 47)))):=⟨hBM.os,hBM.tape,hBM.output,by rw [t3];exact hBM.size,fun b hb=>(t2 b (by omega)).trans (hBM.block b hb)⟩;clear b0 t2 t3;have b0:=t1;clear t1;generalize (((((wA0.setCell ⟨G0,0,none⟩ (.slice pu0 E0.length cu0)).setCell ⟨G0,1,none⟩ (.slice pm0 16 cm0)).setCell ⟨G0,2,none⟩ (.int .i64 (z0 46))).setCell ⟨G0,3,none⟩ (.int .i64 (z0 47))).setCell ⟨G0,4,none⟩ (.bool (decide (z0 3<z0 47))))=wB0 at *;try walk_nrm
 refine .op rfl (by rfl) hk fun w1 hR K_ hK=>?_;replace hF:=hF.rely hR;clear hR;go_simp;try (unfold stored;go_simp)
 refine hK _ _ ⟨?_,?_⟩
 ·exact listed_ok plain (slots_noSlots plain Try.func6 (by kernel_rfl) _) (by kernel_rfl) _
 clear hK K_;try walk_nrm
 repeat refine .c1 termsS rfl ?_
 refine .regionL termsS [0,1,2,3,4,5,6,7] (by rfl) ?_;refine .op rfl (by rfl) hk fun w1 hR K_ hK=>?_;replace hF:=hF.rely hR;clear hR;go_simp;try (unfold stored;go_simp)
 refine hK _ _ ⟨?_,?_⟩
 ·exact listed_ok plain (slots_noSlots plain Try.func6 (by kernel_rfl) _) (by kernel_rfl) _
 clear hK K_;try walk_nrm
 refine .stop rfl fun w4 hR=>?_;obtain ⟨d4,rfl⟩:=hF.rely hR;clear hF hR;refine RunsB.call rfl (by rfl) hk (fun d=>?run6) (fun d=>?evs6) (hvw1 _ (hK.keep (w':=wB0.at d4) (fun _ _=>rfl) (Nat.le_refl _))) (fun v wV1 hv=>?_)
 case run6=>kernel_rfl
 case evs6=>
  rw [listed_nil (by kernel_rfl)];simp
 obtain ⟨hV,u,pm1,cm1,rfl,hu1,hm1⟩:=hv;refine RunsB.of_goes ?_;have hF:=Is.self wV1;try walk_nrm
 replace hV:Below wB0.heap.size wB0 wV1:=⟨hV.os,hV.tape,hV.output,hV.size,hV.block⟩;replace b0:=b0.below hV b0.lt;replace hu0:=own_below hu0 hV;replace hm0:=own_below hm0 hV;replace hK:=hK.keep (w':=wV1) (fun b hb=>hV.block b (hK.sz b hb)) hV.size;replace hBM:=Below.then hBM hV hBM.size;have hSG1:∀b,S b→b<wV1.heap.size:=hK.sz;have hG1:w.heap.size≤wV1.heap.size:=hBM.size;obtain ⟨pu1,cu1,e⟩:=own_form hu1;subst e;clear hV;have hG01:G0<wV1.heap.size:=b0.lt;refine .op rfl (by rfl) hk fun w1 hR K_ hK=>?_;replace hF:=hF.rely hR;clear hR;go_simp;try (unfold stored;go_simp)
 refine hK _ _ ⟨?_,?_⟩
 ·exact listed_ok plain (slots_noSlots plain Try.func6 (by kernel_rfl) _) (by kernel_rfl) _
 clear hK K_;try walk_nrm
 refine .op rfl (by rfl) hk fun w1 hR K_ hK=>?_;replace hF:=hF.rely hR;clear hR;go_simp;try (unfold stored;go_simp)
 refine hK _ _ ⟨?_,?_⟩
 ·exact listed_ok plain (slots_noSlots plain Try.func6 (by kernel_rfl) _) (by kernel_rfl) _
 clear hK K_;try walk_nrm
 refine .op rfl (by rfl) hk fun w1 hR K_ hK=>?_;replace hF:=hF.rely hR;clear hR;go_simp;try (unfold stored;go_simp)
 refine hK _ _ ⟨?_,?_⟩
 ·exact listed_ok plain (slots_noSlots plain Try.func6 (by kernel_rfl) _) (by kernel_rfl) _
 clear hK K_;try walk_nrm
 refine .op rfl (by rfl) hk fun w1 hR K_ hK=>?_;replace hF:=hF.rely hR;clear hR;go_simp;try (unfold stored;go_simp)
 refine hK _ _ ⟨?_,?_⟩
 ·exact listed_ok plain (slots_noSlots plain Try.func6 (by kernel_rfl) _) (by kernel_rfl) _
 clear hK K_;have hz:=hF.size;replace hF:Is (wV1.alloc (.cells #[.slice none 0 0,.slice none 0 0,.int .i64 0,.int .i64 0,.bool false] 60)) (w1.alloc (.cells #[.slice none 0 0,.slice none 0 0,.int .i64 0,.int .i64 0,.bool false] 60)):=hF.alloc _;rw [hz];generalize w1.alloc (.cells #[.slice none 0 0,.slice none 0 0,.int .i64 0,.int .i64 0,.bool false] 60)=w2 at *;clear hz;have b1:RowF (wV1.alloc (.cells #[.slice none 0 0,.slice none 0 0,.int .i64 0,.int .i64 0,.bool false] 60)) wV1.heap.size 5 60 (cells5 (.slice none 0 0) (.slice none 0 0) (.int .i64 0) (.int .i64 0) (.bool false)):=row5 wV1 _ _ _ _ _ _;have hA:Below wV1.heap.size wV1 (wV1.alloc (.cells #[.slice none 0 0,.slice none 0 0,.int .i64 0,.int .i64 0,.bool false] 60)):=(Below.refl _ _).alloc (Nat.le_refl _) _;replace hBM:=Below.then hBM hA hBM.size;replace hu0:=own_below hu0 hA;replace hu1:=own_below hu1 hA;replace hm0:=own_below hm0 hA;replace hm1:=own_below hm1 hA;replace b0:=b0.below hA b0.lt;replace hK:=hK.keep (w':=wV1.alloc (.cells #[.slice none 0 0,.slice none 0 0,.int .i64 0,.int .i64 0,.bool false] 60)) (fun b hb=>hA.block b (hK.sz b hb)) hA.size;clear hA;generalize wV1.alloc (.cells #[.slice none 0 0,.slice none 0 0,.int .i64 0,.int .i64 0,.bool false] 60)=wA1 at *;generalize wV1.heap.size=G1 at *;try walk_nrm
 refine .op rfl (by rfl) hk fun w1 hR K_ hK=>?_;replace hF:=hF.rely hR;clear hR;have c0:World.cell? w1 ⟨G1,0,none⟩=some (.slice none 0 0):=(hF.cell _).trans (b1.cell (j:=0) (by omega));have c1:World.cell? w1 ⟨G1,1,none⟩=some (.slice none 0 0):=(hF.cell _).trans (b1.cell (j:=1) (by omega));have c2:World.cell? w1 ⟨G1,2,none⟩=some (.int .i64 0):=(hF.cell _).trans (b1.cell (j:=2) (by omega));have c3:World.cell? w1 ⟨G1,3,none⟩=some (.int .i64 0):=(hF.cell _).trans (b1.cell (j:=3) (by omega));have c4:World.cell? w1 ⟨G1,4,none⟩=some (.bool false):=(hF.cell _).trans (b1.cell (j:=4) (by omega));have f0:World.frozen? w1 ⟨G1,0,none⟩=false:=(hF.frozen _).trans (b1.frozen 0);have f1:World.frozen? w1 ⟨G1,1,none⟩=false:=(hF.frozen _).trans (b1.frozen 1);have f2:World.frozen? w1 ⟨G1,2,none⟩=false:=(hF.frozen _).trans (b1.frozen 2);have f3:World.frozen? w1 ⟨G1,3,none⟩=false:=(hF.frozen _).trans (b1.frozen 3);have f4:World.frozen? w1 ⟨G1,4,none⟩=false:=(hF.frozen _).trans (b1.frozen 4);go_simp;try (unfold stored;go_simp)
 refine hK _ _ ⟨?_,?_⟩
 ·exact listed_ok plain (slots_noSlots plain Try.func6 (by kernel_rfl) _) (by kernel_rfl) _
 clear hK K_;clear c0 c1 c2 c3 c4 f0 f1 f2 f3 f4;replace hF:Is (((((wA1.setCell ⟨G1,0,none⟩ (.slice pu1 E1.length cu1)).setCell ⟨G1,1,none⟩ (.slice pm1 16 cm1)).setCell ⟨G1,2,none⟩ (.int .i64 (z1 46))).setCell ⟨G1,3,none⟩ (.int .i64 (z1 47))).setCell ⟨G1,4,none⟩ (.bool (decide (z1 3<z1 47)))) (((((w1.setCell ⟨G1,0,none⟩ (.slice pu1 E1.length cu1)).setCell ⟨G1,1,none⟩ (.slice pm1 16 cm1)).setCell ⟨G1,2,none⟩ (.int .i64 (z1 46))).setCell ⟨G1,3,none⟩ (.int .i64 (z1 47))).setCell ⟨G1,4,none⟩ (.bool (decide (z1 3<z1 47)))):=((((hF.set _ _).set _ _).set _ _).set _ _).set _ _;generalize (((((w1.setCell ⟨G1,0,none⟩ (.slice pu1 E1.length cu1)).setCell ⟨G1,1,none⟩ (.slice pm1 16 cm1)).setCell ⟨G1,2,none⟩ (.int .i64 (z1 46))).setCell ⟨G1,3,none⟩ (.int .i64 (z1 47))).setCell ⟨G1,4,none⟩ (.bool (decide (z1 3<z1 47))))=w2 at *;obtain ⟨t1,t2,t3⟩:=box5_set (a':=.slice pu1 E1.length cu1) (b':=.slice pm1 16 cm1) (c':=.int .i64 (z1 46)) (d':=.int .i64 (z1 47)) (e':=.bool (decide (z1 3<z1 47))) b1;replace hu0:=own_eq hu0 fun g hg=>t2 g (own_ne_row hu0 b1 (by decide) g hg);replace hu1:=own_eq hu1 fun g hg=>t2 g (own_ne_row hu1 b1 (by decide) g hg);replace hm0:=own_eq hm0 fun g hg=>t2 g (own_ne_row hm0 b1 (by decide) g hg);replace hm1:=own_eq hm1 fun g hg=>t2 g (own_ne_row hm1 b1 (by decide) g hg);replace b0:=b0.of_heap (t2 _ (by omega));replace hK:=hK.keep (w':=(((((wA1.setCell ⟨G1,0,none⟩ (.slice pu1 E1.length cu1)).setCell ⟨G1,1,none⟩ (.slice pm1 16 cm1)).setCell ⟨G1,2,none⟩ (.int .i64 (z1 46))).setCell ⟨G1,3,none⟩ (.int .i64 (z1 47))).setCell ⟨G1,4,none⟩ (.bool (decide (z1 3<z1 47))))) (fun b hb=>t2 b (by have:=hSG1 b hb;omega)) (by rw [t3];exact Nat.le_refl _);replace hBM:Below w.heap.size w (((((wA1.setCell ⟨G1,0,none⟩ (.slice pu1 E1.length cu1)).setCell ⟨G1,1,none⟩ (.slice pm1 16 cm1)).setCell ⟨G1,2,none⟩ (.int .i64 (z1 46))).setCell ⟨G1,3,none⟩ (.int .i64 (z1 47))).setCell ⟨G1,4,none⟩ (.bool (decide (z1 3<z1 47)))):=⟨hBM.os,hBM.tape,hBM.output,by rw [t3];exact hBM.size,fun b hb=>(t2 b (by omega)).trans (hBM.block b hb)⟩;clear b1 t2 t3;have b1:=t1;clear t1;generalize (((((wA1.setCell ⟨G1,0,none⟩ (.slice pu1 E1.length cu1)).setCell ⟨G1,1,none⟩ (.slice pm1 16 cm1)).setCell ⟨G1,2,none⟩ (.int .i64 (z1 46))).setCell ⟨G1,3,none⟩ (.int .i64 (z1 47))).setCell ⟨G1,4,none⟩ (.bool (decide (z1 3<z1 47))))=wB1 at *;try walk_nrm
 refine .op rfl (by rfl) hk fun w1 hR K_ hK=>?_;replace hF:=hF.rely hR;clear hR;go_simp;try (unfold stored;go_simp)
 refine hK _ _ ⟨?_,?_⟩
 ·exact listed_ok plain (slots_noSlots plain Try.func6 (by kernel_rfl) _) (by kernel_rfl) _
 clear hK K_;try walk_nrm
 clear hK hvw0 hvw1 hSG0 hSG1 hG01 hG0 hG1 hm1;repeat refine .c1 termsS rfl ?_
 refine .regionL termsS [0,1,2,3,4,5] (by rfl) ?_;refine .op rfl (by rfl) hk fun w1 hR K_ hK=>?_;replace hF:=hF.rely hR;clear hR;go_simp;try (unfold stored;go_simp)
 refine hK _ _ ⟨?_,?_⟩
 ·exact listed_ok plain (slots_noSlots plain Try.func6 (by kernel_rfl) _) (by kernel_rfl) _
 clear hK K_;try walk_nrm
 refine .op rfl (by rfl) hk fun w1 hR K_ hK=>?_;replace hF:=hF.rely hR;clear hR;go_simp;try (unfold stored;go_simp)
 refine hK _ _ ⟨?_,?_⟩
 ·exact listed_ok plain (slots_noSlots plain Try.func6 (by kernel_rfl) _) (by kernel_rfl) _
 clear hK K_;try walk_nrm
 refine .op rfl (by rfl) hk fun w1 hR K_ hK=>?_;replace hF:=hF.rely hR;clear hR;go_simp;try (unfold stored;go_simp)
 refine hK _ _ ⟨?_,?_⟩
 ·exact listed_ok plain (slots_noSlots plain Try.func6 (by kernel_rfl) _) (by kernel_rfl) _
 clear hK K_;try walk_nrm
 refine .op rfl (by rfl) hk fun w1 hR K_ hK=>?_;replace hF:=hF.rely hR;clear hR;go_simp;try (unfold stored;go_simp)
 refine hK _ _ ⟨?_,?_⟩
 ·exact listed_ok plain (slots_noSlots plain Try.func6 (by kernel_rfl) _) (by kernel_rfl) _
 clear hK K_;try walk_nrm
 refine .op rfl (by rfl) hk fun w1 hR K_ hK=>?_;replace hF:=hF.rely hR;clear hR;go_simp;try (unfold stored;go_simp)
 refine hK _ _ ⟨?_,?_⟩
 ·exact listed_ok plain (slots_noSlots plain Try.func6 (by kernel_rfl) _) (by kernel_rfl) _
 clear hK K_;try walk_nrm
 refine .op rfl (by rfl) hk fun w1 hR K_ hK=>?_;replace hF:=hF.rely hR;clear hR;go_simp;try (unfold stored;go_simp)
 refine hK _ _ ⟨?_,?_⟩
 ·exact listed_ok plain (slots_noSlots plain Try.func6 (by kernel_rfl) _) (by kernel_rfl) _
 clear hK K_;try walk_nrm
 repeat refine .c1 termsS rfl ?_
 refine GoesW.condF termsS (by first|rfl|simp [Act.eval]) ?_;repeat refine .c1 termsS rfl ?_
 refine .regionL termsS [0] (by rfl) ?_;refine .op rfl (by rfl) hk fun w1 hR K_ hK=>?_;replace hF:=hF.rely hR;clear hR;go_simp;try (unfold stored;go_simp)
 refine hK _ _ ⟨?_,?_⟩
 ·exact listed_ok plain (slots_noSlots plain Try.func6 (by kernel_rfl) _) (by kernel_rfl) _
 clear hK K_;try walk_nrm
 repeat refine .c1 termsS rfl ?_
 refine .regionL termsS [0] (by rfl) ?_;refine .op rfl (by rfl) hk fun w1 hR K_ hK=>?_;replace hF:=hF.rely hR;clear hR;go_simp;try (unfold stored;go_simp)
 refine hK _ _ ⟨?_,?_⟩
 ·exact listed_ok plain (slots_noSlots plain Try.func6 (by kernel_rfl) _) (by kernel_rfl) _
 clear hK K_;try walk_nrm
 repeat refine .c1 termsS rfl ?_
 refine .regionL termsS [0] (by rfl) ?_;refine .op rfl (by rfl) hk fun w1 hR K_ hK=>?_;replace hF:=hF.rely hR;clear hR;go_simp;try (unfold stored;go_simp)
 refine hK _ _ ⟨?_,?_⟩
 ·exact listed_ok plain (slots_noSlots plain Try.func6 (by kernel_rfl) _) (by kernel_rfl) _
 clear hK K_;try walk_nrm
 repeat refine .c1 termsS rfl ?_
 refine GoesW.loop termsS ?_;refine .stop rfl fun w1 hR=>?_;obtain ⟨d,rfl⟩:=hF.rely hR;clear hF hR;refine an_loop2 (W0:=wB1) hr hx hf cs f 0 none 0 _ _ _ _ _ _ _ _ _ _ _ _ _ _ _ _ _ _ _ _ _ _ _ _ _ _ _ _ _ _ _ _ _ _ _ _ _ _ _ _ _ _ _ _ _ _ _ _ _ _ _ _ _ _ _ _ _ _ _ _ _ _ _ _ _ _ _ _ _ _ _ _ _ _ _ _ _ _ _ _ _ _ _ _ _ _ _ _ _ _ _ _ _ _ _ _ _ _ _ _ _ _ _ _ _ _ _ _ _ _ _ _ _ _ _ _ _ _ _ _ _ _ _ _ _ _ _ _ _ _ _ _ _ _ _ _ _ _ _ _ _ _ _ _ _ _ _ _ _ _ _ _ _ _ _ _ _ _ _ _ _ _ _ _ _ _ _ _ _ _ _ _ _ _ _ _ _ _ _ _ _ _ _ _ _ _ _ _ _ _ _ _ _ _ _ _ _ _ _ (by omega) (Nat.zero_le _) ⟨rfl,rfl,rfl,Nat.le_refl _,fun _ _=>rfl⟩ (World.ownsRow_nil _ _ _ _) ?_;intro pS cS wC u0 u1 u2 u3 u4 u5 u9 u10 u11 u12 u14 u15 u17 u19 u22 u23 u24 u25 u26 u27 u28 u29 u30 u31 u32 u33 u34 u35 u36 u37 u38 u39 u40 u41 u42 u43 u44 u45 u46 u47 u48 u49 u50 u51 u52 u53 u54 u55 u56 u57 u58 u59 u60 u61 u62 u63 u64 u65 u66 u67 u68 u69 u70 u71 u72 u73 u74 u75 u76 u77 u78 u79 u80 u81 u82 u83 u84 u85 u86 u87 u88 u89 u90 u91 u92 u93 u94 u95 u96 u97 u98 u99 u100 u101 u102 u103 u104 u105 u106 u107 u108 u109 u110 u111 u112 u113 u114 u115 u116 u117 u118 u119 u120 u121 u122 u123 u124 u125 u126 u127 u128 u129 u130 u131 u132 u133 u134 u135 u136 u137 u138 u139 u140 u141 u142 u143 u144 u145 u146 u147 u148 u149 u150 u151 u152 u153 u154 u155 u156 u157 u158 u159 u160 u161 u162 u163 u164 u165 u166 u167 u168 u169 u170 u171 u172 u173 u174 u175 u176 u177 u178 u179 u180 u181 u182 u183 u184 u185 u186 u187 u188 u189 u190 u191 u192 u193 u194 u195 u196 u197 u198 u199 u200 u201 u202 u203 u204 u205 u206 hC hSd;replace b0:=b0.below hC b0.lt;replace b1:=b1.below hC b1.lt;replace hu0:=own_below hu0 hC;replace hm0:=own_below hm0 hC;replace hu1:=own_below hu1 hC;replace hBM:=Below.then hBM hC hBM.size;clear hC;refine RunsB.of_goes ?_;have hF:=Is.self wC;try walk_nrm
 repeat refine .c1 termsS rfl ?_
 refine .regionL termsS [0] (by rfl) ?_;refine .op rfl (by rfl) hk fun w1 hR K_ hK=>?_;replace hF:=hF.rely hR;clear hR;go_simp;try (unfold stored;go_simp)
 refine hK _ _ ⟨?_,?_⟩
 ·exact listed_ok plain (slots_noSlots plain Try.func6 (by kernel_rfl) _) (by kernel_rfl) _
 clear hK K_;try walk_nrm
 repeat refine .c1 termsS rfl ?_
 refine GoesW.loop termsS ?_;refine .stop rfl fun w1 hR=>?_;obtain ⟨d,rfl⟩:=hF.rely hR;clear hF hR;refine an_loop3 (W0:=wC) hr hx hf cs f 0 none 0 _ _ _ _ _ _ _ _ _ _ _ _ _ _ _ _ _ _ _ _ _ _ _ _ _ _ _ _ _ _ _ _ _ _ _ _ _ _ _ _ _ _ _ _ _ _ _ _ _ _ _ _ _ _ _ _ _ _ _ _ _ _ _ _ _ _ _ _ _ _ _ _ _ _ _ _ _ _ _ _ _ _ _ _ _ _ _ _ _ _ _ _ _ _ _ _ _ _ _ _ _ _ _ _ _ _ _ _ _ _ _ _ _ _ _ _ _ _ _ _ _ _ _ _ _ _ _ _ _ _ _ _ _ _ _ _ _ _ _ _ _ _ _ _ _ _ _ _ _ _ _ _ _ _ _ _ _ _ _ _ _ _ _ _ _ _ _ _ _ _ _ _ _ _ _ _ _ _ _ _ _ _ _ _ _ _ _ _ _ _ _ _ _ _ _ _ _ _ _ (by omega) ⟨rfl,rfl,rfl,Nat.le_refl _,fun _ _=>rfl⟩ (World.ownsRow_nil _ _ _ _) ?_;intro pH cH wD u0 u1 u2 u3 u4 u5 u9 u10 u11 u12 u14 u15 u17 u19 u22 u23 u24 u25 u26 u27 u28 u29 u30 u31 u32 u33 u34 u35 u36 u37 u38 u39 u40 u41 u42 u43 u44 u45 u46 u47 u48 u49 u50 u51 u52 u53 u54 u55 u56 u57 u58 u59 u60 u61 u62 u63 u64 u65 u66 u67 u68 u69 u70 u71 u72 u73 u74 u75 u76 u77 u78 u79 u80 u81 u82 u83 u84 u85 u86 u87 u88 u89 u90 u91 u92 u93 u94 u95 u96 u97 u98 u99 u100 u101 u102 u103 u104 u105 u106 u107 u108 u109 u110 u111 u112 u113 u114 u115 u116 u117 u118 u119 u120 u121 u122 u123 u124 u125 u126 u127 u128 u129 u130 u131 u132 u133 u134 u135 u136 u137 u138 u139 u140 u141 u142 u143 u144 u145 u146 u147 u148 u149 u150 u151 u152 u153 u154 u155 u156 u157 u158 u159 u160 u161 u162 u163 u164 u165 u166 u167 u168 u169 u170 u171 u172 u173 u174 u175 u176 u177 u178 u179 u180 u181 u182 u183 u184 u185 u186 u187 u188 u189 u190 u191 u192 u193 u194 u195 u196 u197 u198 u199 u200 u201 u202 u203 u204 u205 u206 hC hHd;replace b0:=b0.below hC b0.lt;replace b1:=b1.below hC b1.lt;replace hu0:=own_below hu0 hC;replace hm0:=own_below hm0 hC;replace hu1:=own_below hu1 hC;replace hSd:=own_below hSd hC;replace hBM:=Below.then hBM hC hBM.size;clear hC;refine RunsB.of_goes ?_;have hF:=Is.self wD;try walk_nrm
 have hl0:∀W:World,Sl W pu0 (E0.length*3) _→Sl W pS (saidA r x f).length _→CallsR Try.prog 16 #[.slice pu0 E0.length cu0,.slice pS (saidA r x f).length cS] W _:=fun W a b=>by
  have h:=logs_calls (w:=W) (p:=pu0) (q:=pS) (c:=cu0) (c':=cS) E0 (by omega) a (by rw [s0.out];exact b);rw [s0.out] at h;exact h
 have hl1:∀W:World,Sl W pu1 (E1.length*3) _→Sl W pH (heardA r x f).length _→CallsR Try.prog 16 #[.slice pu1 E1.length cu1,.slice pH (f*2:Nat) cH] W _:=fun W a b=>by
  have h:=logs_calls (w:=W) (p:=pu1) (q:=pH) (c:=cu1) (c':=cH) E1 (by omega) a (by rw [s1.out];exact b);rw [s1.out,heardA_len] at h;exact h
 repeat refine .c1 termsS rfl ?_
 refine .regionL termsS [0,1,2,3,4] (by rfl) ?_;refine .op rfl (by rfl) hk fun w1 hR K_ hK=>?_;replace hF:=hF.rely hR;clear hR;go_simp;try (unfold stored;go_simp)
 refine hK _ _ ⟨?_,?_⟩
 ·exact listed_ok plain (slots_noSlots plain Try.func6 (by kernel_rfl) _) (by kernel_rfl) _
 clear hK K_;try walk_nrm
 refine .op rfl (by rfl) hk fun w1 hR K_ hK=>?_;replace hF:=hF.rely hR;clear hR;have hc:World.cell? w1 ⟨G0,0,none⟩=some (.slice pu0 E0.length cu0):=(hF.cell _).trans (b0.cell (j:=0) (by omega));go_simp;try (unfold stored;go_simp)
 refine hK _ _ ⟨?_,?_⟩
 ·exact listed_ok plain (slots_noSlots plain Try.func6 (by kernel_rfl) _) (by kernel_rfl) _
 clear hK K_;clear hc;try walk_nrm
 refine .op rfl (by rfl) hk fun w1 hR K_ hK=>?_;replace hF:=hF.rely hR;clear hR;go_simp;try (unfold stored;go_simp)
 refine hK _ _ ⟨?_,?_⟩
 ·exact listed_ok plain (slots_noSlots plain Try.func6 (by kernel_rfl) _) (by kernel_rfl) _
 clear hK K_;try walk_nrm
 refine .stop rfl fun w4 hR=>?_;obtain ⟨d4,rfl⟩:=hF.rely hR;clear hF hR;refine RunsB.call rfl (by rfl) hk (fun d=>?run7) (fun d=>?evs7) (hl0 (wD.at d4) (sl_own hu0) (sl_ownL hSd)) (fun v wE hv=>?_)
 case run7=>kernel_rfl
 case evs7=>
  rw [listed_nil (by kernel_rfl)];simp
 obtain ⟨hC,rfl⟩:=hv;refine RunsB.of_goes ?_;have hF:=Is.self wE;try walk_nrm
 replace hC:Below wD.heap.size wD wE:=⟨hC.os,hC.tape,hC.output,hC.size,hC.block⟩;replace b0:=b0.below hC b0.lt;replace b1:=b1.below hC b1.lt;replace hm0:=own_below hm0 hC;replace hu1:=own_below hu1 hC;replace hHd:=own_below hHd hC;replace hBM:=Below.then hBM hC hBM.size;clear hC;refine .op rfl (by rfl) hk fun w1 hR K_ hK=>?_;replace hF:=hF.rely hR;clear hR;go_simp;try (unfold stored;go_simp)
 refine hK _ _ ⟨?_,?_⟩
 ·exact listed_ok plain (slots_noSlots plain Try.func6 (by kernel_rfl) _) (by kernel_rfl) _
 clear hK K_;try walk_nrm
 repeat refine .c1 termsS rfl ?_
 refine .regionL termsS [0,1,2,3,4] (by rfl) ?_;refine .op rfl (by rfl) hk fun w1 hR K_ hK=>?_;replace hF:=hF.rely hR;clear hR;go_simp;try (unfold stored;go_simp)
 refine hK _ _ ⟨?_,?_⟩
 ·exact listed_ok plain (slots_noSlots plain Try.func6 (by kernel_rfl) _) (by kernel_rfl) _
 clear hK K_;try walk_nrm
 refine .op rfl (by rfl) hk fun w1 hR K_ hK=>?_;replace hF:=hF.rely hR;clear hR;have hc:World.cell? w1 ⟨G1,0,none⟩=some (.slice pu1 E1.length cu1):=(hF.cell _).trans (b1.cell (j:=0) (by omega));go_simp;try (unfold stored;go_simp)
 refine hK _ _ ⟨?_,?_⟩
 ·exact listed_ok plain (slots_noSlots plain Try.func6 (by kernel_rfl) _) (by kernel_rfl) _
 clear hK K_;clear hc;try walk_nrm
 refine .op rfl (by rfl) hk fun w1 hR K_ hK=>?_;replace hF:=hF.rely hR;clear hR;go_simp;try (unfold stored;go_simp)
 refine hK _ _ ⟨?_,?_⟩
 ·exact listed_ok plain (slots_noSlots plain Try.func6 (by kernel_rfl) _) (by kernel_rfl) _
 clear hK K_;try walk_nrm
 refine .stop rfl fun w4 hR=>?_;obtain ⟨d4,rfl⟩:=hF.rely hR;clear hF hR;refine RunsB.call rfl (by rfl) hk (fun d=>?run8) (fun d=>?evs8) (hl1 (wE.at d4) (sl_own hu1) (sl_ownL (L:=heardA r x f) (by rw [heardA_len];exact hHd))) (fun v wG hv=>?_)
 case run8=>kernel_rfl
 case evs8=>
  rw [listed_nil (by kernel_rfl)];simp
 obtain ⟨hC,rfl⟩:=hv;refine RunsB.of_goes ?_;have hF:=Is.self wG;try walk_nrm
 replace hC:Below wE.heap.size wE wG:=⟨hC.os,hC.tape,hC.output,hC.size,hC.block⟩;replace b0:=b0.below hC b0.lt;replace b1:=b1.below hC b1.lt;replace hm0:=own_below hm0 hC;replace hu1:=own_below hu1 hC;replace hHd:=own_below hHd hC;replace hBM:=Below.then hBM hC hBM.size;clear hC;refine .op rfl (by rfl) hk fun w1 hR K_ hK=>?_;replace hF:=hF.rely hR;clear hR;go_simp;try (unfold stored;go_simp)
 refine hK _ _ ⟨?_,?_⟩
 ·exact listed_ok plain (slots_noSlots plain Try.func6 (by kernel_rfl) _) (by kernel_rfl) _
 clear hK K_;try walk_nrm
 clear hl0 hl1 hu0 hu1 hSd hHd b1 s0 s1;obtain ⟨bq,HBQ⟩:∃bq:Nat,Hid (bq=f / r):=⟨_,rfl⟩;obtain ⟨md,HMD⟩:∃md:Nat,Hid (md=f % r):=⟨_,rfl⟩;have hb40:bq≤40:=by rw [HBQ.out];exact Nat.le_trans (Nat.div_le_self _ _) hf
 have hrz:¬(r:Int)=0:=by omega
 have hrz2:r≠0:=by omega
 have htd0:(f:Int).tdiv (r:Int)=(bq:Int):=by rw [HBQ.out,Int.tdiv_eq_ediv_of_nonneg (by omega)];simp
 have htd:IntKind.i64.wrap (bq:Int)=(bq:Int):=by rw [IntKind.wrap_i64];omega
 have htm:(f:Int).tmod (r:Int)=(md:Int):=by rw [HMD.out,Int.tmod_eq_emod_of_nonneg (by omega)];simp
 have hx1:IntKind.i64.wrap ((x:Int)+1)=((x+1:Nat):Int):=by rw [IntKind.wrap_i64];omega
 have HLE:Hid (r*(x+1)≤f↔x+1≤bq):=show _↔_ by rw [HBQ.out,Nat.le_div_iff_mul_le (by omega),Nat.mul_comm]
 have g1:=b0.cell (j:=1) (by omega);have g3:=b0.cell (j:=3) (by omega);have g4:=b0.cell (j:=4) (by omega);obtain ⟨gm,cpm,epm,-,-⟩:=hm0.form (by omega);injection epm with epm _ epc
 subst epm epc;have gm0:=own_cellAt (j:=0) hm0 rfl;replace g1:World.cell? wG ⟨G0,1,none⟩=some (.slice (some ⟨gm,0,none⟩) 16 cm0):=g1;replace g3:World.cell? wG ⟨G0,3,none⟩=some (.int .i64 (z0 47)):=g3;replace g4:World.cell? wG ⟨G0,4,none⟩=some (.bool (decide (z0 3<z0 47))):=g4;replace gm0:World.cell? wG ⟨gm,0,none⟩=some (.int .i64 (z0 29)):=gm0;clear hm0 b0;rw [HZ3.out] at g4;by_cases hA:x+1<bq
 ·have e47:z0 47=((x+1:Nat):Int):=by rw [HZ47.out,if_pos (HLE.out.2 (by omega))];simp
  have e29:z0 29=0:=by rw [HZ29.out,if_pos (HLE.out.2 (by omega))]
  rw [e47] at g3 g4;rw [e29] at gm0;have hd:decide ((x:Int)<((x+1:Nat):Int))=true:=by simp;omega
  rw [hd] at g4;have hxx:(x:Int)<(x:Int)+1:=by omega
  clear e47 e29 hd;repeat refine .c1 termsS rfl ?_
  refine .regionL termsS [0,1,2,3] (by rfl) ?_;refine .op rfl (by rfl) hk fun w1 hR K_ hK=>?_;replace hF:=hF.rely hR;clear hR;go_simp;try (unfold stored;go_simp)
  refine hK _ _ ⟨?_,?_⟩
  ·exact listed_ok plain (slots_noSlots plain Try.func6 (by kernel_rfl) _) (by kernel_rfl) _
  clear hK K_;try walk_nrm
  refine .op rfl (by rfl) hk fun w1 hR K_ hK=>?_;replace hF:=hF.rely hR;clear hR;go_simp;try (unfold stored;go_simp)
  refine hK _ _ ⟨?_,?_⟩
  ·exact listed_ok plain (slots_noSlots plain Try.func6 (by kernel_rfl) _) (by kernel_rfl) _
  clear hK K_;try walk_nrm
  refine .op rfl (by rfl) hk fun w1 hR K_ hK=>?_;replace hF:=hF.rely hR;clear hR;go_simp;try (unfold stored;go_simp)
  refine hK _ _ ⟨?_,?_⟩
  ·exact listed_ok plain (slots_noSlots plain Try.func6 (by kernel_rfl) _) (by kernel_rfl) _
  clear hK K_;try walk_nrm
  try rw [htd0]
  try rw [htd]
  refine .op rfl (by rfl) hk fun w1 hR K_ hK=>?_;replace hF:=hF.rely hR;clear hR;go_simp;try (unfold stored;go_simp)
  refine hK _ _ ⟨?_,?_⟩
  ·exact listed_ok plain (slots_noSlots plain Try.func6 (by kernel_rfl) _) (by kernel_rfl) _
  clear hK K_;try walk_nrm
  repeat refine .c1 termsS rfl ?_
  refine .regionL termsS [0,1,2,3] (by rfl) ?_;refine .op rfl (by rfl) hk fun w1 hR K_ hK=>?_;replace hF:=hF.rely hR;clear hR;go_simp;try (unfold stored;go_simp)
  refine hK _ _ ⟨?_,?_⟩
  ·exact listed_ok plain (slots_noSlots plain Try.func6 (by kernel_rfl) _) (by kernel_rfl) _
  clear hK K_;try walk_nrm
  refine .op rfl (by rfl) hk fun w1 hR K_ hK=>?_;replace hF:=hF.rely hR;clear hR;go_simp;try (unfold stored;go_simp)
  refine hK _ _ ⟨?_,?_⟩
  ·exact listed_ok plain (slots_noSlots plain Try.func6 (by kernel_rfl) _) (by kernel_rfl) _
  clear hK K_;try walk_nrm
  refine .op rfl (by rfl) hk fun w1 hR K_ hK=>?_;replace hF:=hF.rely hR;clear hR;go_simp;try (unfold stored;go_simp)
  refine hK _ _ ⟨?_,?_⟩
  ·exact listed_ok plain (slots_noSlots plain Try.func6 (by kernel_rfl) _) (by kernel_rfl) _
  clear hK K_;try walk_nrm
  try rw [hx1]
  refine .op rfl (by rfl) hk fun w1 hR K_ hK=>?_;replace hF:=hF.rely hR;clear hR;go_simp;try (unfold stored;go_simp)
  refine hK _ _ ⟨?_,?_⟩
  ·exact listed_ok plain (slots_noSlots plain Try.func6 (by kernel_rfl) _) (by kernel_rfl) _
  clear hK K_;try walk_nrm
  repeat refine .c1 termsS rfl ?_
  refine GoesW.condT termsS (by first|rfl|(simp [Act.eval];omega)) ?_;repeat refine .c1 termsS rfl ?_
  refine .regionL termsS [0,1,2] (by rfl) ?_;refine .op rfl (by rfl) hk fun w1 hR K_ hK=>?_;replace hF:=hF.rely hR;clear hR;go_simp;try (unfold stored;go_simp)
  refine hK _ _ ⟨?_,?_⟩
  ·exact listed_ok plain (slots_noSlots plain Try.func6 (by kernel_rfl) _) (by kernel_rfl) _
  clear hK K_;try walk_nrm
  refine .op rfl (by rfl) hk fun w1 hR K_ hK=>?_;replace hF:=hF.rely hR;clear hR;go_simp;try (unfold stored;go_simp)
  refine hK _ _ ⟨?_,?_⟩
  ·exact listed_ok plain (slots_noSlots plain Try.func6 (by kernel_rfl) _) (by kernel_rfl) _
  clear hK K_;try walk_nrm
  try rw [hx1]
  refine .op rfl (by rfl) hk fun w1 hR K_ hK=>?_;replace hF:=hF.rely hR;clear hR;go_simp;try (unfold stored;go_simp)
  refine hK _ _ ⟨?_,?_⟩
  ·exact listed_ok plain (slots_noSlots plain Try.func6 (by kernel_rfl) _) (by kernel_rfl) _
  clear hK K_;try walk_nrm
  repeat refine .c1 termsS rfl ?_
  refine .regionL termsS [0,1,2,3] (by rfl) ?_;refine .op rfl (by rfl) hk fun w1 hR K_ hK=>?_;replace hF:=hF.rely hR;clear hR;go_simp;try (unfold stored;go_simp)
  refine hK _ _ ⟨?_,?_⟩
  ·exact listed_ok plain (slots_noSlots plain Try.func6 (by kernel_rfl) _) (by kernel_rfl) _
  clear hK K_;try walk_nrm
  refine .op rfl (by rfl) hk fun w1 hR K_ hK=>?_;replace hF:=hF.rely hR;clear hR;go_simp;try (unfold stored;go_simp)
  refine hK _ _ ⟨?_,?_⟩
  ·exact listed_ok plain (slots_noSlots plain Try.func6 (by kernel_rfl) _) (by kernel_rfl) _
  clear hK K_;try walk_nrm
  refine .op rfl (by rfl) hk fun w1 hR K_ hK=>?_;replace hF:=hF.rely hR;clear hR;go_simp;try (unfold stored;go_simp)
  refine hK _ _ ⟨?_,?_⟩
  ·exact listed_ok plain (slots_noSlots plain Try.func6 (by kernel_rfl) _) (by kernel_rfl) _
  clear hK K_;try walk_nrm
  try rw [htm]
  refine .op rfl (by rfl) hk fun w1 hR K_ hK=>?_;replace hF:=hF.rely hR;clear hR;go_simp;try (unfold stored;go_simp)
  refine hK _ _ ⟨?_,?_⟩
  ·exact listed_ok plain (slots_noSlots plain Try.func6 (by kernel_rfl) _) (by kernel_rfl) _
  clear hK K_;try walk_nrm
  repeat refine .c1 termsS rfl ?_
  refine .regionL termsS [0,1,2] (by rfl) ?_;refine .op rfl (by rfl) hk fun w1 hR K_ hK=>?_;replace hF:=hF.rely hR;clear hR;go_simp;try (unfold stored;go_simp)
  refine hK _ _ ⟨?_,?_⟩
  ·exact listed_ok plain (slots_noSlots plain Try.func6 (by kernel_rfl) _) (by kernel_rfl) _
  clear hK K_;try walk_nrm
  refine .op rfl (by rfl) hk fun w1 hR K_ hK=>?_;replace hF:=hF.rely hR;clear hR;go_simp;try (unfold stored;go_simp)
  refine hK _ _ ⟨?_,?_⟩
  ·exact listed_ok plain (slots_noSlots plain Try.func6 (by kernel_rfl) _) (by kernel_rfl) _
  clear hK K_;try walk_nrm
  refine .op rfl (by rfl) hk fun w1 hR K_ hK=>?_;replace hF:=hF.rely hR;clear hR;go_simp;try (unfold stored;go_simp)
  refine hK _ _ ⟨?_,?_⟩
  ·exact listed_ok plain (slots_noSlots plain Try.func6 (by kernel_rfl) _) (by kernel_rfl) _
  clear hK K_;try walk_nrm
  repeat refine .c1 termsS rfl ?_
  refine GoesW.condT termsS (by first|rfl|(simp [Act.eval];omega)) ?_;repeat refine .c1 termsS rfl ?_
  refine .regionL termsS [0] (by rfl) ?_;refine .op rfl (by rfl) hk fun w1 hR K_ hK=>?_;replace hF:=hF.rely hR;clear hR;go_simp;try (unfold stored;go_simp)
  refine hK _ _ ⟨?_,?_⟩
  ·exact listed_ok plain (slots_noSlots plain Try.func6 (by kernel_rfl) _) (by kernel_rfl) _
  clear hK K_;try walk_nrm
  repeat refine .c1 termsS rfl ?_
  refine .regionL termsS [0,1,2,3,4,5,6,7,8,9,10,11,12,13,14,15,16,17,18,19,20,21,22,23,24,25,26,27,28] (by rfl) ?_;refine .op rfl (by rfl) hk fun w1 hR K_ hK=>?_;replace hF:=hF.rely hR;clear hR;go_simp;try (unfold stored;go_simp)
  refine hK _ _ ⟨?_,?_⟩
  ·exact listed_ok plain (slots_noSlots plain Try.func6 (by kernel_rfl) _) (by kernel_rfl) _
  clear hK K_;try walk_nrm
  refine .op rfl (by rfl) hk fun w1 hR K_ hK=>?_;replace hF:=hF.rely hR;clear hR;go_simp;try (unfold stored;go_simp)
  refine hK _ _ ⟨?_,?_⟩
  ·exact listed_ok plain (slots_noSlots plain Try.func6 (by kernel_rfl) _) (by kernel_rfl) _
  clear hK K_;try walk_nrm
  refine .op rfl (by rfl) hk fun w1 hR K_ hK=>?_;replace hF:=hF.rely hR;clear hR;go_simp;try (unfold stored;go_simp)
  refine hK _ _ ⟨?_,?_⟩
  ·exact listed_ok plain (slots_noSlots plain Try.func6 (by kernel_rfl) _) (by kernel_rfl) _
  clear hK K_;try walk_nrm
  refine .op rfl (by rfl) hk fun w1 hR K_ hK=>?_;replace hF:=hF.rely hR;clear hR;go_simp;try (unfold stored;go_simp)
  refine hK _ _ ⟨?_,?_⟩
  ·exact listed_ok plain (slots_noSlots plain Try.func6 (by kernel_rfl) _) (by kernel_rfl) _
  clear hK K_;try walk_nrm
  refine .op rfl (by rfl) hk fun w1 hR K_ hK=>?_;replace hF:=hF.rely hR;clear hR;go_simp;try (unfold stored;go_simp)
  refine hK _ _ ⟨?_,?_⟩
  ·exact listed_ok plain (slots_noSlots plain Try.func6 (by kernel_rfl) _) (by kernel_rfl) _
  clear hK K_;try walk_nrm
  refine .op rfl (by rfl) hk fun w1 hR K_ hK=>?_;replace hF:=hF.rely hR;clear hR;go_simp;try (unfold stored;go_simp)
  refine hK _ _ ⟨?_,?_⟩
  ·exact listed_ok plain (slots_noSlots plain Try.func6 (by kernel_rfl) _) (by kernel_rfl) _
  clear hK K_;try walk_nrm
  refine .op rfl (by rfl) hk fun w1 hR K_ hK=>?_;replace hF:=hF.rely hR;clear hR;go_simp;try (unfold stored;go_simp)
  refine hK _ _ ⟨?_,?_⟩
  ·exact listed_ok plain (slots_noSlots plain Try.func6 (by kernel_rfl) _) (by kernel_rfl) _
  clear hK K_;try walk_nrm
  refine .op rfl (by rfl) hk fun w1 hR K_ hK=>?_;replace hF:=hF.rely hR;clear hR;have hc:=(hF.cell ⟨G0,3,none⟩).trans g3;go_simp;try (unfold stored;go_simp)
  refine hK _ _ ⟨?_,?_⟩
  ·exact listed_ok plain (slots_noSlots plain Try.func6 (by kernel_rfl) _) (by kernel_rfl) _
  clear hK K_;clear hc;try walk_nrm
  refine .op rfl (by rfl) hk fun w1 hR K_ hK=>?_;replace hF:=hF.rely hR;clear hR;go_simp;try (unfold stored;go_simp)
  refine hK _ _ ⟨?_,?_⟩
  ·exact listed_ok plain (slots_noSlots plain Try.func6 (by kernel_rfl) _) (by kernel_rfl) _
  clear hK K_;try walk_nrm
  refine .op rfl (by rfl) hk fun w1 hR K_ hK=>?_;replace hF:=hF.rely hR;clear hR;go_simp;try (unfold stored;go_simp)
  refine hK _ _ ⟨?_,?_⟩
  ·exact listed_ok plain (slots_noSlots plain Try.func6 (by kernel_rfl) _) (by kernel_rfl) _
  clear hK K_;try walk_nrm
  refine .op rfl (by rfl) hk fun w1 hR K_ hK=>?_;replace hF:=hF.rely hR;clear hR;go_simp;try (unfold stored;go_simp)
  refine hK _ _ ⟨?_,?_⟩
  ·exact listed_ok plain (slots_noSlots plain Try.func6 (by kernel_rfl) _) (by kernel_rfl) _
  clear hK K_;try walk_nrm
  refine .op rfl (by rfl) hk fun w1 hR K_ hK=>?_;replace hF:=hF.rely hR;clear hR;go_simp;try (unfold stored;go_simp)
  refine hK _ _ ⟨?_,?_⟩
  ·exact listed_ok plain (slots_noSlots plain Try.func6 (by kernel_rfl) _) (by kernel_rfl) _
  clear hK K_;try walk_nrm
  refine .op rfl (by rfl) hk fun w1 hR K_ hK=>?_;replace hF:=hF.rely hR;clear hR;go_simp;try (unfold stored;go_simp)
  refine hK _ _ ⟨?_,?_⟩
  ·exact listed_ok plain (slots_noSlots plain Try.func6 (by kernel_rfl) _) (by kernel_rfl) _
  clear hK K_;try walk_nrm
  refine .op rfl (by rfl) hk fun w1 hR K_ hK=>?_;replace hF:=hF.rely hR;clear hR;go_simp;try (unfold stored;go_simp)
  refine hK _ _ ⟨?_,?_⟩
  ·exact listed_ok plain (slots_noSlots plain Try.func6 (by kernel_rfl) _) (by kernel_rfl) _
  clear hK K_;try walk_nrm
  refine .op rfl (by rfl) hk fun w1 hR K_ hK=>?_;replace hF:=hF.rely hR;clear hR;have hc:=(hF.cell ⟨G0,4,none⟩).trans g4;go_simp;try (unfold stored;go_simp)
  refine hK _ _ ⟨?_,?_⟩
  ·exact listed_ok plain (slots_noSlots plain Try.func6 (by kernel_rfl) _) (by kernel_rfl) _
  clear hK K_;clear hc;try walk_nrm
  refine .op rfl (by rfl) hk fun w1 hR K_ hK=>?_;replace hF:=hF.rely hR;clear hR;go_simp;try (unfold stored;go_simp)
  refine hK _ _ ⟨?_,?_⟩
  ·exact listed_ok plain (slots_noSlots plain Try.func6 (by kernel_rfl) _) (by kernel_rfl) _
  clear hK K_;try walk_nrm
  refine .op rfl (by rfl) hk fun w1 hR K_ hK=>?_;replace hF:=hF.rely hR;clear hR;go_simp;try (unfold stored;go_simp)
  refine hK _ _ ⟨?_,?_⟩
  ·exact listed_ok plain (slots_noSlots plain Try.func6 (by kernel_rfl) _) (by kernel_rfl) _
  clear hK K_;try walk_nrm
  refine .op rfl (by rfl) hk fun w1 hR K_ hK=>?_;replace hF:=hF.rely hR;clear hR;go_simp;try (unfold stored;go_simp)
  refine hK _ _ ⟨?_,?_⟩
  ·exact listed_ok plain (slots_noSlots plain Try.func6 (by kernel_rfl) _) (by kernel_rfl) _
  clear hK K_;try walk_nrm
  refine .op rfl (by rfl) hk fun w1 hR K_ hK=>?_;replace hF:=hF.rely hR;clear hR;go_simp;try (unfold stored;go_simp)
  refine hK _ _ ⟨?_,?_⟩
  ·exact listed_ok plain (slots_noSlots plain Try.func6 (by kernel_rfl) _) (by kernel_rfl) _
  clear hK K_;try walk_nrm
  refine .op rfl (by rfl) hk fun w1 hR K_ hK=>?_;replace hF:=hF.rely hR;clear hR;go_simp;try (unfold stored;go_simp)
  refine hK _ _ ⟨?_,?_⟩
  ·exact listed_ok plain (slots_noSlots plain Try.func6 (by kernel_rfl) _) (by kernel_rfl) _
  clear hK K_;try walk_nrm
  refine .op rfl (by rfl) hk fun w1 hR K_ hK=>?_;replace hF:=hF.rely hR;clear hR;go_simp;try (unfold stored;go_simp)
  refine hK _ _ ⟨?_,?_⟩
  ·exact listed_ok plain (slots_noSlots plain Try.func6 (by kernel_rfl) _) (by kernel_rfl) _
  clear hK K_;try walk_nrm
  refine .op rfl (by rfl) hk fun w1 hR K_ hK=>?_;replace hF:=hF.rely hR;clear hR;go_simp;try (unfold stored;go_simp)
  refine hK _ _ ⟨?_,?_⟩
  ·exact listed_ok plain (slots_noSlots plain Try.func6 (by kernel_rfl) _) (by kernel_rfl) _
  clear hK K_;try walk_nrm
  refine .op rfl (by rfl) hk fun w1 hR K_ hK=>?_;replace hF:=hF.rely hR;clear hR;have hc:=(hF.cell ⟨G0,1,none⟩).trans g1;go_simp;try (unfold stored;go_simp)
  refine hK _ _ ⟨?_,?_⟩
  ·exact listed_ok plain (slots_noSlots plain Try.func6 (by kernel_rfl) _) (by kernel_rfl) _
  clear hK K_;clear hc;try walk_nrm
  refine .op rfl (by rfl) hk fun w1 hR K_ hK=>?_;replace hF:=hF.rely hR;clear hR;go_simp;try (unfold stored;go_simp)
  refine hK _ _ ⟨?_,?_⟩
  ·exact listed_ok plain (slots_noSlots plain Try.func6 (by kernel_rfl) _) (by kernel_rfl) _
  clear hK K_;try walk_nrm
  refine .op rfl (by rfl) hk fun w1 hR K_ hK=>?_;replace hF:=hF.rely hR;clear hR;have hc:=(hF.cell ⟨gm,0,none⟩).trans gm0;go_simp;try (unfold stored;go_simp)
  refine hK _ _ ⟨?_,?_⟩
  ·exact listed_ok plain (slots_noSlots plain Try.func6 (by kernel_rfl) _) (by kernel_rfl) _
  clear hK K_;clear hc;try walk_nrm
  refine .op rfl (by rfl) hk fun w1 hR K_ hK=>?_;replace hF:=hF.rely hR;clear hR;go_simp;try (unfold stored;go_simp)
  refine hK _ _ ⟨?_,?_⟩
  ·exact listed_ok plain (slots_noSlots plain Try.func6 (by kernel_rfl) _) (by kernel_rfl) _
  clear hK K_;try walk_nrm
  refine .op rfl (by rfl) hk fun w1 hR K_ hK=>?_;replace hF:=hF.rely hR;clear hR;go_simp;try (unfold stored;go_simp)
  refine hK _ _ ⟨?_,?_⟩
  ·exact listed_ok plain (slots_noSlots plain Try.func6 (by kernel_rfl) _) (by kernel_rfl) _
  clear hK K_;try walk_nrm
  refine .op rfl (by rfl) hk fun w1 hR K_ hK=>?_;replace hF:=hF.rely hR;clear hR;go_simp;try (unfold stored;go_simp)
  refine hK _ _ ⟨?_,?_⟩
  ·exact listed_ok plain (slots_noSlots plain Try.func6 (by kernel_rfl) _) (by kernel_rfl) _
  clear hK K_;try walk_nrm
  refine .op rfl (by rfl) hk fun w1 hR K_ hK=>?_;replace hF:=hF.rely hR;clear hR;go_simp;try (unfold stored;go_simp)
  refine hK _ _ ⟨?_,?_⟩
  ·exact listed_ok plain (slots_noSlots plain Try.func6 (by kernel_rfl) _) (by kernel_rfl) _
  clear hK K_;try walk_nrm
  repeat refine .c1 termsS rfl ?_
  refine GoesW.ret termsS fun todo=>?_;refine .stop rfl fun w6 hR=>?_;obtain ⟨d,rfl⟩:=hF.rely hR;exact hp _ _ _ _ rfl (fun d=>(resultsC_tmp (t:=6) (by rfl) _ _).1) ⟨by first|rfl|simp,hBM.os,hBM.tape,hBM.output,hBM.size,hBM.block⟩
 ·by_cases hA2:x+1=bq
  ·have e47:z0 47=(bq:Int):=by rw [HZ47.out,if_pos (HLE.out.2 (by omega)),←hA2];simp
   have e29:z0 29=0:=by rw [HZ29.out,if_pos (HLE.out.2 (by omega))]
   rw [e47] at g3 g4;rw [e29] at gm0;have hd:decide ((x:Int)<(bq:Int))=true:=by simp;omega
   rw [hd] at g4;have hgt:x<bq:=by omega
   clear e47 e29 hd hA2;repeat refine .c1 termsS rfl ?_
   refine .regionL termsS [0,1,2,3] (by rfl) ?_;refine .op rfl (by rfl) hk fun w1 hR K_ hK=>?_;replace hF:=hF.rely hR;clear hR;go_simp;try (unfold stored;go_simp)
   refine hK _ _ ⟨?_,?_⟩
   ·exact listed_ok plain (slots_noSlots plain Try.func6 (by kernel_rfl) _) (by kernel_rfl) _
   clear hK K_;try walk_nrm
   refine .op rfl (by rfl) hk fun w1 hR K_ hK=>?_;replace hF:=hF.rely hR;clear hR;go_simp;try (unfold stored;go_simp)
   refine hK _ _ ⟨?_,?_⟩
   ·exact listed_ok plain (slots_noSlots plain Try.func6 (by kernel_rfl) _) (by kernel_rfl) _
   clear hK K_;try walk_nrm
   refine .op rfl (by rfl) hk fun w1 hR K_ hK=>?_;replace hF:=hF.rely hR;clear hR;go_simp;try (unfold stored;go_simp)
   refine hK _ _ ⟨?_,?_⟩
   ·exact listed_ok plain (slots_noSlots plain Try.func6 (by kernel_rfl) _) (by kernel_rfl) _
   clear hK K_;try walk_nrm
   try rw [htd0]
   try rw [htd]
   refine .op rfl (by rfl) hk fun w1 hR K_ hK=>?_;replace hF:=hF.rely hR;clear hR;go_simp;try (unfold stored;go_simp)
   refine hK _ _ ⟨?_,?_⟩
   ·exact listed_ok plain (slots_noSlots plain Try.func6 (by kernel_rfl) _) (by kernel_rfl) _
   clear hK K_;try walk_nrm
   repeat refine .c1 termsS rfl ?_
   refine .regionL termsS [0,1,2,3] (by rfl) ?_;refine .op rfl (by rfl) hk fun w1 hR K_ hK=>?_;replace hF:=hF.rely hR;clear hR;go_simp;try (unfold stored;go_simp)
   refine hK _ _ ⟨?_,?_⟩
   ·exact listed_ok plain (slots_noSlots plain Try.func6 (by kernel_rfl) _) (by kernel_rfl) _
   clear hK K_;try walk_nrm
   refine .op rfl (by rfl) hk fun w1 hR K_ hK=>?_;replace hF:=hF.rely hR;clear hR;go_simp;try (unfold stored;go_simp)
   refine hK _ _ ⟨?_,?_⟩
   ·exact listed_ok plain (slots_noSlots plain Try.func6 (by kernel_rfl) _) (by kernel_rfl) _
   clear hK K_;try walk_nrm
   refine .op rfl (by rfl) hk fun w1 hR K_ hK=>?_;replace hF:=hF.rely hR;clear hR;go_simp;try (unfold stored;go_simp)
   refine hK _ _ ⟨?_,?_⟩
   ·exact listed_ok plain (slots_noSlots plain Try.func6 (by kernel_rfl) _) (by kernel_rfl) _
   clear hK K_;try walk_nrm
   try rw [hx1]
   refine .op rfl (by rfl) hk fun w1 hR K_ hK=>?_;replace hF:=hF.rely hR;clear hR;go_simp;try (unfold stored;go_simp)
   refine hK _ _ ⟨?_,?_⟩
   ·exact listed_ok plain (slots_noSlots plain Try.func6 (by kernel_rfl) _) (by kernel_rfl) _
   clear hK K_;try walk_nrm
   repeat refine .c1 termsS rfl ?_
   refine GoesW.condF termsS (by first|rfl|(simp [Act.eval];omega)) ?_;repeat refine .c1 termsS rfl ?_
   refine .regionL termsS [0,1,2,3] (by rfl) ?_;refine .op rfl (by rfl) hk fun w1 hR K_ hK=>?_;replace hF:=hF.rely hR;clear hR;go_simp;try (unfold stored;go_simp)
   refine hK _ _ ⟨?_,?_⟩
   ·exact listed_ok plain (slots_noSlots plain Try.func6 (by kernel_rfl) _) (by kernel_rfl) _
   clear hK K_;try walk_nrm
   refine .op rfl (by rfl) hk fun w1 hR K_ hK=>?_;replace hF:=hF.rely hR;clear hR;go_simp;try (unfold stored;go_simp)
   refine hK _ _ ⟨?_,?_⟩
   ·exact listed_ok plain (slots_noSlots plain Try.func6 (by kernel_rfl) _) (by kernel_rfl) _
   clear hK K_;try walk_nrm
   refine .op rfl (by rfl) hk fun w1 hR K_ hK=>?_;replace hF:=hF.rely hR;clear hR;go_simp;try (unfold stored;go_simp)
   refine hK _ _ ⟨?_,?_⟩
   ·exact listed_ok plain (slots_noSlots plain Try.func6 (by kernel_rfl) _) (by kernel_rfl) _
   clear hK K_;try walk_nrm
   try rw [htm]
   refine .op rfl (by rfl) hk fun w1 hR K_ hK=>?_;replace hF:=hF.rely hR;clear hR;go_simp;try (unfold stored;go_simp)
   refine hK _ _ ⟨?_,?_⟩
   ·exact listed_ok plain (slots_noSlots plain Try.func6 (by kernel_rfl) _) (by kernel_rfl) _
   clear hK K_;try walk_nrm
   repeat refine .c1 termsS rfl ?_
   refine .regionL termsS [0,1,2] (by rfl) ?_;refine .op rfl (by rfl) hk fun w1 hR K_ hK=>?_;replace hF:=hF.rely hR;clear hR;go_simp;try (unfold stored;go_simp)
   refine hK _ _ ⟨?_,?_⟩
   ·exact listed_ok plain (slots_noSlots plain Try.func6 (by kernel_rfl) _) (by kernel_rfl) _
   clear hK K_;try walk_nrm
   refine .op rfl (by rfl) hk fun w1 hR K_ hK=>?_;replace hF:=hF.rely hR;clear hR;go_simp;try (unfold stored;go_simp)
   refine hK _ _ ⟨?_,?_⟩
   ·exact listed_ok plain (slots_noSlots plain Try.func6 (by kernel_rfl) _) (by kernel_rfl) _
   clear hK K_;try walk_nrm
   refine .op rfl (by rfl) hk fun w1 hR K_ hK=>?_;replace hF:=hF.rely hR;clear hR;go_simp;try (unfold stored;go_simp)
   refine hK _ _ ⟨?_,?_⟩
   ·exact listed_ok plain (slots_noSlots plain Try.func6 (by kernel_rfl) _) (by kernel_rfl) _
   clear hK K_;try walk_nrm
   repeat refine .c1 termsS rfl ?_
   refine GoesW.condT termsS (by first|rfl|(simp [Act.eval];omega)) ?_;repeat refine .c1 termsS rfl ?_
   refine .regionL termsS [0] (by rfl) ?_;refine .op rfl (by rfl) hk fun w1 hR K_ hK=>?_;replace hF:=hF.rely hR;clear hR;go_simp;try (unfold stored;go_simp)
   refine hK _ _ ⟨?_,?_⟩
   ·exact listed_ok plain (slots_noSlots plain Try.func6 (by kernel_rfl) _) (by kernel_rfl) _
   clear hK K_;try walk_nrm
   repeat refine .c1 termsS rfl ?_
   refine .regionL termsS [0,1,2,3,4,5,6,7,8,9,10,11,12,13,14,15,16,17,18,19,20,21,22,23,24,25,26,27,28] (by rfl) ?_;refine .op rfl (by rfl) hk fun w1 hR K_ hK=>?_;replace hF:=hF.rely hR;clear hR;go_simp;try (unfold stored;go_simp)
   refine hK _ _ ⟨?_,?_⟩
   ·exact listed_ok plain (slots_noSlots plain Try.func6 (by kernel_rfl) _) (by kernel_rfl) _
   clear hK K_;try walk_nrm
   refine .op rfl (by rfl) hk fun w1 hR K_ hK=>?_;replace hF:=hF.rely hR;clear hR;go_simp;try (unfold stored;go_simp)
   refine hK _ _ ⟨?_,?_⟩
   ·exact listed_ok plain (slots_noSlots plain Try.func6 (by kernel_rfl) _) (by kernel_rfl) _
   clear hK K_;try walk_nrm
   refine .op rfl (by rfl) hk fun w1 hR K_ hK=>?_;replace hF:=hF.rely hR;clear hR;go_simp;try (unfold stored;go_simp)
   refine hK _ _ ⟨?_,?_⟩
   ·exact listed_ok plain (slots_noSlots plain Try.func6 (by kernel_rfl) _) (by kernel_rfl) _
   clear hK K_;try walk_nrm
   refine .op rfl (by rfl) hk fun w1 hR K_ hK=>?_;replace hF:=hF.rely hR;clear hR;go_simp;try (unfold stored;go_simp)
   refine hK _ _ ⟨?_,?_⟩
   ·exact listed_ok plain (slots_noSlots plain Try.func6 (by kernel_rfl) _) (by kernel_rfl) _
   clear hK K_;try walk_nrm
   refine .op rfl (by rfl) hk fun w1 hR K_ hK=>?_;replace hF:=hF.rely hR;clear hR;go_simp;try (unfold stored;go_simp)
   refine hK _ _ ⟨?_,?_⟩
   ·exact listed_ok plain (slots_noSlots plain Try.func6 (by kernel_rfl) _) (by kernel_rfl) _
   clear hK K_;try walk_nrm
   refine .op rfl (by rfl) hk fun w1 hR K_ hK=>?_;replace hF:=hF.rely hR;clear hR;go_simp;try (unfold stored;go_simp)
   refine hK _ _ ⟨?_,?_⟩
   ·exact listed_ok plain (slots_noSlots plain Try.func6 (by kernel_rfl) _) (by kernel_rfl) _
   clear hK K_;try walk_nrm
   refine .op rfl (by rfl) hk fun w1 hR K_ hK=>?_;replace hF:=hF.rely hR;clear hR;go_simp;try (unfold stored;go_simp)
   refine hK _ _ ⟨?_,?_⟩
   ·exact listed_ok plain (slots_noSlots plain Try.func6 (by kernel_rfl) _) (by kernel_rfl) _
   clear hK K_;try walk_nrm
   refine .op rfl (by rfl) hk fun w1 hR K_ hK=>?_;replace hF:=hF.rely hR;clear hR;have hc:=(hF.cell ⟨G0,3,none⟩).trans g3;go_simp;try (unfold stored;go_simp)
   refine hK _ _ ⟨?_,?_⟩
   ·exact listed_ok plain (slots_noSlots plain Try.func6 (by kernel_rfl) _) (by kernel_rfl) _
   clear hK K_;clear hc;try walk_nrm
   refine .op rfl (by rfl) hk fun w1 hR K_ hK=>?_;replace hF:=hF.rely hR;clear hR;go_simp;try (unfold stored;go_simp)
   refine hK _ _ ⟨?_,?_⟩
   ·exact listed_ok plain (slots_noSlots plain Try.func6 (by kernel_rfl) _) (by kernel_rfl) _
   clear hK K_;try walk_nrm
   refine .op rfl (by rfl) hk fun w1 hR K_ hK=>?_;replace hF:=hF.rely hR;clear hR;go_simp;try (unfold stored;go_simp)
   refine hK _ _ ⟨?_,?_⟩
   ·exact listed_ok plain (slots_noSlots plain Try.func6 (by kernel_rfl) _) (by kernel_rfl) _
   clear hK K_;try walk_nrm
   refine .op rfl (by rfl) hk fun w1 hR K_ hK=>?_;replace hF:=hF.rely hR;clear hR;go_simp;try (unfold stored;go_simp)
   refine hK _ _ ⟨?_,?_⟩
   ·exact listed_ok plain (slots_noSlots plain Try.func6 (by kernel_rfl) _) (by kernel_rfl) _
   clear hK K_;try walk_nrm
   refine .op rfl (by rfl) hk fun w1 hR K_ hK=>?_;replace hF:=hF.rely hR;clear hR;go_simp;try (unfold stored;go_simp)
   refine hK _ _ ⟨?_,?_⟩
   ·exact listed_ok plain (slots_noSlots plain Try.func6 (by kernel_rfl) _) (by kernel_rfl) _
   clear hK K_;try walk_nrm
   refine .op rfl (by rfl) hk fun w1 hR K_ hK=>?_;replace hF:=hF.rely hR;clear hR;go_simp;try (unfold stored;go_simp)
   refine hK _ _ ⟨?_,?_⟩
   ·exact listed_ok plain (slots_noSlots plain Try.func6 (by kernel_rfl) _) (by kernel_rfl) _
   clear hK K_;try walk_nrm
   refine .op rfl (by rfl) hk fun w1 hR K_ hK=>?_;replace hF:=hF.rely hR;clear hR;go_simp;try (unfold stored;go_simp)
   refine hK _ _ ⟨?_,?_⟩
   ·exact listed_ok plain (slots_noSlots plain Try.func6 (by kernel_rfl) _) (by kernel_rfl) _
   clear hK K_;try walk_nrm
   refine .op rfl (by rfl) hk fun w1 hR K_ hK=>?_;replace hF:=hF.rely hR;clear hR;have hc:=(hF.cell ⟨G0,4,none⟩).trans g4;go_simp;try (unfold stored;go_simp)
   refine hK _ _ ⟨?_,?_⟩
   ·exact listed_ok plain (slots_noSlots plain Try.func6 (by kernel_rfl) _) (by kernel_rfl) _
   clear hK K_;clear hc;try walk_nrm
   refine .op rfl (by rfl) hk fun w1 hR K_ hK=>?_;replace hF:=hF.rely hR;clear hR;go_simp;try (unfold stored;go_simp)
   refine hK _ _ ⟨?_,?_⟩
   ·exact listed_ok plain (slots_noSlots plain Try.func6 (by kernel_rfl) _) (by kernel_rfl) _
   clear hK K_;try walk_nrm
   refine .op rfl (by rfl) hk fun w1 hR K_ hK=>?_;replace hF:=hF.rely hR;clear hR;go_simp;try (unfold stored;go_simp)
   refine hK _ _ ⟨?_,?_⟩
   ·exact listed_ok plain (slots_noSlots plain Try.func6 (by kernel_rfl) _) (by kernel_rfl) _
   clear hK K_;try walk_nrm
   refine .op rfl (by rfl) hk fun w1 hR K_ hK=>?_;replace hF:=hF.rely hR;clear hR;go_simp;try (unfold stored;go_simp)
   refine hK _ _ ⟨?_,?_⟩
   ·exact listed_ok plain (slots_noSlots plain Try.func6 (by kernel_rfl) _) (by kernel_rfl) _
   clear hK K_;try walk_nrm
   refine .op rfl (by rfl) hk fun w1 hR K_ hK=>?_;replace hF:=hF.rely hR;clear hR;go_simp;try (unfold stored;go_simp)
   refine hK _ _ ⟨?_,?_⟩
   ·exact listed_ok plain (slots_noSlots plain Try.func6 (by kernel_rfl) _) (by kernel_rfl) _
   clear hK K_;try walk_nrm
   refine .op rfl (by rfl) hk fun w1 hR K_ hK=>?_;replace hF:=hF.rely hR;clear hR;go_simp;try (unfold stored;go_simp)
   refine hK _ _ ⟨?_,?_⟩
   ·exact listed_ok plain (slots_noSlots plain Try.func6 (by kernel_rfl) _) (by kernel_rfl) _
   clear hK K_;try walk_nrm
   refine .op rfl (by rfl) hk fun w1 hR K_ hK=>?_;replace hF:=hF.rely hR;clear hR;go_simp;try (unfold stored;go_simp)
   refine hK _ _ ⟨?_,?_⟩
   ·exact listed_ok plain (slots_noSlots plain Try.func6 (by kernel_rfl) _) (by kernel_rfl) _
   clear hK K_;try walk_nrm
   refine .op rfl (by rfl) hk fun w1 hR K_ hK=>?_;replace hF:=hF.rely hR;clear hR;go_simp;try (unfold stored;go_simp)
   refine hK _ _ ⟨?_,?_⟩
   ·exact listed_ok plain (slots_noSlots plain Try.func6 (by kernel_rfl) _) (by kernel_rfl) _
   clear hK K_;try walk_nrm
   refine .op rfl (by rfl) hk fun w1 hR K_ hK=>?_;replace hF:=hF.rely hR;clear hR;have hc:=(hF.cell ⟨G0,1,none⟩).trans g1;go_simp;try (unfold stored;go_simp)
   refine hK _ _ ⟨?_,?_⟩
   ·exact listed_ok plain (slots_noSlots plain Try.func6 (by kernel_rfl) _) (by kernel_rfl) _
   clear hK K_;clear hc;try walk_nrm
   refine .op rfl (by rfl) hk fun w1 hR K_ hK=>?_;replace hF:=hF.rely hR;clear hR;go_simp;try (unfold stored;go_simp)
   refine hK _ _ ⟨?_,?_⟩
   ·exact listed_ok plain (slots_noSlots plain Try.func6 (by kernel_rfl) _) (by kernel_rfl) _
   clear hK K_;try walk_nrm
   refine .op rfl (by rfl) hk fun w1 hR K_ hK=>?_;replace hF:=hF.rely hR;clear hR;have hc:=(hF.cell ⟨gm,0,none⟩).trans gm0;go_simp;try (unfold stored;go_simp)
   refine hK _ _ ⟨?_,?_⟩
   ·exact listed_ok plain (slots_noSlots plain Try.func6 (by kernel_rfl) _) (by kernel_rfl) _
   clear hK K_;clear hc;try walk_nrm
   refine .op rfl (by rfl) hk fun w1 hR K_ hK=>?_;replace hF:=hF.rely hR;clear hR;go_simp;try (unfold stored;go_simp)
   refine hK _ _ ⟨?_,?_⟩
   ·exact listed_ok plain (slots_noSlots plain Try.func6 (by kernel_rfl) _) (by kernel_rfl) _
   clear hK K_;try walk_nrm
   refine .op rfl (by rfl) hk fun w1 hR K_ hK=>?_;replace hF:=hF.rely hR;clear hR;go_simp;try (unfold stored;go_simp)
   refine hK _ _ ⟨?_,?_⟩
   ·exact listed_ok plain (slots_noSlots plain Try.func6 (by kernel_rfl) _) (by kernel_rfl) _
   clear hK K_;try walk_nrm
   refine .op rfl (by rfl) hk fun w1 hR K_ hK=>?_;replace hF:=hF.rely hR;clear hR;go_simp;try (unfold stored;go_simp)
   refine hK _ _ ⟨?_,?_⟩
   ·exact listed_ok plain (slots_noSlots plain Try.func6 (by kernel_rfl) _) (by kernel_rfl) _
   clear hK K_;try walk_nrm
   refine .op rfl (by rfl) hk fun w1 hR K_ hK=>?_;replace hF:=hF.rely hR;clear hR;go_simp;try (unfold stored;go_simp)
   refine hK _ _ ⟨?_,?_⟩
   ·exact listed_ok plain (slots_noSlots plain Try.func6 (by kernel_rfl) _) (by kernel_rfl) _
   clear hK K_;try walk_nrm
   repeat refine .c1 termsS rfl ?_
   refine GoesW.ret termsS fun todo=>?_;refine .stop rfl fun w6 hR=>?_;obtain ⟨d,rfl⟩:=hF.rely hR;exact hp _ _ _ _ rfl (fun d=>(resultsC_tmp (t:=6) (by rfl) _ _).1) ⟨by first|rfl|simp,hBM.os,hBM.tape,hBM.output,hBM.size,hBM.block⟩
  ·have e47:z0 47=(bq:Int):=by rw [HZ47.out,if_neg (fun h=>by have:=HLE.out.1 h;omega),HBQ.out]
   have e29:z0 29=(md:Int):=by rw [HZ29.out,if_neg (fun h=>by have:=HLE.out.1 h;omega),HMD.out]
   rw [e47] at g3 g4;rw [e29] at gm0;have hd:decide ((x:Int)<(bq:Int))=false:=by simp;omega
   rw [hd] at g4;have hgt:¬x<bq:=by omega
   clear e47 e29 hd;repeat refine .c1 termsS rfl ?_
   refine .regionL termsS [0,1,2,3] (by rfl) ?_;refine .op rfl (by rfl) hk fun w1 hR K_ hK=>?_;replace hF:=hF.rely hR;clear hR;go_simp;try (unfold stored;go_simp)
   refine hK _ _ ⟨?_,?_⟩
   ·exact listed_ok plain (slots_noSlots plain Try.func6 (by kernel_rfl) _) (by kernel_rfl) _
   clear hK K_;try walk_nrm
   refine .op rfl (by rfl) hk fun w1 hR K_ hK=>?_;replace hF:=hF.rely hR;clear hR;go_simp;try (unfold stored;go_simp)
   refine hK _ _ ⟨?_,?_⟩
   ·exact listed_ok plain (slots_noSlots plain Try.func6 (by kernel_rfl) _) (by kernel_rfl) _
   clear hK K_;try walk_nrm
   refine .op rfl (by rfl) hk fun w1 hR K_ hK=>?_;replace hF:=hF.rely hR;clear hR;go_simp;try (unfold stored;go_simp)
   refine hK _ _ ⟨?_,?_⟩
   ·exact listed_ok plain (slots_noSlots plain Try.func6 (by kernel_rfl) _) (by kernel_rfl) _
   clear hK K_;try walk_nrm
   try rw [htd0]
   try rw [htd]
   refine .op rfl (by rfl) hk fun w1 hR K_ hK=>?_;replace hF:=hF.rely hR;clear hR;go_simp;try (unfold stored;go_simp)
   refine hK _ _ ⟨?_,?_⟩
   ·exact listed_ok plain (slots_noSlots plain Try.func6 (by kernel_rfl) _) (by kernel_rfl) _
   clear hK K_;try walk_nrm
   repeat refine .c1 termsS rfl ?_
   refine .regionL termsS [0,1,2,3] (by rfl) ?_;refine .op rfl (by rfl) hk fun w1 hR K_ hK=>?_;replace hF:=hF.rely hR;clear hR;go_simp;try (unfold stored;go_simp)
   refine hK _ _ ⟨?_,?_⟩
   ·exact listed_ok plain (slots_noSlots plain Try.func6 (by kernel_rfl) _) (by kernel_rfl) _
   clear hK K_;try walk_nrm
   refine .op rfl (by rfl) hk fun w1 hR K_ hK=>?_;replace hF:=hF.rely hR;clear hR;go_simp;try (unfold stored;go_simp)
   refine hK _ _ ⟨?_,?_⟩
   ·exact listed_ok plain (slots_noSlots plain Try.func6 (by kernel_rfl) _) (by kernel_rfl) _
   clear hK K_;try walk_nrm
   refine .op rfl (by rfl) hk fun w1 hR K_ hK=>?_;replace hF:=hF.rely hR;clear hR;go_simp;try (unfold stored;go_simp)
   refine hK _ _ ⟨?_,?_⟩
   ·exact listed_ok plain (slots_noSlots plain Try.func6 (by kernel_rfl) _) (by kernel_rfl) _
   clear hK K_;try walk_nrm
   try rw [hx1]
   refine .op rfl (by rfl) hk fun w1 hR K_ hK=>?_;replace hF:=hF.rely hR;clear hR;go_simp;try (unfold stored;go_simp)
   refine hK _ _ ⟨?_,?_⟩
   ·exact listed_ok plain (slots_noSlots plain Try.func6 (by kernel_rfl) _) (by kernel_rfl) _
   clear hK K_;try walk_nrm
   repeat refine .c1 termsS rfl ?_
   refine GoesW.condF termsS (by first|rfl|(simp [Act.eval];omega)) ?_;repeat refine .c1 termsS rfl ?_
   refine .regionL termsS [0,1,2,3] (by rfl) ?_;refine .op rfl (by rfl) hk fun w1 hR K_ hK=>?_;replace hF:=hF.rely hR;clear hR;go_simp;try (unfold stored;go_simp)
   refine hK _ _ ⟨?_,?_⟩
   ·exact listed_ok plain (slots_noSlots plain Try.func6 (by kernel_rfl) _) (by kernel_rfl) _
   clear hK K_;try walk_nrm
   refine .op rfl (by rfl) hk fun w1 hR K_ hK=>?_;replace hF:=hF.rely hR;clear hR;go_simp;try (unfold stored;go_simp)
   refine hK _ _ ⟨?_,?_⟩
   ·exact listed_ok plain (slots_noSlots plain Try.func6 (by kernel_rfl) _) (by kernel_rfl) _
   clear hK K_;try walk_nrm
   refine .op rfl (by rfl) hk fun w1 hR K_ hK=>?_;replace hF:=hF.rely hR;clear hR;go_simp;try (unfold stored;go_simp)
   refine hK _ _ ⟨?_,?_⟩
   ·exact listed_ok plain (slots_noSlots plain Try.func6 (by kernel_rfl) _) (by kernel_rfl) _
   clear hK K_;try walk_nrm
   try rw [htm]
   refine .op rfl (by rfl) hk fun w1 hR K_ hK=>?_;replace hF:=hF.rely hR;clear hR;go_simp;try (unfold stored;go_simp)
   refine hK _ _ ⟨?_,?_⟩
   ·exact listed_ok plain (slots_noSlots plain Try.func6 (by kernel_rfl) _) (by kernel_rfl) _
   clear hK K_;try walk_nrm
   repeat refine .c1 termsS rfl ?_
   refine .regionL termsS [0,1,2] (by rfl) ?_;refine .op rfl (by rfl) hk fun w1 hR K_ hK=>?_;replace hF:=hF.rely hR;clear hR;go_simp;try (unfold stored;go_simp)
   refine hK _ _ ⟨?_,?_⟩
   ·exact listed_ok plain (slots_noSlots plain Try.func6 (by kernel_rfl) _) (by kernel_rfl) _
   clear hK K_;try walk_nrm
   refine .op rfl (by rfl) hk fun w1 hR K_ hK=>?_;replace hF:=hF.rely hR;clear hR;go_simp;try (unfold stored;go_simp)
   refine hK _ _ ⟨?_,?_⟩
   ·exact listed_ok plain (slots_noSlots plain Try.func6 (by kernel_rfl) _) (by kernel_rfl) _
   clear hK K_;try walk_nrm
   refine .op rfl (by rfl) hk fun w1 hR K_ hK=>?_;replace hF:=hF.rely hR;clear hR;go_simp;try (unfold stored;go_simp)
   refine hK _ _ ⟨?_,?_⟩
   ·exact listed_ok plain (slots_noSlots plain Try.func6 (by kernel_rfl) _) (by kernel_rfl) _
   clear hK K_;try walk_nrm
   repeat refine .c1 termsS rfl ?_
   refine GoesW.condF termsS (by first|rfl|(simp [Act.eval];omega)) ?_;repeat refine .c1 termsS rfl ?_
   refine .regionL termsS [0,1,2,3,4,5,6,7,8,9,10,11,12,13,14,15,16,17,18,19,20,21,22,23,24,25,26,27,28] (by rfl) ?_;refine .op rfl (by rfl) hk fun w1 hR K_ hK=>?_;replace hF:=hF.rely hR;clear hR;go_simp;try (unfold stored;go_simp)
   refine hK _ _ ⟨?_,?_⟩
   ·exact listed_ok plain (slots_noSlots plain Try.func6 (by kernel_rfl) _) (by kernel_rfl) _
   clear hK K_;try walk_nrm
   refine .op rfl (by rfl) hk fun w1 hR K_ hK=>?_;replace hF:=hF.rely hR;clear hR;go_simp;try (unfold stored;go_simp)
   refine hK _ _ ⟨?_,?_⟩
   ·exact listed_ok plain (slots_noSlots plain Try.func6 (by kernel_rfl) _) (by kernel_rfl) _
   clear hK K_;try walk_nrm
   refine .op rfl (by rfl) hk fun w1 hR K_ hK=>?_;replace hF:=hF.rely hR;clear hR;go_simp;try (unfold stored;go_simp)
   refine hK _ _ ⟨?_,?_⟩
   ·exact listed_ok plain (slots_noSlots plain Try.func6 (by kernel_rfl) _) (by kernel_rfl) _
   clear hK K_;try walk_nrm
   refine .op rfl (by rfl) hk fun w1 hR K_ hK=>?_;replace hF:=hF.rely hR;clear hR;go_simp;try (unfold stored;go_simp)
   refine hK _ _ ⟨?_,?_⟩
   ·exact listed_ok plain (slots_noSlots plain Try.func6 (by kernel_rfl) _) (by kernel_rfl) _
   clear hK K_;try walk_nrm
   refine .op rfl (by rfl) hk fun w1 hR K_ hK=>?_;replace hF:=hF.rely hR;clear hR;go_simp;try (unfold stored;go_simp)
   refine hK _ _ ⟨?_,?_⟩
   ·exact listed_ok plain (slots_noSlots plain Try.func6 (by kernel_rfl) _) (by kernel_rfl) _
   clear hK K_;try walk_nrm
   refine .op rfl (by rfl) hk fun w1 hR K_ hK=>?_;replace hF:=hF.rely hR;clear hR;go_simp;try (unfold stored;go_simp)
   refine hK _ _ ⟨?_,?_⟩
   ·exact listed_ok plain (slots_noSlots plain Try.func6 (by kernel_rfl) _) (by kernel_rfl) _
   clear hK K_;try walk_nrm
   refine .op rfl (by rfl) hk fun w1 hR K_ hK=>?_;replace hF:=hF.rely hR;clear hR;go_simp;try (unfold stored;go_simp)
   refine hK _ _ ⟨?_,?_⟩
   ·exact listed_ok plain (slots_noSlots plain Try.func6 (by kernel_rfl) _) (by kernel_rfl) _
   clear hK K_;try walk_nrm
   refine .op rfl (by rfl) hk fun w1 hR K_ hK=>?_;replace hF:=hF.rely hR;clear hR;have hc:=(hF.cell ⟨G0,3,none⟩).trans g3;go_simp;try (unfold stored;go_simp)
   refine hK _ _ ⟨?_,?_⟩
   ·exact listed_ok plain (slots_noSlots plain Try.func6 (by kernel_rfl) _) (by kernel_rfl) _
   clear hK K_;clear hc;try walk_nrm
   refine .op rfl (by rfl) hk fun w1 hR K_ hK=>?_;replace hF:=hF.rely hR;clear hR;go_simp;try (unfold stored;go_simp)
   refine hK _ _ ⟨?_,?_⟩
   ·exact listed_ok plain (slots_noSlots plain Try.func6 (by kernel_rfl) _) (by kernel_rfl) _
   clear hK K_;try walk_nrm
   refine .op rfl (by rfl) hk fun w1 hR K_ hK=>?_;replace hF:=hF.rely hR;clear hR;go_simp;try (unfold stored;go_simp)
   refine hK _ _ ⟨?_,?_⟩
   ·exact listed_ok plain (slots_noSlots plain Try.func6 (by kernel_rfl) _) (by kernel_rfl) _
   clear hK K_;try walk_nrm
   refine .op rfl (by rfl) hk fun w1 hR K_ hK=>?_;replace hF:=hF.rely hR;clear hR;go_simp;try (unfold stored;go_simp)
   refine hK _ _ ⟨?_,?_⟩
   ·exact listed_ok plain (slots_noSlots plain Try.func6 (by kernel_rfl) _) (by kernel_rfl) _
   clear hK K_;try walk_nrm
   refine .op rfl (by rfl) hk fun w1 hR K_ hK=>?_;replace hF:=hF.rely hR;clear hR;go_simp;try (unfold stored;go_simp)
   refine hK _ _ ⟨?_,?_⟩
   ·exact listed_ok plain (slots_noSlots plain Try.func6 (by kernel_rfl) _) (by kernel_rfl) _
   clear hK K_;try walk_nrm
   refine .op rfl (by rfl) hk fun w1 hR K_ hK=>?_;replace hF:=hF.rely hR;clear hR;go_simp;try (unfold stored;go_simp)
   refine hK _ _ ⟨?_,?_⟩
   ·exact listed_ok plain (slots_noSlots plain Try.func6 (by kernel_rfl) _) (by kernel_rfl) _
   clear hK K_;try walk_nrm
   refine .op rfl (by rfl) hk fun w1 hR K_ hK=>?_;replace hF:=hF.rely hR;clear hR;go_simp;try (unfold stored;go_simp)
   refine hK _ _ ⟨?_,?_⟩
   ·exact listed_ok plain (slots_noSlots plain Try.func6 (by kernel_rfl) _) (by kernel_rfl) _
   clear hK K_;try walk_nrm
   refine .op rfl (by rfl) hk fun w1 hR K_ hK=>?_;replace hF:=hF.rely hR;clear hR;have hc:=(hF.cell ⟨G0,4,none⟩).trans g4;go_simp;try (unfold stored;go_simp)
   refine hK _ _ ⟨?_,?_⟩
   ·exact listed_ok plain (slots_noSlots plain Try.func6 (by kernel_rfl) _) (by kernel_rfl) _
   clear hK K_;clear hc;try walk_nrm
   refine .op rfl (by rfl) hk fun w1 hR K_ hK=>?_;replace hF:=hF.rely hR;clear hR;go_simp;try (unfold stored;go_simp)
   refine hK _ _ ⟨?_,?_⟩
   ·exact listed_ok plain (slots_noSlots plain Try.func6 (by kernel_rfl) _) (by kernel_rfl) _
   clear hK K_;try walk_nrm
   refine .op rfl (by rfl) hk fun w1 hR K_ hK=>?_;replace hF:=hF.rely hR;clear hR;go_simp;try (unfold stored;go_simp)
   refine hK _ _ ⟨?_,?_⟩
   ·exact listed_ok plain (slots_noSlots plain Try.func6 (by kernel_rfl) _) (by kernel_rfl) _
   clear hK K_;try walk_nrm
   refine .op rfl (by rfl) hk fun w1 hR K_ hK=>?_;replace hF:=hF.rely hR;clear hR;go_simp;try (unfold stored;go_simp)
   refine hK _ _ ⟨?_,?_⟩
   ·exact listed_ok plain (slots_noSlots plain Try.func6 (by kernel_rfl) _) (by kernel_rfl) _
   clear hK K_;try walk_nrm
   refine .op rfl (by rfl) hk fun w1 hR K_ hK=>?_;replace hF:=hF.rely hR;clear hR;go_simp;try (unfold stored;go_simp)
   refine hK _ _ ⟨?_,?_⟩
   ·exact listed_ok plain (slots_noSlots plain Try.func6 (by kernel_rfl) _) (by kernel_rfl) _
   clear hK K_;try walk_nrm
   refine .op rfl (by rfl) hk fun w1 hR K_ hK=>?_;replace hF:=hF.rely hR;clear hR;go_simp;try (unfold stored;go_simp)
   refine hK _ _ ⟨?_,?_⟩
   ·exact listed_ok plain (slots_noSlots plain Try.func6 (by kernel_rfl) _) (by kernel_rfl) _
   clear hK K_;try walk_nrm
   refine .op rfl (by rfl) hk fun w1 hR K_ hK=>?_;replace hF:=hF.rely hR;clear hR;go_simp;try (unfold stored;go_simp)
   refine hK _ _ ⟨?_,?_⟩
   ·exact listed_ok plain (slots_noSlots plain Try.func6 (by kernel_rfl) _) (by kernel_rfl) _
   clear hK K_;try walk_nrm
   refine .op rfl (by rfl) hk fun w1 hR K_ hK=>?_;replace hF:=hF.rely hR;clear hR;go_simp;try (unfold stored;go_simp)
   refine hK _ _ ⟨?_,?_⟩
   ·exact listed_ok plain (slots_noSlots plain Try.func6 (by kernel_rfl) _) (by kernel_rfl) _
   clear hK K_;try walk_nrm
   refine .op rfl (by rfl) hk fun w1 hR K_ hK=>?_;replace hF:=hF.rely hR;clear hR;have hc:=(hF.cell ⟨G0,1,none⟩).trans g1;go_simp;try (unfold stored;go_simp)
   refine hK _ _ ⟨?_,?_⟩
   ·exact listed_ok plain (slots_noSlots plain Try.func6 (by kernel_rfl) _) (by kernel_rfl) _
   clear hK K_;clear hc;try walk_nrm
   refine .op rfl (by rfl) hk fun w1 hR K_ hK=>?_;replace hF:=hF.rely hR;clear hR;go_simp;try (unfold stored;go_simp)
   refine hK _ _ ⟨?_,?_⟩
   ·exact listed_ok plain (slots_noSlots plain Try.func6 (by kernel_rfl) _) (by kernel_rfl) _
   clear hK K_;try walk_nrm
   refine .op rfl (by rfl) hk fun w1 hR K_ hK=>?_;replace hF:=hF.rely hR;clear hR;have hc:=(hF.cell ⟨gm,0,none⟩).trans gm0;go_simp;try (unfold stored;go_simp)
   refine hK _ _ ⟨?_,?_⟩
   ·exact listed_ok plain (slots_noSlots plain Try.func6 (by kernel_rfl) _) (by kernel_rfl) _
   clear hK K_;clear hc;try walk_nrm
   refine .op rfl (by rfl) hk fun w1 hR K_ hK=>?_;replace hF:=hF.rely hR;clear hR;go_simp;try (unfold stored;go_simp)
   refine hK _ _ ⟨?_,?_⟩
   ·exact listed_ok plain (slots_noSlots plain Try.func6 (by kernel_rfl) _) (by kernel_rfl) _
   clear hK K_;try walk_nrm
   refine .op rfl (by rfl) hk fun w1 hR K_ hK=>?_;replace hF:=hF.rely hR;clear hR;go_simp;try (unfold stored;go_simp)
   refine hK _ _ ⟨?_,?_⟩
   ·exact listed_ok plain (slots_noSlots plain Try.func6 (by kernel_rfl) _) (by kernel_rfl) _
   clear hK K_;try walk_nrm
   refine .op rfl (by rfl) hk fun w1 hR K_ hK=>?_;replace hF:=hF.rely hR;clear hR;go_simp;try (unfold stored;go_simp)
   refine hK _ _ ⟨?_,?_⟩
   ·exact listed_ok plain (slots_noSlots plain Try.func6 (by kernel_rfl) _) (by kernel_rfl) _
   clear hK K_;try walk_nrm
   refine .op rfl (by rfl) hk fun w1 hR K_ hK=>?_;replace hF:=hF.rely hR;clear hR;go_simp;try (unfold stored;go_simp)
   refine hK _ _ ⟨?_,?_⟩
   ·exact listed_ok plain (slots_noSlots plain Try.func6 (by kernel_rfl) _) (by kernel_rfl) _
   clear hK K_;try walk_nrm
   repeat refine .c1 termsS rfl ?_
   refine GoesW.ret termsS fun todo=>?_;refine .stop rfl fun w6 hR=>?_;obtain ⟨d,rfl⟩:=hF.rely hR;exact hp _ _ _ _ rfl (fun d=>(resultsC_tmp (t:=6) (by rfl) _ _).1) ⟨by first|rfl|simp,hBM.os,hBM.tape,hBM.output,hBM.size,hBM.block⟩
end Go.Proofs.Ytdoghgnifkgfdaa.Mute
