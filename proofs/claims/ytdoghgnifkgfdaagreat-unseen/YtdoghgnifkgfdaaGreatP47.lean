import Derived.Test.YtdoghgnifkgfdaaGreatP46
set_option maxRecDepth 100000
set_option maxHeartbeats 16000000
namespace Go.Proofs.YtdoghgnifkgfdaaGreat.Mute
open Go Go.Conc Go.RowKit
theorem Below.then {n m:Nat} {a b c:World} (h:Below n a b) (k:Below m b c) (hn:n≤m):Below n a c:=
 ⟨k.os.trans h.os,k.tape.trans h.tape,k.output.trans h.output,Nat.le_trans h.size k.size,fun x hx=>(k.block x (by omega)).trans (h.block x hx)⟩
theorem YdM {w:World} {c:Cfg} {v0 v1 v2 v3:Value} (h:CfgR w v0 v1 v2 v3 c) (hw:CfgW c) (hrn:∀i,i<c.nT→c.rowN i=false) (hck:Y8 c 0 0):
  CallsR Tryz.prog 10 #[.agg #[v0,v1,v2,v3]] w (fun v w'=>Below w.heap.size w w'∧∃k N t f,v=.tuple #[.pointer (some ⟨k.kb,0,none⟩),.bool true]∧Of c k N t∧YbS w' k N t (sq0 c) f (fun _=>none) 0 (fun b=>w.heap.size≤b∧b<w'.heap.size)):=by
 refine CallsR.introT (List.toArray ((.agg #[v0,v1,v2,v3])::undef::undef::undef::undef::undef::undef::undef::undef::undef::undef::undef::undef::undef::undef::undef::undef::undef::undef::undef::undef::undef::undef::undef::undef::undef::undef::undef::undef::[])) Tryz.func10 (by rfl) (by kernel_rfl) fun cs Post hp=>?_;have hk:(base 10).kind≠.early:=by simp [base]
 obtain ⟨p0,a0,l0,e0⟩:∃p a l,v0=.slice p a l:=by obtain ⟨p,a,_,e,_⟩:=h.cells;exact ⟨_,_,_,e⟩
 obtain ⟨p1,a1,l1,e1⟩:∃p a l,v1=.slice p a l:=by obtain ⟨p,a,_,e,_⟩:=h.table;exact ⟨_,_,_,e⟩
 obtain ⟨p2,a2,l2,e2⟩:∃p a l,v2=.slice p a l:=by obtain ⟨p,a,e,_⟩:=h.chans;exact ⟨_,_,_,e⟩
 obtain ⟨p3,a3,l3,e3⟩:∃p a l,v3=.slice p a l:=by obtain ⟨p,a,e,_⟩:=h.devs;exact ⟨_,_,_,e⟩
 subst e0 e1 e2 e3;refine Y3.of_goes ?_;have hF:=Is.self w;have hs:w.heap.size=w.heap.size+0:=rfl;have hB:Below w.heap.size w w:=Below.refl _ _;repeat refine .c1 Y2 rfl ?_
 refine .regionL Y2 [0,1,2] (by rfl) ?_;refine .op rfl (by rfl) hk fun w1 hR K_ hK=>?_;replace hF:=hF.rely hR;clear hR;go_simp;try (unfold stored;go_simp)
 refine hK _ _ ⟨?_,?_⟩
 ·exact Yw plain (Yi plain Tryz.func10 (by kernel_rfl) _) (by kernel_rfl) _
 clear hK K_;have hz:w1.heap.size=w.heap.size+0:=hF.size.trans hs;replace hF:Is (w.alloc (.cells #[.slice p0 a0 l0,.slice p1 a1 l1,.slice p2 a2 l2,.slice p3 a3 l3] 28)) (w1.alloc (.cells #[.slice p0 a0 l0,.slice p1 a1 l1,.slice p2 a2 l2,.slice p3 a3 l3] 28)):=hF.alloc _;rw [hz];generalize w1.alloc (.cells #[.slice p0 a0 l0,.slice p1 a1 l1,.slice p2 a2 l2,.slice p3 a3 l3] 28)=w2 at *;clear hz;have r0:=row4 w (.slice p0 a0 l0) (.slice p1 a1 l1) (.slice p2 a2 l2) (.slice p3 a3 l3) 28;rw [hs] at r0;have hs2:(w.alloc (.cells #[.slice p0 a0 l0,.slice p1 a1 l1,.slice p2 a2 l2,.slice p3 a3 l3] 28)).heap.size=w.heap.size+1:=by simp<;>omega
 replace hB:=hB.alloc (by rw [hs];omega) (.cells #[.slice p0 a0 l0,.slice p1 a1 l1,.slice p2 a2 l2,.slice p3 a3 l3] 28);clear hs;generalize w.alloc (.cells #[.slice p0 a0 l0,.slice p1 a1 l1,.slice p2 a2 l2,.slice p3 a3 l3] 28)=W1 at *;have hs:=hs2;clear hs2;try walk_nrm
 rw [Nat.add_zero] at r0;have hcf:CfgR W1 (.slice p0 a0 l0) (.slice p1 a1 l1) (.slice p2 a2 l2) (.slice p3 a3 l3) c:=h.below hB;refine .op rfl (by rfl) hk fun w1 hR K_ hK=>?_;replace hF:=hF.rely hR;clear hR;go_simp;try (unfold stored;go_simp)
 refine hK _ _ ⟨?_,?_⟩
 ·exact Yw plain (Yi plain Tryz.func10 (by kernel_rfl) _) (by kernel_rfl) _
 clear hK K_;try walk_nrm
 refine .op rfl (by rfl) hk fun w1 hR K_ hK=>?_;replace hF:=hF.rely hR;clear hR;go_simp;try (unfold stored;go_simp)
 refine hK _ _ ⟨?_,?_⟩
 ·exact Yw plain (Yi plain Tryz.func10 (by kernel_rfl) _) (by kernel_rfl) _
 clear hK K_;try walk_nrm
 repeat refine .c1 Y2 rfl ?_
 refine .regionL Y2 [0,1] (by rfl) ?_;refine .stop rfl fun w4 hR=>?_;obtain ⟨d4,rfl⟩:=hF.rely hR;clear hF hR;refine Y3.call rfl (by rfl) hk (fun d=>?run1) (fun d=>?evs1) (YfT (W1.at d4)) (fun v wK hv=>?_)
 case run1=>kernel_rfl
 case evs1=>
  rw [listed_nil (by kernel_rfl)];simp
 obtain ⟨rfl,hBK⟩:=hv;refine Y3.of_goes ?_;have hF:=Is.self wK;try walk_nrm
 replace hBK:Below W1.heap.size W1 wK:=⟨hBK.os,hBK.tape,hBK.output,hBK.size,hBK.block⟩;have hcf2:=hcf.below hBK;replace r0:=r0.below hBK (by rw [hs];omega);replace hB:=Below.then hB hBK (by omega);have hs2:w.heap.size≤wK.heap.size:=hB.size;clear hcf hBK hs h;refine .op rfl (by rfl) hk fun w1 hR K_ hK=>?_;replace hF:=hF.rely hR;clear hR;go_simp;try (unfold stored;go_simp)
 refine hK _ _ ⟨?_,?_⟩
 ·exact Yw plain (Yi plain Tryz.func10 (by kernel_rfl) _) (by kernel_rfl) _
 clear hK K_;try walk_nrm
 repeat refine .c1 Y2 rfl ?_
 refine .regionL Y2 [0,1,2,3,4,5,6,7,8] (by rfl) ?_;refine .op rfl (by rfl) hk fun w1 hR K_ hK=>?_;replace hF:=hF.rely hR;clear hR;have q0:World.cell? w1 ⟨w.heap.size,0,none⟩=some (.slice p0 a0 l0):=(hF.cell _).trans (r0.cell (j:=0) (by omega));have q1:World.cell? w1 ⟨w.heap.size,1,none⟩=some (.slice p1 a1 l1):=(hF.cell _).trans (r0.cell (j:=1) (by omega));have q2:World.cell? w1 ⟨w.heap.size,2,none⟩=some (.slice p2 a2 l2):=(hF.cell _).trans (r0.cell (j:=2) (by omega));have q3:World.cell? w1 ⟨w.heap.size,3,none⟩=some (.slice p3 a3 l3):=(hF.cell _).trans (r0.cell (j:=3) (by omega));go_simp;try (unfold stored;go_simp)
 refine hK _ _ ⟨?_,?_⟩
 ·exact Yw plain (Yi plain Tryz.func10 (by kernel_rfl) _) (by kernel_rfl) _
 clear hK K_;clear q0 q1 q2 q3;try walk_nrm
 refine .stop rfl fun w4 hR=>?_;obtain ⟨d4,rfl⟩:=hF.rely hR;clear hF hR;refine Y3.call rfl (by rfl) hk (fun d=>?run2) (fun d=>?evs2) (Ye2 (w:=wK.at d4) (hcf2.keep fun _ _ h=>h) hw hrn hck) (fun v wN hv=>?_)
 case run2=>kernel_rfl
 case evs2=>
  rw [listed_nil (by kernel_rfl)];simp
 obtain ⟨hN,k,N,t,f,rfl,hO,hK⟩:=hv;refine Y3.of_goes ?_;have hF:=Is.self wN;try walk_nrm
 replace hN:Below wK.heap.size wK wN:=⟨hN.os,hN.tape,hN.output,hN.size,hN.block⟩;have hBN:=Below.then hB hN hs2;refine .op rfl (by rfl) hk fun w1 hR K_ hK=>?_;replace hF:=hF.rely hR;clear hR;go_simp;try (unfold stored;go_simp)
 refine hK _ _ ⟨?_,?_⟩
 ·exact Yw plain (Yi plain Tryz.func10 (by kernel_rfl) _) (by kernel_rfl) _
 clear hK K_;try walk_nrm
 refine .op rfl (by rfl) hk fun w1 hR K_ hK=>?_;replace hF:=hF.rely hR;clear hR;go_simp;try (unfold stored;go_simp)
 refine hK _ _ ⟨?_,?_⟩
 ·exact Yw plain (Yi plain Tryz.func10 (by kernel_rfl) _) (by kernel_rfl) _
 clear hK K_;try walk_nrm
 refine .op rfl (by rfl) hk fun w1 hR K_ hK=>?_;replace hF:=hF.rely hR;clear hR;go_simp;try (unfold stored;go_simp)
 refine hK _ _ ⟨?_,?_⟩
 ·exact Yw plain (Yi plain Tryz.func10 (by kernel_rfl) _) (by kernel_rfl) _
 clear hK K_;try walk_nrm
 refine .op rfl (by rfl) hk fun w1 hR K_ hK=>?_;replace hF:=hF.rely hR;clear hR;go_simp;try (unfold stored;go_simp)
 refine hK _ _ ⟨?_,?_⟩
 ·exact Yw plain (Yi plain Tryz.func10 (by kernel_rfl) _) (by kernel_rfl) _
 clear hK K_;try walk_nrm
 refine .op rfl (by rfl) hk fun w1 hR K_ hK=>?_;replace hF:=hF.rely hR;clear hR;go_simp;try (unfold stored;go_simp)
 refine hK _ _ ⟨?_,?_⟩
 ·exact Yw plain (Yi plain Tryz.func10 (by kernel_rfl) _) (by kernel_rfl) _
 clear hK K_;try walk_nrm
 refine .op rfl (by rfl) hk fun w1 hR K_ hK=>?_;replace hF:=hF.rely hR;clear hR;go_simp;try (unfold stored;go_simp)
 refine hK _ _ ⟨?_,?_⟩
 ·exact Yw plain (Yi plain Tryz.func10 (by kernel_rfl) _) (by kernel_rfl) _
 clear hK K_;try walk_nrm
 refine .op rfl (by rfl) hk fun w1 hR K_ hK=>?_;replace hF:=hF.rely hR;clear hR;go_simp;try (unfold stored;go_simp)
 refine hK _ _ ⟨?_,?_⟩
 ·exact Yw plain (Yi plain Tryz.func10 (by kernel_rfl) _) (by kernel_rfl) _
 clear hK K_;try walk_nrm
 repeat refine .c1 Y2 rfl ?_
 refine .regionL Y2 [0,1,2,3,4,5,6,7,8,9,10,11,12,13,14,15] (by rfl) ?_;refine .op rfl (by rfl) hk fun w1 hR K_ hK=>?_;replace hF:=hF.rely hR;clear hR;go_simp;try (unfold stored;go_simp)
 refine hK _ _ ⟨?_,?_⟩
 ·exact Yw plain (Yi plain Tryz.func10 (by kernel_rfl) _) (by kernel_rfl) _
 clear hK K_;try walk_nrm
 refine .op rfl (by rfl) hk fun w1 hR K_ hK=>?_;replace hF:=hF.rely hR;clear hR;go_simp;try (unfold stored;go_simp)
 refine hK _ _ ⟨?_,?_⟩
 ·exact Yw plain (Yi plain Tryz.func10 (by kernel_rfl) _) (by kernel_rfl) _
 clear hK K_;try walk_nrm
 refine .op rfl (by rfl) hk fun w1 hR K_ hK=>?_;replace hF:=hF.rely hR;clear hR;go_simp;try (unfold stored;go_simp)
 refine hK _ _ ⟨?_,?_⟩
 ·exact Yw plain (Yi plain Tryz.func10 (by kernel_rfl) _) (by kernel_rfl) _
 clear hK K_;try walk_nrm
 refine .op rfl (by rfl) hk fun w1 hR K_ hK=>?_;replace hF:=hF.rely hR;clear hR;go_simp;try (unfold stored;go_simp)
 refine hK _ _ ⟨?_,?_⟩
 ·exact Yw plain (Yi plain Tryz.func10 (by kernel_rfl) _) (by kernel_rfl) _
 clear hK K_;try walk_nrm
 refine .op rfl (by rfl) hk fun w1 hR K_ hK=>?_;replace hF:=hF.rely hR;clear hR;go_simp;try (unfold stored;go_simp)
 refine hK _ _ ⟨?_,?_⟩
 ·exact Yw plain (Yi plain Tryz.func10 (by kernel_rfl) _) (by kernel_rfl) _
 clear hK K_;try walk_nrm
 refine .op rfl (by rfl) hk fun w1 hR K_ hK=>?_;replace hF:=hF.rely hR;clear hR;go_simp;try (unfold stored;go_simp)
 refine hK _ _ ⟨?_,?_⟩
 ·exact Yw plain (Yi plain Tryz.func10 (by kernel_rfl) _) (by kernel_rfl) _
 clear hK K_;try walk_nrm
 refine .op rfl (by rfl) hk fun w1 hR K_ hK=>?_;replace hF:=hF.rely hR;clear hR;go_simp;try (unfold stored;go_simp)
 refine hK _ _ ⟨?_,?_⟩
 ·exact Yw plain (Yi plain Tryz.func10 (by kernel_rfl) _) (by kernel_rfl) _
 clear hK K_;try walk_nrm
 refine .op rfl (by rfl) hk fun w1 hR K_ hK=>?_;replace hF:=hF.rely hR;clear hR;go_simp;try (unfold stored;go_simp)
 refine hK _ _ ⟨?_,?_⟩
 ·exact Yw plain (Yi plain Tryz.func10 (by kernel_rfl) _) (by kernel_rfl) _
 clear hK K_;try walk_nrm
 refine .op rfl (by rfl) hk fun w1 hR K_ hK=>?_;replace hF:=hF.rely hR;clear hR;go_simp;try (unfold stored;go_simp)
 refine hK _ _ ⟨?_,?_⟩
 ·exact Yw plain (Yi plain Tryz.func10 (by kernel_rfl) _) (by kernel_rfl) _
 clear hK K_;try walk_nrm
 refine .op rfl (by rfl) hk fun w1 hR K_ hK=>?_;replace hF:=hF.rely hR;clear hR;go_simp;try (unfold stored;go_simp)
 refine hK _ _ ⟨?_,?_⟩
 ·exact Yw plain (Yi plain Tryz.func10 (by kernel_rfl) _) (by kernel_rfl) _
 clear hK K_;try walk_nrm
 refine .op rfl (by rfl) hk fun w1 hR K_ hK=>?_;replace hF:=hF.rely hR;clear hR;go_simp;try (unfold stored;go_simp)
 refine hK _ _ ⟨?_,?_⟩
 ·exact Yw plain (Yi plain Tryz.func10 (by kernel_rfl) _) (by kernel_rfl) _
 clear hK K_;try walk_nrm
 refine .op rfl (by rfl) hk fun w1 hR K_ hK=>?_;replace hF:=hF.rely hR;clear hR;go_simp;try (unfold stored;go_simp)
 refine hK _ _ ⟨?_,?_⟩
 ·exact Yw plain (Yi plain Tryz.func10 (by kernel_rfl) _) (by kernel_rfl) _
 clear hK K_;try walk_nrm
 refine .op rfl (by rfl) hk fun w1 hR K_ hK=>?_;replace hF:=hF.rely hR;clear hR;go_simp;try (unfold stored;go_simp)
 refine hK _ _ ⟨?_,?_⟩
 ·exact Yw plain (Yi plain Tryz.func10 (by kernel_rfl) _) (by kernel_rfl) _
 clear hK K_;try walk_nrm
 refine .op rfl (by rfl) hk fun w1 hR K_ hK=>?_;replace hF:=hF.rely hR;clear hR;go_simp;try (unfold stored;go_simp)
 refine hK _ _ ⟨?_,?_⟩
 ·exact Yw plain (Yi plain Tryz.func10 (by kernel_rfl) _) (by kernel_rfl) _
 clear hK K_;try walk_nrm
 refine .op rfl (by rfl) hk fun w1 hR K_ hK=>?_;replace hF:=hF.rely hR;clear hR;go_simp;try (unfold stored;go_simp)
 refine hK _ _ ⟨?_,?_⟩
 ·exact Yw plain (Yi plain Tryz.func10 (by kernel_rfl) _) (by kernel_rfl) _
 clear hK K_;try walk_nrm
 refine .op rfl (by rfl) hk fun w1 hR K_ hK=>?_;replace hF:=hF.rely hR;clear hR;go_simp;try (unfold stored;go_simp)
 refine hK _ _ ⟨?_,?_⟩
 ·exact Yw plain (Yi plain Tryz.func10 (by kernel_rfl) _) (by kernel_rfl) _
 clear hK K_;try walk_nrm
 repeat refine .c1 Y2 rfl ?_
 refine Y1.ret Y2 fun todo=>?_;refine .stop rfl fun w6 hR=>?_;obtain ⟨d,rfl⟩:=hF.rely hR;exact hp _ _ _ _ rfl (fun d=>(resultsC_tmp2 (t:=2) (u:=3) (by rfl) _ _).1) ⟨⟨hBN.os,hBN.tape,hBN.output,hBN.size,hBN.block⟩,k,N,t,f,rfl,hO,(hK.keep (w':=wN.at d) (fun _ _=>rfl) (Nat.le_refl _)).sub (fun b hb=>⟨Nat.le_trans hs2 hb.1,hb.2⟩) (fun b hb=>hb.2)⟩
def cells5 (a b c d e:Value) (j:Nat):Value:=if j=0 then a else if j=1 then b else if j=2 then c else if j=3 then d else e
theorem row5 (w:World) (a b c d e:Value) (t:Nat):RowF (w.alloc (.cells #[a,b,c,d,e] t)) w.heap.size 5 t (cells5 a b c d e):=
 RowF.new w #[a,b,c,d,e] t _ fun j hj=>by
  have:j=0∨j=1∨j=2∨j=3∨j=4:=by simp at hj;omega
  rcases this with rfl|rfl|rfl|rfl|rfl<;>rfl
theorem YeY {w:World} {g t:Nat} {a b c d e:Value} (h:RowF w g 5 t (cells5 a b c d e)):w.heap[g]?=some (.cells #[a,b,c,d,e] t (0,0)):=by
 obtain ⟨cs,h1,h2,h3⟩:=h;rw [h1];congr 2;apply Array.ext
 ·simp [h2]
 ·intro j hj hj';have hj5:j<5:=by omega
  have:=h3 j hj5;rw [Array.getElem?_eq_getElem hj] at this;rw [Option.some.inj this];have:j=0∨j=1∨j=2∨j=3∨j=4:=by omega
  rcases this with rfl|rfl|rfl|rfl|rfl<;>rfl
theorem Yd6 {W:World} {g t:Nat} {a b c d e a' b' c' d' e':Value} (h:RowF W g 5 t (cells5 a b c d e)):
  RowF (((((W.setCell ⟨g,0,none⟩ a').setCell ⟨g,1,none⟩ b').setCell ⟨g,2,none⟩ c').setCell ⟨g,3,none⟩ d').setCell ⟨g,4,none⟩ e') g 5 t (cells5 a' b' c' d' e')∧(∀x,x≠g→(((((W.setCell ⟨g,0,none⟩ a').setCell ⟨g,1,none⟩ b').setCell ⟨g,2,none⟩ c').setCell ⟨g,3,none⟩ d').setCell ⟨g,4,none⟩ e').heap[x]?=W.heap[x]?)∧(((((W.setCell ⟨g,0,none⟩ a').setCell ⟨g,1,none⟩ b').setCell ⟨g,2,none⟩ c').setCell ⟨g,3,none⟩ d').setCell ⟨g,4,none⟩ e').heap.size=W.heap.size:=by
 refine ⟨(((((h.set 0 a').set 1 b').set 2 c').set 3 d').set 4 e').congr fun j hj=>?_,fun x hx=>?_,?_⟩
 ·have:j=0∨j=1∨j=2∨j=3∨j=4:=by omega
  rcases this with rfl|rfl|rfl|rfl|rfl<;>rfl
 ·rw [heap_setCell_other _ _ _ _ hx,heap_setCell_other _ _ _ _ hx,heap_setCell_other _ _ _ _ hx,heap_setCell_other _ _ _ _ hx,heap_setCell_other _ _ _ _ hx]
 ·rw [size_setCell,size_setCell,size_setCell,size_setCell,size_setCell]
theorem XD {w w':World} {b e s n:Nat} {v:Value} {xs:List Value} (h:w.ownsRow b e s v n xs) (hb:∀g,v.ownBlock=some g→w'.heap[g]?=w.heap[g]?):w'.ownsRow b e s v n xs:=by
 rcases h with ⟨hl,hv|⟨g,cap,cur,rfl,hg,hh,h1⟩⟩
 ·exact ⟨hl,.inl hv⟩
 ·exact ⟨hl,.inr ⟨g,cap,cur,rfl,hg,(hb g rfl).trans hh,h1⟩⟩
theorem YcH {w:World} {b e s n G m t:Nat} {v:Value} {xs:List Value} {f:Nat→Value} (h:w.ownsRow b e s v n xs) (hr:RowF w G m t f) (ht:e≠t) (g:Nat) (hg:v.ownBlock=some g):g≠G:=by
 obtain ⟨cs,h1⟩:=Zy h hg;obtain ⟨cs',h2,_⟩:=hr;exact Jb h1 h2 ht
theorem YgS:(Tryz.prog.info? 65).map (·.size)=some 5:=by kernel_rfl
theorem YgZ {w:World} {k:Ker} {K:NetK} {t:Tab} {s:KSq} {f:Nat→Value} {lr:Nat→Option Row} {r:Nat} {S:Nat→Prop} {cell:Nat} (hK:YbS w k K t s f lr r S) (hc:cell<k.nC) {tz:Nat→Int} (hx:s.xs cell=((List.range (s.m cell*3)).map fun j=>.int .i64 (tz j))) (hm:s.m cell≤1000000000):
  CallsR Tryz.prog 16 #[.pointer (some ⟨k.kb,0,none⟩),.int .i64 cell] w (fun v w'=>Below w.heap.size w w'∧∃u p cap,v=.tuple #[.agg #[u,.slice p 16 cap,.int .i64 (s.z cell 46),.int .i64 (s.z cell 47),.bool (decide (s.z cell 3<s.z cell 47))],.bool true]∧w'.ownsRow w.heap.size 111 3 u (s.m cell) ((List.range (s.m cell*3)).map fun j=>.int .i64 (tz j))∧w'.ownsRow w.heap.size 2 1 (.slice p 16 cap) 16 ((List.range 16).map fun j=>.int .i64 (s.z cell (29+j)))):=by
 refine CallsR.introT (List.toArray ((.pointer (some ⟨k.kb,0,none⟩))::(.int .i64 cell)::undef::undef::undef::undef::undef::undef::undef::undef::undef::undef::undef::undef::undef::undef::undef::undef::undef::undef::undef::undef::undef::undef::undef::undef::undef::undef::undef::undef::undef::undef::undef::undef::undef::undef::undef::undef::undef::undef::undef::undef::undef::undef::undef::undef::undef::undef::undef::[])) Tryz.func16 (by rfl) (by kernel_rfl) fun cs Post hp=>?_;have hk:(base 16).kind≠.early:=by simp [base]
 refine Y3.of_goes ?_;have hF:=Is.self w;have hs:w.heap.size=w.heap.size+0:=rfl;have hB:Below w.heap.size w w:=Below.refl _ _;repeat refine .c1 Y2 rfl ?_
 refine .regionL Y2 [0,1] (by rfl) ?_;refine .op rfl (by rfl) hk fun w1 hR K_ hK=>?_;replace hF:=hF.rely hR;clear hR;go_simp;try (unfold stored;go_simp)
 refine hK _ _ ⟨?_,?_⟩
 ·exact Yw plain (Yi plain Tryz.func16 (by kernel_rfl) _) (by kernel_rfl) _
 clear hK K_;have hz:w1.heap.size=w.heap.size+0:=hF.size.trans hs;replace hF:Is (w.alloc (.cells #[.slice none 0 0,.slice none 0 0,.int .i64 0,.int .i64 0,.bool false] 65)) (w1.alloc (.cells #[.slice none 0 0,.slice none 0 0,.int .i64 0,.int .i64 0,.bool false] 65)):=hF.alloc _;rw [hz];generalize w1.alloc (.cells #[.slice none 0 0,.slice none 0 0,.int .i64 0,.int .i64 0,.bool false] 65)=w2 at *;clear hz;have r0:=row5 w (.slice none 0 0) (.slice none 0 0) (.int .i64 0) (.int .i64 0) (.bool false) 65;rw [hs] at r0;have hs2:(w.alloc (.cells #[.slice none 0 0,.slice none 0 0,.int .i64 0,.int .i64 0,.bool false] 65)).heap.size=w.heap.size+1:=by simp<;>omega
 replace hB:=hB.alloc (by rw [hs];omega) (.cells #[.slice none 0 0,.slice none 0 0,.int .i64 0,.int .i64 0,.bool false] 65);clear hs;generalize w.alloc (.cells #[.slice none 0 0,.slice none 0 0,.int .i64 0,.int .i64 0,.bool false] 65)=W1 at *;have hs:=hs2;clear hs2;try walk_nrm
 rw [Nat.add_zero] at r0;refine .op rfl (by rfl) hk fun w1 hR K_ hK=>?_;replace hF:=hF.rely hR;clear hR;go_simp;try (unfold stored;go_simp)
 refine hK _ _ ⟨?_,?_⟩
 ·exact Yw plain (Yi plain Tryz.func16 (by kernel_rfl) _) (by kernel_rfl) _
 clear hK K_;try walk_nrm
 repeat refine .c1 Y2 rfl ?_
 refine .regionL Y2 [0,1,2,3,4,5,6,7] (by rfl) ?_;refine .op rfl (by rfl) hk fun w1 hR K_ hK=>?_;replace hF:=hF.rely hR;clear hR;go_simp;try (unfold stored;go_simp)
 refine hK _ _ ⟨?_,?_⟩
 ·exact Yw plain (Yi plain Tryz.func16 (by kernel_rfl) _) (by kernel_rfl) _
 clear hK K_;try walk_nrm
 refine .op rfl (by rfl) hk fun w1 hR K_ hK=>?_;replace hF:=hF.rely hR;clear hR;go_simp;try (unfold stored;go_simp)
 refine hK _ _ ⟨?_,?_⟩
 ·exact Yw plain (Yi plain Tryz.func16 (by kernel_rfl) _) (by kernel_rfl) _
 clear hK K_;try walk_nrm
 have hK1:=hK.keep (w':=W1) (fun b hb=>hB.block b (hK.sz b hb)) hB.size;refine .stop rfl fun w4 hR=>?_;obtain ⟨d4,rfl⟩:=hF.rely hR;clear hF hR;refine Y3.call rfl (by rfl) hk (fun d=>?run1) (fun d=>?evs1) ((hK1.keep (w':=W1.at d4) (fun _ _=>rfl) (Nat.le_refl _)).trace hc hx hm) (fun v wA hv=>?_)
 case run1=>kernel_rfl
 case evs1=>
  rw [listed_nil (by kernel_rfl)];simp
 obtain ⟨hA,u,rfl,hu⟩:=hv;refine Y3.of_goes ?_;have hF:=Is.self wA;try walk_nrm
 replace hA:Below W1.heap.size W1 wA:=⟨hA.os,hA.tape,hA.output,hA.size,hA.block⟩;replace r0:=r0.below hA (by rw [hs];omega);replace hB:=Below.then hB hA (by omega);replace hK1:=hK1.keep (w':=wA) (fun b hb=>hA.block b (hK1.sz b hb)) hA.size;replace hu:wA.ownsRow w.heap.size 111 3 u (s.m cell) ((List.range (s.m cell*3)).map fun j=>.int .i64 (tz j)):=Y1S hu (by show w.heap.size≤W1.heap.size;omega);have hsA:w.heap.size+1≤wA.heap.size:=by have:=hA.size;omega
 clear hA hs;obtain ⟨pu,cu,eu⟩:=JK hu;subst eu;refine .op rfl (by rfl) hk fun w1 hR K_ hK=>?_;replace hF:=hF.rely hR;clear hR;go_simp;try (unfold stored;go_simp)
 refine hK _ _ ⟨?_,?_⟩
 ·exact Yw plain (Yi plain Tryz.func16 (by kernel_rfl) _) (by kernel_rfl) _
 clear hK K_;try walk_nrm
 refine .op rfl (by rfl) hk fun w1 hR K_ hK=>?_;replace hF:=hF.rely hR;clear hR;go_simp;try (unfold stored;go_simp)
 refine hK _ _ ⟨?_,?_⟩
 ·exact Yw plain (Yi plain Tryz.func16 (by kernel_rfl) _) (by kernel_rfl) _
 clear hK K_;try walk_nrm
 refine .op rfl (by rfl) hk fun w1 hR K_ hK=>?_;replace hF:=hF.rely hR;clear hR;go_simp;try (unfold stored;go_simp)
 refine hK _ _ ⟨?_,?_⟩
 ·exact Yw plain (Yi plain Tryz.func16 (by kernel_rfl) _) (by kernel_rfl) _
 clear hK K_;try walk_nrm
 refine .op rfl (by rfl) hk fun w1 hR K_ hK=>?_;replace hF:=hF.rely hR;clear hR;go_simp;try (unfold stored;go_simp)
 refine hK _ _ ⟨?_,?_⟩
 ·exact Yw plain (Yi plain Tryz.func16 (by kernel_rfl) _) (by kernel_rfl) _
 clear hK K_;try walk_nrm
 refine .op rfl (by rfl) hk fun w1 hR K_ hK=>?_;replace hF:=hF.rely hR;clear hR;go_simp;try (unfold stored;go_simp)
 refine hK _ _ ⟨?_,?_⟩
 ·exact Yw plain (Yi plain Tryz.func16 (by kernel_rfl) _) (by kernel_rfl) _
 clear hK K_;try walk_nrm
 repeat refine .c1 Y2 rfl ?_
 refine .regionL Y2 [0,1,2,3,4,5,6,7] (by rfl) ?_;refine .op rfl (by rfl) hk fun w1 hR K_ hK=>?_;replace hF:=hF.rely hR;clear hR;go_simp;try (unfold stored;go_simp)
 refine hK _ _ ⟨?_,?_⟩
 ·exact Yw plain (Yi plain Tryz.func16 (by kernel_rfl) _) (by kernel_rfl) _
 clear hK K_;try walk_nrm
 refine .op rfl (by rfl) hk fun w1 hR K_ hK=>?_;replace hF:=hF.rely hR;clear hR;go_simp;try (unfold stored;go_simp)
 refine hK _ _ ⟨?_,?_⟩
 ·exact Yw plain (Yi plain Tryz.func16 (by kernel_rfl) _) (by kernel_rfl) _
 clear hK K_;try walk_nrm
 refine .stop rfl fun w4 hR=>?_;obtain ⟨d4,rfl⟩:=hF.rely hR;clear hF hR;refine Y3.call rfl (by rfl) hk (fun d=>?run2) (fun d=>?evs2) ((hK1.keep (w':=wA.at d4) (fun _ _=>rfl) (Nat.le_refl _)).memory hc) (fun v wB hv=>?_)
 case run2=>kernel_rfl
 case evs2=>
  rw [listed_nil (by kernel_rfl)];simp
 obtain ⟨hA,m,rfl,hm2⟩:=hv;refine Y3.of_goes ?_;have hF:=Is.self wB;try walk_nrm
 replace hA:Below wA.heap.size wA wB:=⟨hA.os,hA.tape,hA.output,hA.size,hA.block⟩;replace r0:=r0.below hA (by omega);replace hB:=Below.then hB hA (by omega);replace hK1:=hK1.keep (w':=wB) (fun b hb=>hA.block b (hK1.sz b hb)) hA.size;replace hu:=own_below hu hA;replace hm2:wB.ownsRow w.heap.size 2 1 m 16 ((List.range 16).map fun j=>.int .i64 (s.z cell (29+j))):=Y1S hm2 (by show w.heap.size≤wA.heap.size;omega);have hsB:w.heap.size+1≤wB.heap.size:=by have:=hA.size;omega
 clear hA hsA;obtain ⟨pm,cm,em⟩:=JK hm2;subst em;refine .op rfl (by rfl) hk fun w1 hR K_ hK=>?_;replace hF:=hF.rely hR;clear hR;go_simp;try (unfold stored;go_simp)
 refine hK _ _ ⟨?_,?_⟩
 ·exact Yw plain (Yi plain Tryz.func16 (by kernel_rfl) _) (by kernel_rfl) _
 clear hK K_;try walk_nrm
 refine .op rfl (by rfl) hk fun w1 hR K_ hK=>?_;replace hF:=hF.rely hR;clear hR;go_simp;try (unfold stored;go_simp)
 refine hK _ _ ⟨?_,?_⟩
 ·exact Yw plain (Yi plain Tryz.func16 (by kernel_rfl) _) (by kernel_rfl) _
 clear hK K_;try walk_nrm
 refine .op rfl (by rfl) hk fun w1 hR K_ hK=>?_;replace hF:=hF.rely hR;clear hR;go_simp;try (unfold stored;go_simp)
 refine hK _ _ ⟨?_,?_⟩
 ·exact Yw plain (Yi plain Tryz.func16 (by kernel_rfl) _) (by kernel_rfl) _
 clear hK K_;try walk_nrm
 refine .op rfl (by rfl) hk fun w1 hR K_ hK=>?_;replace hF:=hF.rely hR;clear hR;go_simp;try (unfold stored;go_simp)
 refine hK _ _ ⟨?_,?_⟩
 ·exact Yw plain (Yi plain Tryz.func16 (by kernel_rfl) _) (by kernel_rfl) _
 clear hK K_;try walk_nrm
 refine .op rfl (by rfl) hk fun w1 hR K_ hK=>?_;replace hF:=hF.rely hR;clear hR;go_simp;try (unfold stored;go_simp)
 refine hK _ _ ⟨?_,?_⟩
 ·exact Yw plain (Yi plain Tryz.func16 (by kernel_rfl) _) (by kernel_rfl) _
 clear hK K_;try walk_nrm
 repeat refine .c1 Y2 rfl ?_
 refine .regionL Y2 [0,1,2,3,4,5,6,7,8] (by rfl) ?_;refine .op rfl (by rfl) hk fun w1 hR K_ hK=>?_;replace hF:=hF.rely hR;clear hR;go_simp;try (unfold stored;go_simp)
 refine hK _ _ ⟨?_,?_⟩
 ·exact Yw plain (Yi plain Tryz.func16 (by kernel_rfl) _) (by kernel_rfl) _
 clear hK K_;try walk_nrm
 refine .op rfl (by rfl) hk fun w1 hR K_ hK=>?_;replace hF:=hF.rely hR;clear hR;go_simp;try (unfold stored;go_simp)
 refine hK _ _ ⟨?_,?_⟩
 ·exact Yw plain (Yi plain Tryz.func16 (by kernel_rfl) _) (by kernel_rfl) _
 clear hK K_;try walk_nrm
 refine .stop rfl fun w4 hR=>?_;obtain ⟨d4,rfl⟩:=hF.rely hR;clear hF hR;refine Y3.call rfl (by rfl) hk (fun d=>?run3) (fun d=>?evs3) ((hK1.keep (w':=wB.at d4) (fun _ _=>rfl) (Nat.le_refl _)).stats hc) (fun v wC hv=>?_)
 case run3=>kernel_rfl
 case evs3=>
  rw [listed_nil (by kernel_rfl)];simp
 obtain ⟨hA,rfl⟩:=hv;refine Y3.of_goes ?_;have hF:=Is.self wC;try walk_nrm
 replace hA:Below wB.heap.size wB wC:=⟨hA.os,hA.tape,hA.output,hA.size,hA.block⟩;replace r0:=r0.below hA (by omega);replace hB:=Below.then hB hA (by omega);replace hu:=own_below hu hA;replace hm2:=own_below hm2 hA;have hsC:w.heap.size+1≤wC.heap.size:=by have:=hA.size;omega
 clear hA hsB hK1;refine .op rfl (by rfl) hk fun w1 hR K_ hK=>?_;replace hF:=hF.rely hR;clear hR;go_simp;try (unfold stored;go_simp)
 refine hK _ _ ⟨?_,?_⟩
 ·exact Yw plain (Yi plain Tryz.func16 (by kernel_rfl) _) (by kernel_rfl) _
 clear hK K_;try walk_nrm
 refine .op rfl (by rfl) hk fun w1 hR K_ hK=>?_;replace hF:=hF.rely hR;clear hR;go_simp;try (unfold stored;go_simp)
 refine hK _ _ ⟨?_,?_⟩
 ·exact Yw plain (Yi plain Tryz.func16 (by kernel_rfl) _) (by kernel_rfl) _
 clear hK K_;try walk_nrm
 refine .op rfl (by rfl) hk fun w1 hR K_ hK=>?_;replace hF:=hF.rely hR;clear hR;go_simp;try (unfold stored;go_simp)
 refine hK _ _ ⟨?_,?_⟩
 ·exact Yw plain (Yi plain Tryz.func16 (by kernel_rfl) _) (by kernel_rfl) _
 clear hK K_;try walk_nrm
 refine .op rfl (by rfl) hk fun w1 hR K_ hK=>?_;replace hF:=hF.rely hR;clear hR;go_simp;try (unfold stored;go_simp)
 refine hK _ _ ⟨?_,?_⟩
 ·exact Yw plain (Yi plain Tryz.func16 (by kernel_rfl) _) (by kernel_rfl) _
 clear hK K_;have hz:=hF.size;replace hF:Is (wC.alloc (.cells #[.int .i64 0,.int .i64 0,.bool false] 63)) (w1.alloc (.cells #[.int .i64 0,.int .i64 0,.bool false] 63)):=hF.alloc _;rw [hz];generalize w1.alloc (.cells #[.int .i64 0,.int .i64 0,.bool false] 63)=w2 at *;clear hz;have rs:RowF (wC.alloc (.cells #[.int .i64 0,.int .i64 0,.bool false] 63)) wC.heap.size 3 63 (cells3 (.int .i64 0) (.int .i64 0) (.bool false)):=row3 wC _ _ _ _;have hA:Below wC.heap.size wC (wC.alloc (.cells #[.int .i64 0,.int .i64 0,.bool false] 63)):=(Below.refl _ _).alloc (Nat.le_refl _) _;replace r0:=r0.below hA (by omega);replace hB:=Below.then hB hA (by omega);replace hu:=own_below hu hA;replace hm2:=own_below hm2 hA;clear hA;generalize wC.alloc (.cells #[.int .i64 0,.int .i64 0,.bool false] 63)=wD at *;generalize hG:wC.heap.size=G at *;clear hG;try walk_nrm
 refine .op rfl (by rfl) hk fun w1 hR K_ hK=>?_;replace hF:=hF.rely hR;clear hR;have q0:World.cell? w1 ⟨G,0,none⟩=some (.int .i64 0):=(hF.cell _).trans (rs.cell (j:=0) (by omega));have q1:World.cell? w1 ⟨G,1,none⟩=some (.int .i64 0):=(hF.cell _).trans (rs.cell (j:=1) (by omega));have q2:World.cell? w1 ⟨G,2,none⟩=some (.bool false):=(hF.cell _).trans (rs.cell (j:=2) (by omega));have f0:World.frozen? w1 ⟨G,0,none⟩=false:=(hF.frozen _).trans (rs.frozen 0);have f1:World.frozen? w1 ⟨G,1,none⟩=false:=(hF.frozen _).trans (rs.frozen 1);have f2:World.frozen? w1 ⟨G,2,none⟩=false:=(hF.frozen _).trans (rs.frozen 2);go_simp;try (unfold stored;go_simp)
 refine hK _ _ ⟨?_,?_⟩
 ·exact Yw plain (Yi plain Tryz.func16 (by kernel_rfl) _) (by kernel_rfl) _
 clear hK K_;clear q0 q1 q2 f0 f1 f2;replace hF:Is (((wD.setCell ⟨G,0,none⟩ (.int .i64 (s.z cell 46))).setCell ⟨G,1,none⟩ (.int .i64 (s.z cell 47))).setCell ⟨G,2,none⟩ (.bool (decide (s.z cell 3<s.z cell 47)))) (((w1.setCell ⟨G,0,none⟩ (.int .i64 (s.z cell 46))).setCell ⟨G,1,none⟩ (.int .i64 (s.z cell 47))).setCell ⟨G,2,none⟩ (.bool (decide (s.z cell 3<s.z cell 47)))):=((hF.set _ _).set _ _).set _ _;generalize (((w1.setCell ⟨G,0,none⟩ (.int .i64 (s.z cell 46))).setCell ⟨G,1,none⟩ (.int .i64 (s.z cell 47))).setCell ⟨G,2,none⟩ (.bool (decide (s.z cell 3<s.z cell 47))))=w2 at *;have rs2:RowF (((wD.setCell ⟨G,0,none⟩ (.int .i64 (s.z cell 46))).setCell ⟨G,1,none⟩ (.int .i64 (s.z cell 47))).setCell ⟨G,2,none⟩ (.bool (decide (s.z cell 3<s.z cell 47)))) G 3 63 (cells3 (.int .i64 (s.z cell 46)) (.int .i64 (s.z cell 47)) (.bool (decide (s.z cell 3<s.z cell 47)))):=(((rs.set 0 _).set 1 _).set 2 _).congr fun j hj=>by
  have:j=0∨j=1∨j=2:=by omega
  rcases this with rfl|rfl|rfl<;>rfl
 have hA:∀x,x≠G→(((wD.setCell ⟨G,0,none⟩ (.int .i64 (s.z cell 46))).setCell ⟨G,1,none⟩ (.int .i64 (s.z cell 47))).setCell ⟨G,2,none⟩ (.bool (decide (s.z cell 3<s.z cell 47)))).heap[x]?=wD.heap[x]?:=fun x hx=>by rw [heap_setCell_other _ _ _ _ hx,heap_setCell_other _ _ _ _ hx,heap_setCell_other _ _ _ _ hx]
 have hsz:(((wD.setCell ⟨G,0,none⟩ (.int .i64 (s.z cell 46))).setCell ⟨G,1,none⟩ (.int .i64 (s.z cell 47))).setCell ⟨G,2,none⟩ (.bool (decide (s.z cell 3<s.z cell 47)))).heap.size=wD.heap.size:=by rw [size_setCell,size_setCell,size_setCell]
 replace r0:=r0.of_heap (hA _ (by omega));replace hu:=XD hu fun g hg=>hA g (YcH hu rs (by decide) g hg);replace hm2:=XD hm2 fun g hg=>hA g (YcH hm2 rs (by decide) g hg);replace hB:Below w.heap.size w (((wD.setCell ⟨G,0,none⟩ (.int .i64 (s.z cell 46))).setCell ⟨G,1,none⟩ (.int .i64 (s.z cell 47))).setCell ⟨G,2,none⟩ (.bool (decide (s.z cell 3<s.z cell 47)))):=⟨hB.os,hB.tape,hB.output,by rw [hsz];exact hB.size,fun b hb=>(hA b (by omega)).trans (hB.block b hb)⟩;clear rs hA hsz;generalize (((wD.setCell ⟨G,0,none⟩ (.int .i64 (s.z cell 46))).setCell ⟨G,1,none⟩ (.int .i64 (s.z cell 47))).setCell ⟨G,2,none⟩ (.bool (decide (s.z cell 3<s.z cell 47))))=wE at *;try walk_nrm
 refine .op rfl (by rfl) hk fun w1 hR K_ hK=>?_;replace hF:=hF.rely hR;clear hR;go_simp;try (unfold stored;go_simp)
 refine hK _ _ ⟨?_,?_⟩
 ·exact Yw plain (Yi plain Tryz.func16 (by kernel_rfl) _) (by kernel_rfl) _
 clear hK K_;try walk_nrm
 repeat refine .c1 Y2 rfl ?_
 refine .regionL Y2 [0,1,2,3,4,5,6,7,8,9,10,11,12,13,14,15,16,17,18,19,20] (by rfl) ?_;refine .op rfl (by rfl) hk fun w1 hR K_ hK=>?_;replace hF:=hF.rely hR;clear hR;go_simp;try (unfold stored;go_simp)
 refine hK _ _ ⟨?_,?_⟩
 ·exact Yw plain (Yi plain Tryz.func16 (by kernel_rfl) _) (by kernel_rfl) _
 clear hK K_;try walk_nrm
 refine .op rfl (by rfl) hk fun w1 hR K_ hK=>?_;replace hF:=hF.rely hR;clear hR;go_simp;try (unfold stored;go_simp)
 refine hK _ _ ⟨?_,?_⟩
 ·exact Yw plain (Yi plain Tryz.func16 (by kernel_rfl) _) (by kernel_rfl) _
 clear hK K_;try walk_nrm
 refine .op rfl (by rfl) hk fun w1 hR K_ hK=>?_;replace hF:=hF.rely hR;clear hR;have q0:World.cell? w1 ⟨G,0,none⟩=some (.int .i64 (s.z cell 46)):=(hF.cell _).trans (rs2.cell (j:=0) (by omega));have q1:World.cell? w1 ⟨G,1,none⟩=some (.int .i64 (s.z cell 47)):=(hF.cell _).trans (rs2.cell (j:=1) (by omega));have q2:World.cell? w1 ⟨G,2,none⟩=some (.bool (decide (s.z cell 3<s.z cell 47))):=(hF.cell _).trans (rs2.cell (j:=2) (by omega));go_simp;try (unfold stored;go_simp)
 refine hK _ _ ⟨?_,?_⟩
 ·exact Yw plain (Yi plain Tryz.func16 (by kernel_rfl) _) (by kernel_rfl) _
 clear hK K_;clear q0 q1 q2;try walk_nrm
 refine .op rfl (by rfl) hk fun w1 hR K_ hK=>?_;replace hF:=hF.rely hR;clear hR;go_simp;try (unfold stored;go_simp)
 refine hK _ _ ⟨?_,?_⟩
 ·exact Yw plain (Yi plain Tryz.func16 (by kernel_rfl) _) (by kernel_rfl) _
 clear hK K_;try walk_nrm
 refine .op rfl (by rfl) hk fun w1 hR K_ hK=>?_;replace hF:=hF.rely hR;clear hR;go_simp;try (unfold stored;go_simp)
 refine hK _ _ ⟨?_,?_⟩
 ·exact Yw plain (Yi plain Tryz.func16 (by kernel_rfl) _) (by kernel_rfl) _
 clear hK K_;try walk_nrm
 refine .op rfl (by rfl) hk fun w1 hR K_ hK=>?_;replace hF:=hF.rely hR;clear hR;go_simp;try (unfold stored;go_simp)
 refine hK _ _ ⟨?_,?_⟩
 ·exact Yw plain (Yi plain Tryz.func16 (by kernel_rfl) _) (by kernel_rfl) _
 clear hK K_;try walk_nrm
 refine .op rfl (by rfl) hk fun w1 hR K_ hK=>?_;replace hF:=hF.rely hR;clear hR;go_simp;try (unfold stored;go_simp)
 refine hK _ _ ⟨?_,?_⟩
 ·exact Yw plain (Yi plain Tryz.func16 (by kernel_rfl) _) (by kernel_rfl) _
 clear hK K_;try walk_nrm
 refine .op rfl (by rfl) hk fun w1 hR K_ hK=>?_;replace hF:=hF.rely hR;clear hR;go_simp;try (unfold stored;go_simp)
 refine hK _ _ ⟨?_,?_⟩
 ·exact Yw plain (Yi plain Tryz.func16 (by kernel_rfl) _) (by kernel_rfl) _
 clear hK K_;try walk_nrm
 refine .op rfl (by rfl) hk fun w1 hR K_ hK=>?_;replace hF:=hF.rely hR;clear hR;go_simp;try (unfold stored;go_simp)
 refine hK _ _ ⟨?_,?_⟩
 ·exact Yw plain (Yi plain Tryz.func16 (by kernel_rfl) _) (by kernel_rfl) _
 clear hK K_;try walk_nrm
 refine .op rfl (by rfl) hk fun w1 hR K_ hK=>?_;replace hF:=hF.rely hR;clear hR;go_simp;try (unfold stored;go_simp)
 refine hK _ _ ⟨?_,?_⟩
 ·exact Yw plain (Yi plain Tryz.func16 (by kernel_rfl) _) (by kernel_rfl) _
 clear hK K_;try walk_nrm
 refine .op rfl (by rfl) hk fun w1 hR K_ hK=>?_;replace hF:=hF.rely hR;clear hR;go_simp;try (unfold stored;go_simp)
 refine hK _ _ ⟨?_,?_⟩
 ·exact Yw plain (Yi plain Tryz.func16 (by kernel_rfl) _) (by kernel_rfl) _
 clear hK K_;try walk_nrm
 refine .op rfl (by rfl) hk fun w1 hR K_ hK=>?_;replace hF:=hF.rely hR;clear hR;go_simp;try (unfold stored;go_simp)
 refine hK _ _ ⟨?_,?_⟩
 ·exact Yw plain (Yi plain Tryz.func16 (by kernel_rfl) _) (by kernel_rfl) _
 clear hK K_;try walk_nrm
 refine .op rfl (by rfl) hk fun w1 hR K_ hK=>?_;replace hF:=hF.rely hR;clear hR;go_simp;try (unfold stored;go_simp)
 refine hK _ _ ⟨?_,?_⟩
 ·exact Yw plain (Yi plain Tryz.func16 (by kernel_rfl) _) (by kernel_rfl) _
 clear hK K_;try walk_nrm
 refine .op rfl (by rfl) hk fun w1 hR K_ hK=>?_;replace hF:=hF.rely hR;clear hR;go_simp;try (unfold stored;go_simp)
 refine hK _ _ ⟨?_,?_⟩
 ·exact Yw plain (Yi plain Tryz.func16 (by kernel_rfl) _) (by kernel_rfl) _
 clear hK K_;try walk_nrm
 refine .op rfl (by rfl) hk fun w1 hR K_ hK=>?_;replace hF:=hF.rely hR;clear hR;go_simp;try (unfold stored;go_simp)
 refine hK _ _ ⟨?_,?_⟩
 ·exact Yw plain (Yi plain Tryz.func16 (by kernel_rfl) _) (by kernel_rfl) _
 clear hK K_;try walk_nrm
 refine .op rfl (by rfl) hk fun w1 hR K_ hK=>?_;replace hF:=hF.rely hR;clear hR;go_simp;try (unfold stored;go_simp)
 refine hK _ _ ⟨?_,?_⟩
 ·exact Yw plain (Yi plain Tryz.func16 (by kernel_rfl) _) (by kernel_rfl) _
 clear hK K_;try walk_nrm
 refine .op rfl (by rfl) hk fun w1 hR K_ hK=>?_;replace hF:=hF.rely hR;clear hR;go_simp;try (unfold stored;go_simp)
 refine hK _ _ ⟨?_,?_⟩
 ·exact Yw plain (Yi plain Tryz.func16 (by kernel_rfl) _) (by kernel_rfl) _
 clear hK K_;try walk_nrm
 refine .op rfl (by rfl) hk fun w1 hR K_ hK=>?_;replace hF:=hF.rely hR;clear hR;go_simp;try (unfold stored;go_simp)
 refine hK _ _ ⟨?_,?_⟩
 ·exact Yw plain (Yi plain Tryz.func16 (by kernel_rfl) _) (by kernel_rfl) _
 clear hK K_;try walk_nrm
 refine .op rfl (by rfl) hk fun w1 hR K_ hK=>?_;replace hF:=hF.rely hR;clear hR;go_simp;try (unfold stored;go_simp)
 refine hK _ _ ⟨?_,?_⟩
 ·exact Yw plain (Yi plain Tryz.func16 (by kernel_rfl) _) (by kernel_rfl) _
 clear hK K_;try walk_nrm
 refine .op rfl (by rfl) hk fun w1 hR K_ hK=>?_;replace hF:=hF.rely hR;clear hR;have q0:World.cell? w1 ⟨w.heap.size,0,none⟩=some (.slice none 0 0):=(hF.cell _).trans (r0.cell (j:=0) (by omega));have q1:World.cell? w1 ⟨w.heap.size,1,none⟩=some (.slice none 0 0):=(hF.cell _).trans (r0.cell (j:=1) (by omega));have q2:World.cell? w1 ⟨w.heap.size,2,none⟩=some (.int .i64 0):=(hF.cell _).trans (r0.cell (j:=2) (by omega));have q3:World.cell? w1 ⟨w.heap.size,3,none⟩=some (.int .i64 0):=(hF.cell _).trans (r0.cell (j:=3) (by omega));have q4:World.cell? w1 ⟨w.heap.size,4,none⟩=some (.bool false):=(hF.cell _).trans (r0.cell (j:=4) (by omega));have f0:World.frozen? w1 ⟨w.heap.size,0,none⟩=false:=(hF.frozen _).trans (r0.frozen 0);have f1:World.frozen? w1 ⟨w.heap.size,1,none⟩=false:=(hF.frozen _).trans (r0.frozen 1);have f2:World.frozen? w1 ⟨w.heap.size,2,none⟩=false:=(hF.frozen _).trans (r0.frozen 2);have f3:World.frozen? w1 ⟨w.heap.size,3,none⟩=false:=(hF.frozen _).trans (r0.frozen 3);have f4:World.frozen? w1 ⟨w.heap.size,4,none⟩=false:=(hF.frozen _).trans (r0.frozen 4);go_simp;try (unfold stored;go_simp)
 refine hK _ _ ⟨?_,?_⟩
 ·exact Yw plain (Yi plain Tryz.func16 (by kernel_rfl) _) (by kernel_rfl) _
 clear hK K_;clear q0 q1 q2 q3 q4 f0 f1 f2 f3 f4;replace hF:Is (((((wE.setCell ⟨w.heap.size,0,none⟩ (.slice pu (s.m cell) cu)).setCell ⟨w.heap.size,1,none⟩ (.slice pm 16 cm)).setCell ⟨w.heap.size,2,none⟩ (.int .i64 (s.z cell 46))).setCell ⟨w.heap.size,3,none⟩ (.int .i64 (s.z cell 47))).setCell ⟨w.heap.size,4,none⟩ (.bool (decide (s.z cell 3<s.z cell 47)))) (((((w1.setCell ⟨w.heap.size,0,none⟩ (.slice pu (s.m cell) cu)).setCell ⟨w.heap.size,1,none⟩ (.slice pm 16 cm)).setCell ⟨w.heap.size,2,none⟩ (.int .i64 (s.z cell 46))).setCell ⟨w.heap.size,3,none⟩ (.int .i64 (s.z cell 47))).setCell ⟨w.heap.size,4,none⟩ (.bool (decide (s.z cell 3<s.z cell 47)))):=((((hF.set _ _).set _ _).set _ _).set _ _).set _ _;generalize (((((w1.setCell ⟨w.heap.size,0,none⟩ (.slice pu (s.m cell) cu)).setCell ⟨w.heap.size,1,none⟩ (.slice pm 16 cm)).setCell ⟨w.heap.size,2,none⟩ (.int .i64 (s.z cell 46))).setCell ⟨w.heap.size,3,none⟩ (.int .i64 (s.z cell 47))).setCell ⟨w.heap.size,4,none⟩ (.bool (decide (s.z cell 3<s.z cell 47))))=w2 at *;obtain ⟨s1,s2,s3⟩:=Yd6 (a':=.slice pu (s.m cell) cu) (b':=.slice pm 16 cm) (c':=.int .i64 (s.z cell 46)) (d':=.int .i64 (s.z cell 47)) (e':=.bool (decide (s.z cell 3<s.z cell 47))) r0;replace hu:=XD hu fun g hg=>s2 g (YcH hu r0 (by decide) g hg);replace hm2:=XD hm2 fun g hg=>s2 g (YcH hm2 r0 (by decide) g hg);replace hB:Below w.heap.size w (((((wE.setCell ⟨w.heap.size,0,none⟩ (.slice pu (s.m cell) cu)).setCell ⟨w.heap.size,1,none⟩ (.slice pm 16 cm)).setCell ⟨w.heap.size,2,none⟩ (.int .i64 (s.z cell 46))).setCell ⟨w.heap.size,3,none⟩ (.int .i64 (s.z cell 47))).setCell ⟨w.heap.size,4,none⟩ (.bool (decide (s.z cell 3<s.z cell 47)))):=⟨hB.os,hB.tape,hB.output,by rw [s3];exact hB.size,fun b hb=>(s2 b (by omega)).trans (hB.block b hb)⟩;clear r0 s2 s3 rs2;generalize (((((wE.setCell ⟨w.heap.size,0,none⟩ (.slice pu (s.m cell) cu)).setCell ⟨w.heap.size,1,none⟩ (.slice pm 16 cm)).setCell ⟨w.heap.size,2,none⟩ (.int .i64 (s.z cell 46))).setCell ⟨w.heap.size,3,none⟩ (.int .i64 (s.z cell 47))).setCell ⟨w.heap.size,4,none⟩ (.bool (decide (s.z cell 3<s.z cell 47))))=wZ at *;try walk_nrm
 refine .op rfl (by rfl) hk fun w1 hR K_ hK=>?_;replace hF:=hF.rely hR;clear hR;go_simp;try (unfold stored;go_simp)
 refine hK _ _ ⟨?_,?_⟩
 ·exact Yw plain (Yi plain Tryz.func16 (by kernel_rfl) _) (by kernel_rfl) _
 clear hK K_;try walk_nrm
 repeat refine .c1 Y2 rfl ?_
 refine Y1.ret Y2 fun todo=>?_;refine .stop rfl fun w6 hR=>?_;obtain ⟨d,rfl⟩:=hF.rely hR;refine hp _ _ _ _ rfl (fun d=>Y3O (P:=Tryz.prog) (p:=4) (u:=5) rfl _ _ w.heap.size 65 #[.slice pu (s.m cell) cu,.slice pm 16 cm,.int .i64 (s.z cell 46),.int .i64 (s.z cell 47),.bool (decide (s.z cell 3<s.z cell 47))] (0,0) _ rfl (YeY s1) Tryz.underlying65 rfl YgS) ⟨⟨hB.os,hB.tape,hB.output,hB.size,hB.block⟩,_,_,_,rfl,hu,hm2⟩
end Go.Proofs.YtdoghgnifkgfdaaGreat.Mute
