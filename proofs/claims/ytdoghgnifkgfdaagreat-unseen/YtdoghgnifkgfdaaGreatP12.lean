import Derived.Deep.RegionHeld3
import Derived.Deep.Cut
import Derived.Test.YtdoghgnifkgfdaaGreatP09
import Derived.Test.YtdoghgnifkgfdaaGreatP11
set_option maxRecDepth 100000
set_option maxHeartbeats 16000000
namespace Go.Proofs.YtdoghgnifkgfdaaGreat
open Go.RowKit
theorem Ycv (c:Int) (n:Nat) (w:World) (hn:0<n) (h1:-9223372036854775808≤c) (h2:c≤9223372036854775807):
  Calls Tryz.prog 9 #[.int .i64 c,.int .i64 n] w fun e w'=>e=.returned (.int .i64 (pk c n))∧w'=w:=by
 have hz:¬((n:Int)=0):=by omega
 by_cases h:c<0
 ·have e1:IntKind.i64.wrap (c+1)=c+1:=by rw [IntKind.wrap_i64];omega
  have e2:IntKind.i64.wrap (-(c+1))=-(c+1):=by rw [IntKind.wrap_i64];omega
  have e3:((pk c n:Nat):Int)=(-(c+1)).tmod n:=by
   unfold pk;rw [if_pos h,Int.toNat_of_nonneg (Int.emod_nonneg _ hz),Int.tmod_eq_emod_of_nonneg (by omega)]
  go_enter Tryz.func9,Tryz.ntmps9
  go_wp2_with fail
  go_ret;exact ⟨by rw [e3,Int.neg_tmod];rfl,rfl⟩
 ·have e3:((pk c n:Nat):Int)=c % n:=by
   unfold pk;rw [if_neg h,Int.toNat_of_nonneg (Int.emod_nonneg _ hz)]
  go_enter Tryz.func9,Tryz.ntmps9
  go_wp2_with fail
  go_ret;exact ⟨by first|rfl|(rw [e3];rfl),rfl⟩
def Wf (n:Nat) (z:Nat→Int):Prop:=∀j,j<n→-9223372036854775808≤z j∧z j≤9223372036854775807
def YbZ (z:Nat→Int) (k:Nat):List Value:=(List.range (k*3)).map fun j=>.int .i64 (wayN (pk (z (j / 3)) 24) (j % 3))
theorem Yea (k:Nat) (f:Nat→Value):(List.range ((k+1)*3)).map f=(List.range (k*3)).map f++[f (k*3),f (k*3+1),f (k*3+2)]:=by
 rw [show (k+1)*3=k*3+1+1+1 by omega,List.range_succ,List.range_succ,List.range_succ];simp
theorem Yg8 (z:Nat→Int) (k:Nat):YbZ z (k+1)=YbZ z k++[.int .i64 (wayN (pk (z k) 24) 0),.int .i64 (wayN (pk (z k) 24) 1),.int .i64 (wayN (pk (z k) 24) 2)]:=by
 unfold YbZ;rw [Yea,show k*3 / 3=k by omega,show (k*3+1) / 3=k by omega,show (k*3+2) / 3=k by omega,show k*3 % 3=0 by omega,show (k*3+1) % 3=1 by omega,show (k*3+2) % 3=2 by omega]
theorem Yfb:(Tryz.prog.info? 138).map (fun i=>(i.zero,i.size,i.bytes))=some (some (.agg #[.int .i64 0,.int .i64 0,.int .i64 0]),3,24):=by kernel_rfl
theorem Ydc (p:Option Addr) (n c:Nat) (z:Nat→Int) (w:World) (hs:Sl w p n (fun j=>.int .i64 (z j))) (hz:Wf n z) (hn:n≤100000000000000000):
  Calls Tryz.prog 25 #[.slice p n c] w fun e w'=>∃v,e=.returned v∧Below w.heap.size w w'∧w'.ownsRow w.heap.size 138 3 v (min n 8) (YbZ z (min n 8))∧(n=0→v=.slice none 0 0):=by
 have HS:Hid (Sl w p n (fun j=>.int .i64 (z j))):=hs;have HZ:Hid (Wf n z):=hz;clear hs hz
 go_enter Tryz.func25,Tryz.ntmps25
 go_wp2_with fail
 go_loopw [3,4] (fun l i wr=>∃(k:Nat) (pl:Option Addr) (cl:Nat),k≤n∧k≤8∧i=.int .i64 k∧l=.slice pl k cl∧Hid (wr.ownsRow w.heap.size 138 3 (.slice pl k cl) k (YbZ z k))∧Hid (Below w.heap.size w wr)∧Hid (k=0→pl=none∧cl=0)) (fun _ i _=>8-(intOf i).toNat)
 case atStart=>exact ⟨0,none,0,Nat.zero_le _,Nat.zero_le _,rfl,rfl,World.ownsRow_nil _ _ _ _,Below.refl _ _,fun _=>⟨rfl,rfl⟩⟩
 case round=>
  obtain ⟨k,pl,cl,hk,hk8,rfl,rfl,HO,HB,HN⟩:=hrel;by_cases hlt:k<n
  ·have hli:(k:Int)<(n:Int):=by omega
   by_cases h8:k<8
   ·have h8i:(k:Int)<8:=by omega
    obtain ⟨b,o,rfl,hc⟩:=(HS.out.below HB.out).at (by omega);have c0:=hc k hlt;clear hc;have hzk:=HZ.out k hlt;obtain ⟨zk,HZK⟩:∃zk,Hid (z k=zk):=⟨_,rfl⟩;rw [HZK.out] at c0 hzk;have hx:=Yc5 zk (show 0<24 by omega);go_wp2_with fail
    refine (Ycv zk 24 _ (by omega) hzk.1 hzk.2).mono ?_;rintro e w' ⟨rfl,rfl⟩;obtain ⟨x,HX⟩:∃x,Hid (pk zk 24=x):=⟨_,rfl⟩;rw [HX.out] at hx ⊢;have OW:Hid (∀a,(w'.alloc a).ownsRow w.heap.size 138 3 (.slice pl k cl) k (YbZ z k)):=fun a=>own_below HO.out ((Below.refl _ _).alloc (Nat.le_refl _) a);have HSz:Hid (∀a,w.heap.size≤(w'.alloc a).heap.size):=fun a=>by have:=HB.out.size;simp;omega
    go_wp2_with (at_builtin;refine YX _ rfl _ _ 25 rfl w.heap.size 138 _ 3 24 Tryz.underlying25 Yfb rfl (by omega) (.slice pl k cl) k (YbZ z k) rfl (by exact OW.out _) w'.heap.size [_,_,_] 138 rfl rfl (by exact alloc_at rfl) (by intro u hu;simp at hu;rcases hu with rfl|rfl|rfl<;>rfl) (by simp only [maxLen];omega) (by omega) (by exact HSz.out _) ?_)
    intro g cp w1 hown hgrow _ _;have e:YbZ z (k+1)=YbZ z k++[.int .i64 (1+(x:Int) % 2),.int .i64 ((x:Int) / 2 % 4),.int .i64 (((x:Int) / 2 % 4+1+(x:Int) / 2 / 4) % 4)]:=by
     rw [Yg8,HZK.out,HX.out];rfl
    rw [←e] at hown;have HO2:Hid (w1.ownsRow w.heap.size 138 3 (.slice (some ⟨g,0,none⟩) (k+1) cp) (k+1) (YbZ z (k+1))):=hown;have HB2:Hid (Below w.heap.size w w1):=(HB.out.alloc HB.out.size _).grown hgrow (by have:=HB.out.size;simp;omega) (fun j hj=>(HO.out.lt j hj).1);clear hown hgrow e;go_wp2_with fail
    exact ⟨⟨k+1,some ⟨g,0,none⟩,cp,by omega,by omega,by go_num,by simp,HO2,HB2,fun h=>absurd h (by omega)⟩,by simp [intOf];omega⟩
   ·obtain rfl:k=8:=by omega
    have e:min n 8=8:=by omega
    have HO2:Hid (wr.ownsRow w.heap.size 138 3 (.slice pl 8 cl) (min n 8) (YbZ z (min n 8))):=by rw [e];exact HO.out
    clear e;go_wp2_with fail
    go_ret;exact ⟨_,rfl,HB.out,HO2.out,fun h=>absurd h (by omega)⟩
  ·obtain rfl:k=n:=by omega
   have e:min k 8=k:=by omega
   have HO2:Hid (wr.ownsRow w.heap.size 138 3 (.slice pl k cl) (min k 8) (YbZ z (min k 8))):=by rw [e];exact HO.out
   clear e;go_wp2_with fail
   go_ret;exact ⟨_,rfl,HB.out,HO2.out,fun h=>by
    obtain ⟨rfl,rfl⟩:=HN.out h;subst h;rfl⟩
theorem fits_any (p:Option Addr) (k c:Nat) (ch:Nat→Int) (n kind cell:Int) (fr:Bool) (w:World) (hs:Sl w p (k*3) (fun j=>.int .i64 (ch j))) (hk:k≤1000) (h1:-9223372036854775808≤n) (h2:n≤9223372036854775807):
  Calls Tryz.prog 56 #[.slice p k c,.int .i64 n,.int .i64 kind,.int .i64 cell,.bool fr] w fun e w'=>e=.returned (.int .i64 (YbO k ch n kind cell (if fr=true then 1 else 2) k 0))∧w'=w:=by
 have HS:Hid (Sl w p (k*3) (fun j=>.int .i64 (ch j))):=hs;obtain ⟨R,HR⟩:∃R,Hid (YbO k ch n kind cell (if fr=true then 1 else 2) k 0=R):=⟨_,rfl⟩;rw [HR.out];clear hs
 go_enter Tryz.func56,Tryz.ntmps56
 go_wp2_with fail
 go_loopw [12] (fun i wr=>∃j:Nat,j≤k∧i=.int .i64 j∧wr=w∧Hid (YbO k ch n kind cell (if fr=true then 1 else 2) (k-j) j=R)) (fun i _=>k-(intOf i).toNat)
 case atStart=>exact ⟨0,Nat.zero_le _,rfl,rfl,HR⟩
 case round=>
  obtain ⟨j,hj,rfl,rfl,HJ⟩:=hrel;by_cases hlt:j<k
  ·have hli:(j:Int)<(k:Int):=by omega
   obtain ⟨b,o,rfl,hc⟩:=HS.out.at (by omega);have ha:=Yc5 n (show 0<k by omega);go_wp2_with fail
   refine (Ycv n k _ (by omega) h1 h2).mono ?_;rintro e w' ⟨rfl,rfl⟩;obtain ⟨a,HA⟩:∃a,Hid (pk n k=a):=⟨_,rfl⟩;rw [HA.out] at ha ⊢;obtain ⟨x,HX⟩:∃x,Hid ((a+j) % k=x):=⟨_,rfl⟩;have hx:x<k:=by rw [←HX.out];exact Nat.mod_lt _ (by omega)
   have hxe:((a:Int)+(j:Int)) % (k:Int)=(x:Int):=by rw [←HX.out];simp
   have hkz:¬((k:Int)=0):=by omega
   have hxi:(x:Int)<(k:Int):=by omega
   have c0:=hc (x*3) (by omega);have c1:=hc (x*3+1) (by omega);have c2:=hc (x*3+2) (by omega);rw [←Nat.add_assoc] at c1 c2;clear hc;have HF:Hid ((if ch (x*3)=kind∧ch (x*3+(if fr=true then 1 else 2))=cell then (x:Int) else YbO k ch n kind cell (if fr=true then 1 else 2) (k-(j+1)) (j+1))=R):=by
    have:=HJ.out;rw [show k-j=(k-(j+1))+1 by omega] at this;unfold YbO at this;rw [HA.out,HX.out] at this;exact this
   clear HJ;generalize ch (x*3)=y0 at *;cases fr with
   |true=>
    have HF2:Hid ((if y0=kind∧ch (x*3+1)=cell then (x:Int) else YbO k ch n kind cell 1 (k-(j+1)) (j+1))=R):=HF.out;clear HF;generalize ch (x*3+1)=y1 at *;generalize ch (x*3+2)=y2 at *;by_cases e1:y0=kind
    ·by_cases e2:y1=cell
     ·have HF3:Hid ((x:Int)=R):=by have:=HF2.out;rw [if_pos ⟨e1,e2⟩] at this;exact this
      go_wp2_with fail
      go_ret;exact ⟨by rw [←HF3.out,←hxe];rfl,rfl⟩
     ·have HF3:Hid (YbO k ch n kind cell 1 (k-(j+1)) (j+1)=R):=by have:=HF2.out;rw [if_neg (fun h=>e2 h.2)] at this;exact this
      go_wp2_with fail
      exact ⟨⟨j+1,by omega,by go_num,by first|rfl|trivial,HF3⟩,by simp [intOf];omega⟩
    ·have HF3:Hid (YbO k ch n kind cell 1 (k-(j+1)) (j+1)=R):=by have:=HF2.out;rw [if_neg (fun h=>e1 h.1)] at this;exact this
     go_wp2_with fail
     exact ⟨⟨j+1,by omega,by go_num,by first|rfl|trivial,HF3⟩,by simp [intOf];omega⟩
   |false=>
    have HF2:Hid ((if y0=kind∧ch (x*3+2)=cell then (x:Int) else YbO k ch n kind cell 2 (k-(j+1)) (j+1))=R):=HF.out;clear HF;generalize ch (x*3+1)=y1 at *;generalize ch (x*3+2)=y2 at *;by_cases e1:y0=kind
    ·by_cases e2:y2=cell
     ·have HF3:Hid ((x:Int)=R):=by have:=HF2.out;rw [if_pos ⟨e1,e2⟩] at this;exact this
      go_wp2_with fail
      go_ret;exact ⟨by rw [←HF3.out,←hxe];rfl,rfl⟩
     ·have HF3:Hid (YbO k ch n kind cell 2 (k-(j+1)) (j+1)=R):=by have:=HF2.out;rw [if_neg (fun h=>e2 h.2)] at this;exact this
      go_wp2_with fail
      exact ⟨⟨j+1,by omega,by go_num,by first|rfl|trivial,HF3⟩,by simp [intOf];omega⟩
    ·have HF3:Hid (YbO k ch n kind cell 2 (k-(j+1)) (j+1)=R):=by have:=HF2.out;rw [if_neg (fun h=>e1 h.1)] at this;exact this
     go_wp2_with fail
     exact ⟨⟨j+1,by omega,by go_num,by first|rfl|trivial,HF3⟩,by simp [intOf];omega⟩
  ·obtain rfl:j=k:=by omega
   have HF3:Hid (-1=R):=by have:=HJ.out;rw [Nat.sub_self] at this;exact this
   go_wp2_with fail
   go_ret;exact ⟨by rw [←HF3.out];rfl,rfl⟩
theorem Ydu (c m:Int) (w:World) (hm:0<m) (h1:-9223372036854775808≤c) (h2:c≤9223372036854775807):
  Calls Tryz.prog 9 #[.int .i64 c,.int .i64 m] w fun e w'=>e=.returned (.int .i64 (pk c m.toNat))∧w'=w:=by
 have h:=Ycv c m.toNat w (by omega) h1 h2;rw [Int.toNat_of_nonneg (by omega)] at h;exact h
structure InsW (w wc:World) (V:Nat→Value) (o r a n op rr aa nn:Int):Prop where
 bel:Below w.heap.size w wc
 sz:wc.heap.size=w.heap.size+1+1+1+1
 r0:RowF wc w.heap.size 4 28 V
 r1:RowF wc (w.heap.size+1) 4 99 (Yc (.int .i64 o) (.int .i64 r) (.int .i64 a) (.int .i64 n))
 r2:RowF wc (w.heap.size+1+1) 4 97 (Yc (.int .i64 0) (.int .i64 0) (.int .i64 0) (.int .i64 0))
 r3:RowF wc (w.heap.size+1+1+1) 4 97 (Yc (.int .i64 op) (.int .i64 rr) (.int .i64 aa) (.int .i64 nn))
theorem InsW.mk' (w:World) (q0 q1 p2 p3:Option Addr) (m0 c0 m1 c1 k c2 nd c3:Nat) (o r a n op rr aa:Int):InsW w ((((w.alloc (.cells #[.slice q0 m0 c0,.slice q1 m1 c1,.slice p2 k c2,.slice p3 nd c3] 28)).alloc (.cells #[.int .i64 o,.int .i64 r,.int .i64 a,.int .i64 n] 99)).alloc (.cells #[.int .i64 0,.int .i64 0,.int .i64 0,.int .i64 0] 97)).alloc (.cells #[.int .i64 op,.int .i64 rr,.int .i64 aa,.int .i64 n] 97)).drew (Yc (.slice q0 m0 c0) (.slice q1 m1 c1) (.slice p2 k c2) (.slice p3 nd c3)) o r a n op rr aa n:=by
 have b1:Below w.heap.size w _:=(Below.refl w.heap.size w).alloc (Nat.le_refl _) (.cells #[.slice q0 m0 c0,.slice q1 m1 c1,.slice p2 k c2,.slice p3 nd c3] 28);have b2:=b1.alloc (by simp) (.cells #[.int .i64 o,.int .i64 r,.int .i64 a,.int .i64 n] 99);have b3:=b2.alloc (by simp;omega) (.cells #[.int .i64 0,.int .i64 0,.int .i64 0,.int .i64 0] 97);have b4:=b3.alloc (by simp;omega) (.cells #[.int .i64 op,.int .i64 rr,.int .i64 aa,.int .i64 n] 97);have x0:=(((row4 w (.slice q0 m0 c0) (.slice q1 m1 c1) (.slice p2 k c2) (.slice p3 nd c3) 28).alloc (.cells #[.int .i64 o,.int .i64 r,.int .i64 a,.int .i64 n] 99)).alloc (.cells #[.int .i64 0,.int .i64 0,.int .i64 0,.int .i64 0] 97)).alloc (.cells #[.int .i64 op,.int .i64 rr,.int .i64 aa,.int .i64 n] 97);have x1:=((row4 (w.alloc (.cells #[.slice q0 m0 c0,.slice q1 m1 c1,.slice p2 k c2,.slice p3 nd c3] 28)) (.int .i64 o) (.int .i64 r) (.int .i64 a) (.int .i64 n) 99).alloc (.cells #[.int .i64 0,.int .i64 0,.int .i64 0,.int .i64 0] 97)).alloc (.cells #[.int .i64 op,.int .i64 rr,.int .i64 aa,.int .i64 n] 97);have x2:=(row4 ((w.alloc (.cells #[.slice q0 m0 c0,.slice q1 m1 c1,.slice p2 k c2,.slice p3 nd c3] 28)).alloc (.cells #[.int .i64 o,.int .i64 r,.int .i64 a,.int .i64 n] 99)) (.int .i64 0) (.int .i64 0) (.int .i64 0) (.int .i64 0) 97).alloc (.cells #[.int .i64 op,.int .i64 rr,.int .i64 aa,.int .i64 n] 97);have x3:=row4 (((w.alloc (.cells #[.slice q0 m0 c0,.slice q1 m1 c1,.slice p2 k c2,.slice p3 nd c3] 28)).alloc (.cells #[.int .i64 o,.int .i64 r,.int .i64 a,.int .i64 n] 99)).alloc (.cells #[.int .i64 0,.int .i64 0,.int .i64 0,.int .i64 0] 97)) (.int .i64 op) (.int .i64 rr) (.int .i64 aa) (.int .i64 n) 97;simp only [World.size_alloc] at x1 x2 x3;exact ⟨b4.drew,by simp [World.drew],x0.of_heap rfl,x1.of_heap rfl,x2.of_heap rfl,x3.of_heap rfl⟩
theorem InsW.num {w wc:World} {V:Nat→Value} {o r a n op rr aa nn:Int} (h:InsW w wc V o r a n op rr aa nn) (x:Int):InsW w (wc.setCell ⟨w.heap.size+1+1+1,3,none⟩ (.int .i64 x)) V o r a n op rr aa x:=by
 refine ⟨h.bel.setCell (by simp;omega) _,by rw [size_setCell];exact h.sz,h.r0.other _ _ (by simp;omega),h.r1.other _ _ (by simp;omega),h.r2.other _ _ (by simp),(h.r3.set 3 _).congr fun j hj=>?_⟩;have:j=0∨j=1∨j=2∨j=3:=by omega
 rcases this with rfl|rfl|rfl|rfl<;>rfl
theorem Ycc {W:World} {B:Nat} {a b c d:Value} (h:RowF W B 4 97 (Yc a b c d)) (x0 x1 x2 x3:Value):((((W.setCell ⟨B,0,none⟩ x0).setCell ⟨B,1,none⟩ x1).setCell ⟨B,2,none⟩ x2).setCell ⟨B,3,none⟩ x3).heap[B]?=some (.cells #[x0,x1,x2,x3] 97 (0,0)):=by
 have h2:RowF ((((W.setCell ⟨B,0,none⟩ x0).setCell ⟨B,1,none⟩ x1).setCell ⟨B,2,none⟩ x2).setCell ⟨B,3,none⟩ x3) B 4 97 (Yc x0 x1 x2 x3):=((((h.set 0 x0).set 1 x1).set 2 x2).set 3 x3).congr fun j hj=>by
  have:j=0∨j=1∨j=2∨j=3:=by omega
  rcases this with rfl|rfl|rfl|rfl<;>rfl
 exact JY h2
theorem Ycb:(Tryz.prog.info? 97).map (·.size)=some 4:=by kernel_rfl
theorem Yfv (q0 q1 p2 p3:Option Addr) (m0 c0q m1 c1 k c2 nd c3 cell words:Nat) (ch dv:Nat→Int) (o r a n:Int) (w:World) (hs2:Sl w p2 (k*3) (fun j=>.int .i64 (ch j))) (hs3:Sl w p3 nd (fun j=>.int .i64 (dv j))) (hk:k≤1000) (hnd:nd≤1000) (hw:0<words∧words≤1000)
  (ho:-9223372036854775808≤o∧o≤9223372036854775807) (hr:-9223372036854775808≤r∧r≤9223372036854775807) (ha:-9223372036854775808≤a∧a≤9223372036854775807) (hn:-9223372036854775808≤n∧n≤9223372036854775807):
  Calls Tryz.prog 30 #[.agg #[.slice q0 m0 c0q,.slice q1 m1 c1,.slice p2 k c2,.slice p3 nd c3],.int .i64 cell,.int .i64 words,.agg #[.int .i64 o,.int .i64 r,.int .i64 a,.int .i64 n]] w fun e w'=>e=.returned (.agg #[.int .i64 (insF k ch nd dv cell words o r a n 0),.int .i64 (insF k ch nd dv cell words o r a n 1),.int .i64 (insF k ch nd dv cell words o r a n 2),.int .i64 (insF k ch nd dv cell words o r a n 3)])∧Below w.heap.size w w':=by
 have S2:Hid (Sl w p2 (k*3) (fun j=>.int .i64 (ch j))):=hs2;have S3:Hid (Sl w p3 nd (fun j=>.int .i64 (dv j))):=hs3;have hop:=Yc5 o (show 0<17 by omega);have hr4:=Yc5 r (show 0<4 by omega);have ha4:=Yc5 a (show 0<4 by omega);clear hs2 hs3
 go_enter Tryz.func30,Tryz.ntmps30
 go_upto_region 1 with fail
 go_cut [9] from 10 (fun s9 wx=>s9=.pointer (some ⟨w.heap.size+1+1+1,0,none⟩)∧Hid (InsW w wx (Yc (.slice q0 m0 c0q) (.slice q1 m1 c1) (.slice p2 k c2) (.slice p3 nd c3)) o r a n (pk o 17) (pk r 4) (pk a 4) n))
 case first=>
  go_region_held3 (fun W=>W.cell? ⟨w.heap.size+1,0,none⟩=some (.int .i64 o)∧W.cell? ⟨w.heap.size+1,1,none⟩=some (.int .i64 r)∧W.cell? ⟨w.heap.size+1,2,none⟩=some (.int .i64 a)∧W.cell? ⟨w.heap.size+1,3,none⟩=some (.int .i64 n)) (go_keep)
   (first
    |(go_at_call 9
      refine (Ydu _ _ _ (by decide) (by omega) (by omega)).mono ?_;rintro e w' ⟨rfl,rfl⟩))
  all_goals (go_wp2_with fail;go_meet;exact ⟨rfl,InsW.mk' _ _ _ _ _ _ _ _ _ _ _ _ _ _ _ _ _ _ _ _⟩)
 case rest=>
 obtain ⟨rfl,HW⟩:=hcut;obtain ⟨op,HOP⟩:∃op,Hid (pk o 17=op):=⟨_,rfl⟩;obtain ⟨rr,HRR⟩:∃rr,Hid (pk r 4=rr):=⟨_,rfl⟩;obtain ⟨aa,HAA⟩:∃aa,Hid (pk a 4=aa):=⟨_,rfl⟩;rw [HOP.out,HRR.out,HAA.out] at HW;rw [HOP.out] at hop;by_cases hkey:isKey op
 ·unfold isKey at hkey;rcases hkey with rfl|rfl|rfl|rfl|rfl|rfl|rfl|rfl
  ·have hN:insN k ch nd dv cell words 8 n=(pk n words:Int):=by unfold insN;rw [if_pos (by omega)]
   have HE:Hid (∀j,insF k ch nd dv cell words o r a n j=if j=0 then (8:Int) else if j=1 then (rr:Int) else if j=2 then (aa:Int) else (pk n words:Int)):=fun j=>by
    unfold insF;rw [HOP.out,HRR.out,HAA.out,hN,if_neg (fun h=>by have:=h.2;omega),if_pos (show isKey 8 by decide)];rfl
   obtain ⟨a0,a1,a2,a3⟩:=HW.out.r0.at4;obtain ⟨b0,b1,b2,b3⟩:=HW.out.r1.at4;obtain ⟨z0,z1,z2,z3⟩:=HW.out.r2.at4;obtain ⟨i0,i1,i2,i3⟩:=HW.out.r3.at4;have i3f:=HW.out.r3.frozen 3;have z0f:=HW.out.r2.frozen 0;have z1f:=HW.out.r2.frozen 1;have z2f:=HW.out.r2.frozen 2;have z3f:=HW.out.r2.frozen 3;have hsz:=HW.out.sz;go_wp2_with fail
   refine (Ycv n words _ hw.1 hn.1 hn.2).mono ?_;rintro e w' ⟨rfl,hw'⟩;subst hw';clear hN;generalize pk n words=x at *;have hx0:¬((x:Int)<0):=by omega
   have HW2:Hid (InsW w _ _ o r a n _ _ _ (x:Int)):=HW.out.num x;go_wp2_with fail
   refine bodyPost_ret (results_cell_row (P:=Tryz.prog) rfl _ _ (w.heap.size+1+1) 97 #[.int .i64 (8),.int .i64 (rr),.int .i64 (aa),.int .i64 (x)] (0,0) _ rfl (Ycc HW2.out.r2 (.int .i64 (8)) (.int .i64 (rr)) (.int .i64 (aa)) (.int .i64 (x))) Tryz.underlying97 rfl Ycb) rfl ?_;exact ⟨by first|(rw [HE.out 0,HE.out 1,HE.out 2,HE.out 3];rfl)|rw [HE.out 0,HE.out 1,HE.out 2,HE.out 3],Y0b HW2.out.bel (by omega) _ _ _ _⟩
  ·have hN:insN k ch nd dv cell words 9 n=(pk n words:Int):=by unfold insN;rw [if_pos (by omega)]
   have HE:Hid (∀j,insF k ch nd dv cell words o r a n j=if j=0 then (9:Int) else if j=1 then (rr:Int) else if j=2 then (aa:Int) else (pk n words:Int)):=fun j=>by
    unfold insF;rw [HOP.out,HRR.out,HAA.out,hN,if_neg (fun h=>by have:=h.2;omega),if_pos (show isKey 9 by decide)];rfl
   obtain ⟨a0,a1,a2,a3⟩:=HW.out.r0.at4;obtain ⟨b0,b1,b2,b3⟩:=HW.out.r1.at4;obtain ⟨z0,z1,z2,z3⟩:=HW.out.r2.at4;obtain ⟨i0,i1,i2,i3⟩:=HW.out.r3.at4;have i3f:=HW.out.r3.frozen 3;have z0f:=HW.out.r2.frozen 0;have z1f:=HW.out.r2.frozen 1;have z2f:=HW.out.r2.frozen 2;have z3f:=HW.out.r2.frozen 3;have hsz:=HW.out.sz;go_wp2_with fail
   refine (Ycv n words _ hw.1 hn.1 hn.2).mono ?_;rintro e w' ⟨rfl,hw'⟩;subst hw';clear hN;generalize pk n words=x at *;have hx0:¬((x:Int)<0):=by omega
   have HW2:Hid (InsW w _ _ o r a n _ _ _ (x:Int)):=HW.out.num x;go_wp2_with fail
   refine bodyPost_ret (results_cell_row (P:=Tryz.prog) rfl _ _ (w.heap.size+1+1) 97 #[.int .i64 (9),.int .i64 (rr),.int .i64 (aa),.int .i64 (x)] (0,0) _ rfl (Ycc HW2.out.r2 (.int .i64 (9)) (.int .i64 (rr)) (.int .i64 (aa)) (.int .i64 (x))) Tryz.underlying97 rfl Ycb) rfl ?_;exact ⟨by first|(rw [HE.out 0,HE.out 1,HE.out 2,HE.out 3];rfl)|rw [HE.out 0,HE.out 1,HE.out 2,HE.out 3],Y0b HW2.out.bel (by omega) _ _ _ _⟩
  ·have hN:insN k ch nd dv cell words 10 n=YbO k ch n 1 cell 1 k 0:=rfl;have hfit:=fits_any p2 k c2 ch n 1 cell true wc (S2.out.below HW.out.bel) hk hn.1 hn.2;obtain ⟨R,HR⟩:∃R,Hid (YbO k ch n 1 cell 1 k 0=R):=⟨_,rfl⟩;have hfR:YbO k ch n 1 cell (if true=true then 1 else 2) k 0=R:=HR.out;rw [hfR] at hfit;rw [HR.out] at hN;clear hfR;obtain ⟨a0,a1,a2,a3⟩:=HW.out.r0.at4;obtain ⟨b0,b1,b2,b3⟩:=HW.out.r1.at4;obtain ⟨z0,z1,z2,z3⟩:=HW.out.r2.at4;obtain ⟨i0,i1,i2,i3⟩:=HW.out.r3.at4;have i3f:=HW.out.r3.frozen 3;have z0f:=HW.out.r2.frozen 0;have z1f:=HW.out.r2.frozen 1;have z2f:=HW.out.r2.frozen 2;have z3f:=HW.out.r2.frozen 3;have hsz:=HW.out.sz;by_cases hneg:R<0
   ·have HE:Hid (∀j,insF k ch nd dv cell words o r a n j=0):=fun j=>by
     unfold insF;rw [HOP.out,hN,if_pos ⟨(show isKey 10 by decide),hneg⟩]
    clear hN;go_wp2_with fail
    refine hfit.mono ?_;rintro e w' ⟨rfl,hw'⟩;subst hw';have HW2:Hid (InsW w _ _ o r a n _ _ _ R):=HW.out.num R;go_wp2_with fail
    refine bodyPost_ret (results_cell_row (P:=Tryz.prog) rfl _ _ (w.heap.size+1+1) 97 #[.int .i64 (0),.int .i64 (0),.int .i64 (0),.int .i64 (0)] (0,0) _ rfl (Ycc HW2.out.r2 (.int .i64 (0)) (.int .i64 (0)) (.int .i64 (0)) (.int .i64 (0))) Tryz.underlying97 rfl Ycb) rfl ?_;exact ⟨by first|(rw [HE.out 0,HE.out 1,HE.out 2,HE.out 3];rfl)|rw [HE.out 0,HE.out 1,HE.out 2,HE.out 3],Y0b HW2.out.bel (by omega) _ _ _ _⟩
   ·have HE:Hid (∀j,insF k ch nd dv cell words o r a n j=if j=0 then (10:Int) else if j=1 then (rr:Int) else if j=2 then (aa:Int) else R):=fun j=>by
     unfold insF;rw [HOP.out,HRR.out,HAA.out,hN,if_neg (fun h=>hneg h.2),if_pos (show isKey 10 by decide)];rfl
    clear hN;go_wp2_with fail
    refine hfit.mono ?_;rintro e w' ⟨rfl,hw'⟩;subst hw';have HW2:Hid (InsW w _ _ o r a n _ _ _ R):=HW.out.num R;go_wp2_with fail
    refine bodyPost_ret (results_cell_row (P:=Tryz.prog) rfl _ _ (w.heap.size+1+1) 97 #[.int .i64 (10),.int .i64 (rr),.int .i64 (aa),.int .i64 (R)] (0,0) _ rfl (Ycc HW2.out.r2 (.int .i64 (10)) (.int .i64 (rr)) (.int .i64 (aa)) (.int .i64 (R))) Tryz.underlying97 rfl Ycb) rfl ?_;exact ⟨by first|(rw [HE.out 0,HE.out 1,HE.out 2,HE.out 3];rfl)|rw [HE.out 0,HE.out 1,HE.out 2,HE.out 3],Y0b HW2.out.bel (by omega) _ _ _ _⟩
  ·have hN:insN k ch nd dv cell words 11 n=YbO k ch n 2 cell 1 k 0:=rfl;have hfit:=fits_any p2 k c2 ch n 2 cell true wc (S2.out.below HW.out.bel) hk hn.1 hn.2;obtain ⟨R,HR⟩:∃R,Hid (YbO k ch n 2 cell 1 k 0=R):=⟨_,rfl⟩;have hfR:YbO k ch n 2 cell (if true=true then 1 else 2) k 0=R:=HR.out;rw [hfR] at hfit;rw [HR.out] at hN;clear hfR;obtain ⟨a0,a1,a2,a3⟩:=HW.out.r0.at4;obtain ⟨b0,b1,b2,b3⟩:=HW.out.r1.at4;obtain ⟨z0,z1,z2,z3⟩:=HW.out.r2.at4;obtain ⟨i0,i1,i2,i3⟩:=HW.out.r3.at4;have i3f:=HW.out.r3.frozen 3;have z0f:=HW.out.r2.frozen 0;have z1f:=HW.out.r2.frozen 1;have z2f:=HW.out.r2.frozen 2;have z3f:=HW.out.r2.frozen 3;have hsz:=HW.out.sz;by_cases hneg:R<0
   ·have HE:Hid (∀j,insF k ch nd dv cell words o r a n j=0):=fun j=>by
     unfold insF;rw [HOP.out,hN,if_pos ⟨(show isKey 11 by decide),hneg⟩]
    clear hN;go_wp2_with fail
    refine hfit.mono ?_;rintro e w' ⟨rfl,hw'⟩;subst hw';have HW2:Hid (InsW w _ _ o r a n _ _ _ R):=HW.out.num R;go_wp2_with fail
    refine bodyPost_ret (results_cell_row (P:=Tryz.prog) rfl _ _ (w.heap.size+1+1) 97 #[.int .i64 (0),.int .i64 (0),.int .i64 (0),.int .i64 (0)] (0,0) _ rfl (Ycc HW2.out.r2 (.int .i64 (0)) (.int .i64 (0)) (.int .i64 (0)) (.int .i64 (0))) Tryz.underlying97 rfl Ycb) rfl ?_;exact ⟨by first|(rw [HE.out 0,HE.out 1,HE.out 2,HE.out 3];rfl)|rw [HE.out 0,HE.out 1,HE.out 2,HE.out 3],Y0b HW2.out.bel (by omega) _ _ _ _⟩
   ·have HE:Hid (∀j,insF k ch nd dv cell words o r a n j=if j=0 then (11:Int) else if j=1 then (rr:Int) else if j=2 then (aa:Int) else R):=fun j=>by
     unfold insF;rw [HOP.out,HRR.out,HAA.out,hN,if_neg (fun h=>hneg h.2),if_pos (show isKey 11 by decide)];rfl
    clear hN;go_wp2_with fail
    refine hfit.mono ?_;rintro e w' ⟨rfl,hw'⟩;subst hw';have HW2:Hid (InsW w _ _ o r a n _ _ _ R):=HW.out.num R;go_wp2_with fail
    refine bodyPost_ret (results_cell_row (P:=Tryz.prog) rfl _ _ (w.heap.size+1+1) 97 #[.int .i64 (11),.int .i64 (rr),.int .i64 (aa),.int .i64 (R)] (0,0) _ rfl (Ycc HW2.out.r2 (.int .i64 (11)) (.int .i64 (rr)) (.int .i64 (aa)) (.int .i64 (R))) Tryz.underlying97 rfl Ycb) rfl ?_;exact ⟨by first|(rw [HE.out 0,HE.out 1,HE.out 2,HE.out 3];rfl)|rw [HE.out 0,HE.out 1,HE.out 2,HE.out 3],Y0b HW2.out.bel (by omega) _ _ _ _⟩
  ·have hN:insN k ch nd dv cell words 12 n=YbO k ch n 1 cell 2 k 0:=rfl;have hfit:=fits_any p2 k c2 ch n 1 cell false wc (S2.out.below HW.out.bel) hk hn.1 hn.2;obtain ⟨R,HR⟩:∃R,Hid (YbO k ch n 1 cell 2 k 0=R):=⟨_,rfl⟩;have hfR:YbO k ch n 1 cell (if false=true then 1 else 2) k 0=R:=HR.out;rw [hfR] at hfit;rw [HR.out] at hN;clear hfR;obtain ⟨a0,a1,a2,a3⟩:=HW.out.r0.at4;obtain ⟨b0,b1,b2,b3⟩:=HW.out.r1.at4;obtain ⟨z0,z1,z2,z3⟩:=HW.out.r2.at4;obtain ⟨i0,i1,i2,i3⟩:=HW.out.r3.at4;have i3f:=HW.out.r3.frozen 3;have z0f:=HW.out.r2.frozen 0;have z1f:=HW.out.r2.frozen 1;have z2f:=HW.out.r2.frozen 2;have z3f:=HW.out.r2.frozen 3;have hsz:=HW.out.sz;by_cases hneg:R<0
   ·have HE:Hid (∀j,insF k ch nd dv cell words o r a n j=0):=fun j=>by
     unfold insF;rw [HOP.out,hN,if_pos ⟨(show isKey 12 by decide),hneg⟩]
    clear hN;go_wp2_with fail
    refine hfit.mono ?_;rintro e w' ⟨rfl,hw'⟩;subst hw';have HW2:Hid (InsW w _ _ o r a n _ _ _ R):=HW.out.num R;go_wp2_with fail
    refine bodyPost_ret (results_cell_row (P:=Tryz.prog) rfl _ _ (w.heap.size+1+1) 97 #[.int .i64 (0),.int .i64 (0),.int .i64 (0),.int .i64 (0)] (0,0) _ rfl (Ycc HW2.out.r2 (.int .i64 (0)) (.int .i64 (0)) (.int .i64 (0)) (.int .i64 (0))) Tryz.underlying97 rfl Ycb) rfl ?_;exact ⟨by first|(rw [HE.out 0,HE.out 1,HE.out 2,HE.out 3];rfl)|rw [HE.out 0,HE.out 1,HE.out 2,HE.out 3],Y0b HW2.out.bel (by omega) _ _ _ _⟩
   ·have HE:Hid (∀j,insF k ch nd dv cell words o r a n j=if j=0 then (12:Int) else if j=1 then (rr:Int) else if j=2 then (aa:Int) else R):=fun j=>by
     unfold insF;rw [HOP.out,HRR.out,HAA.out,hN,if_neg (fun h=>hneg h.2),if_pos (show isKey 12 by decide)];rfl
    clear hN;go_wp2_with fail
    refine hfit.mono ?_;rintro e w' ⟨rfl,hw'⟩;subst hw';have HW2:Hid (InsW w _ _ o r a n _ _ _ R):=HW.out.num R;go_wp2_with fail
    refine bodyPost_ret (results_cell_row (P:=Tryz.prog) rfl _ _ (w.heap.size+1+1) 97 #[.int .i64 (12),.int .i64 (rr),.int .i64 (aa),.int .i64 (R)] (0,0) _ rfl (Ycc HW2.out.r2 (.int .i64 (12)) (.int .i64 (rr)) (.int .i64 (aa)) (.int .i64 (R))) Tryz.underlying97 rfl Ycb) rfl ?_;exact ⟨by first|(rw [HE.out 0,HE.out 1,HE.out 2,HE.out 3];rfl)|rw [HE.out 0,HE.out 1,HE.out 2,HE.out 3],Y0b HW2.out.bel (by omega) _ _ _ _⟩
  ·have hN:insN k ch nd dv cell words 16 n=YbO k ch n 1 cell 2 k 0:=rfl;have hfit:=fits_any p2 k c2 ch n 1 cell false wc (S2.out.below HW.out.bel) hk hn.1 hn.2;obtain ⟨R,HR⟩:∃R,Hid (YbO k ch n 1 cell 2 k 0=R):=⟨_,rfl⟩;have hfR:YbO k ch n 1 cell (if false=true then 1 else 2) k 0=R:=HR.out;rw [hfR] at hfit;rw [HR.out] at hN;clear hfR;obtain ⟨a0,a1,a2,a3⟩:=HW.out.r0.at4;obtain ⟨b0,b1,b2,b3⟩:=HW.out.r1.at4;obtain ⟨z0,z1,z2,z3⟩:=HW.out.r2.at4;obtain ⟨i0,i1,i2,i3⟩:=HW.out.r3.at4;have i3f:=HW.out.r3.frozen 3;have z0f:=HW.out.r2.frozen 0;have z1f:=HW.out.r2.frozen 1;have z2f:=HW.out.r2.frozen 2;have z3f:=HW.out.r2.frozen 3;have hsz:=HW.out.sz;by_cases hneg:R<0
   ·have HE:Hid (∀j,insF k ch nd dv cell words o r a n j=0):=fun j=>by
     unfold insF;rw [HOP.out,hN,if_pos ⟨(show isKey 16 by decide),hneg⟩]
    clear hN;go_wp2_with fail
    refine hfit.mono ?_;rintro e w' ⟨rfl,hw'⟩;subst hw';have HW2:Hid (InsW w _ _ o r a n _ _ _ R):=HW.out.num R;go_wp2_with fail
    refine bodyPost_ret (results_cell_row (P:=Tryz.prog) rfl _ _ (w.heap.size+1+1) 97 #[.int .i64 (0),.int .i64 (0),.int .i64 (0),.int .i64 (0)] (0,0) _ rfl (Ycc HW2.out.r2 (.int .i64 (0)) (.int .i64 (0)) (.int .i64 (0)) (.int .i64 (0))) Tryz.underlying97 rfl Ycb) rfl ?_;exact ⟨by first|(rw [HE.out 0,HE.out 1,HE.out 2,HE.out 3];rfl)|rw [HE.out 0,HE.out 1,HE.out 2,HE.out 3],Y0b HW2.out.bel (by omega) _ _ _ _⟩
   ·have HE:Hid (∀j,insF k ch nd dv cell words o r a n j=if j=0 then (16:Int) else if j=1 then (rr:Int) else if j=2 then (aa:Int) else R):=fun j=>by
     unfold insF;rw [HOP.out,HRR.out,HAA.out,hN,if_neg (fun h=>hneg h.2),if_pos (show isKey 16 by decide)];rfl
    clear hN;go_wp2_with fail
    refine hfit.mono ?_;rintro e w' ⟨rfl,hw'⟩;subst hw';have HW2:Hid (InsW w _ _ o r a n _ _ _ R):=HW.out.num R;go_wp2_with fail
    refine bodyPost_ret (results_cell_row (P:=Tryz.prog) rfl _ _ (w.heap.size+1+1) 97 #[.int .i64 (16),.int .i64 (rr),.int .i64 (aa),.int .i64 (R)] (0,0) _ rfl (Ycc HW2.out.r2 (.int .i64 (16)) (.int .i64 (rr)) (.int .i64 (aa)) (.int .i64 (R))) Tryz.underlying97 rfl Ycb) rfl ?_;exact ⟨by first|(rw [HE.out 0,HE.out 1,HE.out 2,HE.out 3];rfl)|rw [HE.out 0,HE.out 1,HE.out 2,HE.out 3],Y0b HW2.out.bel (by omega) _ _ _ _⟩
  ·have hN:insN k ch nd dv cell words 13 n=YbO k ch n 2 cell 2 k 0:=rfl;have hfit:=fits_any p2 k c2 ch n 2 cell false wc (S2.out.below HW.out.bel) hk hn.1 hn.2;obtain ⟨R,HR⟩:∃R,Hid (YbO k ch n 2 cell 2 k 0=R):=⟨_,rfl⟩;have hfR:YbO k ch n 2 cell (if false=true then 1 else 2) k 0=R:=HR.out;rw [hfR] at hfit;rw [HR.out] at hN;clear hfR;obtain ⟨a0,a1,a2,a3⟩:=HW.out.r0.at4;obtain ⟨b0,b1,b2,b3⟩:=HW.out.r1.at4;obtain ⟨z0,z1,z2,z3⟩:=HW.out.r2.at4;obtain ⟨i0,i1,i2,i3⟩:=HW.out.r3.at4;have i3f:=HW.out.r3.frozen 3;have z0f:=HW.out.r2.frozen 0;have z1f:=HW.out.r2.frozen 1;have z2f:=HW.out.r2.frozen 2;have z3f:=HW.out.r2.frozen 3;have hsz:=HW.out.sz;by_cases hneg:R<0
   ·have HE:Hid (∀j,insF k ch nd dv cell words o r a n j=0):=fun j=>by
     unfold insF;rw [HOP.out,hN,if_pos ⟨(show isKey 13 by decide),hneg⟩]
    clear hN;go_wp2_with fail
    refine hfit.mono ?_;rintro e w' ⟨rfl,hw'⟩;subst hw';have HW2:Hid (InsW w _ _ o r a n _ _ _ R):=HW.out.num R;go_wp2_with fail
    refine bodyPost_ret (results_cell_row (P:=Tryz.prog) rfl _ _ (w.heap.size+1+1) 97 #[.int .i64 (0),.int .i64 (0),.int .i64 (0),.int .i64 (0)] (0,0) _ rfl (Ycc HW2.out.r2 (.int .i64 (0)) (.int .i64 (0)) (.int .i64 (0)) (.int .i64 (0))) Tryz.underlying97 rfl Ycb) rfl ?_;exact ⟨by first|(rw [HE.out 0,HE.out 1,HE.out 2,HE.out 3];rfl)|rw [HE.out 0,HE.out 1,HE.out 2,HE.out 3],Y0b HW2.out.bel (by omega) _ _ _ _⟩
   ·have HE:Hid (∀j,insF k ch nd dv cell words o r a n j=if j=0 then (13:Int) else if j=1 then (rr:Int) else if j=2 then (aa:Int) else R):=fun j=>by
     unfold insF;rw [HOP.out,HRR.out,HAA.out,hN,if_neg (fun h=>hneg h.2),if_pos (show isKey 13 by decide)];rfl
    clear hN;go_wp2_with fail
    refine hfit.mono ?_;rintro e w' ⟨rfl,hw'⟩;subst hw';have HW2:Hid (InsW w _ _ o r a n _ _ _ R):=HW.out.num R;go_wp2_with fail
    refine bodyPost_ret (results_cell_row (P:=Tryz.prog) rfl _ _ (w.heap.size+1+1) 97 #[.int .i64 (13),.int .i64 (rr),.int .i64 (aa),.int .i64 (R)] (0,0) _ rfl (Ycc HW2.out.r2 (.int .i64 (13)) (.int .i64 (rr)) (.int .i64 (aa)) (.int .i64 (R))) Tryz.underlying97 rfl Ycb) rfl ?_;exact ⟨by first|(rw [HE.out 0,HE.out 1,HE.out 2,HE.out 3];rfl)|rw [HE.out 0,HE.out 1,HE.out 2,HE.out 3],Y0b HW2.out.bel (by omega) _ _ _ _⟩
  ·have hN:insN k ch nd dv cell words 14 n=devF dv cell nd:=rfl;obtain ⟨a0,a1,a2,a3⟩:=HW.out.r0.at4;obtain ⟨b0,b1,b2,b3⟩:=HW.out.r1.at4;obtain ⟨z0,z1,z2,z3⟩:=HW.out.r2.at4;obtain ⟨i0,i1,i2,i3⟩:=HW.out.r3.at4;have i3f:=HW.out.r3.frozen 3;have z0f:=HW.out.r2.frozen 0;have z1f:=HW.out.r2.frozen 1;have z2f:=HW.out.r2.frozen 2;have z3f:=HW.out.r2.frozen 3;have hsz:=HW.out.sz;go_wp2_with fail
   go_loopw [10] (fun i wr=>∃d:Nat,d≤nd∧i=.int .i64 d∧Hid (InsW w wr (Yc (.slice q0 m0 c0q) (.slice q1 m1 c1) (.slice p2 k c2) (.slice p3 nd c3)) o r a n (14:Nat) rr aa (devF dv cell d))) (fun i _=>nd-(intOf i).toNat)
   case atStart=>exact ⟨0,Nat.zero_le _,rfl,HW.out.num (-1)⟩
   case round=>
    clear a0 a1 a2 a3 b0 b1 b2 b3 z0 z1 z2 z3 i0 i1 i2 i3 i3f z0f z1f z2f z3f hsz;obtain ⟨d,hd,rfl,HD⟩:=hrel;obtain ⟨a0,a1,a2,a3⟩:=HD.out.r0.at4;obtain ⟨b0,b1,b2,b3⟩:=HD.out.r1.at4;obtain ⟨z0,z1,z2,z3⟩:=HD.out.r2.at4;obtain ⟨i0,i1,i2,i3⟩:=HD.out.r3.at4;have i3f:=HD.out.r3.frozen 3;have z0f:=HD.out.r2.frozen 0;have z1f:=HD.out.r2.frozen 1;have z2f:=HD.out.r2.frozen 2;have z3f:=HD.out.r2.frozen 3;have hsz:=HD.out.sz;by_cases hlt:d<nd
    ·have hli:(d:Int)<(nd:Int):=by omega
     obtain ⟨b,off,rfl,hc⟩:=(S3.out.below HD.out.bel).at (by omega);have c0:=hc d hlt;clear hc;have HF:Hid (devF dv cell (d+1)=if dv d=cell then (d:Int) else devF dv cell d):=rfl;generalize dv d=y at *;by_cases e:y=(cell:Int)
     ·have HD2:Hid (InsW w (wr.setCell ⟨w.heap.size+1+1+1,3,none⟩ (.int .i64 d)) (Yc (.slice q0 m0 c0q) (.slice q1 m1 c1) (.slice p2 k c2) (.slice (some ⟨b,off,none⟩) nd c3)) o r a n (14:Nat) rr aa (devF dv cell (d+1))):=by
       rw [HF.out,if_pos e];exact HD.out.num d
      go_wp2_with fail
      exact ⟨⟨d+1,by omega,by go_num,HD2⟩,by simp [intOf];omega⟩
     ·have HD2:Hid (InsW w wr (Yc (.slice q0 m0 c0q) (.slice q1 m1 c1) (.slice p2 k c2) (.slice (some ⟨b,off,none⟩) nd c3)) o r a n (14:Nat) rr aa (devF dv cell (d+1))):=by
       rw [HF.out,if_neg e];exact HD.out
      go_wp2_with fail
      exact ⟨⟨d+1,by omega,by go_num,HD2⟩,by simp [intOf];omega⟩
    ·obtain rfl:d=nd:=by omega
     obtain ⟨R,HR⟩:∃R,Hid (devF dv cell d=R):=⟨_,rfl⟩;rw [HR.out] at hN i3 HD;by_cases hneg:R<0
     ·have HE:Hid (∀j,insF k ch d dv cell words o r a n j=0):=fun j=>by
       unfold insF;rw [HOP.out,hN,if_pos ⟨(show isKey 14 by decide),hneg⟩]
      clear hN;go_wp2_with fail
      refine bodyPost_ret (results_cell_row (P:=Tryz.prog) rfl _ _ (w.heap.size+1+1) 97 #[.int .i64 (0),.int .i64 (0),.int .i64 (0),.int .i64 (0)] (0,0) _ rfl (Ycc HD.out.r2 (.int .i64 (0)) (.int .i64 (0)) (.int .i64 (0)) (.int .i64 (0))) Tryz.underlying97 rfl Ycb) rfl ?_;exact ⟨by first|(rw [HE.out 0,HE.out 1,HE.out 2,HE.out 3];rfl)|rw [HE.out 0,HE.out 1,HE.out 2,HE.out 3],Y0b HD.out.bel (by omega) _ _ _ _⟩
     ·have HE:Hid (∀j,insF k ch d dv cell words o r a n j=if j=0 then (14:Int) else if j=1 then (rr:Int) else if j=2 then (aa:Int) else R):=fun j=>by
       unfold insF;rw [HOP.out,HRR.out,HAA.out,hN,if_neg (fun h=>hneg h.2),if_pos (show isKey 14 by decide)];rfl
      clear hN;go_wp2_with fail
      refine bodyPost_ret (results_cell_row (P:=Tryz.prog) rfl _ _ (w.heap.size+1+1) 97 #[.int .i64 (14),.int .i64 (rr),.int .i64 (aa),.int .i64 (R)] (0,0) _ rfl (Ycc HD.out.r2 (.int .i64 (14)) (.int .i64 (rr)) (.int .i64 (aa)) (.int .i64 (R))) Tryz.underlying97 rfl Ycb) rfl ?_;exact ⟨by first|(rw [HE.out 0,HE.out 1,HE.out 2,HE.out 3];rfl)|rw [HE.out 0,HE.out 1,HE.out 2,HE.out 3],Y0b HD.out.bel (by omega) _ _ _ _⟩
 ·have HE:Hid (∀j,insF k ch nd dv cell words o r a n j=if j=0 then (op:Int) else if j=1 then (rr:Int) else if j=2 then (aa:Int) else n):=fun j=>by
   unfold insF;rw [HOP.out,HRR.out,HAA.out,if_neg (fun h=>hkey h.1),if_neg hkey]
  have hne:op≠8∧op≠9∧op≠10∧op≠11∧op≠12∧op≠16∧op≠13∧op≠14:=by unfold isKey at hkey;omega
  obtain ⟨n8,n9,n10,n11,n12,n16,n13,n14⟩:=hne;clear hkey;obtain ⟨a0,a1,a2,a3⟩:=HW.out.r0.at4;obtain ⟨b0,b1,b2,b3⟩:=HW.out.r1.at4;obtain ⟨z0,z1,z2,z3⟩:=HW.out.r2.at4;obtain ⟨i0,i1,i2,i3⟩:=HW.out.r3.at4;have i3f:=HW.out.r3.frozen 3;have z0f:=HW.out.r2.frozen 0;have z1f:=HW.out.r2.frozen 1;have z2f:=HW.out.r2.frozen 2;have z3f:=HW.out.r2.frozen 3;have hsz:=HW.out.sz;go_wp2_with fail
  refine bodyPost_ret (results_cell_row (P:=Tryz.prog) rfl _ _ (w.heap.size+1+1) 97 #[.int .i64 (op),.int .i64 (rr),.int .i64 (aa),.int .i64 (n)] (0,0) _ rfl (Ycc HW.out.r2 (.int .i64 (op)) (.int .i64 (rr)) (.int .i64 (aa)) (.int .i64 (n))) Tryz.underlying97 rfl Ycb) rfl ?_;exact ⟨by first|(rw [HE.out 0,HE.out 1,HE.out 2,HE.out 3];rfl)|rw [HE.out 0,HE.out 1,HE.out 2,HE.out 3],Y0b HW.out.bel (by omega) _ _ _ _⟩
end Go.Proofs.YtdoghgnifkgfdaaGreat
