import Derived.Test.YtdoghgnifkgfdaaGreatA05
set_option maxRecDepth 100000
set_option maxHeartbeats 16000000
open Option renaming none->Hn,some->Gn
open Go renaming World->En,Value->Dn,undef->Bn,Calls->Zm,Program->Ym,block_lt_of_cell->Wm,Addr->Vm
open Bool renaming true->Um,false->Tm
open Go.RowKit renaming Below->Sm
open Nat renaming le_trans->Qm,zero_le->Pm,le_refl->Om,lt_of_lt_of_le->Lm,add_assoc->Jm
open List renaming range->Hm,getElem?_append_left->Em
namespace Go.Proofs.YtdoghgnifkgfdaaGreat
open Tryz Go.RowKit
theorem Xp(a b:Int)(w:En):
  Zm prog 97 #[.int .i64 a,.int .i64 b] w (Vq (0<=a/\a<b) (·=w)):=by
 go_enter func97,ntmps97
 go_wp2
 ·go_ret;exact Vq.of (b:=decide (a<b)) l6 rfl
 ·go_ret;exact Vq.no E0 rfl
theorem eC(a b:Int)(w:En):
  Zm prog 132 #[.int .i64 a,.int .i64 b] w (Vq (0<=a/\a<b) (·=w)):=by
 go_enter func132,ntmps132
 go_wp2
 ·go_ret;exact Vq.of (b:=decide (a<b)) l6 rfl
 ·go_ret;exact Vq.no E0 rfl
def B_(n k:Nat)(z:Nat->Int):Prop:=(∀i,i<k->aM n z i)/\sumTo z k<=200
theorem B_.step{n k:Nat}{z:Nat->Int}(h:B_ n k z)(h1:0<=z (k*2)/\z (k*2)<n)(h2:1<=z (k*2+1))(h3:z (k*2+1)<=200-sumTo z k):B_ n (k+1) z:=by
 refine⟨fun i hi=>?_,by simp only[sumTo];omega⟩;rcases Nat.lt_or_ge i k with hl|hl
 ·exact h.1 i hl
 ·obtain rfl:i=k:=by omega
  exact⟨h1.1,h1.2,h2⟩
theorem o_(z:Nat->Int)(k m:Nat)(hkm:k<=m)(h:∀i,i<m->1<=z (i*2+1)):sumTo z k<=sumTo z m:=by
 induction m with
 |zero=>obtain rfl:k=0:=by omega
        exact Int.le_refl _
 |succ m ih=>
  rcases Nat.lt_or_ge k (m+1)with hl|hl
  ·have h1:=ih E0 (fun i hi=>h i E0);have h2:=h m E0;simp only[sumTo];omega
  ·obtain rfl:k=m+1:=by omega
   exact Int.le_refl _
theorem rc0{n m k:Nat}{z:Nat->Int}(hk:k<m)(h:¬(0<=z (k*2)/\z (k*2)<n)\/z (k*2+1)<1\/200-sumTo z k<z (k*2+1)):¬CH n m z:=by
 intro ⟨_,h2,h3⟩;have hw:=h2 k hk;unfold aM at hw;have:=o_ z (k+1) m hk (fun i hi=>(h2 i hi).2.2);simp only[sumTo]at this;omega
theorem zI(p:Option Vm)(m cap n:Nat)(z:Nat->Int)(w:En)(hs:Sl w p (m*2) (fun j=>.int .i64 (z j)))(hb:16*m<=140737488355328):
  Zm prog 91 #[.slice p m cap,.int .i64 n] w (Vq (CH n m z) (Sm w.heap.size w)):=by
 have hB:m<=8796093022208:=E0;have HS:Hid (Sl w p (m*2) (fun j=>.int .i64 (z j))):=hs;clear hs hb;by_cases h6:m<=6
 ·go_enter func91,ntmps91
  go_wp2_with fail
  go_loopw [5,13] (fun l i wr=>∃k:Nat,k<=m/\i=.int .i64 k/\l=.int .i64 (200-sumTo z k)/\Hid (B_ n k z)/\Hid (Sm w.heap.size w wr)) (fun _ i _=>m-(intOf i).toNat)
  case atStart=>exact⟨0,Pm _,rfl,rfl,⟨fun i hi=>absurd hi E0,by simp[sumTo]⟩,Below.refl _ _⟩
  case round=>
   obtain⟨k,hk,rfl,rfl,HI,HW⟩:=hrel;have vX:sumTo z k<=200:=HI.out.2;have sA:0<=sumTo z k:=by have:=(VN z k (fun i hi=>(HI.out.1 i hi).2.2)).1;omega
   have ju:w.heap.size<=wr.heap.size:=HW.out.size;by_cases yo:k<m
   ·obtain⟨b,off,rfl,hc⟩:=(HS.out.below HW.out).at E0;have c0:=hc (k*2) E0;have c1:=hc (k*2+1) E0;refine Ah fun Jv=>?_;rw[<-Jm]at c1;clear hc;have HT:Hid (∀_,_):=fun h=>@rc0 n m k z yo h;have HU:Hid (∀_ _ _,_):=fun h1 h2 h3=>HI.out.step (k:=k) h1 h2 h3;have HS1:Hid (sumTo z (k+1)=sumTo z k+z (k*2+1)):=rfl;by_cases hx:0<=z (k*2)/\z (k*2)<(n:Int)
    ·have HX:Hid (0<=z (k*2)/\z (k*2)<(n:Int)):=hx;clear hx;generalize hz:z (k*2)=x at *;generalize hy:z (k*2+1)=y at *;have HZ:Hid (z (k*2)=x):=hz;have HY:Hid (z (k*2+1)=y):=hy;clear hz hy;go_wp2_with (go_at_call 97;refine(Vq.says (Xp _ _ _) HX.out).mono ?_;rintro e w' ⟨rfl,rfl⟩)
     case roundEnd=>
      refine⟨⟨k+1,E0,E1,by rw[HS1.out];go_num,?_,?_⟩,U1⟩
      ·refine HU.out HX.out ?_ ?_<;>omega
      ·exact HW.out.alloc E0 _
     all_goals
      go_ret;exact Vq.no (HT.out E0) (HW.out.alloc E0 _)
    ·have HX:Hid (¬(0<=z (k*2)/\z (k*2)<(n:Int))):=hx;clear hx;generalize hz:z (k*2)=x at *;generalize hy:z (k*2+1)=y at *;go_wp2_with (go_at_call 97;refine(Vq.Vw (Xp _ _ _) HX.out).mono ?_;rintro e w' ⟨rfl,rfl⟩);go_ret;exact Vq.no (HT.out (Or.inl HX.out)) (HW.out.alloc E0 _)
   ·obtain rfl:k=m:=by omega
    go_wp2_with fail
    go_ret;exact Vq.yes ⟨h6,HI.out.1,HI.out.2⟩ HW.out
 ·go_enter func91,ntmps91
  go_wp2_with fail
  go_ret;exact Vq.no (fun h=>h6 h.1) k9
def XL(P:Nat->Prop)(n:Nat)(w:En)(e:Ending)(w':En):Prop:=
 ∃x:Int,e=.returned (.int .i64 x)/\((x=-1/\Lp P n)\/∃i:Nat,x=i/\IE P n i)/\Sm w.heap.size w w'
theorem XL.none{P:Nat->Prop}{n:Nat}{w w':En}(h:Lp P n)(hb:Sm w.heap.size w w'):XL P n w (.returned (.int .i64 (-1))) w':=⟨-1,rfl,.inl ⟨rfl,h⟩,hb⟩
theorem XL.some{P:Nat->Prop}{n i:Nat}{w w':En}(h:IE P n i)(hb:Sm w.heap.size w w'):XL P n w (.returned (.int .i64 i)) w':=⟨i,rfl,.inr ⟨i,rfl,h⟩,hb⟩
theorem EN(p:Option Vm)(m cap n h:Nat)(z:Nat->Int)(w:En)(hh:w.cell? ⟨h,0,Hn⟩=Gn (.int .i64 n))(hs:Sl w p (m*2) (fun j=>.int .i64 (z j)))(hb:16*m<=140737488355328):
  Zm prog 90 #[.slice p m cap,.pointer (Gn ⟨h,0,Hn⟩)] w (Vq (¬CH n m z) (Sm w.heap.size w)):=by
 have HS:Hid (Sl w p (m*2) (fun j=>.int .i64 (z j))):=hs;have HN:Hid (16*m<=140737488355328):=hb;clear hs hb;by_cases Yr:CH n m z
 ·have HO:Hid (CH n m z):=Yr;clear Yr
  go_enter func90,ntmps90
  go_wp2_with (go_at_call 91;refine(Vq.says (zI p m cap n z _ HS.out HN.out) HO.out).mono ?_;rintro e w' ⟨rfl,Dq⟩)
  go_ret;exact Vq.no (fun h=>h HO.out) Dq
 ·have HO:Hid (¬CH n m z):=Yr;clear Yr
  go_enter func90,ntmps90
  go_wp2_with (go_at_call 91;refine(Vq.Vw (zI p m cap n z _ HS.out HN.out) HO.out).mono ?_;rintro e w' ⟨rfl,Dq⟩)
  go_ret;exact Vq.yes HO.out Dq
theorem KT(p:Option Vm)(n cap:Nat)(F:Nat->Dn)(h:Nat)(P:Nat->Prop)(w:En)(hs:Sl w p n F)(hb:n<=8796093022208)
  (fL:∀i,i<n->∀wr,Sm w.heap.size w wr->Zm prog 90 #[F i,.pointer (Gn ⟨h,0,Hn⟩)] wr (Vq (¬P i) (Sm wr.heap.size wr))):
  Zm prog 89 #[.slice p n cap,.func (.func 90) #[] #[.pointer (Gn ⟨h,0,Hn⟩)]] w (XL P n w):=by
 have HS:Hid (Sl w p n F):=hs;have HC:Hid (∀i,i<n->∀wr,Sm w.heap.size w wr->Zm prog 90 #[F i,.pointer (Gn ⟨h,0,Hn⟩)] wr (Vq (¬P i) (Sm wr.heap.size wr))):=fL;clear hs fL
 go_enter func89,ntmps89
 go_wp2_with fail
 go_loopw [8] (fun i wr=>∃k:Nat,k<=n/\i=.int .i64 k/\Hid (Lp P k)/\Hid (Sm w.heap.size w wr)) (fun i _=>n-(intOf i).toNat)
 case atStart=>exact⟨0,Pm _,rfl,Lp.zero _,Below.refl _ _⟩
 case round=>
  obtain⟨k,hk,rfl,HI,HW⟩:=hrel;by_cases yo:k<n
  ·obtain⟨b,off,rfl,hc⟩:=(HS.out.below HW.out).at E0;have c0:=hc k E0;clear hc;by_cases Yr:P k
   ·have HO:Hid (P k):=Yr;clear Yr;go_wp2_with (go_at_call 90;refine(Vq.Vw (HC.out k yo wr HW.out) (fun h=>h HO.out)).mono ?_;rintro e w' ⟨rfl,Dq⟩);exact Cc
   ·have HO:Hid (¬P k):=Yr;clear Yr;go_wp2_with (go_at_call 90;refine(Vq.says (HC.out k yo wr HW.out) HO.out).mono ?_;rintro e w' ⟨rfl,Dq⟩);exact Ad
  ·obtain rfl:k=n:=by omega
   exact Zf
def ChV(n:Nat)(k f t:Int):Prop:=(k=1\/k=2)/\(0<=f/\f<n)/\(0<=t/\t<n)/\f≠t
theorem uG(k f t:Int)(n:Nat)(w:En):
  Zm prog 94 #[.agg #[.int .i64 k,.int .i64 f,.int .i64 t],.int .i64 n] w (Vq (ChV n k f t) (Sm w.heap.size w)):=by
 refine rf fun HB=>?_;by_cases hk:k=1\/k=2
 ·have jK:(k != 1)=Tm\/((k != 1)=Um/\(k != 2)=Tm):=by
   rcases hk with h|h
   ·exact .inl X2
   ·exact .inr ⟨by subst h;rfl,X2⟩
  have HK:Hid (k=1\/k=2):=hk;clear hk;by_cases hf:0<=f/\f<(n:Int)
  ·have HF:Hid (0<=f/\f<(n:Int)):=hf;clear hf;by_cases ht:0<=t/\t<(n:Int)
   ·have HT:Hid (0<=t/\t<(n:Int)):=ht;clear ht;rcases jK with h1|⟨h1,h2⟩
    all_goals
     go_enter func94,ntmps94
     go_wp2_with (first|(go_at_call_of 97 (f);refine(Vq.says (Xp f _ _) HF.out).mono ?_;rintro e w' ⟨rfl,rfl⟩)|(go_at_call_of 97 (t);refine(Vq.says (Xp t _ _) HT.out).mono ?_;rintro e w' ⟨rfl,rfl⟩))
     go_ret;refine Vq.of (b:=(f != t)) ?_ (HB.out _);simp only[bne_iff_ne,ne_eq,ChV];exact⟨fun h=>⟨HK.out,HF.out,HT.out,h⟩,fun h=>h.2.2.2⟩
   ·have HT:Hid (¬(0<=t/\t<(n:Int))):=ht;clear ht;rcases jK with h1|⟨h1,h2⟩
    all_goals
     go_enter func94,ntmps94
     go_wp2_with (first|(go_at_call_of 97 (f);refine(Vq.says (Xp f _ _) HF.out).mono ?_;rintro e w' ⟨rfl,rfl⟩)|(go_at_call_of 97 (t);refine(Vq.Vw (Xp t _ _) HT.out).mono ?_;rintro e w' ⟨rfl,rfl⟩))
     go_ret;exact Vq.no (fun h=>HT.out h.2.2.1) (HB.out _)
  ·have HF:Hid (¬(0<=f/\f<(n:Int))):=hf;clear hf;rcases jK with h1|⟨h1,h2⟩
   all_goals
    go_enter func94,ntmps94
    go_wp2_with (go_at_call 97;refine(Vq.Vw (Xp f _ _) HF.out).mono ?_;rintro e w' ⟨rfl,rfl⟩)
    go_ret;exact Vq.no (fun h=>HF.out h.2.1) (HB.out _)
 ·have h1:(k != 1)=true:=by simp;omega
  have h2:(k != 2)=true:=by simp;omega
  have HK:Hid (¬(k=1\/k=2)):=hk;clear hk
  go_enter func94,ntmps94
  go_wp2_with fail
  go_ret;exact Vq.no (fun h=>HK.out h.1) (HB.out _)
theorem ZK(k f t:Int)(n h:Nat)(w:En)(hh:w.cell? ⟨h,0,Hn⟩=Gn (.int .i64 n)):
  Zm prog 93 #[.agg #[.int .i64 k,.int .i64 f,.int .i64 t],.pointer (Gn ⟨h,0,Hn⟩)] w (Vq (¬ChV n k f t) (Sm w.heap.size w)):=by
 have yo:h<w.heap.size:=Wm hh;by_cases Yr:ChV n k f t
 ·have HO:Hid (ChV n k f t):=Yr;clear Yr
  go_enter func93,ntmps93
  go_wp2_with (go_at_call 94;refine(Vq.says (uG k f t n _) HO.out).mono ?_;rintro e w' ⟨rfl,Dq⟩)
  go_ret;exact Vq.no (fun h=>h HO.out) (Gy Dq)
 ·have HO:Hid (¬ChV n k f t):=Yr;clear Yr
  go_enter func93,ntmps93
  go_wp2_with (go_at_call 94;refine(Vq.Vw (uG k f t n _) HO.out).mono ?_;rintro e w' ⟨rfl,Dq⟩)
  go_ret;exact Vq.yes HO.out (Gy Dq)
theorem qM(d:Int)(n h:Nat)(w:En)(hh:w.cell? ⟨h,0,Hn⟩=Gn (.int .i64 n)):
  Zm prog 96 #[.int .i64 d,.pointer (Gn ⟨h,0,Hn⟩)] w (Vq (¬(0<=d/\d<(n:Int))) (Sm w.heap.size w)):=by
 have yo:h<w.heap.size:=Wm hh;by_cases Yr:(0<=d/\d<(n:Int))
 ·have HO:Hid ((0<=d/\d<(n:Int))):=Yr;clear Yr
  go_enter func96,ntmps96
  go_wp2_with (go_at_call 97;refine(Vq.says (Xp d n _) HO.out).mono ?_;rintro e w' ⟨rfl,rfl⟩)
  go_ret;exact Vq.no (fun h=>h HO.out) k9
 ·have HO:Hid (¬(0<=d/\d<(n:Int))):=Yr;clear Yr
  go_enter func96,ntmps96
  go_wp2_with (go_at_call 97;refine(Vq.Vw (Xp d n _) HO.out).mono ?_;rintro e w' ⟨rfl,rfl⟩)
  go_ret;exact Vq.yes HO.out k9
section
variable (p:Option Vm)(n cap:Nat)(z:Nat->Int)(h:Nat)(P:Nat->Prop)(w:En)
include p n cap z h P w
theorem JO(hs:Sl w p (n*3) (fun j=>.int .i64 (z j)))(hb:n<=17592186044416)
  (fL:∀i,i<n->∀wr,Sm w.heap.size w wr->Zm prog 93 #[.agg #[.int .i64 (z (i*3)),.int .i64 (z (i*3+1)),.int .i64 (z (i*3+2))],.pointer (Gn ⟨h,0,Hn⟩)] wr (Vq (¬P i) (Sm wr.heap.size wr))):
  Zm prog 92 #[.slice p n cap,.func (.func 93) #[] #[.pointer (Gn ⟨h,0,Hn⟩)]] w (XL P n w):=by
 have HS:Hid (Sl w p (n*3) (fun j=>.int .i64 (z j))):=hs;have HC:Hid (∀i,i<n->∀wr,Sm w.heap.size w wr->Zm prog 93 #[.agg #[.int .i64 (z (i*3)),.int .i64 (z (i*3+1)),.int .i64 (z (i*3+2))],.pointer (Gn ⟨h,0,Hn⟩)] wr (Vq (¬P i) (Sm wr.heap.size wr))):=fL;clear hs fL
 go_enter func92,ntmps92
 go_wp2_with fail
 go_loopw [8] (fun i wr=>∃k:Nat,k<=n/\i=.int .i64 k/\Hid (Lp P k)/\Hid (Sm w.heap.size w wr)) (fun i _=>n-(intOf i).toNat)
 case atStart=>exact⟨0,Pm _,rfl,Lp.zero _,Below.refl _ _⟩
 case round=>
  obtain⟨k,hk,rfl,HI,HW⟩:=hrel;by_cases yo:k<n
  ·obtain⟨b,off,rfl,hc⟩:=(HS.out.below HW.out).at E0;refine Vb fun c0 c1 c2=>?_;rw[<-Jm]at c1 c2;clear hc;by_cases Yr:P k
   ·have HO:Hid (P k):=Yr;clear Yr;go_wp2_with (go_at_call 93;refine(Vq.Vw (HC.out k yo wr HW.out) (fun h=>h HO.out)).mono ?_;rintro e w' ⟨rfl,Dq⟩);exact Cc
   ·have HO:Hid (¬P k):=Yr;clear Yr;go_wp2_with (go_at_call 93;refine(Vq.says (HC.out k yo wr HW.out) HO.out).mono ?_;rintro e w' ⟨rfl,Dq⟩);exact Ad
  ·obtain rfl:k=n:=by omega
   exact Zf
theorem yR(hs:Sl w p (n) (fun j=>.int .i64 (z j)))(hb:n<=17592186044416)
  (fL:∀i,i<n->∀wr,Sm w.heap.size w wr->Zm prog 96 #[.int .i64 (z i),.pointer (Gn ⟨h,0,Hn⟩)] wr (Vq (¬P i) (Sm wr.heap.size wr))):
  Zm prog 95 #[.slice p n cap,.func (.func 96) #[] #[.pointer (Gn ⟨h,0,Hn⟩)]] w (XL P n w):=by
 have HS:Hid (Sl w p (n) (fun j=>.int .i64 (z j))):=hs;have HC:Hid (∀i,i<n->∀wr,Sm w.heap.size w wr->Zm prog 96 #[.int .i64 (z i),.pointer (Gn ⟨h,0,Hn⟩)] wr (Vq (¬P i) (Sm wr.heap.size wr))):=fL;clear hs fL
 go_enter func95,ntmps95
 go_wp2_with fail
 go_loopw [8] (fun i wr=>∃k:Nat,k<=n/\i=.int .i64 k/\Hid (Lp P k)/\Hid (Sm w.heap.size w wr)) (fun i _=>n-(intOf i).toNat)
 case atStart=>exact⟨0,Pm _,rfl,Lp.zero _,Below.refl _ _⟩
 case round=>
  obtain⟨k,hk,rfl,HI,HW⟩:=hrel;by_cases yo:k<n
  ·obtain⟨b,off,rfl,hc⟩:=(HS.out.below HW.out).at E0;have c0:=hc (k) E0;clear hc;by_cases Yr:P k
   ·have HO:Hid (P k):=Yr;clear Yr;go_wp2_with (go_at_call 96;refine(Vq.Vw (HC.out k yo wr HW.out) (fun h=>h HO.out)).mono ?_;rintro e w' ⟨rfl,Dq⟩);exact Cc
   ·have HO:Hid (¬P k):=Yr;clear Yr;go_wp2_with (go_at_call 96;refine(Vq.says (HC.out k yo wr HW.out) HO.out).mono ?_;rintro e w' ⟨rfl,Dq⟩);exact Ad
  ·obtain rfl:k=n:=by omega
   exact Zf
end
open Go.Maps
theorem TL(w:En):(zeroValue 3).run prog w=.ok (.int .i64 0) w:=J0
theorem r_{D:DataW Unit}{c:Ur}{k n v:Int}{kl:Lit}(hD:ZA D c c.Zo)(hk:VI 1 k n kl)(hh:Maps.has D kl=Um)(hv:D.atKey kl (.lit (.int .i64 0))=.lit (.int .i64 v))(cell:Int):(v==cell)=Um↔Vu c cell n k 1:=by
 obtain⟨i,hi,rfl,rfl,_⟩:=((hD.2 _ _ _ _ hk).1).1 hh;have:=((hD.2 _ _ _ _ hk).2 i hi rfl rfl).1 rfl;exact Je
theorem F50{D:DataW Unit}{c:Ur}{k n:Int}{kl:Lit}(hD:ZA D c c.Zo)(hk:VI 1 k n kl)(hh:Maps.has D kl=Tm)(cell:Int):¬Vu c cell n k 1:=by
 intro ⟨h1,h2,h3,_⟩;have:Maps.has D kl=true:=((hD.2 _ _ _ _ hk).1).2 ⟨n.toNat,E0,E0,h3.symm,E0⟩;rw[hh]at this;cases this
theorem W80(c:Ur)(cell code k n:Int)(dv:Dn)(b:Nat)(w:En)(hu:cy w b c)(wk:(Lit.int .i64 k).wf=Um)(wn:(Lit.int .i64 n).wf=Um):
  Zm prog 133 #[.agg #[.int .i64 cell,.int .i64 code,dv,.map (Gn b)],.agg #[.int .i64 1,.int .i64 k,.int .i64 n]] w (Vq (Vu c cell n k 1) (Sm w.heap.size w)):=by
 obtain⟨m,D,Io,hD⟩:=hu;obtain⟨kl,DC⟩:=MS 1 k n (wfi E0 E0) wk wn;refine P9 fun HB=>?_;have HK:Hid (keyOf prog 231 (.agg #[.int .i64 1,.int .i64 k,.int .i64 n])=Gn kl):=DC;have HO:Hid (w.ownsMap prog 231 (plainElem prog 3) b m D):=Io;have HD:Hid (ZA D c c.Zo):=hD;clear Io hD DC wk wn;cases hh:Maps.has D kl
 ·have HN:Hid (¬Vu c cell n k 1):=F50 HD.out HK.out hh cell;exact dc
 ·have HY:Hid (∀v,D.atKey kl (.lit (.int .i64 0))=.lit (.int .i64 v)->((v==cell)=Um↔Vu c cell n k 1)):=fun v hv=>r_ HD.out HK.out hh hv cell;exact vb
theorem t_{D:DataW Unit}{c:Ur}{k n v:Int}{kl:Lit}(hD:ZA D c c.Zo)(hk:VI 2 k n kl)(hh:Maps.has D kl=Um)(hv:D.atKey kl (.lit (.int .i64 0))=.lit (.int .i64 v))(cell:Int):(v==cell)=Um↔Vu c cell n k 2:=by
 obtain⟨i,hi,rfl,rfl,_⟩:=((hD.2 _ _ _ _ hk).1).1 hh;have:=((hD.2 _ _ _ _ hk).2 i hi rfl rfl).2 rfl;exact Je
theorem G50{D:DataW Unit}{c:Ur}{k n:Int}{kl:Lit}(hD:ZA D c c.Zo)(hk:VI 2 k n kl)(hh:Maps.has D kl=Tm)(cell:Int):¬Vu c cell n k 2:=by
 intro ⟨h1,h2,h3,_⟩;have:Maps.has D kl=true:=((hD.2 _ _ _ _ hk).1).2 ⟨n.toNat,E0,E0,h3.symm,E0⟩;rw[hh]at this;cases this
theorem X80(c:Ur)(cell code k n:Int)(dv:Dn)(b:Nat)(w:En)(hu:cy w b c)(wk:(Lit.int .i64 k).wf=Um)(wn:(Lit.int .i64 n).wf=Um):
  Zm prog 133 #[.agg #[.int .i64 cell,.int .i64 code,dv,.map (Gn b)],.agg #[.int .i64 2,.int .i64 k,.int .i64 n]] w (Vq (Vu c cell n k 2) (Sm w.heap.size w)):=by
 obtain⟨m,D,Io,hD⟩:=hu;obtain⟨kl,DC⟩:=MS 2 k n (wfi E0 E0) wk wn;refine P9 fun HB=>?_;have HK:Hid (keyOf prog 231 (.agg #[.int .i64 2,.int .i64 k,.int .i64 n])=Gn kl):=DC;have HO:Hid (w.ownsMap prog 231 (plainElem prog 3) b m D):=Io;have HD:Hid (ZA D c c.Zo):=hD;clear Io hD DC wk wn;cases hh:Maps.has D kl
 ·have HN:Hid (¬Vu c cell n k 2):=G50 HD.out HK.out hh cell;exact dc
 ·have HY:Hid (∀v,D.atKey kl (.lit (.int .i64 0))=.lit (.int .i64 v)->((v==cell)=Um↔Vu c cell n k 2)):=fun v hv=>t_ HD.out HK.out hh hv cell;exact vb
theorem OA{w:En}{b:Nat}{c:Ur}(h:cy w b c)(o:Obj):cy (w.alloc o) b c:=by
 obtain⟨n,D,h1,h2⟩:=h;exact⟨n,D,h1.alloc o,h2⟩
theorem TD{w w':En}{b:Nat}{c:Ur}(h:cy w b c)(hb:Sm w.heap.size w w'):cy w' b c:=by
 obtain⟨n,D,h1,h2⟩:=h;exact⟨n,D,h1.kept (row:=Hn) ⟨hb.os,hb.tape,hb.output,hb.size,fun k hk _=>hb.block k hk⟩ P0,h2⟩
theorem Sb0(cell code op r a n:Int)(dv mp:Dn)(w:En)(hr:¬(0<=r/\r<4)):
  Zm prog 118 #[.agg #[.int .i64 cell,.int .i64 code,dv,mp],.agg #[.int .i64 op,.int .i64 r,.int .i64 a,.int .i64 n]] w fun e w'=>e=.returned (.bool Tm)/\Sm w.heap.size w w':=by
 refine P9 fun HB=>?_;have HR:Hid (¬(0<=r/\r<4)):=hr;clear hr
 go_enter func118,ntmps118
 go_wp2_with (go_at_call 97;refine(Vq.Vw (Xp r _ _) HR.out).mono ?_;rintro e w' ⟨rfl,rfl⟩)
 go_ret;exact⟨rfl,HB.out _ _⟩
theorem Rb0(cell code op r a n:Int)(dv mp:Dn)(w:En)(hr:0<=r/\r<4)(ha:¬(0<=a/\a<4)):
  Zm prog 118 #[.agg #[.int .i64 cell,.int .i64 code,dv,mp],.agg #[.int .i64 op,.int .i64 r,.int .i64 a,.int .i64 n]] w fun e w'=>e=.returned (.bool Tm)/\Sm w.heap.size w w':=by
 refine P9 fun HB=>?_;have HR:Hid (0<=r/\r<4):=hr;have HA:Hid (¬(0<=a/\a<4)):=ha;clear hr ha
 go_enter func118,ntmps118
 go_wp2_with (first|(go_at_call_of 97 (r);refine(Vq.says (Xp r _ _) HR.out).mono ?_;rintro e w' ⟨rfl,rfl⟩)|(go_at_call_of 97 (a);refine(Vq.Vw (Xp a _ _) HA.out).mono ?_;rintro e w' ⟨rfl,rfl⟩))
 go_ret;exact⟨rfl,HB.out _ _⟩
section
variable (cell code op:Int)(r a n:Int)(dv mp:Dn)(w:En)(hr:0<=r/\r<4)(ha:0<=a/\a<4)
include cell code op r a n dv mp w hr ha
theorem Sf0(ep:op=0\/op=1\/op=2\/op=3\/op=4\/op=5\/op=6\/op=7\/op=15):
  Zm prog 118 #[.agg #[.int .i64 cell,.int .i64 code,dv,mp],.agg #[.int .i64 op,.int .i64 r,.int .i64 a,.int .i64 n]] w fun e w'=>e=.returned (.bool Um)/\Sm w.heap.size w w':=by
 refine P9 fun HB=>?_;refine Bh fun HR HA=>?_;clear hr ha;rcases ep with rfl|rfl|rfl|rfl|rfl|rfl|rfl|rfl|rfl
 all_goals
  go_enter func118,ntmps118
  go_wp2_with (first|(go_at_call_of 97 (r);refine(Vq.says (Xp r _ _) HR.out).mono ?_;rintro e w' ⟨rfl,rfl⟩)|(go_at_call_of 97 (a);refine(Vq.says (Xp a _ _) HA.out).mono ?_;rintro e w' ⟨rfl,rfl⟩))
  go_ret;exact⟨rfl,HB.out _ _⟩
theorem H80(hq:¬(0<=op/\op<=16)):
  Zm prog 118 #[.agg #[.int .i64 cell,.int .i64 code,dv,mp],.agg #[.int .i64 op,.int .i64 r,.int .i64 a,.int .i64 n]] w fun e w'=>e=.returned (.bool Tm)/\Sm w.heap.size w w':=by
 refine P9 fun HB=>?_;refine Bh fun HR HA=>?_;clear hr ha;have q:∀k:Int,0<=k/\k<=16->(op==k)=false:=fun k hk=>by simp;omega
 obtain⟨q0,q1,q2,q3,q4,q5,q6,q7,q8,q9,q10,q11,q12,q13,q14,q15,q16⟩:(op==0)=Tm/\(op==1)=Tm/\(op==2)=Tm/\(op==3)=Tm/\(op==4)=Tm/\(op==5)=Tm/\(op==6)=Tm/\(op==7)=Tm/\(op==8)=Tm/\(op==9)=Tm/\(op==10)=Tm/\(op==11)=Tm/\(op==12)=Tm/\(op==13)=Tm/\(op==14)=Tm/\(op==15)=Tm/\(op==16)=false:=⟨q 0 E0,q 1 E0,q 2 E0,q 3 E0,q 4 E0,q 5 E0,q 6 E0,q 7 E0,q 8 E0,q 9 E0,q 10 E0,q 11 E0,q 12 E0,q 13 E0,q 14 E0,q 15 E0,q 16 E0⟩;clear q hq
 go_enter func118,ntmps118
 go_wp2_with (first|(go_at_call_of 97 (r);refine(Vq.says (Xp r _ _) HR.out).mono ?_;rintro e w' ⟨rfl,rfl⟩)|(go_at_call_of 97 (a);refine(Vq.says (Xp a _ _) HA.out).mono ?_;rintro e w' ⟨rfl,rfl⟩))
 go_ret;exact⟨rfl,HB.out _ _⟩
theorem pq0(ep:op=8\/op=9):
  Zm prog 118 #[.agg #[.int .i64 cell,.int .i64 code,dv,mp],.agg #[.int .i64 op,.int .i64 r,.int .i64 a,.int .i64 n]] w (Vq (0<=n/\n<code) (Sm w.heap.size w)):=by
 refine P9 fun HB=>?_;refine Bh fun HR HA=>?_;clear hr ha;rcases ep with rfl|rfl
 all_goals
  go_enter func118,ntmps118
  go_wp2_with (first|(go_at_call_of 97 (r);refine(Vq.says (Xp r _ _) HR.out).mono ?_;rintro e w' ⟨rfl,rfl⟩)|(go_at_call_of 97 (a);refine(Vq.says (Xp a _ _) HA.out).mono ?_;rintro e w' ⟨rfl,rfl⟩)|(go_at_call 132;refine(eC n code _).mono ?_;rintro e w' ⟨b,rfl,fG,rfl⟩))
  go_ret;exact Vq.of fG (HB.out _ _)
end
theorem Ik0(c:Ur)(cell code op kd en r a n:Int)(QG:Nat)(dv:Dn)(b:Nat)(w:En)(hr:0<=r/\r<4)(ha:0<=a/\a<4)(hu:cy w b c)(wn:(Lit.int .i64 n).wf=Um)(ep:((op=10/\kd=1\/op=11/\kd=2)/\en=1/\QG=1)\/(((op=12\/op=16)/\kd=1\/op=13/\kd=2)/\en=2/\QG=2)):
  Zm prog 118 #[.agg #[.int .i64 cell,.int .i64 code,dv,.map (Gn b)],.agg #[.int .i64 op,.int .i64 r,.int .i64 a,.int .i64 n]] w (Vq (Vu c cell n kd QG) (Sm w.heap.size w)):=by
 refine P9 fun HB=>?_;refine Bh fun HR HA=>?_;clear hr ha;have HU:Hid (cy w b c):=hu;have HM:Hid (∀W:En,cy W b c->Zm prog 133 #[.agg #[.int .i64 cell,.int .i64 code,dv,.map (Gn b)],.agg #[.int .i64 en,.int .i64 kd,.int .i64 n]] W (Vq (Vu c cell n kd QG) (Sm W.heap.size W))):=fun W hW=>by
  have wk:(Lit.int .i64 kd).wf=true:=wfi E0 E0;obtain⟨-,rfl,rfl⟩|⟨-,rfl,rfl⟩:=ep
  ·exact W80 c cell code kd n dv b W hW wk wn
  ·exact X80 c cell code kd n dv b W hW wk wn
 clear hu wn;rcases ep with⟨⟨rfl,rfl⟩|⟨rfl,rfl⟩,rfl,rfl⟩|⟨⟨rfl|rfl,rfl⟩|⟨rfl,rfl⟩,rfl,rfl⟩
 all_goals
  go_enter func118,ntmps118
  go_wp2_with (first|(go_at_call_of 97 (r);refine(Vq.says (Xp r _ _) HR.out).mono ?_;rintro e w' ⟨rfl,rfl⟩)|(go_at_call_of 97 (a);refine(Vq.says (Xp a _ _) HA.out).mono ?_;rintro e w' ⟨rfl,rfl⟩)|(go_at_call 133;refine(HM.out _ (by exact OA (OA HU.out _) _)).mono ?_;rintro e w' ⟨b,rfl,fG,Dq⟩))
  go_ret;exact Vq.of fG (kM Dq)
theorem Hk0(c:Ur)(cell code r a n:Int)(p:Option Vm)(cap:Nat)(mp:Dn)(w:En)(hr:0<=r/\r<4)(ha:0<=a/\a<4)(hs:Sl w p c.nD (fun j=>.int .i64 (c.dv j)))(hb:c.nD<=4):
  Zm prog 118 #[.agg #[.int .i64 cell,.int .i64 code,.slice p c.nD cap,mp],.agg #[.int .i64 14,.int .i64 r,.int .i64 a,.int .i64 n]] w (Vq (0<=n/\n<c.nD/\c.dv n.toNat=cell) (Sm w.heap.size w)):=by
 refine P9 fun HB=>?_;refine Bh fun HR HA=>?_;clear hr ha;have HS:Hid (Sl w p c.nD (fun j=>.int .i64 (c.dv j))):=hs;clear hs;by_cases h0:0<=n/\n<(c.nD:Int)
 ·have HX:Hid (0<=n/\n<(c.nD:Int)):=h0;obtain⟨m,rfl⟩:=Int.eq_ofNat_of_zero_le h0.1;obtain⟨bd,off,rfl,hc⟩:=HS.out.at E0;have c0:=hc m E0;have yo:bd<w.heap.size:=Wm c0;clear hc;rw[Int.toNat_natCast];generalize c.dv m=x at *;have hm:m<c.nD:=by omega
  clear h0;have HQ:Hid (∀W:En,Zm prog 132 #[.int .i64 m,.int .i64 c.nD] W fun e w'=>e=.returned (.bool Um)/\w'=W):=fun W=>Vq.says (eC m c.nD W) HX.out
  go_enter func118,ntmps118
  go_wp2_with (first|(go_at_call_of 97 (r);refine(Vq.says (Xp r _ _) HR.out).mono ?_;rintro e w' ⟨rfl,rfl⟩)|(go_at_call_of 97 (a);refine(Vq.says (Xp a _ _) HA.out).mono ?_;rintro e w' ⟨rfl,rfl⟩))
  go_quiet ((go_at_call 132;exact Calls.quiet_of_same (HQ.out _)))
  go_wp2_with fail
  go_ret;exact Vq.of (b:=(x==cell)) (by simp only[beq_iff_eq];omega) (below_drewN (HB.out _ _) _)
 ·have HX:Hid (¬(0<=n/\n<(c.nD:Int))):=h0;have HN:Hid (¬(0<=n/\n<(c.nD:Int)/\c.dv n.toNat=cell)):=fun h=>h0 ⟨h.1,h.2.1⟩;clear h0;have HQ:Hid (∀W:En,Zm prog 132 #[.int .i64 n,.int .i64 c.nD] W fun e w'=>e=.returned (.bool Tm)/\w'=W):=fun W=>Vq.Vw (eC n c.nD W) HX.out
  go_enter func118,ntmps118
  go_wp2_with (first|(go_at_call_of 97 (r);refine(Vq.says (Xp r _ _) HR.out).mono ?_;rintro e w' ⟨rfl,rfl⟩)|(go_at_call_of 97 (a);refine(Vq.says (Xp a _ _) HA.out).mono ?_;rintro e w' ⟨rfl,rfl⟩))
  go_quiet ((go_at_call 132;exact Calls.quiet_of_same (HQ.out _)))
  go_wp2_with fail
  go_ret;exact Vq.no HN.out (below_drewN (HB.out _ _) _)
theorem Vq.turn{P P':Prop}{W:En->Prop}{e:Ending}{w':En}(h:Vq P W e w')(hp:P↔P'):Vq P' W e w':=by
 obtain⟨b,h1,h2,h3⟩:=h;exact⟨b,h1,h2.trans hp,h3⟩
theorem lI(c:Ur)(cell b cap:Nat)(p:Option Vm)(op r a n:Int)(w:En)(hu:cy w b c)(hs:Sl w p c.nD (fun j=>.int .i64 (c.dv j)))(hb:c.nD<=4)(wn:(Lit.int .i64 n).wf=Um):
  Zm prog 118 #[.agg #[.int .i64 cell,.int .i64 (c.Ho cell),.slice p c.nD cap,.map (Gn b)],.agg #[.int .i64 op,.int .i64 r,.int .i64 a,.int .i64 n]] w (Vq (Dy c cell (c.Ho cell) op r a n) (Sm w.heap.size w)):=by
 by_cases hr:0<=r/\r<4
 case neg=>exact(Sb0 _ _ _ _ _ _ _ _ _ hr).mono fun e w' ⟨h1,h2⟩=>by subst h1;exact Vq.no (fun h=>hr h.2.1) h2
 by_cases ha:0<=a/\a<4
 case neg=>exact(Rb0 _ _ _ _ _ _ _ _ _ hr ha).mono fun e w' ⟨h1,h2⟩=>by subst h1;exact Vq.no (fun h=>ha h.2.2.1) h2
 by_cases hq:0<=op/\op<=16
 case neg=>exact(H80 _ _ op r a n _ _ w hr ha hq).mono fun e w' ⟨h1,h2⟩=>by subst h1;exact Vq.no (fun h=>hq h.1) h2
 by_cases hj:op=8\/op=9
 ·refine(pq0 _ _ op r a n _ _ w hr ha hj).mono fun e w' h=>Vq.turn h ?_;exact⟨fun h=>⟨hq,hr,ha,fun _=>h,E0,E0,E0,E0,E0⟩,fun h=>h.2.2.2.1 hj⟩
 have ch:∀(kd en:Int)(QG:Nat)(ep:((op=10/\kd=1\/op=11/\kd=2)/\en=1/\QG=1)\/(((op=12\/op=16)/\kd=1\/op=13/\kd=2)/\en=2/\QG=2)),(Vu c cell n kd QG↔Dy c cell (c.Ho cell) op r a n)->Zm prog 118 #[.agg #[.int .i64 cell,.int .i64 (c.Ho cell),.slice p c.nD cap,.map (Gn b)],.agg #[.int .i64 op,.int .i64 r,.int .i64 a,.int .i64 n]] w (Vq (Dy c cell (c.Ho cell) op r a n) (Sm w.heap.size w)):=fun kd en QG ep hi=>(Ik0 c _ _ op kd en r a n QG _ b w hr ha hu wn ep).mono fun e w' h=>Vq.turn h hi;by_cases e10:op=10
 ·exact ch 1 1 1 E0 ⟨fun h=>⟨hq,hr,ha,E0,fun _=>h,E0,E0,E0,E0⟩,fun h=>h.2.2.2.2.1 e10⟩
 by_cases e11:op=11
 ·exact ch 2 1 1 E0 ⟨fun h=>⟨hq,hr,ha,E0,E0,fun _=>h,E0,E0,E0⟩,fun h=>h.2.2.2.2.2.1 e11⟩
 by_cases e12:op=12\/op=16
 ·exact ch 1 2 2 E0 ⟨fun h=>⟨hq,hr,ha,E0,E0,E0,fun _=>h,E0,E0⟩,fun h=>h.2.2.2.2.2.2.1 e12⟩
 by_cases e13:op=13
 ·exact ch 2 2 2 E0 ⟨fun h=>⟨hq,hr,ha,E0,E0,E0,E0,fun _=>h,E0⟩,fun h=>h.2.2.2.2.2.2.2.1 e13⟩
 by_cases e14:op=14
 ·subst e14;refine(Hk0 c _ _ r a n p cap _ w hr ha hs hb).mono fun e w' h=>Vq.turn h ?_;exact⟨fun h=>⟨hq,hr,ha,E0,E0,E0,E0,E0,fun _=>h⟩,fun h=>h.2.2.2.2.2.2.2.2 rfl⟩
 exact(Sf0 _ _ op r a n _ _ w hr ha E0).mono fun e w' ⟨h1,h2⟩=>by subst h1;exact Vq.yes ⟨hq,hr,ha,E0,E0,E0,E0,E0,E0⟩ h2
theorem fN(c:Ur)(cell b cap h:Nat)(p:Option Vm)(op r a n:Int)(w:En)(h0:w.cell? ⟨h,0,Hn⟩=Gn (.int .i64 cell))(h1:w.cell? ⟨h,1,Hn⟩=Gn (.int .i64 (c.Ho cell)))(h2:w.cell? ⟨h,2,Hn⟩=Gn (.slice p c.nD cap))(h3:w.cell? ⟨h,3,Hn⟩=Gn (.map (Gn b)))
  (hu:cy w b c)(hs:Sl w p c.nD (fun j=>.int .i64 (c.dv j)))(hb:c.nD<=4)(wn:(Lit.int .i64 n).wf=Um):
  Zm prog 117 #[.agg #[.int .i64 op,.int .i64 r,.int .i64 a,.int .i64 n],.pointer (Gn ⟨h,0,Hn⟩)] w (Vq (¬Dy c cell (c.Ho cell) op r a n) (Sm w.heap.size w)):=by
 have yo:h<w.heap.size:=Wm h0;have HU:Hid (cy w b c):=hu;have HS:Hid (Sl w p c.nD (fun j=>.int .i64 (c.dv j))):=hs;have HN:Hid ((Lit.int .i64 n).wf=Um):=wn;refine U9 fun HA=>?_;clear hu hs wn;by_cases Yr:Dy c cell (c.Ho cell) op r a n
 ·have HO:Hid (Dy c cell (c.Ho cell) op r a n):=Yr;clear Yr
  go_enter func117,ntmps117
  go_wp2_with (go_at_call 118;refine(Vq.says (lI c cell b cap p op r a n _ (by exact OA HU.out _) (by exact HS.out.below (HA.out _)) hb HN.out) HO.out).mono ?_;rintro e w' ⟨rfl,Dq⟩)
  go_ret;exact Vq.no (fun h=>h HO.out) (Gy Dq)
 ·have HO:Hid (¬Dy c cell (c.Ho cell) op r a n):=Yr;clear Yr
  go_enter func117,ntmps117
  go_wp2_with (go_at_call 118;refine(Vq.Vw (lI c cell b cap p op r a n _ (by exact OA HU.out _) (by exact HS.out.below (HA.out _)) hb HN.out) HO.out).mono ?_;rintro e w' ⟨rfl,Dq⟩)
  go_ret;exact Vq.yes HO.out (Gy Dq)
section
variable (p:Option Vm)(n cap:Nat)(z:Nat->Int)(h:Nat)(P:Nat->Prop)(w:En)(hs:Sl w p (n*4) (fun j=>.int .i64 (z j)))(hb:n<=17592186044416)
include p n cap z h P w hs hb
theorem ES
  (fL:∀i,i<n->∀wr,Sm w.heap.size w wr->Zm prog 117 #[.agg #[.int .i64 (z (i*4)),.int .i64 (z (i*4+1)),.int .i64 (z (i*4+2)),.int .i64 (z (i*4+3))],.pointer (Gn ⟨h,0,Hn⟩)] wr (Vq (¬P i) (Sm wr.heap.size wr))):
  Zm prog 131 #[.slice p n cap,.func (.func 117) #[] #[.pointer (Gn ⟨h,0,Hn⟩)]] w (XL P n w):=by
 have HS:Hid (Sl w p (n*4) (fun j=>.int .i64 (z j))):=hs;have HC:Hid (∀i,i<n->∀wr,Sm w.heap.size w wr->Zm prog 117 #[.agg #[.int .i64 (z (i*4)),.int .i64 (z (i*4+1)),.int .i64 (z (i*4+2)),.int .i64 (z (i*4+3))],.pointer (Gn ⟨h,0,Hn⟩)] wr (Vq (¬P i) (Sm wr.heap.size wr))):=fL;clear hs fL
 go_enter func131,ntmps131
 go_wp2_with fail
 go_loopw [8] (fun i wr=>∃k:Nat,k<=n/\i=.int .i64 k/\Hid (Lp P k)/\Hid (Sm w.heap.size w wr)) (fun i _=>n-(intOf i).toNat)
 case atStart=>exact⟨0,Pm _,rfl,Lp.zero _,Below.refl _ _⟩
 case round=>
  obtain⟨k,hk,rfl,HI,HW⟩:=hrel;by_cases yo:k<n
  ·obtain⟨b,off,rfl,hc⟩:=(HS.out.below HW.out).at E0;have c0:=hc (k*4) E0;have c1:=hc (k*4+1) E0;have c2:=hc (k*4+2) E0;have c3:=hc (k*4+3) E0;rw[<-Jm]at c1 c2 c3;clear hc;by_cases Yr:P k
   ·have HO:Hid (P k):=Yr;clear Yr;go_wp2_with (go_at_call 117;refine(Vq.Vw (HC.out k yo wr HW.out) (fun h=>h HO.out)).mono ?_;rintro e w' ⟨rfl,Dq⟩);exact Cc
   ·have HO:Hid (¬P k):=Yr;clear Yr;go_wp2_with (go_at_call 117;refine(Vq.says (HC.out k yo wr HW.out) HO.out).mono ?_;rintro e w' ⟨rfl,Dq⟩);exact Ad
  ·obtain rfl:k=n:=by omega
   exact Zf
theorem uR
  (fL:∀i,i<n->∀wr,Sm w.heap.size w wr->Zm prog 117 #[.agg #[.int .i64 (z (i*4)),.int .i64 (z (i*4+1)),.int .i64 (z (i*4+2)),.int .i64 (z (i*4+3))],.pointer (Gn ⟨h,0,Hn⟩)] wr (Vq (¬P i) (Sm wr.heap.size wr))):
  Zm prog 116 #[.slice p n cap,.func (.func 117) #[] #[.pointer (Gn ⟨h,0,Hn⟩)]] w (Vq (¬Lp P n) (Sm w.heap.size w)):=by
 have HI:Hid (Zm prog 131 #[.slice p n cap,.func (.func 117) #[] #[.pointer (Gn ⟨h,0,Hn⟩)]] w (XL P n w)):=ES p n cap z h P w hs hb fL;clear hs fL hb
 go_enter func116,ntmps116
 go_wp2_with (go_at_call 131;refine HI.out.mono ?_;rintro e w' ⟨x,rfl,hx,Dq⟩;have HX:Hid _:=hx;clear hx)
 go_ret;refine Vq.of (b:=decide (0<=x)) ?_ Dq;simp only[decide_eq_true_eq];rcases HX.out with⟨rfl,h⟩|⟨i,rfl,h⟩
 ·exact⟨fun h=>absurd h E0,fun h'=>absurd h h'⟩
 ·exact⟨fun _ h'=>h.KA h',fun _=>E0⟩
end
def TK(c:Ur):Prop:=∀i,i<c.nC->∀j,j<c.Ho i*4->-9223372036854775808<=c.code i j/\c.code i j<=9223372036854775807
theorem CO(c:Ur)(cell b cap Hy KC:Nat)(p pc pi:Option Vm)(w:En)(hu:cy w b c)(hs:Sl w p c.nD (fun j=>.int .i64 (c.dv j)))(hb:c.nD<=4)
  (Np:Sl w pc (c.Ho cell*4) (fun j=>.int .i64 (c.code cell j)))(WH:c.Ho cell<=8796093022208)(hib:c.Hq cell<=17592186044416)(hw:∀j,j<c.Ho cell*4->-9223372036854775808<=c.code cell j/\c.code cell j<=9223372036854775807):
  Zm prog 99 #[.agg #[.int .i64 cell,.int .i64 (c.Ho cell),.slice p c.nD cap,.map (Gn b)],.agg #[.slice pc (c.Ho cell) Hy,.slice pi (c.Hq cell) KC,.int .i64 (c.lim cell)]] w (Vq (Xu c cell) (Sm w.heap.size w)):=by
 refine U9 fun HA=>?_;refine P9 fun HB=>?_;have HQ:Hid (∀o':Obj,Zm prog 116 #[.slice pc (c.Ho cell) Hy,.func (.func 117) #[] #[.pointer (Gn ⟨w.heap.size,0,Hn⟩)]] ((w.alloc (.cells #[.int .i64 cell,.int .i64 (c.Ho cell),.slice p c.nD cap,.map (Gn b)] 207)).alloc o')
   (Vq (¬Lp (VD c cell) (c.Ho cell)) (Sm ((w.alloc (.cells #[.int .i64 cell,.int .i64 (c.Ho cell),.slice p c.nD cap,.map (Gn b)] 207)).alloc o').heap.size ((w.alloc (.cells #[.int .i64 cell,.int .i64 (c.Ho cell),.slice p c.nD cap,.map (Gn b)] 207)).alloc o')))):=by
  intro o';refine uR pc (c.Ho cell) Hy (c.code cell) w.heap.size (VD c cell) _ (Np.below (HB.out _ _)) E0 (fun i hi wr Dq=>?_);have Dx:Sm (w.heap.size+1) (w.alloc (.cells #[.int .i64 cell,.int .i64 (c.Ho cell),.slice p c.nD cap,.map (Gn b)] 207)) wr:=((Below.refl _ _).alloc P0 o').trans (Dq.mono P0);obtain⟨x0,x1,x2,x3⟩:=NG Dx;exact fN c cell b cap w.heap.size p _ _ _ _ wr x0 x1 x2 x3 (TD hu (Vo Dx)) (hs.below (Vo Dx)) hb (wfi (hw _ E0).1 (hw _ E0).2)
 clear hu hs Np hw;by_cases h1:(0<=c.lim cell/\c.lim cell<=5)/\c.Hq cell<=16
 case neg=>
  have HN:Hid (¬Xu c cell):=fun h=>h1 ⟨h.1,h.2.1⟩
  go_enter func99,ntmps99
  go_wp2_with fail
  all_goals
   go_ret;exact Vq.no HN.out (HB.out _ _)
 obtain⟨⟨g1,g2⟩,g3⟩:=h1;by_cases h2:1<=c.Ho cell/\c.Ho cell<=48
 case neg=>
  have HN:Hid (¬Xu c cell):=fun h=>h2 h.2.2.1
  go_enter func99,ntmps99
  go_wp2_with fail
  all_goals
   go_ret;exact Vq.no HN.out (HB.out _ _)
 obtain⟨g4,g5⟩:=h2;by_cases Yr:Lp (VD c cell) (c.Ho cell)
 ·have HO:Hid (Lp (VD c cell) (c.Ho cell)):=Yr;have HC:Hid (Xu c cell):=⟨⟨g1,g2⟩,g3,⟨g4,g5⟩,Yr⟩;clear Yr
  go_enter func99,ntmps99
  go_wp2_with (go_at_call 116;refine(Vq.Vw (HQ.out _) (fun h=>h HO.out)).mono ?_;rintro e w' ⟨rfl,Dq⟩)
  go_ret;exact Vq.yes HC.out (kM Dq)
 ·have HO:Hid (¬Lp (VD c cell) (c.Ho cell)):=Yr;have HC:Hid (¬Xu c cell):=fun h=>Yr h.2.2.2;clear Yr
  go_enter func99,ntmps99
  go_wp2_with (go_at_call 116;refine(Vq.says (HQ.out _) HO.out).mono ?_;rintro e w' ⟨rfl,Dq⟩)
  go_ret;exact Vq.no HC.out (kM Dq)
theorem xM(c:Ur)(v0 v1 v2 v3:Dn)(w:En)(h:Zx w v0 v1 v2 v3 c)(hw:TK c)(h6:c.nC<=6)(h8:c.Zo<=8)(nH:Lp (Xz c) c.Zo)(h4:c.nD<=4):
  Zm prog 78 #[.agg #[v0,v1,v2,v3]] w (XL (Xu c) c.nC w):=by
 obtain⟨p0,yp,F0,p1,gp,F1,p2,dq,p3,Lq,rfl,rfl,rfl,rfl,s0,k0,s1,k1,s2,s3,b0,b1,b2,b3⟩:=h.parts;clear h s1 k1 b1 b2 b3;refine Ob fun S0 K0=>?_;have S2:Hid (Sl w p2 (c.Zo*3) (fun j=>.int .i64 (c.ch j))):=s2;have S3:Hid (Sl w p3 c.nD (fun j=>.int .i64 (c.dv j))):=s3;have HW0:Hid (TK c):=hw;have HC:Hid (Lp (Xz c) c.Zo):=nH;clear s0 k0 s2 s3 hw nH;refine U9 fun HA=>?_
 go_enter func78,ntmps78
 go_wp2_with fail
 refine(YW c p2 dq _ (S2.out.below (HA.out _)) h8 HC.out h6).mono ?_;rintro e w1 ⟨bm,rfl,hu,Dq⟩;have HU:Hid (cy w1 bm c):=hu;refine Bd fun Ax=>?_;obtain⟨x0,x1,x2,x3⟩:=NG Ax.out;have hH:w.heap.size<w1.heap.size:=Wm x0;clear hu Dq x1 x2;go_wp2_with fail;go_loopw [13] (fun i wr=>∃k:Nat,k<=c.nC/\i=.int .i64 k/\Hid (Lp (Xu c) k)/\Hid (Sm w1.heap.size w1 wr)) (fun i _=>c.nC-(intOf i).toNat)
 case atStart=>exact⟨0,Pm _,rfl,Lp.zero _,Below.refl _ _⟩
 case round=>
  obtain⟨k,hk,rfl,HI,HW⟩:=hrel;have Aw:Hid (Sm (w.heap.size+1) (w.alloc (.cells #[.slice p0 c.nC yp,.slice p1 c.nT gp,.slice p2 c.Zo dq,.slice p3 c.nD Lq] 28)) wr):=Ax.out.trans (HW.out.mono E0);clear x0 x3;by_cases yo:k<c.nC
  ·obtain⟨b,off,rfl,hc⟩:=(S0.out.below (Vo Aw.out)).at E0;obtain⟨x0,x1,x2,x3⟩:=NG Aw.out;have hH1:w.heap.size<wr.heap.size:=Wm x0;have ju:w1.heap.size<=wr.heap.size:=HW.out.size;refine Vb fun c0 c1 c2=>?_;refine Ah fun Jv=>?_;rw[<-Jm]at c1 c2;clear hc x1 x2;obtain⟨⟨pc,Hy,R_,-,-,-,bc,sc⟩,⟨pi,KC,hF1,-,-,-,bi,-⟩,Gs⟩:=K0.out k yo;rw[R_]at c0;rw[hF1]at c1;rw[Gs]at c2;have hnc:c.Ho k<=8796093022208:=by omega
   have hni:c.Hq k<=17592186044416:=E0;have HQ:Hid (∀W,Sm wr.heap.size wr W->Zm prog 99 #[.agg #[.int .i64 k,.int .i64 (c.Ho k),.slice p3 c.nD Lq,.map (Gn bm)],.agg #[.slice pc (c.Ho k) Hy,.slice pi (c.Hq k) KC,.int .i64 (c.lim k)]] W (Vq (Xu c k) (Sm W.heap.size W))):=fun W hW=>
    CO c k bm Lq Hy KC p3 pc pi W (TD (TD HU.out HW.out) hW) ((S3.out.below (Vo Aw.out)).below hW) h4 ((sc.below (Vo Aw.out)).below hW) hnc hni (HW0.out k yo)
   have Pz:Hid (∀o o',Sm wr.heap.size wr ((wr.alloc o).alloc o')):=fun o o'=>((Below.refl _ _).alloc N8 _).alloc P0 _;clear R_ hF1 Gs bc sc bi;by_cases Yr:Xu c k
   ·have HO:Hid (Xu c k):=Yr;clear Yr;go_wp2_with (go_at_call 99;refine(Vq.says (HQ.out _ (by exact Pz.out _ _)) HO.out).mono ?_;rintro e w' ⟨rfl,Dq⟩);refine⟨⟨k+1,E0,E1,HI.out.step HO.out,?_⟩,U1⟩;exact HW.out.trans ((kM Dq).mono ju)
   ·have HO:Hid (¬Xu c k):=Yr;clear Yr;go_wp2_with (go_at_call 99;refine(Vq.Vw (HQ.out _ (by exact Pz.out _ _)) HO.out).mono ?_;rintro e w' ⟨rfl,Dq⟩);go_ret;exact XL.some ⟨yo,HO.out,HI.out⟩ (Vo (Aw.out.trans ((kM Dq).mono E0)))
  ·obtain rfl:k=c.nC:=by omega
   go_wp2_with fail
   go_ret;exact XL.none HI.out (Vo Aw.out)
def RI(L:Prop)(P:Nat->Prop)(n:Nat)(w:En)(e:Ending)(w':En):Prop:=
 ∃x:Int,e=.returned (.int .i64 x)/\((¬L/\x=0)\/(L/\x=-1/\Lp P n)\/∃i:Nat,L/\x=i/\IE P n i)/\Sm w.heap.size w w'
theorem RI.of{L:Prop}{P:Nat->Prop}{n:Nat}{w w':En}{x:Int}(hL:L)(h:(x=-1/\Lp P n)\/∃i:Nat,x=i/\IE P n i)(hb:Sm w.heap.size w w'):RI L P n w (.returned (.int .i64 x)) w':=
 ⟨x,rfl,.inr (h.elim (fun ⟨a,b⟩=>.inl ⟨hL,a,b⟩) (fun ⟨i,a,b⟩=>.inr ⟨i,hL,a,b⟩)),hb⟩
theorem RI.long{L:Prop}{P:Nat->Prop}{n:Nat}{w w':En}(hL:¬L)(hb:Sm w.heap.size w w'):RI L P n w (.returned (.int .i64 0)) w':=⟨0,rfl,.inl ⟨hL,rfl⟩,hb⟩
theorem box1{w w':En}{v0:Dn}{t:Nat}(h:Sm (w.alloc (.cells #[v0] t)).heap.size (w.alloc (.cells #[v0] t)) w'):w'.cell? ⟨w.heap.size,0,Hn⟩=Gn v0:=by
 rw[h.cell (p:=⟨w.heap.size,0,Hn⟩) P0];exact cell_of_row _ _ _ _ _ _ (heap_alloc_new w _)
section
variable (c:Ur)(p:Option Vm)(cap:Nat)
include c p cap
theorem UO(F:Nat->Dn)(w:En)(hs:Sl w p c.nT F)(hk:∀i,i<c.nT->FC w (F i) (c.EJ i) (c.nRow i) 2 (c.row i) 16)(hb:c.nT<=8796093022208):
  Zm prog 75 #[.slice p c.nT cap,.int .i64 c.nC] w (RI (Zy c) (Qw c) c.nT w):=by
 refine U9 fun HA=>?_;have HQ:Hid (Zm prog 89 #[.slice p c.nT cap,.func (.func 90) #[] #[.pointer (Gn ⟨w.heap.size,0,Hn⟩)]] (w.alloc (.cells #[.int .i64 c.nC] 3)) (XL (Qw c) c.nT (w.alloc (.cells #[.int .i64 c.nC] 3)))):=by
  refine KT p c.nT cap F w.heap.size (Qw c) _ (hs.below (HA.out _)) hb (fun i hi wr Dq=>?_);obtain⟨pr,BO,hF,-,-,-,hbr,hsr⟩:=hk i hi;rw[hF];exact EN pr (c.nRow i) BO c.nC w.heap.size (c.row i) wr (box1 Dq) ((hsr.below (HA.out _)).below Dq) hbr
 clear hs hk;by_cases hn:Zy c
 ·have HN:Hid (Zy c):=hn;have h1:1<=c.nT:=hn.1;have h2:c.nT<=8:=hn.2;clear hn
  go_enter func75,ntmps75
  go_wp2_with (go_at_call 89;refine HQ.out.mono ?_;rintro e w' ⟨x,rfl,hx,Dq⟩;have HX:Hid _:=hx;clear hx)
  go_ret;exact RI.of HN.out HX.out (Gy Dq)
 ·have HN:Hid (¬Zy c):=hn;have hq:c.nT<1\/8<c.nT:=by unfold Zy at hn;omega
  clear hn;rcases hq with hq|hq
  all_goals
   go_enter func75,ntmps75
   go_wp2_with fail
   go_ret;exact RI.long HN.out (HA.out _)
theorem yM(w:En)(hs:Sl w p (c.Zo*3) (fun j=>.int .i64 (c.ch j)))(hb:c.Zo<=8796093022208):
  Zm prog 76 #[.slice p c.Zo cap,.int .i64 c.nC] w (RI (c.Zo<=8) (Xz c) c.Zo w):=by
 refine U9 fun HA=>?_;have HQ:Hid (Zm prog 92 #[.slice p c.Zo cap,.func (.func 93) #[] #[.pointer (Gn ⟨w.heap.size,0,Hn⟩)]] (w.alloc (.cells #[.int .i64 c.nC] 3)) (XL (Xz c) c.Zo (w.alloc (.cells #[.int .i64 c.nC] 3)))):=
  JO p c.Zo cap c.ch w.heap.size (Xz c) _ (hs.below (HA.out _)) E0 (fun i hi wr Dq=>ZK _ _ _ c.nC w.heap.size wr (box1 Dq))
 clear hs;by_cases h2:c.Zo<=8
 ·go_enter func76,ntmps76
  go_wp2_with (go_at_call 92;refine HQ.out.mono ?_;rintro e w' ⟨x,rfl,hx,Dq⟩;have HX:Hid _:=hx;clear hx)
  go_ret;exact RI.of h2 HX.out (Gy Dq)
 ·go_enter func76,ntmps76
  go_wp2_with fail
  go_ret;exact RI.long h2 (HA.out _)
theorem RO(w:En)(hs:Sl w p c.nD (fun j=>.int .i64 (c.dv j)))(hb:c.nD<=17592186044416):
  Zm prog 77 #[.slice p c.nD cap,.int .i64 c.nC] w (RI (c.nD<=4) (FG c) c.nD w):=by
 refine U9 fun HA=>?_;have HQ:Hid (Zm prog 95 #[.slice p c.nD cap,.func (.func 96) #[] #[.pointer (Gn ⟨w.heap.size,0,Hn⟩)]] (w.alloc (.cells #[.int .i64 c.nC] 3)) (XL (FG c) c.nD (w.alloc (.cells #[.int .i64 c.nC] 3)))):=
  yR p c.nD cap c.dv w.heap.size (FG c) _ (hs.below (HA.out _)) E0 (fun i hi wr Dq=>qM _ c.nC w.heap.size wr (box1 Dq))
 clear hs;by_cases h2:c.nD<=4
 ·go_enter func77,ntmps77
  go_wp2_with (go_at_call 95;refine HQ.out.mono ?_;rintro e w' ⟨x,rfl,hx,Dq⟩;have HX:Hid _:=hx;clear hx)
  go_ret;exact RI.of h2 HX.out (Gy Dq)
 ·go_enter func77,ntmps77
  go_wp2_with fail
  go_ret;exact RI.long h2 (HA.out _)
end
theorem ry(w:En)(t k:Nat):(w.alloc (.cells #[] t)).ownsRow w.heap.size t k (.slice (Gn ⟨w.heap.size,0,Hn⟩) 0 0) 0 []:=
 ⟨P0,.inr ⟨w.heap.size,0,#[],rfl,Om _,heap_alloc_new w _,Om _,Pm _,P0,P0⟩⟩
theorem uw{P:Ym}(w:En){ops:Array Oper}{rest:List Oper}{o:Oper}{a:Act}{Q:Exit->Act->En->Prop}(lS:o.guard=Hn)(s x:Operand)(t:TypeId)
  (ho:o.op=.call {callee:=.builtin .append,args:=#[s,x],argTypes:=#[t,t]})
  (base:Nat)(e:TypeId)(z:Dn)(size bytes:Nat)(ht:P.underlying t=Gn (.slice e))(Ny:(P.info? e).map (fun i=>(i.zero,i.size,i.bytes))=Gn (Gn z,size,bytes))
  (hzs:z.cells.size=size)(ju:0<size)(v:Dn)(n:Nat)(xs:List Dn)(hs:a.eval s=v)(Io:w.ownsRow base e size v n xs)
  (b off m c:Nat)(f:Nat->Dn)(hx:a.eval x=.slice (Gn ⟨b,off,Hn⟩) m c)(hc:∀j,j<m*size->w.cell? ⟨b,off+j,Hn⟩=Gn (f j))(h1:∀j,(f j).oneCell'=Um)
  (hm:0<m)(Q_:n+m<=maxLen)(dA:(n+m)*bytes<=140737488355328)(ZD:base<=w.heap.size)
  (h:∀g cap w',w'.ownsRow base e size (.slice (Gn ⟨g,0,Hn⟩) (n+m) cap) (n+m) (xs++(Hm (m*size)).map f)->w.grownBy w' v.ownBlock->(v.ownBlock=Gn g\/g=w.heap.size)->g<w'.heap.size->wpList P ops Q rest (a.put o.dst (.slice (Gn ⟨g,0,Hn⟩) (n+m) cap)) w'):wpList P ops Q (o::rest) a w:=by
 obtain⟨i,h2,h3,h4,h5⟩:=info_parts Ny;refine wpList_append_lies w lS s x t ho base e i z size bytes ht h2 h3 h4 h5 hzs ju v n xs hs Io ⟨b,off,Hn⟩ m c ((Hm (m*size)).map f) hx P0 (fun j u hu=>?_) (fun u hu=>?_) hm Q_ dA ZD _ rfl h
 ·rw[List.getElem?_map]at hu;obtain⟨y,hy,rfl⟩:=Option.map_eq_some_iff.1 hu;have hj:j<m*size:=by
   have:=(List.getElem?_eq_some_iff.1 hy).1;exact Vd
  rw[List.getElem?_range hj]at hy;cases hy;have e1:(⟨b,off,Hn⟩:Vm).add j=⟨b,off+j,Hn⟩:=by
   unfold Addr.add;split
   ·rename_i h0;simp_all
   ·rfl
  rw[e1];exact hc j hj
 ·obtain⟨y,_,rfl⟩:=List.mem_map.1 hu;exact h1 y
theorem Oz{P:Ym}{ops:Array Oper}{o:Oper}{a:Act}{w:En}{K:Act->En->Prop}{Q:Exit->Act->En->Prop}{E:Prop}(lS:o.guard=Hn)(f:FuncId)(s:Operand)(t:TypeId)
  (ho:o.op=.call {callee:=.value (.func f),args:=#[s],argTypes:=#[t]})(v:Dn)(hv:a.eval s=v)
  (fn : Func) (hf : P.funcs[f]? = Gn fn) (hn : (fn.name == "runtime.NumGoroutine") = Tm) (hb : fn.body.isNone = Tm) (R : Dn -> En -> Prop)
  (h:Zm P f #[v] w (fun e w'=>∃r,e=.returned r/\R r w'))(hk:∀r w',R r w'->K (a.put o.dst r) w'):
  if Region.wanted o (yielded ops a.tmps)=Um then Oper.wp P o a w K Q else E:=by
 have hw:Region.wanted o (yielded ops a.tmps)=true:=by simp[Region.wanted,lS]
 rw[if_pos hw];unfold Oper.wp;have hr:(execOp a.eval o).run P w=.ok (.enter f #[v]) w:=by
  have e:a.eval (.func f)=.func (.func f) #[] #[]:=rfl;have hn' : ¬ fn.name = "runtime.NumGoroutine" := D5
  have Xq:¬fn.body=none:=by intro e;rw[e]at hb;cases hb
  simp[execOp,ho,resolve,invoke,hv,e,Deferred.ofValue,callFunc,hf,hn',Xq]
 exact Yk
theorem yW{P:Ym}(w:En)(dT sT ty UE:TypeId)(size g o OC xR:Nat)(sp:Option Vm)(Ds VT:Nat)(m t:Nat)(f f':Nat->Dn)
  (hu:P.underlying dT=Gn (.slice UE))(hs:(P.info? UE).map (·.size)=Gn size)(sX:Ds<=OC)(Ir:Tn w g m t f)(hm:o+OC*size<=m)
  (OY:Sl w sp (Ds*size) f')(h1:∀j,j<Ds*size->(f' j).oneCell'=Um)(lF:sp=Hn->Ds=0):
  ∃w',(Builtin.copy_ #[dT,sT] ty #[.slice (Gn ⟨g,o,Hn⟩) OC xR,.slice sp Ds VT]).run P w=.ok (goInt Ds) w'/\
   Tn w' g m t (fun j=>if o<=j/\j<o+Ds*size then f' (j-o)else f j)/\w.grownBy w' (Gn g)/\w'.heap.size=w.heap.size:=by
 have r80:Nat.min Ds OC=Ds:=Nat.min_eq_left sX;cases hq:P.info? UE with
 |none=>simp[hq]at hs
 |some i=>
  have hi:i.size=size:=by simpa[hq]using hs
  rcases OY with hm0|⟨b,off,rfl,hc⟩
  ·refine⟨w,?_,Ir.congr (fun j _=>by rw[hm0,if_neg];omega),World.grownBy.refl _ _,rfl⟩;cases sp with
   |none=>
    have h0:=lF rfl;subst h0;simp[Builtin.copy_,run_underlying hu,Builtin.lenOf,Builtin.firstCells,sizeOf,typeInfo,hq,storeCells]
   |some q=>
    have hl:(loadCells q 0).run P w=.ok #[] w:=by
     have:=run_loadCells_list (P:=P) w q [] (fun j v hv=>by simp at hv);exact Vd
    simp[Builtin.copy_,run_underlying hu,Builtin.lenOf,Builtin.firstCells,sizeOf,typeInfo,hq,hi,r80,hm0,hl,storeCells]
  ·obtain⟨cs,hg,hcs,hf⟩:=Ir;have hl:(loadCells ⟨b,off,Hn⟩ (Ds*size)).run P w=.ok ((Hm (Ds*size)).map f').toArray w:=by
    have:=run_loadCells_list (P:=P) w ⟨b,off,Hn⟩ ((Hm (Ds*size)).map f') (fun j v hv=>by
     rw[Addr.add_lit];have hj:j<Ds*size:=by have:=(List.getElem?_eq_some_iff.1 hv).1;exact Vd
     rw[hc j hj];rw[<-hv];simp[hj])
    exact Vd
   have ck0:Ds*size<=OC*size:=Nat.mul_le_mul_right _ sX;have Ht:=run_storeCells_at P g o t ((Hm (Ds*size)).map f') 0 cs w hg (by simp[hcs];omega) (fun v hv=>by
    obtain⟨j,hj,rfl⟩:=List.mem_map.1 hv;exact h1 j E2)
   have Of0:(storeCells ⟨g,o,Hn⟩ ((Hm (Ds*size)).map f')).run P w=.ok () (w.setRow g (cs.toList.take o++((Hm (Ds*size)).map f'++cs.toList.drop (o+Ds*size))).toArray):=by
    simpa using Ht
   refine⟨w.setRow g (cs.toList.take o++((Hm (Ds*size)).map f'++cs.toList.drop (o+Ds*size))).toArray,?_,⟨(cs.toList.take o++((Hm (Ds*size)).map f'++cs.toList.drop (o+Ds*size))).toArray,setRow_heap w g cs _ t _ hg,?_,?_⟩,⟨rfl,rfl,rfl,P0,fun k _ hk=>setRow_other w g k _ (fun e=>hk (by simp[e]))⟩,P0⟩
   ·exact xh
   ·simp[hcs];omega
   ·intro j hj;show _=Gn (if o<=j/\j<o+Ds*size then f' (j-o)else f j);have ho:(cs.toList.take o).length=o:=by simp[hcs];omega
    by_cases h2:j<o
    ·rw[if_neg E0,<-hf j hj];simp only[List.getElem?_toArray];rw[Em E0,List.getElem?_take_of_lt h2];simp
    ·by_cases yo:j<o+Ds*size
     ·rw[if_pos ⟨E0,yo⟩];simp only[List.getElem?_toArray];rw[List.getElem?_append_right E0,Em (by simp only[List.length_map,List.length_range];omega),ho];have h3:j-o<Ds*size:=by omega
      simp[h3]
     ·rw[if_neg E0,<-hf j hj];simp only[List.getElem?_toArray];rw[List.getElem?_append_right E0,List.getElem?_append_right (by simp only[List.length_map,List.length_range];omega),ho];simp only[List.length_map,List.length_range,List.getElem?_drop];rw[show o+Ds*size+(j-o-Ds*size)=j by omega];simp
theorem XT{P:Ym}{w:En}{ops:Array Oper}{o:Oper}{a:Act}{K:Act->En->Prop}{Q:Exit->Act->En->Prop}{E:Prop}(lS:o.guard=Hn)(d s:Operand)(dT sT:TypeId)
  (ho:o.op=.call {callee:=.builtin .copy,args:=#[d,s],argTypes:=#[dT,sT]})(UE:TypeId)(zv:Dn)(size bytes:Nat)(hu:P.underlying dT=Gn (.slice UE))(Ny:(P.info? UE).map (fun i=>(i.zero,i.size,i.bytes))=Gn (Gn zv,size,bytes))
  (g off OC xR:Nat)(sp:Option Vm)(Ds VT:Nat)(hd:a.eval d=.slice (Gn ⟨g,off,Hn⟩) OC xR)(hs:a.eval s=.slice sp Ds VT)
  (m t:Nat)(f f':Nat->Dn)(sX:Ds<=OC)(Ir:Tn w g m t f)(hm:off+OC*size<=m)
  (OY:Sl w sp (Ds*size) f')(h1:∀j,j<Ds*size->(f' j).oneCell'=Um)(lF:sp=Hn->Ds=0)
  (h:∀w',Tn w' g m t (fun j=>if off<=j/\j<off+Ds*size then f' (j-off)else f j)->w.grownBy w' (Gn g)->w'.heap.size=w.heap.size->K (a.put o.dst (goInt Ds)) w'):
  if Region.wanted o (yielded ops a.tmps)=Um then Oper.wp P o a w K Q else E:=by
 have hw:Region.wanted o (yielded ops a.tmps)=true:=by simp[Region.wanted,lS]
 rw[if_pos hw];have ju:(P.info? UE).map (·.size)=Gn size:=by
  obtain⟨i,h2,_,h4,_⟩:=info_parts Ny;simp[h2,h4]
 obtain⟨w',JA,r1,r2,r3⟩:=yW (P:=P) w dT sT o.type UE size g off OC xR sp Ds VT m t f f' hu ju sX Ir hm OY h1 lF;unfold Oper.wp;simp[execOp,ho,resolve,invoke,builtin,hd,hs,JA,Result.andThen];exact h w' r1 r2 r3
def Zv(num:Int)(net code:Dn)(z:Nat->Int)(j:Nat):Value:=if j=0 then .int .i64 num else if j=1 then net else if j=2 then code else .int .i64 (z j)
def Az(lim:Int)(m:Nat)(img:Nat->Int)(j:Nat):Int:=if j=3 then lim else if 8<=j/\j<8+m then img (j-8)else if 29<=j/\j<29+m then img (j-29)else 0
theorem row48(w:En)(t:Nat)(a b c d:Dn):Tn (w.alloc (.cells (List.toArray (a::b::c::d::.int .i64 0::.int .i64 0::.int .i64 0::.int .i64 0::.int .i64 0::.int .i64 0::.int .i64 0::.int .i64 0::.int .i64 0::.int .i64 0::.int .i64 0::.int .i64 0::.int .i64 0::.int .i64 0::.int .i64 0::.int .i64 0::.int .i64 0::.int .i64 0::.int .i64 0::.int .i64 0::.int .i64 0::.int .i64 0::.int .i64 0::.int .i64 0::.int .i64 0::.int .i64 0::.int .i64 0::.int .i64 0::.int .i64 0::.int .i64 0::.int .i64 0::.int .i64 0::.int .i64 0::.int .i64 0::.int .i64 0::.int .i64 0::.int .i64 0::.int .i64 0::.int .i64 0::.int .i64 0::.int .i64 0::.int .i64 0::.int .i64 0::.int .i64 0::[])) t)) w.heap.size 48 t (fun j=>if j=0 then a else if j=1 then b else if j=2 then c else if j=3 then d else .int .i64 0):=by
 refine Tn.new w _ t _ (fun j hj=>?_);have e:((List.toArray (a::b::c::d::.int .i64 0::.int .i64 0::.int .i64 0::.int .i64 0::.int .i64 0::.int .i64 0::.int .i64 0::.int .i64 0::.int .i64 0::.int .i64 0::.int .i64 0::.int .i64 0::.int .i64 0::.int .i64 0::.int .i64 0::.int .i64 0::.int .i64 0::.int .i64 0::.int .i64 0::.int .i64 0::.int .i64 0::.int .i64 0::.int .i64 0::.int .i64 0::.int .i64 0::.int .i64 0::.int .i64 0::.int .i64 0::.int .i64 0::.int .i64 0::.int .i64 0::.int .i64 0::.int .i64 0::.int .i64 0::.int .i64 0::.int .i64 0::.int .i64 0::.int .i64 0::.int .i64 0::.int .i64 0::.int .i64 0::.int .i64 0::.int .i64 0::.int .i64 0::[])):Array Dn)=([a,b,c,d]++List.replicate 44 (Value.int .i64 0)).toArray:=rfl;rw[e]at hj ⊢;rcases j with _|_|_|_|j
 ·rfl
 ·rfl
 ·rfl
 ·rfl
 ·simp only[List.size_toArray,List.length_append,List.length_cons,List.length_nil,List.length_replicate]at hj;show ([a,b,c,d]++List.replicate 44 (Value.int .i64 0)).toArray[j+1+1+1+1]?=Gn (.int .i64 0);rw[List.getElem?_toArray,List.getElem?_append_right P0,List.getElem?_replicate,if_pos (by simp only[List.length_cons,List.length_nil];omega)]
theorem dH:(prog.info? 184).map (·.size)=Gn 21:=J0
theorem jW{w:En}{g t:Nat}{a b c:Dn}{G:Nat->Int}(h:Tn w g 48 t (fun j=>if j=0 then a else if j=1 then b else if j=2 then c else .int .i64 (G j))):w.rangeAt g 4 ((Hm 21).map (fun j=>.int .i64 (G (4+j)))):=fun j v hv=>by
 rw[List.getElem?_map]at hv;obtain⟨y,hy,rfl⟩:=Option.map_eq_some_iff.1 hv;have hj:j<21:=by
  have:=(List.getElem?_eq_some_iff.1 hy).1;exact Vd
 rw[List.getElem?_range hj]at hy;cases hy;have:=h.cell (j:=4+j) E0;rw[this,if_neg E0,if_neg E0,if_neg E0]
theorem kW{w:En}{g t:Nat}{f:Nat->Dn}{L:List Dn}(h:Tn w g 48 t f)(hL:L.length=21):w.there g 25 L.toArray.size:=fun j hj=>by
 have kz:j<21:=by rw[List.size_toArray,hL]at hj;exact hj
 rw[h.cell (j:=25+j) E0];exact⟨rfl,h.frozen _⟩
theorem SE{B:Nat}{w0 w:En}{b:Nat}(h:Sm B w0 w)(hb:B<=b):∀(o:Nat)(vs:List Dn),Sm B w0 (w.setCells b o vs):=by
 intro o vs;induction vs generalizing o w with
 |nil=>exact h
 |cons v vs ih=>exact ih (h.setCell hb _) _
theorem Tn.setCells{w:En}{g m t:Nat}{f:Nat->Dn}(h:Tn w g m t f):∀(vs:List Dn)(o:Nat),Tn (w.setCells g o vs) g m t (fun j=>if o<=j/\j<o+vs.length then vs.getD (j-o) Bn else f j):=by
 intro vs;induction vs generalizing w f with
 |nil=>exact fun o=>h.congr fun j _=>by rw[if_neg P0]
 |cons v vs ih=>
  intro o;refine(ih (h.set o v) (o+1)).congr fun j _=>?_;simp only[List.length_cons];by_cases h1:o+1<=j/\j<o+1+vs.length
  ·rw[if_pos h1,if_pos E0,show j-o=(j-(o+1))+1 by omega];rfl
  ·rw[if_neg h1];by_cases h2:j=o
   ·subst h2;rw[if_pos rfl,if_pos E0,Nat.sub_self];rfl
   ·rw[if_neg h2,if_neg E0]
theorem WS : (Tryz.f79.name == "runtime.NumGoroutine") = Tm := J0
theorem jR:Tryz.f79.body.isNone=false:=J0
def JB(z:Nat->Int):Nat->List Dn
 |0=>[]
 |k+1=>JB z k++[.int .i64 (z (k*3+1)),.int .i64 (z (k*3+2))]
def tw:Nat->List Dn
 |0=>[]
 |k+1=>tw k++[.slice Hn 0 0,.slice Hn 0 0,.int .i64 0]
def ru:Nat->List Dn
 |0=>[]
 |k+1=>ru k++[.int .i64 0,.int .i64 (-1),.int .i64 0,.bool Tm]
def CL(w:En)(K:Nat)(z:Nat->Int)(k:Nat)(wr:En):Prop:=
 ∃ve vq vs,Sm w.heap.size w wr/\Tn wr K 3 149 (cells3 ve vq vs)/\wr.ownsRow (K+1) 151 2 ve k (JB z k)/\
  wr.ownsRow (K+1) 156 3 vq k (tw k)/\wr.ownsRow (K+1) 158 4 vs k (ru k)
theorem b20:(prog.info? 151).map (fun i=>(i.zero,i.size,i.bytes))=Gn (Gn (.agg #[.int .i64 0,.int .i64 0]),2,16):=J0
theorem XY:(prog.info? 156).map (fun i=>(i.zero,i.size,i.bytes))=Gn (Gn (.agg #[.slice Hn 0 0,.slice Hn 0 0,.int .i64 0]),3,56):=J0
theorem tV:(prog.info? 158).map (fun i=>(i.zero,i.size,i.bytes))=Gn (Gn (.agg #[.int .i64 0,.int .i64 0,.int .i64 0,.bool Tm]),4,32):=J0
theorem vQ{w:En}{b1 b2 e1 e2 s1 s2 n1 n2:Nat}{v1 v2:Dn}{x1 x2:List Dn}(h1:w.ownsRow b1 e1 s1 v1 n1 x1)(h2:w.ownsRow b2 e2 s2 v2 n2 x2)(he:e1≠e2):v1.ownBlock=Hn\/v1.ownBlock≠v2.ownBlock:=by
 rcases h1.2 with⟨rfl,_⟩|⟨g,cap,Ov,rfl,hb,hg,_⟩
 ·exact .inl rfl
 ·rcases h2.2 with⟨rfl,_⟩|⟨g',BU,Ov0,rfl,Xq,jJ,_⟩
  ·exact .inr Y4
  ·refine .inr fun e=>?_;have:g=g':=by simpa[Value.ownBlock]using e
   subst this;rw[hg]at jJ;exact he (by cases jJ;rfl)
theorem vN{w wr wA wg:En}{K i:Nat}{v x:Dn}{b e s n:Nat}{xs:List Dn}(hK:w.heap.size<=K)(hb:Sm w.heap.size w wr)(hA:Sm wr.heap.size wr wA)(ho:wr.ownsRow (K+1) e s v n xs)(hg:wA.grownBy wg v.ownBlock):
  Sm w.heap.size w (wg.setCell ⟨K,i,Hn⟩ x)/\(∀u e' s' n' ys,e'≠e->wr.ownsRow (K+1) e' s' u n' ys->(wg.setCell ⟨K,i,Hn⟩ x).ownsRow (K+1) e' s' u n' ys)/\(∀m t f,Tn wr K m t f->Tn wg K m t f)/\(b<K->∀m t f,Tn wr b m t f->Tn (wg.setCell ⟨K,i,Hn⟩ x) b m t f):=by
 have hl:∀j,j<K+1->Gn j≠v.ownBlock:=fun j hj=>uZ ho hj;have Jv:∀j,j<wr.heap.size->j<K+1->wg.heap[j]?=wr.heap[j]?:=fun j hj kz=>(hg.block j (Lm hj hA.size) (hl j kz)).trans (hA.block j hj);refine⟨Below.setCell ⟨hg.os.trans (hA.os.trans hb.os),hg.tape.trans (hA.tape.trans hb.tape),hg.output.trans (hA.output.trans hb.output),Qm hb.size (Qm hA.size hg.size),fun j hj=>(Jv j (Lm hj hb.size) E0).trans (hb.block j hj)⟩ hK _,fun u e' s' n' ys he hu=>?_,fun m t f hr=>hr.of_heap (Jv K hr.lt E0),fun hbK m t f hr=>(hr.of_heap (Jv b hr.lt E0)).other _ _ A1⟩;exact ownsRow_setCell_below ((xo hu hA).kept hg (vQ (xo hu hA) (xo ho hA) he)) P0 _
theorem JH(p:Option Vm)(n cap:Nat)(z:Nat->Int)(w:En)(hs:Sl w p (n*3) (fun j=>.int .i64 (z j)))(hn:n<=8):
  Zm prog 51 #[.slice p n cap] w fun e w'=>∃kb,e=.returned (.pointer (Gn ⟨kb,0,Hn⟩))/\w.heap.size<=kb/\CL w kb z n w':=by
 have S0:Hid (Sl w p (n*3) (fun j=>.int .i64 (z j))):=hs;clear hs
 go_enter func51,ntmps51
 go_wp2_with fail
 have N0:Hid (CL w w.heap.size z 0 (w.alloc (.cells #[.slice Hn 0 0,.slice Hn 0 0,.slice Hn 0 0] 149))):=
  ⟨_,_,_,(Below.refl _ _).alloc N8 _,row3 w _ _ _ _,World.ownsRow_nil _ _ _ _,World.ownsRow_nil _ _ _ _,World.ownsRow_nil _ _ _ _⟩
 generalize (w.alloc (.cells #[.slice Hn 0 0,.slice Hn 0 0,.slice Hn 0 0] 149))=w0 at *;have hK:w.heap.size<=w.heap.size:=Om _;have S1:Hid (Sl w p (n*3) (fun j=>.int .i64 (z j))):=S0.out;clear S0;have HW:Hid (∀wr,Sm w.heap.size w wr->Sl wr p (n*3) (fun j=>.int .i64 (z j))):=fun wr h=>S1.out.below h;generalize hKd:w.heap.size=K at *;go_loopw [10] (fun i wr=>∃k:Nat,k<=n/\i=.int .i64 k/\Hid (CL w K z k wr)) (fun i _=>n-(intOf i).toNat)
 case atStart=>exact⟨0,Pm _,rfl,N0⟩
 case round=>
  obtain⟨k,hk,rfl,HR⟩:=hrel;obtain⟨ve,vq,vs,hbr,Ir,kO,IY,ho3⟩:=HR.out;have Aw:Hid (Sm K w wr):=hKd▸hbr;have z_:Hid (Tn wr K 3 149 (cells3 ve vq vs)):=Ir;have O1:Hid (wr.ownsRow (K+1) 151 2 ve k (JB z k)):=kO;have O2:Hid (wr.ownsRow (K+1) 156 3 vq k (tw k)):=IY;have O3:Hid (wr.ownsRow (K+1) 158 4 vs k (ru k)):=ho3;clear hbr Ir kO IY ho3 HR;by_cases yo:k<n
  ·obtain⟨b,off,rfl,hc⟩:=(HW.out wr (hKd▸Aw.out)).at E0;refine Vb fun c0 c1 c2=>?_;rw[<-Jm]at c1 c2;clear hc;have dK:K<wr.heap.size:=z_.out.lt;obtain⟨z0,z1,z2⟩:=z_.out.at3;go_wp2_with fail;have TP:Hid (Sm wr.heap.size wr (wr.alloc (.cells #[.int .i64 (z (k*3)),.int .i64 (z (k*3+1)),.int .i64 (z (k*3+2))] 138))):=(Below.refl _ _).alloc N8 _;have hsp:(wr.alloc (.cells #[.int .i64 (z (k*3)),.int .i64 (z (k*3+1)),.int .i64 (z (k*3+2))] 138)).heap.size=wr.heap.size+1:=P0;obtain⟨e0,e1,e2⟩:=(row3 wr (.int .i64 (z (k*3))) (.int .i64 (z (k*3+1))) (.int .i64 (z (k*3+2))) 138).at3;have eK:=(TP.out.cell (p:=⟨K,0,Hn⟩) dK).trans z0;generalize (wr.alloc (.cells #[.int .i64 (z (k*3)),.int .i64 (z (k*3+1)),.int .i64 (z (k*3+2))] 138))=wp at *;have hKp:K<wp.heap.size:=E0;have eKa:(wp.alloc (.cells #[.int .i64 (z (k*3+1)),.int .i64 (z (k*3+2))] 151)).cell? ⟨K,0,Hn⟩=Gn ve:=(((Below.refl _ wp).alloc N8 _).cell (p:=⟨K,0,Hn⟩) hKp).trans eK
   go_region_law
    (refine Br rfl _ _ 145 rfl (K+1) 151 _ 2 16 underlying145 b20 rfl E0 ve k (JB z k) rfl (xo O1.out J7) (wr.heap.size+1) [.int .i64 (z (k*3+1)),.int .i64 (z (k*3+2))] 151 rfl rfl (by exact alloc_at hsp) D2 Y1 E0 A1 ?_
     intro g gp wg kq uo jr Av;have HS:Hid _:=vN (w:=w) (wr:=wr) (K:=K) (i:=0) (x:=.slice (Gn ⟨g,0,Hn⟩) (k+1:Nat) gp) (b:=0) E0 (hKd▸Aw.out) J7 O1.out uo;have FB:Hid (Tn wg K 3 149 (cells3 ve vq vs)):=HS.out.2.2.1 _ _ _ z_.out;have HO1:Hid (wg.ownsRow (K+1) 151 2 (.slice (Gn ⟨g,0,Hn⟩) (k+1:Nat) gp) (k+1) (JB z k++[.int .i64 (z (k*3+1)),.int .i64 (z (k*3+2))])):=kq;have q0:=FB.out.at3.1;have zQ:=FB.out.frozen 0;clear kq uo jr Av eK eKa)
   all_goals
    have B3:Hid (Sm K w (wg.setCell ⟨K,0,Hn⟩ (.slice (Gn ⟨g,0,Hn⟩) (k+1:Nat) gp))):=hKd▸HS.out.1;have R3:Hid (Tn (wg.setCell ⟨K,0,Hn⟩ (.slice (Gn ⟨g,0,Hn⟩) (k+1:Nat) gp)) K 3 149 (cells3 (.slice (Gn ⟨g,0,Hn⟩) (k+1:Nat) gp) vq vs)):=(FB.out.UZ _).1;have P1:Hid ((wg.setCell ⟨K,0,Hn⟩ (.slice (Gn ⟨g,0,Hn⟩) (k+1:Nat) gp)).ownsRow (K+1) 151 2 (.slice (Gn ⟨g,0,Hn⟩) (k+1:Nat) gp) (k+1) (JB z (k+1))):=ownsRow_setCell_below HO1.out P0 _;have P2:Hid ((wg.setCell ⟨K,0,Hn⟩ (.slice (Gn ⟨g,0,Hn⟩) (k+1:Nat) gp)).ownsRow (K+1) 156 3 vq k (tw k)):=HS.out.2.1 _ _ _ _ _ U0 O2.out;have P3:Hid ((wg.setCell ⟨K,0,Hn⟩ (.slice (Gn ⟨g,0,Hn⟩) (k+1:Nat) gp)).ownsRow (K+1) 158 4 vs k (ru k)):=HS.out.2.1 _ _ _ _ _ U0 O3.out;clear q0 zQ HS FB HO1 O1 O2 O3 z_ Aw z0 z1 z2 e0 e1 e2 TP hsp c0 c1 c2 hKp dK;generalize wg.setCell ⟨K,0,Hn⟩ (.slice (Gn ⟨g,0,Hn⟩) (k+1:Nat) gp)=w3 at *;generalize (Value.slice (Gn ⟨g,0,Hn⟩) (k+1:Nat) gp)=ve at *;clear wg;obtain⟨z0,z1,z2⟩:=R3.out.at3;have hK3:K<w3.heap.size:=R3.out.lt;have A3:Hid (Sm w3.heap.size w3 (w3.alloc (.cells #[.slice Hn 0 0,.slice Hn 0 0,.int .i64 0] 156))):=(Below.refl _ _).alloc N8 _;go_wp2_with
     (first
      |(refine Eo _ rfl _ _ 146 rfl (K+1) 156 _ 3 56 underlying146 XY rfl E0 vq k (tw k) rfl (xo P2.out A3.out) w3.heap.size [.slice Hn 0 0,.slice Hn 0 0,.int .i64 0] 156 rfl rfl G2 D2 Y1 E0 A1 ?_
        intro g2 dq wh kq uo jr Av;have HS:Hid _:=vN (w:=w) (wr:=w3) (K:=K) (i:=1) (x:=.slice (Gn ⟨g2,0,Hn⟩) (k+1:Nat) dq) (b:=0) E0 (hKd▸B3.out) A3.out P2.out uo;have FB:Hid (Tn wh K 3 149 (cells3 ve vq vs)):=HS.out.2.2.1 _ _ _ R3.out;have HO1:Hid (wh.ownsRow (K+1) 156 3 (.slice (Gn ⟨g2,0,Hn⟩) (k+1:Nat) dq) (k+1) (tw k++[.slice Hn 0 0,.slice Hn 0 0,.int .i64 0])):=kq;have q0:=FB.out.at3.2.1;have zQ:=FB.out.frozen 1;have q2:=FB.out.at3.2.2;have hKh:K<wh.heap.size:=FB.out.lt;have B4:Hid (Sm K w (wh.setCell ⟨K,1,Hn⟩ (.slice (Gn ⟨g2,0,Hn⟩) (k+1:Nat) dq))):=hKd▸HS.out.1;have R4:Hid (Tn (wh.setCell ⟨K,1,Hn⟩ (.slice (Gn ⟨g2,0,Hn⟩) (k+1:Nat) dq)) K 3 149 (cells3 ve (.slice (Gn ⟨g2,0,Hn⟩) (k+1:Nat) dq) vs)):=(FB.out.UZ _).2.1;have T2:Hid ((wh.setCell ⟨K,1,Hn⟩ (.slice (Gn ⟨g2,0,Hn⟩) (k+1:Nat) dq)).ownsRow (K+1) 156 3 (.slice (Gn ⟨g2,0,Hn⟩) (k+1:Nat) dq) (k+1) (tw (k+1))):=ownsRow_setCell_below HO1.out P0 _;have T1:Hid ((wh.setCell ⟨K,1,Hn⟩ (.slice (Gn ⟨g2,0,Hn⟩) (k+1:Nat) dq)).ownsRow (K+1) 151 2 ve (k+1) (JB z (k+1))):=HS.out.2.1 _ _ _ _ _ U0 P1.out;have T3:Hid ((wh.setCell ⟨K,1,Hn⟩ (.slice (Gn ⟨g2,0,Hn⟩) (k+1:Nat) dq)).ownsRow (K+1) 158 4 vs k (ru k)):=HS.out.2.1 _ _ _ _ _ U0 P3.out;have A4:Hid (Sm (wh.setCell ⟨K,1,Hn⟩ (.slice (Gn ⟨g2,0,Hn⟩) (k+1:Nat) dq)).heap.size (wh.setCell ⟨K,1,Hn⟩ (.slice (Gn ⟨g2,0,Hn⟩) (k+1:Nat) dq)) ((wh.setCell ⟨K,1,Hn⟩ (.slice (Gn ⟨g2,0,Hn⟩) (k+1:Nat) dq)).alloc (.cells #[.int .i64 0,.int .i64 (-1),.int .i64 0,.bool Tm] 158))):=(Below.refl _ _).alloc N8 _;clear kq uo jr Av)
      |(refine Eo _ rfl _ _ 147 rfl (K+1) 158 _ 4 32 underlying147 tV rfl E0 vs k (ru k) rfl (xo T3.out A4.out) wh.heap.size [.int .i64 0,.int .i64 (-1),.int .i64 0,.bool Tm] 158 rfl rfl J3 D2 Y1 E0 A1 ?_
        intro g3 Lq wi kq uo jr Av;have HS3:Hid _:=vN (w:=w) (wr:=(wh.setCell ⟨K,1,Hn⟩ (.slice (Gn ⟨g2,0,Hn⟩) (k+1:Nat) dq))) (K:=K) (i:=2) (x:=.slice (Gn ⟨g3,0,Hn⟩) (k+1:Nat) Lq) (b:=0) E0 (hKd▸B4.out) A4.out T3.out uo;have HR3:Hid (Tn wi K 3 149 (cells3 ve (.slice (Gn ⟨g2,0,Hn⟩) (k+1:Nat) dq) vs)):=HS3.out.2.2.1 _ _ _ R4.out;have HO3:Hid (wi.ownsRow (K+1) 158 4 (.slice (Gn ⟨g3,0,Hn⟩) (k+1:Nat) Lq) (k+1) (ru k++[.int .i64 0,.int .i64 (-1),.int .i64 0,.bool Tm])):=kq;have HN:Hid (CL w K z (k+1) (wi.setCell ⟨K,2,Hn⟩ (.slice (Gn ⟨g3,0,Hn⟩) (k+1:Nat) Lq))):=
         ⟨_,_,_,HS3.out.1,(HR3.out.UZ _).2.2,HS3.out.2.1 _ _ _ _ _ U0 T1.out,HS3.out.2.1 _ _ _ _ _ U0 T2.out,ownsRow_setCell_below HO3.out P0 _⟩
        clear q0 zQ q2;have q0:=HR3.out.at3.2.2;have zQ:=HR3.out.frozen 2;clear kq uo jr Av))
    exact⟨⟨k+1,E0,E1,HN⟩,U1⟩
  ·obtain rfl:k=n:=by omega
   clear yo hk;go_wp2_with fail;go_ret;exact⟨_,rfl,E0,_,_,_,hKd▸Aw.out,z_.out,O1.out,O2.out,O3.out⟩
theorem KN(c:Ur)(v0 v1 v2 v3:Dn)(w:En)(h:Zx w v0 v1 v2 v3 c)(hw:TK c):
  Zm prog 50 #[.agg #[v0,v1,v2,v3]] w (PI c w):=by
 obtain⟨p0,yp,F0,p1,gp,F1,p2,dq,p3,Lq,rfl,rfl,rfl,rfl,s0,k0,s1,k1,s2,s3,b0,b1,b2,b3⟩:=h.parts;refine sg fun Vx dS=>?_;have HR:Hid (Zx w (.slice p0 c.nC yp) (.slice p1 c.nT gp) (.slice p2 c.Zo dq) (.slice p3 c.nD Lq) c):=h;refine Wc fun S1 K1 S2=>?_;have S3:Hid (Sl w p3 c.nD (fun j=>.int .i64 (c.dv j))):=s3;have HW0:Hid (TK c):=hw;clear h s0 k0 s1 k1 s2 s3 b2 b3 hw;refine U9 fun HA=>?_;by_cases n1:Yy c
 case neg=>
  have q:c.nC<1\/6<c.nC:=by unfold Yy at n1;omega
  have C1:Hid (vo c 1 0):=vo.c1 n1;clear n1;rcases q with q|q
  all_goals
   go_enter func50,ntmps50
   go_wp2_with fail
   go_ret2
   exact PI.mk C1.out (HA.out _)
 have q1:1<=c.nC:=n1.1;have q1':c.nC<=6:=n1.2;have N1:Hid (Yy c):=n1;clear n1
 go_enter func50,ntmps50
 go_wp2_with fail
 refine(UO c p1 gp F1 _ (S1.out.below (HA.out _)) (fun i hi=>(K1.out i hi).keep (Ju (HA.out _))) b1).mono ?_;rintro e w1 ⟨x,rfl,hx,Dq⟩;refine Bd fun Ax=>?_;clear Dq;rcases hx with⟨gI,rfl⟩|⟨gI,rfl,mF⟩|⟨i,gI,rfl,mF⟩
 ·have C2:Hid (vo c 2 0):=vo.c2 N1.out gI;clear gI;go_wp2_with fail
  go_ret2
  exact PI.mk C2.out (Vo Ax.out)
 ·have N2:Hid (Zy c):=gI;have N3:Hid (Lp (Qw c) c.nT):=mF;clear gI mF;obtain⟨x0,x1,x2,x3⟩:=NG Ax.out;go_wp2_with fail;refine(yM c p2 dq _ (S2.out.below (Vo Ax.out)) Vx).mono ?_;rintro e w2 ⟨x,rfl,hx,Dq⟩;have Pz:Hid (Sm (w.heap.size+1) (w.alloc (.cells #[.slice p0 c.nC yp,.slice p1 c.nT gp,.slice p2 c.Zo dq,.slice p3 c.nD Lq] 28)) w2):=FH Ax.out Dq;clear Dq x0 x1 x2 x3;rcases hx with⟨gI,rfl⟩|⟨gI,rfl,mF⟩|⟨i,gI,rfl,mF⟩
  ·have C4:Hid (vo c 3 0):=vo.c4 N1.out N2.out N3.out gI;clear gI;go_wp2_with fail
   go_ret2
   exact PI.mk C4.out (Vo Pz.out)
  ·have N5:Hid (Lp (Xz c) c.Zo):=mF;have n4:=gI;clear gI mF;obtain⟨x0,x1,x2,x3⟩:=NG Pz.out;go_wp2_with fail;refine(RO c p3 Lq _ (S3.out.below (Vo Pz.out)) dS).mono ?_;rintro e w3 ⟨x,rfl,hx,Dq⟩;have zL:Hid (Sm (w.heap.size+1) (w.alloc (.cells #[.slice p0 c.nC yp,.slice p1 c.nT gp,.slice p2 c.Zo dq,.slice p3 c.nD Lq] 28)) w3):=FH Pz.out Dq;clear Dq x0 x1 x2 x3;rcases hx with⟨gI,rfl⟩|⟨gI,rfl,mF⟩|⟨i,gI,rfl,mF⟩
   ·have C6:Hid (vo c 4 0):=vo.c6 N1.out N2.out N3.out n4 N5.out gI;clear gI;go_wp2_with fail
    go_ret2
    exact PI.mk C6.out (Vo zL.out)
   ·have N7:Hid (Lp (FG c) c.nD):=mF;have n6:=gI;clear gI mF;obtain⟨x0,x1,x2,x3⟩:=NG zL.out;go_wp2_with fail;refine(xM c _ _ _ _ _ (HR.out.below (Vo zL.out)) HW0.out q1' n4 N5.out n6).mono ?_;rintro e w4 ⟨x,rfl,hx,Dq⟩;have HB4:Hid (Sm (w.heap.size+1) (w.alloc (.cells #[.slice p0 c.nC yp,.slice p1 c.nT gp,.slice p2 c.Zo dq,.slice p3 c.nD Lq] 28)) w4):=FH zL.out Dq;clear Dq x0 x1 x2 x3;rcases hx with⟨rfl,mF⟩|⟨i,rfl,mF⟩
    ·have C9:Hid (vo c 0 0):=vo.c9 N1.out N2.out N3.out n4 N5.out n6 N7.out mF;clear mF;go_wp2_with fail
     go_ret2
     exact PI.mk C9.out (Vo HB4.out)
    ·have C8:Hid (vo c 5 i):=vo.c8 N1.out N2.out N3.out n4 N5.out n6 N7.out mF;have Yp:((i:Int) != -1)=true:=by simp
     clear mF;go_wp2_with fail
     go_ret2
     exact PI.mk C8.out (Vo HB4.out)
   ·have C7:Hid (vo c 4 i):=vo.c7 N1.out N2.out N3.out n4 N5.out gI mF;have Yp:((i:Int) != -1)=true:=by simp
    clear gI mF;go_wp2_with fail
    go_ret2
    exact PI.mk C7.out (Vo zL.out)
  ·have C5:Hid (vo c 3 i):=vo.c5 N1.out N2.out N3.out gI mF;have Yp:((i:Int) != -1)=true:=by simp
   clear gI mF;go_wp2_with fail
   go_ret2
   exact PI.mk C5.out (Vo Pz.out)
 ·have C3:Hid (vo c 2 i):=vo.c3 N1.out gI mF;have Yp:((i:Int) != -1)=true:=by simp
  clear gI mF;go_wp2_with fail
  go_ret2
  exact PI.mk C3.out (Vo Ax.out)
theorem vo.place{c:Ur}{x y:Int}(h:vo c x y)(h0:x=0):vo c 0 0:=by
 subst h0;unfold vo at h;rcases h with h|h|⟨_,_,i,_,h,_⟩|h|⟨_,_,_,_,i,_,h,_⟩|h|⟨_,_,_,_,_,_,i,_,h,_⟩|⟨_,_,_,_,_,_,_,i,_,h,_⟩|h
 ·exact Ei
 ·exact Ph
 ·exact Zc
 ·exact Fg
 ·exact Zc
 ·exact Jf
 ·exact Zc
 ·exact Zc
 ·exact vo.c9 h.1 h.2.1 h.2.2.1 h.2.2.2.1 h.2.2.2.2.1 h.2.2.2.2.2.1 h.2.2.2.2.2.2.1 h.2.2.2.2.2.2.2.1
theorem Xb0:(prog.info? 61).map (fun i=>(i.zero,i.size,i.bytes))=Gn (Gn (.slice Hn 0 0),1,24):=J0
theorem Wb0:(prog.info? 143).map (fun i=>(i.zero,i.size,i.bytes))=Gn (Gn (.pointer Hn),1,8):=J0
theorem XS : (Tryz.f52.name == "runtime.NumGoroutine") = Tm := J0
theorem kR:Tryz.f52.body.isNone=false:=J0
theorem US : (Tryz.f53.name == "runtime.NumGoroutine") = Tm := J0
theorem iR:Tryz.f53.body.isNone=false:=J0
theorem vo.sizes{c:Ur}(h:vo c 0 0):Yy c/\Zy c/\Lp (Xu c) c.nC:=by
 unfold vo at h;rcases h with h|h|⟨_,_,i,_,h,_⟩|h|⟨_,_,_,_,i,_,h,_⟩|h|⟨_,_,_,_,_,_,i,_,h,_⟩|⟨_,_,_,_,_,_,_,i,_,h,_⟩|h
 ·exact Ei
 ·exact Ph
 ·exact Zc
 ·exact Fg
 ·exact Zc
 ·exact Jf
 ·exact Zc
 ·exact Zc
 ·exact⟨h.1,h.2.1,h.2.2.2.2.2.2.2.1⟩
def tA(a b c d e:Dn)(j:Nat):Value:=if j=0 then a else if j=1 then b else if j=2 then c else if j=3 then d else e
theorem kl0(w:En)(a b c d e:Dn)(t:Nat):Tn (w.alloc (.cells #[a,b,c,d,e] t)) w.heap.size 5 t (tA a b c d e):=
 Tn.new w #[a,b,c,d,e] t _ (fun j hj=>by
  have:j=0\/j=1\/j=2\/j=3\/j=4:=by simp at hj;omega
  rcases this with rfl|rfl|rfl|rfl|rfl<;>rfl)
theorem Tn.db0{w:En}{g t:Nat}{a b c d e:Dn}(h:Tn w g 5 t (tA a b c d e)):w.cell? ⟨g,0,Hn⟩=Gn a/\w.cell? ⟨g,1,Hn⟩=Gn b/\w.cell? ⟨g,2,Hn⟩=Gn c/\w.cell? ⟨g,3,Hn⟩=Gn d/\w.cell? ⟨g,4,Hn⟩=Gn e:=
 ⟨h.cell E0,h.cell E0,h.cell E0,h.cell E0,h.cell E0⟩
theorem Tn.L90{w:En}{g t:Nat}{a b c d e:Dn}(h:Tn w g 5 t (tA a b c d e))(v:Dn):
  Tn (w.setCell ⟨g,0,Hn⟩ v) g 5 t (tA v b c d e)/\Tn (w.setCell ⟨g,1,Hn⟩ v) g 5 t (tA a v c d e)/\Tn (w.setCell ⟨g,2,Hn⟩ v) g 5 t (tA a b v d e):=by
 refine⟨(h.set 0 v).congr ?_,(h.set 1 v).congr ?_,(h.set 2 v).congr ?_⟩
 all_goals
  intro j hj;have:j=0\/j=1\/j=2\/j=3\/j=4:=E0;rcases this with rfl|rfl|rfl|rfl|rfl<;>rfl
theorem FP{P:Ym}{ops:Array Oper}{o:Oper}{a:Act}{w:En}{K:Act->En->Prop}{Q:Exit->Act->En->Prop}{E:Prop}(lS:o.guard=Hn)(f:FuncId)(s1 s2 s3:Operand)(t1 t2 t3:TypeId)
  (ho:o.op=.call {callee:=.value (.func f),args:=#[s1,s2,s3],argTypes:=#[t1,t2,t3]})(v1 v2 v3:Dn)(hv1:a.eval s1=v1)(hv2:a.eval s2=v2)(hv3:a.eval s3=v3)
  (fn : Func) (hf : P.funcs[f]? = Gn fn) (hn : (fn.name == "runtime.NumGoroutine") = Tm) (hb : fn.body.isNone = Tm) (R : Dn -> En -> Prop)
  (h:Zm P f #[v1,v2,v3] w (fun e w'=>∃r,e=.returned r/\R r w'))(hk:∀r w',R r w'->K (a.put o.dst r) w'):
  if Region.wanted o (yielded ops a.tmps)=Um then Oper.wp P o a w K Q else E:=by
 have hw:Region.wanted o (yielded ops a.tmps)=true:=by simp[Region.wanted,lS]
 rw[if_pos hw];unfold Oper.wp;have hr:(execOp a.eval o).run P w=.ok (.enter f #[v1,v2,v3]) w:=by
  have e:a.eval (.func f)=.func (.func f) #[] #[]:=rfl;have hn' : ¬ fn.name = "runtime.NumGoroutine" := D5
  have Xq:¬fn.body=none:=by intro e;rw[e]at hb;cases hb
  simp[execOp,ho,resolve,invoke,hv1,hv2,hv3,e,Deferred.ofValue,callFunc,hf,hn',Xq]
 exact Yk
theorem qN{w wr wg:En}{K i:Nat}{v x:Dn}(hb:Sm w.heap.size w wr)(hs:wr.heap.size<=wg.heap.size)(hf:wg.os=wr.os/\wg.tape=wr.tape/\wg.output=wr.output)
  (hol:∀j,j<wr.heap.size->v.ownBlock≠Gn j->wg.heap[j]?=wr.heap[j]?)(hlo:∀j,v.ownBlock=Gn j->K+1<=j)(hK:w.heap.size<K):Sm w.heap.size w (wg.setCell ⟨K,i,Hn⟩ x):=by
 refine Below.setCell ⟨hf.1.trans hb.os,hf.2.1.trans hb.tape,hf.2.2.trans hb.output,Qm hb.size hs,fun j hj=>?_⟩ (by show w.heap.size<=K;omega) _;exact(hol j (Lm hj hb.size) (fun e=>by have:=hlo j e;omega)).trans (hb.block j hj)
theorem vo.D_{c:Ur}(h:vo c 0 0):c.Zo<=8:=by
 unfold vo at h;rcases h with h|h|⟨_,_,i,_,h,_⟩|h|⟨_,_,_,_,i,_,h,_⟩|h|⟨_,_,_,_,_,_,i,_,h,_⟩|⟨_,_,_,_,_,_,_,i,_,h,_⟩|h
 ·exact Ei
 ·exact Ph
 ·exact Zc
 ·exact Fg
 ·exact Zc
 ·exact Jf
 ·exact Zc
 ·exact Zc
 ·exact h.2.2.2.1
theorem k00{w W w0:En}{K t tc:Nat}{cs:Array Dn}{a b c d e:Dn}(hB:Sm (w.heap.size+1) (w.alloc (.cells cs tc)) W)(hK:K=W.heap.size)(h0:w0=W.alloc (.cells #[a,b,c,d,e] t)):
  Sm w.heap.size w w0/\Tn w0 K 5 t (tA a b c d e)/\K<w0.heap.size/\w.heap.size<K/\Sm (w.heap.size+1) (w.alloc (.cells cs tc)) w0:=by
 subst hK h0;have hs:w.heap.size<W.heap.size:=by have:=hB.size;simp at this;omega
 exact⟨(Vo hB).alloc E0 _,kl0 W _ _ _ _ _ _,P0,hs,hB.alloc E0 _⟩
end Go.Proofs.YtdoghgnifkgfdaaGreat
