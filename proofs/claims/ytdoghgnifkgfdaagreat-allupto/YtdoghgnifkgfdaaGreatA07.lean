import Derived.Test.YtdoghgnifkgfdaaGreatA06
set_option maxRecDepth 100000
set_option maxHeartbeats 16000000
open Option renaming none->Hn,some->Gn
open Go renaming World->En,Value->Dn,undef->Bn,heap_setCell_other->yn,Calls->Zm,Program->Ym,block_lt_of_cell->Wm,Addr->Vm
open Bool renaming true->Um,false->Tm
open Go.RowKit renaming Below->Sm
open Nat renaming le_trans->Qm,zero_le->Pm,le_refl->Om,add_assoc->Jm
open List renaming range->Hm,getElem?_append_left->Em
namespace Go.Proofs.YtdoghgnifkgfdaaGreat
open Tryz Go.RowKit
theorem OB(a:Int)(w:En):
  Zm prog 41 #[.int .i64 a] w fun e w'=>e=.returned (.int .i64 a)/\w'=w:=by
 go_enter func41,ntmps41
 go_wp2
 go_ret;exact Xl
theorem FZ{n m:Nat}{z:Nat->Int}{k:Nat}(hk:k<m)
  (h:z (k*2)<0\/(n:Int)<=z (k*2)\/z (k*2+1)<1\/200<z (k*2+1)):¬CH n m z:=by
 intro ⟨_,h2,h3⟩;have hw:=h2 k hk;unfold aM at hw;have:=(VN z m (fun i hi=>(h2 i hi).2.2)).2 k hk;omega
theorem EZ(p:Option Vm)(m cap n:Nat)(z:Nat->Int)(w:En)(hs:Sl w p (m*2) (fun j=>.int .i64 (z j)))(hb:16*m<=140737488355328):
  Zm prog 68 #[.slice p m cap,.int .i64 n] w (Vq (CH n m z) (·=w)):=by
 have hB:m<=8796093022208:=E0;have HS:Hid (Sl w p (m*2) (fun j=>.int .i64 (z j))):=hs;clear hs hb
 go_enter func68,ntmps68
 go_wp2
 go_loop [5,6] (fun s i=>∃k:Nat,k<=m/\i=.int .i64 k/\s=.int .i64 (sumTo z k)/\Hid (∀i,i<k->aM n z i/\z (i*2+1)<=200))
  (fun _ i=>m-(intOf i).toNat)
 case atStart=>exact⟨0,Pm _,rfl,rfl,fun i hi=>absurd hi E0⟩
 case round=>
  obtain⟨k,hk,rfl,rfl,HI⟩:=hrel;have Pb0:=TW z k (fun i hi=>⟨(HI.out i hi).1.2.2,(HI.out i hi).2⟩);by_cases yo:k<m
  ·obtain⟨b,off,rfl,hc⟩:=HS.out.at E0;have c0:=hc (k*2) E0;have c1:=hc (k*2+1) E0;rw[<-Jm]at c1;clear hc;generalize hz0:z (k*2)=x at *;generalize lP:z (k*2+1)=y at *;have HZ0:Hid (z (k*2)=x):=hz0;have vH:Hid (z (k*2+1)=y):=lP;clear hz0 lP;go_wp2
   case roundEnd=>
    refine⟨⟨k+1,E0,E1,by simp only[sumTo];rw[vH.out],fun i hi=>?_⟩,U1⟩;rcases Nat.lt_or_ge i k with hl|hl
    ·exact HI.out i hl
    ·obtain rfl:i=k:=by omega
     unfold aM;rw[HZ0.out,vH.out];omega
   all_goals
    go_ret;exact Vq.no (FZ yo (by rw[HZ0.out,vH.out];omega)) rfl
  ·obtain rfl:k=m:=by omega
   go_wp2
   ·go_ret;refine Vq.of ?_ rfl;simp only[decide_eq_true_eq];exact⟨fun h=>⟨E0,fun i hi=>(HI.out i hi).1,h⟩,fun h=>h.2.2⟩
   ·go_ret;exact Vq.no (fun h=>P4) rfl
theorem C_{c:Ur}{cell kind x y:Int}{m QG:Nat}(hm:(m:Int)<c.Zo)(hx:c.ch (m*3)=x)(hy:c.ch (m*3+QG)=y)(b:Bool)(hb:b=(decide (x=kind)&&decide (y=cell))):b=Um↔Vu c cell m kind QG:=by
 subst hb;simp only[Bool.and_eq_true,decide_eq_true_eq,Vu,Int.toNat_natCast,hx,hy];exact⟨fun h=>⟨E0,hm,h.1,h.2⟩,fun h=>⟨h.2.2.1,h.2.2.2⟩⟩
section
variable (c:Ur)(v0 v1 v3:Dn)(p:Option Vm)(cap:Nat)(cell n kind:Int)(w:En)(hs:Sl w p (c.Zo*3) (fun j=>.int .i64 (c.ch j)))(hb:24*c.Zo<=140737488355328)
include c v0 v1 v3 p cap cell n kind w hs hb
theorem GH:
  Zm prog 87 #[.agg #[v0,v1,.slice p c.Zo cap,v3],.int .i64 cell,.int .i64 n,.int .i64 kind,.bool Um] w (Vq (Vu c cell n kind 1) (Sm w.heap.size w)):=by
 have hB:c.Zo<=8796093022208:=E0;have HS:Hid (Sl w p (c.Zo*3) (fun j=>.int .i64 (c.ch j))):=hs;clear hs hb;refine rf fun HB=>?_;by_cases h0:n<0
 ·exact Wi
 ·by_cases h1:(c.Zo:Int)<=n
  ·exact Fh
  ·obtain⟨m,rfl⟩:=Int.eq_ofNat_of_zero_le (a:=n) E0;obtain⟨b,off,rfl,hc⟩:=HS.out.at E0;have c0:=hc (m*3) E0;have c1:=hc (m*3+1) E0;have yo:b<w.heap.size:=Wm c0;rw[<-Jm]at c1;clear hc;have hm:(m:Int)<c.Zo:=by omega
   have HU1:=fun b h=>@C_ c cell kind _ _ m 1 hm rfl rfl b h;generalize c.ch (m*3)=x at *;generalize c.ch (m*3+1)=y1 at *;have HU:Hid (∀b,b=(decide (x=kind)&&decide (y1=cell))->(b=Um↔Vu c cell m kind 1)):=HU1;clear HU1
   go_enter func87,ntmps87
   go_wp2
   ·have hx:(x != kind)=true:=by assumption
    exact Dh
   ·have hx:(x != kind)=false:=by assumption
    go_ret;exact Vq.of (b:=(y1==cell)) (HU.out _ K7) (HB.out _)
theorem OG:
  Zm prog 87 #[.agg #[v0,v1,.slice p c.Zo cap,v3],.int .i64 cell,.int .i64 n,.int .i64 kind,.bool Tm] w (Vq (Vu c cell n kind 2) (Sm w.heap.size w)):=by
 have hB:c.Zo<=8796093022208:=E0;have HS:Hid (Sl w p (c.Zo*3) (fun j=>.int .i64 (c.ch j))):=hs;clear hs hb;refine rf fun HB=>?_;by_cases h0:n<0
 ·exact Wi
 ·by_cases h1:(c.Zo:Int)<=n
  ·exact Fh
  ·obtain⟨m,rfl⟩:=Int.eq_ofNat_of_zero_le (a:=n) E0;obtain⟨b,off,rfl,hc⟩:=HS.out.at E0;have c0:=hc (m*3) E0;have c1:=hc (m*3+2) E0;have yo:b<w.heap.size:=Wm c0;rw[<-Jm]at c1;clear hc;have hm:(m:Int)<c.Zo:=by omega
   have HU1:=fun b h=>@C_ c cell kind _ _ m 2 hm rfl rfl b h;generalize c.ch (m*3)=x at *;generalize c.ch (m*3+2)=y1 at *;have HU:Hid (∀b,b=(decide (x=kind)&&decide (y1=cell))->(b=Um↔Vu c cell m kind 2)):=HU1;clear HU1
   go_enter func87,ntmps87
   go_wp2
   ·have hx:(x != kind)=true:=by assumption
    exact Dh
   ·have hx:(x != kind)=false:=by assumption
    go_ret;exact Vq.of (b:=(y1==cell)) (HU.out _ K7) (HB.out _)
end
theorem h20(v0 v1 v2 v3:Dn)(cell op r a n:Int)(w:En)(Jj0:op<0\/16<op\/r<0\/4<=r\/a<0\/4<=a):
  Zm prog 69 #[.agg #[v0,v1,v2,v3],.int .i64 cell,.agg #[.int .i64 op,.int .i64 r,.int .i64 a,.int .i64 n]] w fun e w'=>e=.returned (.bool Tm)/\Sm w.heap.size w w':=by
 refine P9 fun HB=>?_
 go_enter func69,ntmps69
 go_wp2_with fail
 all_goals
  go_ret;exact⟨rfl,HB.out _ _⟩
theorem d20(v0 v1 v2 v3:Dn)(cell op r a n:Int)(w:En)(h0:0<=op)(h1:op<=16)(h2:0<=r)(h3:r<4)(h4:0<=a)(h5:a<4)(q8:(op==8)=Tm)(q9:(op==9)=Tm)(q10:(op==10)=Tm)(q11:(op==11)=Tm)(q12:(op==12)=Tm)(q16:(op==16)=Tm)(q13:(op==13)=Tm)(q14:(op==14)=Tm):
  Zm prog 69 #[.agg #[v0,v1,v2,v3],.int .i64 cell,.agg #[.int .i64 op,.int .i64 r,.int .i64 a,.int .i64 n]] w fun e w'=>e=.returned (.bool Um)/\Sm w.heap.size w w':=by
 refine P9 fun HB=>?_
 go_enter func69,ntmps69
 go_wp2_with fail
 all_goals
  go_ret;exact⟨rfl,HB.out _ _⟩
section
variable (c:Ur)(v0 v1 v3:Dn)(p:Option Vm)(cap:Nat)(cell r a n:Int)(w:En)(h2:0<=r)(h3:r<4)(h4:0<=a)(h5:a<4)(hs:Sl w p (c.Zo*3) (fun j=>.int .i64 (c.ch j)))(hb:24*c.Zo<=140737488355328)
include c v0 v1 v3 p cap cell r a n w h2 h3 h4 h5 hs hb
theorem Wf0:
  Zm prog 69 #[.agg #[v0,v1,.slice p c.Zo cap,v3],.int .i64 cell,.agg #[.int .i64 10,.int .i64 r,.int .i64 a,.int .i64 n]] w (Vq (Vu c cell n 1 1) (Sm w.heap.size w)):=by
 refine P9 fun HB=>?_;exact Qb
theorem Xf0:
  Zm prog 69 #[.agg #[v0,v1,.slice p c.Zo cap,v3],.int .i64 cell,.agg #[.int .i64 11,.int .i64 r,.int .i64 a,.int .i64 n]] w (Vq (Vu c cell n 2 1) (Sm w.heap.size w)):=by
 refine P9 fun HB=>?_;exact Qb
theorem Yf0:
  Zm prog 69 #[.agg #[v0,v1,.slice p c.Zo cap,v3],.int .i64 cell,.agg #[.int .i64 12,.int .i64 r,.int .i64 a,.int .i64 n]] w (Vq (Vu c cell n 1 2) (Sm w.heap.size w)):=by
 refine P9 fun HB=>?_;exact ua
theorem bg0:
  Zm prog 69 #[.agg #[v0,v1,.slice p c.Zo cap,v3],.int .i64 cell,.agg #[.int .i64 16,.int .i64 r,.int .i64 a,.int .i64 n]] w (Vq (Vu c cell n 1 2) (Sm w.heap.size w)):=by
 refine P9 fun HB=>?_;exact ua
theorem Zf0:
  Zm prog 69 #[.agg #[v0,v1,.slice p c.Zo cap,v3],.int .i64 cell,.agg #[.int .i64 13,.int .i64 r,.int .i64 a,.int .i64 n]] w (Vq (Vu c cell n 2 2) (Sm w.heap.size w)):=by
 refine P9 fun HB=>?_;exact ua
end
section
variable (v1 v2 v3:Dn)(b0 pP nC yp cell nc Hy:Nat)(pc:Option Vm)(r a n:Int)(w:En)(h2:0<=r)(h3:r<4)(h4:0<=a)(h5:a<4)(yo:cell<nC)
include v1 v2 v3 b0 pP nC yp cell nc Hy pc r a n w h2 h3 h4 h5 yo
theorem Lk0
  (hc:w.cell? ⟨b0,pP+cell*3,Hn⟩=Gn (.slice pc nc Hy)):
  Zm prog 69 #[.agg #[.slice (Gn ⟨b0,pP,Hn⟩) nC yp,v1,v2,v3],.int .i64 cell,.agg #[.int .i64 8,.int .i64 r,.int .i64 a,.int .i64 n]] w (Vq (0<=n/\n<nc) (Sm w.heap.size w)):=by
 refine P9 fun HB=>?_;have hb0:b0<w.heap.size:=Wm hc;by_cases h0:0<=n
 ·have hd:decide (0<=n)=true:=by simpa using h0
  exact ag
 ·have hd:decide (0<=n)=false:=by simpa using h0
  exact ah
theorem Mk0
  (hc:w.cell? ⟨b0,pP+cell*3,Hn⟩=Gn (.slice pc nc Hy)):
  Zm prog 69 #[.agg #[.slice (Gn ⟨b0,pP,Hn⟩) nC yp,v1,v2,v3],.int .i64 cell,.agg #[.int .i64 9,.int .i64 r,.int .i64 a,.int .i64 n]] w (Vq (0<=n/\n<nc) (Sm w.heap.size w)):=by
 refine P9 fun HB=>?_;have hb0:b0<w.heap.size:=Wm hc;by_cases h0:0<=n
 ·have hd:decide (0<=n)=true:=by simpa using h0
  exact ag
 ·have hd:decide (0<=n)=false:=by simpa using h0
  exact ah
end
theorem ag0(c:Ur)(v0 v1 v2:Dn)(p:Option Vm)(cap:Nat)(cell r a n:Int)(w:En)(h2:0<=r)(h3:r<4)(h4:0<=a)(h5:a<4)(hs:Sl w p c.nD (fun j=>.int .i64 (c.dv j)))(hb:8*c.nD<=140737488355328):
  Zm prog 69 #[.agg #[v0,v1,v2,.slice p c.nD cap],.int .i64 cell,.agg #[.int .i64 14,.int .i64 r,.int .i64 a,.int .i64 n]] w (Vq (0<=n/\n<c.nD/\c.dv n.toNat=cell) (Sm w.heap.size w)):=by
 have hB:c.nD<=17592186044416:=E0;refine P9 fun HB=>?_;have HS:Hid (Sl w p c.nD (fun j=>.int .i64 (c.dv j))):=hs;clear hs hb;by_cases h0:n<0
 ·exact dk
 ·by_cases h1:(c.nD:Int)<=n
  ·exact dk
  ·obtain⟨m,rfl⟩:=Int.eq_ofNat_of_zero_le (a:=n) E0;obtain⟨b,off,rfl,hc⟩:=HS.out.at E0;have c0:=hc m E0;have yo:b<w.heap.size:=Wm c0;clear hc;have hm:(m:Int)<c.nD:=by omega
   rw[Int.toNat_natCast];generalize c.dv m=x at *
   go_enter func69,ntmps69
   go_wp2
   go_ret;exact Vq.of (b:=(x==cell)) (by simp only[beq_iff_eq]) (HB.out _ _)
theorem Vq.iff{P P':Prop}{W:En->Prop}{e:Ending}{w':En}(h:Vq P W e w')(hp:P↔P'):Vq P' W e w':=by
 obtain⟨b,h1,h2,h3⟩:=h;exact⟨b,h1,h2.trans hp,h3⟩
theorem iE(c:Ur)(v1:Dn)(b0 pP yp cell Hy dq Lq:Nat)(pc p2 p3:Option Vm)(op r a n:Int)(w:En)(yo:cell<c.nC)
  (hc:w.cell? ⟨b0,pP+cell*3,Hn⟩=Gn (.slice pc (c.Ho cell) Hy))(GL:Sl w p2 (c.Zo*3) (fun j=>.int .i64 (c.ch j)))(Vx:24*c.Zo<=140737488355328)
  (hs3:Sl w p3 c.nD (fun j=>.int .i64 (c.dv j)))(dS:8*c.nD<=140737488355328):
  Zm prog 69 #[.agg #[.slice (Gn ⟨b0,pP,Hn⟩) c.nC yp,v1,.slice p2 c.Zo dq,.slice p3 c.nD Lq],.int .i64 cell,.agg #[.int .i64 op,.int .i64 r,.int .i64 a,.int .i64 n]] w (Vq (Dy c cell (c.Ho cell) op r a n) (Sm w.heap.size w)):=by
 by_cases hr:op<0\/16<op\/r<0\/4<=r\/a<0\/4<=a
 ·refine(h20 _ _ _ _ _ _ _ _ _ _ hr).mono ?_;rintro e w' ⟨rfl,hb⟩;exact Vq.no (fun h=>by unfold Dy at h;omega) hb
 ·have h0:0<=op:=by omega
  have h1:op<=16:=E0;have h2:0<=r:=E0;have h3:r<4:=E0;have h4:0<=a:=E0;have h5:a<4:=E0;by_cases e8:op=8
  ·subst e8;refine(Lk0 _ _ _ b0 pP c.nC yp cell (c.Ho cell) Hy pc r a n w h2 h3 h4 h5 yo hc).mono fun e w' h=>h.iff ?_;unfold Dy;constructor
   ·intro h;exact⟨E0,E0,E0,fun _=>h,E0,E0,E0,E0,E0⟩
   ·intro h;exact h.2.2.2.1 (Or.inl rfl)
  by_cases e9:op=9
  ·subst e9;refine(Mk0 _ _ _ b0 pP c.nC yp cell (c.Ho cell) Hy pc r a n w h2 h3 h4 h5 yo hc).mono fun e w' h=>h.iff ?_;unfold Dy;constructor
   ·intro h;exact⟨E0,E0,E0,fun _=>h,E0,E0,E0,E0,E0⟩
   ·intro h;exact h.2.2.2.1 (Or.inr rfl)
  by_cases e10:op=10
  ·subst e10;refine(Wf0 c _ _ _ p2 dq cell r a n w h2 h3 h4 h5 GL Vx).mono fun e w' h=>h.iff ?_;unfold Dy;constructor
   ·intro h;exact⟨E0,E0,E0,E0,fun _=>h,E0,E0,E0,E0⟩
   ·intro h;exact h.2.2.2.2.1 rfl
  by_cases e11:op=11
  ·subst e11;refine(Xf0 c _ _ _ p2 dq cell r a n w h2 h3 h4 h5 GL Vx).mono fun e w' h=>h.iff ?_;unfold Dy;constructor
   ·intro h;exact⟨E0,E0,E0,E0,E0,fun _=>h,E0,E0,E0⟩
   ·intro h;exact h.2.2.2.2.2.1 rfl
  by_cases e12:op=12
  ·subst e12;refine(Yf0 c _ _ _ p2 dq cell r a n w h2 h3 h4 h5 GL Vx).mono fun e w' h=>h.iff ?_;unfold Dy;constructor
   ·intro h;exact⟨E0,E0,E0,E0,E0,E0,fun _=>h,E0,E0⟩
   ·intro h;exact h.2.2.2.2.2.2.1 (Or.inl rfl)
  by_cases e16:op=16
  ·subst e16;refine(bg0 c _ _ _ p2 dq cell r a n w h2 h3 h4 h5 GL Vx).mono fun e w' h=>h.iff ?_;unfold Dy;constructor
   ·intro h;exact⟨E0,E0,E0,E0,E0,E0,fun _=>h,E0,E0⟩
   ·intro h;exact h.2.2.2.2.2.2.1 (Or.inr rfl)
  by_cases e13:op=13
  ·subst e13;refine(Zf0 c _ _ _ p2 dq cell r a n w h2 h3 h4 h5 GL Vx).mono fun e w' h=>h.iff ?_;unfold Dy;constructor
   ·intro h;exact⟨E0,E0,E0,E0,E0,E0,E0,fun _=>h,E0⟩
   ·intro h;exact h.2.2.2.2.2.2.2.1 rfl
  by_cases e14:op=14
  ·subst e14;refine(ag0 c _ _ _ p3 Lq cell r a n w h2 h3 h4 h5 hs3 dS).mono fun e w' h=>h.iff ?_;unfold Dy;constructor
   ·intro h;exact⟨E0,E0,E0,E0,E0,E0,E0,E0,fun _=>h⟩
   ·intro h;exact h.2.2.2.2.2.2.2.2 rfl
  refine(d20 _ _ _ _ _ _ _ _ _ _ h0 h1 h2 h3 h4 h5 (by simpa using e8) (by simpa using e9) (by simpa using e10) (by simpa using e11) (by simpa using e12) (by simpa using e16) (by simpa using e13) (by simpa using e14)).mono ?_;rintro e w' ⟨rfl,hb⟩;exact Vq.yes ⟨E0,E0,E0,E0,E0,E0,E0,E0,E0⟩ hb
theorem ET(c:Ur)(v0 v1 v2 v3:Dn)(w:En)(h:Zx w v0 v1 v2 v3 c):
  Zm prog 38 #[.agg #[v0,v1,v2,v3]] w (PI c w):=by
 obtain⟨p0,yp,F0,p1,gp,F1,p2,dq,p3,Lq,rfl,rfl,rfl,rfl,s0,k0,s1,k1,s2,s3,b0,b1,b2,b3⟩:=h.parts;clear h;refine sg fun Vx dS=>?_;refine Ob fun S0 K0=>?_;refine Wc fun S1 K1 S2=>?_;have S3:Hid (Sl w p3 c.nD (fun j=>.int .i64 (c.dv j))):=s3;have B2:Hid (24*c.Zo<=140737488355328):=b2;have B3:Hid (8*c.nD<=140737488355328):=b3;clear s0 k0 s1 k1 s2 s3 b2 b3;refine U9 fun HA=>?_;by_cases n1:Yy c
 case neg=>
  have q:c.nC=0\/6<c.nC:=by unfold Yy at n1;omega
  have C1:Hid (vo c 1 0):=vo.c1 n1;clear n1;rcases q with q|q
  ·have q':((c.nC:Int)==0)=true:=by simpa using q
   clear q;exact ji
  ·have q':((c.nC:Int)==0)=false:=by simp;omega
   exact ji
 have q1:((c.nC:Int)==0)=false:=by have:=n1.1;simp;omega
 have q1':c.nC<=6:=n1.2;have N1:Hid (Yy c):=n1;clear n1;by_cases n2:Zy c
 case neg=>
  have q:c.nT=0\/8<c.nT:=by unfold Zy at n2;omega
  have C2:Hid (vo c 2 0):=vo.c2 N1.out n2;clear n2;rcases q with q|q
  ·have q':((c.nT:Int)==0)=true:=by simpa using q
   clear q;exact ri
  ·have q':((c.nT:Int)==0)=false:=by simp;omega
   exact ri
 have q2:((c.nT:Int)==0)=false:=by have:=n2.1;simp;omega
 have q2':c.nT<=8:=n2.2;have N2:Hid (Zy c):=n2;clear n2
 go_enter func38,ntmps38
 go_wp2_with fail
 go_loop [5] (fun i=>∃k:Nat,k<=c.nT/\i=.int .i64 k/\Hid (Lp (Qw c) k)) (fun i=>c.nT-(intOf i).toNat)
 case atStart=>exact⟨0,Pm _,rfl,Lp.zero _⟩
 case round=>
  obtain⟨k,hk,rfl,HI⟩:=hrel;by_cases yo:k<c.nT
  ·obtain⟨b,off,rfl,hc⟩:=S1.out.at E0;have c0:=hc k yo;have Jv:b<w.heap.size:=Wm c0;obtain⟨pr,BO,hF,-,-,-,hbr,hsr⟩:=K1.out k yo;rw[hF]at c0;clear hc hF;have HSR:Hid (Sl w pr (c.nRow k*2) (fun j=>.int .i64 (c.row k j))):=hsr;have HBR:Hid (16*c.nRow k<=140737488355328):=hbr;have sX:c.nRow k<=8796093022208:=by omega
   clear hsr hbr;go_wp2_with (go_at_call 68;refine(EZ pr (c.nRow k) BO c.nC (c.row k) _ (by exact HSR.out.below (HA.out _)) HBR.out).mono ?_;rintro e w' ⟨b,rfl,fG,rfl⟩)
   case roundEnd=>
    have hb:b=true:=by simpa using ‹(!b)=Tm›
    exact⟨⟨k+1,E0,E1,HI.out.step (fG.1 hb)⟩,U1⟩
   have hb:¬b=true:=by simpa using ‹(!b)=Um›
   go_ret2
   exact PI.mk (vo.c3 N1.out N2.out ⟨yo,fun h=>hb (fG.2 h),HI.out⟩) (HA.out _)
  ·obtain rfl:k=c.nT:=by omega
   have N3:Hid (Lp (Qw c) c.nT):=HI;clear HI S1 K1 yo hk;by_cases n4:c.Zo<=8
   case neg=>
    have C4:Hid (vo c 3 0):=vo.c4 N1.out N2.out N3.out n4;go_wp2_with fail
    go_ret2
    exact PI.mk C4.out (HA.out _)
   have HA1:Hid (∀o,Sm (w.heap.size+1) (w.alloc o) (w.alloc o)):=fun o=>Below.refl _ _;go_wp2_with fail;go_loopw [7] (fun i wr=>∃k:Nat,k<=c.Zo/\i=.int .i64 k/\Hid (Lp (Xz c) k)/\Hid (Sm (w.heap.size+1) (w.alloc (.cells #[.slice p0 c.nC yp,.slice p1 c.nT gp,.slice p2 c.Zo dq,.slice p3 c.nD Lq] 28)) wr)) (fun i _=>c.Zo-(intOf i).toNat)
   case atStart=>exact⟨0,Pm _,rfl,Lp.zero _,HA1.out _⟩
   case round=>
    obtain⟨k,hk,rfl,HI,HW⟩:=hrel;obtain⟨x0,x1,x2,x3⟩:=NG HW.out;have hH:w.heap.size<wr.heap.size:=Wm x0;by_cases yo:k<c.Zo
    ·obtain⟨b,off,rfl,hc⟩:=(S2.out.below (Vo HW.out)).at E0;refine Vb fun c0 c1 c2=>?_;refine Ah fun Jv=>?_;rw[<-Jm]at c1 c2;clear hc;by_cases Yr:Xz c k
     ·have HO:Hid (Xz c k):=Yr;obtain⟨g1,⟨g2,g3⟩,⟨g4,g5⟩,g6⟩:=Yr;have g7:1<=c.ch (k*3):=by omega
      have g8:c.ch (k*3)<=2:=E0;have g9:(c.ch (k*3+1)==c.ch (k*3+2))=false:=by simpa using g6
      clear g1 g6;go_wp2_with fail;refine⟨⟨k+1,E0,E1,HI.out.step HO.out,?_⟩,U1⟩;show Sm _ _ _;exact HW.out.alloc E0 _
     ·have C5:Hid (vo c 3 k):=vo.c5 N1.out N2.out N3.out n4 ⟨yo,Yr,HI.out⟩;have HC:Hid (¬Xz c k):=Yr;clear Yr;go_wp2_with fail
      case roundEnd=>
       exfalso;apply HC.out;unfold Xz;have g9:¬c.ch (k*3+1)=c.ch (k*3+2):=by
        intro e;have:(c.ch (k*3+1)==c.ch (k*3+2))=true:=by simpa using e
        simp_all
       omega
      all_goals
       go_ret2
       exact PI.mk C5.out (Vo (HW.out.alloc E0 _))
    ·obtain rfl:k=c.Zo:=by omega
     have N5:Hid (Lp (Xz c) c.Zo):=HI;clear HI yo hk;by_cases n6:c.nD<=4
     case neg=>
      have C6:Hid (vo c 4 0):=vo.c6 N1.out N2.out N3.out n4 N5.out n6;go_wp2_with fail
      go_ret2
      exact PI.mk C6.out (Vo HW.out)
     go_wp2_with fail
     go_loop [9] (fun i=>∃k:Nat,k<=c.nD/\i=.int .i64 k/\Hid (Lp (FG c) k)) (fun i=>c.nD-(intOf i).toNat)
     case atStart=>exact⟨0,Pm _,rfl,Lp.zero _⟩
     case round=>
      obtain⟨k,hk,rfl,HI⟩:=hrel;by_cases yo:k<c.nD
      ·obtain⟨b,off,rfl,hc⟩:=(S3.out.below (Vo HW.out)).at E0;have c0:=hc k E0;refine Ah fun Jv=>?_;clear hc;by_cases Yr:FG c k
       ·have HO:Hid (FG c k):=Yr;obtain⟨g2,g3⟩:=Yr;go_wp2_with fail;exact⟨⟨k+1,E0,E1,HI.out.step HO.out⟩,U1⟩
       ·have C7:Hid (vo c 4 k):=vo.c7 N1.out N2.out N3.out n4 N5.out n6 ⟨yo,Yr,HI.out⟩;have HC:Hid (¬FG c k):=Yr;clear Yr;go_wp2_with fail
        all_goals
         go_ret2
         exact PI.mk C7.out (Vo HW.out)
      ·obtain rfl:k=c.nD:=by omega
       have N7:Hid (Lp (FG c) c.nD):=HI;clear HI yo hk;go_wp2_with fail;have HW0:=HW;clear HW x0 x1 x2 x3 hH;go_loopw [10] (fun i wr=>∃k:Nat,k<=c.nC/\i=.int .i64 k/\Hid (Lp (Xu c) k)/\Hid (Sm (w.heap.size+1) (w.alloc (.cells #[.slice p0 c.nC yp,.slice p1 c.nT gp,.slice p2 c.Zo dq,.slice p3 c.nD Lq] 28)) wr)) (fun i _=>c.nC-(intOf i).toNat)
       case atStart=>exact⟨0,Pm _,rfl,Lp.zero _,HW0⟩
       case round=>
        revert hrel;revert wr;intro wq hrel;obtain⟨k,hk,rfl,HI,HW⟩:=hrel;obtain⟨x0,x1,x2,x3⟩:=NG HW.out;have hH:w.heap.size<wq.heap.size:=Wm x0;by_cases yo:k<c.nC
        ·obtain⟨b,off,rfl,hc⟩:=(S0.out.below (Vo HW.out)).at E0;refine Vb fun c0 c1 c2=>?_;have Jv:b<wq.heap.size:=Wm c0;rw[<-Jm]at c1 c2;clear hc;obtain⟨⟨pc,Hy,R_,-,-,-,bc,sc⟩,⟨pi,KC,hF1,-,-,-,bi,si⟩,Gs⟩:=K0.out k yo;rw[R_]at c0;rw[hF1]at c1;rw[Gs]at c2;have SC:Hid (Sl w pc (c.Ho k*4) (fun j=>.int .i64 (c.code k j))):=sc;have hnc:c.Ho k<=8796093022208:=by omega
         have hni:c.Hq k<=17592186044416:=E0;clear R_ hF1 Gs bc sc bi si;by_cases hA:(0<=c.lim k/\c.lim k<=5)/\c.Hq k<=16/\(1<=c.Ho k/\c.Ho k<=48)
         case neg=>
          have C8:Hid (vo c 5 k):=vo.c8 N1.out N2.out N3.out n4 N5.out n6 N7.out ⟨yo,fun h=>hA ⟨h.1,h.2.1,h.2.2.1⟩,HI.out⟩;by_cases hz:c.Ho k=0
          ·have hz':((c.Ho k:Int)==0)=true:=by simpa using hz
           have HZ:Hid (c.Ho k=0):=hz;have HA':Hid (¬_):=hA;clear hz hA;go_wp2_with fail
           all_goals
            go_ret2
            exact PI.mk C8.out (Vo (HW.out.alloc E0 _))
          ·have hz':((c.Ho k:Int)==0)=false:=by simpa using hz
           go_wp2_with fail
           all_goals
            go_ret2
            exact PI.mk C8.out (Vo (HW.out.alloc E0 _))
         obtain⟨⟨g1,g2⟩,g3,g4,g5⟩:=hA;have hz':((c.Ho k:Int)==0)=false:=by simp;omega
         have HK:Hid (∀_,Xu c k):=fun(h:Lp (VD c k) (c.Ho k))=>⟨⟨g1,g2⟩,g3,⟨g4,g5⟩,h⟩;go_wp2_with fail;go_loopw [12] (fun i wz=>∃j:Nat,j<=c.Ho k/\i=.int .i64 j/\Hid (Lp (VD c k) j)/\Hid (Sm (wq.heap.size+1) (wq.alloc (.cells #[.slice pc (c.Ho k) Hy,.slice pi (c.Hq k) KC,.int .i64 (c.lim k)] 53)) wz)) (fun i _=>c.Ho k-(intOf i).toNat)
         case atStart=>exact⟨0,Pm _,rfl,Lp.zero _,Below.refl _ _⟩
         case round=>
          obtain⟨j,hj,rfl,HJ,HZ⟩:=hrel;obtain⟨y0,y1,y2⟩:=Hi0 HZ.out;have HWr:Hid (Sm (w.heap.size+1) (w.alloc (.cells #[.slice (Gn ⟨b,off,Hn⟩) c.nC yp,.slice p1 c.nT gp,.slice p2 c.Zo dq,.slice p3 c.nD Lq] 28)) wr):=(HW.out.alloc E0 _).trans (HZ.out.mono E0);have d0:=(Vo HZ.out).cell (p:=⟨b,off+k*3,Hn⟩) Jv;rw[c0]at d0;clear x0 x1 x2 x3 c0 c1 c2;obtain⟨x0,x1,x2,x3⟩:=NG HWr.out;have hH2:w.heap.size<wr.heap.size:=Wm x0;have hH3:wq.heap.size<wr.heap.size:=Wm y0;by_cases hjl:j<c.Ho k
          ·have SR:Hid (Sl wr pc (c.Ho k*4) (fun j=>.int .i64 (c.code k j))):=SC.out.below (Vo HWr.out);have S2r:Hid (Sl wr p2 (c.Zo*3) (fun j=>.int .i64 (c.ch j))):=S2.out.below (Vo HWr.out);have S3r:Hid (Sl wr p3 c.nD (fun j=>.int .i64 (c.dv j))):=S3.out.below (Vo HWr.out);obtain⟨bc,zy0,rfl,hc⟩:=SR.out.at E0;have e0:=hc (j*4) E0;have e1:=hc (j*4+1) E0;have e2:=hc (j*4+2) E0;have e3:=hc (j*4+3) E0;rw[<-Jm]at e1 e2 e3;clear hc;by_cases Yr:VD c k j
           ·have HO:Hid (VD c k j):=Yr;clear Yr;have HQ:Hid (∀W:En,(∀a v,wr.cell? a=Gn v->W.cell? a=Gn v)->Zm prog 69 #[.agg #[.slice (Gn ⟨b,off,Hn⟩) c.nC yp,.slice p1 c.nT gp,.slice p2 c.Zo dq,.slice p3 c.nD Lq],.int .i64 k,.agg #[.int .i64 (c.code k (j*4)),.int .i64 (c.code k (j*4+1)),.int .i64 (c.code k (j*4+2)),.int .i64 (c.code k (j*4+3))]] W fun e w'=>e=.returned (.bool Um)/\Sm W.heap.size W w'):=
             fun W hW=>Vq.says (iE c _ b off yp k Hy dq Lq _ p2 p3 _ _ _ _ W yo (hW _ _ d0) (S2r.out.keep hW) B2.out (S3r.out.keep hW) B3.out) HO.out
            go_wp2_with fail
            go_region_with (go_at_call 69;refine(HQ.out _ (by exact fun _ _ h=>h)).mono ?_;rintro e w' ⟨rfl,Dq⟩)
            all_goals go_wp2_with fail
            all_goals
             have zL:Hid (Sm wr.heap.size wr w'):=⟨Dq.os,Dq.tape,Dq.output,Dq.size,Dq.block⟩;exact⟨⟨j+1,E0,E1,HJ.out.step HO.out,HZ.out.trans (zL.out.mono E0)⟩,U1⟩
           ·have HO:Hid (¬VD c k j):=Yr;have C8:Hid (vo c 5 k):=vo.c8 N1.out N2.out N3.out n4 N5.out n6 N7.out ⟨yo,fun h=>Yr (h.2.2.2 j hjl),HI.out⟩;clear Yr;have HQ:Hid (∀W:En,(∀a v,wr.cell? a=Gn v->W.cell? a=Gn v)->Zm prog 69 #[.agg #[.slice (Gn ⟨b,off,Hn⟩) c.nC yp,.slice p1 c.nT gp,.slice p2 c.Zo dq,.slice p3 c.nD Lq],.int .i64 k,.agg #[.int .i64 (c.code k (j*4)),.int .i64 (c.code k (j*4+1)),.int .i64 (c.code k (j*4+2)),.int .i64 (c.code k (j*4+3))]] W fun e w'=>e=.returned (.bool Tm)/\Sm W.heap.size W w'):=
             fun W hW=>Vq.Vw (iE c _ b off yp k Hy dq Lq _ p2 p3 _ _ _ _ W yo (hW _ _ d0) (S2r.out.keep hW) B2.out (S3r.out.keep hW) B3.out) HO.out
            go_wp2_with fail
            go_region_with (go_at_call 69;refine(HQ.out _ (by exact fun _ _ h=>h)).mono ?_;rintro e w' ⟨rfl,Dq⟩)
            all_goals go_wp2_with fail
            all_goals
             have zL:Hid (Sm wr.heap.size wr w'):=⟨Dq.os,Dq.tape,Dq.output,Dq.size,Dq.block⟩
             go_ret2
             exact PI.mk C8.out (Vo (HWr.out.trans (zL.out.mono E0)))
          ·obtain rfl:j=c.Ho k:=by omega
           go_wp2_with fail
           exact⟨⟨k+1,E0,E1,HI.out.step (HK.out HJ.out),(HW.out.alloc E0 _).trans (HZ.out.mono E0)⟩,U1⟩
        ·obtain rfl:k=c.nC:=by omega
         go_wp2_with fail
         go_ret2
         exact PI.mk (vo.c9 N1.out N2.out N3.out n4 N5.out n6 N7.out HI.out) (Vo HW.out)
open Go.Maps
def cells5(a b c d e:Dn)(j:Nat):Value:=if j=0 then a else if j=1 then b else if j=2 then c else if j=3 then d else e
def RZ(bw:Nat)(ks rs:Dn)(j:Nat):Prop:=j=bw\/ks.ownBlock=Gn j\/rs.ownBlock=Gn j
theorem Uf0:(prog.info? 43).map (fun i=>(i.zero,i.size,i.bytes))=Gn (Gn (.pointer Hn),1,8):=J0
theorem Vf0:(prog.info? 83).map (fun i=>(i.zero,i.size,i.bytes))=Gn (Gn (.pointer Hn),1,8):=J0
theorem Y80 : (Tryz.f36.name == "runtime.NumGoroutine") = Tm := J0
theorem b70:Tryz.f36.body.isNone=false:=J0
theorem Zb0 : (Tryz.f42.name == "runtime.NumGoroutine") = Tm := J0
theorem gb0:Tryz.f42.body.isNone=false:=J0
theorem Y00(c:Ur)(cb:Nat->Nat)(j:Nat):(Du c cb j).oneCell'=true:=by
 unfold Du Gp;repeat' split
 all_goals rfl
theorem A20(nl:Bool)(b n:Nat):(Gp nl b n).oneCell'=true:=by
 unfold Gp;split<;>rfl
theorem qF{w:En}{nl:Bool}{b n k bn:Nat}{z:Nat->Int}(h:xC w nl b n k z)(hz:nl=Um->n=0)(hb:bn*n<=140737488355328):FC w (Gp nl b n) nl n k z bn:=by
 cases nl
 ·obtain⟨ty,hr⟩:=h rfl;exact⟨Gn ⟨b,0,Hn⟩,n+2,rfl,E0,P0,P0,hb,(hr.C00 (Nat.mul_le_mul_right _ E0)).congr (fun j hj=>O4)⟩
 ·obtain rfl:=hz rfl;exact⟨Hn,0,rfl,E0,P0,P0,hb,.inl P0⟩
def dC(c:Ur):Ur:={c with EJ:=fun _=>Tm}
theorem xC.below{w w':En}{nl:Bool}{b n k:Nat}{z:Nat->Int}(h:xC w nl b n k z)(hb:Sm w.heap.size w w'):xC w' nl b n k z:=fun hn=>by
 obtain⟨ty,hr⟩:=h hn;exact⟨ty,hr.below hb hr.lt⟩
theorem Sr.below{w w':En}{c:Ur}{k lo hi:Nat}{cb:Nat->Nat}(h:Sr w c k lo hi cb)(hb:Sm w.heap.size w w'):Sr w' c k lo hi cb:=
 ⟨fun i hi=>(h.code i hi).below hb,fun i hi=>(h.img i hi).below hb,h.lo,h.ord⟩
theorem Tf0{c:Ur}{w0 w:En}{B hi eG gC gT Jv YB:Nat}{cb rb:Nat->Nat}{v0 v1 v2 v3 i0 i1:Dn}(h:Zx w0 v0 v1 v2 v3 c)(iu:Sr w c c.nC B hi cb)(Ir:∀i,i<c.nT->xC w Tm (rb i) (c.nRow i) 2 (c.row i)/\hi<=rb i/\rb i<eG)
  (nH:xC w c.aA Jv c.Zo 3 c.ch)(hdv:xC w c.Vz YB c.nD 1 c.dv)(rC:Tn w gC ((c.nC+2)*3) 53 (BD c.nC (Du c cb)))(rT:Tn w gT (c.nT+2) 100 (BJ c.nT (fun i=>Gp Tm (rb i) (c.nRow i))))
  (e0:i0=if c.YI then .slice Hn 0 0 else .slice (Gn ⟨gC,0,Hn⟩) c.nC (c.nC+2))(e1:i1=if c.RJ then .slice Hn 0 0 else .slice (Gn ⟨gT,0,Hn⟩) c.nT (c.nT+2)):
  Zx w i0 i1 (Gp c.aA Jv c.Zo) (Gp c.Vz YB c.nD) (dC c):=by
 obtain⟨⟨p0,yp,F0,rfl,-,n0,z0,b0,-,k0⟩,⟨p1,gp,F1,rfl,-,n1,z1,b1,-,k1⟩,⟨p2,dq,rfl,-,n2,z2,b2,-⟩,⟨p3,Lq,rfl,-,n3,z3,b3,-⟩⟩:=h;refine⟨?_,?_,qF nH (fun h=>(z2 (n2.2 h)).1) b2,qF hdv (fun h=>(z3 (n3.2 h)).1) b3⟩
 ·have inner:∀i,i<c.nC->FC w (Du c cb (i*3)) (c.Jt i) (c.Ho i) 4 (c.code i) 32/\FC w (Du c cb (i*3+1)) (c.Vt i) (c.Hq i) 1 (c.img i) 8/\Du c cb (i*3+2)=.int .i64 (c.lim i):=fun i hi=>by
   obtain⟨a1,a2,a3⟩:=Qx c cb i;obtain⟨⟨pc,Hy,_,-,nc,zc,bc,-⟩,⟨pi,KC,_,-,ni,zi,bi,-⟩,-⟩:=k0 i hi;rw[a1,a2,a3];exact⟨qF (iu.code i hi) (fun h=>(zc (nc.2 h)).1) bc,qF (iu.img i hi) (fun h=>(zi (ni.2 h)).1) bi,rfl⟩
  cases hN:c.YI
  ·rw[hN]at e0;refine⟨Gn ⟨gC,0,Hn⟩,c.nC+2,Du c cb,e0,by show c.nC<=_;omega,by simp[dC,hN],P0,b0,(rC.C00 (by show c.nC*3<=_;omega)).congr (fun j hj=>?_),inner⟩;exact if_pos hj
  ·rw[hN]at e0;have hz:=z0 (n0.2 hN);refine⟨Hn,0,Du c cb,by rw[e0];show _=Value.slice Hn c.nC 0;rw[hz.1];rfl,by show c.nC<=_;omega,by simp[dC,hN],fun _=>⟨hz.1,rfl⟩,b0,.inl (by show c.nC*3=0;omega),inner⟩
 ·have inner:∀i,i<c.nT->FC w (Gp Tm (rb i) (c.nRow i)) Tm (c.nRow i) 2 (c.row i) 16:=fun i hi=>by
   obtain⟨pr,BO,_,-,nr,zr,br,-⟩:=k1 i hi;exact qF (Ir i hi).1 (fun h=>X3) br
  cases hN:c.RJ
  ·rw[hN]at e1;refine⟨Gn ⟨gT,0,Hn⟩,c.nT+2,fun i=>Gp Tm (rb i) (c.nRow i),e1,by show c.nT<=_;omega,by simp[dC,hN],P0,b1,(rT.C00 (by show c.nT<=_;omega)).congr (fun j hj=>?_),inner⟩;exact if_pos hj
  ·rw[hN]at e1;have hz:=z1 (n1.2 hN);refine⟨Hn,0,fun i=>Gp Tm (rb i) (c.nRow i),by rw[e1];show _=Value.slice Hn c.nT 0;rw[hz.1];rfl,by show c.nT<=_;omega,by simp[dC,hN],fun _=>⟨hz.1,rfl⟩,b1,.inl (by show c.nT=0;omega),inner⟩
theorem Gu:(prog.info? 111).map (fun i=>(i.zero,i.size,i.bytes))=Gn (Gn (.agg #[.int .i64 0,.int .i64 0,.int .i64 0]),3,24):=J0
def KF(w:En)(t k n:Nat)(f:Nat->Dn)(e:Ending)(w':En):Prop:=
 ∃v,e=.returned v/\Sm w.heap.size w w'/\w'.ownsRow w.heap.size t k v n ((Hm (n*k)).map f)
theorem EU(p:Option Vm)(n cap:Nat)(z:Nat->Int)(w:En)(hs:Sl w p (n*3) (fun j=>.int .i64 (z j)))(hz:p=Hn->n=0/\cap=0)(hb:24*n<=140737488355328):
  Zm prog 60 #[.slice p n cap] w (KF w 111 3 n (fun j=>.int .i64 (z j))):=by
 cases p with
 |none=>
  obtain⟨rfl,rfl⟩:=hz rfl;refine Zg fun Vv=>?_
  go_enter func60,ntmps60
  go_wp2_with fail
  go_ret;exact⟨_,rfl,Below.refl _ _,M6⟩
 |some ad=>
  by_cases h0:n=0
  ·subst h0;refine Zg fun Vv=>?_
   go_enter func60,ntmps60
   go_wp2_with fail
   go_ret;exact⟨_,rfl,(Below.refl _ _).alloc N8 _,by simpa using ry w 111 3⟩
  ·obtain⟨b,o,e,hc⟩:=hs.at E0;obtain rfl:ad=⟨b,o,Hn⟩:=Option.some.inj e;refine Zg fun Vv=>?_;have HC:Hid (∀j,j<n*3->w.cell? ⟨b,o+j,Hn⟩=Gn (.int .i64 (z j))):=hc;have HBn:Hid (24*n<=140737488355328):=hb;refine Zk fun HH=>?_;have hn0:0<n:=by omega
   clear hc hs hz e h0 hb
   go_enter func60,ntmps60
   go_wp2_with (at_builtin;refine uw _ rfl _ _ 61 rfl w.heap.size 111 _ 3 24 underlying61 Gu rfl E0 (.slice (Gn ⟨w.heap.size,0,Hn⟩) 0 0) 0 [] rfl (by exact ry w 111 3) b o n cap (fun j=>.int .i64 (z j)) rfl (fun j hj=>by
    refine(Below.cell ((Below.refl _ w).alloc N8 _) HH.out).trans (HC.out j hj)) (fun j=>rfl) hn0 s6 t6 P0 ?_)
   intro g cc w1 Io hg jr yo;have HF:Hid (KF w 111 3 n (fun j=>.int .i64 (z j)) (.returned (.slice (Gn ⟨g,0,Hn⟩) n cc)) w1):=
    ⟨_,rfl,((Below.refl _ w).alloc N8 _).grown hg P0 (fun j hj=>A6),by simpa using Io⟩
   exact Hg
theorem pR(p:Option Vm)(n cap:Nat)(z:Nat->Int)(w:En)(hs:Sl w p (n*1) (fun j=>.int .i64 (z j)))(hz:p=Hn->n=0/\cap=0)(hb:8*n<=140737488355328):
  Zm prog 85 #[.slice p n cap] w (KF w 2 1 n (fun j=>.int .i64 (z j))):=by
 cases p with
 |none=>
  obtain⟨rfl,rfl⟩:=hz rfl;refine Ic fun Vv=>?_
  go_enter func85,ntmps85
  go_wp2_with fail
  go_ret;exact⟨_,rfl,Below.refl _ _,M6⟩
 |some ad=>
  by_cases h0:n=0
  ·subst h0;refine Ic fun Vv=>?_
   go_enter func85,ntmps85
   go_wp2_with fail
   go_ret;exact⟨_,rfl,(Below.refl _ _).alloc N8 _,by simpa using ry w 2 1⟩
  ·obtain⟨b,o,e,hc⟩:=hs.at E0;obtain rfl:ad=⟨b,o,Hn⟩:=Option.some.inj e;refine Ic fun Vv=>?_;have HC:Hid (∀j,j<n*1->w.cell? ⟨b,o+j,Hn⟩=Gn (.int .i64 (z j))):=hc;have HBn:Hid (8*n<=140737488355328):=hb;refine Zk fun HH=>?_;have hn0:0<n:=by omega
   clear hc hs hz e h0 hb
   go_enter func85,ntmps85
   go_wp2_with (at_builtin;refine uw _ rfl _ _ 51 rfl w.heap.size 2 _ 1 8 underlying51 Zt rfl E0 (.slice (Gn ⟨w.heap.size,0,Hn⟩) 0 0) 0 [] rfl (by exact ry w 2 1) b o n cap (fun j=>.int .i64 (z j)) rfl (fun j hj=>by
    refine(Below.cell ((Below.refl _ w).alloc N8 _) HH.out).trans (HC.out j hj)) (fun j=>rfl) hn0 s6 t6 P0 ?_)
   intro g cc w1 Io hg jr yo;have HF:Hid (KF w 2 1 n (fun j=>.int .i64 (z j)) (.returned (.slice (Gn ⟨g,0,Hn⟩) n cc)) w1):=
    ⟨_,rfl,((Below.refl _ w).alloc N8 _).grown hg P0 (fun j hj=>A6),by simpa using Io⟩
   exact Hg
theorem nR(p:Option Vm)(n cap:Nat)(z:Nat->Int)(w:En)(hs:Sl w p (n*4) (fun j=>.int .i64 (z j)))(hz:p=Hn->n=0/\cap=0)(hb:32*n<=140737488355328):
  Zm prog 79 #[.slice p n cap] w (KF w 97 4 n (fun j=>.int .i64 (z j))):=by
 cases p with
 |none=>
  obtain⟨rfl,rfl⟩:=hz rfl;refine Dc fun Vv=>?_
  go_enter func79,ntmps79
  go_wp2_with fail
  go_ret;exact⟨_,rfl,Below.refl _ _,M6⟩
 |some ad=>
  by_cases h0:n=0
  ·subst h0;refine Dc fun Vv=>?_
   go_enter func79,ntmps79
   go_wp2_with fail
   go_ret;exact⟨_,rfl,(Below.refl _ _).alloc N8 _,by simpa using ry w 97 4⟩
  ·obtain⟨b,o,e,hc⟩:=hs.at E0;obtain rfl:ad=⟨b,o,Hn⟩:=Option.some.inj e;refine Dc fun Vv=>?_;have HC:Hid (∀j,j<n*4->w.cell? ⟨b,o+j,Hn⟩=Gn (.int .i64 (z j))):=hc;have HBn:Hid (32*n<=140737488355328):=hb;refine Zk fun HH=>?_;have hn0:0<n:=by omega
   clear hc hs hz e h0 hb
   go_enter func79,ntmps79
   go_wp2_with (at_builtin;refine uw _ rfl _ _ 50 rfl w.heap.size 97 _ 4 32 underlying50 WG rfl E0 (.slice (Gn ⟨w.heap.size,0,Hn⟩) 0 0) 0 [] rfl (by exact ry w 97 4) b o n cap (fun j=>.int .i64 (z j)) rfl (fun j hj=>by
    refine(Below.cell ((Below.refl _ w).alloc N8 _) HH.out).trans (HC.out j hj)) (fun j=>rfl) hn0 s6 t6 P0 ?_)
   intro g cc w1 Io hg jr yo;have HF:Hid (KF w 97 4 n (fun j=>.int .i64 (z j)) (.returned (.slice (Gn ⟨g,0,Hn⟩) n cc)) w1):=
    ⟨_,rfl,((Below.refl _ w).alloc N8 _).grown hg P0 (fun j hj=>A6),by simpa using Io⟩
   exact Hg
theorem KO(ad:Vm)(n cap:Nat)(z:Nat->Int)(w:En)(hs:Sl w (Gn ad) (n*2) (fun j=>.int .i64 (z j)))(hb:16*n<=140737488355328):
  Zm prog 52 #[.slice (Gn ad) n cap] w fun e w'=>∃g cc,e=.returned (.slice (Gn ⟨g,0,Hn⟩) n cc)/\Sm w.heap.size w w'/\w'.ownsRow w.heap.size 102 2 (.slice (Gn ⟨g,0,Hn⟩) n cc) n ((Hm (n*2)).map fun j=>.int .i64 (z j)):=by
 by_cases h0:n=0
 ·subst h0;have Vv:=fun W a n c=>Go.Lib.run_eql_slice_nil (P:=prog) W 100 102 a n c 0 0 underlying100
  go_enter func52,ntmps52
  go_wp2_with fail
  go_ret;exact⟨_,_,rfl,(Below.refl _ _).alloc N8 _,by simpa using ry w 102 2⟩
 ·obtain⟨b,o,e,hc⟩:=hs.at E0;obtain rfl:ad=⟨b,o,Hn⟩:=Option.some.inj e;have Vv:=fun W a n c=>Go.Lib.run_eql_slice_nil (P:=prog) W 100 102 a n c 0 0 underlying100;have HC:Hid (∀j,j<n*2->w.cell? ⟨b,o+j,Hn⟩=Gn (.int .i64 (z j))):=hc;have HBn:Hid (16*n<=140737488355328):=hb;refine Zk fun HH=>?_;have hn0:0<n:=by omega
  clear hc hs e h0 hb
  go_enter func52,ntmps52
  go_wp2_with (at_builtin;refine uw _ rfl _ _ 100 rfl w.heap.size 102 _ 2 16 underlying100 vD rfl E0 (.slice (Gn ⟨w.heap.size,0,Hn⟩) 0 0) 0 [] rfl (by exact ry w 102 2) b o n cap (fun j=>.int .i64 (z j)) rfl (fun j hj=>by
   refine(Below.cell ((Below.refl _ w).alloc N8 _) HH.out).trans (HC.out j hj)) (fun j=>rfl) hn0 s6 t6 P0 ?_)
  intro g cc w1 Io hg jr yo;have HF:Hid (Sm w.heap.size w w1/\w1.ownsRow w.heap.size 102 2 (.slice (Gn ⟨g,0,Hn⟩) n cc) n ((Hm (n*2)).map fun j=>.int .i64 (z j))):=⟨((Below.refl _ w).alloc N8 _).grown hg P0 (fun j hj=>A6),by simpa using Io⟩;clear Io hg jr yo;go_wp2_with fail;go_ret;exact⟨g,cc,P0,HF.out.1,HF.out.2⟩
def sH(w:En)(num:Int)(np:Option Vm)(lim:Int)(m0 m1:Nat)(z0 z1:Nat->Int)(kb:Nat)(w':En):Prop:=
 ∃cv,w.heap.size<=kb/\Tn w' kb 48 186 (Zv num (.pointer np) cv (Az lim m1 z1))/\w'.ownsRow w.heap.size 97 4 cv m0 ((Hm (m0*4)).map fun j=>.int .i64 (z0 j))
theorem qx{w:En}{b b' e size n:Nat}{v:Dn}{xs:List Dn}(h:w.ownsRow b e size v n xs)(hb:b'<=b):w.ownsRow b' e size v n xs:=by
 rcases h with⟨hl,h|⟨g,cap,Ov,hv,hg,h1⟩⟩
 ·exact⟨hl,.inl h⟩
 ·exact⟨hl,.inr ⟨g,cap,Ov,hv,Qm hb hg,h1⟩⟩
theorem mR(num:Int)(np:Option Vm)(v0 v1:Dn)(n0 n1:Bool)(m0 m1:Nat)(z0 z1:Nat->Int)(lim:Int)(w:En)(h0:FC w v0 n0 m0 4 z0 32)(h1:FC w v1 n1 m1 1 z1 8)(h16:m1<=16):
  Zm prog 53 #[.int .i64 num,.agg #[v0,v1,.int .i64 lim],.pointer np] w fun e w'=>∃kb,e=.returned (.pointer (Gn ⟨kb,0,Hn⟩))/\Sm w.heap.size w w'/\sH w num np lim m0 m1 z0 z1 kb w':=by
 obtain⟨p0,yp,rfl,-,-,y0,b0,s0⟩:=h0;obtain⟨p1,gp,rfl,-,-,y1,b1,s1⟩:=h1;refine rf fun HB=>?_;have HX:Hid (Tn (w.alloc (.cells #[.slice p0 m0 yp,.slice p1 m1 gp,.int .i64 lim] 53)) w.heap.size 3 53 (cells3 (.slice p0 m0 yp) (.slice p1 m1 gp) (.int .i64 lim))):=row3 w _ _ _ _;have S0:Hid (Sl w p0 (m0*4) (fun j=>.int .i64 (z0 j))):=s0;have S1:Hid (Sl w p1 (m1*1) (fun j=>.int .i64 (z1 j))):=s1;have Y0:Hid (p0=Hn->m0=0/\yp=0):=y0;have B0:Hid (32*m0<=140737488355328):=b0;clear s0 s1 y0 b0
 go_enter func53,ntmps53
 go_wp2_with fail
 go_region_law
  (first
   |(refine Oz rfl 79 _ _ rfl _ rfl Tryz.f79 func79 WS jR (fun r w'=>∃q cc,r=.slice q m0 cc/\Sm (w.heap.size+1) (w.alloc (.cells #[.slice p0 m0 yp,.slice p1 m1 gp,.int .i64 lim] 53)) w'/\w'.ownsRow w.heap.size 97 4 (.slice q m0 cc) m0 ((Hm (m0*4)).map fun j=>.int .i64 (z0 j))) ?_ ?_
     ·refine(nR p0 m0 yp z0 (w.alloc (.cells #[.slice p0 m0 yp,.slice p1 m1 gp,.int .i64 lim] 53)).drew (S0.out.below (HB.out _).drew) Y0.out B0.out).mono ?_;rintro e w' ⟨v,h1,h2,h3⟩;obtain⟨q,cc,rfl,-⟩:=nB h3;exact⟨_,h1,q,cc,rfl,⟨h2.os,h2.tape,h2.output,by simpa using h2.size,fun j hj=>h2.block j E2⟩,qx h3 P0⟩
     rintro r wl ⟨q,cc,rfl,Jv,hql⟩;have EB:Hid (Sm (w.heap.size+1) (w.alloc (.cells #[.slice p0 m0 yp,.slice p1 m1 gp,.int .i64 lim] 53)) wl):=Jv;have HQl:Hid (wl.ownsRow w.heap.size 97 4 (.slice q m0 cc) m0 ((Hm (m0*4)).map fun j=>.int .i64 (z0 j))):=hql;obtain⟨j0,j1,j2⟩:=(HX.out.below EB.out E0).at3;clear Jv hql))
 all_goals
  have HC:Hid (Tn (wl.alloc (.cells (List.toArray (.int .i64 num::.pointer np::.slice q m0 cc::.int .i64 lim::.int .i64 0::.int .i64 0::.int .i64 0::.int .i64 0::.int .i64 0::.int .i64 0::.int .i64 0::.int .i64 0::.int .i64 0::.int .i64 0::.int .i64 0::.int .i64 0::.int .i64 0::.int .i64 0::.int .i64 0::.int .i64 0::.int .i64 0::.int .i64 0::.int .i64 0::.int .i64 0::.int .i64 0::.int .i64 0::.int .i64 0::.int .i64 0::.int .i64 0::.int .i64 0::.int .i64 0::.int .i64 0::.int .i64 0::.int .i64 0::.int .i64 0::.int .i64 0::.int .i64 0::.int .i64 0::.int .i64 0::.int .i64 0::.int .i64 0::.int .i64 0::.int .i64 0::.int .i64 0::.int .i64 0::.int .i64 0::.int .i64 0::.int .i64 0::[])) 186)) wl.heap.size 48 186 (fun j=>if j=0 then .int .i64 num else if j=1 then .pointer np else if j=2 then .slice q m0 cc else .int .i64 (if j=3 then lim else 0))):=(row48 wl _ _ _ _ _).congr fun j _=>by
   by_cases h0:j=0
   ·simp[h0]
   ·by_cases h1:j=1
    ·simp[h1]
    ·by_cases h2:j=2
     ·simp[h2]
     ·by_cases h3:j=3
      ·simp[h3]
      ·simp[h0,h1,h2,h3]
  have HBw:Hid (Sm w.heap.size w (wl.alloc (.cells (List.toArray (.int .i64 num::.pointer np::.slice q m0 cc::.int .i64 lim::.int .i64 0::.int .i64 0::.int .i64 0::.int .i64 0::.int .i64 0::.int .i64 0::.int .i64 0::.int .i64 0::.int .i64 0::.int .i64 0::.int .i64 0::.int .i64 0::.int .i64 0::.int .i64 0::.int .i64 0::.int .i64 0::.int .i64 0::.int .i64 0::.int .i64 0::.int .i64 0::.int .i64 0::.int .i64 0::.int .i64 0::.int .i64 0::.int .i64 0::.int .i64 0::.int .i64 0::.int .i64 0::.int .i64 0::.int .i64 0::.int .i64 0::.int .i64 0::.int .i64 0::.int .i64 0::.int .i64 0::.int .i64 0::.int .i64 0::.int .i64 0::.int .i64 0::.int .i64 0::.int .i64 0::.int .i64 0::.int .i64 0::.int .i64 0::[])) 186))):=(((HB.out _).trans (EB.out.mono E0)).alloc N6 _);have HBq:Hid (Sm wl.heap.size wl (wl.alloc (.cells (List.toArray (.int .i64 num::.pointer np::.slice q m0 cc::.int .i64 lim::.int .i64 0::.int .i64 0::.int .i64 0::.int .i64 0::.int .i64 0::.int .i64 0::.int .i64 0::.int .i64 0::.int .i64 0::.int .i64 0::.int .i64 0::.int .i64 0::.int .i64 0::.int .i64 0::.int .i64 0::.int .i64 0::.int .i64 0::.int .i64 0::.int .i64 0::.int .i64 0::.int .i64 0::.int .i64 0::.int .i64 0::.int .i64 0::.int .i64 0::.int .i64 0::.int .i64 0::.int .i64 0::.int .i64 0::.int .i64 0::.int .i64 0::.int .i64 0::.int .i64 0::.int .i64 0::.int .i64 0::.int .i64 0::.int .i64 0::.int .i64 0::.int .i64 0::.int .i64 0::.int .i64 0::.int .i64 0::.int .i64 0::.int .i64 0::[])) 186))):=(Below.refl _ _).alloc N8 _;have hwl:w.heap.size<wl.heap.size:=by have:=EB.out.size;simp at this;omega
  have xG:(wl.alloc (.cells (List.toArray (.int .i64 num::.pointer np::.slice q m0 cc::.int .i64 lim::.int .i64 0::.int .i64 0::.int .i64 0::.int .i64 0::.int .i64 0::.int .i64 0::.int .i64 0::.int .i64 0::.int .i64 0::.int .i64 0::.int .i64 0::.int .i64 0::.int .i64 0::.int .i64 0::.int .i64 0::.int .i64 0::.int .i64 0::.int .i64 0::.int .i64 0::.int .i64 0::.int .i64 0::.int .i64 0::.int .i64 0::.int .i64 0::.int .i64 0::.int .i64 0::.int .i64 0::.int .i64 0::.int .i64 0::.int .i64 0::.int .i64 0::.int .i64 0::.int .i64 0::.int .i64 0::.int .i64 0::.int .i64 0::.int .i64 0::.int .i64 0::.int .i64 0::.int .i64 0::.int .i64 0::.int .i64 0::.int .i64 0::.int .i64 0::[])) 186)).cell? ⟨w.heap.size,1,Hn⟩=Gn (.slice p1 m1 gp):=(((Below.refl _ wl).alloc N8 _).cell (p:=⟨w.heap.size,1,Hn⟩) hwl).trans j1;have hZ:(wl.alloc (.cells (List.toArray (.int .i64 num::.pointer np::.slice q m0 cc::.int .i64 lim::.int .i64 0::.int .i64 0::.int .i64 0::.int .i64 0::.int .i64 0::.int .i64 0::.int .i64 0::.int .i64 0::.int .i64 0::.int .i64 0::.int .i64 0::.int .i64 0::.int .i64 0::.int .i64 0::.int .i64 0::.int .i64 0::.int .i64 0::.int .i64 0::.int .i64 0::.int .i64 0::.int .i64 0::.int .i64 0::.int .i64 0::.int .i64 0::.int .i64 0::.int .i64 0::.int .i64 0::.int .i64 0::.int .i64 0::.int .i64 0::.int .i64 0::.int .i64 0::.int .i64 0::.int .i64 0::.int .i64 0::.int .i64 0::.int .i64 0::.int .i64 0::.int .i64 0::.int .i64 0::.int .i64 0::.int .i64 0::.int .i64 0::.int .i64 0::[])) 186)).heap.size=wl.heap.size+1:=P0;clear EB j0 j1 j2 HX;generalize (wl.alloc (.cells (List.toArray (.int .i64 num::.pointer np::.slice q m0 cc::.int .i64 lim::.int .i64 0::.int .i64 0::.int .i64 0::.int .i64 0::.int .i64 0::.int .i64 0::.int .i64 0::.int .i64 0::.int .i64 0::.int .i64 0::.int .i64 0::.int .i64 0::.int .i64 0::.int .i64 0::.int .i64 0::.int .i64 0::.int .i64 0::.int .i64 0::.int .i64 0::.int .i64 0::.int .i64 0::.int .i64 0::.int .i64 0::.int .i64 0::.int .i64 0::.int .i64 0::.int .i64 0::.int .i64 0::.int .i64 0::.int .i64 0::.int .i64 0::.int .i64 0::.int .i64 0::.int .i64 0::.int .i64 0::.int .i64 0::.int .i64 0::.int .i64 0::.int .i64 0::.int .i64 0::.int .i64 0::.int .i64 0::.int .i64 0::.int .i64 0::[])) 186))=wc at *;generalize (Value.agg (List.toArray (.int .i64 num::.pointer np::.slice q m0 cc::.int .i64 lim::.int .i64 0::.int .i64 0::.int .i64 0::.int .i64 0::.int .i64 0::.int .i64 0::.int .i64 0::.int .i64 0::.int .i64 0::.int .i64 0::.int .i64 0::.int .i64 0::.int .i64 0::.int .i64 0::.int .i64 0::.int .i64 0::.int .i64 0::.int .i64 0::.int .i64 0::.int .i64 0::.int .i64 0::.int .i64 0::.int .i64 0::.int .i64 0::.int .i64 0::.int .i64 0::.int .i64 0::.int .i64 0::.int .i64 0::.int .i64 0::.int .i64 0::.int .i64 0::.int .i64 0::.int .i64 0::.int .i64 0::.int .i64 0::.int .i64 0::.int .i64 0::.int .i64 0::.int .i64 0::.int .i64 0::.int .i64 0::.int .i64 0::.int .i64 0::[])))=V;go_wp2_with fail
  go_region_law
   (refine XT rfl _ _ 51 51 rfl 2 _ 1 8 underlying51 Zt wl.heap.size 8 16 16 p1 m1 gp rfl rfl 48 186 (fun j=>if j=0 then .int .i64 num else if j=1 then .pointer np else if j=2 then .slice q m0 cc else .int .i64 (if j=3 then lim else 0)) (fun j=>.int .i64 (z1 j)) h16 ?_ E0 ?_ (fun _ _=>rfl) (fun h=>(y1 h).1) ?_
    ·exact HC.out
    ·exact(S1.out.below HBw.out.drew)
    intro w2 iP hg2 GL;have HG2:Hid (World.grownBy _ w2 (Gn wl.heap.size)):=hg2;have HE:Hid (Tn w2 wl.heap.size 48 186 (fun j=>if j=0 then .int .i64 num else if j=1 then .pointer np else if j=2 then .slice q m0 cc else .int .i64 (if j=3 then lim else if 8<=j/\j<8+m1*1 then z1 (j-8)else 0))):=iP.congr (fun j hj=>by
     show (if 8<=j/\j<8+m1*1 then (.int .i64 (z1 (j-8)):Dn)else if j=0 then _ else if j=1 then _ else if j=2 then _ else _)=_;by_cases h:8<=j/\j<8+m1*1
     ·rw[if_pos h,if_neg E0,if_neg E0,if_neg E0,if_neg E0,if_pos h]
     ·rw[if_neg h];by_cases h3:j=3
      ·simp[h3]
      ·simp only[h3,if_false,h])
    clear iP hg2 GL)
 all_goals
  have HF:Hid (Sm w.heap.size w w2):=HBw.out.drew.grown HG2.out (by show w.heap.size<=wc.heap.size;omega) (fun j hj=>D3);have HFq:Hid (Sm wl.heap.size wl w2):=HBq.out.drew.grown HG2.out (by show wl.heap.size<=wc.heap.size;omega) (fun j hj=>D3);clear HC HG2 xG HBq;have hL1:((Hm 21).map (fun j=>Value.int .i64 (if 4+j=3 then lim else if 8<=4+j/\4+j<8+m1*1 then z1 (4+j-8)else 0))).length=21:=P0;have hL2:∀v∈(Hm 21).map (fun j=>Value.int .i64 (if 4+j=3 then lim else if 8<=4+j/\4+j<8+m1*1 then z1 (4+j-8)else 0)),v.oneCell'=true:=fun v hv=>by obtain⟨y,_,rfl⟩:=List.mem_map.1 hv;rfl
  have hL3:=jW HE.out;have HEL:Hid (∀j,j<21->((Hm 21).map (fun j=>Value.int .i64 (if 4+j=3 then lim else if 8<=4+j/\4+j<8+m1*1 then z1 (4+j-8)else 0))).getD j Bn=.int .i64 (if 4+j=3 then lim else if 8<=4+j/\4+j<8+m1*1 then z1 (4+j-8)else 0)):=fun j hj=>by simp[hj]
  generalize (Hm 21).map (fun j=>Value.int .i64 (if 4+j=3 then lim else if 8<=4+j/\4+j<8+m1*1 then z1 (4+j-8)else 0))=L at *;have HL1:Hid (L.length=21):=hL1;have HL2:Hid (∀v∈L,v.oneCell'=Um):=hL2;have HL3:Hid (w2.rangeAt wl.heap.size 4 L):=hL3;have YQ:Hid (Option.map (fun x=>x.size) (prog.info? 184)=Gn L.length):=by show _=_;rw[hL1];exact dH
  clear hL1 hL2 hL3;go_wp2_with (first|(refine wpList_load_mid rfl 184 _ rfl wl.heap.size 4 rfl L _ HL3.out underlying184 rfl YQ.out ?_)|(refine wpList_store_mid rfl 184 _ _ rfl wl.heap.size 25 L.toArray rfl rfl ?_ ?_ ?_ ?_))
  ·exact kW HE.out HL1.out
  ·rw[List.size_toArray];exact YQ.out
  ·exact all_oneCell_toArray HL2.out
  have HF2:Hid (Sm w.heap.size w (w2.setCells wl.heap.size 25 L)):=SE HF.out E0 _ _;have HF3:Hid (Sm wl.heap.size wl (w2.setCells wl.heap.size 25 L)):=SE HFq.out N8 _ _;have HN:Hid (sH w num np lim m0 m1 z0 z1 wl.heap.size (w2.setCells wl.heap.size 25 L)):=by
   refine⟨.slice q m0 cc,E0,(HE.out.setCells L 25).congr fun j _=>?_,xo HQl.out HF3.out⟩
   ·rw[HL1.out];unfold Zv Az;by_cases h:25<=j/\j<25+21
    ·rw[if_pos h,HEL.out (j-25) E0];repeat' split
     all_goals first
      |rfl
      |(exfalso;omega)
      |(congr 2;omega)
    ·rw[if_neg h];repeat' split
     all_goals first
      |rfl
      |(exfalso;omega)
      |(congr 2;omega)
  go_wp2_with fail
  go_ret;exact⟨_,rfl,HF2.out,HN.out⟩
def Kp(w w':En):Prop:=∀(b:Nat)(cs:Array Dn)(t:Nat)(fz:Nat×Nat),w.heap[b]?=Gn (.cells cs t fz)->t≠100->t≠143->t≠94->w'.heap[b]?=w.heap[b]?
theorem Kp.below{w w':En}(h:Sm w.heap.size w w'):Kp w w':=fun b _ _ _ hb _ _ _=>h.block b (Array.getElem?_eq_some_iff.1 hb).1
theorem Kp.trans{a b c:En}(h:Kp a b)(k:Kp b c):Kp a c:=fun x cs t fz hx h1 h2 h3=>by
 have e:=h x cs t fz hx h1 h2 h3;rw[k x cs t fz (e.trans hx) h1 h2 h3,e]
theorem Kp.row{w w':En}{g m t:Nat}{f:Nat->Dn}(h:Kp w w')(hr:Tn w g m t f)(h1:t≠100)(h2:t≠143)(h3:t≠94):Tn w' g m t f:=by
 obtain⟨cs,hg,_⟩:=id hr;exact hr.of_heap (h g cs t _ hg h1 h2 h3)
theorem Kp.own{w w':En}{b e s n:Nat}{v:Dn}{xs:List Dn}(h:Kp w w')(ho:w.ownsRow b e s v n xs)(h1:e≠100)(h2:e≠143)(h3:e≠94):w'.ownsRow b e s v n xs:=by
 rcases ho with⟨hl,hv|⟨g,cap,Ov,hv,hb,hg,hr⟩⟩
 ·exact⟨hl,.inl hv⟩
 ·exact⟨hl,.inr ⟨g,cap,Ov,hv,hb,(h g _ _ _ hg h1 h2 h3).trans hg,hr⟩⟩
theorem Kp.step{wl wg:En}{K i e s n b:Nat}{o:Obj}{v x:Dn}{xs:List Dn}{f:Nat->Dn}(ho:wl.ownsRow b e s v n xs)(he:e=100\/e=143)(hK:Tn wl K 5 94 f)(hg:(wl.alloc o).grownBy wg v.ownBlock):Kp wl (wg.setCell ⟨K,i,Hn⟩ x):=fun y cs t fz hy h1 h2 h3=>by
 have yo:=(Array.getElem?_eq_some_iff.1 hy).1;rw[yn _ _ _ _ (fun e=>by
  obtain⟨cs',hK',_⟩:=hK;have e:y=K:=e;rw[e,hK']at hy;cases hy;exact h3 rfl),hg.block y A1 (fun e'=>by
  rcases ho.2 with⟨hv,_⟩|⟨g,cap,Ov,hv,_,jJ,_⟩
  ·rw[hv]at e';simp[Value.ownBlock]at e'
  ·rw[hv]at e';have:y=g:=by simpa[Value.ownBlock]using e'
   rw[this,jJ]at hy;cases hy;rcases he with he|he
   ·exact h1 he
   ·exact h2 he),heap_alloc_old _ _ yo]
theorem Kp.alloc(w:En)(o:Obj):Kp w (w.alloc o):=fun _ _ _ _ hb _ _ _=>heap_alloc_old w o (Array.getElem?_eq_some_iff.1 hb).1
def N00(B:Nat)(c:Ur)(ve vq vs:Dn)(wr:En):Prop:=wr.ownsRow B 151 2 ve c.Zo (JB c.ch c.Zo)/\wr.ownsRow B 156 3 vq c.Zo (tw c.Zo)/\wr.ownsRow B 158 4 vs c.Zo (ru c.Zo)
theorem N00.keep{B:Nat}{c:Ur}{ve vq vs:Dn}{w w':En}(h:N00 B c ve vq vs w)(k:Kp w w'):N00 B c ve vq vs w':=
 ⟨k.own h.1 U0 U0 U0,k.own h.2.1 U0 U0 U0,k.own h.2.2 U0 U0 U0⟩
def Ext(B:Nat)(c:Ur)(nb:Nat)(tr:Dn)(wr:En):Prop:=
 (B<=nb/\∃ve vq vs,Tn wr nb 3 149 (cells3 ve vq vs)/\(∃p cap,ve=.slice p c.Zo cap)/\(∃p cap,vq=.slice p c.Zo cap)/\(∃p cap,vs=.slice p c.Zo cap)/\N00 B c ve vq vs wr)/\∃T,B<=T/\tr=.slice (Gn ⟨T,0,Hn⟩) c.nC c.nC/\Tn wr T c.nC 61 (fun _=>.slice Hn 0 0)
theorem Ext.keep{B:Nat}{c:Ur}{nb:Nat}{tr:Dn}{w w':En}(h:Ext B c nb tr w)(k:Kp w w'):Ext B c nb tr w':=by
 obtain⟨⟨h0,ve,vq,vs,h1,h2,h2b,h2c,h2d⟩,T,h00,h3,h4⟩:=h;exact⟨⟨h0,ve,vq,vs,k.row h1 U0 U0 U0,h2,h2b,h2c,h2d.keep k⟩,T,h00,h3,k.row h4 U0 U0 U0⟩
def oz(B:Nat)(c:Ur)(k:Nat)(xs:List Dn)(wr:En):Prop:=∀i,i<k->∃g cap,xs[i]?=Gn (.slice (Gn ⟨g,0,Hn⟩) (c.nRow i) cap)/\wr.ownsRow B 102 2 (.slice (Gn ⟨g,0,Hn⟩) (c.nRow i) cap) (c.nRow i) ((Hm (c.nRow i*2)).map fun j=>.int .i64 (c.row i j))
theorem oz.keep{B:Nat}{c:Ur}{k:Nat}{xs:List Dn}{w w':En}(h:oz B c k xs w)(kp:Kp w w'):oz B c k xs w':=fun i hi=>by
 obtain⟨g,cap,h1,h2⟩:=h i hi;exact⟨g,cap,h1,kp.own h2 U0 U0 U0⟩
theorem oz.step{c:Ur}{B k g cap:Nat}{xs:List Dn}{w:En}(h:oz B c k xs w)(hl:xs.length=k)(ho:w.ownsRow B 102 2 (.slice (Gn ⟨g,0,Hn⟩) (c.nRow k) cap) (c.nRow k) ((Hm (c.nRow k*2)).map fun j=>.int .i64 (c.row k j))):oz B c (k+1) (xs++[.slice (Gn ⟨g,0,Hn⟩) (c.nRow k) cap]) w:=fun i hi=>by
 by_cases e:i<k
 ·obtain⟨g,cap,h1,h2⟩:=h i e;exact⟨g,cap,by rw[Em E0];exact h1,h2⟩
 ·obtain rfl:i=k:=by omega
  exact⟨g,cap,J8,ho⟩
def Iz(B:Nat)(c:Ur)(nb k:Nat)(xs:List Dn)(wr:En):Prop:=∃kb:Nat->Nat,(∀i j,i<k->j<k->i≠j->kb i≠kb j)/\∀i,i<k->∃cv,xs[i]?=Gn (.pointer (Gn ⟨kb i,0,Hn⟩))/\B<=kb i/\kb i<wr.heap.size/\Tn wr (kb i) 48 186 (Zv i (.pointer (Gn ⟨nb,0,Hn⟩)) cv (Az (c.lim i) (c.Hq i) (c.img i)))/\wr.ownsRow B 97 4 cv (c.Ho i) ((Hm (c.Ho i*4)).map fun j=>.int .i64 (c.code i j))
theorem Iz.keep{c:Ur}{B nb k:Nat}{xs:List Dn}{w w':En}(h:Iz B c nb k xs w)(kp:Kp w w'):Iz B c nb k xs w':=by
 obtain⟨kb,h1,h2⟩:=h;refine⟨kb,h1,fun i hi=>?_⟩;obtain⟨cv,h3,h0,h4,h5,h6⟩:=h2 i hi;have h7:=kp.row h5 U0 U0 U0;exact⟨cv,h3,h0,h7.lt,h7,kp.own h6 U0 U0 U0⟩
theorem Iz.step{c:Ur}{nb k b B0 B:Nat}{xs:List Dn}{w:En}{cv:Dn}(h:Iz B0 c nb k xs w)(hb0:B0<=b)(hB:∀i j,i<k->xs[i]?=Gn (.pointer (Gn ⟨j,0,Hn⟩))->j<B)(hb:B<=b)(hl:xs.length=k)(hr:Tn w b 48 186 (Zv k (.pointer (Gn ⟨nb,0,Hn⟩)) cv (Az (c.lim k) (c.Hq k) (c.img k))))(ho:w.ownsRow B0 97 4 cv (c.Ho k) ((Hm (c.Ho k*4)).map fun j=>.int .i64 (c.code k j))):Iz B0 c nb (k+1) (xs++[.pointer (Gn ⟨b,0,Hn⟩)]) w:=by
 obtain⟨kb,h1,h2⟩:=h;have yo:∀i,i<k->kb i<B:=fun i hi=>by
  obtain⟨_,h3,_⟩:=h2 i hi;exact hB i _ hi h3
 refine⟨fun i=>if i<k then kb i else b,fun i j hi hj Yp=>?_,fun i hi=>?_⟩
 ·simp only;by_cases e1:i<k
  ·by_cases e2:j<k
   ·rw[if_pos e1,if_pos e2];exact h1 i j e1 e2 Yp
   ·rw[if_pos e1,if_neg e2];have:=yo i e1;omega
  ·by_cases e2:j<k
   ·rw[if_neg e1,if_pos e2];have:=yo j e2;omega
   ·omega
 ·simp only;by_cases e:i<k
  ·rw[if_pos e];obtain⟨cv,h3,h4⟩:=h2 i e;exact⟨cv,by rw[Em E0];exact h3,h4⟩
  ·obtain rfl:i=k:=by omega
   rw[if_neg e];exact⟨cv,J8,hb0,hr.lt,hr,ho⟩
def MF(c:Ur)(w:En)(K nb:Nat)(tr:Dn)(k:Nat)(wr:En):Prop:=
 ∃v xs,Sm w.heap.size w wr/\Tn wr K 5 94 (tA v (.int .i64 0) (.slice Hn 0 0) (.pointer (Gn ⟨nb,0,Hn⟩)) tr)/\wr.ownsRow (K+1) 100 1 v k xs/\Ext w.heap.size c nb tr wr/\oz w.heap.size c k xs wr
def pD(c:Ur)(w:En)(K nb:Nat)(v tr:Dn)(k:Nat)(wr:En):Prop:=
 ∃u xs,Sm w.heap.size w wr/\Tn wr K 5 94 (tA v (.int .i64 0) u (.pointer (Gn ⟨nb,0,Hn⟩)) tr)/\wr.ownsRow (K+1) 143 1 u k xs/\Ext w.heap.size c nb tr wr/\(∃ys,wr.ownsRow (K+1) 100 1 v c.nT ys/\oz w.heap.size c c.nT ys wr)/\Iz w.heap.size c nb k xs wr
def G60(c:Ur)(w:En)(e:Ending)(w':En):Prop:=
 ∃k:Dn,∃x y:Int,e=.returned (.tuple #[k,.int .i64 x,.int .i64 y])/\vo c x y/\Sm w.heap.size w w'/\((x≠0/\k=.pointer Hn)\/(x=0/\∃K nb v tr,k=.pointer (Gn ⟨K,0,Hn⟩)/\w.heap.size<K/\pD c w K nb v tr c.nC w'))
theorem F20{P:Ym}(t e:TypeId)(z:Dn)(size bytes n:Nat)(ht:P.underlying t=Gn (.slice e))(Ny:(P.info? e).map (fun i=>(i.zero,i.size,i.bytes))=Gn (Gn z,size,bytes))(hb:bytes*n<=281474976710656)(hn:n<=9223372036854775807):
  ∃MC:Array Dn,MC.size=n*size/\(∀j,j<n*size->MC[j]?=Gn (z.cells[j%z.cells.size]!))/\∀W:En,(Instr.makeSlice t (.int .i64 n) (.int .i64 n)).run P W=.ok (.slice (Gn ⟨W.heap.size,0,Hn⟩) n n) (W.alloc (.cells MC e)):=by
 obtain⟨i,h2,h3,h4,h5⟩:=info_parts Ny;subst h4 h5;refine⟨madeCells z.cells (n*i.size),size_madeCells _ _,fun j hj=>by simp[madeCells,hj],fun W=>?_⟩;have Xq:(i.bytes:Int)*(n:Int)<=281474976710656:=by
  have h:((i.bytes*n:Nat):Int)<=281474976710656:=E0;rwa [Int.natCast_mul]at h
 exact Bg
theorem rowT{A:En}{M:Array Dn}{n:Nat}(hs:M.size=n*1)(hM:∀j,j<n*1->M[j]?=Gn ((Value.slice Hn 0 0).cells[j%(Value.slice Hn 0 0).cells.size]!)):Tn (A.alloc (.cells M 61)) A.heap.size n 61 (fun _=>.slice Hn 0 0):=by
 have h1:M.size=n:=E0;rw[<-h1];refine Tn.new A M _ _ (fun j hj=>?_);rw[hM j E0];have h:(Value.slice Hn 0 0).cells=#[.slice Hn 0 0]:=rfl;rw[h];have:j%1=0:=E0;simp[this]
theorem aD{w:En}{b e s n:Nat}{v:Dn}{xs:List Dn}(h:w.ownsRow b e s v n xs):∃p cap,v=.slice p n cap:=by
 rcases h.2 with⟨rfl,rfl⟩|⟨g,cap,_,rfl,_⟩
 ·exact⟨_,_,rfl⟩
 ·exact⟨_,_,rfl⟩
theorem m00{w:En}{b e n:Nat}{v:Dn}{xs:List Dn}(h:w.ownsRow b e 1 v n xs):xs.length=n:=by have:=h.1;omega
theorem K20(c:Ur)(v0 v1 v2 v3:Dn)(w:En)(h:Zx w v0 v1 v2 v3 c)(hw:TK c)(hrn:∀i,i<c.nT->c.EJ i=Tm):
  Zm prog 27 #[.agg #[v0,v1,v2,v3]] w (G60 c w):=by
 refine U9 fun HA=>?_;have HC:Hid (∀o,Zm prog 50 #[.agg #[v0,v1,v2,v3]] (w.alloc o) (PI c (w.alloc o))):=fun o=>KN c v0 v1 v2 v3 _ (h.below (HA.out _)) hw;obtain⟨p0,yp,F0,p1,gp,F1,p2,dq,p3,Lq,rfl,rfl,rfl,rfl,s0,k0,s1,k1,s2,-,b0,b1,b2,b3⟩:=h.parts;have S2:Hid (Sl w p2 (c.Zo*3) (fun j=>.int .i64 (c.ch j))):=s2;have S0:Hid (Sl w p0 (c.nC*3) F0):=s0;have K0:Hid (∀i,i<c.nC->_):=k0;have S1:Hid (Sl w p1 c.nT F1):=s1;have K1:Hid (∀i,i<c.nT->FC w (F1 i) (c.EJ i) (c.nRow i) 2 (c.row i) 16):=k1;have HRN:Hid (∀i,i<c.nT->c.EJ i=Tm):=hrn;clear hrn;clear h hw s0 k0 s1 k1 s2 b0 b1 b2 b3
 go_enter func27,ntmps27
 go_wp2_with fail
 refine(HC.out _).mono ?_;rintro e w1 ⟨x,y,rfl,hx,Dq⟩;have HX:Hid (vo c x y):=hx;refine Bd fun Ax=>?_;clear hx Dq;by_cases h0:x=0
 ·have Yp:(x != 0)=false:=by simpa using h0
  have H0:Hid (x=0):=h0;have HOK:Hid (Yy c/\Zy c/\Lp (Xu c) c.nC):=(HX.out.place h0).sizes;have q6:c.nC<=6:=HOK.out.1.2;have q8:c.nT<=8:=HOK.out.2.1.2;obtain⟨M1,hM1,hMC,FY⟩:=F20 (P:=prog) 73 61 _ 1 24 c.nC underlying73 Xb0 E0 E0;obtain⟨x0,x1,x2,x3⟩:=NG Ax.out;have vX:w.heap.size<w1.heap.size:=by have:=Ax.out.size;simp at this;omega
  have H00:Hid (Sm w.heap.size w w1):=Vo Ax.out;have HMC:Hid (M1.size=c.nC*1/\∀j,j<c.nC*1->M1[j]?=Gn ((Value.slice Hn 0 0).cells[j%(Value.slice Hn 0 0).cells.size]!)):=⟨hM1,hMC⟩;clear h0 hM1 hMC;have q7:c.Zo<=8:=(HX.out.place H0.out).D_;go_wp2_with fail;have HBm:Hid (Sm (w.heap.size+1) (w.alloc (.cells #[.slice p0 c.nC yp,.slice p1 c.nT gp,.slice p2 c.Zo dq,.slice p3 c.nD Lq] 28)) (w1.alloc (.cells M1 61))):=Ax.out.alloc (by have:=Ax.out.size;simp at this;omega) _;go_region_held3 (fun W=>W.cell? ⟨w.heap.size,2,Hn⟩=Gn (.slice p2 c.Zo dq)/\W.cell? ⟨w.heap.size,0,Hn⟩=Gn (.slice p0 c.nC yp)) (go_keep)
   (first
    |(go_at_call 51
      refine(JH p2 c.Zo dq c.ch _ (S2.out.below (Vo HBm.out.drew)) q7).mono ?_;rintro e wl ⟨nb,rfl,GY,ve,vq,vs,h3,hr3,kO,IY,ho3⟩;refine yb fun mS eO=>?_;clear hr3 kO IY ho3 GY mS;have EB:Hid (Sm (w.heap.size+1) (w.alloc (.cells #[.slice p0 c.nC yp,.slice p1 c.nT gp,.slice p2 c.Zo dq,.slice p3 c.nD Lq] 28)) wl):=HBm.out.drew.trans (h3.mono (by have:=HBm.out.size;simp at this;show _<=(w1.alloc (.cells M1 61)).heap.size;simp;omega));have HTL:Hid (Tn wl w1.heap.size c.nC 61 (fun _=>.slice Hn 0 0)):=(rowT (A:=w1) HMC.out.1 HMC.out.2).of_heap (h3.block _ (by show w1.heap.size<(w1.alloc _).heap.size;simp));clear h3;obtain⟨xl0,xl1,xl2,xl3⟩:=NG EB.out)
    |(go_at_call 51
      refine(JH p2 c.Zo dq c.ch _ (S2.out.below (Vo Ax.out.drew)) q7).mono ?_;rintro e wl ⟨nb,rfl,GY,ve,vq,vs,h3,hr3,kO,IY,ho3⟩;refine yb fun mS eO=>?_;clear hr3 kO IY ho3 GY mS;have EB:Hid (Sm (w.heap.size+1) (w.alloc (.cells #[.slice p0 c.nC yp,.slice p1 c.nT gp,.slice p2 c.Zo dq,.slice p3 c.nD Lq] 28)) wl):=Ax.out.drew.trans (h3.mono (by have:=Ax.out.size;simp at this;show _<=w1.heap.size;omega));clear h3;obtain⟨xl0,xl1,xl2,xl3⟩:=NG EB.out))
  have HF:Hid _:=k00 (K:=wl.heap.size+1) (t:=94) (a:=.slice Hn 0 0) (b:=.int .i64 0) (c:=.slice Hn 0 0) (d:=.pointer (Gn ⟨nb,0,Hn⟩)) (e:=.slice (Gn ⟨wl.heap.size,0,Hn⟩) c.nC c.nC) (EB.out.alloc N6 (.cells M1 61)) P0 rfl;have W0:Hid (MF c w (wl.heap.size+1) nb (.slice (Gn ⟨wl.heap.size,0,Hn⟩) c.nC c.nC) 0 ((wl.alloc (.cells M1 61)).alloc (.cells #[.slice Hn 0 0,.int .i64 0,.slice Hn 0 0,.pointer (Gn ⟨nb,0,Hn⟩),.slice (Gn ⟨wl.heap.size,0,Hn⟩) c.nC c.nC] 94))):=⟨_,_,HF.out.1,HF.out.2.1,World.ownsRow_nil _ _ _ _,⟨by
   obtain⟨h0,ve,vq,vs,h1,h2,h2b,h2c,h2d⟩:=eO.out;exact⟨h0,ve,vq,vs,(h1.alloc _).alloc _,h2,h2b,h2c,(h2d.keep (Kp.alloc _ _)).keep (Kp.alloc _ _)⟩,_,N6,rfl,(rowT HMC.out.1 HMC.out.2).alloc _⟩,fun i hi=>absurd hi E0⟩
  have X0:Hid (Tn ((wl.alloc (.cells M1 61)).alloc (.cells #[.slice Hn 0 0,.int .i64 0,.slice Hn 0 0,.pointer (Gn ⟨nb,0,Hn⟩),.slice (Gn ⟨wl.heap.size,0,Hn⟩) c.nC c.nC] 94)) w.heap.size 4 28 (cells4 (.slice p0 c.nC yp) (.slice p1 c.nT gp) (.slice p2 c.Zo dq) (.slice p3 c.nD Lq))):=(row4 w _ _ _ _ _).below HF.out.2.2.2.2 E0;have hK:wl.heap.size+1<((wl.alloc (.cells M1 61)).alloc (.cells #[.slice Hn 0 0,.int .i64 0,.slice Hn 0 0,.pointer (Gn ⟨nb,0,Hn⟩),.slice (Gn ⟨wl.heap.size,0,Hn⟩) c.nC c.nC] 94)).heap.size:=HF.out.2.2.1;have hKw:w.heap.size<wl.heap.size+1:=HF.out.2.2.2.1;clear HF;generalize ((wl.alloc (.cells M1 61)).alloc (.cells #[.slice Hn 0 0,.int .i64 0,.slice Hn 0 0,.pointer (Gn ⟨nb,0,Hn⟩),.slice (Gn ⟨wl.heap.size,0,Hn⟩) c.nC c.nC] 94))=w0 at *;generalize hKe:wl.heap.size+1=K at *;generalize (Value.slice (Gn ⟨wl.heap.size,0,Hn⟩) c.nC c.nC)=tr at *;clear hKe;rotate_left;have HF:Hid _:=k00 (K:=wl.heap.size) (t:=94) (a:=.slice Hn 0 0) (b:=.int .i64 0) (c:=.slice Hn 0 0) (d:=.pointer (Gn ⟨nb,0,Hn⟩)) (e:=.slice (Gn ⟨w1.heap.size,0,Hn⟩) c.nC c.nC) EB.out P0 rfl;have W0:Hid (MF c w (wl.heap.size) nb (.slice (Gn ⟨w1.heap.size,0,Hn⟩) c.nC c.nC) 0 (wl.alloc (.cells #[.slice Hn 0 0,.int .i64 0,.slice Hn 0 0,.pointer (Gn ⟨nb,0,Hn⟩),.slice (Gn ⟨w1.heap.size,0,Hn⟩) c.nC c.nC] 94))):=⟨_,_,HF.out.1,HF.out.2.1,World.ownsRow_nil _ _ _ _,⟨by
   obtain⟨h0,ve,vq,vs,h1,h2,h2b,h2c,h2d⟩:=eO.out;exact⟨h0,ve,vq,vs,h1.alloc _,h2,h2b,h2c,h2d.keep (Kp.alloc _ _)⟩,_,H00.out.size,rfl,HTL.out.alloc _⟩,fun i hi=>absurd hi E0⟩
  have X0:Hid (Tn (wl.alloc (.cells #[.slice Hn 0 0,.int .i64 0,.slice Hn 0 0,.pointer (Gn ⟨nb,0,Hn⟩),.slice (Gn ⟨w1.heap.size,0,Hn⟩) c.nC c.nC] 94)) w.heap.size 4 28 (cells4 (.slice p0 c.nC yp) (.slice p1 c.nT gp) (.slice p2 c.Zo dq) (.slice p3 c.nD Lq))):=(row4 w _ _ _ _ _).below HF.out.2.2.2.2 E0;have hK:wl.heap.size<(wl.alloc (.cells #[.slice Hn 0 0,.int .i64 0,.slice Hn 0 0,.pointer (Gn ⟨nb,0,Hn⟩),.slice (Gn ⟨w1.heap.size,0,Hn⟩) c.nC c.nC] 94)).heap.size:=HF.out.2.2.1;have hKw:w.heap.size<wl.heap.size:=HF.out.2.2.2.1;clear HF;generalize (wl.alloc (.cells #[.slice Hn 0 0,.int .i64 0,.slice Hn 0 0,.pointer (Gn ⟨nb,0,Hn⟩),.slice (Gn ⟨w1.heap.size,0,Hn⟩) c.nC c.nC] 94))=w0 at *;generalize hKe:wl.heap.size=K at *;generalize (Value.slice (Gn ⟨w1.heap.size,0,Hn⟩) c.nC c.nC)=tr at *;clear hKe;rotate_left
  all_goals
   try clear HTL
   clear eO HMC;clear vX H00 Ax HBm EB x0 x1 x2 x3 xl0 xl1 xl2 xl3 FY q7;obtain⟨x0,x1,x2,x3⟩:=X0.out.at4;go_wp2_with fail;clear x0 x1 x2 x3;go_loopw [33] (fun i wr=>∃k:Nat,k<=c.nT/\i=.int .i64 k/\K<wr.heap.size/\Hid (MF c w K nb tr k wr)/\Hid (Tn wr w.heap.size 4 28 (cells4 (.slice p0 c.nC yp) (.slice p1 c.nT gp) (.slice p2 c.Zo dq) (.slice p3 c.nD Lq)))) (fun i _=>c.nT-(intOf i).toNat)
   case atStart=>exact⟨0,Pm _,rfl,hK,W0,X0⟩
   case round=>
    obtain⟨k,hk,rfl,dK,HR,HX4⟩:=hrel;obtain⟨v,xs,hbr,Ir,Io,h80,B80⟩:=HR.out;have HEX:Hid (Ext w.heap.size c nb tr wr):=h80;have HRK:Hid (oz w.heap.size c k xs wr):=B80;clear h80 B80;obtain⟨z0,z1,z2,z3,z4⟩:=Ir.db0;obtain⟨x0,x1,x2,x3⟩:=HX4.out.at4;have hxr:w.heap.size<wr.heap.size:=HX4.out.lt;have Aw:Hid (Sm w.heap.size w wr):=hbr;have z_:Hid (Tn wr K 5 94 (tA v (.int .i64 0) (.slice Hn 0 0) (.pointer (Gn ⟨nb,0,Hn⟩)) tr)):=Ir;have HO:Hid (wr.ownsRow (K+1) 100 1 v k xs):=Io;clear hbr Ir Io HR;by_cases yo:k<c.nT
    ·obtain⟨b,off,rfl,hc⟩:=(S1.out.below Aw.out).at E0;have c0:=hc k yo;clear hc;obtain⟨pr,BO,hF,-,hnn,zr,br,sr⟩:=K1.out k yo;have HPS:Hid (∃ad,pr=Gn ad):=by
      cases pr with
      |none=>exact absurd (hnn.1 rfl) (by rw[HRN.out k yo];simp)
      |some ad=>exact⟨ad,rfl⟩
     clear hnn;rw[hF]at c0;have SR:Hid (Sl w pr (c.nRow k*2) (fun j=>.int .i64 (c.row k j))):=sr;have BR:Hid (16*c.nRow k<=140737488355328):=br;have ZR:Hid (pr=Hn->c.nRow k=0/\BO=0):=zr;clear hF sr br zr;go_wp2_with fail
     go_region_law
      (first
       |(refine Oz rfl 52 _ _ rfl _ rfl Tryz.f52 func52 XS kR (fun r w'=>∃gq cc,r=.slice (Gn ⟨gq,0,Hn⟩) (c.nRow k) cc/\Sm wr.heap.size wr w'/\w'.ownsRow w.heap.size 102 2 (.slice (Gn ⟨gq,0,Hn⟩) (c.nRow k) cc) (c.nRow k) ((Hm (c.nRow k*2)).map fun j=>.int .i64 (c.row k j))) ?_ ?_
         ·obtain⟨ad,had⟩:=HPS.out;subst had;refine(KO ad (c.nRow k) BO (c.row k) wr.drew (SR.out.below Aw.out.drew) BR.out).mono ?_;rintro e w' ⟨gq,cc,h1,h2,h3⟩;exact⟨_,h1,gq,cc,rfl,⟨h2.os,h2.tape,h2.output,h2.size,h2.block⟩,qx h3 Aw.out.size⟩
         rintro r wl ⟨gq,cc,rfl,Jv,hwo⟩;have HWO:Hid (wl.ownsRow w.heap.size 102 2 (.slice (Gn ⟨gq,0,Hn⟩) (c.nRow k) cc) (c.nRow k) ((Hm (c.nRow k*2)).map fun j=>.int .i64 (c.row k j))):=hwo;clear hwo;have EB:Hid (Sm wr.heap.size wr wl):=Jv;have yS:wr.heap.size<=wl.heap.size:=Jv.size;have q0:=(EB.out.cell (p:=⟨K,0,Hn⟩) dK).trans z0;have q0a:(wl.alloc (.cells #[.slice (Gn ⟨gq,0,Hn⟩) (c.nRow k) cc] 100)).cell? ⟨K,0,Hn⟩=Gn v:=((EB.out.alloc yS _).cell (p:=⟨K,0,Hn⟩) dK).trans z0;clear Jv)
       |(refine Br rfl _ _ 24 rfl (K+1) 100 _ 1 24 underlying24 jI rfl E0 v k xs rfl (xo HO.out (EB.out.alloc yS _)) wl.heap.size [.slice (Gn ⟨gq,0,Hn⟩) (c.nRow k) cc] 100 rfl rfl G2 D2 Y1 E0 A1 ?_
         intro g cap wg kq uo jr Av;have HOL:Hid (∀j,j<wr.heap.size->v.ownBlock≠Gn j->wg.heap[j]?=wr.heap[j]?):=(fun j hj Yp=>(uo.block j A1 (fun e=>Yp e.symm)).trans ((heap_alloc_old _ _ E0).trans (EB.out.block j hj)));have HOg:Hid (wg.ownsRow (K+1) 100 1 (.slice (Gn ⟨g,0,Hn⟩) (k+1:Nat) cap) (k+1) (xs++[.slice (Gn ⟨gq,0,Hn⟩) (c.nRow k) cc])):=kq;have HSg:Hid (wr.heap.size<=wg.heap.size):=Qm (Qm yS P0) uo.size;have HFg:Hid (wg.os=wr.os/\wg.tape=wr.tape/\wg.output=wr.output):=⟨uo.os.trans EB.out.os,uo.tape.trans EB.out.tape,uo.output.trans EB.out.output⟩;have HRg:Hid (Tn wg K 5 94 (tA v (.int .i64 0) (.slice Hn 0 0) (.pointer (Gn ⟨nb,0,Hn⟩)) tr)):=z_.out.of_heap (HOL.out K dK (fun e=>by have:=(HO.out.lt K e).1;omega));have HKP:Hid (∀x,Kp wl (wg.setCell ⟨K,0,Hn⟩ x)):=fun x=>Kp.step (xo HO.out EB.out) (.inl rfl) (z_.out.below EB.out dK) uo;clear q0 q0a;have q0:=HRg.out.db0.1;have zQ:=HRg.out.frozen 0;clear kq uo jr Av))
     all_goals
      have HN:Hid (MF c w K nb tr (k+1) (wg.setCell ⟨K,0,Hn⟩ (.slice (Gn ⟨g,0,Hn⟩) (k+1:Nat) cap))):=
       ⟨_,_,qN Aw.out HSg.out HFg.out HOL.out (fun j hj=>(HO.out.lt j hj).1) hKw,(HRg.out.L90 _).1,ownsRow_setCell_below HOg.out P0 _,HEX.out.keep ((Kp.below EB.out).trans (HKP.out _)),((HRK.out.keep (Kp.below EB.out)).step (m00 HO.out) HWO.out).keep (HKP.out _)⟩
      have HX5:Hid (Tn (wg.setCell ⟨K,0,Hn⟩ (.slice (Gn ⟨g,0,Hn⟩) (k+1:Nat) cap)) w.heap.size 4 28 (cells4 (.slice p0 c.nC yp) (.slice (Gn ⟨b,off,Hn⟩) c.nT gp) (.slice p2 c.Zo dq) (.slice p3 c.nD Lq))):=
       (HX4.out.of_heap (HOL.out _ hxr (fun e=>by have:=(HO.out.lt _ e).1;omega))).other _ _ A1
      have hK5:K<(wg.setCell ⟨K,0,Hn⟩ (.slice (Gn ⟨g,0,Hn⟩) (k+1:Nat) cap)).heap.size:=by rw[size_setCell];exact HRg.out.lt
      clear q0 zQ;go_wp2_with fail;exact⟨⟨k+1,E0,E1,hK5,HN,HX5⟩,U1⟩
    ·obtain rfl:k=c.nT:=by omega
     clear yo hk z0 z1 z2 z3 z4;go_wp2_with fail;have HOv:Hid (∃pv mv cv,v=.slice pv mv cv):=sx HO.out;have V0:Hid (pD c w K nb v tr 0 wr):=⟨_,_,Aw.out,z_.out,World.ownsRow_nil _ _ _ _,HEX.out,⟨_,HO.out,HRK.out⟩,fun i=>i,fun i j hi=>absurd hi E0,fun i hi=>absurd hi E0⟩;clear HO z_ Aw HEX HRK x0 x1 x2 x3 W0 X0 hK;revert V0 HX4 dK hxr;revert wr;intro wr0 dK HX4 hxr V0;go_loopw [52] (fun i wr=>∃k:Nat,k<=c.nC/\i=.int .i64 k/\K<wr.heap.size/\Hid (pD c w K nb v tr k wr)/\Hid (Tn wr w.heap.size 4 28 (cells4 (.slice p0 c.nC yp) (.slice p1 c.nT gp) (.slice p2 c.Zo dq) (.slice p3 c.nD Lq)))) (fun i _=>c.nC-(intOf i).toNat)
     case atStart=>exact⟨0,Pm _,rfl,dK,V0,HX4⟩
     case round=>
      clear HX4 dK hxr V0;obtain⟨k,hk,rfl,dK,HR,HX4⟩:=hrel;obtain⟨u,xs,hbr,Ir,Io,h80,B80,Mj0⟩:=HR.out;have HEX:Hid (Ext w.heap.size c nb tr wr):=h80;have HRK:Hid (∃ys,wr.ownsRow (K+1) 100 1 v c.nT ys/\oz w.heap.size c c.nT ys wr):=B80;have HCK:Hid (Iz w.heap.size c nb k xs wr):=Mj0;clear h80 B80 Mj0;obtain⟨z0,z1,z2,z3,z4⟩:=Ir.db0;obtain⟨x0,x1,x2,x3⟩:=HX4.out.at4;have hxr:w.heap.size<wr.heap.size:=HX4.out.lt;have Aw:Hid (Sm w.heap.size w wr):=hbr;have z_:Hid (Tn wr K 5 94 (tA v (.int .i64 0) u (.pointer (Gn ⟨nb,0,Hn⟩)) tr)):=Ir;have HO:Hid (wr.ownsRow (K+1) 143 1 u k xs):=Io;clear hbr Ir Io HR;by_cases yo:k<c.nC
      ·obtain⟨b,off,rfl,hc⟩:=(S0.out.below Aw.out).at E0;refine Vb fun c0 c1 c2=>?_;rw[<-Jm]at c1 c2;clear hc;obtain⟨sc,si,hl⟩:=K0.out k yo;obtain⟨pc,Hy,hF,-⟩:=id sc;obtain⟨pi,KC,hG,-⟩:=id si;rw[hF]at sc c0;rw[hG]at si c1;rw[hl]at c2;have SC:Hid (FC w (.slice pc (c.Ho k) Hy) (c.Jt k) (c.Ho k) 4 (c.code k) 32):=sc;have SI:Hid (FC w (.slice pi (c.Hq k) KC) (c.Vt k) (c.Hq k) 1 (c.img k) 8):=si;have H16:Hid (c.Hq k<=16):=(HOK.out.2.2 k yo).2.1;clear hF hG hl sc si;go_wp2_with fail;have TP:Hid (Sm wr.heap.size wr (wr.alloc (.cells #[.slice pc (c.Ho k) Hy,.slice pi (c.Hq k) KC,.int .i64 (c.lim k)] 53))):=(Below.refl _ _).alloc N8 _;have hsp:wr.heap.size<(wr.alloc (.cells #[.slice pc (c.Ho k) Hy,.slice pi (c.Hq k) KC,.int .i64 (c.lim k)] 53)).heap.size:=P0;obtain⟨e0,e1,e2⟩:=(row3 wr (.slice pc (c.Ho k) Hy) (.slice pi (c.Hq k) KC) (.int .i64 (c.lim k)) 53).at3;have eK:=(TP.out.cell (p:=⟨K,2,Hn⟩) dK).trans z2;have eN:=(TP.out.cell (p:=⟨K,3,Hn⟩) dK).trans z3;generalize (wr.alloc (.cells #[.slice pc (c.Ho k) Hy,.slice pi (c.Hq k) KC,.int .i64 (c.lim k)] 53))=wp at *;have hKp:K<wp.heap.size:=E0
       go_region_law
        (first
         |(refine FP rfl 53 _ _ _ _ _ _ rfl _ _ _ rfl rfl rfl Tryz.f53 func53 US iR (fun r w'=>∃kb,r=.pointer (Gn ⟨kb,0,Hn⟩)/\Sm wp.heap.size wp w'/\sH wp k (Gn ⟨nb,0,Hn⟩) (c.lim k) (c.Ho k) (c.Hq k) (c.code k) (c.img k) kb w') ?_ ?_
           ·exact(mR _ _ _ _ _ _ _ _ _ _ (c.lim k) wp.drew (SC.out.keep (Ju (Aw.out.trans (TP.out.mono E0)).drew)) (SI.out.keep (Ju (Aw.out.trans (TP.out.mono E0)).drew)) H16.out).mono (fun e w' ⟨kb,h1,h2,h3⟩=>⟨_,h1,kb,rfl,⟨h2.os,h2.tape,h2.output,h2.size,h2.block⟩,h3⟩)
           rintro r wl ⟨kb,rfl,Jv,hcn⟩;have HCN:Hid (sH wp k (Gn ⟨nb,0,Hn⟩) (c.lim k) (c.Ho k) (c.Hq k) (c.code k) (c.img k) kb wl):=hcn;clear hcn;have EB:Hid (Sm wp.heap.size wp wl):=Jv;have yS:wp.heap.size<=wl.heap.size:=Jv.size;have q0:=(EB.out.cell (p:=⟨K,2,Hn⟩) hKp).trans eK;have q0a:(wl.alloc (.cells #[.pointer (Gn ⟨kb,0,Hn⟩)] 143)).cell? ⟨K,2,Hn⟩=Gn u:=((EB.out.alloc yS _).cell (p:=⟨K,2,Hn⟩) hKp).trans eK;clear Jv)
         |(refine Br rfl _ _ 91 rfl (K+1) 143 _ 1 8 underlying91 Wb0 rfl E0 u k xs rfl (xo (xo HO.out TP.out) (EB.out.alloc yS _)) wl.heap.size [.pointer (Gn ⟨kb,0,Hn⟩)] 143 rfl rfl G2 D2 Y1 E0 A1 ?_
           intro g cap wg kq uo jr Av;have HOL:Hid (∀j,j<wr.heap.size->u.ownBlock≠Gn j->wg.heap[j]?=wr.heap[j]?):=(fun j hj Yp=>(uo.block j A1 (fun e=>Yp e.symm)).trans ((heap_alloc_old _ _ E0).trans ((EB.out.block j E0).trans (TP.out.block j hj))));have HOg:Hid (wg.ownsRow (K+1) 143 1 (.slice (Gn ⟨g,0,Hn⟩) (k+1:Nat) cap) (k+1) (xs++[.pointer (Gn ⟨kb,0,Hn⟩)])):=kq;have HSg:Hid (wr.heap.size<=wg.heap.size):=Qm (Qm (by omega:wr.heap.size<=wl.heap.size) P0) uo.size;have HFg:Hid (wg.os=wr.os/\wg.tape=wr.tape/\wg.output=wr.output):=⟨(uo.os.trans EB.out.os).trans TP.out.os,(uo.tape.trans EB.out.tape).trans TP.out.tape,(uo.output.trans EB.out.output).trans TP.out.output⟩;have HRg:Hid (Tn wg K 5 94 (tA v (.int .i64 0) u (.pointer (Gn ⟨nb,0,Hn⟩)) tr)):=z_.out.of_heap (HOL.out K dK (fun e=>by have:=(HO.out.lt K e).1;omega));have HGW:Hid (World.grownBy (wl.alloc (.cells #[.pointer (Gn ⟨kb,0,Hn⟩)] 143)) wg u.ownBlock):=⟨uo.os,uo.tape,uo.output,uo.size,uo.block⟩;clear q0 q0a;have q0:=HRg.out.db0.2.2.1;have zQ:=HRg.out.frozen 2;clear kq uo jr Av))
       all_goals
        have HAl:Sm wl.heap.size wl (wl.alloc (.cells #[.pointer (Gn ⟨kb,0,Hn⟩)] 143)):=(Below.refl _ _).alloc N8 _;have HUo:=xo (xo HO.out TP.out) EB.out;have HKP:Hid (∀x,Kp wl (wg.setCell ⟨K,2,Hn⟩ x)):=fun x=>Kp.step HUo (.inr rfl) ((z_.out.below TP.out dK).below EB.out hKp) HGW.out;have rO:Hid (∃ys,wg.ownsRow (K+1) 100 1 v c.nT ys/\oz w.heap.size c c.nT ys wr):=by
         obtain⟨ys,h1,h2⟩:=HRK.out;have h3:=xo (xo (xo h1 TP.out) EB.out) HAl;exact⟨ys,h3.kept HGW.out (vQ h3 (xo HUo HAl) U0),h2⟩
        clear HAl HUo;have HN:Hid (pD c w K nb v tr (k+1) (wg.setCell ⟨K,2,Hn⟩ (.slice (Gn ⟨g,0,Hn⟩) (k+1:Nat) cap))):=
         ⟨_,_,qN Aw.out HSg.out HFg.out HOL.out (fun j hj=>(HO.out.lt j hj).1) hKw,(HRg.out.L90 _).2.2,ownsRow_setCell_below HOg.out P0 _,HEX.out.keep (((Kp.below TP.out).trans (Kp.below EB.out)).trans (HKP.out _)),(by
          obtain⟨ys,h1,h2⟩:=rO.out;exact⟨ys,ownsRow_setCell_below h1 P0 _,h2.keep (((Kp.below TP.out).trans (Kp.below EB.out)).trans (HKP.out _))⟩),(by
          obtain⟨cv,h1,h2,h3⟩:=HCN.out;exact((((HCK.out.keep (Kp.below TP.out)).keep (Kp.below EB.out)).step (B:=wr.heap.size) (Qm Aw.out.size E0) (fun i j hi hx=>by
           obtain⟨kb',_,h5⟩:=HCK.out;obtain⟨_,h6,_,h7,_⟩:=h5 i hi;rw[h6]at hx;cases hx;exact h7) E0 (m00 HO.out) h2 (qx h3 (Qm Aw.out.size E0)))).keep (HKP.out _))⟩
        have HX5:Hid (Tn (wg.setCell ⟨K,2,Hn⟩ (.slice (Gn ⟨g,0,Hn⟩) (k+1:Nat) cap)) w.heap.size 4 28 (cells4 (.slice (Gn ⟨b,off,Hn⟩) c.nC yp) (.slice p1 c.nT gp) (.slice p2 c.Zo dq) (.slice p3 c.nD Lq))):=
         (HX4.out.of_heap (HOL.out _ hxr (fun e=>by have:=(HO.out.lt _ e).1;omega))).other _ _ A1
        have hK5:K<(wg.setCell ⟨K,2,Hn⟩ (.slice (Gn ⟨g,0,Hn⟩) (k+1:Nat) cap)).heap.size:=by rw[size_setCell];exact HRg.out.lt
        clear q0 zQ;go_wp2_with fail;exact⟨⟨k+1,E0,E1,hK5,HN,HX5⟩,U1⟩
      ·obtain rfl:k=c.nC:=by omega
       clear yo hk;go_wp2_with fail
       go_ret3
       exact⟨_,_,_,rfl,HX.out.place H0.out,Aw.out,.inr ⟨rfl,_,_,_,_,rfl,hKw,u,xs,Aw.out,z_.out,HO.out,HEX.out,HRK.out,HCK.out⟩⟩
 ·have Yp:(x != 0)=true:=by simpa using h0
  have H0:Hid (x≠0):=h0;have HB:Hid (Sm w.heap.size w w1):=Vo Ax.out;clear h0;go_wp2_with fail
  go_ret3
  exact⟨_,x,y,rfl,HX.out,HB.out,.inl ⟨H0.out,rfl⟩⟩
end Go.Proofs.YtdoghgnifkgfdaaGreat
