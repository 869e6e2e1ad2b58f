import Derived.Test.YtdoghgnifkgfdaaGreatP00
import Derived.Test.YtdoghgnifkgfdaaGreatP07
import Derived.Test.YtdoghgnifkgfdaaGreatP08
import Derived.Test.YtdoghgnifkgfdaaGreatP09
import Derived.Test.YtdoghgnifkgfdaaGreatP10
import Derived.Test.YtdoghgnifkgfdaaGreatP11
import Derived.Test.YtdoghgnifkgfdaaGreatP12
set_option maxRecDepth 100000
set_option maxHeartbeats 16000000
open Option renaming none->Ai,some->yi
open Go renaming World->ui,Value->ti,undef->ri
open Bool renaming true->ji,false->gi
namespace Go.Proofs.YtdoghgnifkgfdaaGreat
open Tryz Go.RowKit
def JA(w:ui)(c:vl)(B:Nat)(cb rb:Nat->Nat)(hb db:Nat)(p0:Option Addr)(yj:Nat)(p1:Option Addr)(wj hi Ny:Nat)(v0 v1 v2 v3:ti):Prop:=
 v0=.slice p0 c.nC yj/\c.nC<=yj/\(p0=Ai->c.nC=0/\yj=0)/\Sl w p0 (c.nC*3) (Rm c cb)/\
  v1=.slice p1 c.nT wj/\c.nT<=wj/\(p1=Ai->c.nT=0/\wj=0)/\Sl w p1 c.nT (fun i=>zj gi (rb i) (c.nRow i))/\
  v2=zj c.Jt hb c.qj/\v3=zj c.Ws db c.nD/\Ik w c c.nC B hi cb/\B<=hi/\hi<=Ny/\
  (∀i,i<c.nT->Yu w gi (rb i) (c.nRow i) 2 (c.row i)/\hi<=rb i/\rb i<Ny)/\(∀i j,i<j->j<c.nT->rb i<rb j)/\
  Yu w c.Jt hb c.qj 3 c.ch/\Yu w c.Ws db c.nD 1 c.dv/\(c.Jt=gi->Ny<=hb)/\(c.Ws=gi->Ny<=db)/\(c.Jt=gi->c.Ws=gi->hb<db)
theorem vu.ws{w:ui}{c:vl}{B:Nat}{v0 v1 v2 v3:ti}(h:vu w c B v0 v1 v2 v3):∃cb rb hb db p0 yj p1 wj hi Ny,JA w c B cb rb hb db p0 yj p1 wj hi Ny v0 v1 v2 v3:=h.ex
def SRX(c:vl)(cb rb:Nat->Nat)(yo Zu j:Nat):Prop:=SR c cb rb c.nT j\/(c.Jt=gi/\j=yo)\/(c.Ws=gi/\j=Zu)
theorem B20(c:vl)(v0 v1 v2 v3 o0 o1 o2 o3:ti)(w0 w:ui)(h:Bq w0 v0 v1 v2 v3 c)(hb:Below w0.heap.size w0 w)(cb rb:Nat->Nat)(yo Zu:Nat)(q0:Option Addr)(xB:Nat)(q1:Option Addr)(rI hi Ny:Nat)(hl:JA w c w0.heap.size cb rb yo Zu q0 xB q1 rI hi Ny o0 o1 o2 o3):
  Calls prog 40 #[.agg #[o0,o1,o2,o3],.agg #[v0,v1,v2,v3]] w fun e w'=>e=.returned (.bool ji)/\Below w0.heap.size w0 w'/\ak (SRX c cb rb yo Zu) w w':=by
 obtain⟨rfl,lq0,zq0,sN,rfl,lq1,zq1,sq1,rfl,rfl,Pm,JK,hB2,Nk,QH,yB,hdv,hh1,y_,hh3⟩:=hl;obtain⟨⟨p0,yj,F0,rfl,-,n0,z0,b0,s0,k0⟩,⟨p1,wj,F1,rfl,-,n1,z1,b1,s1,k1⟩,k2,k3⟩:=h;refine dc fun S0 K0 S1 K1=>?_;have K2:Hid (Hu w0 v2 c.Jt c.qj 3 c.ch 24):=k2;have K3:Hid (Hu w0 v3 c.Ws c.nD 1 c.dv 8):=k3;have hb0:c.nC<=2513169434916:=E0;have Zs:c.nT<=5864062014805:=E0;have FD:Hid (Below w0.heap.size w0 w):=hb;have PW:w0.heap.size<=w.heap.size:=hb.size;have Q0:Hid (Sl w q0 (c.nC*3) (Rm c cb)):=sN;have Q1:Hid (Sl w q1 c.nT (fun i=>zj gi (rb i) (c.nRow i))):=sq1;have HI:Hid (Ik w c c.nC w0.heap.size hi cb):=Pm;have HRW:Hid (∀i,i<c.nT->Yu w gi (rb i) (c.nRow i) 2 (c.row i)/\hi<=rb i/\rb i<Ny):=Nk;have HOR:Hid (∀i j,i<j->j<c.nT->rb i<rb j):=QH;have HCH:Hid (Yu w c.Jt yo c.qj 3 c.ch):=yB;have HDV:Hid (Yu w c.Ws Zu c.nD 1 c.dv):=hdv;have HHH:Hid ((c.Jt=gi->Ny<=yo)/\(c.Ws=gi->Ny<=Zu)/\(c.Jt=gi->c.Ws=gi->yo<Zu)):=⟨hh1,y_,hh3⟩;clear s0 k0 s1 k1 k2 k3 n0 z0 n1 z1 b0 b1 hb sN sq1 Pm Nk QH yB hdv hh1 y_ hh3 lq0 lq1 zq0 zq1
 go_enter func40,ntmps40
 go_wp2_with fail
 go_loopw [5,6] (fun o i wr=>∃k:Nat,k<=c.nC/\i=.int .i64 k/\o=.bool ji/\Hid (ak (SC c cb k) w wr)/\Hid (Ei wr w.heap.size 4 28 (cells4 (.slice q0 c.nC xB) (.slice q1 c.nT rI) (zj c.Jt yo c.qj) (zj c.Ws Zu c.nD)))/\Hid (Ei wr (w.heap.size+1) 4 28 (cells4 (.slice p0 c.nC yj) (.slice p1 c.nT wj) v2 v3))) (fun _ i _=>c.nC-(intOf i).toNat)
 case atStart=>
  refine⟨0,Nat.zero_le _,rfl,rfl,ak.of_below (((Below.refl _ _).alloc (Nat.le_refl _) _).alloc P0 _) _,(row4 _ _ _ _ _ _).alloc _,?_⟩;have:=row4 (w.alloc (.cells #[.slice q0 c.nC xB,.slice q1 c.nT rI,zj c.Jt yo c.qj,zj c.Ws Zu c.nD] 28)) (.slice p0 c.nC yj) (.slice p1 c.nT wj) v2 v3 28;show Ei _ _ _ _ _;exact Yc
 case round=>
  obtain⟨k,hk,rfl,rfl,ZK,HO,HC⟩:=hrel;obtain⟨x0,-,-,-⟩:=HO.out.at4;obtain⟨y0,-,-,-⟩:=HC.out.at4;have la0:Hid (∀k j,k<=c.nC->SC c cb k j->w0.heap.size<=j/\j<hi):=fun k j hk ⟨i,hi,h⟩=>by
   have:=HI.out.lo i E0;omega
  by_cases Wi:k<c.nC
  ·obtain⟨bo,oo,rfl,hq⟩:=Q0.out.at E0;have U90:∃p n cc,Rm c cb 0=.slice p n cc:=by
    obtain⟨e,-,-⟩:=Kq c cb 0;simp only[Nat.zero_mul]at e;rw[e];unfold zj;split
    ·exact Jh
    ·exact Jh
   have nS1:∀i,i<c.nC->c.Xl i=gi->bo≠cb i:=fun i hi hn=>by
    obtain⟨ty,hr⟩:=HI.out.code i hi hn;exact RN hq E0 U90 hr
   have nS2:∀i,i<c.nC->c.Yl i=gi->bo≠cb i+1:=fun i hi hn=>by
    obtain⟨ty,hr⟩:=HI.out.img i hi hn;exact RN hq E0 U90 hr
   have nS:¬SC c cb k bo:=fun ⟨i,hi,h⟩=>by
    rcases h with⟨hn,e⟩|⟨hn,e⟩
    ·exact nS1 i E0 hn e
    ·exact nS2 i E0 hn e
   have o0:=ZK.out.cell (hq (k*3) E0) nS;have o1:=ZK.out.cell (hq (k*3+1) E0) nS;obtain⟨ef0,ef1,-⟩:=Kq c cb k;rw[ef0]at o0;rw[ef1,<-Nat.add_assoc]at o1;have Lq:Hid (Below w0.heap.size w0 wr):=ZK.out.below FD.out (fun j hj=>(la0.out k j hk hj).1);obtain⟨b,off,rfl,hc⟩:=(S0.out.below Lq.out).at E0;have c0:=hc (k*3) E0;have c1:=hc (k*3+1) E0;rw[<-Nat.add_assoc]at c1;have z_:b<w0.heap.size:=by
    obtain⟨b',md0,e,Iy⟩:=S0.out.at E0;simp only[Option.some.injEq,Addr.mk.injEq]at e;have:=block_lt_of_cell (Iy 0 E0);simp only at this;omega
   have lok:=HI.out.lo k Wi;have lt1:Hid (c.Xl k=gi->cb k<w.heap.size):=fun hn=>by
    obtain⟨ty,hr⟩:=HI.out.code k Wi hn;exact hr.lt
   have lt2:Hid (c.Yl k=gi->cb k+1<w.heap.size):=fun hn=>by
    obtain⟨ty,hr⟩:=HI.out.img k Wi hn;exact hr.lt
   have HIc:Hid (Yu wr (c.Xl k) (cb k) (c.Zi k) 4 (c.code k)):=(HI.out.code k Wi).keep (fun hn=>ZK.out.block _ (lt1.out hn) (fun ⟨i,hi,h⟩=>by have:=HI.out.ord i k hi Wi;omega));have HIi:Hid (Yu wr (c.Yl k) (cb k+1) (c.Vj k) 1 (c.img k)):=(HI.out.img k Wi).keep (fun hn=>ZK.out.block _ (lt2.out hn) (fun ⟨i,hi,h⟩=>by have:=HI.out.ord i k hi Wi;omega));obtain⟨sz0,sz1,-⟩:=K0.out k Wi;have SZ0:Hid (Hu wr (F0 (k*3)) (c.Xl k) (c.Zi k) 4 (c.code k) 32):=sz0.keep (Yp Lq.out);have SZ1:Hid (Hu w0 (F0 (k*3+1)) (c.Yl k) (c.Vj k) 1 (c.img k) 8):=sz1;generalize F0 (k*3)=u0 at *;generalize F0 (k*3+1)=u1 at *;have nA1:¬(c.Xl k=gi/\w.heap.size=cb k):=fun ⟨hn,e⟩=>by have:=lt1.out hn;omega
   have nA2:¬(c.Xl k=gi/\w.heap.size+1=cb k):=fun ⟨hn,e⟩=>by have:=lt1.out hn;omega
   have nA3:¬(c.Xl k=gi/\bo=cb k):=fun ⟨hn,e⟩=>nS1 k Wi hn e;have nA4:¬(c.Xl k=gi/\b=cb k):=fun ⟨hn,e⟩=>by omega
   have HNA:Hid (_/\_/\_/\_):=⟨nA1,nA2,nA3,nA4⟩;have HNB:Hid (¬(c.Yl k=gi/\bo=cb k+1)):=fun ⟨hn,e⟩=>nS2 k Wi hn e;clear hc sz0 sz1 hq nS1 nS2 nS ef0 ef1 U90 nA1 nA2 nA3 nA4;go_wp2_with fail;go_region_held3 (fun W=>W.cell? ⟨w.heap.size,0,Ai⟩=yi (.slice (yi ⟨bo,oo,Ai⟩) c.nC xB)/\W.cell? ⟨bo,oo+k*3,Ai⟩=yi (zj (c.Xl k) (cb k) (c.Zi k))/\W.cell? ⟨w.heap.size+1,0,Ai⟩=yi (.slice (yi ⟨b,off,Ai⟩) c.nC yj)/\W.cell? ⟨b,off+k*3,Ai⟩=yi u0) (go_keep)
    (first
     |(go_at_call 70;refine(vH _ _ _ _ _ _ (by exact HIc.out) (by exact SZ0.out)).mono ?_;rintro e wc ⟨rfl,Xn⟩;have t0:=Xn.cell (a:=⟨w.heap.size,0,Ai⟩) x0 HNA.out.1;have t1:=Xn.cell (a:=⟨bo,oo+k*3,Ai⟩) o0 HNA.out.2.2.1;have t2:=Xn.cell (a:=⟨w.heap.size+1,0,Ai⟩) y0 HNA.out.2.1;have t3:=Xn.cell (a:=⟨b,off+k*3,Ai⟩) c0 HNA.out.2.2.2))
   refine Lh fun hH hH1=>?_;have QB:Hid (ak (fun j=>c.Xl k=gi/\j=cb k) wr wc):=⟨Xn.os,Xn.tape,Xn.output,Xn.size,Xn.block⟩;have r0:=QB.out.cell (a:=⟨bo,oo+k*3+1,Ai⟩) o1 HNA.out.2.2.1;have r1:=QB.out.cell (a:=⟨b,off+k*3+1,Ai⟩) c1 HNA.out.2.2.2;have HOc:Hid (Ei wc w.heap.size 4 28 (cells4 (.slice (yi ⟨bo,oo,Ai⟩) c.nC xB) (.slice q1 c.nT rI) (zj c.Jt yo c.qj) (zj c.Ws Zu c.nD))):=HO.out.of_heap (QB.out.block _ hH HNA.out.1);have HCc:Hid (Ei wc (w.heap.size+1) 4 28 (cells4 (.slice (yi ⟨b,off,Ai⟩) c.nC yj) (.slice p1 c.nT wj) v2 v3)):=HC.out.of_heap (QB.out.block _ hH1 HNA.out.2.1);have HIw:Hid (Yu wc (c.Yl k) (cb k+1) (c.Vj k) 1 (c.img k)):=HIi.out.keep (fun hn=>QB.out.block _ (by have:=lt2.out hn;omega) (fun ⟨_,e⟩=>E0));have j_:Hid (Below w0.heap.size w0 wc):=QB.out.below Lq.out (fun j hj=>E0);have SZw:Hid (Hu wc u1 (c.Yl k) (c.Vj k) 1 (c.img k) 8):=SZ1.out.keep (Yp j_.out);have mA1:¬(c.Yl k=gi/\w.heap.size=cb k+1):=fun ⟨hn,e⟩=>by have:=lt2.out hn;omega
   have mA2:¬(c.Yl k=gi/\w.heap.size+1=cb k+1):=fun ⟨hn,e⟩=>by have:=lt2.out hn;omega
   have mA4:¬(c.Yl k=gi/\b=cb k+1):=fun ⟨hn,e⟩=>by omega
   have HMA:Hid (_/\_/\_/\_):=⟨mA1,mA2,HNB.out,mA4⟩;clear Xn o0 o1 c0 c1 x0 y0 t1 t3 mA1 mA2 mA4;go_wp2_with fail;go_region_held3 (fun W=>W.cell? ⟨w.heap.size,0,Ai⟩=yi (.slice (yi ⟨bo,oo,Ai⟩) c.nC xB)/\W.cell? ⟨bo,oo+k*3+1,Ai⟩=yi (zj (c.Yl k) (cb k+1) (c.Vj k))/\W.cell? ⟨w.heap.size+1,0,Ai⟩=yi (.slice (yi ⟨b,off,Ai⟩) c.nC yj)/\W.cell? ⟨b,off+k*3+1,Ai⟩=yi u1) (go_keep)
    (first
     |(go_at_call 71;refine(NF _ _ _ _ _ _ (by exact HIw.out) (by exact SZw.out)).mono ?_;rintro e wi ⟨rfl,Xn⟩;have t0:=Xn.cell (a:=⟨w.heap.size,0,Ai⟩) t0 HMA.out.1;have t1:=Xn.cell (a:=⟨bo,oo+k*3+1,Ai⟩) r0 HMA.out.2.2.1;have t2:=Xn.cell (a:=⟨w.heap.size+1,0,Ai⟩) t2 HMA.out.2.1;have t3:=Xn.cell (a:=⟨b,off+k*3+1,Ai⟩) r1 HMA.out.2.2.2))
   have HBI:Hid (ak (fun j=>c.Yl k=gi/\j=cb k+1) wc wi):=⟨Xn.os,Xn.tape,Xn.output,Xn.size,Xn.block⟩;have hsc:wr.heap.size<=wc.heap.size:=QB.out.size;have HOi:Hid (Ei wi w.heap.size 4 28 (cells4 (.slice (yi ⟨bo,oo,Ai⟩) c.nC xB) (.slice q1 c.nT rI) (zj c.Jt yo c.qj) (zj c.Ws Zu c.nD))):=HOc.out.of_heap (HBI.out.block _ E0 HMA.out.1);have HCi:Hid (Ei wi (w.heap.size+1) 4 28 (cells4 (.slice (yi ⟨b,off,Ai⟩) c.nC yj) (.slice p1 c.nT wj) v2 v3)):=HCc.out.of_heap (HBI.out.block _ E0 HMA.out.2.1);have HBF:Hid (ak (SC c cb (k+1)) w wi):=(ZK.out.trans QB.out (U:=SC c cb (k+1)) (fun j ⟨i,hi,h⟩=>⟨i,E0,h⟩) (fun j _ hj=>⟨k,E0,.inl hj⟩)).trans HBI.out (fun j h=>h) (fun j _ hj=>⟨k,E0,.inr hj⟩);clear Xn t0 t1 t2 t3 r0 r1 HOc HCc HIw SZw HIc HIi SZ0 SZ1;go_wp2_with fail;exact⟨⟨k+1,E0,J1,rfl,HBF,HOi,HCi⟩,U1⟩
  ·obtain rfl:k=c.nC:=by omega
   have Hh0:=ZK;have HO0:=HO;have HC0:=HC;clear ZK HO HC x0 Wi hk;go_wp2_with fail;clear y0;go_loopw [5,9] (fun o i wr=>∃k:Nat,k<=c.nT/\i=.int .i64 k/\o=.bool ji/\Hid (ak (SR c cb rb k) w wr)/\Hid (Ei wr w.heap.size 4 28 (cells4 (.slice q0 c.nC xB) (.slice q1 c.nT rI) (zj c.Jt yo c.qj) (zj c.Ws Zu c.nD)))/\Hid (Ei wr (w.heap.size+1) 4 28 (cells4 (.slice p0 c.nC yj) (.slice p1 c.nT wj) v2 v3))) (fun _ i _=>c.nT-(intOf i).toNat)
   case atStart=>exact⟨0,Nat.zero_le _,rfl,rfl,Hh0.out.mono (fun j hj=>.inl hj),HO0,HC0⟩
   case round=>
    obtain⟨k,hk,rfl,rfl,ZK,HO,HC⟩:=hrel;obtain⟨-,x0,-,-⟩:=HO.out.at4;obtain⟨-,y0,-,-⟩:=HC.out.at4;have EM:Hid (∀k j,k<=c.nT->SR c cb rb k j->w0.heap.size<=j/\j<Ny):=fun k j hk h=>by
     rcases h with h|⟨i,hi,rfl⟩
     ·have:=la0.out c.nC j (Nat.le_refl _) h;omega
     ·have:=(HRW.out i E0).2;omega
    have Lq:Hid (Below w0.heap.size w0 wr):=ZK.out.below FD.out (fun j hj=>(EM.out k j hk hj).1);by_cases Wi:k<c.nT
    ·obtain⟨bo,oo,rfl,hq⟩:=Q1.out.at E0;have hqF:∃p n cc,zj gi (rb 0) (c.nRow 0)=.slice p n cc:=⟨_,_,_,rfl⟩;have nS1:∀i,i<c.nC->c.Xl i=gi->bo≠cb i:=fun i hi hn=>by
      obtain⟨ty,hr⟩:=HI.out.code i hi hn;exact RN hq E0 hqF hr
     have nS2:∀i,i<c.nC->c.Yl i=gi->bo≠cb i+1:=fun i hi hn=>by
      obtain⟨ty,hr⟩:=HI.out.img i hi hn;exact RN hq E0 hqF hr
     have nS3:∀i,i<c.nT->bo≠rb i:=fun i hi=>by
      obtain⟨ty,hr⟩:=(HRW.out i hi).1 rfl;exact RN hq E0 hqF hr
     have nS:¬SR c cb rb k bo:=fun h=>by
      rcases h with⟨i,hi,h⟩|⟨i,hi,h⟩
      ·rcases h with⟨hn,e⟩|⟨hn,e⟩
       ·exact nS1 i hi hn e
       ·exact nS2 i hi hn e
      ·exact nS3 i E0 h
     have o0:=ZK.out.cell (hq k Wi) nS;obtain⟨b,off,rfl,hc⟩:=(S1.out.below Lq.out).at E0;have c0:=hc k Wi;have z_:b<w0.heap.size:=by
      obtain⟨b',md0,e,Iy⟩:=S1.out.at E0;simp only[Option.some.injEq,Addr.mk.injEq]at e;have:=block_lt_of_cell (Iy 0 E0);simp only at this;omega
     obtain⟨yr,cs0,xq0⟩:=HRW.out k Wi;have lt1:rb k<w.heap.size:=by
      obtain⟨ty,hr⟩:=yr rfl;exact hr.lt
     have HIc:Hid (Yu wr gi (rb k) (c.nRow k) 2 (c.row k)):=yr.keep (fun hn=>ZK.out.block _ lt1 (fun h=>by
      rcases h with h|⟨i,hi,e⟩
      ·have:=la0.out c.nC _ (Nat.le_refl _) h;omega
      ·have:=HOR.out i k hi Wi;omega))
     have SZ0:Hid (Hu wr (F1 k) (c.jC k) (c.nRow k) 2 (c.row k) 16):=(K1.out k Wi).keep (Yp Lq.out);generalize F1 k=u0 at *;have HNA:Hid (_/\_):=⟨nS3 k Wi,(by omega:b≠rb k)⟩;refine Lh fun hH hH1=>?_;clear hc hq nS1 nS2 nS3 nS hqF yr;go_wp2_with fail;go_region_held3 (fun W=>W.cell? ⟨w.heap.size,1,Ai⟩=yi (.slice (yi ⟨bo,oo,Ai⟩) c.nT rI)/\W.cell? ⟨bo,oo+k,Ai⟩=yi (zj gi (rb k) (c.nRow k))/\W.cell? ⟨w.heap.size+1,1,Ai⟩=yi (.slice (yi ⟨b,off,Ai⟩) c.nT wj)/\W.cell? ⟨b,off+k,Ai⟩=yi u0) (go_keep)
      (first
       |(go_at_call 72;refine(EI _ _ _ _ _ _ (by exact HIc.out) (by exact SZ0.out)).mono ?_;rintro e wc ⟨rfl,Xn⟩;have t0:=Xn.cell (a:=⟨w.heap.size,1,Ai⟩) x0 A1;have t1:=Xn.cell (a:=⟨bo,oo+k,Ai⟩) o0 HNA.out.1;have t2:=Xn.cell (a:=⟨w.heap.size+1,1,Ai⟩) y0 A1;have t3:=Xn.cell (a:=⟨b,off+k,Ai⟩) c0 HNA.out.2))
     have QB:Hid (ak (fun j=>j=rb k) wr wc):=⟨Xn.os,Xn.tape,Xn.output,Xn.size,Xn.block⟩;have HOi:Hid (Ei wc w.heap.size 4 28 (cells4 (.slice q0 c.nC xB) (.slice (yi ⟨bo,oo,Ai⟩) c.nT rI) (zj c.Jt yo c.qj) (zj c.Ws Zu c.nD))):=HO.out.of_heap (QB.out.block _ E0 E0);have HCi:Hid (Ei wc (w.heap.size+1) 4 28 (cells4 (.slice p0 c.nC yj) (.slice (yi ⟨b,off,Ai⟩) c.nT wj) v2 v3)):=HC.out.of_heap (QB.out.block _ E0 E0);have HBF:Hid (ak (SR c cb rb (k+1)) w wc):=ZK.out.trans QB.out (fun j h=>h.elim .inl (fun ⟨i,hi,e⟩=>.inr ⟨i,E0,e⟩)) (fun j _ hj=>.inr ⟨k,E0,hj⟩);clear Xn t0 t1 t2 t3 HIc SZ0 o0 c0 x0 y0;go_wp2_with fail;exact⟨⟨k+1,E0,J1,rfl,HBF,HOi,HCi⟩,U1⟩
    ·obtain rfl:k=c.nT:=by omega
     clear Wi hk x0;obtain⟨p2,cap2,rfl,-,n2,zz2,bb2,ss2⟩:=K2.out;obtain⟨p3,nk,rfl,-,n3,FQ,bb3,ss3⟩:=K3.out;have SS2:Hid (Sl w0 p2 (c.qj*3) (fun j=>.int .i64 (c.ch j))):=ss2;have SS3:Hid (Sl w0 p3 c.nD (fun j=>.int .i64 (c.dv j))):=by show Sl _ _ _ _;rwa [Nat.mul_one]at ss3
     have BB2:Hid (24*c.qj<=140737488355328):=bb2;have BB3:Hid (8*c.nD<=140737488355328):=bb3;refine vf fun Xu JR=>?_;have NN:Hid ((p2=Ai↔c.Jt=ji)/\(p2=Ai->c.qj=0/\cap2=0)/\(p3=Ai↔c.Ws=ji)/\(p3=Ai->c.nD=0/\nk=0)):=⟨n2,zz2,n3,FQ⟩;clear K2 K3 ss2 ss3 bb2 bb3 n2 zz2 n3 FQ;obtain⟨-,-,x2,x3⟩:=HO.out.at4;obtain⟨-,-,y2,y3⟩:=HC.out.at4;refine Lh fun hH hH1=>?_;obtain⟨n2,zz2,n3,FQ⟩:=NN.out;have Uj0:Hid (c.Jt=gi->∃ty,Ei wr yo ((c.qj+2)*3) ty (fun j=>.int .i64 (Pj 3 c.qj c.ch j))):=fun hn=>HCH.out.keep (fun hn=>by
      obtain⟨ty,hr⟩:=HCH.out hn;exact ZK.out.block _ hr.lt (fun h=>by have:=EM.out _ _ (Nat.le_refl _) h;have:=HHH.out.1 hn;omega)) hn
     have Xi0:Hid (c.Ws=gi->∃ty,Ei wr Zu ((c.nD+2)*1) ty (fun j=>.int .i64 (Pj 1 c.nD c.dv j))):=fun hn=>HDV.out.keep (fun hn=>by
      obtain⟨ty,hr⟩:=HDV.out hn;exact ZK.out.block _ hr.lt (fun h=>F7)) hn
     have ltC:Hid (c.Jt=gi->yo<w.heap.size):=fun hn=>by
      obtain⟨ty,hr⟩:=HCH.out hn;exact hr.lt
     have ltD:Hid (c.Ws=gi->Zu<w.heap.size):=fun hn=>by
      obtain⟨ty,hr⟩:=HDV.out hn;exact hr.lt
     cases p2 with
     |none=>
      obtain⟨Bn,rfl⟩:=zz2 rfl;have OC:Hid (c.Jt=ji):=n2.1 rfl;rw[Bn]at y2;clear zz2 n2 Bn;cases p3 with
      |none=>
       obtain⟨AH,rfl⟩:=FQ rfl;rw[AH]at y3;clear FQ n3 AH;go_wp2_with fail;go_ret;exact⟨rfl,ZK.out.below FD.out (fun j hj=>(EM.out _ j (Nat.le_refl _) hj).1),ZK.out.mono (fun j hj=>.inl hj)⟩
      |some q=>
       obtain⟨bq3,oq3,sq3⟩:=q;have LJ:Hid (c.Ws=gi):=by
        show _=_;cases h:c.Ws
        ·rfl
        ·exact absurd (n3.2 h) P0
       clear FQ n3;rw[LJ.out]at x3;have x3':wr.cell? ⟨w.heap.size,3,Ai⟩=yi (.slice (yi ⟨Zu,0,Ai⟩) c.nD (c.nD+2)):=x3;clear x3;have hd1:=ltD.out LJ.out;have hd2:=HHH.out.2.1 LJ.out;have hH3:=hH;have hI3:=hH1;go_wp2_with fail;refine(dC (yi ⟨bq3,oq3,sq3⟩) c.nD nk c.dv _ (SS3.out.below Lq.out) P0 BB3.out).mono ?_;rintro e wA3 ⟨rfl,ov,dm,Jp⟩;have ck0:Hid (wA3.heap.size=wr.heap.size+1):=ov;have Y90:Hid (Ei wA3 wr.heap.size ((c.nD+2)*1) 3 (fun j=>.int .i64 (Pj 1 c.nD c.dv j))):=Jp;have k90:=HO.out.below dm hH3;have ea0:=HC.out.below dm hI3;obtain⟨ty3,dS⟩:=Xi0.out LJ.out;have B60:Zu<wr.heap.size:=dS.lt;have A80:Hid (dk wA3 Zu ((c.nD+2)*1) ty3 0 (fun j=>.int .i64 (Pj 1 c.nD c.dv j))):=dk.of (dS.below dm B60) _;have Ea0:Hid (ak (fun j=>SR c cb rb c.nT j\/j=Zu) w wA3):=ZK.out.trans (ak.of_below dm (fun _=>False)) (fun j hj=>.inl hj) (fun j _ hj=>hj.elim);have mi0:wr.heap.size≠Zu:=E0;clear ov dm Jp dS;go_wp2_with fail;go_loopw [5,16] (fun o i wz=>∃k:Nat,k<=c.nD+2/\i=.int .i64 k/\o=.bool ji/\Hid (ak (fun j=>SR c cb rb c.nT j\/j=Zu) w wz)/\Hid (Ei wz w.heap.size 4 28 (cells4 (.slice q0 c.nC xB) (.slice q1 c.nT rI) (zj c.Jt yo c.qj) (zj c.Ws Zu c.nD)))/\Hid (Ei wz (w.heap.size+1) 4 28 (cells4 (.slice p0 c.nC yj) (.slice p1 c.nT wj) (.slice Ai c.qj 0) (.slice (yi ⟨bq3,oq3,sq3⟩) c.nD nk)))/\Hid (dk wz Zu ((c.nD+2)*1) ty3 (k) (fun j=>.int .i64 (Pj 1 c.nD c.dv j)))/\Hid (Ei wz wr.heap.size ((c.nD+2)*1) 3 (fun j=>.int .i64 (Pj 1 c.nD c.dv j)))) (fun _ i _=>c.nD+2-(intOf i).toNat)
       case atStart=>exact⟨0,Nat.zero_le _,rfl,rfl,Ea0,k90,ea0,A80.out.mono E0,Y90⟩
       case round=>
        revert hrel;revert wr;intro wz3 hrel;obtain⟨k,hk,rfl,rfl,TA,F80,qa0,HF,HV⟩:=hrel;by_cases Wi:k<c.nD+2
        ·skip;have a0:=HF.out.cell (j:=k) E0 E0;have d0:=HV.out.cell (j:=k) E0;have f0:=HF.out.frozen (k);generalize Pj 1 c.nD c.dv (k)=g0 at a0 d0;go_wp2_with fail;go_quiet (fail)
         go_wp2_with fail
         exact⟨⟨k+1,E0,J1,rfl,⟨TA.out.os,TA.out.tape,TA.out.output,by have:=TA.out.size;simpa[size_setCell]using this,fun j hj hn=>by
          rw[heap_setCell_other _ _ _ _ (fun e=>hn (.inr e))];exact TA.out.block j hj hn⟩,((F80.out.drewN _).other _ _ A1),((qa0.out.drewN _).other _ _ A1),((((HF.out.drewN _).mono E0).set _ _ E0):dk _ _ _ _ (k+1) _),((HV.out.drewN _).other _ _ A1)⟩,U1⟩
        ·obtain rfl:k=c.nD+2:=by omega
         clear Wi hk HF HV;go_wp2_with fail;go_ret;exact⟨rfl,TA.out.below FD.out (fun j hj=>hj.elim (fun h=>(EM.out _ j (Nat.le_refl _) h).1) (fun h=>E0)),TA.out.mono (fun j hj=>hj.elim .inl (fun e=>.inr (.inr ⟨LJ.out,e⟩)))⟩
     |some q=>
      obtain⟨bq2,oq2,sq2⟩:=q;have OC:Hid (c.Jt=gi):=by
       show _=_;cases h:c.Jt
       ·rfl
       ·exact absurd (n2.2 h) P0
      clear zz2 n2;rw[OC.out]at x2;have x2':wr.cell? ⟨w.heap.size,2,Ai⟩=yi (.slice (yi ⟨yo,0,Ai⟩) c.qj (c.qj+2)):=x2;clear x2;have xN:=ltC.out OC.out;have MF:=HHH.out.1 OC.out;have hH2:=hH;have hI2:=hH1;go_wp2_with fail;refine(MK (yi ⟨bq2,oq2,sq2⟩) c.qj cap2 c.ch _ (SS2.out.below Lq.out) P0 BB2.out).mono ?_;rintro e wA2 ⟨rfl,ov,dm,Jp⟩;have Ys0:Hid (wA2.heap.size=wr.heap.size+1):=ov;have Ph0:Hid (Ei wA2 wr.heap.size ((c.qj+2)*3) 138 (fun j=>.int .i64 (Pj 3 c.qj c.ch j))):=Jp;have bj0:=HO.out.below dm hH2;have Kj0:=HC.out.below dm hI2;obtain⟨ty2,s90⟩:=Uj0.out OC.out;have Bh0:yo<wr.heap.size:=s90.lt;have nk0:Hid (dk wA2 yo ((c.qj+2)*3) ty2 0 (fun j=>.int .i64 (Pj 3 c.qj c.ch j))):=dk.of (s90.below dm Bh0) _;have vi0:Hid (ak (fun j=>SR c cb rb c.nT j\/j=yo) w wA2):=ZK.out.trans (ak.of_below dm (fun _=>False)) (fun j hj=>.inl hj) (fun j _ hj=>hj.elim);have aq0:wr.heap.size≠yo:=E0;clear ov dm Jp s90;go_wp2_with fail;go_loopw [5,13] (fun o i wz=>∃k:Nat,k<=c.qj+2/\i=.int .i64 k/\o=.bool ji/\Hid (ak (fun j=>SR c cb rb c.nT j\/j=yo) w wz)/\Hid (Ei wz w.heap.size 4 28 (cells4 (.slice q0 c.nC xB) (.slice q1 c.nT rI) (zj c.Jt yo c.qj) (zj c.Ws Zu c.nD)))/\Hid (Ei wz (w.heap.size+1) 4 28 (cells4 (.slice p0 c.nC yj) (.slice p1 c.nT wj) (.slice (yi ⟨bq2,oq2,sq2⟩) c.qj cap2) (.slice p3 c.nD nk)))/\Hid (dk wz yo ((c.qj+2)*3) ty2 (k*3) (fun j=>.int .i64 (Pj 3 c.qj c.ch j)))/\Hid (Ei wz wr.heap.size ((c.qj+2)*3) 138 (fun j=>.int .i64 (Pj 3 c.qj c.ch j)))) (fun _ i _=>c.qj+2-(intOf i).toNat)
      case atStart=>exact⟨0,Nat.zero_le _,rfl,rfl,vi0,bj0,Kj0,nk0.out.mono E0,Ph0⟩
      case round=>
       revert hrel;revert wr;intro wz2 hrel;obtain⟨k,hk,rfl,rfl,xJ,Z50,L40,HF,HV⟩:=hrel;by_cases Wi:k<c.qj+2
       ·skip;have a0:=HF.out.cell (j:=k*3) E0 E0;have d0:=HV.out.cell (j:=k*3) E0;have f0:=HF.out.frozen (k*3);have a1:=HF.out.cell (j:=k*3+1) E0 E0;have d1:=HV.out.cell (j:=k*3+1) E0;have f1:=HF.out.frozen (k*3+1);have a2:=HF.out.cell (j:=k*3+2) E0 E0;have d2:=HV.out.cell (j:=k*3+2) E0;have f2:=HF.out.frozen (k*3+2);generalize Pj 3 c.qj c.ch (k*3)=g0 at a0 d0;generalize Pj 3 c.qj c.ch (k*3+1)=g1 at a1 d1;generalize Pj 3 c.qj c.ch (k*3+2)=g2 at a2 d2;go_wp2_with fail;go_quiet (fail)
        go_wp2_with fail
        exact⟨⟨k+1,E0,J1,rfl,⟨xJ.out.os,xJ.out.tape,xJ.out.output,by have:=xJ.out.size;simpa[size_setCell]using this,fun j hj hn=>by
         rw[heap_setCell_other _ _ _ _ (fun e=>hn (.inr e)),heap_setCell_other _ _ _ _ (fun e=>hn (.inr e)),heap_setCell_other _ _ _ _ (fun e=>hn (.inr e))];exact xJ.out.block j hj hn⟩,((((Z50.out.drewN _).other _ _ A1).other _ _ A1).other _ _ A1),((((L40.out.drewN _).other _ _ A1).other _ _ A1).other _ _ A1),((((((HF.out.drewN _).mono E0).set _ _ E0).set _ _ E0).set _ _ E0):dk _ _ _ _ ((k+1)*3) _),((((HV.out.drewN _).other _ _ A1).other _ _ A1).other _ _ A1)⟩,U1⟩
       ·obtain rfl:k=c.qj+2:=by omega
        clear Wi hk HF HV;have HBz:Hid (Below w0.heap.size w0 wz2):=xJ.out.below FD.out (fun j hj=>hj.elim (fun h=>(EM.out _ j (Nat.le_refl _) h).1) (fun h=>E0));have ti0:Hid (c.Ws=gi->∃ty,Ei wz2 Zu ((c.nD+2)*1) ty (fun j=>.int .i64 (Pj 1 c.nD c.dv j))):=fun hn=>HDV.out.keep (fun hn=>by
         obtain⟨ty,hr⟩:=HDV.out hn;exact xJ.out.block _ hr.lt (fun h=>h.elim (fun h=>F7) (fun h=>by have:=HHH.out.2.2 OC.out hn;omega))) hn
        obtain⟨-,-,-,u3⟩:=Z50.out.at4;obtain⟨-,-,-,v3'⟩:=L40.out.at4;have hHz:w.heap.size<wz2.heap.size:=Z50.out.lt;have Fh0:w.heap.size+1<wz2.heap.size:=L40.out.lt;clear x2' x3 y2 y3;cases p3 with
        |none=>
         obtain⟨AH,rfl⟩:=FQ rfl;rw[AH]at v3';clear FQ n3 AH;go_wp2_with fail;go_ret;exact⟨rfl,xJ.out.below FD.out (fun j hj=>hj.elim (fun h=>(EM.out _ j (Nat.le_refl _) h).1) (fun h=>E0)),xJ.out.mono (fun j hj=>hj.elim .inl (fun e=>.inr (.inl ⟨OC.out,e⟩)))⟩
        |some q=>
         obtain⟨bq3,oq3,sq3⟩:=q;have LJ:Hid (c.Ws=gi):=by
          show _=_;cases h:c.Ws
          ·rfl
          ·exact absurd (n3.2 h) P0
         clear FQ n3;rw[LJ.out]at u3;have x3':wz2.cell? ⟨w.heap.size,3,Ai⟩=yi (.slice (yi ⟨Zu,0,Ai⟩) c.nD (c.nD+2)):=u3;clear u3;have hd1:=ltD.out LJ.out;have hd2:=HHH.out.2.1 LJ.out;have hH3:=hHz;have hI3:=Fh0;go_wp2_with fail;refine(dC (yi ⟨bq3,oq3,sq3⟩) c.nD nk c.dv _ (SS3.out.below HBz.out) P0 BB3.out).mono ?_;rintro e wA3 ⟨rfl,ov,dm,Jp⟩;have ck0:Hid (wA3.heap.size=wz2.heap.size+1):=ov;have Y90:Hid (Ei wA3 wz2.heap.size ((c.nD+2)*1) 3 (fun j=>.int .i64 (Pj 1 c.nD c.dv j))):=Jp;have k90:=Z50.out.below dm hH3;have ea0:=L40.out.below dm hI3;obtain⟨ty3,dS⟩:=ti0.out LJ.out;have B60:Zu<wz2.heap.size:=dS.lt;have A80:Hid (dk wA3 Zu ((c.nD+2)*1) ty3 0 (fun j=>.int .i64 (Pj 1 c.nD c.dv j))):=dk.of (dS.below dm B60) _;have Ea0:Hid (ak (fun j=>(SR c cb rb c.nT j\/j=yo)\/j=Zu) w wA3):=xJ.out.trans (ak.of_below dm (fun _=>False)) (fun j hj=>.inl hj) (fun j _ hj=>hj.elim);have mi0:wz2.heap.size≠Zu:=E0;clear ov dm Jp dS;go_wp2_with fail;go_loopw [5,16] (fun o i wz=>∃k:Nat,k<=c.nD+2/\i=.int .i64 k/\o=.bool ji/\Hid (ak (fun j=>(SR c cb rb c.nT j\/j=yo)\/j=Zu) w wz)/\Hid (Ei wz w.heap.size 4 28 (cells4 (.slice q0 c.nC xB) (.slice q1 c.nT rI) (zj c.Jt yo c.qj) (zj c.Ws Zu c.nD)))/\Hid (Ei wz (w.heap.size+1) 4 28 (cells4 (.slice p0 c.nC yj) (.slice p1 c.nT wj) (.slice (yi ⟨bq2,oq2,sq2⟩) c.qj cap2) (.slice (yi ⟨bq3,oq3,sq3⟩) c.nD nk)))/\Hid (dk wz Zu ((c.nD+2)*1) ty3 (k) (fun j=>.int .i64 (Pj 1 c.nD c.dv j)))/\Hid (Ei wz wz2.heap.size ((c.nD+2)*1) 3 (fun j=>.int .i64 (Pj 1 c.nD c.dv j)))) (fun _ i _=>c.nD+2-(intOf i).toNat)
         case atStart=>exact⟨0,Nat.zero_le _,rfl,rfl,Ea0,k90,ea0,A80.out.mono E0,Y90⟩
         case round=>
          revert hrel;revert wr;intro wz3 hrel;obtain⟨k,hk,rfl,rfl,TA,F80,qa0,HF,HV⟩:=hrel;by_cases Wi:k<c.nD+2
          ·skip;have a0:=HF.out.cell (j:=k) E0 E0;have d0:=HV.out.cell (j:=k) E0;have f0:=HF.out.frozen (k);generalize Pj 1 c.nD c.dv (k)=g0 at a0 d0;go_wp2_with fail;go_quiet (fail)
           go_wp2_with fail
           exact⟨⟨k+1,E0,J1,rfl,⟨TA.out.os,TA.out.tape,TA.out.output,by have:=TA.out.size;simpa[size_setCell]using this,fun j hj hn=>by
            rw[heap_setCell_other _ _ _ _ (fun e=>hn (.inr e))];exact TA.out.block j hj hn⟩,((F80.out.drewN _).other _ _ A1),((qa0.out.drewN _).other _ _ A1),((((HF.out.drewN _).mono E0).set _ _ E0):dk _ _ _ _ (k+1) _),((HV.out.drewN _).other _ _ A1)⟩,U1⟩
          ·obtain rfl:k=c.nD+2:=by omega
           clear Wi hk HF HV;go_wp2_with fail;go_ret;exact⟨rfl,TA.out.below FD.out (fun j hj=>hj.elim (fun h=>h.elim (fun h=>(EM.out _ j (Nat.le_refl _) h).1) (fun h=>E0)) (fun h=>E0)),TA.out.mono (fun j hj=>hj.elim (fun h=>h.elim .inl (fun e=>.inr (.inl ⟨OC.out,e⟩))) (fun e=>.inr (.inr ⟨LJ.out,e⟩)))⟩
theorem SX(x y:Int)(w:ui):Calls prog 114 #[.int .i64 2,.int .i64 x,.int .i64 y] w fun e w'=>e=.returned (.tuple #[.int .i64 (wrap64 (x+y)),.bool ji])/\w'=w:=by
 exact jb
theorem LX(x y:Int)(w:ui):Calls prog 114 #[.int .i64 3,.int .i64 x,.int .i64 y] w fun e w'=>e=.returned (.tuple #[.int .i64 (wrap64 (x-y)),.bool ji])/\w'=w:=by
 exact jb
theorem oY(x y:Int)(w:ui):Calls prog 114 #[.int .i64 4,.int .i64 x,.int .i64 y] w fun e w'=>e=.returned (.tuple #[.int .i64 (wrap64 (x*y)),.bool ji])/\w'=w:=by
 exact jb
theorem vR(x:Int)(w:ui):Calls prog 114 #[.int .i64 5,.int .i64 x,.int .i64 0] w fun e w'=>e=.returned (.tuple #[.int .i64 0,.bool gi])/\w'=w:=by
 exact jb
theorem aX(x:Int)(w:ui):Calls prog 114 #[.int .i64 5,.int .i64 x,.int .i64 (-1)] w fun e w'=>e=.returned (.tuple #[.int .i64 (wrap64 (-x)),.bool ji])/\w'=w:=by
 exact jb
theorem FV(x y:Int)(w:ui)(h0:(y==0)=gi)(h1:(y==-1)=gi):Calls prog 114 #[.int .i64 5,.int .i64 x,.int .i64 y] w fun e w'=>e=.returned (.tuple #[.int .i64 (wrap64 (x.tdiv y)),.bool ji])/\w'=w:=by
 go_enter func114,ntmps114
 go_wp2_with fail
 ·rename_i hy
  rw[hy]at h0;cases h0
 ·go_ret2
  exact⟨rfl,rfl⟩
open Go
theorem c50{A:ui}{M:Array ti}{n G ty:Nat}{f:Nat->ti}(hG:A.heap.size=G)(hs:M.size=n)(hM:∀j,j<n->M[j]?=yi (f j)):Ei (A.alloc (.cells M ty)) G n ty f:=by
 subst hG;rw[<-hs];exact Ei.new A M _ _ (fun j hj=>hM j E0)
theorem rK{P:Program}(t e:TypeId)(z:ti)(size bytes n:Nat)(ht:P.underlying t=yi (.slice e))(Xr:(P.info? e).map (fun i=>(i.zero,i.size,i.bytes))=yi (yi z,size,bytes))(hb:bytes*n<=281474976710656)(hn:n<=9223372036854775807):
  ∃MC:Array ti,MC.size=n*size/\(∀j,j<n*size->MC[j]?=yi (z.cells[j%z.cells.size]!))/\∀W:ui,(Instr.makeSlice t (.int .i64 n) (.int .i64 n)).run P W=.ok (.slice (yi ⟨W.heap.size,0,Ai⟩) n n) (W.alloc (.cells MC e)):=by
 obtain⟨i,h2,h3,h4,h5⟩:=info_parts Xr;subst h4 h5;refine⟨madeCells z.cells (n*i.size),size_madeCells _ _,fun j hj=>by simp[madeCells,hj],fun W=>?_⟩;have uk:(i.bytes:Int)*(n:Int)<=281474976710656:=by
  have h:((i.bytes*n:Nat):Int)<=281474976710656:=E0;rwa [Int.natCast_mul]at h
 exact Gf
section
variable {w:ui}{base e size n cap g:Nat}{xs:List ti}
theorem Am(h:w.ownsRow base e size (.slice (yi ⟨g,0,Ai⟩) n cap) n xs){j:Nat}{u:ti}(hx:xs[j]?=yi u):w.cell? ⟨g,j,Ai⟩=yi u:=by
 have:=h.cells (g:=g) rfl j u hx;rwa [Addr.add_lit,Nat.zero_add]at this
end
theorem kX{w:ui}{g t:Nat}{a b c:ti}(h:Ei w g 3 t (cells3 a b c)):w.heap[g]?=yi (.cells #[a,b,c] t (0,0)):=by
 obtain⟨cs,h1,h2,h3⟩:=h;rw[h1];congr 2;apply Array.ext
 ·simp[h2]
 ·intro j hj Vs;have:=h3 j E0;rw[Array.getElem?_eq_getElem hj]at this;have e:=Option.some.inj this;rw[e];have:j=0\/j=1\/j=2:=by omega
  rcases this with rfl|rfl|rfl<;>rfl
theorem XA:(prog.info? 63).map (·.size)=yi 3:=J0
theorem Xt{P:Program}{fn:Func}{p u:Tmp}{ty:TypeId}(h:fn.results=#[.cell p ty,.tmp u])(tmps:Array ti)(w:ui)(g:Nat)(t:TypeId)(cs:Array ti)(fr:Nat×Nat)(d:TypeDesc)
  (hp:tmps.getD p ri=.pointer (yi ⟨g,0,Ai⟩))(hg:w.heap[g]?=yi (.cells cs t fr))
  (hu:P.underlying ty=yi d)(hd:(match d with|.struct _|.array _ _=>ji|_=>gi)=ji)(hi:(P.info? ty).map (·.size)=yi cs.size):
  (results fn tmps).run P w=.ok (.tuple #[.agg cs,tmps.getD u ri]) w:=by
 have yO:tmps[p]?.getD ri=.pointer (yi ⟨g,0,Ai⟩):=by simpa using hp
 rw[results_cell_tmp h];simp[yO,asAddr,run_loadVar_row w g t ty cs fr d hg hu hd hi,Result.andThen]
theorem gA(kb nC cC:Nat)(q:Option Addr)(cell:Int)(w:ui)(h2:w.cell? ⟨kb,2,Ai⟩=yi (.slice q nC cC)):
  Calls prog 28 #[.pointer (yi ⟨kb,0,Ai⟩),.int .i64 cell] w fun e w'=>e=.returned (.bool (decide (0<=cell/\cell<nC)))/\w'=w:=by
 by_cases h0:0<=cell
 ·go_enter func28,ntmps28
  go_wp2_with fail
  go_ret;exact⟨by congr 1;simp;omega,rfl⟩
 ·go_enter func28,ntmps28
  go_wp2_with fail
  go_ret;exact⟨by congr 2;simp;omega,rfl⟩
theorem T_(kb nC cC:Nat)(q:Option Addr)(cell:Int)(w:ui)(h2:w.cell? ⟨kb,2,Ai⟩=yi (.slice q nC cC))(hc:¬(0<=cell/\cell<nC)):
  Calls prog 33 #[.pointer (yi ⟨kb,0,Ai⟩),.int .i64 cell] w fun e w'=>e=.returned (.tuple #[.slice Ai 0 0,.int .i64 7])/\w'=w:=by
 have hd:decide (0<=cell/\cell<nC)=false:=by simpa using hc
 go_enter func33,ntmps33
 exact Ue
theorem g_(kb nC cC:Nat)(q:Option Addr)(cell:Int)(w:ui)(h2:w.cell? ⟨kb,2,Ai⟩=yi (.slice q nC cC))(hc:¬(0<=cell/\cell<nC)):
  Calls prog 34 #[.pointer (yi ⟨kb,0,Ai⟩),.int .i64 cell] w fun e w'=>e=.returned (.tuple #[.slice Ai 0 0,.int .i64 7])/\w'=w:=by
 have hd:decide (0<=cell/\cell<nC)=false:=by simpa using hc
 go_enter func34,ntmps34
 exact Ue
theorem B10(kb nC cC:Nat)(q:Option Addr)(cell:Int)(w:ui)(h2:w.cell? ⟨kb,2,Ai⟩=yi (.slice q nC cC))(hc:¬(0<=cell/\cell<nC)):
  Calls prog 35 #[.pointer (yi ⟨kb,0,Ai⟩),.int .i64 cell] w fun e w'=>e=.returned (.tuple #[.agg #[.int .i64 0,.int .i64 0,.bool gi],.int .i64 7])/\Below w.heap.size w w':=by
 have hd:decide (0<=cell/\cell<nC)=false:=by simpa using hc
 refine U8 fun HA=>?_;have Wi:=block_lt_of_cell h2
 go_enter func35,ntmps35
 go_wp2_with fail
 refine(gA kb nC cC q cell _ (((HA.out _).cell (p:=⟨kb,2,Ai⟩) Wi).trans h2)).mono ?_;rintro e w1 ⟨rfl,rfl⟩;rw[hd];go_wp2_with fail
 (try simp only[Exit.inBlock,Exit.then])
 refine bodyPost_ret (Xt (P:=prog) rfl _ _ w.heap.size 63 #[.int .i64 0,.int .i64 0,.bool gi] (0,0) _ rfl (heap_alloc_new w _) underlying63 rfl XA) rfl ?_;exact⟨rfl,HA.out _⟩
theorem JZ(kb T nC cT cC cell m:Nat)(q:Option Addr)(v:ti)(tz:Nat->Int)(w:ui)(h2:w.cell? ⟨kb,2,Ai⟩=yi (.slice q nC cC))(h4:w.cell? ⟨kb,4,Ai⟩=yi (.slice (yi ⟨T,0,Ai⟩) nC cT))(ht:w.cell? ⟨T,cell,Ai⟩=yi v)
  (hv:w.ownsRow 0 111 3 v m ((List.range (m*3)).map fun j=>.int .i64 (tz j)))(hc:cell<nC)(hb:24*m<=140737488355328):
  Calls prog 33 #[.pointer (yi ⟨kb,0,Ai⟩),.int .i64 cell] w fun e w'=>∃u,e=.returned (.tuple #[u,.int .i64 0])/\Below w.heap.size w w'/\w'.ownsRow w.heap.size 111 3 u m ((List.range (m*3)).map fun j=>.int .i64 (tz j)):=by
 have hd:decide (0<=(cell:Int)/\(cell:Int)<nC)=true:=by simp;omega
 have FC:(cell:Int)<(nC:Int):=E0;obtain⟨p,cap,rfl,-,hz,hs⟩:=Vx hv;have HS:Hid (Sl w p (m*3) fun j=>.int .i64 (tz j)):=hs;have HZ:Hid (p=Ai->m=0/\cap=0):=hz;clear hv hs hz
 go_enter func33,ntmps33
 go_wp2_with fail
 refine(gA kb nC cC q cell _ h2).mono ?_;rintro e w1 ⟨rfl,rfl⟩;rw[hd];go_wp2_with fail;refine(NP p m cap tz _ HS.out HZ.out hb).mono ?_;exact Md
theorem uH(g:Nat)(num:Int)(net code:ti)(z:Nat->Int)(w:ui)(hr:Ei w g 48 186 (cellV num net code z)):
  Calls prog 61 #[.pointer (yi ⟨g,0,Ai⟩)] w fun e w'=>∃u,e=.returned u/\Below w.heap.size w w'/\w'.ownsRow w.heap.size 2 1 u 16 ((List.range 16).map fun j=>.int .i64 (z (29+j))):=by
 have HS:Hid (Sl w (yi ⟨g,29,Ai⟩) (16*1) fun j=>.int .i64 (z (29+j))):=.inr ⟨g,29,rfl,fun j hj=>by
  rw[hr.cell E0];unfold cellV;rw[if_neg E0,if_neg E0,if_neg E0]⟩
 clear hr
 go_enter func61,ntmps61
 go_wp2_with fail
 refine(ZM (yi ⟨g,29,Ai⟩) 16 16 (fun j=>z (29+j)) _ HS.out (fun h=>V3) E0).mono ?_;rintro e w' ⟨u,rfl,h1,h2⟩;have H1:Hid _:=h1;have H2:Hid _:=h2;obtain⟨pu,mu,cu,rfl⟩:=kr h2;clear h1 h2;go_wp2_with fail;go_ret;exact⟨_,rfl,H1.out,H2.out⟩
theorem KR(kb C g nC cC cell:Nat)(num:Int)(net code:ti)(z:Nat->Int)(w:ui)(h2:w.cell? ⟨kb,2,Ai⟩=yi (.slice (yi ⟨C,0,Ai⟩) nC cC))(hp:w.cell? ⟨C,cell,Ai⟩=yi (.pointer (yi ⟨g,0,Ai⟩)))(hr:Ei w g 48 186 (cellV num net code z))(hc:cell<nC):
  Calls prog 34 #[.pointer (yi ⟨kb,0,Ai⟩),.int .i64 cell] w fun e w'=>∃u,e=.returned (.tuple #[u,.int .i64 0])/\Below w.heap.size w w'/\w'.ownsRow w.heap.size 2 1 u 16 ((List.range 16).map fun j=>.int .i64 (z (29+j))):=by
 have hd:decide (0<=(cell:Int)/\(cell:Int)<nC)=true:=by simp;omega
 have FC:(cell:Int)<(nC:Int):=E0;have HR:Hid (Ei w g 48 186 (cellV num net code z)):=hr;clear hr
 go_enter func34,ntmps34
 go_wp2_with fail
 refine(gA kb nC cC _ cell _ h2).mono ?_;rintro e w1 ⟨rfl,rfl⟩;rw[hd];go_wp2_with fail;refine(uH g num net code z _ HR.out).mono ?_;exact Md
theorem SN(g:Nat)(a b:Int)(w:ui)(h47:w.cell? ⟨g,47,Ai⟩=yi (.int .i64 a))(h3:w.cell? ⟨g,3,Ai⟩=yi (.int .i64 b)):
  Calls prog 86 #[.pointer (yi ⟨g,0,Ai⟩)] w fun e w'=>e=.returned (.bool (decide (b<a)))/\w'=w.drew:=by
 go_enter func86,ntmps86
 go_wp2_with fail
 go_region_held3 (fun W=>W.cell? ⟨g,47,Ai⟩=yi (.int .i64 a)/\W.cell? ⟨g,3,Ai⟩=yi (.int .i64 b)) (go_keep) (fail)
 exact Wc
theorem NJ(g:Nat)(a b c:Int)(w:ui)(h46:w.cell? ⟨g,46,Ai⟩=yi (.int .i64 c))(h47:w.cell? ⟨g,47,Ai⟩=yi (.int .i64 a))(h3:w.cell? ⟨g,3,Ai⟩=yi (.int .i64 b)):
  Calls prog 62 #[.pointer (yi ⟨g,0,Ai⟩)] w fun e w'=>e=.returned (.agg #[.int .i64 c,.int .i64 a,.bool (decide (b<a))])/\Below w.heap.size w w':=by
 refine U8 fun HA=>?_;have Wi:g<w.heap.size:=block_lt_of_cell h46;have Jj:g≠w.heap.size:=E0;have A47:Hid (∀o,(w.alloc o).cell? ⟨g,47,Ai⟩=yi (.int .i64 a)):=fun o=>((HA.out o).cell (p:=⟨g,47,Ai⟩) Wi).trans h47;have A3:Hid (∀o,(w.alloc o).cell? ⟨g,3,Ai⟩=yi (.int .i64 b)):=fun o=>((HA.out o).cell (p:=⟨g,3,Ai⟩) Wi).trans h3
 go_enter func62,ntmps62
 go_wp2_with fail
 go_region_held3 (fun W=>W.cell? ⟨g,46,Ai⟩=yi (.int .i64 c)/\W.cell? ⟨g,47,Ai⟩=yi (.int .i64 a)/\W.cell? ⟨g,3,Ai⟩=yi (.int .i64 b)) (go_keep)
  (first
   |(go_at_call 86
     refine(SN g a b _ (by exact A47.out _) (by exact A3.out _)).mono ?_;rintro e wl ⟨rfl,rfl⟩))
 go_wp2_with fail
 (try simp only[Exit.inBlock,Exit.then])
 refine bodyPost_ret (results_cell_row (P:=prog) rfl _ _ w.heap.size 63 #[.int .i64 c,.int .i64 a,.bool (decide (b<a))] (0,0) _ rfl (by exact heap_alloc_new w _) underlying63 rfl XA) rfl ?_;exact⟨rfl,(HA.out _).drew.drew⟩
theorem VZ(kb C g nC cC cell:Nat)(num:Int)(net code:ti)(z:Nat->Int)(w:ui)(h2:w.cell? ⟨kb,2,Ai⟩=yi (.slice (yi ⟨C,0,Ai⟩) nC cC))(hp:w.cell? ⟨C,cell,Ai⟩=yi (.pointer (yi ⟨g,0,Ai⟩)))(hr:Ei w g 48 186 (cellV num net code z))(hc:cell<nC):
  Calls prog 35 #[.pointer (yi ⟨kb,0,Ai⟩),.int .i64 cell] w fun e w'=>e=.returned (.tuple #[.agg #[.int .i64 (z 46),.int .i64 (z 47),.bool (decide (z 3<z 47))],.int .i64 0])/\Below w.heap.size w w':=by
 have hd:decide (0<=(cell:Int)/\(cell:Int)<nC)=true:=by simp;omega
 have FC:(cell:Int)<(nC:Int):=E0;refine U8 fun HA=>?_;have l2:kb<w.heap.size:=block_lt_of_cell h2;have lC:C<w.heap.size:=block_lt_of_cell hp;have A2:Hid (∀o,(w.alloc o).cell? ⟨kb,2,Ai⟩=yi (.slice (yi ⟨C,0,Ai⟩) nC cC)):=fun o=>((HA.out o).cell (p:=⟨kb,2,Ai⟩) l2).trans h2;have n2:kb≠w.heap.size:=E0;have nC':C≠w.heap.size:=E0;have HR:Hid (∀o,Ei (w.alloc o) g 48 186 (cellV num net code z)):=fun o=>hr.alloc o;clear hr
 go_enter func35,ntmps35
 go_wp2_with fail
 refine(gA kb nC cC _ cell _ (A2.out _)).mono ?_;rintro e w1 ⟨rfl,rfl⟩;rw[hd];go_wp2_with fail;refine(NJ g (z 47) (z 3) (z 46) _ ((HR.out _).cell E0) ((HR.out _).cell E0) ((HR.out _).cell E0)).mono ?_;rintro e w' ⟨rfl,h1⟩;have H1:Hid (Below w.heap.size w w'):=(HA.out _).trans (h1.mono P0);have HW:Hid (Ei w' w.heap.size 3 63 (cells3 (.int .i64 0) (.int .i64 0) (.bool gi))):=(row3 w _ _ _ _).of_heap (h1.block _ P0);have b0:=HW.out.at3.1;have b1:=HW.out.at3.2.1;have b2:=HW.out.at3.2.2;have f0:=HW.out.frozen 0;have f1:=HW.out.frozen 1;have f2:=HW.out.frozen 2;clear h1;go_wp2_with fail;have HF:=kX ((((HW.out.mR (.int .i64 (z 46))).1.mR (.int .i64 (z 47))).2.1.mR (.bool (decide (z 3<z 47)))).2.2)
 (try simp only[Exit.inBlock,Exit.then])
 refine bodyPost_ret (Xt (P:=prog) rfl _ _ w.heap.size 63 #[.int .i64 (z 46),.int .i64 (z 47),.bool (decide (z 3<z 47))] (0,0) _ rfl (by exact HF) underlying63 rfl XA) rfl ?_;exact⟨rfl,((H1.out.setCell P0 _).setCell P0 _).setCell P0 _⟩
end Go.Proofs.YtdoghgnifkgfdaaGreat
