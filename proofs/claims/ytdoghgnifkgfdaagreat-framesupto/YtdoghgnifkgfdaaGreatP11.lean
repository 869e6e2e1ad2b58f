import Derived.Test.YtdoghgnifkgfdaaGreatP00
import Derived.Test.YtdoghgnifkgfdaaGreatP07
import Derived.Test.YtdoghgnifkgfdaaGreatP10
set_option maxRecDepth 100000
set_option maxHeartbeats 16000000
open Option renaming none->Ai,some->yi
open Go renaming World->ui,Value->ti,undef->ri
open Bool renaming true->ji,false->gi
namespace Go.Proofs.YtdoghgnifkgfdaaGreat
open Tryz Go.RowKit
def jw(z:Nat->Int):Nat->List ti
 |0=>[]
 |k+1=>jw z k++[.int .i64 (z (k*3+1)),.int .i64 (z (k*3+2))]
def Zo:Nat->List ti
 |0=>[]
 |k+1=>Zo k++[.slice Ai 0 0,.slice Ai 0 0,.int .i64 0]
def Tm:Nat->List ti
 |0=>[]
 |k+1=>Tm k++[.int .i64 0,.int .i64 (-1),.int .i64 0,.bool gi]
def jG(w:ui)(K:Nat)(z:Nat->Int)(k:Nat)(wr:ui):Prop:=
 ∃ve vq vs,Below w.heap.size w wr/\Ei wr K 3 149 (cells3 ve vq vs)/\wr.ownsRow (K+1) 151 2 ve k (jw z k)/\
  wr.ownsRow (K+1) 156 3 vq k (Zo k)/\wr.ownsRow (K+1) 158 4 vs k (Tm k)
theorem QV:(prog.info? 151).map (fun i=>(i.zero,i.size,i.bytes))=yi (yi (.agg #[.int .i64 0,.int .i64 0]),2,16):=J0
theorem ZT:(prog.info? 156).map (fun i=>(i.zero,i.size,i.bytes))=yi (yi (.agg #[.slice Ai 0 0,.slice Ai 0 0,.int .i64 0]),3,56):=J0
theorem OO:(prog.info? 158).map (fun i=>(i.zero,i.size,i.bytes))=yi (yi (.agg #[.int .i64 0,.int .i64 0,.int .i64 0,.bool gi]),4,32):=J0
theorem NK{w:ui}{b1 b2 e1 e2 s1 s2 n1 n2:Nat}{v1 v2:ti}{x1 x2:List ti}(h1:w.ownsRow b1 e1 s1 v1 n1 x1)(h2:w.ownsRow b2 e2 s2 v2 n2 x2)(he:e1≠e2):v1.ownBlock=Ai\/v1.ownBlock≠v2.ownBlock:=by
 rcases h1.2 with⟨rfl,_⟩|⟨g,cap,cur,rfl,hb,hg,_⟩
 ·exact .inl rfl
 ·rcases h2.2 with⟨rfl,_⟩|⟨g',qO,Ao0,rfl,uk,yE,_⟩
  ·exact .inr V4
  ·refine .inr fun e=>?_;have:g=g':=by simpa[Value.ownBlock]using e
   subst this;rw[hg]at yE;exact he (by cases yE;rfl)
theorem dI{w wr wA wg:ui}{K i:Nat}{v x:ti}{b e s n:Nat}{xs:List ti}(hK:w.heap.size<=K)(hb:Below w.heap.size w wr)(hA:Below wr.heap.size wr wA)(ho:wr.ownsRow (K+1) e s v n xs)(hg:wA.grownBy wg v.ownBlock):
  Below w.heap.size w (wg.setCell ⟨K,i,Ai⟩ x)/\(∀u e' s' n' ys,e'≠e->wr.ownsRow (K+1) e' s' u n' ys->(wg.setCell ⟨K,i,Ai⟩ x).ownsRow (K+1) e' s' u n' ys)/\(∀m t f,Ei wr K m t f->Ei wg K m t f)/\(b<K->∀m t f,Ei wr b m t f->Ei (wg.setCell ⟨K,i,Ai⟩ x) b m t f):=by
 have hl:∀j,j<K+1->yi j≠v.ownBlock:=fun j hj=>TR ho hj;have yo:∀j,j<wr.heap.size->j<K+1->wg.heap[j]?=wr.heap[j]?:=fun j hj Vs=>(hg.block j (Nat.lt_of_lt_of_le hj hA.size) (hl j Vs)).trans (hA.block j hj);refine⟨Below.setCell ⟨hg.os.trans (hA.os.trans hb.os),hg.tape.trans (hA.tape.trans hb.tape),hg.output.trans (hA.output.trans hb.output),Nat.le_trans hb.size (Nat.le_trans hA.size hg.size),fun j hj=>(yo j (Nat.lt_of_lt_of_le hj hb.size) E0).trans (hb.block j hj)⟩ hK _,fun u e' s' n' ys he hu=>?_,fun m t f hr=>hr.of_heap (yo K hr.lt E0),fun hbK m t f hr=>(hr.of_heap (yo b hr.lt E0)).other _ _ A1⟩;exact ownsRow_setCell_below ((own_below hu hA).kept hg (NK (own_below hu hA) (own_below ho hA) he)) P0 _
theorem oC(p:Option Addr)(n cap:Nat)(z:Nat->Int)(w:ui)(hs:Sl w p (n*3) (fun j=>.int .i64 (z j)))(hn:n<=8):
  Calls prog 51 #[.slice p n cap] w fun e w'=>∃kb,e=.returned (.pointer (yi ⟨kb,0,Ai⟩))/\w.heap.size<=kb/\jG w kb z n w':=by
 have S0:Hid (Sl w p (n*3) (fun j=>.int .i64 (z j))):=hs;clear hs
 go_enter func51,ntmps51
 go_wp2_with fail
 have N0:Hid (jG w w.heap.size z 0 (w.alloc (.cells #[.slice Ai 0 0,.slice Ai 0 0,.slice Ai 0 0] 149))):=
  ⟨_,_,_,(Below.refl _ _).alloc (Nat.le_refl _) _,row3 w _ _ _ _,World.ownsRow_nil _ _ _ _,World.ownsRow_nil _ _ _ _,World.ownsRow_nil _ _ _ _⟩
 generalize (w.alloc (.cells #[.slice Ai 0 0,.slice Ai 0 0,.slice Ai 0 0] 149))=w0 at *;have hK:w.heap.size<=w.heap.size:=Nat.le_refl _;have S1:Hid (Sl w p (n*3) (fun j=>.int .i64 (z j))):=S0.out;clear S0;have HW:Hid (∀wr,Below w.heap.size w wr->Sl wr p (n*3) (fun j=>.int .i64 (z j))):=fun wr h=>S1.out.below h;generalize hKd:w.heap.size=K at *;go_loopw [10] (fun i wr=>∃k:Nat,k<=n/\i=.int .i64 k/\Hid (jG w K z k wr)) (fun i _=>n-(intOf i).toNat)
 case atStart=>exact⟨0,Nat.zero_le _,rfl,N0⟩
 case round=>
  obtain⟨k,hk,rfl,HR⟩:=hrel;obtain⟨ve,vq,vs,aZ,Nk,oI,YQ,B_⟩:=HR.out;have Lq:Hid (Below K w wr):=hKd▸aZ;have rV:Hid (Ei wr K 3 149 (cells3 ve vq vs)):=Nk;have O1:Hid (wr.ownsRow (K+1) 151 2 ve k (jw z k)):=oI;have O2:Hid (wr.ownsRow (K+1) 156 3 vq k (Zo k)):=YQ;have O3:Hid (wr.ownsRow (K+1) 158 4 vs k (Tm k)):=B_;clear aZ Nk oI YQ B_ HR;by_cases Wi:k<n
  ·obtain⟨b,off,rfl,hc⟩:=(HW.out wr (hKd▸Lq.out)).at E0;refine Ta fun c0 c1 c2=>?_;rw[<-Nat.add_assoc]at c1 c2;clear hc;have mF:K<wr.heap.size:=rV.out.lt;obtain⟨z0,z1,z2⟩:=rV.out.at3;go_wp2_with fail;have QJ:Hid (Below wr.heap.size wr (wr.alloc (.cells #[.int .i64 (z (k*3)),.int .i64 (z (k*3+1)),.int .i64 (z (k*3+2))] 138))):=(Below.refl _ _).alloc (Nat.le_refl _) _;have hsp:(wr.alloc (.cells #[.int .i64 (z (k*3)),.int .i64 (z (k*3+1)),.int .i64 (z (k*3+2))] 138)).heap.size=wr.heap.size+1:=P0;obtain⟨e0,e1,e2⟩:=(row3 wr (.int .i64 (z (k*3))) (.int .i64 (z (k*3+1))) (.int .i64 (z (k*3+2))) 138).at3;have eK:=(QJ.out.cell (p:=⟨K,0,Ai⟩) mF).trans z0;generalize (wr.alloc (.cells #[.int .i64 (z (k*3)),.int .i64 (z (k*3+1)),.int .i64 (z (k*3+2))] 138))=wp at *;have hKp:K<wp.heap.size:=E0;have eKa:(wp.alloc (.cells #[.int .i64 (z (k*3+1)),.int .i64 (z (k*3+2))] 151)).cell? ⟨K,0,Ai⟩=yi ve:=(((Below.refl _ wp).alloc (Nat.le_refl _) _).cell (p:=⟨K,0,Ai⟩) hKp).trans eK
   go_region_law
    (refine Ek rfl _ _ 145 rfl (K+1) 151 _ 2 16 underlying145 QV rfl E0 ve k (jw z k) rfl (own_below O1.out A7) (wr.heap.size+1) [.int .i64 (z (k*3+1)),.int .i64 (z (k*3+2))] 151 rfl rfl (by exact alloc_at hsp) D2 Y1 E0 A1 ?_
     intro g wj wg Oj Ti hat zo;have HS:Hid _:=dI (w:=w) (wr:=wr) (K:=K) (i:=0) (x:=.slice (yi ⟨g,0,Ai⟩) (k+1:Nat) wj) (b:=0) E0 (hKd▸Lq.out) A7 O1.out Ti;have iw:Hid (Ei wg K 3 149 (cells3 ve vq vs)):=HS.out.2.2.1 _ _ _ rV.out;have HO1:Hid (wg.ownsRow (K+1) 151 2 (.slice (yi ⟨g,0,Ai⟩) (k+1:Nat) wj) (k+1) (jw z k++[.int .i64 (z (k*3+1)),.int .i64 (z (k*3+2))])):=Oj;have q0:=iw.out.at3.1;have xQ:=iw.out.frozen 0;clear Oj Ti hat zo eK eKa)
   all_goals
    have B3:Hid (Below K w (wg.setCell ⟨K,0,Ai⟩ (.slice (yi ⟨g,0,Ai⟩) (k+1:Nat) wj))):=hKd▸HS.out.1;have R3:Hid (Ei (wg.setCell ⟨K,0,Ai⟩ (.slice (yi ⟨g,0,Ai⟩) (k+1:Nat) wj)) K 3 149 (cells3 (.slice (yi ⟨g,0,Ai⟩) (k+1:Nat) wj) vq vs)):=(iw.out.mR _).1;have P1:Hid ((wg.setCell ⟨K,0,Ai⟩ (.slice (yi ⟨g,0,Ai⟩) (k+1:Nat) wj)).ownsRow (K+1) 151 2 (.slice (yi ⟨g,0,Ai⟩) (k+1:Nat) wj) (k+1) (jw z (k+1))):=ownsRow_setCell_below HO1.out P0 _;have P2:Hid ((wg.setCell ⟨K,0,Ai⟩ (.slice (yi ⟨g,0,Ai⟩) (k+1:Nat) wj)).ownsRow (K+1) 156 3 vq k (Zo k)):=HS.out.2.1 _ _ _ _ _ U0 O2.out;have P3:Hid ((wg.setCell ⟨K,0,Ai⟩ (.slice (yi ⟨g,0,Ai⟩) (k+1:Nat) wj)).ownsRow (K+1) 158 4 vs k (Tm k)):=HS.out.2.1 _ _ _ _ _ U0 O3.out;clear q0 xQ HS iw HO1 O1 O2 O3 rV Lq z0 z1 z2 e0 e1 e2 QJ hsp c0 c1 c2 hKp mF;generalize wg.setCell ⟨K,0,Ai⟩ (.slice (yi ⟨g,0,Ai⟩) (k+1:Nat) wj)=w3 at *;generalize (Value.slice (yi ⟨g,0,Ai⟩) (k+1:Nat) wj)=ve at *;clear wg;obtain⟨z0,z1,z2⟩:=R3.out.at3;have hK3:K<w3.heap.size:=R3.out.lt;have A3:Hid (Below w3.heap.size w3 (w3.alloc (.cells #[.slice Ai 0 0,.slice Ai 0 0,.int .i64 0] 156))):=(Below.refl _ _).alloc (Nat.le_refl _) _;go_wp2_with
     (first
      |(refine kj _ rfl _ _ 146 rfl (K+1) 156 _ 3 56 underlying146 ZT rfl E0 vq k (Zo k) rfl (own_below P2.out A3.out) w3.heap.size [.slice Ai 0 0,.slice Ai 0 0,.int .i64 0] 156 rfl rfl J2 D2 Y1 E0 A1 ?_
        intro g2 cap2 wh Oj Ti hat zo;have HS:Hid _:=dI (w:=w) (wr:=w3) (K:=K) (i:=1) (x:=.slice (yi ⟨g2,0,Ai⟩) (k+1:Nat) cap2) (b:=0) E0 (hKd▸B3.out) A3.out P2.out Ti;have iw:Hid (Ei wh K 3 149 (cells3 ve vq vs)):=HS.out.2.2.1 _ _ _ R3.out;have HO1:Hid (wh.ownsRow (K+1) 156 3 (.slice (yi ⟨g2,0,Ai⟩) (k+1:Nat) cap2) (k+1) (Zo k++[.slice Ai 0 0,.slice Ai 0 0,.int .i64 0])):=Oj;have q0:=iw.out.at3.2.1;have xQ:=iw.out.frozen 1;have q2:=iw.out.at3.2.2;have hKh:K<wh.heap.size:=iw.out.lt;have B4:Hid (Below K w (wh.setCell ⟨K,1,Ai⟩ (.slice (yi ⟨g2,0,Ai⟩) (k+1:Nat) cap2))):=hKd▸HS.out.1;have R4:Hid (Ei (wh.setCell ⟨K,1,Ai⟩ (.slice (yi ⟨g2,0,Ai⟩) (k+1:Nat) cap2)) K 3 149 (cells3 ve (.slice (yi ⟨g2,0,Ai⟩) (k+1:Nat) cap2) vs)):=(iw.out.mR _).2.1;have T2:Hid ((wh.setCell ⟨K,1,Ai⟩ (.slice (yi ⟨g2,0,Ai⟩) (k+1:Nat) cap2)).ownsRow (K+1) 156 3 (.slice (yi ⟨g2,0,Ai⟩) (k+1:Nat) cap2) (k+1) (Zo (k+1))):=ownsRow_setCell_below HO1.out P0 _;have T1:Hid ((wh.setCell ⟨K,1,Ai⟩ (.slice (yi ⟨g2,0,Ai⟩) (k+1:Nat) cap2)).ownsRow (K+1) 151 2 ve (k+1) (jw z (k+1))):=HS.out.2.1 _ _ _ _ _ U0 P1.out;have T3:Hid ((wh.setCell ⟨K,1,Ai⟩ (.slice (yi ⟨g2,0,Ai⟩) (k+1:Nat) cap2)).ownsRow (K+1) 158 4 vs k (Tm k)):=HS.out.2.1 _ _ _ _ _ U0 P3.out;have A4:Hid (Below (wh.setCell ⟨K,1,Ai⟩ (.slice (yi ⟨g2,0,Ai⟩) (k+1:Nat) cap2)).heap.size (wh.setCell ⟨K,1,Ai⟩ (.slice (yi ⟨g2,0,Ai⟩) (k+1:Nat) cap2)) ((wh.setCell ⟨K,1,Ai⟩ (.slice (yi ⟨g2,0,Ai⟩) (k+1:Nat) cap2)).alloc (.cells #[.int .i64 0,.int .i64 (-1),.int .i64 0,.bool gi] 158))):=(Below.refl _ _).alloc (Nat.le_refl _) _;clear Oj Ti hat zo)
      |(refine kj _ rfl _ _ 147 rfl (K+1) 158 _ 4 32 underlying147 OO rfl E0 vs k (Tm k) rfl (own_below T3.out A4.out) wh.heap.size [.int .i64 0,.int .i64 (-1),.int .i64 0,.bool gi] 158 rfl rfl Z3 D2 Y1 E0 A1 ?_
        intro g3 nk wi Oj Ti hat zo;have HS3:Hid _:=dI (w:=w) (wr:=(wh.setCell ⟨K,1,Ai⟩ (.slice (yi ⟨g2,0,Ai⟩) (k+1:Nat) cap2))) (K:=K) (i:=2) (x:=.slice (yi ⟨g3,0,Ai⟩) (k+1:Nat) nk) (b:=0) E0 (hKd▸B4.out) A4.out T3.out Ti;have HR3:Hid (Ei wi K 3 149 (cells3 ve (.slice (yi ⟨g2,0,Ai⟩) (k+1:Nat) cap2) vs)):=HS3.out.2.2.1 _ _ _ R4.out;have HO3:Hid (wi.ownsRow (K+1) 158 4 (.slice (yi ⟨g3,0,Ai⟩) (k+1:Nat) nk) (k+1) (Tm k++[.int .i64 0,.int .i64 (-1),.int .i64 0,.bool gi])):=Oj;have HN:Hid (jG w K z (k+1) (wi.setCell ⟨K,2,Ai⟩ (.slice (yi ⟨g3,0,Ai⟩) (k+1:Nat) nk))):=
         ⟨_,_,_,HS3.out.1,(HR3.out.mR _).2.2,HS3.out.2.1 _ _ _ _ _ U0 T1.out,HS3.out.2.1 _ _ _ _ _ U0 T2.out,ownsRow_setCell_below HO3.out P0 _⟩
        clear q0 xQ q2;have q0:=HR3.out.at3.2.2;have xQ:=HR3.out.frozen 2;clear Oj Ti hat zo))
    exact⟨⟨k+1,E0,J1,HN⟩,U1⟩
  ·obtain rfl:k=n:=by omega
   clear Wi hk;go_wp2_with fail;go_ret;exact⟨_,rfl,E0,_,_,_,hKd▸Lq.out,rV.out,O1.out,O2.out,O3.out⟩
open Go.Maps
theorem dH(c:vl)(v0 v1 v2 v3:ti)(w:ui)(h:Bq w v0 v1 v2 v3 c)(hw:OD c):
  Calls prog 50 #[.agg #[v0,v1,v2,v3]] w (vD c w):=by
 obtain⟨p0,yj,F0,p1,wj,F1,p2,cap2,p3,nk,rfl,rfl,rfl,rfl,s0,k0,s1,k1,s2,s3,b0,b1,b2,b3⟩:=h.parts;refine vf fun Xu JR=>?_;have HR:Hid (Bq w (.slice p0 c.nC yj) (.slice p1 c.nT wj) (.slice p2 c.qj cap2) (.slice p3 c.nD nk) c):=h;refine Xb fun S1 K1 S2=>?_;have S3:Hid (Sl w p3 c.nD (fun j=>.int .i64 (c.dv j))):=s3;have HW0:Hid (OD c):=hw;clear h s0 k0 s1 k1 s2 s3 b2 b3 hw;refine U8 fun HA=>?_;by_cases n1:Ss c
 case neg=>
  have q:c.nC<1\/6<c.nC:=by unfold Ss at n1;omega
  have C1:Hid (Ui c 1 0):=Ui.c1 n1;clear n1;rcases q with q|q
  all_goals
   go_enter func50,ntmps50
   go_wp2_with fail
   go_ret2
   exact vD.mk C1.out (HA.out _)
 have q1:1<=c.nC:=n1.1;have q1':c.nC<=6:=n1.2;have N1:Hid (Ss c):=n1;clear n1
 go_enter func50,ntmps50
 go_wp2_with fail
 refine(NI c p1 wj F1 _ (S1.out.below (HA.out _)) (fun i hi=>(K1.out i hi).keep (Yp (HA.out _))) b1).mono ?_;rintro e w1 ⟨x,rfl,hx,Wj⟩;refine Lc fun Xq=>?_;clear Wj;rcases hx with⟨hx1,rfl⟩|⟨hx1,rfl,Iz⟩|⟨i,hx1,rfl,Iz⟩
 ·have C2:Hid (Ui c 2 0):=Ui.c2 N1.out hx1;clear hx1;go_wp2_with fail
  go_ret2
  exact vD.mk C2.out (ij Xq.out)
 ·have N2:Hid (Ns c):=hx1;have N3:Hid (Hj (Xp c) c.nT):=Iz;clear hx1 Iz;obtain⟨x0,x1,x2,x3⟩:=OA Xq.out;go_wp2_with fail;refine(PG c p2 cap2 _ (S2.out.below (ij Xq.out)) Xu).mono ?_;rintro e w2 ⟨x,rfl,hx,Wj⟩;have Qv:Hid (Below (w.heap.size+1) (w.alloc (.cells #[.slice p0 c.nC yj,.slice p1 c.nT wj,.slice p2 c.qj cap2,.slice p3 c.nD nk] 28)) w2):=VB Xq.out Wj;clear Wj x0 x1 x2 x3;rcases hx with⟨hx1,rfl⟩|⟨hx1,rfl,Iz⟩|⟨i,hx1,rfl,Iz⟩
  ·have C4:Hid (Ui c 3 0):=Ui.c4 N1.out N2.out N3.out hx1;clear hx1;go_wp2_with fail
   go_ret2
   exact vD.mk C4.out (ij Qv.out)
  ·have N5:Hid (Hj (bu c) c.qj):=Iz;have n4:=hx1;clear hx1 Iz;obtain⟨x0,x1,x2,x3⟩:=OA Qv.out;go_wp2_with fail;refine(tJ c p3 nk _ (S3.out.below (ij Qv.out)) JR).mono ?_;rintro e w3 ⟨x,rfl,hx,Wj⟩;have iK:Hid (Below (w.heap.size+1) (w.alloc (.cells #[.slice p0 c.nC yj,.slice p1 c.nT wj,.slice p2 c.qj cap2,.slice p3 c.nD nk] 28)) w3):=VB Qv.out Wj;clear Wj x0 x1 x2 x3;rcases hx with⟨hx1,rfl⟩|⟨hx1,rfl,Iz⟩|⟨i,hx1,rfl,Iz⟩
   ·have C6:Hid (Ui c 4 0):=Ui.c6 N1.out N2.out N3.out n4 N5.out hx1;clear hx1;go_wp2_with fail
    go_ret2
    exact vD.mk C6.out (ij iK.out)
   ·have N7:Hid (Hj (lB c) c.nD):=Iz;have n6:=hx1;clear hx1 Iz;obtain⟨x0,x1,x2,x3⟩:=OA iK.out;go_wp2_with fail;refine(RH c _ _ _ _ _ (HR.out.below (ij iK.out)) HW0.out q1' n4 N5.out n6).mono ?_;rintro e w4 ⟨x,rfl,hx,Wj⟩;have HB4:Hid (Below (w.heap.size+1) (w.alloc (.cells #[.slice p0 c.nC yj,.slice p1 c.nT wj,.slice p2 c.qj cap2,.slice p3 c.nD nk] 28)) w4):=VB iK.out Wj;clear Wj x0 x1 x2 x3;rcases hx with⟨rfl,Iz⟩|⟨i,rfl,Iz⟩
    ·have C9:Hid (Ui c 0 0):=Ui.c9 N1.out N2.out N3.out n4 N5.out n6 N7.out Iz;clear Iz;go_wp2_with fail
     go_ret2
     exact vD.mk C9.out (ij HB4.out)
    ·have C8:Hid (Ui c 5 i):=Ui.c8 N1.out N2.out N3.out n4 N5.out n6 N7.out Iz;have Jj:((i:Int) != -1)=true:=by simp
     clear Iz;go_wp2_with fail
     go_ret2
     exact vD.mk C8.out (ij HB4.out)
   ·have C7:Hid (Ui c 4 i):=Ui.c7 N1.out N2.out N3.out n4 N5.out hx1 Iz;have Jj:((i:Int) != -1)=true:=by simp
    clear hx1 Iz;go_wp2_with fail
    go_ret2
    exact vD.mk C7.out (ij iK.out)
  ·have C5:Hid (Ui c 3 i):=Ui.c5 N1.out N2.out N3.out hx1 Iz;have Jj:((i:Int) != -1)=true:=by simp
   clear hx1 Iz;go_wp2_with fail
   go_ret2
   exact vD.mk C5.out (ij Qv.out)
 ·have C3:Hid (Ui c 2 i):=Ui.c3 N1.out hx1 Iz;have Jj:((i:Int) != -1)=true:=by simp
  clear hx1 Iz;go_wp2_with fail
  go_ret2
  exact vD.mk C3.out (ij Xq.out)
theorem Ui.place{c:vl}{x y:Int}(h:Ui c x y)(h0:x=0):Ui c 0 0:=by
 subst h0;unfold Ui at h;rcases h with h|h|⟨_,_,i,_,h,_⟩|h|⟨_,_,_,_,i,_,h,_⟩|h|⟨_,_,_,_,_,_,i,_,h,_⟩|⟨_,_,_,_,_,_,_,i,_,h,_⟩|h
 ·exact Ih
 ·exact Yg
 ·exact ec
 ·exact Jf
 ·exact ec
 ·exact Ie
 ·exact ec
 ·exact ec
 ·exact Ui.c9 h.1 h.2.1 h.2.2.1 h.2.2.2.1 h.2.2.2.2.1 h.2.2.2.2.2.1 h.2.2.2.2.2.2.1 h.2.2.2.2.2.2.2.1
theorem Q50:(prog.info? 61).map (fun i=>(i.zero,i.size,i.bytes))=yi (yi (.slice Ai 0 0),1,24):=J0
theorem y60:(prog.info? 143).map (fun i=>(i.zero,i.size,i.bytes))=yi (yi (.pointer Ai),1,8):=J0
theorem fN : (Tryz.f52.name == "runtime.NumGoroutine") = gi := J0
theorem TK:Tryz.f52.body.isNone=false:=J0
theorem QM : (Tryz.f53.name == "runtime.NumGoroutine") = gi := J0
theorem nL:Tryz.f53.body.isNone=false:=J0
theorem Ui.sizes{c:vl}(h:Ui c 0 0):Ss c/\Ns c/\Hj (Wn c) c.nC:=by
 unfold Ui at h;rcases h with h|h|⟨_,_,i,_,h,_⟩|h|⟨_,_,_,_,i,_,h,_⟩|h|⟨_,_,_,_,_,_,i,_,h,_⟩|⟨_,_,_,_,_,_,_,i,_,h,_⟩|h
 ·exact Ih
 ·exact Yg
 ·exact ec
 ·exact Jf
 ·exact ec
 ·exact Ie
 ·exact ec
 ·exact ec
 ·exact⟨h.1,h.2.1,h.2.2.2.2.2.2.2.1⟩
def su(a b c d e:ti)(j:Nat):Value:=if j=0 then a else if j=1 then b else if j=2 then c else if j=3 then d else e
theorem Jd0(w:ui)(a b c d e:ti)(t:Nat):Ei (w.alloc (.cells #[a,b,c,d,e] t)) w.heap.size 5 t (su a b c d e):=
 Ei.new w #[a,b,c,d,e] t _ (fun j hj=>by
  have:j=0\/j=1\/j=2\/j=3\/j=4:=by simp at hj;omega
  rcases this with rfl|rfl|rfl|rfl|rfl<;>rfl)
theorem Ei.W40{w:ui}{g t:Nat}{a b c d e:ti}(h:Ei w g 5 t (su a b c d e)):w.cell? ⟨g,0,Ai⟩=yi a/\w.cell? ⟨g,1,Ai⟩=yi b/\w.cell? ⟨g,2,Ai⟩=yi c/\w.cell? ⟨g,3,Ai⟩=yi d/\w.cell? ⟨g,4,Ai⟩=yi e:=
 ⟨h.cell E0,h.cell E0,h.cell E0,h.cell E0,h.cell E0⟩
theorem Ei.T00{w:ui}{g t:Nat}{a b c d e:ti}(h:Ei w g 5 t (su a b c d e))(v:ti):
  Ei (w.setCell ⟨g,0,Ai⟩ v) g 5 t (su v b c d e)/\Ei (w.setCell ⟨g,1,Ai⟩ v) g 5 t (su a v c d e)/\Ei (w.setCell ⟨g,2,Ai⟩ v) g 5 t (su a b v d e):=by
 refine⟨(h.set 0 v).congr ?_,(h.set 1 v).congr ?_,(h.set 2 v).congr ?_⟩
 all_goals
  intro j hj;have:j=0\/j=1\/j=2\/j=3\/j=4:=E0;rcases this with rfl|rfl|rfl|rfl|rfl<;>rfl
theorem KI{P:Program}{ops:Array Oper}{o:Oper}{a:Act}{w:ui}{K:Act->ui->Prop}{Q:Exit->Act->ui->Prop}{E:Prop}(UK:o.guard=Ai)(f:FuncId)(s1 s2 s3:Operand)(t1 t2 t3:TypeId)
  (ho:o.op=.call {callee:=.value (.func f),args:=#[s1,s2,s3],argTypes:=#[t1,t2,t3]})(v1 v2 v3:ti)(hv1:a.eval s1=v1)(hv2:a.eval s2=v2)(hv3:a.eval s3=v3)
  (fn : Func) (hf : P.funcs[f]? = yi fn) (hn : (fn.name == "runtime.NumGoroutine") = gi) (hb : fn.body.isNone = gi) (R : ti -> ui -> Prop)
  (h:Calls P f #[v1,v2,v3] w (fun e w'=>∃r,e=.returned r/\R r w'))(hk:∀r w',R r w'->K (a.put o.dst r) w'):
  if Region.wanted o (yielded ops a.tmps)=ji then Oper.wp P o a w K Q else E:=by
 have hw:Region.wanted o (yielded ops a.tmps)=true:=by simp[Region.wanted,UK]
 rw[if_pos hw];unfold Oper.wp;have hr:(execOp a.eval o).run P w=.ok (.enter f #[v1,v2,v3]) w:=by
  have e:a.eval (.func f)=.func (.func f) #[] #[]:=rfl;have hn' : ¬ fn.name = "runtime.NumGoroutine" := y5
  have uk:¬fn.body=none:=by intro e;rw[e]at hb;cases hb
  simp[execOp,ho,resolve,invoke,hv1,hv2,hv3,e,Deferred.ofValue,callFunc,hf,hn',uk]
 rw[hr];refine h.mono ?_;rintro e w' ⟨r,rfl,hR⟩;exact hk r w' hR
theorem jI{w wr wg:ui}{K i:Nat}{v x:ti}(hb:Below w.heap.size w wr)(hs:wr.heap.size<=wg.heap.size)(hf:wg.os=wr.os/\wg.tape=wr.tape/\wg.output=wr.output)
  (hol:∀j,j<wr.heap.size->v.ownBlock≠yi j->wg.heap[j]?=wr.heap[j]?)(hlo:∀j,v.ownBlock=yi j->K+1<=j)(hK:w.heap.size<K):Below w.heap.size w (wg.setCell ⟨K,i,Ai⟩ x):=by
 refine Below.setCell ⟨hf.1.trans hb.os,hf.2.1.trans hb.tape,hf.2.2.trans hb.output,Nat.le_trans hb.size hs,fun j hj=>?_⟩ (by show w.heap.size<=K;omega) _;exact(hol j (Nat.lt_of_lt_of_le hj hb.size) (fun e=>by have:=hlo j e;omega)).trans (hb.block j hj)
theorem Ui.gV{c:vl}(h:Ui c 0 0):c.qj<=8:=by
 unfold Ui at h;rcases h with h|h|⟨_,_,i,_,h,_⟩|h|⟨_,_,_,_,i,_,h,_⟩|h|⟨_,_,_,_,_,_,i,_,h,_⟩|⟨_,_,_,_,_,_,_,i,_,h,_⟩|h
 ·exact Ih
 ·exact Yg
 ·exact ec
 ·exact Jf
 ·exact ec
 ·exact Ie
 ·exact ec
 ·exact ec
 ·exact h.2.2.2.1
theorem ZU{w W w0:ui}{K t tc:Nat}{cs:Array ti}{a b c d e:ti}(hB:Below (w.heap.size+1) (w.alloc (.cells cs tc)) W)(hK:K=W.heap.size)(h0:w0=W.alloc (.cells #[a,b,c,d,e] t)):
  Below w.heap.size w w0/\Ei w0 K 5 t (su a b c d e)/\K<w0.heap.size/\w.heap.size<K/\Below (w.heap.size+1) (w.alloc (.cells cs tc)) w0:=by
 subst hK h0;have hs:w.heap.size<W.heap.size:=by have:=hB.size;simp at this;omega
 exact⟨(ij hB).alloc E0 _,Jd0 W _ _ _ _ _ _,P0,hs,hB.alloc E0 _⟩
theorem Wx(a:Int)(w:ui):
  Calls prog 41 #[.int .i64 a] w fun e w'=>e=.returned (.int .i64 a)/\w'=w:=by
 go_enter func41,ntmps41
 go_wp2
 go_ret;exact⟨rfl,rfl⟩
theorem QR{n m:Nat}{z:Nat->Int}{k:Nat}(hk:k<m)
  (h:z (k*2)<0\/(n:Int)<=z (k*2)\/z (k*2+1)<1\/200<z (k*2+1)):¬DC n m z:=by
 intro ⟨_,h2,h3⟩;have hw:=h2 k hk;unfold xG at hw;have:=(FG z m (fun i hi=>(h2 i hi).2.2)).2 k hk;omega
theorem yT(p:Option Addr)(m cap n:Nat)(z:Nat->Int)(w:ui)(hs:Sl w p (m*2) (fun j=>.int .i64 (z j)))(hb:16*m<=140737488355328):
  Calls prog 68 #[.slice p m cap,.int .i64 n] w (sk (DC n m z) (·=w)):=by
 have hB:m<=8796093022208:=E0;have HS:Hid (Sl w p (m*2) (fun j=>.int .i64 (z j))):=hs;clear hs hb
 go_enter func68,ntmps68
 go_wp2
 go_loop [5,6] (fun s i=>∃k:Nat,k<=m/\i=.int .i64 k/\s=.int .i64 (sumTo z k)/\Hid (∀i,i<k->xG n z i/\z (i*2+1)<=200))
  (fun _ i=>m-(intOf i).toNat)
 case atStart=>exact⟨0,Nat.zero_le _,rfl,rfl,fun i hi=>absurd hi E0⟩
 case round=>
  obtain⟨k,hk,rfl,rfl,HI⟩:=hrel;have W50:=gQ z k (fun i hi=>⟨(HI.out i hi).1.2.2,(HI.out i hi).2⟩);by_cases Wi:k<m
  ·obtain⟨b,off,rfl,hc⟩:=HS.out.at E0;have c0:=hc (k*2) E0;have c1:=hc (k*2+1) E0;rw[<-Nat.add_assoc]at c1;clear hc;generalize hz0:z (k*2)=x at *;generalize SJ:z (k*2+1)=y at *;have HZ0:Hid (z (k*2)=x):=hz0;have YB:Hid (z (k*2+1)=y):=SJ;clear hz0 SJ;go_wp2
   case roundEnd=>
    refine⟨⟨k+1,E0,J1,by simp only[sumTo];rw[YB.out],fun i hi=>?_⟩,U1⟩;rcases Nat.lt_or_ge i k with hl|hl
    ·exact HI.out i hl
    ·obtain rfl:i=k:=by omega
     unfold xG;rw[HZ0.out,YB.out];omega
   all_goals
    go_ret;exact sk.no (QR Wi (by rw[HZ0.out,YB.out];omega)) rfl
  ·obtain rfl:k=m:=by omega
   go_wp2
   ·go_ret;refine sk.of ?_ rfl;simp only[decide_eq_true_eq];exact⟨fun h=>⟨E0,fun i hi=>(HI.out i hi).1,h⟩,fun h=>h.2.2⟩
   ·go_ret;exact sk.no (fun h=>K4) rfl
theorem xU{c:vl}{cell kind x y:Int}{m jB:Nat}(hm:(m:Int)<c.qj)(hx:c.ch (m*3)=x)(hy:c.ch (m*3+jB)=y)(b:Bool)(hb:b=(decide (x=kind)&&decide (y=cell))):b=ji↔Vn c cell m kind jB:=by
 subst hb;simp only[Bool.and_eq_true,decide_eq_true_eq,Vn,Int.toNat_natCast,hx,hy];exact⟨fun h=>⟨E0,hm,h.1,h.2⟩,fun h=>⟨h.2.2.1,h.2.2.2⟩⟩
theorem MB(c:vl)(v0 v1 v3:ti)(p:Option Addr)(cap:Nat)(cell n kind:Int)(w:ui)(hs:Sl w p (c.qj*3) (fun j=>.int .i64 (c.ch j)))(hb:24*c.qj<=140737488355328):
  Calls prog 87 #[.agg #[v0,v1,.slice p c.qj cap,v3],.int .i64 cell,.int .i64 n,.int .i64 kind,.bool ji] w (sk (Vn c cell n kind 1) (Below w.heap.size w)):=by
 have hB:c.qj<=8796093022208:=E0;have HS:Hid (Sl w p (c.qj*3) (fun j=>.int .i64 (c.ch j))):=hs;clear hs hb;refine sd fun HB=>?_;by_cases h0:n<0
 ·exact Xh
 ·by_cases h1:(c.qj:Int)<=n
  ·exact Jg
  ·obtain⟨m,rfl⟩:=Int.eq_ofNat_of_zero_le (a:=n) E0;obtain⟨b,off,rfl,hc⟩:=HS.out.at E0;have c0:=hc (m*3) E0;have c1:=hc (m*3+1) E0;have Wi:b<w.heap.size:=block_lt_of_cell c0;rw[<-Nat.add_assoc]at c1;clear hc;have hm:(m:Int)<c.qj:=by omega
   have HU1:=fun b h=>@xU c cell kind _ _ m 1 hm rfl rfl b h;generalize c.ch (m*3)=x at *;generalize c.ch (m*3+1)=y1 at *;have HU:Hid (∀b,b=(decide (x=kind)&&decide (y1=cell))->(b=ji↔Vn c cell m kind 1)):=HU1;clear HU1
   go_enter func87,ntmps87
   go_wp2
   ·have hx:(x != kind)=true:=by assumption
    exact Hg
   ·have hx:(x != kind)=false:=by assumption
    go_ret;exact sk.of (b:=(y1==cell)) (HU.out _ D7) (HB.out _)
theorem aB(c:vl)(v0 v1 v3:ti)(p:Option Addr)(cap:Nat)(cell n kind:Int)(w:ui)(hs:Sl w p (c.qj*3) (fun j=>.int .i64 (c.ch j)))(hb:24*c.qj<=140737488355328):
  Calls prog 87 #[.agg #[v0,v1,.slice p c.qj cap,v3],.int .i64 cell,.int .i64 n,.int .i64 kind,.bool gi] w (sk (Vn c cell n kind 2) (Below w.heap.size w)):=by
 have hB:c.qj<=8796093022208:=E0;have HS:Hid (Sl w p (c.qj*3) (fun j=>.int .i64 (c.ch j))):=hs;clear hs hb;refine sd fun HB=>?_;by_cases h0:n<0
 ·exact Xh
 ·by_cases h1:(c.qj:Int)<=n
  ·exact Jg
  ·obtain⟨m,rfl⟩:=Int.eq_ofNat_of_zero_le (a:=n) E0;obtain⟨b,off,rfl,hc⟩:=HS.out.at E0;have c0:=hc (m*3) E0;have c1:=hc (m*3+2) E0;have Wi:b<w.heap.size:=block_lt_of_cell c0;rw[<-Nat.add_assoc]at c1;clear hc;have hm:(m:Int)<c.qj:=by omega
   have HU1:=fun b h=>@xU c cell kind _ _ m 2 hm rfl rfl b h;generalize c.ch (m*3)=x at *;generalize c.ch (m*3+2)=y1 at *;have HU:Hid (∀b,b=(decide (x=kind)&&decide (y1=cell))->(b=ji↔Vn c cell m kind 2)):=HU1;clear HU1
   go_enter func87,ntmps87
   go_wp2
   ·have hx:(x != kind)=true:=by assumption
    exact Hg
   ·have hx:(x != kind)=false:=by assumption
    go_ret;exact sk.of (b:=(y1==cell)) (HU.out _ D7) (HB.out _)
theorem DX(v0 v1 v2 v3:ti)(cell op r a n:Int)(w:ui)(Jc0:op<0\/16<op\/r<0\/4<=r\/a<0\/4<=a):
  Calls prog 69 #[.agg #[v0,v1,v2,v3],.int .i64 cell,.agg #[.int .i64 op,.int .i64 r,.int .i64 a,.int .i64 n]] w fun e w'=>e=.returned (.bool gi)/\Below w.heap.size w w':=by
 refine O8 fun HB=>?_
 go_enter func69,ntmps69
 go_wp2_with fail
 all_goals
  go_ret;exact⟨rfl,HB.out _ _⟩
theorem yZ(v0 v1 v2 v3:ti)(cell op r a n:Int)(w:ui)(h0:0<=op)(h1:op<=16)(h2:0<=r)(h3:r<4)(h4:0<=a)(h5:a<4)(q8:(op==8)=gi)(q9:(op==9)=gi)(q10:(op==10)=gi)(q11:(op==11)=gi)(q12:(op==12)=gi)(q16:(op==16)=gi)(q13:(op==13)=gi)(q14:(op==14)=gi):
  Calls prog 69 #[.agg #[v0,v1,v2,v3],.int .i64 cell,.agg #[.int .i64 op,.int .i64 r,.int .i64 a,.int .i64 n]] w fun e w'=>e=.returned (.bool ji)/\Below w.heap.size w w':=by
 refine O8 fun HB=>?_
 go_enter func69,ntmps69
 go_wp2_with fail
 all_goals
  go_ret;exact⟨rfl,HB.out _ _⟩
theorem Wa0(c:vl)(v0 v1 v3:ti)(p:Option Addr)(cap:Nat)(cell r a n:Int)(w:ui)(h2:0<=r)(h3:r<4)(h4:0<=a)(h5:a<4)(hs:Sl w p (c.qj*3) (fun j=>.int .i64 (c.ch j)))(hb:24*c.qj<=140737488355328):
  Calls prog 69 #[.agg #[v0,v1,.slice p c.qj cap,v3],.int .i64 cell,.agg #[.int .i64 10,.int .i64 r,.int .i64 a,.int .i64 n]] w (sk (Vn c cell n 1 1) (Below w.heap.size w)):=by
 refine O8 fun HB=>?_;exact Na
theorem na0(c:vl)(v0 v1 v3:ti)(p:Option Addr)(cap:Nat)(cell r a n:Int)(w:ui)(h2:0<=r)(h3:r<4)(h4:0<=a)(h5:a<4)(hs:Sl w p (c.qj*3) (fun j=>.int .i64 (c.ch j)))(hb:24*c.qj<=140737488355328):
  Calls prog 69 #[.agg #[v0,v1,.slice p c.qj cap,v3],.int .i64 cell,.agg #[.int .i64 11,.int .i64 r,.int .i64 a,.int .i64 n]] w (sk (Vn c cell n 2 1) (Below w.heap.size w)):=by
 refine O8 fun HB=>?_;exact Na
theorem Aa0(c:vl)(v0 v1 v3:ti)(p:Option Addr)(cap:Nat)(cell r a n:Int)(w:ui)(h2:0<=r)(h3:r<4)(h4:0<=a)(h5:a<4)(hs:Sl w p (c.qj*3) (fun j=>.int .i64 (c.ch j)))(hb:24*c.qj<=140737488355328):
  Calls prog 69 #[.agg #[v0,v1,.slice p c.qj cap,v3],.int .i64 cell,.agg #[.int .i64 12,.int .i64 r,.int .i64 a,.int .i64 n]] w (sk (Vn c cell n 1 2) (Below w.heap.size w)):=by
 refine O8 fun HB=>?_;exact F9
theorem P90(c:vl)(v0 v1 v3:ti)(p:Option Addr)(cap:Nat)(cell r a n:Int)(w:ui)(h2:0<=r)(h3:r<4)(h4:0<=a)(h5:a<4)(hs:Sl w p (c.qj*3) (fun j=>.int .i64 (c.ch j)))(hb:24*c.qj<=140737488355328):
  Calls prog 69 #[.agg #[v0,v1,.slice p c.qj cap,v3],.int .i64 cell,.agg #[.int .i64 16,.int .i64 r,.int .i64 a,.int .i64 n]] w (sk (Vn c cell n 1 2) (Below w.heap.size w)):=by
 refine O8 fun HB=>?_;exact F9
theorem I80(c:vl)(v0 v1 v3:ti)(p:Option Addr)(cap:Nat)(cell r a n:Int)(w:ui)(h2:0<=r)(h3:r<4)(h4:0<=a)(h5:a<4)(hs:Sl w p (c.qj*3) (fun j=>.int .i64 (c.ch j)))(hb:24*c.qj<=140737488355328):
  Calls prog 69 #[.agg #[v0,v1,.slice p c.qj cap,v3],.int .i64 cell,.agg #[.int .i64 13,.int .i64 r,.int .i64 a,.int .i64 n]] w (sk (Vn c cell n 2 2) (Below w.heap.size w)):=by
 refine O8 fun HB=>?_;exact F9
theorem fe0(v1 v2 v3:ti)(b0 nJ nC yj cell nc Zr:Nat)(pc:Option Addr)(r a n:Int)(w:ui)(h2:0<=r)(h3:r<4)(h4:0<=a)(h5:a<4)(Wi:cell<nC)
  (hc:w.cell? ⟨b0,nJ+cell*3,Ai⟩=yi (.slice pc nc Zr)):
  Calls prog 69 #[.agg #[.slice (yi ⟨b0,nJ,Ai⟩) nC yj,v1,v2,v3],.int .i64 cell,.agg #[.int .i64 8,.int .i64 r,.int .i64 a,.int .i64 n]] w (sk (0<=n/\n<nc) (Below w.heap.size w)):=by
 refine O8 fun HB=>?_;have hb0:b0<w.heap.size:=block_lt_of_cell hc;by_cases h0:0<=n
 ·have hd:decide (0<=n)=true:=by simpa using h0
  exact Xe
 ·have hd:decide (0<=n)=false:=by simpa using h0
  exact ig
theorem zf0(v1 v2 v3:ti)(b0 nJ nC yj cell nc Zr:Nat)(pc:Option Addr)(r a n:Int)(w:ui)(h2:0<=r)(h3:r<4)(h4:0<=a)(h5:a<4)(Wi:cell<nC)
  (hc:w.cell? ⟨b0,nJ+cell*3,Ai⟩=yi (.slice pc nc Zr)):
  Calls prog 69 #[.agg #[.slice (yi ⟨b0,nJ,Ai⟩) nC yj,v1,v2,v3],.int .i64 cell,.agg #[.int .i64 9,.int .i64 r,.int .i64 a,.int .i64 n]] w (sk (0<=n/\n<nc) (Below w.heap.size w)):=by
 refine O8 fun HB=>?_;have hb0:b0<w.heap.size:=block_lt_of_cell hc;by_cases h0:0<=n
 ·have hd:decide (0<=n)=true:=by simpa using h0
  exact Xe
 ·have hd:decide (0<=n)=false:=by simpa using h0
  exact ig
theorem y80(c:vl)(v0 v1 v2:ti)(p:Option Addr)(cap:Nat)(cell r a n:Int)(w:ui)(h2:0<=r)(h3:r<4)(h4:0<=a)(h5:a<4)(hs:Sl w p c.nD (fun j=>.int .i64 (c.dv j)))(hb:8*c.nD<=140737488355328):
  Calls prog 69 #[.agg #[v0,v1,v2,.slice p c.nD cap],.int .i64 cell,.agg #[.int .i64 14,.int .i64 r,.int .i64 a,.int .i64 n]] w (sk (0<=n/\n<c.nD/\c.dv n.toNat=cell) (Below w.heap.size w)):=by
 have hB:c.nD<=17592186044416:=E0;refine O8 fun HB=>?_;have HS:Hid (Sl w p c.nD (fun j=>.int .i64 (c.dv j))):=hs;clear hs hb;by_cases h0:n<0
 ·go_enter func69,ntmps69
  go_wp2
  go_ret;exact sk.no E0 (HB.out _ _)
 ·by_cases h1:(c.nD:Int)<=n
  ·go_enter func69,ntmps69
   go_wp2
   go_ret;exact sk.no E0 (HB.out _ _)
  ·obtain⟨m,rfl⟩:=Int.eq_ofNat_of_zero_le (a:=n) E0;obtain⟨b,off,rfl,hc⟩:=HS.out.at E0;have c0:=hc m E0;have Wi:b<w.heap.size:=block_lt_of_cell c0;clear hc;have hm:(m:Int)<c.nD:=by omega
   rw[Int.toNat_natCast];generalize c.dv m=x at *
   go_enter func69,ntmps69
   go_wp2
   go_ret;exact sk.of (b:=(x==cell)) (by simp only[beq_iff_eq]) (HB.out _ _)
theorem sk.iff{P P':Prop}{W:ui->Prop}{e:Ending}{w':ui}(h:sk P W e w')(hp:P↔P'):sk P' W e w':=by
 obtain⟨b,h1,h2,h3⟩:=h;exact⟨b,h1,h2.trans hp,h3⟩
theorem ny(c:vl)(v1:ti)(b0 nJ yj cell Zr cap2 nk:Nat)(pc p2 p3:Option Addr)(op r a n:Int)(w:ui)(Wi:cell<c.nC)
  (hc:w.cell? ⟨b0,nJ+cell*3,Ai⟩=yi (.slice pc (c.Zi cell) Zr))(rP:Sl w p2 (c.qj*3) (fun j=>.int .i64 (c.ch j)))(Xu:24*c.qj<=140737488355328)
  (hs3:Sl w p3 c.nD (fun j=>.int .i64 (c.dv j)))(JR:8*c.nD<=140737488355328):
  Calls prog 69 #[.agg #[.slice (yi ⟨b0,nJ,Ai⟩) c.nC yj,v1,.slice p2 c.qj cap2,.slice p3 c.nD nk],.int .i64 cell,.agg #[.int .i64 op,.int .i64 r,.int .i64 a,.int .i64 n]] w (sk (Rr c cell (c.Zi cell) op r a n) (Below w.heap.size w)):=by
 by_cases hr:op<0\/16<op\/r<0\/4<=r\/a<0\/4<=a
 ·refine(DX _ _ _ _ _ _ _ _ _ _ hr).mono ?_;rintro e w' ⟨rfl,hb⟩;exact sk.no (fun h=>by unfold Rr at h;omega) hb
 ·have h0:0<=op:=by omega
  have h1:op<=16:=E0;have h2:0<=r:=E0;have h3:r<4:=E0;have h4:0<=a:=E0;have h5:a<4:=E0;by_cases e8:op=8
  ·subst e8;refine(fe0 _ _ _ b0 nJ c.nC yj cell (c.Zi cell) Zr pc r a n w h2 h3 h4 h5 Wi hc).mono fun e w' h=>h.iff ?_;unfold Rr;constructor
   ·intro h;exact⟨E0,E0,E0,fun _=>h,E0,E0,E0,E0,E0⟩
   ·intro h;exact h.2.2.2.1 (Or.inl rfl)
  by_cases e9:op=9
  ·subst e9;refine(zf0 _ _ _ b0 nJ c.nC yj cell (c.Zi cell) Zr pc r a n w h2 h3 h4 h5 Wi hc).mono fun e w' h=>h.iff ?_;unfold Rr;constructor
   ·intro h;exact⟨E0,E0,E0,fun _=>h,E0,E0,E0,E0,E0⟩
   ·intro h;exact h.2.2.2.1 (Or.inr rfl)
  by_cases e10:op=10
  ·subst e10;refine(Wa0 c _ _ _ p2 cap2 cell r a n w h2 h3 h4 h5 rP Xu).mono fun e w' h=>h.iff ?_;unfold Rr;constructor
   ·intro h;exact⟨E0,E0,E0,E0,fun _=>h,E0,E0,E0,E0⟩
   ·intro h;exact h.2.2.2.2.1 rfl
  by_cases e11:op=11
  ·subst e11;refine(na0 c _ _ _ p2 cap2 cell r a n w h2 h3 h4 h5 rP Xu).mono fun e w' h=>h.iff ?_;unfold Rr;constructor
   ·intro h;exact⟨E0,E0,E0,E0,E0,fun _=>h,E0,E0,E0⟩
   ·intro h;exact h.2.2.2.2.2.1 rfl
  by_cases e12:op=12
  ·subst e12;refine(Aa0 c _ _ _ p2 cap2 cell r a n w h2 h3 h4 h5 rP Xu).mono fun e w' h=>h.iff ?_;unfold Rr;constructor
   ·intro h;exact⟨E0,E0,E0,E0,E0,E0,fun _=>h,E0,E0⟩
   ·intro h;exact h.2.2.2.2.2.2.1 (Or.inl rfl)
  by_cases e16:op=16
  ·subst e16;refine(P90 c _ _ _ p2 cap2 cell r a n w h2 h3 h4 h5 rP Xu).mono fun e w' h=>h.iff ?_;unfold Rr;constructor
   ·intro h;exact⟨E0,E0,E0,E0,E0,E0,fun _=>h,E0,E0⟩
   ·intro h;exact h.2.2.2.2.2.2.1 (Or.inr rfl)
  by_cases e13:op=13
  ·subst e13;refine(I80 c _ _ _ p2 cap2 cell r a n w h2 h3 h4 h5 rP Xu).mono fun e w' h=>h.iff ?_;unfold Rr;constructor
   ·intro h;exact⟨E0,E0,E0,E0,E0,E0,E0,fun _=>h,E0⟩
   ·intro h;exact h.2.2.2.2.2.2.2.1 rfl
  by_cases e14:op=14
  ·subst e14;refine(y80 c _ _ _ p3 nk cell r a n w h2 h3 h4 h5 hs3 JR).mono fun e w' h=>h.iff ?_;unfold Rr;constructor
   ·intro h;exact⟨E0,E0,E0,E0,E0,E0,E0,E0,fun _=>h⟩
   ·intro h;exact h.2.2.2.2.2.2.2.2 rfl
  refine(yZ _ _ _ _ _ _ _ _ _ _ h0 h1 h2 h3 h4 h5 (by simpa using e8) (by simpa using e9) (by simpa using e10) (by simpa using e11) (by simpa using e12) (by simpa using e16) (by simpa using e13) (by simpa using e14)).mono ?_;rintro e w' ⟨rfl,hb⟩;exact sk.yes ⟨E0,E0,E0,E0,E0,E0,E0,E0,E0⟩ hb
theorem jM(c:vl)(v0 v1 v2 v3:ti)(w:ui)(h:Bq w v0 v1 v2 v3 c):
  Calls prog 38 #[.agg #[v0,v1,v2,v3]] w (vD c w):=by
 obtain⟨p0,yj,F0,p1,wj,F1,p2,cap2,p3,nk,rfl,rfl,rfl,rfl,s0,k0,s1,k1,s2,s3,b0,b1,b2,b3⟩:=h.parts;clear h;refine vf fun Xu JR=>?_;refine La fun S0 K0=>?_;refine Xb fun S1 K1 S2=>?_;have S3:Hid (Sl w p3 c.nD (fun j=>.int .i64 (c.dv j))):=s3;have B2:Hid (24*c.qj<=140737488355328):=b2;have B3:Hid (8*c.nD<=140737488355328):=b3;clear s0 k0 s1 k1 s2 s3 b2 b3;refine U8 fun HA=>?_;by_cases n1:Ss c
 case neg=>
  have q:c.nC=0\/6<c.nC:=by unfold Ss at n1;omega
  have C1:Hid (Ui c 1 0):=Ui.c1 n1;clear n1;rcases q with q|q
  ·have q':((c.nC:Int)==0)=true:=by simpa using q
   clear q;exact zh
  ·have q':((c.nC:Int)==0)=false:=by simp;omega
   exact zh
 have q1:((c.nC:Int)==0)=false:=by have:=n1.1;simp;omega
 have q1':c.nC<=6:=n1.2;have N1:Hid (Ss c):=n1;clear n1;by_cases n2:Ns c
 case neg=>
  have q:c.nT=0\/8<c.nT:=by unfold Ns at n2;omega
  have C2:Hid (Ui c 2 0):=Ui.c2 N1.out n2;clear n2;rcases q with q|q
  ·have q':((c.nT:Int)==0)=true:=by simpa using q
   clear q;exact Ah
  ·have q':((c.nT:Int)==0)=false:=by simp;omega
   exact Ah
 have q2:((c.nT:Int)==0)=false:=by have:=n2.1;simp;omega
 have q2':c.nT<=8:=n2.2;have N2:Hid (Ns c):=n2;clear n2
 go_enter func38,ntmps38
 go_wp2_with fail
 go_loop [5] (fun i=>∃k:Nat,k<=c.nT/\i=.int .i64 k/\Hid (Hj (Xp c) k)) (fun i=>c.nT-(intOf i).toNat)
 case atStart=>exact⟨0,Nat.zero_le _,rfl,Hj.zero _⟩
 case round=>
  obtain⟨k,hk,rfl,HI⟩:=hrel;by_cases Wi:k<c.nT
  ·obtain⟨b,off,rfl,hc⟩:=S1.out.at E0;have c0:=hc k Wi;have yo:b<w.heap.size:=block_lt_of_cell c0;obtain⟨pr,JI,hF,-,-,-,aZ,hsr⟩:=K1.out k Wi;rw[hF]at c0;clear hc hF;have HSR:Hid (Sl w pr (c.nRow k*2) (fun j=>.int .i64 (c.row k j))):=hsr;have HBR:Hid (16*c.nRow k<=140737488355328):=aZ;have hle:c.nRow k<=8796093022208:=by omega
   clear hsr aZ;go_wp2_with (go_at_call 68;refine(yT pr (c.nRow k) JI c.nC (c.row k) _ (by exact HSR.out.below (HA.out _)) HBR.out).mono ?_;rintro e w' ⟨b,rfl,rA,rfl⟩)
   case roundEnd=>
    have hb:b=true:=by simpa using ‹(!b)=gi›
    exact⟨⟨k+1,E0,J1,HI.out.step (rA.1 hb)⟩,U1⟩
   have hb:¬b=true:=by simpa using ‹(!b)=ji›
   go_ret2
   exact vD.mk (Ui.c3 N1.out N2.out ⟨Wi,fun h=>hb (rA.2 h),HI.out⟩) (HA.out _)
  ·obtain rfl:k=c.nT:=by omega
   have N3:Hid (Hj (Xp c) c.nT):=HI;clear HI S1 K1 Wi hk;by_cases n4:c.qj<=8
   case neg=>
    have C4:Hid (Ui c 3 0):=Ui.c4 N1.out N2.out N3.out n4;go_wp2_with fail
    go_ret2
    exact vD.mk C4.out (HA.out _)
   have HA1:Hid (∀o,Below (w.heap.size+1) (w.alloc o) (w.alloc o)):=fun o=>Below.refl _ _;go_wp2_with fail;go_loopw [7] (fun i wr=>∃k:Nat,k<=c.qj/\i=.int .i64 k/\Hid (Hj (bu c) k)/\Hid (Below (w.heap.size+1) (w.alloc (.cells #[.slice p0 c.nC yj,.slice p1 c.nT wj,.slice p2 c.qj cap2,.slice p3 c.nD nk] 28)) wr)) (fun i _=>c.qj-(intOf i).toNat)
   case atStart=>exact⟨0,Nat.zero_le _,rfl,Hj.zero _,HA1.out _⟩
   case round=>
    obtain⟨k,hk,rfl,HI,HW⟩:=hrel;obtain⟨x0,x1,x2,x3⟩:=OA HW.out;have hH:w.heap.size<wr.heap.size:=block_lt_of_cell x0;by_cases Wi:k<c.qj
    ·obtain⟨b,off,rfl,hc⟩:=(S2.out.below (ij HW.out)).at E0;refine Ta fun c0 c1 c2=>?_;refine Fg fun yo=>?_;rw[<-Nat.add_assoc]at c1 c2;clear hc;by_cases gl:bu c k
     ·have HO:Hid (bu c k):=gl;obtain⟨g1,⟨g2,g3⟩,⟨g4,g5⟩,g6⟩:=gl;have g7:1<=c.ch (k*3):=by omega
      have g8:c.ch (k*3)<=2:=E0;have g9:(c.ch (k*3+1)==c.ch (k*3+2))=false:=by simpa using g6
      clear g1 g6;go_wp2_with fail;refine⟨⟨k+1,E0,J1,HI.out.step HO.out,?_⟩,U1⟩;show Below _ _ _;exact HW.out.alloc E0 _
     ·have C5:Hid (Ui c 3 k):=Ui.c5 N1.out N2.out N3.out n4 ⟨Wi,gl,HI.out⟩;have HC:Hid (¬bu c k):=gl;clear gl;go_wp2_with fail
      case roundEnd=>
       exfalso;apply HC.out;unfold bu;have g9:¬c.ch (k*3+1)=c.ch (k*3+2):=by
        intro e;have:(c.ch (k*3+1)==c.ch (k*3+2))=true:=by simpa using e
        simp_all
       omega
      all_goals
       go_ret2
       exact vD.mk C5.out (ij (HW.out.alloc E0 _))
    ·obtain rfl:k=c.qj:=by omega
     have N5:Hid (Hj (bu c) c.qj):=HI;clear HI Wi hk;by_cases n6:c.nD<=4
     case neg=>
      have C6:Hid (Ui c 4 0):=Ui.c6 N1.out N2.out N3.out n4 N5.out n6;go_wp2_with fail
      go_ret2
      exact vD.mk C6.out (ij HW.out)
     go_wp2_with fail
     go_loop [9] (fun i=>∃k:Nat,k<=c.nD/\i=.int .i64 k/\Hid (Hj (lB c) k)) (fun i=>c.nD-(intOf i).toNat)
     case atStart=>exact⟨0,Nat.zero_le _,rfl,Hj.zero _⟩
     case round=>
      obtain⟨k,hk,rfl,HI⟩:=hrel;by_cases Wi:k<c.nD
      ·obtain⟨b,off,rfl,hc⟩:=(S3.out.below (ij HW.out)).at E0;have c0:=hc k E0;refine Fg fun yo=>?_;clear hc;by_cases gl:lB c k
       ·have HO:Hid (lB c k):=gl;obtain⟨g2,g3⟩:=gl;go_wp2_with fail;exact⟨⟨k+1,E0,J1,HI.out.step HO.out⟩,U1⟩
       ·have C7:Hid (Ui c 4 k):=Ui.c7 N1.out N2.out N3.out n4 N5.out n6 ⟨Wi,gl,HI.out⟩;have HC:Hid (¬lB c k):=gl;clear gl;go_wp2_with fail
        all_goals
         go_ret2
         exact vD.mk C7.out (ij HW.out)
      ·obtain rfl:k=c.nD:=by omega
       have N7:Hid (Hj (lB c) c.nD):=HI;clear HI Wi hk;go_wp2_with fail;have HW0:=HW;clear HW x0 x1 x2 x3 hH;go_loopw [10] (fun i wr=>∃k:Nat,k<=c.nC/\i=.int .i64 k/\Hid (Hj (Wn c) k)/\Hid (Below (w.heap.size+1) (w.alloc (.cells #[.slice p0 c.nC yj,.slice p1 c.nT wj,.slice p2 c.qj cap2,.slice p3 c.nD nk] 28)) wr)) (fun i _=>c.nC-(intOf i).toNat)
       case atStart=>exact⟨0,Nat.zero_le _,rfl,Hj.zero _,HW0⟩
       case round=>
        revert hrel;revert wr;intro wq hrel;obtain⟨k,hk,rfl,HI,HW⟩:=hrel;obtain⟨x0,x1,x2,x3⟩:=OA HW.out;have hH:w.heap.size<wq.heap.size:=block_lt_of_cell x0;by_cases Wi:k<c.nC
        ·obtain⟨b,off,rfl,hc⟩:=(S0.out.below (ij HW.out)).at E0;refine Ta fun c0 c1 c2=>?_;have yo:b<wq.heap.size:=block_lt_of_cell c0;rw[<-Nat.add_assoc]at c1 c2;clear hc;obtain⟨⟨pc,Zr,FU,-,-,-,bc,sc⟩,⟨pi,Yw,hF1,-,-,-,bi,si⟩,ql⟩:=K0.out k Wi;rw[FU]at c0;rw[hF1]at c1;rw[ql]at c2;have SC:Hid (Sl w pc (c.Zi k*4) (fun j=>.int .i64 (c.code k j))):=sc;have hnc:c.Zi k<=8796093022208:=by omega
         have hni:c.Vj k<=17592186044416:=E0;clear FU hF1 ql bc sc bi si;by_cases hA:(0<=c.lim k/\c.lim k<=5)/\c.Vj k<=16/\(1<=c.Zi k/\c.Zi k<=48)
         case neg=>
          have C8:Hid (Ui c 5 k):=Ui.c8 N1.out N2.out N3.out n4 N5.out n6 N7.out ⟨Wi,fun h=>hA ⟨h.1,h.2.1,h.2.2.1⟩,HI.out⟩;by_cases hz:c.Zi k=0
          ·have hz':((c.Zi k:Int)==0)=true:=by simpa using hz
           have HZ:Hid (c.Zi k=0):=hz;have HA':Hid (¬_):=hA;clear hz hA;go_wp2_with fail
           all_goals
            go_ret2
            exact vD.mk C8.out (ij (HW.out.alloc E0 _))
          ·have hz':((c.Zi k:Int)==0)=false:=by simpa using hz
           go_wp2_with fail
           all_goals
            go_ret2
            exact vD.mk C8.out (ij (HW.out.alloc E0 _))
         obtain⟨⟨g1,g2⟩,g3,g4,g5⟩:=hA;have hz':((c.Zi k:Int)==0)=false:=by simp;omega
         have HK:Hid (∀_,Wn c k):=fun(h:Hj (gy c k) (c.Zi k))=>⟨⟨g1,g2⟩,g3,⟨g4,g5⟩,h⟩;go_wp2_with fail;go_loopw [12] (fun i wz=>∃j:Nat,j<=c.Zi k/\i=.int .i64 j/\Hid (Hj (gy c k) j)/\Hid (Below (wq.heap.size+1) (wq.alloc (.cells #[.slice pc (c.Zi k) Zr,.slice pi (c.Vj k) Yw,.int .i64 (c.lim k)] 53)) wz)) (fun i _=>c.Zi k-(intOf i).toNat)
         case atStart=>exact⟨0,Nat.zero_le _,rfl,Hj.zero _,Below.refl _ _⟩
         case round=>
          obtain⟨j,hj,rfl,HJ,HZ⟩:=hrel;obtain⟨y0,y1,y2⟩:=tc0 HZ.out;have HWr:Hid (Below (w.heap.size+1) (w.alloc (.cells #[.slice (yi ⟨b,off,Ai⟩) c.nC yj,.slice p1 c.nT wj,.slice p2 c.qj cap2,.slice p3 c.nD nk] 28)) wr):=(HW.out.alloc E0 _).trans (HZ.out.mono E0);have d0:=(ij HZ.out).cell (p:=⟨b,off+k*3,Ai⟩) yo;rw[c0]at d0;clear x0 x1 x2 x3 c0 c1 c2;obtain⟨x0,x1,x2,x3⟩:=OA HWr.out;have hH2:w.heap.size<wr.heap.size:=block_lt_of_cell x0;have hH3:wq.heap.size<wr.heap.size:=block_lt_of_cell y0;by_cases hjl:j<c.Zi k
          ·have SR:Hid (Sl wr pc (c.Zi k*4) (fun j=>.int .i64 (c.code k j))):=SC.out.below (ij HWr.out);have S2r:Hid (Sl wr p2 (c.qj*3) (fun j=>.int .i64 (c.ch j))):=S2.out.below (ij HWr.out);have S3r:Hid (Sl wr p3 c.nD (fun j=>.int .i64 (c.dv j))):=S3.out.below (ij HWr.out);obtain⟨bc,zr0,rfl,hc⟩:=SR.out.at E0;have e0:=hc (j*4) E0;have e1:=hc (j*4+1) E0;have e2:=hc (j*4+2) E0;have e3:=hc (j*4+3) E0;rw[<-Nat.add_assoc]at e1 e2 e3;clear hc;by_cases gl:gy c k j
           ·have HO:Hid (gy c k j):=gl;clear gl;have HQ:Hid (∀W:ui,(∀a v,wr.cell? a=yi v->W.cell? a=yi v)->Calls prog 69 #[.agg #[.slice (yi ⟨b,off,Ai⟩) c.nC yj,.slice p1 c.nT wj,.slice p2 c.qj cap2,.slice p3 c.nD nk],.int .i64 k,.agg #[.int .i64 (c.code k (j*4)),.int .i64 (c.code k (j*4+1)),.int .i64 (c.code k (j*4+2)),.int .i64 (c.code k (j*4+3))]] W fun e w'=>e=.returned (.bool ji)/\Below W.heap.size W w'):=
             fun W hW=>sk.says (ny c _ b off yj k Zr cap2 nk _ p2 p3 _ _ _ _ W Wi (hW _ _ d0) (S2r.out.keep hW) B2.out (S3r.out.keep hW) B3.out) HO.out
            go_wp2_with fail
            go_region_with (go_at_call 69;refine(HQ.out _ (by exact fun _ _ h=>h)).mono ?_;rintro e w' ⟨rfl,Wj⟩)
            all_goals go_wp2_with fail
            all_goals
             have iK:Hid (Below wr.heap.size wr w'):=⟨Wj.os,Wj.tape,Wj.output,Wj.size,Wj.block⟩;exact⟨⟨j+1,E0,J1,HJ.out.step HO.out,HZ.out.trans (iK.out.mono E0)⟩,U1⟩
           ·have HO:Hid (¬gy c k j):=gl;have C8:Hid (Ui c 5 k):=Ui.c8 N1.out N2.out N3.out n4 N5.out n6 N7.out ⟨Wi,fun h=>gl (h.2.2.2 j hjl),HI.out⟩;clear gl;have HQ:Hid (∀W:ui,(∀a v,wr.cell? a=yi v->W.cell? a=yi v)->Calls prog 69 #[.agg #[.slice (yi ⟨b,off,Ai⟩) c.nC yj,.slice p1 c.nT wj,.slice p2 c.qj cap2,.slice p3 c.nD nk],.int .i64 k,.agg #[.int .i64 (c.code k (j*4)),.int .i64 (c.code k (j*4+1)),.int .i64 (c.code k (j*4+2)),.int .i64 (c.code k (j*4+3))]] W fun e w'=>e=.returned (.bool gi)/\Below W.heap.size W w'):=
             fun W hW=>sk.Lp (ny c _ b off yj k Zr cap2 nk _ p2 p3 _ _ _ _ W Wi (hW _ _ d0) (S2r.out.keep hW) B2.out (S3r.out.keep hW) B3.out) HO.out
            go_wp2_with fail
            go_region_with (go_at_call 69;refine(HQ.out _ (by exact fun _ _ h=>h)).mono ?_;rintro e w' ⟨rfl,Wj⟩)
            all_goals go_wp2_with fail
            all_goals
             have iK:Hid (Below wr.heap.size wr w'):=⟨Wj.os,Wj.tape,Wj.output,Wj.size,Wj.block⟩
             go_ret2
             exact vD.mk C8.out (ij (HWr.out.trans (iK.out.mono E0)))
          ·obtain rfl:j=c.Zi k:=by omega
           go_wp2_with fail
           exact⟨⟨k+1,E0,J1,HI.out.step (HK.out HJ.out),(HW.out.alloc E0 _).trans (HZ.out.mono E0)⟩,U1⟩
        ·obtain rfl:k=c.nC:=by omega
         go_wp2_with fail
         go_ret2
         exact vD.mk (Ui.c9 N1.out N2.out N3.out n4 N5.out n6 N7.out HI.out) (ij HW.out)
end Go.Proofs.YtdoghgnifkgfdaaGreat
