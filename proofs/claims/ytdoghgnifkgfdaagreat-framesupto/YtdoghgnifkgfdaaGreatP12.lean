import Derived.Test.YtdoghgnifkgfdaaGreatP00
import Derived.Test.YtdoghgnifkgfdaaGreatP09
import Derived.Test.YtdoghgnifkgfdaaGreatP10
import Derived.Test.YtdoghgnifkgfdaaGreatP11
set_option maxRecDepth 100000
set_option maxHeartbeats 16000000
open Option renaming none->Ai,some->yi
open Go renaming World->ui,Value->ti,undef->ri
open Bool renaming true->ji,false->gi
namespace Go.Proofs.YtdoghgnifkgfdaaGreat
open Tryz Go.RowKit Go.Maps
def cells5(a b c d e:ti)(j:Nat):Value:=if j=0 then a else if j=1 then b else if j=2 then c else if j=3 then d else e
def RZ(bw:Nat)(ks rs:ti)(j:Nat):Prop:=j=bw\/ks.ownBlock=yi j\/rs.ownBlock=yi j
theorem D80:(prog.info? 43).map (fun i=>(i.zero,i.size,i.bytes))=yi (yi (.pointer Ai),1,8):=J0
theorem K80:(prog.info? 83).map (fun i=>(i.zero,i.size,i.bytes))=yi (yi (.pointer Ai),1,8):=J0
theorem k20 : (Tryz.f36.name == "runtime.NumGoroutine") = gi := J0
theorem S_:Tryz.f36.body.isNone=false:=J0
theorem S40 : (Tryz.f42.name == "runtime.NumGoroutine") = gi := J0
theorem X40:Tryz.f42.body.isNone=false:=J0
theorem YV(c:vl)(cb:Nat->Nat)(j:Nat):(Rm c cb j).oneCell'=true:=by
 unfold Rm zj;repeat' split
 all_goals rfl
theorem DZ(nl:Bool)(b n:Nat):(zj nl b n).oneCell'=true:=by
 unfold zj;split<;>rfl
theorem vz{w:ui}{nl:Bool}{b n k bn:Nat}{z:Nat->Int}(h:Yu w nl b n k z)(hz:nl=ji->n=0)(hb:bn*n<=140737488355328):Hu w (zj nl b n) nl n k z bn:=by
 cases nl
 ·obtain⟨ty,hr⟩:=h rfl;exact⟨yi ⟨b,0,Ai⟩,n+2,rfl,E0,P0,P0,hb,(hr.EU (Nat.mul_le_mul_right _ E0)).congr (fun j hj=>J4)⟩
 ·obtain rfl:=hz rfl;exact⟨Ai,0,rfl,E0,P0,P0,hb,.inl P0⟩
def sw(c:vl):vl:={c with jC:=fun _=>gi}
theorem Yu.below{w w':ui}{nl:Bool}{b n k:Nat}{z:Nat->Int}(h:Yu w nl b n k z)(hb:Below w.heap.size w w'):Yu w' nl b n k z:=fun hn=>by
 obtain⟨ty,hr⟩:=h hn;exact⟨ty,hr.below hb hr.lt⟩
theorem Ik.below{w w':ui}{c:vl}{k lo hi:Nat}{cb:Nat->Nat}(h:Ik w c k lo hi cb)(hb:Below w.heap.size w w'):Ik w' c k lo hi cb:=
 ⟨fun i hi=>(h.code i hi).below hb,fun i hi=>(h.img i hi).below hb,h.lo,h.ord⟩
theorem Ta0{c:vl}{w0 w:ui}{B hi Ny gC gT yo Zu:Nat}{cb rb:Nat->Nat}{v0 v1 v2 v3 i0 i1:ti}(h:Bq w0 v0 v1 v2 v3 c)(Pm:Ik w c c.nC B hi cb)(Nk:∀i,i<c.nT->Yu w gi (rb i) (c.nRow i) 2 (c.row i)/\hi<=rb i/\rb i<Ny)
  (yB:Yu w c.Jt yo c.qj 3 c.ch)(hdv:Yu w c.Ws Zu c.nD 1 c.dv)(rC:Ei w gC ((c.nC+2)*3) 53 (Dx c.nC (Rm c cb)))(rT:Ei w gT (c.nT+2) 100 (outT c.nT (fun i=>zj gi (rb i) (c.nRow i))))
  (e0:i0=if c.kE then .slice Ai 0 0 else .slice (yi ⟨gC,0,Ai⟩) c.nC (c.nC+2))(e1:i1=if c.kD then .slice Ai 0 0 else .slice (yi ⟨gT,0,Ai⟩) c.nT (c.nT+2)):
  Bq w i0 i1 (zj c.Jt yo c.qj) (zj c.Ws Zu c.nD) (sw c):=by
 obtain⟨⟨p0,yj,F0,rfl,-,n0,z0,b0,-,k0⟩,⟨p1,wj,F1,rfl,-,n1,z1,b1,-,k1⟩,⟨p2,cap2,rfl,-,n2,z2,b2,-⟩,⟨p3,nk,rfl,-,n3,z3,b3,-⟩⟩:=h;refine⟨?_,?_,vz yB (fun h=>(z2 (n2.2 h)).1) b2,vz hdv (fun h=>(z3 (n3.2 h)).1) b3⟩
 ·have inner:∀i,i<c.nC->Hu w (Rm c cb (i*3)) (c.Xl i) (c.Zi i) 4 (c.code i) 32/\Hu w (Rm c cb (i*3+1)) (c.Yl i) (c.Vj i) 1 (c.img i) 8/\Rm c cb (i*3+2)=.int .i64 (c.lim i):=fun i hi=>by
   obtain⟨a1,a2,a3⟩:=Kq c cb i;obtain⟨⟨pc,Zr,_,-,nc,zc,bc,-⟩,⟨pi,Yw,_,-,ni,zi,bi,-⟩,-⟩:=k0 i hi;rw[a1,a2,a3];exact⟨vz (Pm.code i hi) (fun h=>(zc (nc.2 h)).1) bc,vz (Pm.img i hi) (fun h=>(zi (ni.2 h)).1) bi,rfl⟩
  cases hN:c.kE
  ·rw[hN]at e0;refine⟨yi ⟨gC,0,Ai⟩,c.nC+2,Rm c cb,e0,by show c.nC<=_;omega,by simp[sw,hN],P0,b0,(rC.EU (by show c.nC*3<=_;omega)).congr (fun j hj=>?_),inner⟩;exact if_pos hj
  ·rw[hN]at e0;have hz:=z0 (n0.2 hN);refine⟨Ai,0,Rm c cb,by rw[e0];show _=Value.slice Ai c.nC 0;rw[hz.1];rfl,by show c.nC<=_;omega,by simp[sw,hN],fun _=>⟨hz.1,rfl⟩,b0,.inl (by show c.nC*3=0;omega),inner⟩
 ·have inner:∀i,i<c.nT->Hu w (zj gi (rb i) (c.nRow i)) gi (c.nRow i) 2 (c.row i) 16:=fun i hi=>by
   obtain⟨pr,JI,_,-,nr,zr,br,-⟩:=k1 i hi;exact vz (Nk i hi).1 (fun h=>V3) br
  cases hN:c.kD
  ·rw[hN]at e1;refine⟨yi ⟨gT,0,Ai⟩,c.nT+2,fun i=>zj gi (rb i) (c.nRow i),e1,by show c.nT<=_;omega,by simp[sw,hN],P0,b1,(rT.EU (by show c.nT<=_;omega)).congr (fun j hj=>?_),inner⟩;exact if_pos hj
  ·rw[hN]at e1;have hz:=z1 (n1.2 hN);refine⟨Ai,0,fun i=>zj gi (rb i) (c.nRow i),by rw[e1];show _=Value.slice Ai c.nT 0;rw[hz.1];rfl,by show c.nT<=_;omega,by simp[sw,hN],fun _=>⟨hz.1,rfl⟩,b1,.inl (by show c.nT=0;omega),inner⟩
theorem Dn:(prog.info? 111).map (fun i=>(i.zero,i.size,i.bytes))=yi (yi (.agg #[.int .i64 0,.int .i64 0,.int .i64 0]),3,24):=J0
def bA(w:ui)(t k n:Nat)(f:Nat->ti)(e:Ending)(w':ui):Prop:=
 ∃v,e=.returned v/\Below w.heap.size w w'/\w'.ownsRow w.heap.size t k v n ((List.range (n*k)).map f)
theorem NP(p:Option Addr)(n cap:Nat)(z:Nat->Int)(w:ui)(hs:Sl w p (n*3) (fun j=>.int .i64 (z j)))(hz:p=Ai->n=0/\cap=0)(hb:24*n<=140737488355328):
  Calls prog 60 #[.slice p n cap] w (bA w 111 3 n (fun j=>.int .i64 (z j))):=by
 cases p with
 |none=>
  obtain⟨rfl,rfl⟩:=hz rfl;refine gg fun heq=>?_
  go_enter func60,ntmps60
  go_wp2_with fail
  go_ret;exact⟨_,rfl,Below.refl _ _,I6⟩
 |some ad=>
  by_cases h0:n=0
  ·subst h0;refine gg fun heq=>?_
   go_enter func60,ntmps60
   go_wp2_with fail
   go_ret;exact⟨_,rfl,(Below.refl _ _).alloc (Nat.le_refl _) _,by simpa using jr w 111 3⟩
  ·obtain⟨b,o,e,hc⟩:=hs.at E0;obtain rfl:ad=⟨b,o,Ai⟩:=Option.some.inj e;refine gg fun heq=>?_;have HC:Hid (∀j,j<n*3->w.cell? ⟨b,o+j,Ai⟩=yi (.int .i64 (z j))):=hc;have HBn:Hid (24*n<=140737488355328):=hb;have HH:Hid (b<w.heap.size):=block_lt_of_cell (hc 0 E0);have hn0:0<n:=by omega
   clear hc hs hz e h0 hb
   go_enter func60,ntmps60
   go_wp2_with (at_builtin;refine Xo _ rfl _ _ 61 rfl w.heap.size 111 _ 3 24 underlying61 Dn rfl E0 (.slice (yi ⟨w.heap.size,0,Ai⟩) 0 0) 0 [] rfl (by exact jr w 111 3) b o n cap (fun j=>.int .i64 (z j)) rfl (fun j hj=>by
    refine(Below.cell ((Below.refl _ w).alloc (Nat.le_refl _) _) HH.out).trans (HC.out j hj)) (fun j=>rfl) hn0 Z5 d6 P0 ?_)
   intro g cc w1 rj hg hat Wi;have HF:Hid (bA w 111 3 n (fun j=>.int .i64 (z j)) (.returned (.slice (yi ⟨g,0,Ai⟩) n cc)) w1):=
    ⟨_,rfl,((Below.refl _ w).alloc (Nat.le_refl _) _).grown hg P0 (fun j hj=>j6),by simpa using rj⟩
   exact Rf
theorem ZM(p:Option Addr)(n cap:Nat)(z:Nat->Int)(w:ui)(hs:Sl w p (n*1) (fun j=>.int .i64 (z j)))(hz:p=Ai->n=0/\cap=0)(hb:8*n<=140737488355328):
  Calls prog 85 #[.slice p n cap] w (bA w 2 1 n (fun j=>.int .i64 (z j))):=by
 cases p with
 |none=>
  obtain⟨rfl,rfl⟩:=hz rfl;refine Nb fun heq=>?_
  go_enter func85,ntmps85
  go_wp2_with fail
  go_ret;exact⟨_,rfl,Below.refl _ _,I6⟩
 |some ad=>
  by_cases h0:n=0
  ·subst h0;refine Nb fun heq=>?_
   go_enter func85,ntmps85
   go_wp2_with fail
   go_ret;exact⟨_,rfl,(Below.refl _ _).alloc (Nat.le_refl _) _,by simpa using jr w 2 1⟩
  ·obtain⟨b,o,e,hc⟩:=hs.at E0;obtain rfl:ad=⟨b,o,Ai⟩:=Option.some.inj e;refine Nb fun heq=>?_;have HC:Hid (∀j,j<n*1->w.cell? ⟨b,o+j,Ai⟩=yi (.int .i64 (z j))):=hc;have HBn:Hid (8*n<=140737488355328):=hb;have HH:Hid (b<w.heap.size):=block_lt_of_cell (hc 0 E0);have hn0:0<n:=by omega
   clear hc hs hz e h0 hb
   go_enter func85,ntmps85
   go_wp2_with (at_builtin;refine Xo _ rfl _ _ 51 rfl w.heap.size 2 _ 1 8 underlying51 Dm rfl E0 (.slice (yi ⟨w.heap.size,0,Ai⟩) 0 0) 0 [] rfl (by exact jr w 2 1) b o n cap (fun j=>.int .i64 (z j)) rfl (fun j hj=>by
    refine(Below.cell ((Below.refl _ w).alloc (Nat.le_refl _) _) HH.out).trans (HC.out j hj)) (fun j=>rfl) hn0 Z5 d6 P0 ?_)
   intro g cc w1 rj hg hat Wi;have HF:Hid (bA w 2 1 n (fun j=>.int .i64 (z j)) (.returned (.slice (yi ⟨g,0,Ai⟩) n cc)) w1):=
    ⟨_,rfl,((Below.refl _ w).alloc (Nat.le_refl _) _).grown hg P0 (fun j hj=>j6),by simpa using rj⟩
   exact Rf
theorem YM(p:Option Addr)(n cap:Nat)(z:Nat->Int)(w:ui)(hs:Sl w p (n*4) (fun j=>.int .i64 (z j)))(hz:p=Ai->n=0/\cap=0)(hb:32*n<=140737488355328):
  Calls prog 79 #[.slice p n cap] w (bA w 97 4 n (fun j=>.int .i64 (z j))):=by
 cases p with
 |none=>
  obtain⟨rfl,rfl⟩:=hz rfl;refine Eb fun heq=>?_
  go_enter func79,ntmps79
  go_wp2_with fail
  go_ret;exact⟨_,rfl,Below.refl _ _,I6⟩
 |some ad=>
  by_cases h0:n=0
  ·subst h0;refine Eb fun heq=>?_
   go_enter func79,ntmps79
   go_wp2_with fail
   go_ret;exact⟨_,rfl,(Below.refl _ _).alloc (Nat.le_refl _) _,by simpa using jr w 97 4⟩
  ·obtain⟨b,o,e,hc⟩:=hs.at E0;obtain rfl:ad=⟨b,o,Ai⟩:=Option.some.inj e;refine Eb fun heq=>?_;have HC:Hid (∀j,j<n*4->w.cell? ⟨b,o+j,Ai⟩=yi (.int .i64 (z j))):=hc;have HBn:Hid (32*n<=140737488355328):=hb;have HH:Hid (b<w.heap.size):=block_lt_of_cell (hc 0 E0);have hn0:0<n:=by omega
   clear hc hs hz e h0 hb
   go_enter func79,ntmps79
   go_wp2_with (at_builtin;refine Xo _ rfl _ _ 50 rfl w.heap.size 97 _ 4 32 underlying50 RA rfl E0 (.slice (yi ⟨w.heap.size,0,Ai⟩) 0 0) 0 [] rfl (by exact jr w 97 4) b o n cap (fun j=>.int .i64 (z j)) rfl (fun j hj=>by
    refine(Below.cell ((Below.refl _ w).alloc (Nat.le_refl _) _) HH.out).trans (HC.out j hj)) (fun j=>rfl) hn0 Z5 d6 P0 ?_)
   intro g cc w1 rj hg hat Wi;have HF:Hid (bA w 97 4 n (fun j=>.int .i64 (z j)) (.returned (.slice (yi ⟨g,0,Ai⟩) n cc)) w1):=
    ⟨_,rfl,((Below.refl _ w).alloc (Nat.le_refl _) _).grown hg P0 (fun j hj=>j6),by simpa using rj⟩
   exact Rf
theorem vI(ad:Addr)(n cap:Nat)(z:Nat->Int)(w:ui)(hs:Sl w (yi ad) (n*2) (fun j=>.int .i64 (z j)))(hb:16*n<=140737488355328):
  Calls prog 52 #[.slice (yi ad) n cap] w fun e w'=>∃g cc,e=.returned (.slice (yi ⟨g,0,Ai⟩) n cc)/\Below w.heap.size w w'/\w'.ownsRow w.heap.size 102 2 (.slice (yi ⟨g,0,Ai⟩) n cc) n ((List.range (n*2)).map fun j=>.int .i64 (z j)):=by
 by_cases h0:n=0
 ·subst h0;have heq:=fun W a n c=>Go.Lib.run_eql_slice_nil (P:=prog) W 100 102 a n c 0 0 underlying100
  go_enter func52,ntmps52
  go_wp2_with fail
  go_ret;exact⟨_,_,rfl,(Below.refl _ _).alloc (Nat.le_refl _) _,by simpa using jr w 102 2⟩
 ·obtain⟨b,o,e,hc⟩:=hs.at E0;obtain rfl:ad=⟨b,o,Ai⟩:=Option.some.inj e;have heq:=fun W a n c=>Go.Lib.run_eql_slice_nil (P:=prog) W 100 102 a n c 0 0 underlying100;have HC:Hid (∀j,j<n*2->w.cell? ⟨b,o+j,Ai⟩=yi (.int .i64 (z j))):=hc;have HBn:Hid (16*n<=140737488355328):=hb;have HH:Hid (b<w.heap.size):=block_lt_of_cell (hc 0 E0);have hn0:0<n:=by omega
  clear hc hs e h0 hb
  go_enter func52,ntmps52
  go_wp2_with (at_builtin;refine Xo _ rfl _ _ 100 rfl w.heap.size 102 _ 2 16 underlying100 Rx rfl E0 (.slice (yi ⟨w.heap.size,0,Ai⟩) 0 0) 0 [] rfl (by exact jr w 102 2) b o n cap (fun j=>.int .i64 (z j)) rfl (fun j hj=>by
   refine(Below.cell ((Below.refl _ w).alloc (Nat.le_refl _) _) HH.out).trans (HC.out j hj)) (fun j=>rfl) hn0 Z5 d6 P0 ?_)
  intro g cc w1 rj hg hat Wi;have HF:Hid (Below w.heap.size w w1/\w1.ownsRow w.heap.size 102 2 (.slice (yi ⟨g,0,Ai⟩) n cc) n ((List.range (n*2)).map fun j=>.int .i64 (z j))):=⟨((Below.refl _ w).alloc (Nat.le_refl _) _).grown hg P0 (fun j hj=>j6),by simpa using rj⟩;clear rj hg hat Wi;go_wp2_with fail;go_ret;exact⟨g,cc,P0,HF.out.1,HF.out.2⟩
def XB(w:ui)(num:Int)(np:Option Addr)(lim:Int)(m0 m1:Nat)(z0 z1:Nat->Int)(kb:Nat)(w':ui):Prop:=
 ∃cv,w.heap.size<=kb/\Ei w' kb 48 186 (cellV num (.pointer np) cv (qt lim m1 z1))/\w'.ownsRow w.heap.size 97 4 cv m0 ((List.range (m0*4)).map fun j=>.int .i64 (z0 j))
theorem dq{w:ui}{b b' e size n:Nat}{v:ti}{xs:List ti}(h:w.ownsRow b e size v n xs)(hb:b'<=b):w.ownsRow b' e size v n xs:=by
 rcases h with⟨hl,h|⟨g,cap,cur,hv,hg,h1⟩⟩
 ·exact⟨hl,.inl h⟩
 ·exact⟨hl,.inr ⟨g,cap,cur,hv,Nat.le_trans hb hg,h1⟩⟩
theorem GM(num:Int)(np:Option Addr)(v0 v1:ti)(n0 n1:Bool)(m0 m1:Nat)(z0 z1:Nat->Int)(lim:Int)(w:ui)(h0:Hu w v0 n0 m0 4 z0 32)(h1:Hu w v1 n1 m1 1 z1 8)(h16:m1<=16):
  Calls prog 53 #[.int .i64 num,.agg #[v0,v1,.int .i64 lim],.pointer np] w fun e w'=>∃kb,e=.returned (.pointer (yi ⟨kb,0,Ai⟩))/\Below w.heap.size w w'/\XB w num np lim m0 m1 z0 z1 kb w':=by
 obtain⟨p0,yj,rfl,-,-,y0,b0,s0⟩:=h0;obtain⟨p1,wj,rfl,-,-,y1,b1,s1⟩:=h1;refine sd fun HB=>?_;have HX:Hid (Ei (w.alloc (.cells #[.slice p0 m0 yj,.slice p1 m1 wj,.int .i64 lim] 53)) w.heap.size 3 53 (cells3 (.slice p0 m0 yj) (.slice p1 m1 wj) (.int .i64 lim))):=row3 w _ _ _ _;have S0:Hid (Sl w p0 (m0*4) (fun j=>.int .i64 (z0 j))):=s0;have S1:Hid (Sl w p1 (m1*1) (fun j=>.int .i64 (z1 j))):=s1;have Y0:Hid (p0=Ai->m0=0/\yj=0):=y0;have B0:Hid (32*m0<=140737488355328):=b0;clear s0 s1 y0 b0
 go_enter func53,ntmps53
 go_wp2_with fail
 go_region_law
  (first
   |(refine Ot rfl 79 _ _ rfl _ rfl Tryz.f79 func79 oM NM (fun r w'=>∃q cc,r=.slice q m0 cc/\Below (w.heap.size+1) (w.alloc (.cells #[.slice p0 m0 yj,.slice p1 m1 wj,.int .i64 lim] 53)) w'/\w'.ownsRow w.heap.size 97 4 (.slice q m0 cc) m0 ((List.range (m0*4)).map fun j=>.int .i64 (z0 j))) ?_ ?_
     ·refine(YM p0 m0 yj z0 (w.alloc (.cells #[.slice p0 m0 yj,.slice p1 m1 wj,.int .i64 lim] 53)).drew (S0.out.below (HB.out _).drew) Y0.out B0.out).mono ?_;rintro e w' ⟨v,h1,h2,h3⟩;obtain⟨q,cc,rfl,-⟩:=Vx h3;exact⟨_,h1,q,cc,rfl,⟨h2.os,h2.tape,h2.output,by simpa using h2.size,fun j hj=>h2.block j E2⟩,dq h3 P0⟩
     rintro r wl ⟨q,cc,rfl,yo,hql⟩;have Yv:Hid (Below (w.heap.size+1) (w.alloc (.cells #[.slice p0 m0 yj,.slice p1 m1 wj,.int .i64 lim] 53)) wl):=yo;have HQl:Hid (wl.ownsRow w.heap.size 97 4 (.slice q m0 cc) m0 ((List.range (m0*4)).map fun j=>.int .i64 (z0 j))):=hql;obtain⟨j0,j1,j2⟩:=(HX.out.below Yv.out E0).at3;clear yo hql))
 all_goals
  have HC:Hid (Ei (wl.alloc (.cells (List.toArray (.int .i64 num::.pointer np::.slice q m0 cc::.int .i64 lim::.int .i64 0::.int .i64 0::.int .i64 0::.int .i64 0::.int .i64 0::.int .i64 0::.int .i64 0::.int .i64 0::.int .i64 0::.int .i64 0::.int .i64 0::.int .i64 0::.int .i64 0::.int .i64 0::.int .i64 0::.int .i64 0::.int .i64 0::.int .i64 0::.int .i64 0::.int .i64 0::.int .i64 0::.int .i64 0::.int .i64 0::.int .i64 0::.int .i64 0::.int .i64 0::.int .i64 0::.int .i64 0::.int .i64 0::.int .i64 0::.int .i64 0::.int .i64 0::.int .i64 0::.int .i64 0::.int .i64 0::.int .i64 0::.int .i64 0::.int .i64 0::.int .i64 0::.int .i64 0::.int .i64 0::.int .i64 0::.int .i64 0::.int .i64 0::[])) 186)) wl.heap.size 48 186 (fun j=>if j=0 then .int .i64 num else if j=1 then .pointer np else if j=2 then .slice q m0 cc else .int .i64 (if j=3 then lim else 0))):=(row48 wl _ _ _ _ _).congr fun j _=>by
   by_cases h0:j=0
   ·simp[h0]
   ·by_cases h1:j=1
    ·simp[h1]
    ·by_cases h2:j=2
     ·simp[h2]
     ·by_cases h3:j=3
      ·simp[h3]
      ·simp[h0,h1,h2,h3]
  have j_:Hid (Below w.heap.size w (wl.alloc (.cells (List.toArray (.int .i64 num::.pointer np::.slice q m0 cc::.int .i64 lim::.int .i64 0::.int .i64 0::.int .i64 0::.int .i64 0::.int .i64 0::.int .i64 0::.int .i64 0::.int .i64 0::.int .i64 0::.int .i64 0::.int .i64 0::.int .i64 0::.int .i64 0::.int .i64 0::.int .i64 0::.int .i64 0::.int .i64 0::.int .i64 0::.int .i64 0::.int .i64 0::.int .i64 0::.int .i64 0::.int .i64 0::.int .i64 0::.int .i64 0::.int .i64 0::.int .i64 0::.int .i64 0::.int .i64 0::.int .i64 0::.int .i64 0::.int .i64 0::.int .i64 0::.int .i64 0::.int .i64 0::.int .i64 0::.int .i64 0::.int .i64 0::.int .i64 0::.int .i64 0::.int .i64 0::.int .i64 0::.int .i64 0::.int .i64 0::[])) 186))):=(((HB.out _).trans (Yv.out.mono E0)).alloc J6 _);have HBq:Hid (Below wl.heap.size wl (wl.alloc (.cells (List.toArray (.int .i64 num::.pointer np::.slice q m0 cc::.int .i64 lim::.int .i64 0::.int .i64 0::.int .i64 0::.int .i64 0::.int .i64 0::.int .i64 0::.int .i64 0::.int .i64 0::.int .i64 0::.int .i64 0::.int .i64 0::.int .i64 0::.int .i64 0::.int .i64 0::.int .i64 0::.int .i64 0::.int .i64 0::.int .i64 0::.int .i64 0::.int .i64 0::.int .i64 0::.int .i64 0::.int .i64 0::.int .i64 0::.int .i64 0::.int .i64 0::.int .i64 0::.int .i64 0::.int .i64 0::.int .i64 0::.int .i64 0::.int .i64 0::.int .i64 0::.int .i64 0::.int .i64 0::.int .i64 0::.int .i64 0::.int .i64 0::.int .i64 0::.int .i64 0::.int .i64 0::.int .i64 0::.int .i64 0::.int .i64 0::[])) 186))):=(Below.refl _ _).alloc (Nat.le_refl _) _;have hwl:w.heap.size<wl.heap.size:=by have:=Yv.out.size;simp at this;omega
  have vA:(wl.alloc (.cells (List.toArray (.int .i64 num::.pointer np::.slice q m0 cc::.int .i64 lim::.int .i64 0::.int .i64 0::.int .i64 0::.int .i64 0::.int .i64 0::.int .i64 0::.int .i64 0::.int .i64 0::.int .i64 0::.int .i64 0::.int .i64 0::.int .i64 0::.int .i64 0::.int .i64 0::.int .i64 0::.int .i64 0::.int .i64 0::.int .i64 0::.int .i64 0::.int .i64 0::.int .i64 0::.int .i64 0::.int .i64 0::.int .i64 0::.int .i64 0::.int .i64 0::.int .i64 0::.int .i64 0::.int .i64 0::.int .i64 0::.int .i64 0::.int .i64 0::.int .i64 0::.int .i64 0::.int .i64 0::.int .i64 0::.int .i64 0::.int .i64 0::.int .i64 0::.int .i64 0::.int .i64 0::.int .i64 0::.int .i64 0::.int .i64 0::[])) 186)).cell? ⟨w.heap.size,1,Ai⟩=yi (.slice p1 m1 wj):=(((Below.refl _ wl).alloc (Nat.le_refl _) _).cell (p:=⟨w.heap.size,1,Ai⟩) hwl).trans j1;have hZ:(wl.alloc (.cells (List.toArray (.int .i64 num::.pointer np::.slice q m0 cc::.int .i64 lim::.int .i64 0::.int .i64 0::.int .i64 0::.int .i64 0::.int .i64 0::.int .i64 0::.int .i64 0::.int .i64 0::.int .i64 0::.int .i64 0::.int .i64 0::.int .i64 0::.int .i64 0::.int .i64 0::.int .i64 0::.int .i64 0::.int .i64 0::.int .i64 0::.int .i64 0::.int .i64 0::.int .i64 0::.int .i64 0::.int .i64 0::.int .i64 0::.int .i64 0::.int .i64 0::.int .i64 0::.int .i64 0::.int .i64 0::.int .i64 0::.int .i64 0::.int .i64 0::.int .i64 0::.int .i64 0::.int .i64 0::.int .i64 0::.int .i64 0::.int .i64 0::.int .i64 0::.int .i64 0::.int .i64 0::.int .i64 0::.int .i64 0::.int .i64 0::[])) 186)).heap.size=wl.heap.size+1:=P0;clear Yv j0 j1 j2 HX;generalize (wl.alloc (.cells (List.toArray (.int .i64 num::.pointer np::.slice q m0 cc::.int .i64 lim::.int .i64 0::.int .i64 0::.int .i64 0::.int .i64 0::.int .i64 0::.int .i64 0::.int .i64 0::.int .i64 0::.int .i64 0::.int .i64 0::.int .i64 0::.int .i64 0::.int .i64 0::.int .i64 0::.int .i64 0::.int .i64 0::.int .i64 0::.int .i64 0::.int .i64 0::.int .i64 0::.int .i64 0::.int .i64 0::.int .i64 0::.int .i64 0::.int .i64 0::.int .i64 0::.int .i64 0::.int .i64 0::.int .i64 0::.int .i64 0::.int .i64 0::.int .i64 0::.int .i64 0::.int .i64 0::.int .i64 0::.int .i64 0::.int .i64 0::.int .i64 0::.int .i64 0::.int .i64 0::.int .i64 0::.int .i64 0::.int .i64 0::.int .i64 0::[])) 186))=wc at *;generalize (Value.agg (List.toArray (.int .i64 num::.pointer np::.slice q m0 cc::.int .i64 lim::.int .i64 0::.int .i64 0::.int .i64 0::.int .i64 0::.int .i64 0::.int .i64 0::.int .i64 0::.int .i64 0::.int .i64 0::.int .i64 0::.int .i64 0::.int .i64 0::.int .i64 0::.int .i64 0::.int .i64 0::.int .i64 0::.int .i64 0::.int .i64 0::.int .i64 0::.int .i64 0::.int .i64 0::.int .i64 0::.int .i64 0::.int .i64 0::.int .i64 0::.int .i64 0::.int .i64 0::.int .i64 0::.int .i64 0::.int .i64 0::.int .i64 0::.int .i64 0::.int .i64 0::.int .i64 0::.int .i64 0::.int .i64 0::.int .i64 0::.int .i64 0::.int .i64 0::.int .i64 0::.int .i64 0::.int .i64 0::.int .i64 0::.int .i64 0::[])))=V;go_wp2_with fail
  go_region_law
   (refine ZL rfl _ _ 51 51 rfl 2 _ 1 8 underlying51 Dm wl.heap.size 8 16 16 p1 m1 wj rfl rfl 48 186 (fun j=>if j=0 then .int .i64 num else if j=1 then .pointer np else if j=2 then .slice q m0 cc else .int .i64 (if j=3 then lim else 0)) (fun j=>.int .i64 (z1 j)) h16 ?_ E0 ?_ (fun _ _=>rfl) (fun h=>(y1 h).1) ?_
    ·exact HC.out
    ·exact(S1.out.below j_.out.drew)
    intro w2 DI hg2 rP;have HG2:Hid (World.grownBy _ w2 (yi wl.heap.size)):=hg2;have HE:Hid (Ei w2 wl.heap.size 48 186 (fun j=>if j=0 then .int .i64 num else if j=1 then .pointer np else if j=2 then .slice q m0 cc else .int .i64 (if j=3 then lim else if 8<=j/\j<8+m1*1 then z1 (j-8)else 0))):=DI.congr (fun j hj=>by
     show (if 8<=j/\j<8+m1*1 then (.int .i64 (z1 (j-8)):ti)else if j=0 then _ else if j=1 then _ else if j=2 then _ else _)=_;by_cases h:8<=j/\j<8+m1*1
     ·rw[if_pos h,if_neg E0,if_neg E0,if_neg E0,if_neg E0,if_pos h]
     ·rw[if_neg h];by_cases h3:j=3
      ·simp[h3]
      ·simp only[h3,if_false,h])
    clear DI hg2 rP)
 all_goals
  have HF:Hid (Below w.heap.size w w2):=j_.out.drew.grown HG2.out (by show w.heap.size<=wc.heap.size;omega) (fun j hj=>Z2);have HFq:Hid (Below wl.heap.size wl w2):=HBq.out.drew.grown HG2.out (by show wl.heap.size<=wc.heap.size;omega) (fun j hj=>Z2);clear HC HG2 vA HBq;have hL1:((List.range 21).map (fun j=>Value.int .i64 (if 4+j=3 then lim else if 8<=4+j/\4+j<8+m1*1 then z1 (4+j-8)else 0))).length=21:=P0;have hL2:∀v∈(List.range 21).map (fun j=>Value.int .i64 (if 4+j=3 then lim else if 8<=4+j/\4+j<8+m1*1 then z1 (4+j-8)else 0)),v.oneCell'=true:=fun v hv=>by obtain⟨y,_,rfl⟩:=List.mem_map.1 hv;rfl
  have hL3:=FN HE.out;have HEL:Hid (∀j,j<21->((List.range 21).map (fun j=>Value.int .i64 (if 4+j=3 then lim else if 8<=4+j/\4+j<8+m1*1 then z1 (4+j-8)else 0))).getD j ri=.int .i64 (if 4+j=3 then lim else if 8<=4+j/\4+j<8+m1*1 then z1 (4+j-8)else 0)):=fun j hj=>by simp[hj]
  generalize (List.range 21).map (fun j=>Value.int .i64 (if 4+j=3 then lim else if 8<=4+j/\4+j<8+m1*1 then z1 (4+j-8)else 0))=L at *;have HL1:Hid (L.length=21):=hL1;have HL2:Hid (∀v∈L,v.oneCell'=ji):=hL2;have HL3:Hid (w2.rangeAt wl.heap.size 4 L):=hL3;have CQ:Hid (Option.map (fun x=>x.size) (prog.info? 184)=yi L.length):=by show _=_;rw[hL1];exact MA
  clear hL1 hL2 hL3;go_wp2_with (first|(refine wpList_load_mid rfl 184 _ rfl wl.heap.size 4 rfl L _ HL3.out underlying184 rfl CQ.out ?_)|(refine wpList_store_mid rfl 184 _ _ rfl wl.heap.size 25 L.toArray rfl rfl ?_ ?_ ?_ ?_))
  ·exact ZP HE.out HL1.out
  ·rw[List.size_toArray];exact CQ.out
  ·exact all_oneCell_toArray HL2.out
  have HF2:Hid (Below w.heap.size w (w2.setCells wl.heap.size 25 L)):=below_setCells HF.out E0 _ _;have HF3:Hid (Below wl.heap.size wl (w2.setCells wl.heap.size 25 L)):=below_setCells HFq.out (Nat.le_refl _) _ _;have HN:Hid (XB w num np lim m0 m1 z0 z1 wl.heap.size (w2.setCells wl.heap.size 25 L)):=by
   refine⟨.slice q m0 cc,E0,(HE.out.setCells L 25).congr fun j _=>?_,own_below HQl.out HF3.out⟩
   ·rw[HL1.out];unfold cellV qt;by_cases h:25<=j/\j<25+21
    ·rw[if_pos h,HEL.out (j-25) E0];repeat' split
     all_goals first
      |rfl
      |(exfalso;omega)
      |(congr 2;omega)
    ·rw[if_neg h];repeat' split
     all_goals first
      |rfl
      |(exfalso;omega)
      |(congr 2;omega)
  go_wp2_with fail
  go_ret;exact⟨_,rfl,HF2.out,HN.out⟩
end Go.Proofs.YtdoghgnifkgfdaaGreat
