import Derived.Test.YtdoghgnifkgfdaaGreatP00
import Derived.Test.YtdoghgnifkgfdaaGreatP09
import Derived.Test.YtdoghgnifkgfdaaGreatP12
import Derived.Test.YtdoghgnifkgfdaaGreatP13
import Derived.Test.YtdoghgnifkgfdaaGreatP14
import Derived.Test.YtdoghgnifkgfdaaGreatP21
import Derived.Test.YtdoghgnifkgfdaaGreatP32
import Derived.Test.YtdoghgnifkgfdaaGreatP36
set_option maxRecDepth 100000
set_option maxHeartbeats 16000000
open Option renaming none->Ai,some->yi
open Go renaming World->ui,Value->ti,undef->ri
open Bool renaming true->ji,false->gi
namespace Go.Proofs.YtdoghgnifkgfdaaGreat.Mute
open Tryz Go Go.Conc Go.RowKit Go.Maps
structure qy(w:ui)(bw m:Nat)(ks rs H2 H3 H4:ti)(xs ys:List ti):Prop where
 row:Ei w bw 5 79 (cells5 ks rs H2 H3 H4)
 k:w.ownsRow (bw+1) 43 1 ks m xs
 r:w.ownsRow (bw+1) 83 1 rs m ys
 ne:∀g,ks.ownBlock=yi g->rs.ownBlock≠yi g
theorem qy.below{w w':ui}{bw m:Nat}{ks rs H2 H3 H4:ti}{xs ys:List ti}(h:qy w bw m ks rs H2 H3 H4 xs ys)(hb:Below w.heap.size w w'):qy w' bw m ks rs H2 H3 H4 xs ys:=
 ⟨h.row.below hb h.row.lt,own_below h.k hb,own_below h.r hb,h.ne⟩
def WJ(c:vl)(B K nb:Nat)(v tr:ti)(w:ui):Prop:=
 ∃u xs,Ei w K 5 94 (su v (.int .i64 0) u (.pointer (yi ⟨nb,0,Ai⟩)) tr)/\w.ownsRow (K+1) 143 1 u c.nC xs/\Ext B c nb tr w/\(∃ys,w.ownsRow (K+1) 100 1 v c.nT ys/\zt B c c.nT ys w)/\Tt B c nb c.nC xs w
theorem JA.below{w w':ui}{c:vl}{B:Nat}{cb rb:Nat->Nat}{hb db:Nat}{p0:Option Addr}{yj:Nat}{p1:Option Addr}{wj hi Ny:Nat}{v0 v1 v2 v3:ti}(h:JA w c B cb rb hb db p0 yj p1 wj hi Ny v0 v1 v2 v3)(uk:Below w.heap.size w w'):JA w' c B cb rb hb db p0 yj p1 wj hi Ny v0 v1 v2 v3:=by
 obtain⟨h1,h2,h3,h4,h5,h6,h7,h8,h9,wI,VI,q_,h13,zN,h15,h16,h17,h18⟩:=h;exact⟨h1,h2,h3,h4.below uk,h5,h6,h7,h8.below uk,h9,wI,VI.below uk,q_,h13,fun i hi=>⟨(zN i hi).1.below uk,(zN i hi).2⟩,h15,h16.below uk,h17.below uk,h18⟩
theorem JA.lt{w:ui}{c:vl}{B:Nat}{cb rb:Nat->Nat}{hb db:Nat}{p0:Option Addr}{yj:Nat}{p1:Option Addr}{wj hi Ny:Nat}{v0 v1 v2 v3:ti}(h:JA w c B cb rb hb db p0 yj p1 wj hi Ny v0 v1 v2 v3){j:Nat}(hj:SRX c cb rb hb db j):j<w.heap.size:=by
 obtain⟨h1,h2,h3,h4,h5,h6,h7,h8,h9,wI,VI,q_,h13,zN,h15,h16,h17,h18⟩:=h;rcases hj with (⟨i,hi,hj⟩|⟨i,hi,rfl⟩)|⟨hn,rfl⟩|⟨hn,rfl⟩
 ·rcases hj with⟨hn,rfl⟩|⟨hn,rfl⟩
  ·obtain⟨ty,hr⟩:=VI.code i hi hn;exact hr.lt
  ·obtain⟨ty,hr⟩:=VI.img i hi hn;exact hr.lt
 ·obtain⟨ty,hr⟩:=(zN i hi).1 rfl;exact hr.lt
 ·obtain⟨ty,hr⟩:=h16 hn;exact hr.lt
 ·obtain⟨ty,hr⟩:=h17 hn;exact hr.lt
theorem YA{w w':ui}{b e s n B N:Nat}{v:ti}{xs:List ti}(h:w.ownsRow b e s v n xs)(hb:B<=b)(hN:∀g,v.ownBlock=yi g->g<N)(hu:∀x,B<=x->x<N->w'.heap[x]?=w.heap[x]?):w'.ownsRow b e s v n xs:=by
 rcases h with⟨hl,hv|⟨g,cap,cur,hv,hg,hh,hr⟩⟩
 ·exact⟨hl,.inl hv⟩
 ·exact⟨hl,.inr ⟨g,cap,cur,hv,hg,(hu g (Nat.le_trans hb hg) (hN g (by rw[hv];rfl))).trans hh,hr⟩⟩
theorem WJ.up{c:vl}{B K nb N:Nat}{v tr:ti}{w w':ui}(h:WJ c B K nb v tr w)(hK:B<=K)(hN:w.heap.size=N)(hu:∀x,B<=x->x<N->w'.heap[x]?=w.heap[x]?):WJ c B K nb v tr w':=by
 subst hN;obtain⟨u,xs,h1,h2,⟨⟨h3,ve,vq,vs,h4,h5,h5b,h5c,h5d,h5e,h5f⟩,T,h6,h7,h8⟩,⟨ys,h9,wI⟩,kb,VI,q_⟩:=h;refine⟨u,xs,h1.of_heap (hu _ hK h1.lt),YA h2 E0 (fun g hg=>(h2.lt g hg).2) hu,⟨⟨h3,ve,vq,vs,h4.of_heap (hu _ h3 h4.lt),h5,h5b,h5c,YA h5d (Nat.le_refl _) (fun g hg=>(h5d.lt g hg).2) hu,YA h5e (Nat.le_refl _) (fun g hg=>(h5e.lt g hg).2) hu,YA h5f (Nat.le_refl _) (fun g hg=>(h5f.lt g hg).2) hu⟩,T,h6,h7,h8.of_heap (hu _ h6 h8.lt)⟩,⟨ys,YA h9 E0 (fun g hg=>(h9.lt g hg).2) hu,fun i hi=>?_⟩,kb,VI,fun i hi=>?_⟩
 ·obtain⟨g,cap,k1,k2⟩:=wI i hi;exact⟨g,cap,k1,YA k2 (Nat.le_refl _) (fun g hg=>(k2.lt g hg).2) hu⟩
 ·obtain⟨cv,k1,k2,k3,k4,k5⟩:=q_ i hi;have k6:=k4.of_heap (hu _ k2 k4.lt);exact⟨cv,k1,k2,k6.lt,k6,YA k5 (Nat.le_refl _) (fun g hg=>(k5.lt g hg).2) hu⟩
def p00(c:vl)(bw m:Nat)(ks rs H2 H3 H4:ti)(BZ i_:List ti)(w w':ui):Prop:=
 (¬Ui c 0 0/\Below w.heap.size w w')\/
 (Ui c 0 0/\∃UY lY K nb vt tr kb Gc L B N1 B2 N2,w.heap.size<=B/\N1<=B2/\B2<=N2/\(ak (RZ bw ks rs) w w'/\qy w' bw (m+1) UY lY H2 H3 H4 (BZ++[.pointer (yi ⟨K,0,Ai⟩)]) (i_++[.pointer (yi ⟨kb,0,Ai⟩)]))/\N2<=w'.heap.size/\
  (∀b,UY.ownBlock=yi b->ks.ownBlock=yi b\/(N1<=b/\b<B2))/\(∀b,lY.ownBlock=yi b->rs.ownBlock=yi b\/N2<=b)/\
  (∀w2,(∀b,B<=b->b<N1->w2.heap[b]?=w'.heap[b]?)->WJ (sw c) B K nb vt tr w2)/\
  ∃wl wk o0 o1 o2 o3,wk.heap.size=N2/\B2<=wl.heap.size/\vu wl c B2 o0 o1 o2 o3/\Below wl.heap.size wl wk/\w00 c wl o0 o1 o2 o3 kb Gc L wk/\∀b,B2<=b->b<N2->w'.heap[b]?=wk.heap[b]?)
theorem SY{w w2 w3:ui}{bw m g g3:Nat}{cap nk:Nat}{ks rs H2 H3 H4:ti}{xs ys:List ti}(hb:ak (RZ bw ks rs) w w2)(hg:ak (fun j=>rs.ownBlock=yi j) w2 w3)
  (hr:Ei w2 bw 5 79 (cells5 (.slice (yi ⟨g,0,Ai⟩) (m+1:Nat) cap) rs H2 H3 H4))
  (hk:w2.ownsRow (bw+1) 43 1 (.slice (yi ⟨g,0,Ai⟩) (m+1:Nat) cap) (m+1) xs)
  (ho:w3.ownsRow (bw+1) 83 1 (.slice (yi ⟨g3,0,Ai⟩) (m+1:Nat) nk) (m+1) ys)
  (ha:rs.ownBlock=yi g3\/w2.heap.size<=g3)(Jj:rs.ownBlock≠yi g)(hgl:bw+1<=g/\g<w2.heap.size)(hlo:∀j,rs.ownBlock=yi j->bw+1<=j):
  ak (RZ bw ks rs) w (w3.setCell ⟨bw,1,Ai⟩ (.slice (yi ⟨g3,0,Ai⟩) (m+1:Nat) nk))/\qy (w3.setCell ⟨bw,1,Ai⟩ (.slice (yi ⟨g3,0,Ai⟩) (m+1:Nat) nk)) bw (m+1) (.slice (yi ⟨g,0,Ai⟩) (m+1:Nat) cap) (.slice (yi ⟨g3,0,Ai⟩) (m+1:Nat) nk) H2 H3 H4 xs ys:=by
 have z_:bw<w2.heap.size:=hr.lt;have hr3:Ei w3 bw 5 79 _:=hr.of_heap (hg.block bw z_ (fun e=>by have:=hlo bw e;omega));have hs:(w3.setCell ⟨bw,1,Ai⟩ (.slice (yi ⟨g3,0,Ai⟩) (m+1:Nat) nk)).heap.size=w3.heap.size:=size_setCell _ _ _;refine⟨⟨hg.os.trans hb.os,hg.tape.trans hb.tape,hg.output.trans hb.output,by rw[hs];exact Nat.le_trans hb.size hg.size,fun j hj hn=>?_⟩,(hr3.set 1 _).congr (fun j hj=>?_),?_,ownsRow_setCell_below ho P0 _,fun g' h1 h2=>?_⟩
 ·exact(heap_setCell_other _ _ _ _ (fun e=>hn (.inl e))).trans ((hg.block j (Nat.lt_of_lt_of_le hj hb.size) (fun e=>hn (.inr (.inr e)))).trans (hb.block j hj hn))
 ·have:j=0\/j=1\/j=2\/j=3\/j=4:=by omega
  rcases this with rfl|rfl|rfl|rfl|rfl<;>rfl
 ·refine ownsRow_setCell_below ?_ P0 _;rcases hk.2 with hn|⟨g',qO,cur,hv,IQ,hh,r⟩
  ·exact⟨hk.1,.inl hn⟩
  ·obtain rfl:g=g':=by
    simp only[Value.slice.injEq,Option.some.injEq,Addr.mk.injEq]at hv;exact hv.1.1
   exact⟨hk.1,.inr ⟨g,qO,cur,hv,IQ,by rw[hg.block g hgl.2 Jj];exact hh,r⟩⟩
 ·have e1:g=g':=by simpa[Value.ownBlock]using h1
  have e2:g3=g':=by simpa[Value.ownBlock]using h2
  subst e1;subst e2;rcases ha with h|h
  ·exact Jj h
  ·omega
theorem fS(c:vl)(v0 v1 v2 v3:ti)(bw m:Nat)(ks rs H2 H3 H4:ti)(BZ i_:List ti)(w:ui)(wm:∀w',ak (RZ bw ks rs) w w'->Bq w' v0 v1 v2 v3 c)(hw:OD c)(hi:qy w bw m ks rs H2 H3 H4 BZ i_)(hn:m<=8796093022208):
  Calls prog 18 #[.pointer (yi ⟨bw,0,Ai⟩),.agg #[v0,v1,v2,v3]] w fun e w'=>e=.returned (.bool ji)/\p00 c bw m ks rs H2 H3 H4 BZ i_ w w':=by
 have h:=wm w (ak.refl _ _);refine U8 fun HA=>?_;have hcp:=h;obtain⟨⟨p0,yj,F0,rfl,-,n0,z0,b0,-,k0⟩,⟨p1,wj,F1,rfl,-,n1,z1,b1,-,k1⟩,⟨p2,cap2,rfl,-,n2,z2,b2,-⟩,⟨p3,nk,rfl,-,n3,z3,b3,-⟩⟩:=hcp;have HC:Hid (Bq w (.slice p0 c.nC yj) (.slice p1 c.nT wj) (.slice p2 c.qj cap2) (.slice p3 c.nD nk) c):=h;have ZCH:Hid (c.Jt=ji->c.qj=0):=fun h=>(z2 (n2.2 h)).1;have ZDV:Hid (c.Ws=ji->c.nD=0):=fun h=>(z3 (n3.2 h)).1;have ZIM:Hid (∀i,i<c.nC->c.Yl i=ji->c.Vj i=0):=fun i hi h=>by
  obtain⟨-,⟨pi,Yw,_,-,ni,zi,bi,-⟩,-⟩:=k0 i hi;exact(zi (ni.2 h)).1
 have N0:Hid ((p0=Ai↔c.kE=ji)/\(p0=Ai->c.nC=0/\yj=0)/\(p1=Ai↔c.kD=ji)/\(p1=Ai->c.nT=0/\wj=0)):=⟨n0,z0,n1,z1⟩;have B0:Hid (56*c.nC<=140737488355328):=b0;have B1:Hid (24*c.nT<=140737488355328):=b1;have hb0:c.nC<=2513169434916:=E0;have Zs:c.nT<=5864062014805:=E0;refine vf fun Xu JR=>?_;have HW:Hid (OD c):=hw;have HI:Hid (qy w bw m ks rs H2 H3 H4 BZ i_):=hi;have HST:Hid (∀w',ak (RZ bw ks rs) w w'->Bq w' (.slice p0 c.nC yj) (.slice p1 c.nT wj) (.slice p2 c.qj cap2) (.slice p3 c.nD nk) c):=wm;have Sl0:bw<w.heap.size:=hi.row.lt;clear h wm hw hi n0 z0 k0 n1 z1 k1 n2 z2 n3 z3 b0 b1 b2 b3
 go_enter func18,ntmps18
 go_wp2_with fail
 refine(qP c _ _ _ _ _ (HC.out.below (HA.out _))).mono ?_;rintro e wL ⟨x0,x1,x2,x3,rfl,hl,e70⟩;have HL0:Hid (vu wL c _ x0 x1 x2 x3):=hl;obtain⟨cb,rb,yo,Zu,q0,xB,q1,rI,hi,Ny,hlw⟩:=hl.ws;have HLW:Hid (JA wL c (w.alloc (.cells #[.slice p0 c.nC yj,.slice p1 c.nT wj,.slice p2 c.qj cap2,.slice p3 c.nD nk] 28)).heap.size cb rb yo Zu q0 xB q1 rI hi Ny x0 x1 x2 x3):=hlw;obtain⟨rfl,lq0,zq0,sN,rfl,lq1,zq1,sq1,e2,e3,Pm,JK,hB2,Nk,QH,yB,hdv,hh1,y_,hh3⟩:=hlw;obtain⟨q2,w_,f2⟩:=Tq c.Jt yo c.qj ZCH.out;obtain⟨q3,A_,f3⟩:=Tq c.Ws Zu c.nD ZDV.out;have F2:Hid (zj c.Jt yo c.qj=.slice q2 c.qj w_):=f2;have F3:Hid (zj c.Ws Zu c.nD=.slice q3 c.nD A_):=f3;obtain rfl:x2=.slice q2 c.qj w_:=e2.trans f2;obtain rfl:x3=.slice q3 c.nD A_:=e3.trans f3;have FD:Hid (Below (w.heap.size+1) (w.alloc (.cells #[.slice p0 c.nC yj,.slice p1 c.nT wj,.slice p2 c.qj cap2,.slice p3 c.nD nk] 28)) wL):=e70.mono P0;have SQ0:Hid (Sl wL q0 (c.nC*3) (Rm c cb)):=sN;have SQ1:Hid (Sl wL q1 c.nT (fun i=>zj gi (rb i) (c.nRow i))):=sq1;have ZQ:Hid ((q0=Ai->c.nC=0)/\(q1=Ai->c.nT=0)):=⟨fun h=>(zq0 h).1,fun h=>(zq1 h).1⟩;have HIN:Hid (Ik wL c c.nC (w.heap.size+1) hi cb):=by show Ik _ _ _ _ _ _;simpa using Pm
 have HRO:Hid (∀i,i<c.nT->Yu wL gi (rb i) (c.nRow i) 2 (c.row i)/\hi<=rb i/\rb i<Ny):=Nk;have HCH:Hid (Yu wL c.Jt yo c.qj 3 c.ch):=yB;have HDV:Hid (Yu wL c.Ws Zu c.nD 1 c.dv):=hdv;clear hl e70 sN sq1 zq0 zq1 Pm Nk QH yB hdv hh1 y_ hh3 e2 e3 f2 f3 lq0 lq1 JK hB2;obtain⟨y0,y1,y2,y3⟩:=OA FD.out;have hH:w.heap.size<wL.heap.size:=block_lt_of_cell y0;go_wp2_with fail;have hM:(wL.alloc (.cells #[.slice q0 c.nC xB,.slice q1 c.nT rI,.slice q2 c.qj w_,.slice q3 c.nD A_] 28)).heap.size=wL.heap.size+1:=P0;have HAL:Hid (∀o,Below wL.heap.size wL (wL.alloc o)):=fun o=>(Below.refl _ _).alloc (Nat.le_refl _) _;refine(PY c.nC c.nT xB rI q0 q1 (Rm c cb) (fun i=>zj gi (rb i) (c.nRow i)) _ _ _ (SQ0.out.below (HAL.out _)) (SQ1.out.below (HAL.out _)) ZQ.out.1 ZQ.out.2 (fun j _=>YV c cb j) (fun j _=>DZ _ _ _) B0.out B1.out).mono ?_;rintro e wO ⟨he,e90,P20,hrC,hrT⟩;rw[hM]at he e90 hrC hrT;subst he;have HZO:Hid (wO.heap.size=wL.heap.size+1+1+1+1):=e90;have HRC:Hid (Ei wO (wL.heap.size+1+1) ((c.nC+2)*3) 53 (Dx c.nC (Rm c cb))):=hrC;have HRT:Hid (Ei wO (wL.heap.size+1+1+1) (c.nT+2) 100 (outT c.nT (fun i=>zj gi (rb i) (c.nRow i)))):=hrT;have HMI:Hid (Ei wO wL.heap.size 4 28 (cells4 (.slice q0 c.nC xB) (.slice q1 c.nT rI) (.slice q2 c.qj w_) (.slice q3 c.nD A_))):=(row4 wL _ _ _ _ _).below P20 (by rw[hM];omega);have HBO:Hid (Below wL.heap.size wL wO):=Yr P20;clear e90 P20 hrC hrT hM;obtain⟨m0,m1,m2,m3⟩:=HMI.out.at4;have de0:wL.heap.size<wO.heap.size:=by have:=HZO.out;omega
 have t0:=(HBO.out.cell (p:=⟨w.heap.size,0,Ai⟩) hH).trans y0;have t1:=(HBO.out.cell (p:=⟨w.heap.size,1,Ai⟩) hH).trans y1;have t2:=(HBO.out.cell (p:=⟨w.heap.size,2,Ai⟩) hH).trans y2;have t3:=(HBO.out.cell (p:=⟨w.heap.size,3,Ai⟩) hH).trans y3;have hHO:w.heap.size<wO.heap.size:=E0;clear y0 y1 y2 y3;have HIO:Hid (Ik wO c c.nC (w.heap.size+1) hi cb):=HIN.out.below HBO.out;have Bj0:Hid (∀i,i<c.nT->Yu wO gi (rb i) (c.nRow i) 2 (c.row i)/\hi<=rb i/\rb i<Ny):=fun i hi=>⟨(HRO.out i hi).1.below HBO.out,(HRO.out i hi).2⟩;have Ch0:Hid (Yu wO c.Jt yo c.qj 3 c.ch):=HCH.out.below HBO.out;have sj0:Hid (Yu wO c.Ws Zu c.nD 1 c.dv):=HDV.out.below HBO.out;clear HIN HRO HCH HDV;have HCG:Hid (∀i0 i1,i0=(if c.kE then .slice Ai 0 0 else .slice (yi ⟨wL.heap.size+1+1,0,Ai⟩) c.nC (c.nC+2))->i1=(if c.kD then .slice Ai 0 0 else .slice (yi ⟨wL.heap.size+1+1+1,0,Ai⟩) c.nT (c.nT+2))->Bq wO i0 i1 (.slice q2 c.qj w_) (.slice q3 c.nD A_) (sw c)):=fun i0 i1 h0 h1=>by
  have hh:=Ta0 HC.out HIO.out Bj0.out Ch0.out sj0.out HRC.out HRT.out h0 h1;rw[F2.out,F3.out]at hh;exact hh
 rcases p0 with _|a<;>rcases p1 with _|b
 all_goals
  go_wp2_with fail
  refine(PX (sw c) _ _ _ _ _ ((HCG.out _ _ (by have:=N0.out.1;simp at this;simp[this]) (by have:=N0.out.2.2.1;simp at this;simp[this])).below ((Below.refl _ _).alloc (Nat.le_refl _) _)) HW.out (fun _ _=>rfl)).mono ?_;rintro e wN ⟨kv,x,y,rfl,ce0,w70,hkv⟩;have HCK:Hid (Ui c x y):=ce0;have HBN:Hid (Below wO.heap.size wO wN):=Yr w70;have HKV:Hid ((x≠0/\kv=.pointer Ai)\/(x=0/\∃K nb v tr,kv=.pointer (yi ⟨K,0,Ai⟩)/\wO.heap.size<K/\WJ (sw c) (wO.heap.size+1) K nb v tr wN)):=hkv.imp id (fun ⟨h1,K,nb,v,tr,h2,h3,u,xs,_,h4⟩=>⟨h1,K,nb,v,tr,h2,by simp at h3;omega,u,xs,by simpa using h4⟩);have hsN:wO.heap.size<=wN.heap.size:=HBN.out.size;have s0:=(HBN.out.cell (p:=⟨w.heap.size,0,Ai⟩) hHO).trans t0;have s1:=(HBN.out.cell (p:=⟨w.heap.size,1,Ai⟩) hHO).trans t1;have s2:=(HBN.out.cell (p:=⟨w.heap.size,2,Ai⟩) hHO).trans t2;have s3:=(HBN.out.cell (p:=⟨w.heap.size,3,Ai⟩) hHO).trans t3;have HMN:Hid (Ei wN wL.heap.size 4 28 _):=HMI.out.below HBN.out de0;have lc0:Hid (Below w.heap.size w wN):=((ij FD.out).trans (HBO.out.mono E0)).trans (HBN.out.mono E0);clear ce0 w70 hkv t0 t1 t2 t3 m0 m1 m2 m3;go_wp2_with fail;refine(jM c _ _ _ _ _ (HC.out.below lc0.out)).mono ?_;rintro e wC ⟨x',y',rfl,r70,W60⟩;obtain⟨rfl,rfl⟩:=HCK.out.uniq r70;have QB:Hid (Below wN.heap.size wN wC):=W60;have hsC:wN.heap.size<=wC.heap.size:=QB.out.size;have r0:=(QB.out.cell (p:=⟨w.heap.size,0,Ai⟩) F6).trans s0;have r1:=(QB.out.cell (p:=⟨w.heap.size,1,Ai⟩) F6).trans s1;have r2:=(QB.out.cell (p:=⟨w.heap.size,2,Ai⟩) F6).trans s2;have r3:=(QB.out.cell (p:=⟨w.heap.size,3,Ai⟩) F6).trans s3;have HMC:Hid (Ei wC wL.heap.size 4 28 _):=HMN.out.below QB.out E0;have Oa0:Hid (Below wO.heap.size wO wC):=HBN.out.trans (QB.out.mono E0);have kh0:Hid (Below w.heap.size w wC):=lc0.out.trans (QB.out.mono E0);clear r70 W60 s0 s1 s2 s3 HMN;go_wp2_with fail;refine(WO c _ _ _ _ (wL.heap.size+1+1) (wL.heap.size+1+1+1) cb rb w _ HC.out kh0.out E0 E0 E0 (HRC.out.below Oa0.out S5) (HRT.out.below Oa0.out S5)).mono ?_;rintro e wS ⟨rfl,Xu⟩;have Qv:Hid (WA wC wS (wL.heap.size+1+1) (wL.heap.size+1+1+1)):=Xu;have hsS:wC.heap.size<=wS.heap.size:=Qv.out.size;have T90:Hid (Below wL.heap.size wL wS):=Qv.out.below (HBO.out.trans (Oa0.out.mono E0)) E0 E0;have HMS:Hid (Ei wS wL.heap.size 4 28 (cells4 (.slice q0 c.nC xB) (.slice q1 c.nT rI) (.slice q2 c.qj w_) (.slice q3 c.nD A_))):=HMC.out.of_heap (Qv.out.block _ E0 E0 E0);obtain⟨y0,y1,y2,y3⟩:=OA (FD.out.trans (T90.out.mono E0));obtain⟨m0,m1,m2,m3⟩:=HMS.out.at4;have hHS:w.heap.size<wS.heap.size:=E0;have hLS:wL.heap.size<wS.heap.size:=E0;clear Xu r0 r1 r2 r3 HMC;go_wp2_with fail;refine(B20 c _ _ _ _ _ _ _ _ _ _ (HC.out.below (HA.out _)) (by have hh:Below (w.heap.size+1) _ wS:=FD.out.trans (T90.out.mono E0);simpa using hh) cb rb yo Zu q0 xB q1 rI hi Ny (JA.below HLW.out T90.out)).mono ?_;rintro e wW ⟨rfl,z_,hbx⟩;have T50:Hid (wS.heap.size<=wW.heap.size/\∀b,wO.heap.size<=b->b<wN.heap.size->wW.heap[b]?=wN.heap[b]?):=⟨hbx.size,fun b h1 h2=>(hbx.block b E0 (fun h=>by have:=JA.lt HLW.out h;omega)).trans ((Qv.out.block b E0 S5 S5).trans (QB.out.block b h2))⟩;clear hbx;have WT:Hid (Below (w.heap.size+1) (w.alloc _) wW):=z_.mono P0;clear z_ y0 y1 y2 y3 m0 m1 m2 m3;rcases HKV.out with⟨lP,rfl⟩|⟨lP,kb,nb,vt,tr,rfl,hKO,hKM⟩
  ·have hx1:(x != 0)=true:=by simpa using lP
   have Gk0:Hid (x≠0):=lP;clear lP;go_wp2_with (go_at_call 41;refine(Wx x _).mono ?_;rintro e w' ⟨rfl,rfl⟩);go_ret;exact⟨rfl,.inl ⟨fun e=>Gk0.out (by have:=HCK.out.uniq e;exact this.1),ij WT.out⟩⟩
  first
   |exact absurd (HCK.out.place lP).sizes (fun h=>by have h1:=h.1.1;have h2:=h.2.1.1;have q:=N0.out;simp at q;omega)
   |skip
 have hx1:(x != 0)=false:=by simpa using lP
 have iD:Hid (x=0):=lP;have HKM:Hid (WJ (sw c) (wO.heap.size+1) kb nb vt tr wN):=hKM;clear hKM;clear lP;have HIW:Hid (qy wW bw m ks rs H2 H3 H4 BZ i_):=HI.out.below (ij WT.out);have JQ:=HIW.out.k;have HKS:Hid (wW.ownsRow (bw+1) 43 1 ks m BZ):=JQ;have u0:wW.cell? ⟨bw,0,Ai⟩=yi ks:=HIW.out.row.cell E0;have hbW:bw<wW.heap.size:=block_lt_of_cell u0;clear JQ;go_wp2_with (first|(go_at_call 41;refine(Wx x _).mono ?_;rintro e wW ⟨rfl,rfl⟩)|(at_builtin;(refine kj _ rfl _ _ 71 rfl (bw+1) 43 _ 1 8 underlying71 D80 rfl E0 ks m BZ rfl (HKS.out.alloc _) wW.heap.size [.pointer (yi ⟨kb,0,Ai⟩)] 43 rfl rfl J2 D2 Y1 E0 A1 ?_)));intro g cap w1 Oj Ti hat zo;have bH:∀j,ks.ownBlock=yi j->bw+1<=j/\j<w.heap.size:=fun j hj=>HI.out.k.lt j hj;have VA:∀j,rs.ownBlock=yi j->bw+1<=j/\j<w.heap.size:=fun j hj=>HI.out.r.lt j hj;have hsW:w.heap.size+1<=wW.heap.size:=by have:=WT.out.size;exact Yc
 have jV:wW.heap.size+1<=w1.heap.size:=by have:=Ti.size;exact Yc
 have J90:Hid (∀j,j<wW.heap.size->ks.ownBlock≠yi j->w1.heap[j]?=wW.heap[j]?):=fun j hj Jj=>(Ti.block j A1 (fun e=>Jj e.symm)).trans (heap_alloc_old _ _ hj);have iw:Hid (Ei w1 bw 5 79 (cells5 ks rs H2 H3 H4)):=HIW.out.row.of_heap (J90.out bw hbW (fun e=>by have:=bH bw e;omega));have pG:Hid (Ei (w1.setCell ⟨bw,0,Ai⟩ (.slice (yi ⟨g,0,Ai⟩) (m+1:Nat) cap)) bw 5 79 (cells5 (.slice (yi ⟨g,0,Ai⟩) (m+1:Nat) cap) rs H2 H3 H4)):=(iw.out.set 0 _).congr (fun j hj=>by
  have:j=0\/j=1\/j=2\/j=3\/j=4:=E0;rcases this with rfl|rfl|rfl|rfl|rfl<;>rfl)
 have d0:w1.cell? ⟨bw,0,Ai⟩=yi ks:=iw.out.cell E0;have d0f:=iw.out.frozen 0;have HK2:Hid ((w1.setCell ⟨bw,0,Ai⟩ (.slice (yi ⟨g,0,Ai⟩) (m+1:Nat) cap)).ownsRow (bw+1) 43 1 (.slice (yi ⟨g,0,Ai⟩) (m+1:Nat) cap) (m+1) (BZ++[.pointer (yi ⟨kb,0,Ai⟩)])):=ownsRow_setCell_below Oj P0 _;have F30:Hid (∀j,j<wW.heap.size->j≠bw->ks.ownBlock≠yi j->(w1.setCell ⟨bw,0,Ai⟩ (.slice (yi ⟨g,0,Ai⟩) (m+1:Nat) cap)).heap[j]?=wW.heap[j]?):=fun j hj h1 h2=>(heap_setCell_other _ _ _ _ I5).trans (J90.out j hj h2);have rP:(w1.setCell ⟨bw,0,Ai⟩ (.slice (yi ⟨g,0,Ai⟩) (m+1:Nat) cap)).heap.size=w1.heap.size:=size_setCell _ _ _;have HBU:Hid (ak (RZ bw ks rs) w (w1.setCell ⟨bw,0,Ai⟩ (.slice (yi ⟨g,0,Ai⟩) (m+1:Nat) cap))):=⟨(Ti.os.trans (ij WT.out).os),(Ti.tape.trans (ij WT.out).tape),(Ti.output.trans (ij WT.out).output),E0,fun j hj hn=>(F30.out j E0 (fun e=>hn (.inl e)) (fun e=>hn (.inr (.inl e)))).trans ((ij WT.out).block j hj)⟩;have HCW:Hid (Bq (w1.setCell ⟨bw,0,Ai⟩ (.slice (yi ⟨g,0,Ai⟩) (m+1:Nat) cap)) (.slice (yi a) c.nC yj) (.slice (yi b) c.nT wj) (.slice p2 c.qj cap2) (.slice p3 c.nD nk) c):=HST.out _ HBU.out;have MS:=HIW.out.r;have oi0:Hid ((w1.setCell ⟨bw,0,Ai⟩ (.slice (yi ⟨g,0,Ai⟩) (m+1:Nat) cap)).ownsRow (bw+1) 83 1 rs m i_):=by
  rcases MS.2 with hn|⟨g',qO,cur,hv,IQ,hg,r⟩
  ·exact⟨MS.1,.inl hn⟩
  ·have hrg:rs.ownBlock=yi g':=by rw[hv];rfl
   exact⟨MS.1,.inr ⟨g',qO,cur,hv,IQ,by rw[F30.out g' (by have:=VA g' hrg;omega) E0 (fun e=>HI.out.ne g' e hrg)];exact hg,r⟩⟩
 have sh0:Hid (rs.ownBlock≠yi g):=by
  rcases hat with h|h
  ·exact HI.out.ne g h
  ·intro e;have:=VA g e;omega
 have H10:Hid (Ei (w1.setCell ⟨bw,0,Ai⟩ (.slice (yi ⟨g,0,Ai⟩) (m+1:Nat) cap)) w.heap.size 4 28 (cells4 (.slice (yi a) c.nC yj) (.slice (yi b) c.nT wj) (.slice p2 c.qj cap2) (.slice p3 c.nD nk))):=((row4 w _ _ _ _ _).below WT.out E0).of_heap (F30.out _ E0 E0 (fun e=>by have:=bH _ e;omega));have HHG:Hid (bw+1<=g/\g<w1.heap.size):=by
  rcases hat with h|h
  ·have:=bH g h;exact⟨this.1,zo⟩
  ·exact⟨E0,zo⟩
 have HGK:Hid (ks.ownBlock=yi g\/(wN.heap.size<=g/\g<w1.heap.size)):=by
  rcases hat with h|h
  ·exact .inl h
  ·exact .inr ⟨by have:=T50.out.1;omega,zo⟩
 have ri0:Hid (∀b,wO.heap.size<=b->b<wN.heap.size->(w1.setCell ⟨bw,0,Ai⟩ (.slice (yi ⟨g,0,Ai⟩) (m+1:Nat) cap)).heap[b]?=wN.heap[b]?):=fun b h1 h2=>(F30.out b (by have:=T50.out.1;omega) E0 (fun e=>by have:=bH b e;omega)).trans (T50.out.2 b h1 h2);clear Oj Ti hat zo MS u0;go_wp2_with fail;obtain⟨k0,k1,k2,k3⟩:=H10.out.at4;have b1:(w1.setCell ⟨bw,0,Ai⟩ (.slice (yi ⟨g,0,Ai⟩) (m+1:Nat) cap)).cell? ⟨bw,1,Ai⟩=yi rs:=pG.out.cell E0;have b1f:=pG.out.frozen 1;have CK0:Hid (Ui c 0 0):=HCK.out.place iD.out;have H2S:Hid (w.heap.size+1<=(w1.setCell ⟨bw,0,Ai⟩ (.slice (yi ⟨g,0,Ai⟩) (m+1:Nat) cap)).heap.size/\bw<(w1.setCell ⟨bw,0,Ai⟩ (.slice (yi ⟨g,0,Ai⟩) (m+1:Nat) cap)).heap.size/\g<(w1.setCell ⟨bw,0,Ai⟩ (.slice (yi ⟨g,0,Ai⟩) (m+1:Nat) cap)).heap.size):=⟨E0,E0,by rw[rP];exact HHG.out.2⟩;have xr0:Hid (Below bw w (w1.setCell ⟨bw,0,Ai⟩ (.slice (yi ⟨g,0,Ai⟩) (m+1:Nat) cap))):=⟨HBU.out.os,HBU.out.tape,HBU.out.output,HBU.out.size,fun j hj=>HBU.out.block j E0 (fun h=>by
  rcases h with h|h|h
  ·omega
  ·have:=bH j h;omega
  ·have:=VA j h;omega)⟩
 have xh0:Hid ((w1.setCell ⟨bw,0,Ai⟩ (.slice (yi ⟨g,0,Ai⟩) (m+1:Nat) cap)).heap.size=w1.heap.size):=rP;have rh0:Hid (wW.heap.size+1<=w1.heap.size):=jV;clear rP J90 F30 iw d0 d0f hsW jV;generalize (w1.setCell ⟨bw,0,Ai⟩ (.slice (yi ⟨g,0,Ai⟩) (m+1:Nat) cap))=w2 at *;have g1:=H2S.out.1;have Ks:w2.heap.size=w1.heap.size:=xh0.out;have mh0:wN.heap.size<=w2.heap.size:=by have:=T50.out.1;have:=rh0.out;omega
 have g2:=H2S.out.2.1;have NC:Hid (Ss c/\c.qj<=8/\Hj (Wn c) c.nC):=by
  have hh:=CK0.out;unfold Ui at hh;rcases hh with h|h|⟨_,_,i,_,h,_⟩|h|⟨_,_,_,_,i,_,h,_⟩|h|⟨_,_,_,_,_,_,i,_,h,_⟩|⟨_,_,_,_,_,_,_,i,_,h,_⟩|h
  ·exact Ih
  ·exact Yg
  ·exact ec
  ·exact Jf
  ·exact ec
  ·exact Ie
  ·exact ec
  ·exact ec
  ·exact⟨h.1,h.2.2.2.1,h.2.2.2.2.2.2.2.1⟩
 go_region_law
  (first
   |(refine Ot rfl 36 _ _ rfl _ rfl Tryz.f36 func36 k20 S_ (fun r w'=>∃x0 x1 x2 x3,r=.agg #[x0,x1,x2,x3]/\vu w' c w2.heap.size x0 x1 x2 x3/\Below w2.heap.size w2 w') ?_ ?_
     ·exact(qP c (.slice (yi a) c.nC yj) (.slice (yi b) c.nT wj) (.slice p2 c.qj cap2) (.slice p3 c.nD nk) w2.drew (HCW.out.keep (fun _ _ h=>h))).mono (fun e w' ⟨x0,x1,x2,x3,h1,h2,h3⟩=>⟨_,h1,x0,x1,x2,x3,rfl,h2,⟨h3.os,h3.tape,h3.output,h3.size,h3.block⟩⟩)
     rintro r wl ⟨x0,x1,x2,x3,rfl,YU,H80⟩;have Yv:Hid (Below w2.heap.size w2 wl):=H80;have HLl:Hid (vu wl c w2.heap.size x0 x1 x2 x3):=YU;have hsl:w2.heap.size<=wl.heap.size:=H80.size;have q1:=(Yv.out.cell (p:=⟨bw,1,Ai⟩) g2).trans b1;obtain⟨j0,j1,j2,j3⟩:=(H10.out.below Yv.out E0).at4;clear YU H80)
   |(refine Ot rfl 42 _ _ rfl _ rfl Tryz.f42 func42 S40 X40 (fun r w'=>∃kb Gc L,r=.pointer (yi ⟨kb,0,Ai⟩)/\Below wl.heap.size wl w'/\w00 c wl x0 x1 x2 x3 kb Gc L w') ?_ ?_
     ·exact(XK c x0 x1 x2 x3 w2.heap.size wl HLl.out (fun i hi=>(NC.out.2.2 i hi).2.1) NC.out.1.2 NC.out.2.1 NC.out.1.1 ZCH.out ZDV.out ZIM.out).mono (fun e w' ⟨kb,Gc,L,h1,h2,h3⟩=>⟨_,h1,kb,Gc,L,rfl,h2,h3⟩)
     rintro r wk ⟨kb2,Gc,Ln,rfl,hbk,hrn⟩;have HRN:Hid (w00 c wl x0 x1 x2 x3 kb2 Gc Ln wk):=hrn;have HLk:Hid (vu wl c w2.heap.size x0 x1 x2 x3/\Below wl.heap.size wl wk):=⟨HLl.out,hbk⟩;have bq0:wl.heap.size<=wk.heap.size:=hbk.size;clear hrn;have HBK:Hid (Below w2.heap.size w2 wk):=Yv.out.trans (hbk.mono hsl);have hsk:w2.heap.size<=wk.heap.size:=HBK.out.size;clear q1 j0 j1 j2 j3;have q1:=(HBK.out.cell (p:=⟨bw,1,Ai⟩) g2).trans b1;have q1a:(wk.alloc (.cells #[.pointer (yi ⟨kb2,0,Ai⟩)] 83)).cell? ⟨bw,1,Ai⟩=yi rs:=((HBK.out.alloc hsk _).cell (p:=⟨bw,1,Ai⟩) g2).trans b1;obtain⟨j0,j1,j2,j3⟩:=(H10.out.below HBK.out E0).at4;clear hbk)
   |(refine Ek rfl _ _ 72 rfl (bw+1) 83 _ 1 8 underlying72 K80 rfl E0 rs m i_ rfl (own_below oi0.out (HBK.out.alloc E0 _)) wk.heap.size [.pointer (yi ⟨kb2,0,Ai⟩)] 83 rfl rfl J2 D2 Y1 E0 A1 ?_
     intro g3 Ee0 w3 J60 kz Sa0 B60;have vf0:Hid (∀j,j<w2.heap.size->rs.ownBlock≠yi j->w3.heap[j]?=w2.heap[j]?):=(fun j hj Jj=>(kz.block j A1 (fun e=>Jj e.symm)).trans ((heap_alloc_old _ _ E0).trans (HBK.out.block j hj)));have HR3:Hid (Ei w3 bw 5 79 (cells5 (.slice (yi ⟨g,0,Ai⟩) (m+1:Nat) cap) rs H2 H3 H4)):=pG.out.of_heap (vf0.out bw E0 (fun e=>by have:=VA bw e;omega));clear q1 j0 j1 j2 j3;have q1:w3.cell? ⟨bw,1,Ai⟩=yi rs:=HR3.out.cell E0;have q1f:=HR3.out.frozen 1;have hO3:Hid (w3.ownsRow (bw+1) 83 1 (.slice (yi ⟨g3,0,Ai⟩) (m+1:Nat) Ee0) (m+1) (i_++[.pointer (yi ⟨kb2,0,Ai⟩)])):=J60;have FZ:Hid (rs.ownBlock=yi g3\/w2.heap.size<=g3):=by
      rcases Sa0 with h|h
      ·exact Or.inl h
      ·exact Or.inr (by rw[h];simp;omega)
     have hG3:Hid (ak (fun j=>rs.ownBlock=yi j) w2 w3):=⟨kz.os.trans HBK.out.os,kz.tape.trans HBK.out.tape,kz.output.trans HBK.out.output,Nat.le_trans (Nat.le_trans hsk P0) kz.size,fun j hj Jj=>vf0.out j hj Jj⟩;have gk0:Hid (∀b,w2.heap.size<=b->b<wk.heap.size->w3.heap[b]?=wk.heap[b]?):=fun b h1 h2=>(kz.block b A1 (fun e=>by have:=VA b e.symm;have:=g1;omega)).trans (heap_alloc_old _ _ h2);have HGR:Hid (rs.ownBlock=yi g3\/wk.heap.size<=g3):=by
      rcases Sa0 with h|h
      ·exact Or.inl h
      ·exact Or.inr (by rw[h];simp)
     have HS3:Hid (wk.heap.size<=w3.heap.size):=Nat.le_trans P0 kz.size;clear J60 kz Sa0))
 all_goals go_wp2_with fail
 all_goals go_ret
 all_goals
  have HME:=SY HBU.out hG3.out pG.out HK2.out hO3.out FZ.out sh0.out ⟨HHG.out.1,H2S.out.2.2⟩ (fun j hj=>(VA j hj).1);refine⟨rfl,.inr ⟨CK0.out,_,_,kb,nb,vt,tr,kb2,Gc,Ln,wO.heap.size+1,wN.heap.size,w2.heap.size,wk.heap.size,S5,mh0,hsk,HME,by rw[size_setCell];exact HS3.out,?_,?_,?_,?_⟩⟩
  ·intro b hb;have yE:g=b:=by simpa[Value.ownBlock]using hb
   subst yE;exact HGK.out.imp id (fun h=>⟨h.1,E0⟩)
  ·intro b hb;have yE:g3=b:=by simpa[Value.ownBlock]using hb
   subst yE;exact HGR.out
  ·intro wZ hZ;refine HKM.out.up E0 rfl (fun b h1 h2=>(hZ b h1 h2).trans ?_);rw[heap_setCell_other _ _ _ _ (by show b≠bw;omega),hG3.out.block b E0 (fun e=>by have:=VA b e;omega)];exact ri0.out b E0 h2
  ·exact⟨wl,wk,_,_,_,_,rfl,hsl,HLk.out.1,HLk.out.2,HRN.out,fun b h1 h2=>by rw[heap_setCell_other _ _ _ _ (by show b≠bw;omega)];exact gk0.out b h1 h2⟩
structure RX where
 RD:Nat
 qc:Option Addr
 cc:Nat
 q3:Option Addr
 c3:Nat
 nD:Nat
 ch:Nat->Int
def RX.kind(x:RX)(c:Nat):Int:=x.ch (c*3)
def noN:Nat->Value:=fun _=>.slice Ai 0 0
def RB(k:Vu)(r:RK)(t:Tab)(x:RX)(vs:Nat->ti)(Ls:Nat->Ln)(inV:ti)(b:Nat):Prop:=(b=r.Kb\/b=r.Gc\/b=r.Lb\/(∃i,i<k.nC/\(vs i).ownBlock=yi b)\/(∃c,c<r.kc/\(Ls c).wv.ownBlock=yi b)\/inV.ownBlock=yi b)\/
 b=r.bo\/(∃i,i<k.nC/\(b=r.cb i\/∃o,r.iq i=yi ⟨b,o,Ai⟩))\/b=t.tb\/(∃i,i<t.nT/\b=t.ws i)\/∃o,x.qc=yi ⟨b,o,Ai⟩
def rkV(k:Vu)(r:RK)(t:Tab)(x:RX)(fr:Int)(inV:ti):Nat->Value:=kf8 (.slice (yi ⟨r.bo,r.oo,Ai⟩) k.nC r.cq) (.slice (yi ⟨t.tb,x.RD,Ai⟩) t.nT t.cT) (.slice x.qc r.kc x.cc) (.slice x.q3 x.nD x.c3) (.slice (yi ⟨r.Gc,0,Ai⟩) k.nC k.nC) (.slice (yi ⟨r.Lb,0,Ai⟩) r.kc r.kc) (.int .i64 fr) inV
structure RTab(w:ui)(k:Vu)(K:Nl)(r:RK)(t:Tab)(x:RX):Prop where
 ap:VQ k r
 kk:K.k=r.kc
 num:∀i,i<k.nC->k.num i=i
 iY:Hm r w t.tb
 tbK:t.tb≠r.Kb
 rows:∀i,i<t.nT->w.cell? ⟨t.tb,x.RD+i,Ai⟩=yi (.slice (yi ⟨t.ws i,t.wo i,Ai⟩) (t.nw i) (t.cw i))
 sW:∀i,i<t.nT->Hm r w (t.ws i)
 wK:∀i,i<t.nT->t.ws i≠r.Kb
 c0:∀i,i<t.nT->∀j,j<t.nw i->w.cell? ⟨t.ws i,t.wo i+j*2,Ai⟩=yi (.int .i64 (t.wn i j).1)
 c1:∀i,i<t.nT->∀j,j<t.nw i->w.cell? ⟨t.ws i,t.wo i+j*2+1,Ai⟩=yi (.int .i64 (t.wn i j).2)
 n1:1<=t.nT
 nT:t.nT<=1000
 nw:∀i,i<t.nT->t.nw i<=6
 wnb:∀i,i<t.nT->∀j,j<t.nw i->(t.wn i j).1<k.nC/\(t.wn i j).2<=200
 nC:k.nC<=1000
 nD:x.nD<=1000
 chs:Sl w x.qc (r.kc*3) (fun j=>.int .i64 (x.ch j))
 qs:∀b o,x.qc=yi ⟨b,o,Ai⟩->Hm r w b/\b≠r.Kb
 kf:∀c,c<r.kc->K.fr c=x.ch (c*3+1)/\0<=K.fr c/\K.fr c<k.nC
 cr:∀i,i<k.nC->TC i x.kind K.fr x.nD (k.n i) (k.ci i)
structure Bo(w:ui)(k:Vu)(K:Nl)(r:RK)(t:Tab)(x:RX)(s:Hy)(vs:Nat->ti)(Ls:Nat->Ln)(inV:ti)(il:List (Int×Int))(fr:Nat)(S:Nat->Prop):Prop where
 kn:Tn w k r (Nx s vs noN) s.m s.xs
 net:Om w k.nC r (Nx s vs noN) (fun _=>[]) Ls fr inV il
 rel:Dl r.kc x.kind K.fr (fun _=>[]) Ls fr s.D
 wt:Ro r.kc s.D
 so:E_ k s
 lI:Ei w r.Kb 8 126 (rkV k r t x fr inV)
 tb:RTab w k K r t x
 vB:∀b,RB k r t x vs Ls inV b->S b
 sz:∀b,S b->b<w.heap.size
section
variable {w w':ui}{k:Vu}{K:Nl}{r:RK}{t:Tab}{x:RX}{s:Hy}{vs:Nat->ti}{Ls:Nat->Ln}{inV:ti}{il:List (Int×Int)}{fr:Nat}{S:Nat->Prop}
theorem RTab.keep(h:RTab w k K r t x)(hk:∀b,(b=t.tb\/(∃i,i<t.nT/\b=t.ws i)\/∃o,x.qc=yi ⟨b,o,Ai⟩)->w'.heap[b]?=w.heap[b]?)(hs:w.heap.size<=w'.heap.size):RTab w' k K r t x:=
 have jR:∀i,i<t.nT->w'.heap[t.ws i]?=w.heap[t.ws i]?:=fun i hi=>hk _ (.inr (.inl ⟨i,hi,rfl⟩))
 ⟨h.ap,h.kk,h.num,h.iY.to hs,h.tbK,fun i hi=>(cell_of_heap (a:=⟨t.tb,x.RD+i,Ai⟩) (hk _ (.inl rfl))).trans (h.rows i hi),fun i hi=>(h.sW i hi).to hs,h.wK,fun i hi j hj=>(cell_of_heap (a:=⟨t.ws i,t.wo i+j*2,Ai⟩) (jR i hi)).trans (h.c0 i hi j hj),fun i hi j hj=>(cell_of_heap (a:=⟨t.ws i,t.wo i+j*2+1,Ai⟩) (jR i hi)).trans (h.c1 i hi j hj),h.n1,h.nT,h.nw,h.wnb,h.nC,h.nD,x00 h.chs fun b o e=>hk b (.inr (.inr ⟨o,e⟩)),fun b o e=>⟨(h.qs b o e).1.to hs,(h.qs b o e).2⟩,h.kf,h.cr⟩
theorem Bo.keep(h:Bo w k K r t x s vs Ls inV il fr S)(hk:∀b,S b->w'.heap[b]?=w.heap[b]?)(hs:w.heap.size<=w'.heap.size):Bo w' k K r t x s vs Ls inV il fr S:=by
 have hB:∀b,RB k r t x vs Ls inV b->w'.heap[b]?=w.heap[b]?:=fun b hb=>hk b (h.vB b hb);have hKb:=hB r.Kb (.inl (.inl rfl));have hGc:=hB r.Gc (.inl (.inr (.inl rfl)));have hLb:=hB r.Lb (.inl (.inr (.inr (.inl rfl))));have hbo:=hB r.bo (.inr (.inl rfl));have YC:∀i,i<k.nC->w'.heap[r.cb i]?=w.heap[r.cb i]?:=fun i hi=>hB _ (.inr (.inr (.inl ⟨i,hi,.inl rfl⟩)));have q:=h.kn;have n:=h.net;refine⟨⟨(cell_of_heap (a:=⟨r.Kb,0,Ai⟩) hKb).trans q.h0,(cell_of_heap (a:=⟨r.Kb,4,Ai⟩) hKb).trans q.h4,q.sK.to hs,q.sb.to hs,fun i hi=>(q.sc i hi).to hs,fun i hi b o e=>(q.si i hi b o e).to hs,q.oh,
  fun i hi=>(cell_of_heap (a:=⟨r.bo,r.oo+i*3,Ai⟩) hbo).trans (q.hc i hi),fun i hi=>(cell_of_heap (a:=⟨r.bo,r.oo+i*3+1,Ai⟩) hbo).trans (q.hi i hi),fun i hi=>(cell_of_heap (a:=⟨r.bo,r.oo+i*3+2,Ai⟩) hbo).trans (q.hl i hi),fun i hi j hj=>(cell_of_heap (a:=⟨r.cb i,r.co i+j,Ai⟩) (YC i hi)).trans (q.code i hi j hj),fun i hi=>x00 (q.bQ i hi) fun b o e=>hB b (.inr (.inr (.inl ⟨i,hi,.inr ⟨o,e⟩⟩))),q.row.of_heap hGc,fun i hi=>Rk (q.own i hi) fun b hb=>hB b (.inl (.inr (.inr (.inr (.inl ⟨i,hi,hb⟩))))),q.Un,q.g16,q.n48,q.ok,q.fst⟩,
  ⟨(cell_of_heap (a:=⟨r.Kb,5,Ai⟩) hKb).trans n.h5,(cell_of_heap (a:=⟨r.Kb,6,Ai⟩) hKb).trans n.h6,(cell_of_heap (a:=⟨r.Kb,7,Ai⟩) hKb).trans n.h7,Rk n.ino fun b hb=>hB b (.inl (.inr (.inr (.inr (.inr (.inr hb)))))),n.row.of_heap hLb,n.lo,fun c hc=>Rk (n.own c hc) fun b hb=>hB b (.inl (.inr (.inr (.inr (.inr (.inl ⟨c,hc,hb⟩)))))),n.Un,n.oh,fun i hi=>Rk (n.yD i hi) fun b hb=>(by cases hb),n.YF,n.u_⟩,
  h.rel,h.wt,h.so,h.lI.of_heap hKb,h.tb.keep (fun b hb=>hB b (.inr (.inr (.inr ?_)))) hs,h.vB,fun b hb=>Nat.lt_of_lt_of_le (h.sz b hb) hs⟩
 exact hb
theorem Bo.frame(h:Bo w k K r t x s vs Ls inV il fr S)(Dy:fr<=100000000000)(hm:∀i,s.m i+1600<=1000000000){ip:Option Addr}{jl ic:Nat}{zi:Nat->Int}(Pm:Sl w ip (jl*2) (fun j=>.int .i64 (zi j)))(hiK:jl=0\/∀b o,ip=yi ⟨b,o,Ai⟩->b≠r.Kb)(rU:jl<=4):
  Calls prog 44 #[.pointer (yi ⟨r.Kb,0,Ai⟩),.slice ip jl ic] w fun e w'=>e=.returned (.int .i64 0)/\∃Sv Jw Dt kV,Bo w' k K r t x (ju k K (t.wn (fr%t.nT)) (t.nw (fr%t.nT)) ((List.range jl).map fun j=>(zi (j*2),zi (j*2+1))) s) Sv Jw Dt kV (fr+1) (fun b=>S b\/(w.heap.size<=b/\b<w'.heap.size))/\ak S w w':=by
 have ht:=h.tb;have hml:fr%t.nT<t.nT:=Nat.mod_lt _ ht.n1;have hnw:=ht.nw _ hml;have hmul:t.nw (fr%t.nT)*201<=6*201:=Nat.mul_le_mul_right _ hnw;refine(d20 (kind:=x.kind) (ch:=x.ch) h.kn h.net h.rel h.wt h.so ht.ap ht.kk ht.num h.lI ht.iY ht.tbK (ht.rows _ hml) (ht.sW _ hml) (ht.wK _ hml) (ht.c0 _ hml) (ht.c1 _ hml) ht.chs ht.qs (fun c hc=>⟨rfl,(ht.kf c hc).1,(ht.kf c hc).2⟩) Pm hiK rU ht.nD ht.n1 ht.nT Dy E0 (ht.wnb _ hml) ht.nC (fun i=>by have:=hm i;omega) ht.cr).mono ?_;rintro e w' ⟨rfl,Sv,Jw,Dt,h1,h2,h3,h4,h5,h6,h7,h8,h9,wI⟩;have kept:∀b,Hm r w b->b≠r.Kb->w'.heap[b]?=w.heap[b]?:=fun b hs Jj=>h7.block b hs.lt (fun e=>by
  rcases e with (e|e|e)|⟨i,hi,e⟩|⟨i,hi,e⟩
  ·exact Jj e
  ·exact hs.2.1.1 e
  ·exact hs.2.1.2 e
  ·exact hs.ot (fun b=>h.kn.oh i b hi) e
  ·exact hs.ot (fun b=>h.net.oh i b hi) e)
 have ow:∀b,S b->b<w'.heap.size:=fun b hb=>Nat.lt_of_lt_of_le (h.sz b hb) h7.size;refine⟨rfl,Sv,Jw,Dt,_,⟨h1,h2,h3,h4,h5,h6,ht.keep (fun b hb=>?_) h7.size,fun b hb=>?_,fun b hb=>?_⟩,h7.mono fun b hb=>?_⟩
 ·rcases hb with rfl|⟨i,hi,rfl⟩|⟨o,hb⟩
  ·exact kept _ ht.iY ht.tbK
  ·exact kept _ (ht.sW i hi) (ht.wK i hi)
  ·exact kept _ (ht.qs b o hb).1 (ht.qs b o hb).2
 ·rcases hb with (hb|hb|hb|⟨i,hi,hb⟩|⟨i,hi,hb⟩|hb)|hb
  ·exact .inl (h.vB b (.inl (.inl hb)))
  ·exact .inl (h.vB b (.inl (.inr (.inl hb))))
  ·exact .inl (h.vB b (.inl (.inr (.inr (.inl hb)))))
  ·rcases h8 i b hi hb with e|e
   ·exact .inl (h.vB b (.inl (.inr (.inr (.inr (.inl ⟨i,hi,e⟩))))))
   ·exact .inr ⟨e,Io (h1.own i hi) hb⟩
  ·rcases h9 i b hi hb with e|e
   ·exact .inl (h.vB b (.inl (.inr (.inr (.inr (.inr (.inl ⟨i,hi,e⟩)))))))
   ·exact .inr ⟨e,Io (h2.own i hi) hb⟩
  ·exact .inr ⟨wI b hb,Io h2.ino hb⟩
  ·exact .inl (h.vB b (.inr hb))
 ·rcases hb with hb|hb
  ·exact ow b hb
  ·exact hb.2
 ·rcases hb with (hb|hb|hb)|⟨i,hi,hb⟩|⟨i,hi,hb⟩
  ·exact h.vB b (.inl (.inl hb))
  ·exact h.vB b (.inl (.inr (.inl hb)))
  ·exact h.vB b (.inl (.inr (.inr (.inl hb))))
  ·exact h.vB b (.inl (.inr (.inr (.inr (.inl ⟨i,hi,hb⟩)))))
  ·exact h.vB b (.inl (.inr (.inr (.inr (.inr (.inl ⟨i,hi,hb⟩))))))
end
theorem choose_lt{α:Type}(d:α){n:Nat}{P:Nat->α->Prop}(h:∀i,i<n->∃x,P i x):∃f:Nat->α,∀i,i<n->P i (f i):=
 ⟨fun i=>if hi:i<n then Classical.choose (h i hi)else d,fun i hi=>by
  simp only[hi,dite_true];exact Classical.choose_spec (h i hi)⟩
def az(c:vl)(i j:Nat):Nat×Nat:=((c.row i (j*2)).toNat,(c.row i (j*2+1)).toNat)
theorem pV(lim:Int)(m:Nat)(img:Nat->Int)(n:Nat)(hm:m<=16):Fv n (qt lim m img)/\IntKind.i64.wrap (qt lim m img 46)=qt lim m img 46:=by
 have e45:qt lim m img 45=0:=by unfold qt;exact af
 have e24:qt lim m img 24=0:=by unfold qt;exact af
 have e46:qt lim m img 46=0:=by unfold qt;exact af
 exact⟨⟨by rw[e45];omega,by rw[e45];omega,e24⟩,by rw[e46];rfl⟩
theorem Ui.NL{c:vl}(h:Ui c 0 0):Hj (Xp c) c.nT:=by
 unfold Ui at h;rcases h with h|h|⟨_,_,i,_,h,_⟩|h|⟨_,_,_,_,i,_,h,_⟩|h|⟨_,_,_,_,_,_,i,_,h,_⟩|⟨_,_,_,_,_,_,_,i,_,h,_⟩|h
 ·exact Ih
 ·exact Yg
 ·exact ec
 ·exact Jf
 ·exact ec
 ·exact Ie
 ·exact ec
 ·exact ec
 ·exact h.2.2.1
theorem F70{c:vl}{i:Nat}(h:Xp c i):c.nRow i<=6/\∀j,j<c.nRow i->((az c i j).1:Int)=c.row i (j*2)/\((az c i j).2:Int)=c.row i (j*2+1)/\(az c i j).1<c.nC/\(az c i j).2<=200:=by
 obtain⟨h1,h2,h3⟩:=h;refine⟨h1,fun j hj=>?_⟩;obtain⟨a,b,d⟩:=h2 j hj;have hs:=(FG (c.row i) (c.nRow i) (fun k hk=>(h2 k hk).2.2)).2 j hj;unfold az;omega
section
variable {w:ui}
theorem lF{a b:Nat}{ca cb:Array ti}{ta tb:Nat}{fa fb:Nat×Nat}(ha:w.heap[a]?=yi (.cells ca ta fa))(hb:w.heap[b]?=yi (.cells cb tb fb))(ht:ta≠tb):a≠b:=fun e=>by
 subst e;rw[ha]at hb;cases hb;exact ht rfl
theorem yx{b e s n:Nat}{v:ti}{xs:List ti}(h:w.ownsRow b e s v n xs){g:Nat}(hg:v.ownBlock=yi g):∃cs,w.heap[g]?=yi (.cells cs e (0,0)):=by
 rcases h.2 with⟨hv,_⟩|⟨g',cap,cur,hv,_,hh,_⟩
 ·rw[hv]at hg;simp[Value.ownBlock]at hg
 ·rw[hv]at hg;have:g'=g:=by simpa[Value.ownBlock]using hg
  subst this;exact⟨cur,hh⟩
end
end Go.Proofs.YtdoghgnifkgfdaaGreat.Mute
