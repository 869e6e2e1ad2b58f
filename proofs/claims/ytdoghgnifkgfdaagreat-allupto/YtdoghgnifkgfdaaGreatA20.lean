import Derived.Test.YtdoghgnifkgfdaaGreatA19
set_option maxRecDepth 100000
set_option maxHeartbeats 16000000
open Option renaming none->Hn,some->Gn
open Go renaming World->En,Value->Dn,undef->Bn,heap_setCell_other->yn,Calls->Zm,Program->Ym,block_lt_of_cell->Wm,Addr->Vm
open Bool renaming true->Um,false->Tm
open Go.RowKit renaming Below->Sm
open Nat renaming le_trans->Qm,zero_le->Pm,le_refl->Om,lt_of_lt_of_le->Lm,add_assoc->Jm
open List renaming range->Hm,getElem?_append_left->Em
namespace Go.Proofs.YtdoghgnifkgfdaaGreat.Mute
open Tryz Go Go.Conc Go.RowKit Go.Maps
structure PE(w:En)(bw m:Nat)(ks rs H2 H3 H4:Dn)(xs ys:List Dn):Prop where
 row:Tn w bw 5 79 (cells5 ks rs H2 H3 H4)
 k:w.ownsRow (bw+1) 43 1 ks m xs
 r:w.ownsRow (bw+1) 83 1 rs m ys
 ne:∀g,ks.ownBlock=Gn g->rs.ownBlock≠Gn g
theorem PE.below{w w':En}{bw m:Nat}{ks rs H2 H3 H4:Dn}{xs ys:List Dn}(h:PE w bw m ks rs H2 H3 H4 xs ys)(hb:Sm w.heap.size w w'):PE w' bw m ks rs H2 H3 H4 xs ys:=
 ⟨h.row.below hb h.row.lt,xo h.k hb,xo h.r hb,h.ne⟩
def VP(c:Ur)(B K nb:Nat)(v tr:Dn)(w:En):Prop:=
 ∃u xs,Tn w K 5 94 (tA v (.int .i64 0) u (.pointer (Gn ⟨nb,0,Hn⟩)) tr)/\w.ownsRow (K+1) 143 1 u c.nC xs/\Ext B c nb tr w/\(∃ys,w.ownsRow (K+1) 100 1 v c.nT ys/\oz B c c.nT ys w)/\Iz B c nb c.nC xs w
theorem xH.below{w w':En}{c:Ur}{B:Nat}{cb rb:Nat->Nat}{hb db:Nat}{p0:Option Vm}{yp:Nat}{p1:Option Vm}{gp hi eG:Nat}{v0 v1 v2 v3:Dn}(h:xH w c B cb rb hb db p0 yp p1 gp hi eG v0 v1 v2 v3)(Xq:Sm w.heap.size w w'):xH w' c B cb rb hb db p0 yp p1 gp hi eG v0 v1 v2 v3:=by
 obtain⟨h1,h2,h3,h4,h5,h6,h7,h8,h9,fO,iO,h12,h13,mU,h15,h16,h17,h18⟩:=h;exact⟨h1,h2,h3,h4.below Xq,h5,h6,h7,h8.below Xq,h9,fO,iO.below Xq,h12,h13,fun i hi=>⟨(mU i hi).1.below Xq,(mU i hi).2⟩,h15,h16.below Xq,h17.below Xq,h18⟩
theorem xH.lt{w:En}{c:Ur}{B:Nat}{cb rb:Nat->Nat}{hb db:Nat}{p0:Option Vm}{yp:Nat}{p1:Option Vm}{gp hi eG:Nat}{v0 v1 v2 v3:Dn}(h:xH w c B cb rb hb db p0 yp p1 gp hi eG v0 v1 v2 v3){j:Nat}(hj:SRX c cb rb hb db j):j<w.heap.size:=by
 obtain⟨h1,h2,h3,h4,h5,h6,h7,h8,h9,fO,iO,h12,h13,mU,h15,h16,h17,h18⟩:=h;rcases hj with (⟨i,hi,hj⟩|⟨i,hi,rfl⟩)|⟨hn,rfl⟩|⟨hn,rfl⟩
 ·rcases hj with⟨hn,rfl⟩|⟨hn,rfl⟩
  ·obtain⟨ty,hr⟩:=iO.code i hi hn;exact hr.lt
  ·obtain⟨ty,hr⟩:=iO.img i hi hn;exact hr.lt
 ·obtain⟨ty,hr⟩:=(mU i hi).1 rfl;exact hr.lt
 ·obtain⟨ty,hr⟩:=h16 hn;exact hr.lt
 ·obtain⟨ty,hr⟩:=h17 hn;exact hr.lt
theorem XG{w w':En}{b e s n B N:Nat}{v:Dn}{xs:List Dn}(h:w.ownsRow b e s v n xs)(hb:B<=b)(hN:∀g,v.ownBlock=Gn g->g<N)(hu:∀x,B<=x->x<N->w'.heap[x]?=w.heap[x]?):w'.ownsRow b e s v n xs:=by
 rcases h with⟨hl,hv|⟨g,cap,Ov,hv,hg,hh,hr⟩⟩
 ·exact⟨hl,.inl hv⟩
 ·exact⟨hl,.inr ⟨g,cap,Ov,hv,hg,(hu g (Qm hb hg) (hN g (by rw[hv];rfl))).trans hh,hr⟩⟩
theorem VP.up{c:Ur}{B K nb N:Nat}{v tr:Dn}{w w':En}(h:VP c B K nb v tr w)(hK:B<=K)(hN:w.heap.size=N)(hu:∀x,B<=x->x<N->w'.heap[x]?=w.heap[x]?):VP c B K nb v tr w':=by
 subst hN;obtain⟨u,xs,h1,h2,⟨⟨h3,ve,vq,vs,h4,h5,h5b,h5c,h5d,h5e,h5f⟩,T,h6,h7,h8⟩,⟨ys,h9,fO⟩,kb,iO,h12⟩:=h;refine⟨u,xs,h1.of_heap (hu _ hK h1.lt),XG h2 E0 (fun g hg=>(h2.lt g hg).2) hu,⟨⟨h3,ve,vq,vs,h4.of_heap (hu _ h3 h4.lt),h5,h5b,h5c,XG h5d N8 (fun g hg=>(h5d.lt g hg).2) hu,XG h5e N8 (fun g hg=>(h5e.lt g hg).2) hu,XG h5f N8 (fun g hg=>(h5f.lt g hg).2) hu⟩,T,h6,h7,h8.of_heap (hu _ h6 h8.lt)⟩,⟨ys,XG h9 E0 (fun g hg=>(h9.lt g hg).2) hu,fun i hi=>?_⟩,kb,iO,fun i hi=>?_⟩
 ·obtain⟨g,cap,k1,k2⟩:=fO i hi;exact⟨g,cap,k1,XG k2 N8 (fun g hg=>(k2.lt g hg).2) hu⟩
 ·obtain⟨cv,k1,k2,k3,k4,k5⟩:=h12 i hi;have k6:=k4.of_heap (hu _ k2 k4.lt);exact⟨cv,k1,k2,k6.lt,k6,XG k5 N8 (fun g hg=>(k5.lt g hg).2) hu⟩
def F60(c:Ur)(bw m:Nat)(ks rs H2 H3 H4:Dn)(xsK ysR:List Dn)(w w':En):Prop:=
 (¬vo c 0 0/\Sm w.heap.size w w')\/
 (vo c 0 0/\∃ks' rs' K nb vt tr kb Gc L B N1 B2 N2,w.heap.size<=B/\N1<=B2/\B2<=N2/\(Jq (RZ bw ks rs) w w'/\PE w' bw (m+1) ks' rs' H2 H3 H4 (xsK++[.pointer (Gn ⟨K,0,Hn⟩)]) (ysR++[.pointer (Gn ⟨kb,0,Hn⟩)]))/\N2<=w'.heap.size/\
  (∀b,ks'.ownBlock=Gn b->ks.ownBlock=Gn b\/(N1<=b/\b<B2))/\(∀b,rs'.ownBlock=Gn b->rs.ownBlock=Gn b\/N2<=b)/\
  (∀w2,(∀b,B<=b->b<N1->w2.heap[b]?=w'.heap[b]?)->VP (dC c) B K nb vt tr w2)/\
  ∃wl wk o0 o1 o2 o3,wk.heap.size=N2/\B2<=wl.heap.size/\YA wl c B2 o0 o1 o2 o3/\Sm wl.heap.size wl wk/\J60 c wl o0 o1 o2 o3 kb Gc L wk/\∀b,B2<=b->b<N2->w'.heap[b]?=wk.heap[b]?)
theorem D20{w w2 w3:En}{bw m g g3:Nat}{cap Lq:Nat}{ks rs H2 H3 H4:Dn}{xs ys:List Dn}(hb:Jq (RZ bw ks rs) w w2)(hg:Jq (fun j=>rs.ownBlock=Gn j) w2 w3)
  (hr:Tn w2 bw 5 79 (cells5 (.slice (Gn ⟨g,0,Hn⟩) (m+1:Nat) cap) rs H2 H3 H4))
  (hk:w2.ownsRow (bw+1) 43 1 (.slice (Gn ⟨g,0,Hn⟩) (m+1:Nat) cap) (m+1) xs)
  (ho:w3.ownsRow (bw+1) 83 1 (.slice (Gn ⟨g3,0,Hn⟩) (m+1:Nat) Lq) (m+1) ys)
  (ha:rs.ownBlock=Gn g3\/w2.heap.size<=g3)(Yp:rs.ownBlock≠Gn g)(hgl:bw+1<=g/\g<w2.heap.size)(hlo:∀j,rs.ownBlock=Gn j->bw+1<=j):
  Jq (RZ bw ks rs) w (w3.setCell ⟨bw,1,Hn⟩ (.slice (Gn ⟨g3,0,Hn⟩) (m+1:Nat) Lq))/\PE (w3.setCell ⟨bw,1,Hn⟩ (.slice (Gn ⟨g3,0,Hn⟩) (m+1:Nat) Lq)) bw (m+1) (.slice (Gn ⟨g,0,Hn⟩) (m+1:Nat) cap) (.slice (Gn ⟨g3,0,Hn⟩) (m+1:Nat) Lq) H2 H3 H4 xs ys:=by
 have hbw:bw<w2.heap.size:=hr.lt;have hr3:Tn w3 bw 5 79 _:=hr.of_heap (hg.block bw hbw (fun e=>by have:=hlo bw e;omega));have hs:(w3.setCell ⟨bw,1,Hn⟩ (.slice (Gn ⟨g3,0,Hn⟩) (m+1:Nat) Lq)).heap.size=w3.heap.size:=size_setCell _ _ _;refine⟨⟨hg.os.trans hb.os,hg.tape.trans hb.tape,hg.output.trans hb.output,by rw[hs];exact Qm hb.size hg.size,fun j hj hn=>?_⟩,(hr3.set 1 _).congr (fun j hj=>?_),?_,ownsRow_setCell_below ho P0 _,fun g' h1 h2=>?_⟩
 ·exact(yn _ _ _ _ (fun e=>hn (.inl e))).trans ((hg.block j (Lm hj hb.size) (fun e=>hn (.inr (.inr e)))).trans (hb.block j hj hn))
 ·have:j=0\/j=1\/j=2\/j=3\/j=4:=by omega
  rcases this with rfl|rfl|rfl|rfl|rfl<;>rfl
 ·refine ownsRow_setCell_below ?_ P0 _;rcases hk.2 with hn|⟨g',BU,Ov,hv,oU,hh,r⟩
  ·exact⟨hk.1,.inl hn⟩
  ·obtain rfl:g=g':=by
    simp only[Value.slice.injEq,Option.some.injEq,Addr.mk.injEq]at hv;exact hv.1.1
   exact⟨hk.1,.inr ⟨g,BU,Ov,hv,oU,by rw[hg.block g hgl.2 Yp];exact hh,r⟩⟩
 ·have e1:g=g':=by simpa[Value.ownBlock]using h1
  have e2:g3=g':=by simpa[Value.ownBlock]using h2
  subst e1;subst e2;rcases ha with h|h
  ·exact Yp h
  ·omega
theorem lZ(c:Ur)(v0 v1 v2 v3:Dn)(bw m:Nat)(ks rs H2 H3 H4:Dn)(xsK ysR:List Dn)(w:En)(Ht:∀w',Jq (RZ bw ks rs) w w'->Zx w' v0 v1 v2 v3 c)(hw:TK c)(hi:PE w bw m ks rs H2 H3 H4 xsK ysR)(hn:m<=8796093022208):
  Zm prog 18 #[.pointer (Gn ⟨bw,0,Hn⟩),.agg #[v0,v1,v2,v3]] w fun e w'=>e=.returned (.bool Um)/\F60 c bw m ks rs H2 H3 H4 xsK ysR w w':=by
 have h:=Ht w j9;refine U9 fun HA=>?_;have hcp:=h;obtain⟨⟨p0,yp,F0,rfl,-,n0,z0,b0,-,k0⟩,⟨p1,gp,F1,rfl,-,n1,z1,b1,-,k1⟩,⟨p2,dq,rfl,-,n2,z2,b2,-⟩,⟨p3,Lq,rfl,-,n3,z3,b3,-⟩⟩:=hcp;have HC:=Qp h;have ZCH:Hid (c.aA=Um->c.Zo=0):=fun h=>(z2 (n2.2 h)).1;have ZDV:Hid (c.Vz=Um->c.nD=0):=fun h=>(z3 (n3.2 h)).1;have ZIM:Hid (∀i,i<c.nC->c.Vt i=Um->c.Hq i=0):=fun i hi h=>by
  obtain⟨-,⟨pi,KC,_,-,ni,zi,bi,-⟩,-⟩:=k0 i hi;exact(zi (ni.2 h)).1
 have N0:Hid ((p0=Hn↔c.YI=Um)/\(p0=Hn->c.nC=0/\yp=0)/\(p1=Hn↔c.RJ=Um)/\(p1=Hn->c.nT=0/\gp=0)):=⟨n0,z0,n1,z1⟩;have B0:=Qp b0;have B1:=Qp b1;refine Wj fun hb0 Dx=>?_;refine sg fun Vx dS=>?_;have HW:=Qp hw;have HI:=Qp hi;have HST:=Qp Ht;have Ys0:bw<w.heap.size:=hi.row.lt;clear h Ht hw hi n0 z0 k0 n1 z1 k1 n2 z2 n3 z3 b0 b1 b2 b3
 go_enter func18,ntmps18
 go_wp2_with fail
 refine(AV c _ _ _ _ _ (HC.out.below (HA.out _))).mono ?_;rintro e wL ⟨x0,x1,x2,x3,rfl,hl,wd0⟩;have HL0:=Qp hl;obtain⟨cb,rb,Jv,YB,q0,NI,q1,fQ,hi,eG,hlw⟩:=hl.ws;have HLW:=Qp hlw;obtain⟨rfl,lq0,zq0,sU,rfl,lq1,zq1,sq1,e2,e3,iu,jQ,hB2,Ir,aN,nH,hdv,hh1,hh2,hh3⟩:=hlw;obtain⟨q2,cq2,f2⟩:=jy c.aA Jv c.Zo ZCH.out;obtain⟨q3,cq3,f3⟩:=jy c.Vz YB c.nD ZDV.out;have F2:=Qp f2;have F3:=Qp f3;obtain rfl:x2=.slice q2 c.Zo cq2:=e2.trans f2;obtain rfl:x3=.slice q3 c.nD cq3:=e3.trans f3;have IG:Hid (Sm (w.heap.size+1) (w.alloc (.cells #[.slice p0 c.nC yp,.slice p1 c.nT gp,.slice p2 c.Zo dq,.slice p3 c.nD Lq] 28)) wL):=wd0.mono P0;have SQ0:Hid (Sl wL q0 (c.nC*3) (Du c cb)):=sU;have SQ1:Hid (Sl wL q1 c.nT (fun i=>Gp Tm (rb i) (c.nRow i))):=sq1;have ZQ:Hid ((q0=Hn->c.nC=0)/\(q1=Hn->c.nT=0)):=⟨fun h=>(zq0 h).1,fun h=>(zq1 h).1⟩;have HIN:Hid (Sr wL c c.nC (w.heap.size+1) hi cb):=by show Sr _ _ _ _ _ _;simpa using iu
 have HRO:Hid (∀i,i<c.nT->xC wL Tm (rb i) (c.nRow i) 2 (c.row i)/\hi<=rb i/\rb i<eG):=Ir;have HCH:Hid (xC wL c.aA Jv c.Zo 3 c.ch):=nH;have HDV:Hid (xC wL c.Vz YB c.nD 1 c.dv):=hdv;clear hl wd0 sU sq1 zq0 zq1 iu Ir aN nH hdv hh1 hh2 hh3 e2 e3 f2 f3 lq0 lq1 jQ hB2;obtain⟨y0,y1,y2,y3⟩:=NG IG.out;have hH:w.heap.size<wL.heap.size:=Wm y0;go_wp2_with fail;have hM:(wL.alloc (.cells #[.slice q0 c.nC NI,.slice q1 c.nT fQ,.slice q2 c.Zo cq2,.slice q3 c.nD cq3] 28)).heap.size=wL.heap.size+1:=P0;have HAL:Hid (∀o,Sm wL.heap.size wL (wL.alloc o)):=fun o=>(Below.refl _ _).alloc N8 _;refine(S20 c.nC c.nT NI fQ q0 q1 (Du c cb) (fun i=>Gp Tm (rb i) (c.nRow i)) _ _ _ (SQ0.out.below (HAL.out _)) (SQ1.out.below (HAL.out _)) ZQ.out.1 ZQ.out.2 (fun j _=>Y00 c cb j) (fun j _=>A20 _ _ _) B0.out B1.out).mono ?_;rintro e wO ⟨he,Qf0,b80,hrC,hrT⟩;rw[hM]at he Qf0 hrC hrT;subst he;have HZO:Hid (wO.heap.size=wL.heap.size+1+1+1+1):=Qf0;have HRC:Hid (Tn wO (wL.heap.size+1+1) ((c.nC+2)*3) 53 (BD c.nC (Du c cb))):=hrC;have HRT:Hid (Tn wO (wL.heap.size+1+1+1) (c.nT+2) 100 (BJ c.nT (fun i=>Gp Tm (rb i) (c.nRow i)))):=hrT;have HMI:Hid (Tn wO wL.heap.size 4 28 (cells4 (.slice q0 c.nC NI) (.slice q1 c.nT fQ) (.slice q2 c.Zo cq2) (.slice q3 c.nD cq3))):=(row4 wL _ _ _ _ _).below b80 (by rw[hM];omega);have HBO:Hid (Sm wL.heap.size wL wO):=Gy b80;clear Qf0 b80 hrC hrT hM;obtain⟨m0,m1,m2,m3⟩:=HMI.out.at4;have Gk0:wL.heap.size<wO.heap.size:=by have:=HZO.out;omega
 have t0:=(HBO.out.cell (p:=⟨w.heap.size,0,Hn⟩) hH).trans y0;have t1:=(HBO.out.cell (p:=⟨w.heap.size,1,Hn⟩) hH).trans y1;have t2:=(HBO.out.cell (p:=⟨w.heap.size,2,Hn⟩) hH).trans y2;have t3:=(HBO.out.cell (p:=⟨w.heap.size,3,Hn⟩) hH).trans y3;have hHO:w.heap.size<wO.heap.size:=E0;clear y0 y1 y2 y3;have HIO:Hid (Sr wO c c.nC (w.heap.size+1) hi cb):=HIN.out.below HBO.out;have Rn0:Hid (∀i,i<c.nT->xC wO Tm (rb i) (c.nRow i) 2 (c.row i)/\hi<=rb i/\rb i<eG):=fun i hi=>⟨(HRO.out i hi).1.below HBO.out,(HRO.out i hi).2⟩;have rn0:Hid (xC wO c.aA Jv c.Zo 3 c.ch):=HCH.out.below HBO.out;have tn0:Hid (xC wO c.Vz YB c.nD 1 c.dv):=HDV.out.below HBO.out;clear HIN HRO HCH HDV;have HCG:Hid (∀i0 i1,i0=(if c.YI then .slice Hn 0 0 else .slice (Gn ⟨wL.heap.size+1+1,0,Hn⟩) c.nC (c.nC+2))->i1=(if c.RJ then .slice Hn 0 0 else .slice (Gn ⟨wL.heap.size+1+1+1,0,Hn⟩) c.nT (c.nT+2))->Zx wO i0 i1 (.slice q2 c.Zo cq2) (.slice q3 c.nD cq3) (dC c)):=fun i0 i1 h0 h1=>by
  have hh:=Tf0 HC.out HIO.out Rn0.out rn0.out tn0.out HRC.out HRT.out h0 h1;rw[F2.out,F3.out]at hh;exact hh
 rcases p0 with _|a<;>rcases p1 with _|b
 all_goals
  go_wp2_with fail
  refine(K20 (dC c) _ _ _ _ _ ((HCG.out _ _ (by have:=N0.out.1;simp at this;simp[this]) (by have:=N0.out.2.2.1;simp at this;simp[this])).below P8) HW.out (fun _ _=>rfl)).mono ?_;rintro e wN ⟨kv,x,y,rfl,Lj0,xd0,hkv⟩;have HCK:Hid (vo c x y):=Lj0;have HBN:Hid (Sm wO.heap.size wO wN):=Gy xd0;have HKV:Hid ((x≠0/\kv=.pointer Hn)\/(x=0/\∃K nb v tr,kv=.pointer (Gn ⟨K,0,Hn⟩)/\wO.heap.size<K/\VP (dC c) (wO.heap.size+1) K nb v tr wN)):=hkv.imp id (fun ⟨h1,K,nb,v,tr,h2,h3,u,xs,_,h4⟩=>⟨h1,K,nb,v,tr,h2,by simp at h3;omega,u,xs,by simpa using h4⟩);have hsN:wO.heap.size<=wN.heap.size:=HBN.out.size;have s0:=(HBN.out.cell (p:=⟨w.heap.size,0,Hn⟩) hHO).trans t0;have s1:=(HBN.out.cell (p:=⟨w.heap.size,1,Hn⟩) hHO).trans t1;have s2:=(HBN.out.cell (p:=⟨w.heap.size,2,Hn⟩) hHO).trans t2;have s3:=(HBN.out.cell (p:=⟨w.heap.size,3,Hn⟩) hHO).trans t3;have HMN:Hid (Tn wN wL.heap.size 4 28 _):=HMI.out.below HBN.out Gk0;have ei0:Hid (Sm w.heap.size w wN):=((Vo IG.out).trans (HBO.out.mono E0)).trans (HBN.out.mono E0);clear Lj0 xd0 hkv t0 t1 t2 t3 m0 m1 m2 m3;go_wp2_with fail;refine(ET c _ _ _ _ _ (HC.out.below ei0.out)).mono ?_;rintro e wC ⟨x',y',rfl,yd0,vd0⟩;obtain⟨rfl,rfl⟩:=HCK.out.uniq yd0;have uH:Hid (Sm wN.heap.size wN wC):=vd0;have hsC:wN.heap.size<=wC.heap.size:=uH.out.size;have r0:=(uH.out.cell (p:=⟨w.heap.size,0,Hn⟩) J6).trans s0;have r1:=(uH.out.cell (p:=⟨w.heap.size,1,Hn⟩) J6).trans s1;have r2:=(uH.out.cell (p:=⟨w.heap.size,2,Hn⟩) J6).trans s2;have r3:=(uH.out.cell (p:=⟨w.heap.size,3,Hn⟩) J6).trans s3;have HMC:Hid (Tn wC wL.heap.size 4 28 _):=HMN.out.below uH.out E0;have ge0:Hid (Sm wO.heap.size wO wC):=HBN.out.trans (uH.out.mono E0);have pn0:Hid (Sm w.heap.size w wC):=ei0.out.trans (uH.out.mono E0);clear yd0 vd0 s0 s1 s2 s3 HMN;go_wp2_with fail;refine(QV c _ _ _ _ (wL.heap.size+1+1) (wL.heap.size+1+1+1) cb rb w _ HC.out pn0.out E0 E0 E0 (HRC.out.below ge0.out V5) (HRT.out.below ge0.out V5)).mono ?_;rintro e wS ⟨rfl,Vx⟩;have Pz:Hid (EG wC wS (wL.heap.size+1+1) (wL.heap.size+1+1+1)):=Vx;have hsS:wC.heap.size<=wS.heap.size:=Pz.out.size;have fe0:Hid (Sm wL.heap.size wL wS):=Pz.out.below (HBO.out.trans (ge0.out.mono E0)) E0 E0;have HMS:Hid (Tn wS wL.heap.size 4 28 (cells4 (.slice q0 c.nC NI) (.slice q1 c.nT fQ) (.slice q2 c.Zo cq2) (.slice q3 c.nD cq3))):=HMC.out.of_heap (Pz.out.block _ E0 E0 E0);obtain⟨y0,y1,y2,y3⟩:=NG (IG.out.trans (fe0.out.mono E0));obtain⟨m0,m1,m2,m3⟩:=HMS.out.at4;have hHS:w.heap.size<wS.heap.size:=E0;have hLS:wL.heap.size<wS.heap.size:=E0;clear Vx r0 r1 r2 r3 HMC;go_wp2_with fail;refine(ka0 c _ _ _ _ _ _ _ _ _ _ (HC.out.below (HA.out _)) (by have hh:Sm (w.heap.size+1) _ wS:=IG.out.trans (fe0.out.mono E0);simpa using hh) cb rb Jv YB q0 NI q1 fQ hi eG (xH.below HLW.out fe0.out)).mono ?_;rintro e wW ⟨rfl,hbw,hbx⟩;have Xa0:Hid (wS.heap.size<=wW.heap.size/\∀b,wO.heap.size<=b->b<wN.heap.size->wW.heap[b]?=wN.heap[b]?):=⟨hbx.size,fun b h1 h2=>(hbx.block b E0 (fun h=>by have:=xH.lt HLW.out h;omega)).trans ((Pz.out.block b E0 V5 V5).trans (uH.out.block b h2))⟩;clear hbx;have BX:Hid (Sm (w.heap.size+1) (w.alloc _) wW):=hbw.mono P0;clear hbw y0 y1 y2 y3 m0 m1 m2 m3;rcases HKV.out with⟨pV,rfl⟩|⟨pV,kb,nb,vt,tr,rfl,hKO,hKM⟩
  ·have gI:(x != 0)=true:=by simpa using pV
   have Fn0:Hid (x≠0):=pV;clear pV;go_wp2_with (go_at_call 41;refine(OB x _).mono ?_;rintro e w' ⟨rfl,rfl⟩);go_ret;exact⟨rfl,.inl ⟨fun e=>Fn0.out (by have:=HCK.out.uniq e;exact this.1),Vo BX.out⟩⟩
  first
   |exact absurd (HCK.out.place pV).sizes (fun h=>by have h1:=h.1.1;have h2:=h.2.1.1;have q:=N0.out;simp at q;omega)
   |skip
 have gI:(x != 0)=false:=by simpa using pV
 have rE:Hid (x=0):=pV;have HKM:Hid (VP (dC c) (wO.heap.size+1) kb nb vt tr wN):=hKM;clear hKM;clear pV;have HIW:Hid (PE wW bw m ks rs H2 H3 H4 xsK ysR):=HI.out.below (Vo BX.out);have rX:=HIW.out.k;have HKS:Hid (wW.ownsRow (bw+1) 43 1 ks m xsK):=rX;have u0:wW.cell? ⟨bw,0,Hn⟩=Gn ks:=HIW.out.row.cell E0;have hbW:bw<wW.heap.size:=Wm u0;clear rX;go_wp2_with (first|(go_at_call 41;refine(OB x _).mono ?_;rintro e wW ⟨rfl,rfl⟩)|(at_builtin;(refine Eo _ rfl _ _ 71 rfl (bw+1) 43 _ 1 8 underlying71 Uf0 rfl E0 ks m xsK rfl (HKS.out.alloc _) wW.heap.size [.pointer (Gn ⟨kb,0,Hn⟩)] 43 rfl rfl G2 D2 Y1 E0 A1 ?_)));intro g cap w1 kq uo jr Av;have WM:∀j,ks.ownBlock=Gn j->bw+1<=j/\j<w.heap.size:=fun j hj=>HI.out.k.lt j hj;have VG:∀j,rs.ownBlock=Gn j->bw+1<=j/\j<w.heap.size:=fun j hj=>HI.out.r.lt j hj;have hsW:w.heap.size+1<=wW.heap.size:=by have:=BX.out.size;exact Vd
 have vX:wW.heap.size+1<=w1.heap.size:=by have:=uo.size;exact Vd
 have De0:Hid (∀j,j<wW.heap.size->ks.ownBlock≠Gn j->w1.heap[j]?=wW.heap[j]?):=fun j hj Yp=>(uo.block j A1 (fun e=>Yp e.symm)).trans (heap_alloc_old _ _ hj);have FB:Hid (Tn w1 bw 5 79 (cells5 ks rs H2 H3 H4)):=HIW.out.row.of_heap (De0.out bw hbW (fun e=>by have:=WM bw e;omega));have AL:Hid (Tn (w1.setCell ⟨bw,0,Hn⟩ (.slice (Gn ⟨g,0,Hn⟩) (m+1:Nat) cap)) bw 5 79 (cells5 (.slice (Gn ⟨g,0,Hn⟩) (m+1:Nat) cap) rs H2 H3 H4)):=(FB.out.set 0 _).congr (fun j hj=>by
  have:j=0\/j=1\/j=2\/j=3\/j=4:=E0;rcases this with rfl|rfl|rfl|rfl|rfl<;>rfl)
 have d0:w1.cell? ⟨bw,0,Hn⟩=Gn ks:=FB.out.cell E0;have d0f:=FB.out.frozen 0;have HK2:Hid ((w1.setCell ⟨bw,0,Hn⟩ (.slice (Gn ⟨g,0,Hn⟩) (m+1:Nat) cap)).ownsRow (bw+1) 43 1 (.slice (Gn ⟨g,0,Hn⟩) (m+1:Nat) cap) (m+1) (xsK++[.pointer (Gn ⟨kb,0,Hn⟩)])):=ownsRow_setCell_below kq P0 _;have H60:Hid (∀j,j<wW.heap.size->j≠bw->ks.ownBlock≠Gn j->(w1.setCell ⟨bw,0,Hn⟩ (.slice (Gn ⟨g,0,Hn⟩) (m+1:Nat) cap)).heap[j]?=wW.heap[j]?):=fun j hj h1 h2=>(yn _ _ _ _ K5).trans (De0.out j hj h2);have GL:(w1.setCell ⟨bw,0,Hn⟩ (.slice (Gn ⟨g,0,Hn⟩) (m+1:Nat) cap)).heap.size=w1.heap.size:=size_setCell _ _ _;have HBU:Hid (Jq (RZ bw ks rs) w (w1.setCell ⟨bw,0,Hn⟩ (.slice (Gn ⟨g,0,Hn⟩) (m+1:Nat) cap))):=⟨(uo.os.trans (Vo BX.out).os),(uo.tape.trans (Vo BX.out).tape),(uo.output.trans (Vo BX.out).output),E0,fun j hj hn=>(H60.out j E0 (fun e=>hn (.inl e)) (fun e=>hn (.inr (.inl e)))).trans ((Vo BX.out).block j hj)⟩;have HCW:Hid (Zx (w1.setCell ⟨bw,0,Hn⟩ (.slice (Gn ⟨g,0,Hn⟩) (m+1:Nat) cap)) (.slice (Gn a) c.nC yp) (.slice (Gn b) c.nT gp) (.slice p2 c.Zo dq) (.slice p3 c.nD Lq) c):=HST.out _ HBU.out;have NY:=HIW.out.r;have Sn0:Hid ((w1.setCell ⟨bw,0,Hn⟩ (.slice (Gn ⟨g,0,Hn⟩) (m+1:Nat) cap)).ownsRow (bw+1) 83 1 rs m ysR):=by
  rcases NY.2 with hn|⟨g',BU,Ov,hv,oU,hg,r⟩
  ·exact⟨NY.1,.inl hn⟩
  ·have hrg:rs.ownBlock=Gn g':=by rw[hv];rfl
   exact⟨NY.1,.inr ⟨g',BU,Ov,hv,oU,by rw[H60.out g' (by have:=VG g' hrg;omega) E0 (fun e=>HI.out.ne g' e hrg)];exact hg,r⟩⟩
 have Gn0:Hid (rs.ownBlock≠Gn g):=by
  rcases jr with h|h
  ·exact HI.out.ne g h
  ·intro e;have:=VG g e;omega
 have A60:Hid (Tn (w1.setCell ⟨bw,0,Hn⟩ (.slice (Gn ⟨g,0,Hn⟩) (m+1:Nat) cap)) w.heap.size 4 28 (cells4 (.slice (Gn a) c.nC yp) (.slice (Gn b) c.nT gp) (.slice p2 c.Zo dq) (.slice p3 c.nD Lq))):=((row4 w _ _ _ _ _).below BX.out E0).of_heap (H60.out _ E0 E0 (fun e=>by have:=WM _ e;omega));have HHG:Hid (bw+1<=g/\g<w1.heap.size):=by
  rcases jr with h|h
  ·have:=WM g h;exact⟨this.1,Av⟩
  ·exact⟨E0,Av⟩
 have HGK:Hid (ks.ownBlock=Gn g\/(wN.heap.size<=g/\g<w1.heap.size)):=by
  rcases jr with h|h
  ·exact .inl h
  ·exact .inr ⟨by have:=Xa0.out.1;omega,Av⟩
 have ao0:Hid (∀b,wO.heap.size<=b->b<wN.heap.size->(w1.setCell ⟨bw,0,Hn⟩ (.slice (Gn ⟨g,0,Hn⟩) (m+1:Nat) cap)).heap[b]?=wN.heap[b]?):=fun b h1 h2=>(H60.out b (by have:=Xa0.out.1;omega) E0 (fun e=>by have:=WM b e;omega)).trans (Xa0.out.2 b h1 h2);clear kq uo jr Av NY u0;go_wp2_with fail;obtain⟨k0,k1,k2,k3⟩:=A60.out.at4;have b1:(w1.setCell ⟨bw,0,Hn⟩ (.slice (Gn ⟨g,0,Hn⟩) (m+1:Nat) cap)).cell? ⟨bw,1,Hn⟩=Gn rs:=AL.out.cell E0;have b1f:=AL.out.frozen 1;have CK0:Hid (vo c 0 0):=HCK.out.place rE.out;have H2S:Hid (w.heap.size+1<=(w1.setCell ⟨bw,0,Hn⟩ (.slice (Gn ⟨g,0,Hn⟩) (m+1:Nat) cap)).heap.size/\bw<(w1.setCell ⟨bw,0,Hn⟩ (.slice (Gn ⟨g,0,Hn⟩) (m+1:Nat) cap)).heap.size/\g<(w1.setCell ⟨bw,0,Hn⟩ (.slice (Gn ⟨g,0,Hn⟩) (m+1:Nat) cap)).heap.size):=⟨E0,E0,by rw[GL];exact HHG.out.2⟩;have vu0:Hid (Sm bw w (w1.setCell ⟨bw,0,Hn⟩ (.slice (Gn ⟨g,0,Hn⟩) (m+1:Nat) cap))):=⟨HBU.out.os,HBU.out.tape,HBU.out.output,HBU.out.size,fun j hj=>HBU.out.block j E0 (fun h=>by
  rcases h with h|h|h
  ·omega
  ·have:=WM j h;omega
  ·have:=VG j h;omega)⟩
 have Wn0:Hid ((w1.setCell ⟨bw,0,Hn⟩ (.slice (Gn ⟨g,0,Hn⟩) (m+1:Nat) cap)).heap.size=w1.heap.size):=GL;have Un0:Hid (wW.heap.size+1<=w1.heap.size):=vX;clear GL De0 H60 FB d0 d0f hsW vX;generalize (w1.setCell ⟨bw,0,Hn⟩ (.slice (Gn ⟨g,0,Hn⟩) (m+1:Nat) cap))=w2 at *;have g1:=H2S.out.1;have uy:w2.heap.size=w1.heap.size:=Wn0.out;have dq0:wN.heap.size<=w2.heap.size:=by have:=Xa0.out.1;have:=Un0.out;omega
 have g2:=H2S.out.2.1;have NC:Hid (Yy c/\c.Zo<=8/\Lp (Xu c) c.nC):=by
  have hh:=CK0.out;unfold vo at hh;rcases hh with h|h|⟨_,_,i,_,h,_⟩|h|⟨_,_,_,_,i,_,h,_⟩|h|⟨_,_,_,_,_,_,i,_,h,_⟩|⟨_,_,_,_,_,_,_,i,_,h,_⟩|h
  ·exact Ei
  ·exact Ph
  ·exact Zc
  ·exact Fg
  ·exact Zc
  ·exact Jf
  ·exact Zc
  ·exact Zc
  ·exact⟨h.1,h.2.2.2.1,h.2.2.2.2.2.2.2.1⟩
 go_region_law
  (first
   |(refine Oz rfl 36 _ _ rfl _ rfl Tryz.f36 func36 Y80 b70 (fun r w'=>∃x0 x1 x2 x3,r=.agg #[x0,x1,x2,x3]/\YA w' c w2.heap.size x0 x1 x2 x3/\Sm w2.heap.size w2 w') ?_ ?_
     ·exact(AV c (.slice (Gn a) c.nC yp) (.slice (Gn b) c.nT gp) (.slice p2 c.Zo dq) (.slice p3 c.nD Lq) w2.drew (HCW.out.keep (fun _ _ h=>h))).mono (fun e w' ⟨x0,x1,x2,x3,h1,h2,h3⟩=>⟨_,h1,x0,x1,x2,x3,rfl,h2,⟨h3.os,h3.tape,h3.output,h3.size,h3.block⟩⟩)
     rintro r wl ⟨x0,x1,x2,x3,rfl,X_,kf0⟩;have EB:Hid (Sm w2.heap.size w2 wl):=kf0;have HLl:Hid (YA wl c w2.heap.size x0 x1 x2 x3):=X_;have yS:w2.heap.size<=wl.heap.size:=kf0.size;have q1:=(EB.out.cell (p:=⟨bw,1,Hn⟩) g2).trans b1;obtain⟨j0,j1,j2,j3⟩:=(A60.out.below EB.out E0).at4;clear X_ kf0)
   |(refine Oz rfl 42 _ _ rfl _ rfl Tryz.f42 func42 Zb0 gb0 (fun r w'=>∃kb Gc L,r=.pointer (Gn ⟨kb,0,Hn⟩)/\Sm wl.heap.size wl w'/\J60 c wl x0 x1 x2 x3 kb Gc L w') ?_ ?_
     ·exact(FT c x0 x1 x2 x3 w2.heap.size wl HLl.out (fun i hi=>(NC.out.2.2 i hi).2.1) NC.out.1.2 NC.out.2.1 NC.out.1.1 ZCH.out ZDV.out ZIM.out).mono (fun e w' ⟨kb,Gc,L,h1,h2,h3⟩=>⟨_,h1,kb,Gc,L,rfl,h2,h3⟩)
     rintro r wk ⟨kb2,Gc,Ln,rfl,hbk,hrn⟩;have HRN:Hid (J60 c wl x0 x1 x2 x3 kb2 Gc Ln wk):=hrn;have HLk:Hid (YA wl c w2.heap.size x0 x1 x2 x3/\Sm wl.heap.size wl wk):=⟨HLl.out,hbk⟩;have Qx0:wl.heap.size<=wk.heap.size:=hbk.size;clear hrn;have HBK:Hid (Sm w2.heap.size w2 wk):=EB.out.trans (hbk.mono yS);have hsk:w2.heap.size<=wk.heap.size:=HBK.out.size;clear q1 j0 j1 j2 j3;have q1:=(HBK.out.cell (p:=⟨bw,1,Hn⟩) g2).trans b1;have q1a:(wk.alloc (.cells #[.pointer (Gn ⟨kb2,0,Hn⟩)] 83)).cell? ⟨bw,1,Hn⟩=Gn rs:=((HBK.out.alloc hsk _).cell (p:=⟨bw,1,Hn⟩) g2).trans b1;obtain⟨j0,j1,j2,j3⟩:=(A60.out.below HBK.out E0).at4;clear hbk)
   |(refine Br rfl _ _ 72 rfl (bw+1) 83 _ 1 8 underlying72 Vf0 rfl E0 rs m ysR rfl (xo Sn0.out (HBK.out.alloc E0 _)) wk.heap.size [.pointer (Gn ⟨kb2,0,Hn⟩)] 83 rfl rfl G2 D2 Y1 E0 A1 ?_
     intro g3 Pi0 w3 Hd0 kF if0 Mb0;have si0:Hid (∀j,j<w2.heap.size->rs.ownBlock≠Gn j->w3.heap[j]?=w2.heap[j]?):=(fun j hj Yp=>(kF.block j A1 (fun e=>Yp e.symm)).trans ((heap_alloc_old _ _ E0).trans (HBK.out.block j hj)));have HR3:Hid (Tn w3 bw 5 79 (cells5 (.slice (Gn ⟨g,0,Hn⟩) (m+1:Nat) cap) rs H2 H3 H4)):=AL.out.of_heap (si0.out bw E0 (fun e=>by have:=VG bw e;omega));clear q1 j0 j1 j2 j3;have q1:w3.cell? ⟨bw,1,Hn⟩=Gn rs:=HR3.out.cell E0;have q1f:=HR3.out.frozen 1;have hO3:Hid (w3.ownsRow (bw+1) 83 1 (.slice (Gn ⟨g3,0,Hn⟩) (m+1:Nat) Pi0) (m+1) (ysR++[.pointer (Gn ⟨kb2,0,Hn⟩)])):=Hd0;have hA3:Hid (rs.ownBlock=Gn g3\/w2.heap.size<=g3):=by
      rcases if0 with h|h
      ·exact Or.inl h
      ·exact Or.inr (by rw[h];simp;omega)
     have hG3:Hid (Jq (fun j=>rs.ownBlock=Gn j) w2 w3):=⟨kF.os.trans HBK.out.os,kF.tape.trans HBK.out.tape,kF.output.trans HBK.out.output,Qm (Qm hsk P0) kF.size,fun j hj Yp=>si0.out j hj Yp⟩;have bo0:Hid (∀b,w2.heap.size<=b->b<wk.heap.size->w3.heap[b]?=wk.heap[b]?):=fun b h1 h2=>(kF.block b A1 (fun e=>by have:=VG b e.symm;have:=g1;omega)).trans (heap_alloc_old _ _ h2);have HGR:Hid (rs.ownBlock=Gn g3\/wk.heap.size<=g3):=by
      rcases if0 with h|h
      ·exact Or.inl h
      ·exact Or.inr (by rw[h];simp)
     have HS3:Hid (wk.heap.size<=w3.heap.size):=Qm P0 kF.size;clear Hd0 kF if0))
 all_goals go_wp2_with fail
 all_goals go_ret
 all_goals
  have HME:=D20 HBU.out hG3.out AL.out HK2.out hO3.out hA3.out Gn0.out ⟨HHG.out.1,H2S.out.2.2⟩ (fun j hj=>(VG j hj).1);refine⟨rfl,.inr ⟨CK0.out,_,_,kb,nb,vt,tr,kb2,Gc,Ln,wO.heap.size+1,wN.heap.size,w2.heap.size,wk.heap.size,V5,dq0,hsk,HME,by rw[size_setCell];exact HS3.out,?_,?_,?_,?_⟩⟩
  ·intro b hb;have jJ:g=b:=by simpa[Value.ownBlock]using hb
   subst jJ;exact HGK.out.imp id (fun h=>⟨h.1,E0⟩)
  ·intro b hb;have jJ:g3=b:=by simpa[Value.ownBlock]using hb
   subst jJ;exact HGR.out
  ·intro wZ hZ;refine HKM.out.up E0 rfl (fun b h1 h2=>(hZ b h1 h2).trans ?_);rw[yn _ _ _ _ (by show b≠bw;omega),hG3.out.block b E0 (fun e=>by have:=VG b e;omega)];exact ao0.out b E0 h2
  ·exact⟨wl,wk,_,_,_,_,rfl,yS,HLk.out.1,HLk.out.2,HRN.out,fun b h1 h2=>by rw[yn _ _ _ _ (by show b≠bw;omega)];exact bo0.out b h1 h2⟩
structure RX where
 Au:Nat
 qc:Option Vm
 cc:Nat
 q3:Option Vm
 c3:Nat
 nD:Nat
 ch:Nat->Int
def RX.kind(x:RX)(c:Nat):Int:=x.ch (c*3)
def noN:Nat->Value:=fun _=>.slice Hn 0 0
def RB(k:RA)(r:RK)(t:IX)(x:RX)(vs:Nat->Dn)(Ls:Nat->Ln)(inV:Dn)(b:Nat):Prop:=(b=r.Kb\/b=r.Gc\/b=r.Lb\/(∃i,i<k.nC/\(vs i).ownBlock=Gn b)\/(∃c,c<r.kc/\(Ls c).wv.ownBlock=Gn b)\/inV.ownBlock=Gn b)\/
 b=r.bo\/(∃i,i<k.nC/\(b=r.cb i\/∃o,r.iq i=Gn ⟨b,o,Hn⟩))\/b=t.tb\/(∃i,i<t.nT/\b=t.ws i)\/∃o,x.qc=Gn ⟨b,o,Hn⟩
def rkV(k:RA)(r:RK)(t:IX)(x:RX)(fr:Int)(inV:Dn):Nat->Value:=oL (.slice (Gn ⟨r.bo,r.oo,Hn⟩) k.nC r.cq) (.slice (Gn ⟨t.tb,x.Au,Hn⟩) t.nT t.cT) (.slice x.qc r.kc x.cc) (.slice x.q3 x.nD x.c3) (.slice (Gn ⟨r.Gc,0,Hn⟩) k.nC k.nC) (.slice (Gn ⟨r.Lb,0,Hn⟩) r.kc r.kc) (.int .i64 fr) inV
structure RTab(w:En)(k:RA)(K:Ys)(r:RK)(t:IX)(x:RX):Prop where
 ap:FX k r
 kk:K.k=r.kc
 num:∀i,i<k.nC->k.num i=i
 stb:du r w t.tb
 tbK:t.tb≠r.Kb
 rows:∀i,i<t.nT->w.cell? ⟨t.tb,x.Au+i,Hn⟩=Gn (.slice (Gn ⟨t.ws i,t.wo i,Hn⟩) (t.nw i) (t.cw i))
 sW:∀i,i<t.nT->du r w (t.ws i)
 wK:∀i,i<t.nT->t.ws i≠r.Kb
 c0:∀i,i<t.nT->∀j,j<t.nw i->w.cell? ⟨t.ws i,t.wo i+j*2,Hn⟩=Gn (.int .i64 (t.wn i j).1)
 c1:∀i,i<t.nT->∀j,j<t.nw i->w.cell? ⟨t.ws i,t.wo i+j*2+1,Hn⟩=Gn (.int .i64 (t.wn i j).2)
 n1:1<=t.nT
 nT:t.nT<=1000
 nw:∀i,i<t.nT->t.nw i<=6
 wnb:∀i,i<t.nT->∀j,j<t.nw i->(t.wn i j).1<k.nC/\(t.wn i j).2<=200
 nC:k.nC<=1000
 nD:x.nD<=1000
 chs:Sl w x.qc (r.kc*3) (fun j=>.int .i64 (x.ch j))
 qs:∀b o,x.qc=Gn ⟨b,o,Hn⟩->du r w b/\b≠r.Kb
 kf:∀c,c<r.kc->K.fr c=x.ch (c*3+1)/\0<=K.fr c/\K.fr c<k.nC
 cr:∀i,i<k.nC->tH i x.kind K.fr x.nD (k.n i) (k.ci i)
structure Fv(w:En)(k:RA)(K:Ys)(r:RK)(t:IX)(x:RX)(s:yC)(vs:Nat->Dn)(Ls:Nat->Ln)(inV:Dn)(il:List (Int×Int))(fr:Nat)(S:Nat->Prop):Prop where
 kn:Uu w k r (JD s vs noN) s.m s.xs
 net:lu w k.nC r (JD s vs noN) (fun _=>[]) Ls fr inV il
 rel:Ns r.kc x.kind K.fr (fun _=>[]) Ls fr s.D
 wt:Yv r.kc s.D
 so:SOk k s
 qG:Tn w r.Kb 8 126 (rkV k r t x fr inV)
 tb:RTab w k K r t x
 pH:∀b,RB k r t x vs Ls inV b->S b
 sz:∀b,S b->b<w.heap.size
section
variable {w w':En}{k:RA}{K:Ys}{r:RK}{t:IX}{x:RX}{s:yC}{vs:Nat->Dn}{Ls:Nat->Ln}{inV:Dn}{il:List (Int×Int)}{fr:Nat}{S:Nat->Prop}
theorem RTab.keep(h:RTab w k K r t x)(hk:∀b,(b=t.tb\/(∃i,i<t.nT/\b=t.ws i)\/∃o,x.qc=Gn ⟨b,o,Hn⟩)->w'.heap[b]?=w.heap[b]?)(hs:w.heap.size<=w'.heap.size):RTab w' k K r t x:=
 have QY:∀i,i<t.nT->w'.heap[t.ws i]?=w.heap[t.ws i]?:=fun i hi=>hk _ (.inr (.inl ⟨i,hi,rfl⟩))
 ⟨h.ap,h.kk,h.num,h.stb.to hs,h.tbK,fun i hi=>(Zn (a:=⟨t.tb,x.Au+i,Hn⟩) (hk _ (.inl rfl))).trans (h.rows i hi),fun i hi=>(h.sW i hi).to hs,h.wK,fun i hi j hj=>(Zn (a:=⟨t.ws i,t.wo i+j*2,Hn⟩) (QY i hi)).trans (h.c0 i hi j hj),fun i hi j hj=>(Zn (a:=⟨t.ws i,t.wo i+j*2+1,Hn⟩) (QY i hi)).trans (h.c1 i hi j hj),h.n1,h.nT,h.nw,h.wnb,h.nC,h.nD,R90 h.chs fun b o e=>hk b (.inr (.inr ⟨o,e⟩)),fun b o e=>⟨(h.qs b o e).1.to hs,(h.qs b o e).2⟩,h.kf,h.cr⟩
theorem Fv.keep(h:Fv w k K r t x s vs Ls inV il fr S)(hk:∀b,S b->w'.heap[b]?=w.heap[b]?)(hs:w.heap.size<=w'.heap.size):Fv w' k K r t x s vs Ls inV il fr S:=by
 have hB:∀b,RB k r t x vs Ls inV b->w'.heap[b]?=w.heap[b]?:=fun b hb=>hk b (h.pH b hb);have hKb:=hB r.Kb (.inl (.inl rfl));have hGc:=hB r.Gc (.inl (.inr (.inl rfl)));have hLb:=hB r.Lb (.inl (.inr (.inr (.inl rfl))));have hbo:=hB r.bo (.inr (.inl rfl));have WH:∀i,i<k.nC->w'.heap[r.cb i]?=w.heap[r.cb i]?:=fun i hi=>hB _ (.inr (.inr (.inl ⟨i,hi,.inl rfl⟩)));have q:=h.kn;have n:=h.net;refine⟨⟨(Zn (a:=⟨r.Kb,0,Hn⟩) hKb).trans q.h0,(Zn (a:=⟨r.Kb,4,Hn⟩) hKb).trans q.h4,q.sK.to hs,q.sb.to hs,fun i hi=>(q.sc i hi).to hs,fun i hi b o e=>(q.si i hi b o e).to hs,q.oh,
  fun i hi=>(Zn (a:=⟨r.bo,r.oo+i*3,Hn⟩) hbo).trans (q.hc i hi),fun i hi=>(Zn (a:=⟨r.bo,r.oo+i*3+1,Hn⟩) hbo).trans (q.hi i hi),fun i hi=>(Zn (a:=⟨r.bo,r.oo+i*3+2,Hn⟩) hbo).trans (q.hl i hi),fun i hi j hj=>(Zn (a:=⟨r.cb i,r.co i+j,Hn⟩) (WH i hi)).trans (q.code i hi j hj),fun i hi=>R90 (q.qV i hi) fun b o e=>hB b (.inr (.inr (.inl ⟨i,hi,.inr ⟨o,e⟩⟩))),q.row.of_heap hGc,fun i hi=>Lr (q.own i hi) fun b hb=>hB b (.inl (.inr (.inr (.inr (.inl ⟨i,hi,hb⟩))))),q.Wu,q.g16,q.n48,q.ok,q.fst⟩,
  ⟨(Zn (a:=⟨r.Kb,5,Hn⟩) hKb).trans n.h5,(Zn (a:=⟨r.Kb,6,Hn⟩) hKb).trans n.h6,(Zn (a:=⟨r.Kb,7,Hn⟩) hKb).trans n.h7,Lr n.ino fun b hb=>hB b (.inl (.inr (.inr (.inr (.inr (.inr hb)))))),n.row.of_heap hLb,n.lo,fun c hc=>Lr (n.own c hc) fun b hb=>hB b (.inl (.inr (.inr (.inr (.inr (.inl ⟨c,hc,hb⟩)))))),n.Wu,n.oh,fun i hi=>Lr (n.yJ i hi) fun b hb=>(by cases hb),n.qL,n.noh⟩,
  h.rel,h.wt,h.so,h.qG.of_heap hKb,h.tb.keep (fun b hb=>hB b (.inr (.inr (.inr ?_)))) hs,h.pH,fun b hb=>Lm (h.sz b hb) hs⟩
 exact hb
theorem Fv.frame(h:Fv w k K r t x s vs Ls inV il fr S)(aE:fr<=100000000000)(hm:∀i,s.m i+1600<=1000000000){ip:Option Vm}{jl ic:Nat}{zi:Nat->Int}(iu:Sl w ip (jl*2) (fun j=>.int .i64 (zi j)))(hiK:jl=0\/∀b o,ip=Gn ⟨b,o,Hn⟩->b≠r.Kb)(CY:jl<=4):
  Zm prog 44 #[.pointer (Gn ⟨r.Kb,0,Hn⟩),.slice ip jl ic] w fun e w'=>e=.returned (.int .i64 0)/\∃CB EC uz il',Fv w' k K r t x (bA k K (t.wn (fr%t.nT)) (t.nw (fr%t.nT)) ((Hm jl).map fun j=>(zi (j*2),zi (j*2+1))) s) CB EC uz il' (fr+1) (fun b=>S b\/(w.heap.size<=b/\b<w'.heap.size))/\Jq S w w':=by
 have ht:=h.tb;have kQ:fr%t.nT<t.nT:=Nat.mod_lt _ ht.n1;have hnw:=ht.nw _ kQ;have hmul:t.nw (fr%t.nT)*201<=6*201:=Nat.mul_le_mul_right _ hnw;refine(y90 (kind:=x.kind) (ch:=x.ch) h.kn h.net h.rel h.wt h.so ht.ap ht.kk ht.num h.qG ht.stb ht.tbK (ht.rows _ kQ) (ht.sW _ kQ) (ht.wK _ kQ) (ht.c0 _ kQ) (ht.c1 _ kQ) ht.chs ht.qs (fun c hc=>⟨rfl,(ht.kf c hc).1,(ht.kf c hc).2⟩) iu hiK CY ht.nD ht.n1 ht.nT aE E0 (ht.wnb _ kQ) ht.nC (fun i=>by have:=hm i;omega) ht.cr).mono ?_;rintro e w' ⟨rfl,CB,EC,uz,h1,h2,h3,h4,h5,h6,h7,h8,h9,fO⟩;have kept:∀b,du r w b->b≠r.Kb->w'.heap[b]?=w.heap[b]?:=fun b hs Yp=>h7.block b hs.lt (fun e=>by
  rcases e with (e|e|e)|⟨i,hi,e⟩|⟨i,hi,e⟩
  ·exact Yp e
  ·exact hs.2.1.1 e
  ·exact hs.2.1.2 e
  ·exact hs.yz (fun b=>h.kn.oh i b hi) e
  ·exact hs.yz (fun b=>h.net.oh i b hi) e)
 have ow:∀b,S b->b<w'.heap.size:=fun b hb=>Lm (h.sz b hb) h7.size;refine⟨rfl,CB,EC,uz,_,⟨h1,h2,h3,h4,h5,h6,ht.keep (fun b hb=>?_) h7.size,fun b hb=>?_,fun b hb=>?_⟩,h7.mono fun b hb=>?_⟩
 ·rcases hb with rfl|⟨i,hi,rfl⟩|⟨o,hb⟩
  ·exact kept _ ht.stb ht.tbK
  ·exact kept _ (ht.sW i hi) (ht.wK i hi)
  ·exact kept _ (ht.qs b o hb).1 (ht.qs b o hb).2
 ·rcases hb with (hb|hb|hb|⟨i,hi,hb⟩|⟨i,hi,hb⟩|hb)|hb
  ·exact .inl (h.pH b (.inl (.inl hb)))
  ·exact .inl (h.pH b (.inl (.inr (.inl hb))))
  ·exact .inl (h.pH b (.inl (.inr (.inr (.inl hb)))))
  ·rcases h8 i b hi hb with e|e
   ·exact .inl (h.pH b (.inl (.inr (.inr (.inr (.inl ⟨i,hi,e⟩))))))
   ·exact .inr ⟨e,Qv (h1.own i hi) hb⟩
  ·rcases h9 i b hi hb with e|e
   ·exact .inl (h.pH b (.inl (.inr (.inr (.inr (.inr (.inl ⟨i,hi,e⟩)))))))
   ·exact .inr ⟨e,Qv (h2.own i hi) hb⟩
  ·exact .inr ⟨fO b hb,Qv h2.ino hb⟩
  ·exact .inl (h.pH b (.inr hb))
 ·rcases hb with hb|hb
  ·exact ow b hb
  ·exact hb.2
 ·rcases hb with (hb|hb|hb)|⟨i,hi,hb⟩|⟨i,hi,hb⟩
  ·exact h.pH b (.inl (.inl hb))
  ·exact h.pH b (.inl (.inr (.inl hb)))
  ·exact h.pH b (.inl (.inr (.inr (.inl hb))))
  ·exact h.pH b (.inl (.inr (.inr (.inr (.inl ⟨i,hi,hb⟩)))))
  ·exact h.pH b (.inl (.inr (.inr (.inr (.inr (.inl ⟨i,hi,hb⟩))))))
end
theorem choose_lt{α:Type}(d:α){n:Nat}{P:Nat->α->Prop}(h:∀i,i<n->∃x,P i x):∃f:Nat->α,∀i,i<n->P i (f i):=
 ⟨fun i=>if hi:i<n then Classical.choose (h i hi)else d,fun i hi=>by
  simp only[hi,dite_true];exact Classical.choose_spec (h i hi)⟩
def UD(c:Ur)(i j:Nat):Nat×Nat:=((c.row i (j*2)).toNat,(c.row i (j*2+1)).toNat)
theorem F00(lim:Int)(m:Nat)(img:Nat->Int)(n:Nat)(hm:m<=16):aB n (Az lim m img)/\IntKind.i64.wrap (Az lim m img 46)=Az lim m img 46:=by
 have e45:Az lim m img 45=0:=by unfold Az;exact jg
 have e24:Az lim m img 24=0:=by unfold Az;exact jg
 have e46:Az lim m img 46=0:=by unfold Az;exact jg
 exact⟨⟨by rw[e45];omega,by rw[e45];omega,e24⟩,by rw[e46];rfl⟩
theorem vo.NT{c:Ur}(h:vo c 0 0):Lp (Qw c) c.nT:=by
 unfold vo at h;rcases h with h|h|⟨_,_,i,_,h,_⟩|h|⟨_,_,_,_,i,_,h,_⟩|h|⟨_,_,_,_,_,_,i,_,h,_⟩|⟨_,_,_,_,_,_,_,i,_,h,_⟩|h
 ·exact Ei
 ·exact Ph
 ·exact Zc
 ·exact Fg
 ·exact Zc
 ·exact Jf
 ·exact Zc
 ·exact Zc
 ·exact h.2.2.1
theorem ae0{c:Ur}{i:Nat}(h:Qw c i):c.nRow i<=6/\∀j,j<c.nRow i->((UD c i j).1:Int)=c.row i (j*2)/\((UD c i j).2:Int)=c.row i (j*2+1)/\(UD c i j).1<c.nC/\(UD c i j).2<=200:=by
 obtain⟨h1,h2,h3⟩:=h;refine⟨h1,fun j hj=>?_⟩;obtain⟨a,b,d⟩:=h2 j hj;have hs:=(VN (c.row i) (c.nRow i) (fun k hk=>(h2 k hk).2.2)).2 j hj;unfold UD;omega
section
variable {w:En}
theorem IK{a b:Nat}{ca cb:Array Dn}{ta tb:Nat}{fa fb:Nat×Nat}(ha:w.heap[a]?=Gn (.cells ca ta fa))(hb:w.heap[b]?=Gn (.cells cb tb fb))(ht:ta≠tb):a≠b:=fun e=>by
 subst e;rw[ha]at hb;cases hb;exact ht rfl
theorem FD{b e s n:Nat}{v:Dn}{xs:List Dn}(h:w.ownsRow b e s v n xs){g:Nat}(hg:v.ownBlock=Gn g):∃cs,w.heap[g]?=Gn (.cells cs e (0,0)):=by
 rcases h.2 with⟨hv,_⟩|⟨g',cap,Ov,hv,_,hh,_⟩
 ·rw[hv]at hg;simp[Value.ownBlock]at hg
 ·rw[hv]at hg;have:g'=g:=by simpa[Value.ownBlock]using hg
  subst this;exact⟨Ov,hh⟩
end
theorem DN:∀(n i:Nat),i<n->(tw n)[i*3]?=Gn (.slice Hn 0 0)/\(tw n)[i*3+1]?=Gn (.slice Hn 0 0)/\(tw n)[i*3+2]?=Gn (.int .i64 0)
 |0,i,h=>absurd h (Nat.not_lt_zero i)
 |n+1,i,h=>by
  have hl:∀n,(tw n).length=n*3:=fun n=>by
   induction n with
   |zero=>rfl
   |succ n ih=>simp[tw,ih];omega
  by_cases e:i=n
  ·subst e;have:=hl i;simp[tw,this]
  ·have h2:=DN n i E0;have:=hl n;simp only[tw];rw[Em E0,Em E0,Em E0];exact h2
theorem BK:∀(n i:Nat),i<n->(ru n)[i*4]?=Gn (.int .i64 0)/\(ru n)[i*4+1]?=Gn (.int .i64 (-1))/\(ru n)[i*4+2]?=Gn (.int .i64 0)/\(ru n)[i*4+3]?=Gn (.bool Tm)
 |0,i,h=>absurd h (Nat.not_lt_zero i)
 |n+1,i,h=>by
  have hl:∀n,(ru n).length=n*4:=fun n=>by
   induction n with
   |zero=>rfl
   |succ n ih=>simp[ru,ih];omega
  by_cases e:i=n
  ·subst e;have:=hl i;simp[ru,this]
  ·have h2:=BK n i E0;have:=hl n;simp only[ru];rw[Em E0,Em E0,Em E0,Em E0];exact h2
theorem rM(z:Nat->Int):∀(n i:Nat),i<n->(JB z n)[i*2]?=Gn (.int .i64 (z (i*3+1)))/\(JB z n)[i*2+1]?=Gn (.int .i64 (z (i*3+2)))
 |0,i,h=>absurd h (Nat.not_lt_zero i)
 |n+1,i,h=>by
  have hl:∀n,(JB z n).length=n*2:=fun n=>by
   induction n with
   |zero=>rfl
   |succ n ih=>simp[JB,ih];omega
  by_cases e:i=n
  ·subst e;have:=hl i;simp[JB,this]
  ·have h2:=rM z n i E0;have:=hl n;simp only[JB];rw[Em E0,Em E0];exact h2
def newC:Us:=⟨[],[],0,0,-1,0,Tm⟩
def sU(c:Ur):yC:=⟨fun i=>Az (c.lim i) (c.Hq i) (c.img i),fun _=>0,fun _=>[],fun _=>newC⟩
theorem IU{c:Ur}{i:Nat}(h:Xu c i):yx (c.Ho i) c.Zo (c.code i):=fun k hk=>by
 obtain⟨-,-,-,h4⟩:=h;obtain⟨h5,h6,h7,h8,h9,fO,iO,h12,h13⟩:=h4 k hk;refine⟨h5,h6,h7,h8,fun hx mU=>?_⟩;rcases hx with e|e|e|e|e|e
 ·exact⟨(h9 e).1,(h9 e).2.1⟩
 ·exact⟨(fO e).1,(fO e).2.1⟩
 ·exact⟨(iO (.inl e)).1,(iO (.inl e)).2.1⟩
 ·exact⟨(h12 e).1,(h12 e).2.1⟩
 ·exact absurd e mU
 ·exact⟨(iO (.inr e)).1,(iO (.inr e)).2.1⟩
theorem vo.ch8{c:Ur}(h:vo c 0 0):c.Zo<=8:=by
 unfold vo at h;rcases h with h|h|⟨_,_,i,_,h,_⟩|h|⟨_,_,_,_,i,_,h,_⟩|h|⟨_,_,_,_,_,_,i,_,h,_⟩|⟨_,_,_,_,_,_,_,i,_,h,_⟩|h
 ·exact Ei
 ·exact Ph
 ·exact Zc
 ·exact Fg
 ·exact Zc
 ·exact Jf
 ·exact Zc
 ·exact Zc
 ·exact h.2.2.2.1
theorem pT{w:En}{b e s n:Nat}{v:Dn}{xs:List Dn}(h:w.ownsRow b e s v n xs)(hn:0<n):∃g cap m f,v=.slice (Gn ⟨g,0,Hn⟩) n cap/\b<=g/\Tn w g m e f/\n*s<=m/\∀j x,xs[j]?=Gn x->f j=x:=by
 rcases h with⟨hl,⟨_,h0⟩|⟨g,cap,Ov,hv,hb,hh,h1,h2,h3,h4⟩⟩
 ·omega
 ·refine⟨g,cap,Ov.size,fun j=>Ov.getD j Bn,hv,hb,⟨Ov,hh,rfl,fun j hj=>by simp[Array.getD,hj]⟩,by rw[h3];exact Nat.mul_le_mul_right _ h1,fun j x hx=>?_⟩;rw[<-h4,List.getElem?_take]at hx;split at hx
  ·rw[Array.getElem?_toList]at hx;simp[Array.getD_eq_getD_getElem?,hx]
  ·cases hx
def KM2(c:Ur)(B K nb:Nat)(v tr:Dn)(w:En):Prop:=
 ∃u xs,Tn w K 5 94 (tA v (.int .i64 0) u (.pointer (Gn ⟨nb,0,Hn⟩)) tr)/\w.ownsRow (K+1) 143 1 u c.nC xs/\Ext B c nb tr w/\(∃ys,w.ownsRow (K+1) 100 1 v c.nT ys/\oz B c c.nT ys w)/\Iz B c nb c.nC xs w
section
variable {w:En}
theorem q20{c:Ur}{B K nb:Nat}{v tr:Dn}(h:KM2 c B K nb v tr w)(hBK:B<=K)(UM:vo c 0 0):
  ∃k N t f,Ix w k N t (sU c) f (fun _=>Hn) 0 (fun b=>B<=b/\b<w.heap.size)/\k.kb=K/\k.nC=c.nC/\k.n=c.Ho/\k.ci=c.code/\(∀i,k.num i=i)/\N.k=c.Zo/\(∀i,N.fr i=c.ch (i*3+1))/\(∀i,N.Au i=c.ch (i*3+2))/\t.nT=c.nT/\t.nw=c.nRow/\t.wn=UD c:=by
 obtain⟨u,xs,hK,hu,⟨⟨hnb,ve,vq,vs,ZH,⟨pe,ce,he⟩,⟨pq,cq,hq⟩,⟨ps,cs',hs⟩,kO,IY,ho3⟩,T,hT,htr,hTr⟩,⟨ys,hv,uk0⟩,kb,hinj,lf0⟩:=h;obtain⟨⟨mG,hn6⟩,⟨ht1,ht8⟩,dy⟩:=UM.sizes;have h8:=vo.ch8 UM;have hra:=vo.NT UM;obtain⟨C,cC,rfl,hCl,Lo0⟩:=hu.form E0;obtain⟨tb,cT,rfl,htl,iq0⟩:=hv.form E0;obtain⟨cv,hcv⟩:=choose_lt (.slice Hn 0 0) lf0;have qp0:∀i,i<c.nC->∃p:Nat×Nat,cv i=.slice (Gn ⟨p.1,0,Hn⟩) (c.Ho i) p.2/\B<=p.1/\p.1<w.heap.size:=fun i hi=>by
  obtain⟨-,-,-,-,h5⟩:=hcv i hi;obtain⟨g,cap,h6,h7,h8⟩:=h5.form (by have:=(dy i hi).2.2.1.1;exact this);exact⟨(g,cap),h6,h7,h8⟩
 obtain⟨cp,hcp⟩:=choose_lt (0,0) qp0;obtain⟨rp,hrp⟩:=choose_lt (α:=Nat×Nat) (0,0) (P:=fun i p=>ys[i]?=Gn (.slice (Gn ⟨p.1,0,Hn⟩) (c.nRow i) p.2)/\w.ownsRow B 102 2 (.slice (Gn ⟨p.1,0,Hn⟩) (c.nRow i) p.2) (c.nRow i) ((Hm (c.nRow i*2)).map fun j=>.int .i64 (c.row i j))) (fun i (hi:i<c.nT)=>by
  obtain⟨g,cap,h1,h2⟩:=uk0 i hi;exact⟨(g,cap),h1,h2⟩)
 subst htr;obtain⟨csK,hKh,-⟩:=id hK;obtain⟨csN,hNh,-⟩:=id ZH;obtain⟨csC,hCh⟩:=FD hu (g:=C) rfl;obtain⟨csT,hTh⟩:=FD hv (g:=tb) rfl;have Np:∀i,i<c.nC->w.ownsRow B 97 4 (.slice (Gn ⟨(cp i).1,0,Hn⟩) (c.Ho i) (cp i).2) (c.Ho i) ((Hm (c.Ho i*4)).map fun j=>.int .i64 (c.code i j)):=fun i hi=>by
  have:=(hcv i hi).2.2.2.2;rwa [(hcp i hi).1]at this
 have tk0:∀i,i<c.nC->Tn w (kb i) 48 186 (Zv i (.pointer (Gn ⟨nb,0,Hn⟩)) (.slice (Gn ⟨(cp i).1,0,Hn⟩) (c.Ho i) (cp i).2) (Az (c.lim i) (c.Hq i) (c.img i))):=fun i hi=>by
  have:=(hcv i hi).2.2.2.1;rwa [(hcp i hi).1]at this
 have nQ:=fun i (hi:i<c.nT)=>ae0 (hra i hi);obtain⟨N,hNk,hNb,hNf,hNt,hNw,hNq,hNe⟩:∃N:Ys,N.k=c.Zo/\N.nb=nb/\(∀i,N.fr i=c.ch (i*3+1))/\(∀i,N.Au i=c.ch (i*3+2))/\ZL w N/\XP w N (fun _=>newC) (fun _=>Hn)/\(0<N.k->(∃m f,B<=N.qb/\Tn w N.qb m 156 f)/\(∃m f,B<=N.sb/\Tn w N.sb m 158 f)/\∃m f,B<=N.eb/\Tn w N.eb m 151 f):=by
  by_cases h0:0<c.Zo
  ·obtain⟨eb,ce,em,ef,e1,e2,e3,e4,e5⟩:=pT kO h0;obtain⟨qb,cq,qm,qf,q1,q2,q3,q4,q5⟩:=pT IY h0;obtain⟨sb,cs,sm,sf,s1,s2,s3,s4,s5⟩:=pT ho3 h0;subst e1 q1 s1;refine⟨⟨nb,eb,qb,sb,c.Zo,qm,sm,fun i=>c.ch (i*3+1),fun i=>c.ch (i*3+2)⟩,rfl,rfl,fun _=>rfl,fun _=>rfl,⟨⟨_,ce,ZH.cell (j:=0) E0,fun _=>rfl⟩,⟨_,cq,ZH.cell (j:=1) E0,fun _=>rfl⟩,⟨_,cs,ZH.cell (j:=2) E0,fun _=>rfl⟩,fun j hj=>?_,fun j hj=>?_,q4,s4,by show c.Zo<=1000;omega⟩,⟨fun _ _=>rfl,fun _ _ _ _ h=>D4,fun _ _ h=>D4,fun _=>⟨qf,sf,q3,s3,fun i hi=>?_⟩⟩,fun _=>⟨⟨_,_,q2,q3⟩,⟨_,_,s2,s3⟩,⟨_,_,e2,e3⟩⟩⟩
   ·have hj:j<c.Zo:=hj;rw[e3.cell (j:=j*2) E0,e5 _ _ (rM c.ch c.Zo j hj).1]
   ·have hj:j<c.Zo:=hj;rw[e3.cell (j:=j*2+1) E0,e5 _ _ (rM c.ch c.Zo j hj).2]
   ·have hi:i<c.Zo:=hi;have hq:=DN c.Zo i hi;have hs:=BK c.Zo i hi;exact⟨.inl ⟨rfl,q5 _ _ hq.1,rfl⟩,.inl ⟨rfl,q5 _ _ hq.2.1,rfl⟩,q5 _ _ hq.2.2,s5 _ _ hs.1,s5 _ _ hs.2.1,s5 _ _ hs.2.2.1,s5 _ _ hs.2.2.2⟩
  ·have h0':c.Zo=0:=by omega
   subst he hq hs;refine⟨⟨nb,0,0,0,c.Zo,c.Zo*3,c.Zo*4,fun i=>c.ch (i*3+1),fun i=>c.ch (i*3+2)⟩,rfl,rfl,fun _=>rfl,fun _=>rfl,⟨⟨_,ce,ZH.cell (j:=0) E0,fun h=>absurd h h0⟩,⟨_,cq,ZH.cell (j:=1) E0,fun h=>absurd h h0⟩,⟨_,cs',ZH.cell (j:=2) E0,fun h=>absurd h h0⟩,fun j hj=>absurd (Nat.lt_of_le_of_lt (Pm j) hj) h0,fun j hj=>absurd (Nat.lt_of_le_of_lt (Pm j) hj) h0,Om _,Om _,by show c.Zo<=1000;omega⟩,⟨fun _ _=>rfl,fun _ _ _ _ h=>D4,fun _ _ h=>D4,fun h=>absurd h h0⟩,fun h=>absurd h h0⟩
 subst hNb
 let k:RA:=⟨K,C,T,c.nC,cC,N.nb,kb,fun i=>(cp i).1,fun _=>0,c.Ho,fun i=>(cp i).2,fun i=>i,c.code⟩
 let t:IX:=⟨tb,cT,c.nT,fun i=>(rp i).1,fun _=>0,fun i=>(rp i).2,c.nRow,UD c⟩
 have seb:0<N.k->Ws w N.eb:=fun h0=>by
  obtain⟨-,-,m,f,-,cs,hh,-⟩:=hNe h0;exact Ih
 have scb:∀i,i<c.nC->Ws w (cp i).1:=fun i hi=>by
  obtain⟨cs,hh⟩:=FD (Np i hi) (g:=(cp i).1) rfl;exact Ih
 have sws:∀i,i<c.nT->Ws w (rp i).1:=fun i hi=>by
  obtain⟨cs,hh⟩:=FD (hrp i hi).2 (g:=(rp i).1) rfl;exact Ih
 have Pf0:wH w k N:=by
  refine⟨hK.cell (j:=2) E0,hK.cell (j:=4) E0,⟨csK,_,_,hKh,U0,U0,U0,U0,U0,U0⟩,⟨csC,_,_,hCh,U0,U0,U0,U0,U0,U0⟩,⟨csN,_,_,hNh,U0,U0,U0,U0,U0,U0⟩,seb,scb,fun i hi=>yt hu (hcv i hi).1,fun i hi j hj=>?_,hNw,fun i hi=>(dy i hi).2.2.1.2,fun i hi=>?_,hinj⟩
  ·show w.cell? ⟨(cp i).1,0+j,Hn⟩=Gn (.int .i64 (c.code i j));rw[Nat.zero_add];exact yt (Np i hi) (by simp[show j<c.Ho i*4 from hj])
  ·rw[hNk];exact IU (dy i hi)
 have pf0:qD w k N (sU c) (fun _=>.slice Hn 0 0) (fun _=>Hn):=
  ⟨tk0,hTr,fun i hi=>World.ownsRow_nil _ _ _ _,fun i hi=>(F00 _ _ _ _ (dy i hi).2.1).1,fun i j _ _ _ b hb=>by simp[Value.ownBlock]at hb,hNq⟩
 refine⟨k,N,t,fun _=>.slice Hn 0 0,⟨Pf0,pf0,fun _ _=>⟨Pm _,Pm _⟩,hK,⟨csT,_,_,hTh,U0,U0,U0,U0,U0,U0⟩,fun i hi=>yt hv (hrp i hi).1,sws,fun i hi j hj=>?_,fun i hi j hj=>?_,by show 0<c.nT;omega,by show c.nT<=1000;omega,fun i hi=>(nQ i hi).1,fun i hi j hj=>((nQ i hi).2 j hj).2.2,fun b hb=>?_,fun b hb=>hb.2,fun b hb=>?_⟩,rfl,rfl,rfl,rfl,fun _=>rfl,hNk,hNf,hNt,rfl,rfl,rfl⟩
 ·show w.cell? ⟨(rp i).1,0+j*2,Hn⟩=Gn (.int .i64 ((UD c i j).1:Int));have kz:j<c.nRow i:=hj;rw[Nat.zero_add,((nQ i hi).2 j hj).1];exact yt (hrp i hi).2 (by simp[show j*2<c.nRow i*2 by omega])
 ·show w.cell? ⟨(rp i).1,0+j*2+1,Hn⟩=Gn (.int .i64 ((UD c i j).2:Int));have kz:j<c.nRow i:=hj;rw[Nat.zero_add,((nQ i hi).2 j hj).2.1];exact yt (hrp i hi).2 (by simp[show j*2+1<c.nRow i*2 by omega])
 ·rcases hb with hb|(hb|hb|⟨h0,hb⟩|hb|⟨i,hi,hb⟩|⟨i,hi,hb⟩)|(hb|hb|⟨i,hi,hb|hb⟩)
  ·subst hb;exact⟨hBK,hK.lt⟩
  ·subst hb;exact⟨E0,Lo0⟩
  ·subst hb;exact⟨hnb,ZH.lt⟩
  ·subst hb;obtain⟨-,-,m,f,e1,e2⟩:=hNe h0;exact⟨e1,e2.lt⟩
  ·subst hb;exact⟨E0,iq0⟩
  ·subst hb;exact(hcp i hi).2
  ·subst hb;exact(hrp i hi).2.lt _ rfl
  ·subst hb;exact⟨hT,hTr.lt⟩
  ·rcases hb with⟨h0,hb⟩|⟨j,r,hj,_⟩
   ·obtain⟨⟨m,f,e1,e2⟩,⟨m',f',e3,e4⟩,-⟩:=hNe h0;rcases hb with rfl|rfl
    ·exact⟨e1,e2.lt⟩
    ·exact⟨e3,e4.lt⟩
   ·cases hj
  ·subst hb;exact⟨(hcv i hi).2.1,(hcv i hi).2.2.1⟩
  ·exact Vi
 ·rcases hb with rfl|rfl|⟨h0,rfl⟩|rfl|⟨i,hi,rfl⟩|⟨i,hi,rfl⟩
  ·exact IK hCh hKh U0
  ·exact IK hNh hKh U0
  ·obtain⟨-,-,m,f,-,cs,hh,-⟩:=hNe h0;exact IK hh hKh U0
  ·exact IK hTh hKh U0
  ·obtain⟨cs,hh⟩:=FD (Np i hi) (g:=(cp i).1) rfl;exact IK hh hKh U0
  ·obtain⟨cs,hh⟩:=FD (hrp i hi).2 (g:=(rp i).1) rfl;exact IK hh hKh U0
end
theorem vo.Uk0{c:Ur}(h:vo c 0 0):Lp (Xz c) c.Zo/\c.nD<=4:=by
 unfold vo at h;rcases h with h|h|⟨_,_,i,_,h,_⟩|h|⟨_,_,_,_,i,_,h,_⟩|h|⟨_,_,_,_,_,_,i,_,h,_⟩|⟨_,_,_,_,_,_,_,i,_,h,_⟩|h
 ·exact Ei
 ·exact Ph
 ·exact Zc
 ·exact Fg
 ·exact Zc
 ·exact Jf
 ·exact Zc
 ·exact Zc
 ·exact⟨h.2.2.2.2.1,h.2.2.2.2.2.1⟩
theorem o70{c:Ur}{i:Nat}(h:Xu c i){kind fr:Nat->Int}(hk:∀j,kind j=c.ch (j*3))(hf:∀j,fr j=c.ch (j*3+1)):tH i kind fr c.nD (c.Ho i) (c.code i):=fun k jK=>by
 obtain⟨-,-,-,h4⟩:=h;obtain⟨h5,h6,h7,h8,h9,fO,iO,h12,h13⟩:=h4 k jK;simp only[hk,hf];exact⟨fun e=>(h9 e).2.2,fun e=>(fO e).2.2,fun e=>(iO e).2.2.1,fun e=>(h12 e).2.2.1,fun e=>⟨(h13 e).1,(h13 e).2.1⟩⟩
theorem S80(nl:Bool)(b n:Nat)(h:nl=Um->n=0):∃q cc,Gp nl b n=.slice q n cc/\(∀b' o,q=Gn ⟨b',o,Hn⟩->nl=Tm/\b'=b/\o=0)/\(nl=Tm->q=Gn ⟨b,0,Hn⟩):=by
 cases nl with
 |true=>exact⟨Hn,0,by rw[h rfl];rfl,fun _ _ e=>I3,fun e=>I3⟩
 |false=>exact⟨Gn ⟨b,0,Hn⟩,n+2,rfl,fun b' o e=>(by cases e;exact⟨rfl,rfl,rfl⟩),fun _=>rfl⟩
section
variable {w:En}
theorem k30{c:Ur}{B Kb Gc L:Nat}{o0 o1 o2 o3:Dn}{wl:En}(hl:YA wl c B o0 o1 o2 o3)(hb:Sm wl.heap.size wl w)(hr:J60 c wl o0 o1 o2 o3 Kb Gc L w)(UM:vo c 0 0)
  (hcn:∀i,i<c.nC->c.Jt i=Um->c.Ho i=0)(him:∀i,i<c.nC->c.Vt i=Um->c.Hq i=0)(zu:c.aA=Um->c.Zo=0)(JL:c.Vz=Um->c.nD=0){k:RA}{N:Ys}(xG:k.nC=c.nC)(jG:k.n=c.Ho)(hk3:k.ci=c.code)(hk4:∀i,k.num i=i)(hN1:N.k=c.Zo)(hN2:∀i,N.fr i=c.ch (i*3+1)):
  ∃r t x,Fv w k N r t x (sU c) noN (fun _=>uK) (.slice Hn 0 0) [] 0 (fun b=>B<=b/\b<w.heap.size)/\r.Kb=Kb/\t.nT=c.nT/\t.nw=c.nRow/\t.wn=UD c/\r.kc=c.Zo/\x.ch=c.ch:=by
 obtain⟨⟨cb,rb,Jv,YB,p0,yp,p1,gp,hi,eG,rfl,l0,z0,sA,rfl,l1,z1,vX,rfl,rfl,iu,jQ,hB2,Ir,aN,Kj0,hdv,hh⟩,lo0,lo1⟩:=hl;obtain⟨hK,hG,Yp,dK,hGr,hL,hLG,hLK,hLr⟩:=hr;obtain⟨⟨mG,hn6⟩,⟨ht1,ht8⟩,dy⟩:=UM.sizes;have hra:=vo.NT UM;have h8:=vo.ch8 UM;obtain⟨hco,hd4⟩:=vo.Uk0 UM;obtain⟨q2,cq2,e2⟩:∃q cc,Gp c.aA Jv c.Zo=.slice q c.Zo cc/\(∀b o,q=Gn ⟨b,o,Hn⟩->c.aA=Tm/\b=Jv/\o=0)/\(c.aA=Tm->q=Gn ⟨Jv,0,Hn⟩):=S80 _ _ _ zu;obtain⟨q3,cq3,e3⟩:∃q cc,Gp c.Vz YB c.nD=.slice q c.nD cc:=jy _ _ _ JL;have nQ:=fun i (hi:i<c.nT)=>ae0 (hra i hi);rcases sA with e|⟨b0,f0,rfl,c0⟩
 ·omega
 rcases vX with e|⟨b1,f1,rfl,c1⟩
 ·omega
 have hB0:B<=b0:=lo0 b0 rfl;have gw0:B<=b1:=lo1 b1 rfl;have hb0:b0<wl.heap.size:=Rr (c0 0 E0);have Dx:b1<wl.heap.size:=Rr (c1 0 E0);have QY:wl.heap.size<=w.heap.size:=hb.size;have up:∀{b o:Nat}{v:Dn},b<wl.heap.size->wl.cell? ⟨b,o,Hn⟩=Gn v->w.cell? ⟨b,o,Hn⟩=Gn v:=fun {b o v} h1 h2=>(Zn (a:=⟨b,o,Hn⟩) (hb.block b h1)).trans h2;have st:∀{b:Nat},b<wl.heap.size->b<w.heap.size/\(b≠Gc/\b≠L)/\w.heap.size<=w.heap.size:=fun {b} h=>⟨E0,⟨E0,E0⟩,Om _⟩;have cf:∀i,i<c.nC->c.Jt i=false:=fun i hi=>by
  cases e:c.Jt i with
  |false=>rfl
  |true=>have h1:=hcn i hi e;have h2:=(dy i hi).2.2.1.1;omega
 have Np:∀i,i<c.nC->∃ty,Tn wl (cb i) ((c.Ho i+2)*4) ty (fun j=>.int .i64 (uq 4 (c.Ho i) (c.code i) j)):=fun i hi=>iu.code i hi (cf i hi);have fL:∀i,i<c.nC->cb i<wl.heap.size:=fun i hi=>by obtain⟨ty,h⟩:=Np i hi;exact h.lt
 have CY:∀i,i<c.nC->c.Vt i=Tm->cb i+1<wl.heap.size:=fun i hi e=>by obtain⟨ty,h⟩:=iu.img i hi e;exact h.lt
 have uX:∀i,i<c.nT->rb i<wl.heap.size:=fun i hi=>by obtain⟨ty,h⟩:=(Ir i hi).1 rfl;exact h.lt
 have hhl:c.aA=Tm->Jv<wl.heap.size:=fun e=>by obtain⟨ty,h⟩:=Kj0 e;exact h.lt
 let r:RK:=⟨w.heap.size,Kb,Gc,b0,f0,yp,cb,fun _=>0,fun i=>c.Ho i+2,fun i=>if c.Vt i then Hn else Gn ⟨cb i+1,0,Hn⟩,fun i=>if c.Vt i then 0 else c.Hq i+2,c.Hq,c.img,c.lim,L,c.Zo⟩
 let x:RX:=⟨f1,q2,cq2,q3,cq3,c.nD,c.ch⟩
 let t:IX:=⟨b1,gp,c.nT,rb,fun _=>0,fun i=>c.nRow i+2,c.nRow,UD c⟩
 have hiq:∀i,i<c.nC->∀b o,r.iq i=Gn ⟨b,o,Hn⟩->c.Vt i=Tm/\b=cb i+1/\o=0:=fun i hi b o e=>by
  have e':(if c.Vt i=Um then Hn else Gn (⟨cb i+1,0,Hn⟩:Vm))=Gn ⟨b,o,Hn⟩:=e;cases e2:c.Vt i with
  |true=>rw[e2]at e';simp at e'
  |false=>rw[e2]at e';simp at e';exact⟨rfl,e'.1.symm,e'.2.symm⟩
 have oK:Uu w k r (JD (sU c) noN noN) (sU c).m (sU c).xs:=by
  refine⟨?_,?_,⟨dK.lt,⟨Yp,fun e=>hLK e.symm⟩,Om _⟩,st hb0,fun i hi=>st (fL i E0),fun i hi b o e=>?_,fun i b hi e=>I3,fun i hi=>?_,fun i hi=>?_,fun i hi=>?_,fun i hi j hj=>?_,fun i hi=>?_,?_,fun i hi=>World.ownsRow_nil _ _ _ _,fun i j _ _ _ b e=>I3,fun i hi=>(dy i E0).2.1,fun i hi=>?_,fun i hi=>?_,fun i hi j _ _=>rfl⟩
  ·rw[xG];exact dK.cell (j:=0) E0
  ·rw[xG];exact dK.cell (j:=4) E0
  ·obtain⟨h1,h2,h3⟩:=hiq i E0 b o e;subst h2;exact st (CY i E0 h1)
  ·have:=up hb0 (c0 (i*3) E0);rw[(Qx c cb i).1,cf i E0]at this;rw[jG];exact Vh
  ·have:=up hb0 (c0 (i*3+1) E0);rw[(Qx c cb i).2.1,<-Jm]at this;refine this.trans ?_;show Gn (Gp (c.Vt i) (cb i+1) (c.Hq i))=Gn (.slice (if c.Vt i=Um then Hn else Gn ⟨cb i+1,0,Hn⟩) (c.Hq i) (if c.Vt i=Um then 0 else c.Hq i+2));cases e:c.Vt i with
   |true=>rw[him i E0 e];rfl
   |false=>rfl
  ·have:=up hb0 (c0 (i*3+2) E0);rw[(Qx c cb i).2.2,<-Jm]at this;exact Vh
  ·obtain⟨ty,h⟩:=Np i E0;rw[jG]at hj;have:=up (fL i E0) (h.cell (j:=j) E0);rw[hk3];show w.cell? ⟨cb i,0+j,Hn⟩=Gn (.int .i64 (c.code i j));rw[Nat.zero_add];refine this.trans ?_;unfold uq;rw[if_pos hj]
  ·show Sl w (if c.Vt i=Um then Hn else Gn ⟨cb i+1,0,Hn⟩) (c.Hq i) (fun j=>.int .i64 (c.img i j));cases e:c.Vt i with
   |true=>exact .inl (him i E0 e)
   |false=>
    obtain⟨ty,h⟩:=iu.img i E0 e;refine .inr ⟨cb i+1,0,rfl,fun j hj=>?_⟩;have:=up (CY i E0 e) (h.cell (j:=j) E0);rw[Nat.zero_add];refine this.trans ?_;unfold uq;rw[if_pos E0]
  ·rw[xG];refine hGr.congr fun j hj=>?_;have Kb0:j/26<c.nC:=by omega
   unfold yq wE JD sU noN;rw[if_pos Kb0];have e46:Az (c.lim (j/26)) (c.Hq (j/26)) (c.img (j/26)) 46=0:=by
    have:=(dy _ Kb0).2.1;unfold Az;exact jg
   have e47:Az (c.lim (j/26)) (c.Hq (j/26)) (c.img (j/26)) 47=0:=by
    have:=(dy _ Kb0).2.1;unfold Az;exact jg
   have e3:Az (c.lim (j/26)) (c.Hq (j/26)) (c.img (j/26)) 3=c.lim (j/26):=rfl;have:=(dy _ Kb0).1.1;simp only[e46,e47,e3];rw[decide_eq_false E0]
  ·rw[jG];exact(dy i E0).2.2.1.2
  ·rw[jG,hk3];exact IU (dy i E0)
 have ZH:lu w k.nC r (JD (sU c) noN noN) (fun _=>[]) (fun _=>uK) (0:Nat) (.slice Hn 0 0) []:=
  ⟨dK.cell (j:=5) E0,dK.cell (j:=6) E0,dK.cell (j:=7) E0,World.ownsRow_nil _ _ _ _,hLr,⟨hLr.lt,hLG,hLK,by show c.Zo<=1000;omega,Pm _⟩,fun _ _=>World.ownsRow_nil _ _ _ _,fun _ _ _ _ _ b e=>I3,fun _ b _ e=>I3,fun _ _=>World.ownsRow_nil _ _ _ _,fun _ _ _ _ _ b e=>I3,fun _ b _ e=>I3⟩
 have hq0:RTab w k N r t x:=by
  refine⟨⟨?_,fun i hi=>?_,fun i hi b o e=>?_⟩,hN1,fun i _=>hk4 i,st Dx,?_,fun i hi=>?_,fun i hi=>st (uX i hi),fun i hi=>?_,fun i hi j hj=>?_,fun i hi j hj=>?_,ht1,by show c.nT<=1000;omega,fun i hi=>(nQ i hi).1,fun i hi j hj=>?_,E0,by show c.nD<=1000;omega,?_,fun b o e=>?_,fun i hi=>?_,fun i hi=>?_⟩
  ·show b0≠Kb;omega
  ·show cb i≠Kb;have:=fL i E0;omega
  ·obtain⟨h1,h2,h3⟩:=hiq i E0 b o e;show b≠Kb;have:=CY i E0 h1;omega
  ·show b1≠Kb;omega
  ·exact up Dx (c1 i hi)
  ·show rb i≠Kb;have:=uX i hi;omega
  ·obtain⟨ty,h⟩:=(Ir i hi).1 rfl;have kz:j<c.nRow i:=hj;show w.cell? ⟨rb i,0+j*2,Hn⟩=Gn (.int .i64 ((UD c i j).1:Int));rw[Nat.zero_add,((nQ i hi).2 j hj).1];refine(up (uX i hi) (h.cell (j:=j*2) E0)).trans ?_;unfold uq;rw[if_pos E0]
  ·obtain⟨ty,h⟩:=(Ir i hi).1 rfl;have kz:j<c.nRow i:=hj;show w.cell? ⟨rb i,0+j*2+1,Hn⟩=Gn (.int .i64 ((UD c i j).2:Int));rw[Nat.zero_add,((nQ i hi).2 j hj).2.1];refine(up (uX i hi) (h.cell (j:=j*2+1) E0)).trans ?_;unfold uq;rw[if_pos E0]
  ·have:=((nQ i hi).2 j hj).2.2;rw[xG];exact Vh
  ·cases e:c.aA with
   |true=>exact .inl (by show c.Zo*3=0;rw[zu e])
   |false=>
    obtain⟨ty,h⟩:=Kj0 e;refine .inr ⟨Jv,0,e2.2.2 e,fun j hj=>?_⟩;have kz:j<c.Zo*3:=hj;rw[Nat.zero_add];refine(up (hhl e) (h.cell (j:=j) E0)).trans ?_;show Gn (Value.int .i64 (uq 3 c.Zo c.ch j))=Gn (.int .i64 (c.ch j));unfold uq;rw[if_pos kz]
  ·obtain⟨h1,h2,-⟩:=e2.2.1 b o e;subst h2;have:=hhl h1;exact⟨st this,by show b≠Kb;omega⟩
  ·have:=(hco i hi).2.1;refine⟨hN2 i,?_⟩;rw[hN2,xG];exact Vh
  ·rw[jG,hk3];exact o70 (dy i E0) (fun _=>rfl) hN2
 refine⟨r,t,x,⟨oK,ZH,fun i hi=>⟨fun _=>⟨rfl,rfl,rfl⟩,fun _=>⟨rfl,rfl,by simp[xE,newC,sU],fun y l' hl=>by simp[xE]at hl,fun h=>X3⟩⟩,fun i hi=>Pm _,fun i hi=>?_,?_,hq0,fun b Xq=>?_,fun b Xq=>Xq.2⟩,rfl,rfl,rfl,rfl,rfl,rfl⟩
 ·rw[jG];exact F00 _ _ _ _ (dy i E0).2.1
 ·unfold rkV;rw[xG];rw[e2.1,e3]at dK;exact dK
 ·rcases Xq with (Xq|Xq|Xq|⟨i,jO,Xq⟩|⟨i,jO,Xq⟩|Xq)|Xq|⟨i,jO,Xq|⟨o,Xq⟩⟩|Xq|⟨i,jO,Xq⟩|⟨o,Xq⟩
  ·subst Xq;exact⟨E0,dK.lt⟩
  ·subst Xq;exact⟨E0,hGr.lt⟩
  ·subst Xq;exact⟨E0,hLr.lt⟩
  ·cases Xq
  ·cases Xq
  ·cases Xq
  ·have e:b=b0:=Xq;exact⟨E0,E0⟩
  ·have e:b=cb i:=Xq;have h1:=fL i E0;have h2:=(iu.lo i E0).1;exact⟨E0,E0⟩
  ·obtain⟨h1,h2,h3⟩:=hiq i E0 b o Xq;have h4:=CY i E0 h1;have h5:=(iu.lo i E0).1;exact⟨E0,E0⟩
  ·have e:b=b1:=Xq;exact⟨E0,E0⟩
  ·have e:b=rb i:=Xq;have h1:=uX i jO;have h2:=(Ir i jO).2.1;exact⟨E0,E0⟩
  ·obtain⟨h1,h2,-⟩:=e2.2.1 b o Xq;have h3:=hhl h1;have h4:=hh.1 h1;exact⟨E0,E0⟩
end
section
theorem uY{w:En}{kb il ic:Nat}(ip:Option Vm)(CY:4<il):Ip prog 15 #[.pointer (Gn ⟨kb,0,Hn⟩),.slice ip il ic] w (fun v w'=>v=.int .i64 6/\∃d,w'=w.at d):=by
 refine Ip.oJ (List.toArray ((.pointer (Gn ⟨kb,0,Hn⟩))::(.slice ip il ic)::Bn::Bn::Bn::Bn::Bn::Bn::Bn::Bn::Bn::Bn::Bn::Bn::Bn::Bn::Bn::Bn::Bn::Bn::Bn::Bn::Bn::Bn::Bn::Bn::Bn::Bn::Bn::Bn::Bn::Bn::Bn::Bn::Bn::Bn::Bn::Bn::Bn::Bn::Bn::Bn::Bn::Bn::Bn::Bn::Bn::Bn::Bn::[])) func15 I0 J0 fun cs Post hp=>?_;have hk:(base 15).kind≠.early:=J1;refine uc ?_;have hF:=Is.self w;have vf0:(4:Int)<(il:Int):=E0;refine um ?_;refine lj ?_;refine Ce ?_;refine Na ?_;refine S9 ?_;refine Pn.vr Rn (by first|rfl|simp[Act.eval,vf0]) ?_;refine lj ?_;refine Pn.ret Rn fun todo=>?_;refine .stop rfl fun w6 hR=>?_;obtain⟨d,rfl⟩:=hF.rely hR;exact hp _ _ _ _ rfl (fun d=>(resultsC_tmp (t:=4) I0 _ _).1) ⟨rfl,d,rfl⟩
end
def wT:List Nat:=[8,9,11,12,13,14,16,17,18,19,20,22,23,24,25,27,28,29,30,32,33,34,35,36,37,38,39,40,41,42,43,44,45,46,47,48,49,50,51,52,53,54,55,56,58,59,60,61,62,63,64,65,66,67,68,69,70,71,72,73,74,75,76,77,78,79,80,81,82,85,86,87,88,89,90,91,92,93,94,95,96,97,98,99,100,101,102,103,104,105,106,107,108,109,110,112,114,115,116,117,118,119,120,121,122,123,124,125,126,127,128,130,131,132,133,134,135,136,137,138,139,140,142,143,144,146,147]
def q90:List (Nat×Nat):=[(75,14),(76,9),(77,9),(89,1),(89,11),(92,1),(92,11),(95,1),(95,11),(99,29),(116,1),(116,6),(131,1),(131,11),(143,8),(146,1),(146,11)]
def r90:List (Nat×Nat):=[(126,15),(127,7),(128,11)]
def xZ:List Nat:=[90,93,96,117,147]
def pG:xA:={fns:=fun f=>wT.contains f,fs:=fun h t=>q90.contains (h,t),ps:=fun h t=>r90.contains (h,t),cf:=fun f=>xZ.contains f}
def gd0(P:Ym)(A:xA)(f:Nat):Bool:=match P.funcs[f]? with
 |some fn=>match fn.body with
  |some c=>zq P A f c
  |none=>Um
 |none=>Um
theorem vZ:wT.all (gd0 prog pG)=true:=J0
theorem p90:xZ.all (fun f=>FA prog pG f&&XF prog pG f)=true:=J0
def We0(P:Ym)(l:List (Nat×Nat)):Bool:=l.all fun x=>match P.funcs[x.1]? with
 |some fn=>decide (x.2<fn.ntmps+64)
 |none=>Um
theorem xQ:We0 prog q90=Um/\We0 prog r90=true:=⟨J0,J0⟩
theorem M70{P:Ym}{l:List (Nat×Nat)}(h:We0 P l=Um){f t:Nat}{fn:Func}(hf:P.funcs[f]?=Gn fn)(ht:fn.ntmps+64<=t):l.contains (f,t)=false:=by
 cases hc:l.contains (f,t)with
 |false=>rfl
 |true=>
  have hm:(f,t)∈l:=X5;have:=List.all_eq_true.1 h _ hm;simp only[hf,decide_eq_true_eq]at this;omega
theorem plain:yr prog pG where
 code f fn c hA hf hc:=by
  have hm:f∈wT:=by simpa[pG]using hA
  have:=List.all_eq_true.1 vZ f hm;unfold gd0 at this;simpa only [hf,hc]using this
 cf f hc:=by
  have hm:f∈xZ:=by simpa[pG]using hc
  have:=List.all_eq_true.1 p90 f hm;exact Vd
 far f t fn hf ht:=⟨M70 xQ.1 hf ht,M70 xQ.2 hf ht⟩
theorem sZ:prog.funcs.all (fun f=>match f.body with|some c=>(readies c).isEmpty|none=>Um)=true:=J0
theorem uQ(g:Nat):prog.stepOf g=none:=by
 unfold Program.stepOf;rw[Array.findIdx?_eq_none_iff];intro f hf;have:=Array.all_eq_true_iff_forall_mem.1 sZ f hf;cases hb:f.body with
 |none=>rfl
 |some c=>
  simp only[hb]at this;have e:readies c=[]:=by simpa using this
  simp[e]
theorem Ip.MA{w:En}{f:FuncId}{args:Array Dn}{R':Dn->En->Prop}(hen:vv prog pG f args)(R:Dn->En->Prop)(hc:∀τ,Zm prog f args (xq w τ 0) (fun e w'=>∃v,e=.returned v/\R v w'))(hR:∀v w₁ τ d d',R v (xq w₁ τ d)->R' v (xq w₁ w.tape d')):Ip prog f args w R':=
 (Ip.d90 plain uQ hen R hc).mono fun v w' ⟨w₁,τ,d,d',h1,h2⟩=>by rw[h2];exact hR v w₁ τ d d' h1
theorem r10(x:Dn):vv prog pG 43 #[x]:=⟨J0,zo plain func43 J0 _⟩
theorem rQ{w:En}{p:Option Vm}{n cap:Nat}{z:Nat->Int}(hs:Sl w p (n*2) (fun j=>.int .i64 (z j)))(hn:p=Hn->n=0)(hb:16*n<=140737488355328):
  Ip prog 43 #[.slice p n cap] w (fun v w'=>v=.slice (Gn ⟨w.heap.size,0,Hn⟩) (n+2:Nat) (n+2:Nat)/\w'.heap.size=w.heap.size+1/\Sm w.heap.size w w'/\Tn w' w.heap.size ((n+2)*2) 59 (fun j=>.int .i64 (uq 2 n z j))):=by
 refine Ip.MA (r10 _) (fun v w'=>v=.slice (Gn ⟨w.heap.size,0,Hn⟩) (n+2:Nat) (n+2:Nat)/\w'.heap.size=w.heap.size+1/\(w'.os=w.os/\w'.output=w.output/\∀b,b<w.heap.size->w'.heap[b]?=w.heap[b]?)/\Tn w' w.heap.size ((n+2)*2) 59 (fun j=>.int .i64 (uq 2 n z j))) (fun τ=>?_) ?_
 ·refine(ins_any p n cap z (xq w τ 0) hs hn hb).mono ?_;rintro e w' ⟨rfl,h1,h2,h3⟩;exact⟨_,rfl,rfl,h1,⟨h2.os,h2.output,h2.block⟩,h3⟩
 ·rintro v w₁ τ d d' ⟨h1,h2,h3,h4⟩;exact⟨h1,h2,⟨h3.1,rfl,h3.2.1,(by show _<=w₁.heap.size;have e:w₁.heap.size=w.heap.size+1:=h2;omega),h3.2.2⟩,h4⟩
theorem VE(x y:Dn):vv prog pG 44 #[x,y]:=⟨J0,zo plain func44 J0 _⟩
theorem s10(x:Dn):vv prog pG 41 #[x]:=⟨J0,zo plain func41 J0 _⟩
theorem M20(a:Int)(w:En):Ip prog 41 #[.int .i64 a] w (fun v w'=>v=.int .i64 a/\Is w w'):=by
 refine Ip.MA (s10 _) (fun v w'=>v=.int .i64 a/\∃τ d,w'=xq w τ d) (fun τ=>(OB a _).mono ?_) ?_
 ·exact Ef
 ·exact Ya
theorem Fv.calls{w:En}{k:RA}{K:Ys}{r:RK}{t:IX}{x:RX}{fr:Nat}{s:yC}{vs:Nat->Dn}{Ls:Nat->Ln}{inV:Dn}{il:List (Int×Int)}{S:Nat->Prop}(h:Fv w k K r t x s vs Ls inV il fr S)(aE:fr<=100000000000)(hm:∀i,s.m i+1600<=1000000000){ip:Option Vm}{jl ic:Nat}{zi:Nat->Int}(iu:Sl w ip (jl*2) (fun j=>.int .i64 (zi j)))(hiK:jl=0\/∀b o,ip=Gn ⟨b,o,Hn⟩->b≠r.Kb)(CY:jl<=4):
  Ip prog 44 #[.pointer (Gn ⟨r.Kb,0,Hn⟩),.slice ip jl ic] w (fun v w'=>v=.int .i64 0/\(∃CB EC uz il',Fv w' k K r t x (bA k K (t.wn (fr%t.nT)) (t.nw (fr%t.nT)) ((Hm jl).map fun j=>(zi (j*2),zi (j*2+1))) s) CB EC uz il' (fr+1) (fun b=>S b\/(w.heap.size<=b/\b<w'.heap.size)))/\Jq S w w'):=by
 refine Ip.MA (VE _ _) (fun v w'=>v=.int .i64 0/\(∃CB EC uz il',Fv w' k K r t x (bA k K (t.wn (fr%t.nT)) (t.nw (fr%t.nT)) ((Hm jl).map fun j=>(zi (j*2),zi (j*2+1))) s) CB EC uz il' (fr+1) (fun b=>S b\/(w.heap.size<=b/\b<w'.heap.size)))/\w'.os=w.os/\w'.output=w.output/\w.heap.size<=w'.heap.size/\∀b,b<w.heap.size->¬S b->w'.heap[b]?=w.heap[b]?) (fun τ=>((h.keep (w':=xq w τ 0) (fun _ _=>rfl) N8).frame aE hm iu hiK CY).mono ?_) ?_
 ·rintro e w' ⟨rfl,CB,EC,uz,il',h1,h2⟩;exact⟨_,rfl,rfl,⟨CB,EC,uz,il',h1⟩,h2.os,h2.output,h2.size,h2.block⟩
 ·rintro v w₁ τ d d' ⟨h1,⟨CB,EC,uz,il',h2⟩,h3,h4,h5,h6⟩;exact⟨h1,⟨CB,EC,uz,il',h2.keep (w':=xq w₁ w.tape d') (fun _ _=>rfl) N8⟩,⟨h3,rfl,h4,h5,h6⟩⟩
theorem iW(Kb:Nat)(ip:Option Vm)(il ic:Nat)(w:En)(h:4<il):Ip prog 44 #[.pointer (Gn ⟨Kb,0,Hn⟩),.slice ip il ic] w (fun v w'=>v=.int .i64 6/\Is w w'):=by
 refine Ip.MA (VE _ _) (fun v w'=>v=.int .i64 6/\∃τ d,w'=xq w τ d) (fun τ=>(xP Kb ip il ic _ h).mono ?_) ?_
 ·exact Ef
 ·exact Ya
theorem Q90{S:Nat->Prop}{w w':En}{p:Option Vm}{n:Nat}{g:Nat->Dn}(h:Sl w p n g)(hb:Jq S w w')(hn:n=0\/∀lb lo,p=Gn ⟨lb,lo,Hn⟩->¬S lb):Sl w' p n g:=by
 rcases h with e|⟨b,o,rfl,hc⟩
 ·exact .inl e
 ·rcases hn with e|hn
  ·exact .inl e
  ·exact .inr ⟨b,o,rfl,fun j hj=>hb.cell (hc j hj) (hn b o rfl)⟩
section
variable {w:En}{il ic KB RB':Nat}{S S':Nat->Prop}{ip:Option Vm}{zi:Nat->Int}{x:Int}{PK:En->Prop}{PR:Nat->En->Prop}
theorem yV(hl:Sl w ip (il*2) (fun j=>.int .i64 (zi j)))(hnl:ip=Hn->il=0)(hb:16*il<=140737488351232)(hAw:∀b,S b->b<w.heap.size)(yj0:∀b,S' b->b<w.heap.size)(hlS:il=0\/∀lb lo,ip=Gn ⟨lb,lo,Hn⟩->¬S lb/\¬S' lb)
  (hK:∀wA,wA.heap.size=w.heap.size+1->Sm w.heap.size w wA->Tn wA w.heap.size ((il+2)*2) 59 (fun j=>.int .i64 (uq 2 il zi j))->∀p jl c,(p=Gn ⟨w.heap.size,0,Hn⟩/\jl=il)\/(p=Hn/\jl=0/\il=0)->Ip prog 15 #[.pointer (Gn ⟨KB,0,Hn⟩),.slice p jl c] wA (fun v w'=>v=.int .i64 x/\PK w'/\Jq S wA w'))
  (hRc:∀wB,w.heap.size+1<=wB.heap.size->(∀b,b<w.heap.size->¬S b->wB.heap[b]?=w.heap[b]?)->Ip prog 44 #[.pointer (Gn ⟨RB',0,Hn⟩),.slice ip il ic] wB (fun v w'=>v=.int .i64 x/\PR wB.heap.size w'/\Jq S' wB w')):
  Ip prog 21 #[.pointer (Gn ⟨KB,0,Hn⟩),.pointer (Gn ⟨RB',0,Hn⟩),.slice ip il ic] w (fun v w'=>v=.bool Um/\∃wB wC,PK wB/\PR wB.heap.size wC/\w.heap.size+1<=wB.heap.size/\Jq S' wB wC/\(∀b,b<wC.heap.size->b≠w.heap.size->w'.heap[b]?=wC.heap[b]?)/\wC.heap.size<=w'.heap.size/\Jq (fun b=>S b\/S' b) w w'):=by
 refine Ip.oJ (List.toArray ((.pointer (Gn ⟨KB,0,Hn⟩))::(.pointer (Gn ⟨RB',0,Hn⟩))::(.slice ip il ic)::Bn::Bn::Bn::Bn::Bn::Bn::Bn::Bn::Bn::Bn::Bn::Bn::Bn::Bn::Bn::Bn::Bn::Bn::Bn::Bn::Bn::Bn::Bn::Bn::Bn::Bn::Bn::Bn::Bn::Bn::Bn::Bn::Bn::Bn::Bn::Bn::Bn::Bn::Bn::Bn::Bn::Bn::Bn::Bn::Bn::Bn::Bn::Bn::Bn::Bn::Bn::Bn::Bn::Bn::[])) func21 I0 J0 fun cs Post hp=>?_;have hk:(base 21).kind≠.early:=J1;refine uc ?_;have hF:=Is.self w;have yS:(il:Int)<=(il:Int)+2:=E0;have Vv:=fun W a n c=>Go.Lib.run_eql_slice_nil (P:=prog) W 29 59 a n c 0 0 underlying29;refine lj ?_;refine Ce ?_;refine V9 ?_;refine .stop rfl fun w4 hR=>?_;obtain⟨d4,rfl⟩:=hF.rely hR;clear hF hR;refine Ko.call rfl I0 hk (fun d=>?MD) (fun d=>?GR) (rQ (w:=w.at d4) (p:=ip) (n:=il) (cap:=ic) (z:=zi) hl hnl E0) (fun v wA hv=>?_)
 case MD=>kernel_rfl
 case GR=>
  exact Ud
 obtain⟨rfl,hA1,dP,hA3⟩:=hv;refine uc ?_;have hF:=Is.self wA;refine um ?_;replace hA1:wA.heap.size=w.heap.size+1:=hA1;replace dP:Sm w.heap.size w wA:=⟨dP.os,dP.tape,dP.output,dP.size,dP.block⟩;replace hA3:Tn wA w.heap.size ((il+2)*2) 59 (fun j=>.int .i64 (uq 2 il zi j)):=hA3;have eA:(w.at d4).heap.size=w.heap.size:=rfl;rw[eA];clear eA;refine Fj ?_;refine Ag ?_;refine Na ?_;refine K9 fun w1 K hK hF=>?_;refine vm ?_ ?_
 ·exact Ql
 clear hK K;refine um ?_;refine Fj ?_;refine .Un Rn [0,1] I0 ?_;refine V9 ?_;refine K9 fun w1 K hK hF=>?_;have hq:=Vv w1 ip il ic;refine vm ?_ ?_
 ·exact Ql
 clear hK K;refine um ?_;clear Vv;have hKC:∀d4 p jl c,(p=Gn ⟨w.heap.size,0,Hn⟩/\jl=il)\/(p=Hn/\jl=0/\il=0)->Ip prog 15 #[.pointer (Gn ⟨KB,0,Hn⟩),.slice p jl c] (wA.at d4) (fun v w'=>v=.int .i64 x/\PK w'/\Jq S (wA.at d4) w'):=fun d4=>hK (wA.at d4) hA1 ⟨dP.os,dP.tape,dP.output,dP.size,dP.block⟩ hA3;clear hK;obtain iu|iu:ip.isNone=Um\/ip.isNone=false:=by cases ip<;>simp
 case' inl=>
  refine S9 ?_;refine Pn.vr Rn (by first|rfl|simp[Act.eval,iu]) ?_;refine S9 ?_;refine Yc ?_;refine V9 ?_;have hK:=fun d4=>hKC d4 Hn 0 0 (.inr ⟨rfl,rfl,hnl (Option.isNone_iff_eq_none.1 iu)⟩)
 case' inr=>
  refine S9 ?_;refine Pn.Zq Rn (by first|rfl|simp[Act.eval,iu]) ?_;have hK:=fun d4=>hKC d4 (Gn ⟨w.heap.size,0,Hn⟩) il (il+2) (.inl ⟨rfl,rfl⟩)
 all_goals
  clear hKC iu;refine S9 ?_;refine Yf ?_;refine Va ?_;refine .stop rfl fun w4 hR=>?_;obtain⟨d4,rfl⟩:=hF.rely hR;clear hF hR;refine Ko.call rfl I0 hk (fun d=>?cH) (fun d=>?H70) (hK d4) (fun v wB hv=>?_)
  case cH=>kernel_rfl
  case H70=>
   exact Ud
  obtain⟨rfl,hPK,fV⟩:=hv;refine uc ?_;have hF:=Is.self wB;refine um ?_;refine V9 ?_;replace fV:Jq S wA wB:=⟨fV.os,fV.tape,fV.output,fV.size,fV.block⟩;have hHB:∀b,b<w.heap.size->¬S b->wB.heap[b]?=w.heap[b]?:=fun b h1 h2=>(fV.block b E0 h2).trans (dP.block b h1);have hsB:=fV.size;refine S9 ?_;refine Yf ?_;refine Va ?_;refine .stop rfl fun w4 hR=>?_;obtain⟨d4,rfl⟩:=hF.rely hR;clear hF hR;refine Ko.call rfl I0 hk (fun d=>?IJ) (fun d=>?Ue0) (hRc (wB.at d4) (by show _<=wB.heap.size;omega) hHB) (fun v wC hv=>?_)
  case IJ=>kernel_rfl
  case Ue0=>
   exact Ud
  obtain⟨rfl,hPR,gV⟩:=hv;refine uc ?_;have hF:=Is.self wC;refine um ?_;replace gV:Jq S' wB wC:=⟨gV.os,gV.tape,gV.output,gV.size,gV.block⟩;have hlC:=Q90 (Q90 (hl.below dP) fV (hlS.imp (fun h=>E0) (fun h lb lo e=>(h lb lo e).1))) gV (hlS.imp (fun h=>E0) (fun h lb lo e=>(h lb lo e).2));refine Fj ?_;refine Ag ?_;refine V9 ?_;refine .stop rfl fun w4 hR=>?_;obtain⟨d4,rfl⟩:=hF.rely hR;clear hF hR;refine Ko.call rfl I0 hk (fun d=>?JJ) (fun d=>?Ve0) (M20 x (wC.at d4)) (fun v wC2 hv=>?_)
  case JJ=>kernel_rfl
  case Ve0=>
   exact Ud
  obtain⟨rfl,hIs⟩:=hv;refine uc ?_;have hF:=Is.self wC2;refine um ?_;obtain⟨d5,rfl⟩:=hIs;replace hF:Is wC ((wC.at d4).at d5):=⟨d5,rfl⟩;refine Na ?_;refine S9 ?_;refine Ce ?_;refine V9 ?_;refine .stop rfl fun w4 hR=>?_;obtain⟨d4,rfl⟩:=hF.rely hR;clear hF hR;refine Ko.call rfl I0 hk (fun d=>?LN) (fun d=>?zo0) (rQ (w:=wC.at d4) (p:=ip) (n:=il) (cap:=ic) (z:=zi) hlC hnl E0) (fun v wD hv=>?_)
  case LN=>kernel_rfl
  case zo0=>
   exact Ud
  obtain⟨rfl,hD1,hD2,hD3⟩:=hv;refine uc ?_;have hF:=Is.self wD;refine um ?_;replace hD1:wD.heap.size=wC.heap.size+1:=hD1;replace hD2:Sm wC.heap.size wC wD:=⟨hD2.os,hD2.tape,hD2.output,hD2.size,hD2.block⟩;replace hD3:Tn wD wC.heap.size ((il+2)*2) 59 (fun j=>.int .i64 (uq 2 il zi j)):=hD3;have eD:(wC.at d4).heap.size=wC.heap.size:=rfl;rw[eD];clear eD;refine V9 ?_;refine Pn.regionEnd Rn ?_;refine Pn.seq Rn ?_;refine .stop rfl fun w9 hR=>?_;obtain⟨d9,rfl⟩:=hF.rely hR;clear hF hR;have hAD:Tn wD w.heap.size ((il+2)*2) 59 (fun j=>.int .i64 (uq 2 il zi j)):=((hA3.of_heap (fV.block _ hA3.lt (fun h=>by have:=hAw _ h;omega))).of_heap (gV.block _ (Lm hA3.lt fV.size) (fun h=>by have:=yj0 _ h;omega))).below hD2 (Lm (Lm hA3.lt fV.size) gV.size);have Yp:w.heap.size≠wC.heap.size:=by have:=fV.size;have:=gV.size;omega
  refine Ko.piece plain uQ (Qn:=fun a' w'=>a'.tmps.size=57/\a'.tmps.getD 11 Bn=.bool Um/\a'.defers=[]/\(w'.os=wD.os/\w'.output=wD.output/\wD.heap.size<=w'.heap.size/\∀b,b<wD.heap.size->b≠w.heap.size->w'.heap[b]?=wD.heap[b]?)) J0 J0 ⟨_,func21⟩ rfl (zo plain func21 J0 _) rfl (fun τ=>?wp) (fun a' w' τ' d' d hq=>?post)
  case wp=>
   have HA0:Hid (Tn (xq (wD.at d9) τ 0) w.heap.size ((il+2)*2) 59 (fun j=>.int .i64 (uq 2 il zi j))):=hAD;have HD0:Hid (Tn (xq (wD.at d9) τ 0) wC.heap.size ((il+2)*2) 59 (fun j=>.int .i64 (uq 2 il zi j))):=hD3;have HE0:Hid ((xq (wD.at d9) τ 0).os=wD.os/\(xq (wD.at d9) τ 0).output=wD.output/\wD.heap.size<=(xq (wD.at d9) τ 0).heap.size/\∀b,b<wD.heap.size->b≠w.heap.size->(xq (wD.at d9) τ 0).heap[b]?=wD.heap[b]?):=⟨rfl,rfl,Om _,fun _ _ _=>rfl⟩;generalize xq (wD.at d9) τ 0=W0 at *;clear hD1 hA1;generalize hAg:w.heap.size=A at *;generalize hDg:wC.heap.size=D at *;clear hp hK hRc hPK hPR fV gV hlC dP hA3 hD2 hD3 hAD hl hAw yj0 hlS hHB;go_wp2_with fail;go_loopw [11,13] (fun o i wr=>∃j:Nat,j<=il+2/\i=.int .i64 j/\o=.bool Um/\Hid ((∀q,j*2<=q->q<(il+2)*2->wr.cell? ⟨A,q,Hn⟩=Gn (.int .i64 (uq 2 il zi q)))/\(∀q,wr.frozen? ⟨A,q,Hn⟩=Tm))/\Hid (Tn wr D ((il+2)*2) 59 (fun j=>.int .i64 (uq 2 il zi j)))/\Hid (wr.os=wD.os/\wr.output=wD.output/\wD.heap.size<=wr.heap.size/\∀b,b<wD.heap.size->b≠A->wr.heap[b]?=wD.heap[b]?)) (fun _ i _=>il+2-(intOf i).toNat)
   case atStart=>exact⟨0,Pm _,rfl,rfl,⟨fun q _ h2=>HA0.out.cell h2,fun q=>HA0.out.frozen q⟩,HD0,HE0⟩
   case round=>
    obtain⟨j,hj,rfl,rfl,HA,HD,HE⟩:=hrel;by_cases yo:j<il+2
    ·have c0:=HA.out.1 (j*2) E0 E0;have c1:=HA.out.1 (j*2+1) E0 E0;have e0:=HD.out.cell (j:=j*2) E0;have e1:=HD.out.cell (j:=j*2+1) E0;have f0:=HA.out.2 (j*2);have f1:=HA.out.2 (j*2+1);have lG:(j:Int)<(il:Int)+2:=by omega
     generalize uq 2 il zi (j*2)=x0 at *;generalize uq 2 il zi (j*2+1)=x1 at *;go_wp2_with fail;go_quiet (fail);go_wp2_with fail;refine⟨⟨j+1,E0,E1,rfl,⟨fun q h1 h2=>?_,fun q=>?_⟩,?_,?_⟩,U1⟩
     ·refine(World.cell?_setCell_other _ _ _ _ (fun e=>by have:=congrArg Addr.off e;simp only at this;omega)).trans ((World.cell?_setCell_other _ _ _ _ (fun e=>by have:=congrArg Addr.off e;simp only at this;omega)).trans ?_);exact HA.out.1 q E0 h2
     ·simpa using HA.out.2 q
     ·have Ir:Tn (wr.drewN nq) D ((il+2)*2) 59 (fun j=>.int .i64 (uq 2 il zi j)):=HD.out;exact(Ir.other _ _ (by simpa using Yp)).other _ _ (by simpa using Yp)
     ·refine⟨HE.out.1,HE.out.2.1,by rw[size_setCell,size_setCell];exact HE.out.2.2.1,fun b hb hn=>?_⟩;rw[yn _ _ _ _ D5,yn _ _ _ _ D5];exact HE.out.2.2.2 b hb hn
    ·obtain rfl:j=il+2:=by omega
     go_wp2_with fail
     first
      |exact⟨rfl,rfl,rfl,rfl,HE.out⟩
      |exact⟨rfl,rfl,rfl,HE.out⟩
      |exact HE.out
      |simpa using HE.out
  case post=>
   obtain⟨hs,iO,hdf,hE⟩:=hq;refine Ko.seq ?_;refine Ko.region ?_;show Ko prog Post (G ((base 21).at a' (.inRegion _ [0,1]::_)) cs) _;refine Bi ?_;refine Bi ?_;refine Ko.regionEnd ?_;refine Ko.ret fun todo=>?_;refine hp _ _ _ _ hdf (fun d=>(resultsC_tmp (t:=6) I0 _ _).1) ⟨?_,?_⟩
   ·show ((a'.tmps.setIfInBounds 56 (a'.tmps.getD 11 Bn)).setIfInBounds 6 ((a'.tmps.setIfInBounds 56 (a'.tmps.getD 11 Bn)).getD 56 Bn)).getD 6 Bn=.bool Um;rw[iO];simp[hs]
   ·have hsC:=gV.size;have hE4:∀b,b<wD.heap.size->b≠w.heap.size->w'.heap[b]?=wD.heap[b]?:=hE.2.2.2;have hE3:wD.heap.size<=w'.heap.size:=hE.2.2.1;have toC:∀b,b<wC.heap.size->b≠w.heap.size->w'.heap[b]?=wC.heap[b]?:=fun b hb hn=>(hE4 b E0 hn).trans (hD2.block b hb);refine⟨wB,wC,hPK,hPR,E0,gV,toC,by show wC.heap.size<=w'.heap.size;omega,⟨?_,?_,?_,by show w.heap.size<=w'.heap.size;omega,fun b hb hn=>?_⟩⟩
    ·exact hE.1.trans (hD2.os.trans (gV.os.trans (fV.os.trans dP.os)))
    ·exact hD2.tape.trans (gV.tape.trans (fV.tape.trans dP.tape))
    ·exact hE.2.1.trans (hD2.output.trans (gV.output.trans (fV.output.trans dP.output)))
    ·show w'.heap[b]?=w.heap[b]?;rw[toC b E0 E0,gV.block b E0 (fun h=>hn (.inr h))];exact hHB b hb (fun h=>hn (.inl h))
end
end Go.Proofs.YtdoghgnifkgfdaaGreat.Mute
