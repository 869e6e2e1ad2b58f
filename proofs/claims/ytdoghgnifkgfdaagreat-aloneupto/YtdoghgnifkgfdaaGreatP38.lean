import Derived.Test.YtdoghgnifkgfdaaGreatP11
import Derived.Test.YtdoghgnifkgfdaaGreatP12
import Derived.Test.YtdoghgnifkgfdaaGreatP13
import Derived.Test.YtdoghgnifkgfdaaGreatP37
set_option maxRecDepth 100000
set_option maxHeartbeats 4000000
namespace Go.Proofs.YtdoghgnifkgfdaaGreat.Mute
open Go Go.Conc Go.RowKit Go.Maps
structure XY (w:World) (bw m:Nat) (ks rs H2 H3 H4:Value) (xs ys:List Value):Prop where
 row:RowF w bw 5 79 (cells5 ks rs H2 H3 H4)
 k:w.ownsRow (bw+1) 43 1 ks m xs
 r:w.ownsRow (bw+1) 83 1 rs m ys
 ne:∀g,ks.ownBlock=some g→rs.ownBlock≠some g
theorem XY.below {w w':World} {bw m:Nat} {ks rs H2 H3 H4:Value} {xs ys:List Value} (h:XY w bw m ks rs H2 H3 H4 xs ys) (hb:Below w.heap.size w w'):XY w' bw m ks rs H2 H3 H4 xs ys:=
 ⟨h.row.below hb h.row.lt,own_below h.k hb,own_below h.r hb,h.ne⟩
def J3 (c:Cfg) (B K nb:Nat) (v tr:Value) (w:World):Prop:=
 ∃u xs,RowF w K 5 94 (Xo v (.int .i64 0) u (.pointer (some ⟨nb,0,none⟩)) tr)∧w.ownsRow (K+1) 143 1 u c.nC xs∧Ext B c nb tr w∧(∃ys,w.ownsRow (K+1) 100 1 v c.nT ys∧XV B c c.nT ys w)∧ZA B c nb c.nC xs w
theorem Zi.below {w w':World} {c:Cfg} {B:Nat} {cb rb:Nat→Nat} {hb db:Nat} {p0:Option Addr} {cap0:Nat} {p1:Option Addr} {cap1 hi hi2:Nat} {v0 v1 v2 v3:Value} (h:Zi w c B cb rb hb db p0 cap0 p1 cap1 hi hi2 v0 v1 v2 v3) (hb':Below w.heap.size w w'):Zi w' c B cb rb hb db p0 cap0 p1 cap1 hi hi2 v0 v1 v2 v3:=by
 obtain ⟨h1,h2,h3,h4,h5,h6,h7,h8,h9,h10,h11,h12,h13,h14,h15,h16,h17,h18⟩:=h;exact ⟨h1,h2,h3,h4.below hb',h5,h6,h7,h8.below hb',h9,h10,h11.below hb',h12,h13,fun i hi=>⟨(h14 i hi).1.below hb',(h14 i hi).2⟩,h15,h16.below hb',h17.below hb',h18⟩
theorem Zi.lt {w:World} {c:Cfg} {B:Nat} {cb rb:Nat→Nat} {hb db:Nat} {p0:Option Addr} {cap0:Nat} {p1:Option Addr} {cap1 hi hi2:Nat} {v0 v1 v2 v3:Value} (h:Zi w c B cb rb hb db p0 cap0 p1 cap1 hi hi2 v0 v1 v2 v3) {j:Nat} (hj:SRX c cb rb hb db j):j<w.heap.size:=by
 obtain ⟨h1,h2,h3,h4,h5,h6,h7,h8,h9,h10,h11,h12,h13,h14,h15,h16,h17,h18⟩:=h;rcases hj with (⟨i,hi,hj⟩|⟨i,hi,rfl⟩)|⟨hn,rfl⟩|⟨hn,rfl⟩
 ·rcases hj with ⟨hn,rfl⟩|⟨hn,rfl⟩
  ·obtain ⟨ty,hr⟩:=h11.code i hi hn;exact hr.lt
  ·obtain ⟨ty,hr⟩:=h11.img i hi hn;exact hr.lt
 ·obtain ⟨ty,hr⟩:=(h14 i hi).1 rfl;exact hr.lt
 ·obtain ⟨ty,hr⟩:=h16 hn;exact hr.lt
 ·obtain ⟨ty,hr⟩:=h17 hn;exact hr.lt
def RNew (c:Cfg) (w:World) (o0 o1 o2 o3:Value) (kb Gc L:Nat) (w':World):Prop:=
 w.heap.size≤kb∧w.heap.size≤Gc∧kb≠Gc∧RowF w' kb 8 126 (kf8 o0 o1 o2 o3 (.slice (some ⟨Gc,0,none⟩) c.nC c.nC) (.slice (some ⟨L,0,none⟩) c.nCh c.nCh) (.int .i64 0) (.slice none 0 0))∧RowF w' Gc (c.nC*26) 131 (refC (newR c c.nC))
theorem Y0Q {w w':World} {b e s n B N:Nat} {v:Value} {xs:List Value} (h:w.ownsRow b e s v n xs) (hb:B≤b) (hN:∀g,v.ownBlock=some g→g<N) (hu:∀x,B≤x→x<N→w'.heap[x]?=w.heap[x]?):w'.ownsRow b e s v n xs:=by
 rcases h with ⟨hl,hv|⟨g,cap,cur,hv,hg,hh,hr⟩⟩
 ·exact ⟨hl,.inl hv⟩
 ·exact ⟨hl,.inr ⟨g,cap,cur,hv,hg,(hu g (Nat.le_trans hb hg) (hN g (by rw [hv];rfl))).trans hh,hr⟩⟩
theorem J3.up {c:Cfg} {B K nb N:Nat} {v tr:Value} {w w':World} (h:J3 c B K nb v tr w) (hK:B≤K) (hN:w.heap.size=N) (hu:∀x,B≤x→x<N→w'.heap[x]?=w.heap[x]?):J3 c B K nb v tr w':=by
 subst hN;obtain ⟨u,xs,h1,h2,⟨⟨h3,ve,vq,vs,h4,h5⟩,T,h6,h7,h8⟩,⟨ys,h9,h10⟩,kb,h11,h12⟩:=h;refine ⟨u,xs,h1.of_heap (hu _ hK h1.lt),Y0Q h2 (by omega) (fun g hg=>(h2.lt g hg).2) hu,⟨⟨h3,ve,vq,vs,h4.of_heap (hu _ h3 h4.lt),h5⟩,T,h6,h7,h8.of_heap (hu _ h6 h8.lt)⟩,⟨ys,Y0Q h9 (by omega) (fun g hg=>(h9.lt g hg).2) hu,fun i hi=>?_⟩,kb,h11,fun i hi=>?_⟩
 ·obtain ⟨g,cap,k1,k2⟩:=h10 i hi;exact ⟨g,cap,k1,Y0Q k2 (Nat.le_refl _) (fun g hg=>(k2.lt g hg).2) hu⟩
 ·obtain ⟨cv,k1,k2,k3,k4,k5⟩:=h12 i hi;have k6:=k4.of_heap (hu _ k2 k4.lt);exact ⟨cv,k1,k2,k6.lt,k6,Y0Q k5 (Nat.le_refl _) (fun g hg=>(k5.lt g hg).2) hu⟩
def Y42 (c:Cfg) (bw m:Nat) (ks rs H2 H3 H4:Value) (xsK ysR:List Value) (w w':World):Prop:=
 (¬Y8 c 0 0∧Below w.heap.size w w')∨
 (Y8 c 0 0∧∃ks' rs' K nb vt tr kb Gc L B N1 B2 N2,w.heap.size≤B∧N1≤B2∧B2≤N2∧(But (RZ bw ks rs) w w'∧XY w' bw (m+1) ks' rs' H2 H3 H4 (xsK++[.pointer (some ⟨K,0,none⟩)]) (ysR++[.pointer (some ⟨kb,0,none⟩)]))∧N2≤w'.heap.size∧
  (∀b,ks'.ownBlock=some b→ks.ownBlock=some b∨(N1≤b∧b<B2))∧(∀b,rs'.ownBlock=some b→rs.ownBlock=some b∨N2≤b)∧
  (∀w2,(∀b,B≤b→b<N1→w2.heap[b]?=w'.heap[b]?)→J3 (X6 c) B K nb vt tr w2)∧
  ∃wl wk o0 o1 o2 o3,wk.heap.size=N2∧B2≤wl.heap.size∧X5 wl c B2 o0 o1 o2 o3∧Below wl.heap.size wl wk∧RNew c wl o0 o1 o2 o3 kb Gc L wk∧∀b,B2≤b→b<N2→w'.heap[b]?=wk.heap[b]?)
theorem Yba {w w2 w3:World} {bw m g g3:Nat} {cap cap3:Nat} {ks rs H2 H3 H4:Value} {xs ys:List Value} (hb:But (RZ bw ks rs) w w2) (hg:But (fun j=>rs.ownBlock=some j) w2 w3)
  (hr:RowF w2 bw 5 79 (cells5 (.slice (some ⟨g,0,none⟩) (m+1:Nat) cap) rs H2 H3 H4))
  (hk:w2.ownsRow (bw+1) 43 1 (.slice (some ⟨g,0,none⟩) (m+1:Nat) cap) (m+1) xs)
  (ho:w3.ownsRow (bw+1) 83 1 (.slice (some ⟨g3,0,none⟩) (m+1:Nat) cap3) (m+1) ys)
  (ha:rs.ownBlock=some g3∨w2.heap.size≤g3) (hne:rs.ownBlock≠some g) (hgl:bw+1≤g∧g<w2.heap.size) (hlo:∀j,rs.ownBlock=some j→bw+1≤j):
  But (RZ bw ks rs) w (w3.setCell ⟨bw,1,none⟩ (.slice (some ⟨g3,0,none⟩) (m+1:Nat) cap3))∧XY (w3.setCell ⟨bw,1,none⟩ (.slice (some ⟨g3,0,none⟩) (m+1:Nat) cap3)) bw (m+1) (.slice (some ⟨g,0,none⟩) (m+1:Nat) cap) (.slice (some ⟨g3,0,none⟩) (m+1:Nat) cap3) H2 H3 H4 xs ys:=by
 have hbw:bw<w2.heap.size:=hr.lt;have hr3:RowF w3 bw 5 79 _:=hr.of_heap (hg.block bw hbw (fun e=>by have:=hlo bw e;omega));have hs:(w3.setCell ⟨bw,1,none⟩ (.slice (some ⟨g3,0,none⟩) (m+1:Nat) cap3)).heap.size=w3.heap.size:=size_setCell _ _ _;refine ⟨⟨hg.os.trans hb.os,hg.tape.trans hb.tape,hg.output.trans hb.output,by rw [hs];exact Nat.le_trans hb.size hg.size,fun j hj hn=>?_⟩,(hr3.set 1 _).congr (fun j hj=>?_),?_,ownsRow_setCell_below ho (by simp) _,fun g' h1 h2=>?_⟩
 ·exact (heap_setCell_other _ _ _ _ (fun e=>hn (.inl e))).trans ((hg.block j (Nat.lt_of_lt_of_le hj hb.size) (fun e=>hn (.inr (.inr e)))).trans (hb.block j hj hn))
 ·have:j=0∨j=1∨j=2∨j=3∨j=4:=by omega
  rcases this with rfl|rfl|rfl|rfl|rfl<;>rfl
 ·refine ownsRow_setCell_below ?_ (by simp) _;rcases hk.2 with hn|⟨g',cap',cur,hv,hbg,hh,r⟩
  ·exact ⟨hk.1,.inl hn⟩
  ·obtain rfl:g=g':=by
    simp only [Value.slice.injEq,Option.some.injEq,Addr.mk.injEq] at hv;exact hv.1.1
   exact ⟨hk.1,.inr ⟨g,cap',cur,hv,hbg,by rw [hg.block g hgl.2 hne];exact hh,r⟩⟩
 ·have e1:g=g':=by simpa [Value.ownBlock] using h1
  have e2:g3=g':=by simpa [Value.ownBlock] using h2
  subst e1;subst e2;rcases ha with h|h
  ·exact hne h
  ·omega
theorem Y9H (c:Cfg) (v0 v1 v2 v3:Value) (bw m:Nat) (ks rs H2 H3 H4:Value) (xsK ysR:List Value) (w:World) (hst:∀w',But (RZ bw ks rs) w w'→CfgR w' v0 v1 v2 v3 c) (hw:CfgW c) (hi:XY w bw m ks rs H2 H3 H4 xsK ysR) (hn:m≤8796093022208):
  Calls Tryz.prog 18 #[.pointer (some ⟨bw,0,none⟩),.agg #[v0,v1,v2,v3]] w fun e w'=>e=.returned (.bool true)∧Y42 c bw m ks rs H2 H3 H4 xsK ysR w w':=by
 have h:=hst w (But.refl _ _);have HA:Hid (∀o,Below w.heap.size w (w.alloc o)):=fun o=>(Below.refl _ _).alloc (Nat.le_refl _) _;have hcp:=h;obtain ⟨⟨p0,cap0,F0,rfl,-,n0,z0,b0,-,k0⟩,⟨p1,cap1,F1,rfl,-,n1,z1,b1,-,k1⟩,⟨p2,cap2,rfl,-,n2,z2,b2,-⟩,⟨p3,cap3,rfl,-,n3,z3,b3,-⟩⟩:=hcp;have HC:Hid (CfgR w (.slice p0 c.nC cap0) (.slice p1 c.nT cap1) (.slice p2 c.nCh cap2) (.slice p3 c.nD cap3) c):=h;have ZCH:Hid (c.chN=true→c.nCh=0):=fun h=>(z2 (n2.2 h)).1;have ZDV:Hid (c.dvN=true→c.nD=0):=fun h=>(z3 (n3.2 h)).1;have ZIM:Hid (∀i,i<c.nC→c.imgN i=true→c.nImg i=0):=fun i hi h=>by
  obtain ⟨-,⟨pi,capi,_,-,ni,zi,bi,-⟩,-⟩:=k0 i hi;exact (zi (ni.2 h)).1
 have N0:Hid ((p0=none↔c.cellsN=true)∧(p0=none→c.nC=0∧cap0=0)∧(p1=none↔c.tableN=true)∧(p1=none→c.nT=0∧cap1=0)):=⟨n0,z0,n1,z1⟩;have B0:Hid (56*c.nC≤140737488355328):=b0;have B1:Hid (24*c.nT≤140737488355328):=b1;have hb0:c.nC≤2513169434916:=by omega
 have hb1:c.nT≤5864062014805:=by omega
 have hb2:c.nCh≤8796093022208:=by omega
 have hb3:c.nD≤17592186044416:=by omega
 have HW:Hid (CfgW c):=hw;have HI:Hid (XY w bw m ks rs H2 H3 H4 xsK ysR):=hi;have HST:Hid (∀w',But (RZ bw ks rs) w w'→CfgR w' (.slice p0 c.nC cap0) (.slice p1 c.nT cap1) (.slice p2 c.nCh cap2) (.slice p3 c.nD cap3) c):=hst;have hbwlt:bw<w.heap.size:=hi.row.lt;clear h hst hw hi n0 z0 k0 n1 z1 k1 n2 z2 n3 z3 b0 b1 b2 b3
 go_enter Tryz.func18,Tryz.ntmps18
 go_wp2_with fail
 refine (Y3S c _ _ _ _ _ (HC.out.below (HA.out _))).mono ?_;rintro e wL ⟨x0,x1,x2,x3,rfl,hl,hbelL⟩;have HL0:Hid (X5 wL c _ x0 x1 x2 x3):=hl;obtain ⟨cb,rb,hbl,dbl,q0,cq0,q1,cq1,hi,hi2,hlw⟩:=hl.ws;have HLW:Hid (Zi wL c (w.alloc (.cells #[.slice p0 c.nC cap0,.slice p1 c.nT cap1,.slice p2 c.nCh cap2,.slice p3 c.nD cap3] 28)).heap.size cb rb hbl dbl q0 cq0 q1 cq1 hi hi2 x0 x1 x2 x3):=hlw;obtain ⟨rfl,lq0,zq0,sq0,rfl,lq1,zq1,sq1,e2,e3,hin,hB1,hB2,hrow,hord,hch,hdv,hh1,hh2,hh3⟩:=hlw;obtain ⟨q2,cq2,f2⟩:=Jn c.chN hbl c.nCh ZCH.out;obtain ⟨q3,cq3,f3⟩:=Jn c.dvN dbl c.nD ZDV.out;have F2:Hid (Y6 c.chN hbl c.nCh=.slice q2 c.nCh cq2):=f2;have F3:Hid (Y6 c.dvN dbl c.nD=.slice q3 c.nD cq3):=f3;obtain rfl:x2=.slice q2 c.nCh cq2:=e2.trans f2;obtain rfl:x3=.slice q3 c.nD cq3:=e3.trans f3;have HBL:Hid (Below (w.heap.size+1) (w.alloc (.cells #[.slice p0 c.nC cap0,.slice p1 c.nT cap1,.slice p2 c.nCh cap2,.slice p3 c.nD cap3] 28)) wL):=hbelL.mono (by simp);have SQ0:Hid (Sl wL q0 (c.nC*3) (Yy c cb)):=sq0;have SQ1:Hid (Sl wL q1 c.nT (fun i=>Y6 false (rb i) (c.nRow i))):=sq1;have ZQ:Hid ((q0=none→c.nC=0)∧(q1=none→c.nT=0)):=⟨fun h=>(zq0 h).1,fun h=>(zq1 h).1⟩;have HIN:Hid (YJ wL c c.nC (w.heap.size+1) hi cb):=by show YJ _ _ _ _ _ _;simpa using hin
 have HRO:Hid (∀i,i<c.nT→Inn wL false (rb i) (c.nRow i) 2 (c.row i)∧hi≤rb i∧rb i<hi2):=hrow;have HCH:Hid (Inn wL c.chN hbl c.nCh 3 c.ch):=hch;have HDV:Hid (Inn wL c.dvN dbl c.nD 1 c.dv):=hdv;clear hl hbelL sq0 sq1 zq0 zq1 hin hrow hord hch hdv hh1 hh2 hh3 e2 e3 f2 f3 lq0 lq1 hB1 hB2;obtain ⟨y0,y1,y2,y3⟩:=box4 HBL.out;have hH:w.heap.size<wL.heap.size:=block_lt_of_cell y0;go_wp2_with fail
 have hM:(wL.alloc (.cells #[.slice q0 c.nC cq0,.slice q1 c.nT cq1,.slice q2 c.nCh cq2,.slice q3 c.nD cq3] 28)).heap.size=wL.heap.size+1:=by simp
 have HAL:Hid (∀o,Below wL.heap.size wL (wL.alloc o)):=fun o=>(Below.refl _ _).alloc (Nat.le_refl _) _;refine (Y8c c.nC c.nT cq0 cq1 q0 q1 (Yy c cb) (fun i=>Y6 false (rb i) (c.nRow i)) _ _ _ (SQ0.out.below (HAL.out _)) (SQ1.out.below (HAL.out _)) ZQ.out.1 ZQ.out.2 (fun j _=>Y7x c cb j) (fun j _=>Y6g _ _ _) B0.out B1.out).mono ?_;rintro e wO ⟨he,hszO,hbelO,hrC,hrT⟩;rw [hM] at he hszO hrC hrT;subst he;have HZO:Hid (wO.heap.size=wL.heap.size+1+1+1+1):=hszO;have HRC:Hid (RowF wO (wL.heap.size+1+1) ((c.nC+2)*3) 53 (outC c.nC (Yy c cb))):=hrC;have HRT:Hid (RowF wO (wL.heap.size+1+1+1) (c.nT+2) 100 (outT c.nT (fun i=>Y6 false (rb i) (c.nRow i)))):=hrT;have HMI:Hid (RowF wO wL.heap.size 4 28 (Yc (.slice q0 c.nC cq0) (.slice q1 c.nT cq1) (.slice q2 c.nCh cq2) (.slice q3 c.nD cq3))):=(row4 wL _ _ _ _ _).below hbelO (by rw [hM];omega);have HBO:Hid (Below wL.heap.size wL wO):=Xh hbelO;clear hszO hbelO hrC hrT hM;obtain ⟨m0,m1,m2,m3⟩:=HMI.out.at4;have hszO':wL.heap.size<wO.heap.size:=by have:=HZO.out;omega
 have t0:=(HBO.out.cell (p:=⟨w.heap.size,0,none⟩) hH).trans y0;have t1:=(HBO.out.cell (p:=⟨w.heap.size,1,none⟩) hH).trans y1;have t2:=(HBO.out.cell (p:=⟨w.heap.size,2,none⟩) hH).trans y2;have t3:=(HBO.out.cell (p:=⟨w.heap.size,3,none⟩) hH).trans y3;have hHO:w.heap.size<wO.heap.size:=by omega
 clear y0 y1 y2 y3;have HIO:Hid (YJ wO c c.nC (w.heap.size+1) hi cb):=HIN.out.below HBO.out;have HROO:Hid (∀i,i<c.nT→Inn wO false (rb i) (c.nRow i) 2 (c.row i)∧hi≤rb i∧rb i<hi2):=fun i hi=>⟨(HRO.out i hi).1.below HBO.out,(HRO.out i hi).2⟩;have HCHO:Hid (Inn wO c.chN hbl c.nCh 3 c.ch):=HCH.out.below HBO.out;have HDVO:Hid (Inn wO c.dvN dbl c.nD 1 c.dv):=HDV.out.below HBO.out;clear HIN HRO HCH HDV;obtain ⟨n0,z0,n1,z1⟩:=N0.out;cases p0 with
 |none=>
  obtain ⟨hz0,rfl⟩:=z0 rfl;have HN0:Hid (c.cellsN=true):=n0.1 rfl;have HZ0:Hid (c.nC=0):=hz0;clear hz0;cases p1 with
  |none=>
   obtain ⟨hz1,rfl⟩:=z1 rfl;have HN1:Hid (c.tableN=true):=n1.1 rfl;clear hz1;clear n0 z0 n1 z1;have HCI:Hid (CfgR wO (.slice none 0 0) (.slice none 0 0) (.slice q2 c.nCh cq2) (.slice q3 c.nD cq3) (X6 c)):=by
    have hh:=Y0T (i0:=.slice none 0 0) (i1:=.slice none 0 0) HC.out HIO.out HROO.out HCHO.out HDVO.out HRC.out HRT.out (by simp [HN0.out]) (by simp [HN1.out]);rw [F2.out,F3.out] at hh;exact hh
   go_wp2_with fail
   refine (Y14 (X6 c) _ _ _ _ _ (HCI.out.below ((Below.refl _ _).alloc (Nat.le_refl _) _)) HW.out (fun _ _=>rfl)).mono ?_;rintro e wN ⟨kv,x,y,rfl,hchk,hbelN,hkv⟩;have HCK:Hid (Y8 c x y):=hchk;have HBN:Hid (Below wO.heap.size wO wN):=Xh hbelN;have HKV:Hid ((x≠0∧kv=.pointer none)∨x=0):=hkv.imp id (fun h=>h.1);have hsN:wO.heap.size≤wN.heap.size:=HBN.out.size;have s0:=(HBN.out.cell (p:=⟨w.heap.size,0,none⟩) hHO).trans t0;have s1:=(HBN.out.cell (p:=⟨w.heap.size,1,none⟩) hHO).trans t1;have s2:=(HBN.out.cell (p:=⟨w.heap.size,2,none⟩) hHO).trans t2;have s3:=(HBN.out.cell (p:=⟨w.heap.size,3,none⟩) hHO).trans t3;have HMN:Hid (RowF wN wL.heap.size 4 28 _):=HMI.out.below HBN.out hszO';have HBwN:Hid (Below w.heap.size w wN):=((Yg HBL.out).trans (HBO.out.mono (by omega))).trans (HBN.out.mono (by omega));clear hchk hbelN hkv t0 t1 t2 t3 m0 m1 m2 m3;go_wp2_with fail
   refine (Y1a c _ _ _ _ _ (HC.out.below HBwN.out)).mono ?_;rintro e wC ⟨x',y',rfl,hchk',hbelC⟩;obtain ⟨rfl,rfl⟩:=HCK.out.uniq hchk';have HBC:Hid (Below wN.heap.size wN wC):=hbelC;have hsC:wN.heap.size≤wC.heap.size:=HBC.out.size;have r0:=(HBC.out.cell (p:=⟨w.heap.size,0,none⟩) (by show w.heap.size<_;omega)).trans s0;have r1:=(HBC.out.cell (p:=⟨w.heap.size,1,none⟩) (by show w.heap.size<_;omega)).trans s1;have r2:=(HBC.out.cell (p:=⟨w.heap.size,2,none⟩) (by show w.heap.size<_;omega)).trans s2;have r3:=(HBC.out.cell (p:=⟨w.heap.size,3,none⟩) (by show w.heap.size<_;omega)).trans s3;have HMC:Hid (RowF wC wL.heap.size 4 28 _):=HMN.out.below HBC.out (by omega);have HBOC:Hid (Below wO.heap.size wO wC):=HBN.out.trans (HBC.out.mono (by omega));have HBwC:Hid (Below w.heap.size w wC):=HBwN.out.trans (HBC.out.mono (by omega));clear hchk' hbelC s0 s1 s2 s3 HMN;go_wp2_with fail
   refine (Y0X c _ _ _ _ (wL.heap.size+1+1) (wL.heap.size+1+1+1) cb rb w _ HC.out HBwC.out (by omega) (by omega) (by omega) (HRC.out.below HBOC.out (by have:=HZO.out;omega)) (HRT.out.below HBOC.out (by have:=HZO.out;omega))).mono ?_;rintro e wS ⟨rfl,hb2⟩;have HB2:Hid (But2 wC wS (wL.heap.size+1+1) (wL.heap.size+1+1+1)):=hb2;have hsS:wC.heap.size≤wS.heap.size:=HB2.out.size;have HBLS:Hid (Below wL.heap.size wL wS):=HB2.out.below (HBO.out.trans (HBOC.out.mono (by omega))) (by omega) (by omega);have HMS:Hid (RowF wS wL.heap.size 4 28 (Yc (.slice q0 c.nC cq0) (.slice q1 c.nT cq1) (.slice q2 c.nCh cq2) (.slice q3 c.nD cq3))):=HMC.out.of_heap (HB2.out.block _ (by omega) (by omega) (by omega));have HBBS:Hid (Below (w.alloc (.cells #[.slice none c.nC 0,.slice none c.nT 0,.slice p2 c.nCh cap2,.slice p3 c.nD cap3] 28)).heap.size (w.alloc (.cells #[.slice none c.nC 0,.slice none c.nT 0,.slice p2 c.nCh cap2,.slice p3 c.nD cap3] 28)) wS):=by
    show Below _ _ _;have hh:Below (w.heap.size+1) _ wS:=HBL.out.trans (HBLS.out.mono (by omega));simpa using hh
   obtain ⟨y0,y1,y2,y3⟩:=box4 (HBL.out.trans (HBLS.out.mono (by omega)));obtain ⟨m0,m1,m2,m3⟩:=HMS.out.at4;have hHS:w.heap.size<wS.heap.size:=by omega
   have hLS:wL.heap.size<wS.heap.size:=by omega
   clear hb2 r0 r1 r2 r3 HMC;go_wp2_with fail
   refine (Y1p c _ _ _ _ _ _ _ _ _ _ (HC.out.below (HA.out _)) HBBS.out (HL0.out.below HBLS.out)).mono ?_;rintro e wW ⟨rfl,hbw⟩;have HBW:Hid (Below (w.heap.size+1) (w.alloc _) wW):=hbw.mono (by simp);clear hbw y0 y1 y2 y3 m0 m1 m2 m3;rcases HKV.out with ⟨hx0,rfl⟩|hx0
   ·have hx1:(x != 0)=true:=by simpa using hx0
    have HNE0:Hid (x≠0):=hx0;clear hx0;go_wp2_with (go_at_call 41;refine (XM x _).mono ?_;rintro e w' ⟨rfl,rfl⟩)
    go_ret;exact ⟨rfl,.inl ⟨fun e=>HNE0.out (by have:=HCK.out.uniq e;exact this.1),Yg HBW.out⟩⟩
   ·exact absurd (HCK.out.place hx0).sizes (fun h=>by have:=h.1.1;have:=HZ0.out;omega)
  |some b=>
   have HN1:Hid (c.tableN=false):=by
    show _=_;cases h:c.tableN
    ·rfl
    ·exact absurd (n1.2 h) (by simp)
   clear n0 z0 n1 z1;have HCI:Hid (CfgR wO (.slice none 0 0) (.slice (some ⟨wL.heap.size+1+1+1,0,none⟩) c.nT (c.nT+2)) (.slice q2 c.nCh cq2) (.slice q3 c.nD cq3) (X6 c)):=by
    have hh:=Y0T (i0:=.slice none 0 0) (i1:=.slice (some ⟨wL.heap.size+1+1+1,0,none⟩) c.nT (c.nT+2)) HC.out HIO.out HROO.out HCHO.out HDVO.out HRC.out HRT.out (by simp [HN0.out]) (by simp [HN1.out]);rw [F2.out,F3.out] at hh;exact hh
   go_wp2_with fail
   refine (Y14 (X6 c) _ _ _ _ _ (HCI.out.below ((Below.refl _ _).alloc (Nat.le_refl _) _)) HW.out (fun _ _=>rfl)).mono ?_;rintro e wN ⟨kv,x,y,rfl,hchk,hbelN,hkv⟩;have HCK:Hid (Y8 c x y):=hchk;have HBN:Hid (Below wO.heap.size wO wN):=Xh hbelN;have HKV:Hid ((x≠0∧kv=.pointer none)∨x=0):=hkv.imp id (fun h=>h.1);have hsN:wO.heap.size≤wN.heap.size:=HBN.out.size;have s0:=(HBN.out.cell (p:=⟨w.heap.size,0,none⟩) hHO).trans t0;have s1:=(HBN.out.cell (p:=⟨w.heap.size,1,none⟩) hHO).trans t1;have s2:=(HBN.out.cell (p:=⟨w.heap.size,2,none⟩) hHO).trans t2;have s3:=(HBN.out.cell (p:=⟨w.heap.size,3,none⟩) hHO).trans t3;have HMN:Hid (RowF wN wL.heap.size 4 28 _):=HMI.out.below HBN.out hszO';have HBwN:Hid (Below w.heap.size w wN):=((Yg HBL.out).trans (HBO.out.mono (by omega))).trans (HBN.out.mono (by omega));clear hchk hbelN hkv t0 t1 t2 t3 m0 m1 m2 m3;go_wp2_with fail
   refine (Y1a c _ _ _ _ _ (HC.out.below HBwN.out)).mono ?_;rintro e wC ⟨x',y',rfl,hchk',hbelC⟩;obtain ⟨rfl,rfl⟩:=HCK.out.uniq hchk';have HBC:Hid (Below wN.heap.size wN wC):=hbelC;have hsC:wN.heap.size≤wC.heap.size:=HBC.out.size;have r0:=(HBC.out.cell (p:=⟨w.heap.size,0,none⟩) (by show w.heap.size<_;omega)).trans s0;have r1:=(HBC.out.cell (p:=⟨w.heap.size,1,none⟩) (by show w.heap.size<_;omega)).trans s1;have r2:=(HBC.out.cell (p:=⟨w.heap.size,2,none⟩) (by show w.heap.size<_;omega)).trans s2;have r3:=(HBC.out.cell (p:=⟨w.heap.size,3,none⟩) (by show w.heap.size<_;omega)).trans s3;have HMC:Hid (RowF wC wL.heap.size 4 28 _):=HMN.out.below HBC.out (by omega);have HBOC:Hid (Below wO.heap.size wO wC):=HBN.out.trans (HBC.out.mono (by omega));have HBwC:Hid (Below w.heap.size w wC):=HBwN.out.trans (HBC.out.mono (by omega));clear hchk' hbelC s0 s1 s2 s3 HMN;go_wp2_with fail
   refine (Y0X c _ _ _ _ (wL.heap.size+1+1) (wL.heap.size+1+1+1) cb rb w _ HC.out HBwC.out (by omega) (by omega) (by omega) (HRC.out.below HBOC.out (by have:=HZO.out;omega)) (HRT.out.below HBOC.out (by have:=HZO.out;omega))).mono ?_;rintro e wS ⟨rfl,hb2⟩;have HB2:Hid (But2 wC wS (wL.heap.size+1+1) (wL.heap.size+1+1+1)):=hb2;have hsS:wC.heap.size≤wS.heap.size:=HB2.out.size;have HBLS:Hid (Below wL.heap.size wL wS):=HB2.out.below (HBO.out.trans (HBOC.out.mono (by omega))) (by omega) (by omega);have HMS:Hid (RowF wS wL.heap.size 4 28 (Yc (.slice q0 c.nC cq0) (.slice q1 c.nT cq1) (.slice q2 c.nCh cq2) (.slice q3 c.nD cq3))):=HMC.out.of_heap (HB2.out.block _ (by omega) (by omega) (by omega));have HBBS:Hid (Below (w.alloc (.cells #[.slice none c.nC 0,.slice (some b) c.nT cap1,.slice p2 c.nCh cap2,.slice p3 c.nD cap3] 28)).heap.size (w.alloc (.cells #[.slice none c.nC 0,.slice (some b) c.nT cap1,.slice p2 c.nCh cap2,.slice p3 c.nD cap3] 28)) wS):=by
    show Below _ _ _;have hh:Below (w.heap.size+1) _ wS:=HBL.out.trans (HBLS.out.mono (by omega));simpa using hh
   obtain ⟨y0,y1,y2,y3⟩:=box4 (HBL.out.trans (HBLS.out.mono (by omega)));obtain ⟨m0,m1,m2,m3⟩:=HMS.out.at4;have hHS:w.heap.size<wS.heap.size:=by omega
   have hLS:wL.heap.size<wS.heap.size:=by omega
   clear hb2 r0 r1 r2 r3 HMC;go_wp2_with fail
   refine (Y1p c _ _ _ _ _ _ _ _ _ _ (HC.out.below (HA.out _)) HBBS.out (HL0.out.below HBLS.out)).mono ?_;rintro e wW ⟨rfl,hbw⟩;have HBW:Hid (Below (w.heap.size+1) (w.alloc _) wW):=hbw.mono (by simp);clear hbw y0 y1 y2 y3 m0 m1 m2 m3;rcases HKV.out with ⟨hx0,rfl⟩|hx0
   ·have hx1:(x != 0)=true:=by simpa using hx0
    have HNE0:Hid (x≠0):=hx0;clear hx0;go_wp2_with (go_at_call 41;refine (XM x _).mono ?_;rintro e w' ⟨rfl,rfl⟩)
    go_ret;exact ⟨rfl,.inl ⟨fun e=>HNE0.out (by have:=HCK.out.uniq e;exact this.1),Yg HBW.out⟩⟩
   ·exact absurd (HCK.out.place hx0).sizes (fun h=>by have:=h.1.1;have:=HZ0.out;omega)
 |some a=>
  have HN0:Hid (c.cellsN=false):=by
   show _=_;cases h:c.cellsN
   ·rfl
   ·exact absurd (n0.2 h) (by simp)
  cases p1 with
  |none=>
   obtain ⟨hz1,rfl⟩:=z1 rfl;have HN1:Hid (c.tableN=true):=n1.1 rfl;have HZ1:Hid (c.nT=0):=hz1;clear hz1;clear n0 z0 n1 z1;have HCI:Hid (CfgR wO (.slice (some ⟨wL.heap.size+1+1,0,none⟩) c.nC (c.nC+2)) (.slice none 0 0) (.slice q2 c.nCh cq2) (.slice q3 c.nD cq3) (X6 c)):=by
    have hh:=Y0T (i0:=.slice (some ⟨wL.heap.size+1+1,0,none⟩) c.nC (c.nC+2)) (i1:=.slice none 0 0) HC.out HIO.out HROO.out HCHO.out HDVO.out HRC.out HRT.out (by simp [HN0.out]) (by simp [HN1.out]);rw [F2.out,F3.out] at hh;exact hh
   go_wp2_with fail
   refine (Y14 (X6 c) _ _ _ _ _ (HCI.out.below ((Below.refl _ _).alloc (Nat.le_refl _) _)) HW.out (fun _ _=>rfl)).mono ?_;rintro e wN ⟨kv,x,y,rfl,hchk,hbelN,hkv⟩;have HCK:Hid (Y8 c x y):=hchk;have HBN:Hid (Below wO.heap.size wO wN):=Xh hbelN;have HKV:Hid ((x≠0∧kv=.pointer none)∨x=0):=hkv.imp id (fun h=>h.1);have hsN:wO.heap.size≤wN.heap.size:=HBN.out.size;have s0:=(HBN.out.cell (p:=⟨w.heap.size,0,none⟩) hHO).trans t0;have s1:=(HBN.out.cell (p:=⟨w.heap.size,1,none⟩) hHO).trans t1;have s2:=(HBN.out.cell (p:=⟨w.heap.size,2,none⟩) hHO).trans t2;have s3:=(HBN.out.cell (p:=⟨w.heap.size,3,none⟩) hHO).trans t3;have HMN:Hid (RowF wN wL.heap.size 4 28 _):=HMI.out.below HBN.out hszO';have HBwN:Hid (Below w.heap.size w wN):=((Yg HBL.out).trans (HBO.out.mono (by omega))).trans (HBN.out.mono (by omega));clear hchk hbelN hkv t0 t1 t2 t3 m0 m1 m2 m3;go_wp2_with fail
   refine (Y1a c _ _ _ _ _ (HC.out.below HBwN.out)).mono ?_;rintro e wC ⟨x',y',rfl,hchk',hbelC⟩;obtain ⟨rfl,rfl⟩:=HCK.out.uniq hchk';have HBC:Hid (Below wN.heap.size wN wC):=hbelC;have hsC:wN.heap.size≤wC.heap.size:=HBC.out.size;have r0:=(HBC.out.cell (p:=⟨w.heap.size,0,none⟩) (by show w.heap.size<_;omega)).trans s0;have r1:=(HBC.out.cell (p:=⟨w.heap.size,1,none⟩) (by show w.heap.size<_;omega)).trans s1;have r2:=(HBC.out.cell (p:=⟨w.heap.size,2,none⟩) (by show w.heap.size<_;omega)).trans s2;have r3:=(HBC.out.cell (p:=⟨w.heap.size,3,none⟩) (by show w.heap.size<_;omega)).trans s3;have HMC:Hid (RowF wC wL.heap.size 4 28 _):=HMN.out.below HBC.out (by omega);have HBOC:Hid (Below wO.heap.size wO wC):=HBN.out.trans (HBC.out.mono (by omega));have HBwC:Hid (Below w.heap.size w wC):=HBwN.out.trans (HBC.out.mono (by omega));clear hchk' hbelC s0 s1 s2 s3 HMN;go_wp2_with fail
   refine (Y0X c _ _ _ _ (wL.heap.size+1+1) (wL.heap.size+1+1+1) cb rb w _ HC.out HBwC.out (by omega) (by omega) (by omega) (HRC.out.below HBOC.out (by have:=HZO.out;omega)) (HRT.out.below HBOC.out (by have:=HZO.out;omega))).mono ?_;rintro e wS ⟨rfl,hb2⟩;have HB2:Hid (But2 wC wS (wL.heap.size+1+1) (wL.heap.size+1+1+1)):=hb2;have hsS:wC.heap.size≤wS.heap.size:=HB2.out.size;have HBLS:Hid (Below wL.heap.size wL wS):=HB2.out.below (HBO.out.trans (HBOC.out.mono (by omega))) (by omega) (by omega);have HMS:Hid (RowF wS wL.heap.size 4 28 (Yc (.slice q0 c.nC cq0) (.slice q1 c.nT cq1) (.slice q2 c.nCh cq2) (.slice q3 c.nD cq3))):=HMC.out.of_heap (HB2.out.block _ (by omega) (by omega) (by omega));have HBBS:Hid (Below (w.alloc (.cells #[.slice (some a) c.nC cap0,.slice none c.nT 0,.slice p2 c.nCh cap2,.slice p3 c.nD cap3] 28)).heap.size (w.alloc (.cells #[.slice (some a) c.nC cap0,.slice none c.nT 0,.slice p2 c.nCh cap2,.slice p3 c.nD cap3] 28)) wS):=by
    show Below _ _ _;have hh:Below (w.heap.size+1) _ wS:=HBL.out.trans (HBLS.out.mono (by omega));simpa using hh
   obtain ⟨y0,y1,y2,y3⟩:=box4 (HBL.out.trans (HBLS.out.mono (by omega)));obtain ⟨m0,m1,m2,m3⟩:=HMS.out.at4;have hHS:w.heap.size<wS.heap.size:=by omega
   have hLS:wL.heap.size<wS.heap.size:=by omega
   clear hb2 r0 r1 r2 r3 HMC;go_wp2_with fail
   refine (Y1p c _ _ _ _ _ _ _ _ _ _ (HC.out.below (HA.out _)) HBBS.out (HL0.out.below HBLS.out)).mono ?_;rintro e wW ⟨rfl,hbw⟩;have HBW:Hid (Below (w.heap.size+1) (w.alloc _) wW):=hbw.mono (by simp);clear hbw y0 y1 y2 y3 m0 m1 m2 m3;rcases HKV.out with ⟨hx0,rfl⟩|hx0
   ·have hx1:(x != 0)=true:=by simpa using hx0
    have HNE0:Hid (x≠0):=hx0;clear hx0;go_wp2_with (go_at_call 41;refine (XM x _).mono ?_;rintro e w' ⟨rfl,rfl⟩)
    go_ret;exact ⟨rfl,.inl ⟨fun e=>HNE0.out (by have:=HCK.out.uniq e;exact this.1),Yg HBW.out⟩⟩
   ·exact absurd (HCK.out.place hx0).sizes (fun h=>by have:=h.2.1.1;have:=HZ1.out;omega)
  |some b=>
   have HN1:Hid (c.tableN=false):=by
    show _=_;cases h:c.tableN
    ·rfl
    ·exact absurd (n1.2 h) (by simp)
   clear n0 z0 n1 z1;have HCI:Hid (CfgR wO (.slice (some ⟨wL.heap.size+1+1,0,none⟩) c.nC (c.nC+2)) (.slice (some ⟨wL.heap.size+1+1+1,0,none⟩) c.nT (c.nT+2)) (.slice q2 c.nCh cq2) (.slice q3 c.nD cq3) (X6 c)):=by
    have hh:=Y0T (i0:=.slice (some ⟨wL.heap.size+1+1,0,none⟩) c.nC (c.nC+2)) (i1:=.slice (some ⟨wL.heap.size+1+1+1,0,none⟩) c.nT (c.nT+2)) HC.out HIO.out HROO.out HCHO.out HDVO.out HRC.out HRT.out (by simp [HN0.out]) (by simp [HN1.out]);rw [F2.out,F3.out] at hh;exact hh
   go_wp2_with fail
   refine (Y14 (X6 c) _ _ _ _ _ (HCI.out.below ((Below.refl _ _).alloc (Nat.le_refl _) _)) HW.out (fun _ _=>rfl)).mono ?_;rintro e wN ⟨kv,x,y,rfl,hchk,hbelN,hkv⟩;have HCK:Hid (Y8 c x y):=hchk;have HBN:Hid (Below wO.heap.size wO wN):=Xh hbelN;have HKV:Hid ((x≠0∧kv=.pointer none)∨(x=0∧∃K nb v tr,kv=.pointer (some ⟨K,0,none⟩)∧wO.heap.size<K∧J3 (X6 c) (wO.heap.size+1) K nb v tr wN)):=hkv.imp id (fun ⟨h1,K,nb,v,tr,h2,h3,u,xs,_,h4⟩=>⟨h1,K,nb,v,tr,h2,by simp at h3;omega,u,xs,by simpa using h4⟩);have hsN:wO.heap.size≤wN.heap.size:=HBN.out.size;have s0:=(HBN.out.cell (p:=⟨w.heap.size,0,none⟩) hHO).trans t0;have s1:=(HBN.out.cell (p:=⟨w.heap.size,1,none⟩) hHO).trans t1;have s2:=(HBN.out.cell (p:=⟨w.heap.size,2,none⟩) hHO).trans t2;have s3:=(HBN.out.cell (p:=⟨w.heap.size,3,none⟩) hHO).trans t3;have HMN:Hid (RowF wN wL.heap.size 4 28 _):=HMI.out.below HBN.out hszO';have HBwN:Hid (Below w.heap.size w wN):=((Yg HBL.out).trans (HBO.out.mono (by omega))).trans (HBN.out.mono (by omega));clear hchk hbelN hkv t0 t1 t2 t3 m0 m1 m2 m3;go_wp2_with fail
   refine (Y1a c _ _ _ _ _ (HC.out.below HBwN.out)).mono ?_;rintro e wC ⟨x',y',rfl,hchk',hbelC⟩;obtain ⟨rfl,rfl⟩:=HCK.out.uniq hchk';have HBC:Hid (Below wN.heap.size wN wC):=hbelC;have hsC:wN.heap.size≤wC.heap.size:=HBC.out.size;have r0:=(HBC.out.cell (p:=⟨w.heap.size,0,none⟩) (by show w.heap.size<_;omega)).trans s0;have r1:=(HBC.out.cell (p:=⟨w.heap.size,1,none⟩) (by show w.heap.size<_;omega)).trans s1;have r2:=(HBC.out.cell (p:=⟨w.heap.size,2,none⟩) (by show w.heap.size<_;omega)).trans s2;have r3:=(HBC.out.cell (p:=⟨w.heap.size,3,none⟩) (by show w.heap.size<_;omega)).trans s3;have HMC:Hid (RowF wC wL.heap.size 4 28 _):=HMN.out.below HBC.out (by omega);have HBOC:Hid (Below wO.heap.size wO wC):=HBN.out.trans (HBC.out.mono (by omega));have HBwC:Hid (Below w.heap.size w wC):=HBwN.out.trans (HBC.out.mono (by omega));clear hchk' hbelC s0 s1 s2 s3 HMN;go_wp2_with fail
   refine (Y0X c _ _ _ _ (wL.heap.size+1+1) (wL.heap.size+1+1+1) cb rb w _ HC.out HBwC.out (by omega) (by omega) (by omega) (HRC.out.below HBOC.out (by have:=HZO.out;omega)) (HRT.out.below HBOC.out (by have:=HZO.out;omega))).mono ?_;rintro e wS ⟨rfl,hb2⟩;have HB2:Hid (But2 wC wS (wL.heap.size+1+1) (wL.heap.size+1+1+1)):=hb2;have hsS:wC.heap.size≤wS.heap.size:=HB2.out.size;have HBLS:Hid (Below wL.heap.size wL wS):=HB2.out.below (HBO.out.trans (HBOC.out.mono (by omega))) (by omega) (by omega);have HMS:Hid (RowF wS wL.heap.size 4 28 (Yc (.slice q0 c.nC cq0) (.slice q1 c.nT cq1) (.slice q2 c.nCh cq2) (.slice q3 c.nD cq3))):=HMC.out.of_heap (HB2.out.block _ (by omega) (by omega) (by omega));have HBBS:Hid (Below (w.alloc (.cells #[.slice (some a) c.nC cap0,.slice (some b) c.nT cap1,.slice p2 c.nCh cap2,.slice p3 c.nD cap3] 28)).heap.size (w.alloc (.cells #[.slice (some a) c.nC cap0,.slice (some b) c.nT cap1,.slice p2 c.nCh cap2,.slice p3 c.nD cap3] 28)) wS):=by
    show Below _ _ _;have hh:Below (w.heap.size+1) _ wS:=HBL.out.trans (HBLS.out.mono (by omega));simpa using hh
   obtain ⟨y0,y1,y2,y3⟩:=box4 (HBL.out.trans (HBLS.out.mono (by omega)));obtain ⟨m0,m1,m2,m3⟩:=HMS.out.at4;have hHS:w.heap.size<wS.heap.size:=by omega
   have hLS:wL.heap.size<wS.heap.size:=by omega
   clear hb2 r0 r1 r2 r3 HMC;go_wp2_with fail
   refine (Y9O c _ _ _ _ _ _ _ _ _ _ (HC.out.below (HA.out _)) HBBS.out cb rb hbl dbl q0 cq0 q1 cq1 hi hi2 (Zi.below HLW.out HBLS.out)).mono ?_;rintro e wW ⟨rfl,hbw,hbx⟩;have HUPW:Hid (wS.heap.size≤wW.heap.size∧∀b,wO.heap.size≤b→b<wN.heap.size→wW.heap[b]?=wN.heap[b]?):=⟨hbx.size,fun b h1 h2=>(hbx.block b (by omega) (fun h=>by have:=Zi.lt HLW.out h;omega)).trans ((HB2.out.block b (by omega) (by have:=HZO.out;omega) (by have:=HZO.out;omega)).trans (HBC.out.block b h2))⟩;clear hbx;have HBW:Hid (Below (w.heap.size+1) (w.alloc _) wW):=hbw.mono (by simp);clear hbw y0 y1 y2 y3 m0 m1 m2 m3;rcases HKV.out with ⟨hx0,rfl⟩|⟨hx0,kb,nb,vt,tr,rfl,hKO,hKM⟩
   ·have hx1:(x != 0)=true:=by simpa using hx0
    have HNE0:Hid (x≠0):=hx0;clear hx0;go_wp2_with (go_at_call 41;refine (XM x _).mono ?_;rintro e w' ⟨rfl,rfl⟩)
    go_ret;exact ⟨rfl,.inl ⟨fun e=>HNE0.out (by have:=HCK.out.uniq e;exact this.1),Yg HBW.out⟩⟩
   ·have hx1:(x != 0)=false:=by simpa using hx0
    have HX0:Hid (x=0):=hx0;have HKM:Hid (J3 (X6 c) (wO.heap.size+1) kb nb vt tr wN):=hKM;clear hKM;clear hx0;have HIW:Hid (XY wW bw m ks rs H2 H3 H4 xsK ysR):=HI.out.below (Yg HBW.out);have hks:=HIW.out.k;have HKS:Hid (wW.ownsRow (bw+1) 43 1 ks m xsK):=hks;have u0:wW.cell? ⟨bw,0,none⟩=some ks:=HIW.out.row.cell (by omega);have hbW:bw<wW.heap.size:=block_lt_of_cell u0;clear hks;go_wp2_with (first|(go_at_call 41;refine (XM x _).mono ?_;rintro e wW ⟨rfl,rfl⟩)|(at_builtin;(refine YX _ rfl _ _ 71 rfl (bw+1) 43 _ 1 8 Tryz.underlying71 Y9G rfl (by omega) ks m xsK rfl (HKS.out.alloc _) wW.heap.size [.pointer (some ⟨kb,0,none⟩)] 43 rfl rfl (by exact alloc_at rfl) (by simp [Value.oneCell']) (by simp only [maxLen];omega) (by omega) (by simp;omega) ?_)))
    intro g cap w1 hown1 hgrow1 hat hlt1;have hksown:∀j,ks.ownBlock=some j→bw+1≤j∧j<w.heap.size:=fun j hj=>HI.out.k.lt j hj;have hrsown:∀j,rs.ownBlock=some j→bw+1≤j∧j<w.heap.size:=fun j hj=>HI.out.r.lt j hj;have hsW:w.heap.size+1≤wW.heap.size:=by have:=HBW.out.size;simpa using this
    have hs1:wW.heap.size+1≤w1.heap.size:=by have:=hgrow1.size;simpa using this
    have OLD1:Hid (∀j,j<wW.heap.size→ks.ownBlock≠some j→w1.heap[j]?=wW.heap[j]?):=fun j hj hne=>(hgrow1.block j (by simp;omega) (fun e=>hne e.symm)).trans (heap_alloc_old _ _ hj);have HR1:Hid (RowF w1 bw 5 79 (cells5 ks rs H2 H3 H4)):=HIW.out.row.of_heap (OLD1.out bw hbW (fun e=>by have:=hksown bw e;omega));have HR2:Hid (RowF (w1.setCell ⟨bw,0,none⟩ (.slice (some ⟨g,0,none⟩) (m+1:Nat) cap)) bw 5 79 (cells5 (.slice (some ⟨g,0,none⟩) (m+1:Nat) cap) rs H2 H3 H4)):=(HR1.out.set 0 _).congr (fun j hj=>by
     have:j=0∨j=1∨j=2∨j=3∨j=4:=by omega
     rcases this with rfl|rfl|rfl|rfl|rfl<;>rfl)
    have d0:w1.cell? ⟨bw,0,none⟩=some ks:=HR1.out.cell (by omega);have d0f:=HR1.out.frozen 0;have HK2:Hid ((w1.setCell ⟨bw,0,none⟩ (.slice (some ⟨g,0,none⟩) (m+1:Nat) cap)).ownsRow (bw+1) 43 1 (.slice (some ⟨g,0,none⟩) (m+1:Nat) cap) (m+1) (xsK++[.pointer (some ⟨kb,0,none⟩)])):=ownsRow_setCell_below hown1 (by simp) _;have OLD2:Hid (∀j,j<wW.heap.size→j≠bw→ks.ownBlock≠some j→(w1.setCell ⟨bw,0,none⟩ (.slice (some ⟨g,0,none⟩) (m+1:Nat) cap)).heap[j]?=wW.heap[j]?):=fun j hj h1 h2=>(heap_setCell_other _ _ _ _ (by simpa using h1)).trans (OLD1.out j hj h2);have hs2:(w1.setCell ⟨bw,0,none⟩ (.slice (some ⟨g,0,none⟩) (m+1:Nat) cap)).heap.size=w1.heap.size:=size_setCell _ _ _;have HBU:Hid (But (RZ bw ks rs) w (w1.setCell ⟨bw,0,none⟩ (.slice (some ⟨g,0,none⟩) (m+1:Nat) cap))):=⟨(hgrow1.os.trans (Yg HBW.out).os),(hgrow1.tape.trans (Yg HBW.out).tape),(hgrow1.output.trans (Yg HBW.out).output),by omega,fun j hj hn=>(OLD2.out j (by omega) (fun e=>hn (.inl e)) (fun e=>hn (.inr (.inl e)))).trans ((Yg HBW.out).block j hj)⟩;have HCW:Hid (CfgR (w1.setCell ⟨bw,0,none⟩ (.slice (some ⟨g,0,none⟩) (m+1:Nat) cap)) (.slice (some a) c.nC cap0) (.slice (some b) c.nT cap1) (.slice p2 c.nCh cap2) (.slice p3 c.nD cap3) c):=HST.out _ HBU.out;have hrs:=HIW.out.r;have HRS2:Hid ((w1.setCell ⟨bw,0,none⟩ (.slice (some ⟨g,0,none⟩) (m+1:Nat) cap)).ownsRow (bw+1) 83 1 rs m ysR):=by
     rcases hrs.2 with hn|⟨g',cap',cur,hv,hbg,hg,r⟩
     ·exact ⟨hrs.1,.inl hn⟩
     ·have hrg:rs.ownBlock=some g':=by rw [hv];rfl
      exact ⟨hrs.1,.inr ⟨g',cap',cur,hv,hbg,by rw [OLD2.out g' (by have:=hrsown g' hrg;omega) (by omega) (fun e=>HI.out.ne g' e hrg)];exact hg,r⟩⟩
    have HNE2:Hid (rs.ownBlock≠some g):=by
     rcases hat with h|h
     ·exact HI.out.ne g h
     ·intro e;have:=hrsown g e;omega
    have HROWH:Hid (RowF (w1.setCell ⟨bw,0,none⟩ (.slice (some ⟨g,0,none⟩) (m+1:Nat) cap)) w.heap.size 4 28 (Yc (.slice (some a) c.nC cap0) (.slice (some b) c.nT cap1) (.slice p2 c.nCh cap2) (.slice p3 c.nD cap3))):=((row4 w _ _ _ _ _).below HBW.out (by omega)).of_heap (OLD2.out _ (by omega) (by omega) (fun e=>by have:=hksown _ e;omega));have HHG:Hid (bw+1≤g∧g<w1.heap.size):=by
     rcases hat with h|h
     ·have:=hksown g h;exact ⟨this.1,hlt1⟩
     ·exact ⟨by omega,hlt1⟩
    have HGK:Hid (ks.ownBlock=some g∨(wN.heap.size≤g∧g<w1.heap.size)):=by
     rcases hat with h|h
     ·exact .inl h
     ·exact .inr ⟨by have:=HUPW.out.1;omega,hlt1⟩
    have HUP2:Hid (∀b,wO.heap.size≤b→b<wN.heap.size→(w1.setCell ⟨bw,0,none⟩ (.slice (some ⟨g,0,none⟩) (m+1:Nat) cap)).heap[b]?=wN.heap[b]?):=fun b h1 h2=>(OLD2.out b (by have:=HUPW.out.1;omega) (by omega) (fun e=>by have:=hksown b e;omega)).trans (HUPW.out.2 b h1 h2);clear hown1 hgrow1 hat hlt1 hrs u0;go_wp2_with fail
    obtain ⟨k0,k1,k2,k3⟩:=HROWH.out.at4;have b1:(w1.setCell ⟨bw,0,none⟩ (.slice (some ⟨g,0,none⟩) (m+1:Nat) cap)).cell? ⟨bw,1,none⟩=some rs:=HR2.out.cell (by omega);have b1f:=HR2.out.frozen 1;have CK0:Hid (Y8 c 0 0):=HCK.out.place HX0.out;have H2S:Hid (w.heap.size+1≤(w1.setCell ⟨bw,0,none⟩ (.slice (some ⟨g,0,none⟩) (m+1:Nat) cap)).heap.size∧bw<(w1.setCell ⟨bw,0,none⟩ (.slice (some ⟨g,0,none⟩) (m+1:Nat) cap)).heap.size∧g<(w1.setCell ⟨bw,0,none⟩ (.slice (some ⟨g,0,none⟩) (m+1:Nat) cap)).heap.size):=⟨by omega,by omega,by rw [hs2];exact HHG.out.2⟩;have HB2w:Hid (Below bw w (w1.setCell ⟨bw,0,none⟩ (.slice (some ⟨g,0,none⟩) (m+1:Nat) cap))):=⟨HBU.out.os,HBU.out.tape,HBU.out.output,HBU.out.size,fun j hj=>HBU.out.block j (by omega) (fun h=>by
     rcases h with h|h|h
     ·omega
     ·have:=hksown j h;omega
     ·have:=hrsown j h;omega)⟩
    have HSZ2:Hid ((w1.setCell ⟨bw,0,none⟩ (.slice (some ⟨g,0,none⟩) (m+1:Nat) cap)).heap.size=w1.heap.size):=hs2;have HS12:Hid (wW.heap.size+1≤w1.heap.size):=hs1;clear hs2 OLD1 OLD2 HR1 d0 d0f hsW hs1;generalize (w1.setCell ⟨bw,0,none⟩ (.slice (some ⟨g,0,none⟩) (m+1:Nat) cap))=w2 at *;have g1:=H2S.out.1;have hsz2:w2.heap.size=w1.heap.size:=HSZ2.out;have hsN2:wN.heap.size≤w2.heap.size:=by have:=HUPW.out.1;have:=HS12.out;omega
    have g2:=H2S.out.2.1;have NC:Hid (NCok c∧c.nCh≤8∧Yb (X3 c) c.nC):=by
     have hh:=CK0.out;unfold Y8 at hh;rcases hh with h|h|⟨_,_,i,_,h,_⟩|h|⟨_,_,_,_,i,_,h,_⟩|h|⟨_,_,_,_,_,_,i,_,h,_⟩|⟨_,_,_,_,_,_,_,i,_,h,_⟩|h
     ·exact absurd h.2.1 (by omega)
     ·exact absurd h.2.2.1 (by omega)
     ·exact absurd h (by omega)
     ·exact absurd h.2.2.2.2.1 (by omega)
     ·exact absurd h (by omega)
     ·exact absurd h.2.2.2.2.2.2.1 (by omega)
     ·exact absurd h (by omega)
     ·exact absurd h (by omega)
     ·exact ⟨h.1,h.2.2.2.1,h.2.2.2.2.2.2.2.1⟩
    go_region_law
     (first
      |(refine Y0V rfl 36 _ _ rfl _ rfl Tryz.f36 Tryz.func36 Y5t Y4K (fun r w'=>∃x0 x1 x2 x3,r=.agg #[x0,x1,x2,x3]∧X5 w' c w2.heap.size x0 x1 x2 x3∧Below w2.heap.size w2 w') ?_ ?_
        ·exact (Y3S c (.slice (some a) c.nC cap0) (.slice (some b) c.nT cap1) (.slice p2 c.nCh cap2) (.slice p3 c.nD cap3) w2.drew (HCW.out.keep (fun _ _ h=>h))).mono (fun e w' ⟨x0,x1,x2,x3,h1,h2,h3⟩=>⟨_,h1,x0,x1,x2,x3,rfl,h2,⟨h3.os,h3.tape,h3.output,h3.size,h3.block⟩⟩)
        rintro r wl ⟨x0,x1,x2,x3,rfl,hl2,hbl2⟩;have HBl:Hid (Below w2.heap.size w2 wl):=hbl2;have HLl:Hid (X5 wl c w2.heap.size x0 x1 x2 x3):=hl2;have hsl:w2.heap.size≤wl.heap.size:=hbl2.size;have q1:=(HBl.out.cell (p:=⟨bw,1,none⟩) g2).trans b1;obtain ⟨j0,j1,j2,j3⟩:=(HROWH.out.below HBl.out (by omega)).at4;clear hl2 hbl2)
      |(refine Y0V rfl 42 _ _ rfl _ rfl Tryz.f42 Tryz.func42 Y6e Y7U (fun r w'=>∃kb Gc L,r=.pointer (some ⟨kb,0,none⟩)∧Below wl.heap.size wl w'∧RNew c wl x0 x1 x2 x3 kb Gc L w') ?_ ?_
        ·exact (YaM c x0 x1 x2 x3 w2.heap.size wl HLl.out (fun i hi=>(NC.out.2.2 i hi).2.1) NC.out.1.2 NC.out.2.1 NC.out.1.1 ZCH.out ZDV.out ZIM.out).mono (fun e w' ⟨kb,Gc,L,h1,h2,h3⟩=>⟨_,h1,kb,Gc,L,rfl,h2,h3⟩)
        rintro r wk ⟨kb2,Gc,Ln,rfl,hbk,hrn⟩;have HRN:Hid (RNew c wl x0 x1 x2 x3 kb2 Gc Ln wk):=hrn;have HLk:Hid (X5 wl c w2.heap.size x0 x1 x2 x3∧Below wl.heap.size wl wk):=⟨HLl.out,hbk⟩;have hslk:wl.heap.size≤wk.heap.size:=hbk.size;clear hrn;have HBK:Hid (Below w2.heap.size w2 wk):=HBl.out.trans (hbk.mono hsl);have hsk:w2.heap.size≤wk.heap.size:=HBK.out.size;clear q1 j0 j1 j2 j3;have q1:=(HBK.out.cell (p:=⟨bw,1,none⟩) g2).trans b1;have q1a:(wk.alloc (.cells #[.pointer (some ⟨kb2,0,none⟩)] 83)).cell? ⟨bw,1,none⟩=some rs:=((HBK.out.alloc hsk _).cell (p:=⟨bw,1,none⟩) g2).trans b1;obtain ⟨j0,j1,j2,j3⟩:=(HROWH.out.below HBK.out (by omega)).at4;clear hbk)
      |(refine Jk rfl _ _ 72 rfl (bw+1) 83 _ 1 8 Tryz.underlying72 Y51 rfl (by omega) rs m ysR rfl (own_below HRS2.out (HBK.out.alloc (by omega) _)) wk.heap.size [.pointer (some ⟨kb2,0,none⟩)] 83 rfl rfl (by exact alloc_at rfl) (by simp [Value.oneCell']) (by simp only [maxLen];omega) (by omega) (by simp;omega) ?_
        intro g3 cap3' w3 hown3 hgrow3 hat3 hlt3;have OLD3:Hid (∀j,j<w2.heap.size→rs.ownBlock≠some j→w3.heap[j]?=w2.heap[j]?):=(fun j hj hne=>(hgrow3.block j (by simp;omega) (fun e=>hne e.symm)).trans ((heap_alloc_old _ _ (by omega)).trans (HBK.out.block j hj)));have HR3:Hid (RowF w3 bw 5 79 (cells5 (.slice (some ⟨g,0,none⟩) (m+1:Nat) cap) rs H2 H3 H4)):=HR2.out.of_heap (OLD3.out bw (by omega) (fun e=>by have:=hrsown bw e;omega));clear q1 j0 j1 j2 j3;have q1:w3.cell? ⟨bw,1,none⟩=some rs:=HR3.out.cell (by omega);have q1f:=HR3.out.frozen 1;have hO3:Hid (w3.ownsRow (bw+1) 83 1 (.slice (some ⟨g3,0,none⟩) (m+1:Nat) cap3') (m+1) (ysR++[.pointer (some ⟨kb2,0,none⟩)])):=hown3;have hA3:Hid (rs.ownBlock=some g3∨w2.heap.size≤g3):=by
         rcases hat3 with h|h
         ·exact Or.inl h
         ·exact Or.inr (by rw [h];simp;omega)
        have hG3:Hid (But (fun j=>rs.ownBlock=some j) w2 w3):=⟨hgrow3.os.trans HBK.out.os,hgrow3.tape.trans HBK.out.tape,hgrow3.output.trans HBK.out.output,Nat.le_trans (Nat.le_trans hsk (by simp)) hgrow3.size,fun j hj hne=>OLD3.out j hj hne⟩;have HUP3:Hid (∀b,w2.heap.size≤b→b<wk.heap.size→w3.heap[b]?=wk.heap[b]?):=fun b h1 h2=>(hgrow3.block b (by simp;omega) (fun e=>by have:=hrsown b e.symm;have:=g1;omega)).trans (heap_alloc_old _ _ h2);have HGR:Hid (rs.ownBlock=some g3∨wk.heap.size≤g3):=by
         rcases hat3 with h|h
         ·exact Or.inl h
         ·exact Or.inr (by rw [h];simp)
        have HS3:Hid (wk.heap.size≤w3.heap.size):=Nat.le_trans (by simp) hgrow3.size;clear hown3 hgrow3 hat3))
    all_goals go_wp2_with fail
    all_goals go_ret
    all_goals
     have HME:=Yba HBU.out hG3.out HR2.out HK2.out hO3.out hA3.out HNE2.out ⟨HHG.out.1,H2S.out.2.2⟩ (fun j hj=>(hrsown j hj).1);refine ⟨rfl,.inr ⟨CK0.out,_,_,kb,nb,vt,tr,kb2,Gc,Ln,wO.heap.size+1,wN.heap.size,w2.heap.size,wk.heap.size,by have:=HZO.out;omega,hsN2,hsk,HME,by rw [size_setCell];exact HS3.out,?_,?_,?_,?_⟩⟩
     ·intro b hb;have hg':g=b:=by simpa [Value.ownBlock] using hb
      subst hg';exact HGK.out.imp id (fun h=>⟨h.1,by omega⟩)
     ·intro b hb;have hg':g3=b:=by simpa [Value.ownBlock] using hb
      subst hg';exact HGR.out
     ·intro wZ hZ;refine HKM.out.up (by omega) rfl (fun b h1 h2=>(hZ b h1 h2).trans ?_);rw [heap_setCell_other _ _ _ _ (by show b≠bw;omega),hG3.out.block b (by omega) (fun e=>by have:=hrsown b e;omega)];exact HUP2.out b (by omega) h2
     ·exact ⟨wl,wk,_,_,_,_,rfl,hsl,HLk.out.1,HLk.out.2,HRN.out,fun b h1 h2=>by rw [heap_setCell_other _ _ _ _ (by show b≠bw;omega)];exact HUP3.out b h1 h2⟩
end Go.Proofs.YtdoghgnifkgfdaaGreat.Mute
