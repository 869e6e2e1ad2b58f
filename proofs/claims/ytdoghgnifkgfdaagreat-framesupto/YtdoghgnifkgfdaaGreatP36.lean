import Derived.Test.YtdoghgnifkgfdaaGreatP00
import Derived.Test.YtdoghgnifkgfdaaGreatP14
import Derived.Test.YtdoghgnifkgfdaaGreatP35
set_option maxRecDepth 100000
set_option maxHeartbeats 16000000
open Option renaming none->Ai,some->yi
open Go renaming World->ui,Value->ti,undef->ri
open Bool renaming true->ji,false->gi
namespace Go.Proofs.YtdoghgnifkgfdaaGreat.Mute
open Tryz Go Go.Conc Go.RowKit
structure VQ(k:Vu)(r:RK):Prop where
 b:r.bo≠r.Kb
 c:∀i,i<k.nC->r.cb i≠r.Kb
 i:∀i,i<k.nC->∀b o,r.iq i=yi ⟨b,o,Ai⟩->b≠r.Kb
section
variable {w w':ui}{k:Vu}{r:RK}{Q:Nat->RC}{m:Nat->Nat}{xs:Nat->List ti}{nC:Nat}{nl:Nat->List (Int×Int)}{Ls L:Nat->Ln}{F F':Int}{inV Dt:ti}{il kV:List (Int×Int)}{fK:Nat->ti}
theorem Tn.kb(h:Tn w k r Q m xs)(ha:VQ k r)(hb:ak (fun j=>j=r.Kb) w w')(c0:w'.cell? ⟨r.Kb,0,Ai⟩=w.cell? ⟨r.Kb,0,Ai⟩)(c4:w'.cell? ⟨r.Kb,4,Ai⟩=w.cell? ⟨r.Kb,4,Ai⟩)(hK:Ei w r.Kb 8 126 fK):Tn w' k r Q m xs:=by
 have kk:∀{b:Nat},Hm r w b->b≠r.Kb->w'.heap[b]?=w.heap[b]?:=fun hs Jj=>hb.block _ hs.lt Jj;have to:∀{b:Nat},Hm r w b->Hm r w' b:=fun hs=>hs.to hb.size;refine⟨c0.trans h.h0,c4.trans h.h4,to h.sK,to h.sb,fun i hi=>to (h.sc i hi),fun i hi b o e=>to (h.si i hi b o e),h.oh,
  fun i hi=>(cell_of_heap (a:=⟨r.bo,r.oo+i*3,Ai⟩) (kk h.sb ha.b)).trans (h.hc i hi),fun i hi=>(cell_of_heap (a:=⟨r.bo,r.oo+i*3+1,Ai⟩) (kk h.sb ha.b)).trans (h.hi i hi),fun i hi=>(cell_of_heap (a:=⟨r.bo,r.oo+i*3+2,Ai⟩) (kk h.sb ha.b)).trans (h.hl i hi),
  fun i hi j hj=>(cell_of_heap (a:=⟨r.cb i,r.co i+j,Ai⟩) (kk (h.sc i hi) (ha.c i hi))).trans (h.code i hi j hj),fun i hi=>?_,h.row.of_heap (hb.block _ h.row.lt (fun e=>h.sK.2.1.1 e.symm)),fun i hi=>Rk (h.own i hi) fun b uk=>hb.block b (Io (h.own i hi) uk) (fun e=>xj (h.own i hi) hK U0 (by rw[<-e];exact uk)),h.Un,h.g16,h.n48,h.ok,h.fst⟩
 rcases h.bQ i hi with e|⟨b,o,e,hc⟩
 ·exact .inl e
 ·exact .inr ⟨b,o,e,fun j hj=>(cell_of_heap (a:=⟨b,o+j,Ai⟩) (kk (h.si i hi b o e) (ha.i i hi b o e))).trans (hc j hj)⟩
theorem Om.kb(h:Om w nC r Q nl Ls F inV il)(hb:ak (fun j=>j=r.Kb) w w')(hK:Ei w r.Kb 8 126 fK)(h5:w'.cell? ⟨r.Kb,5,Ai⟩=w.cell? ⟨r.Kb,5,Ai⟩)(h6:w'.cell? ⟨r.Kb,6,Ai⟩=yi (.int .i64 F'))(h7:w'.cell? ⟨r.Kb,7,Ai⟩=yi Dt)(ino:w'.ownsRow 0 59 2 Dt kV.length (Qo kV))(hl:kV.length<=1000):Om w' nC r Q nl Ls F' Dt kV:=by
 have ty:∀{b e s n2:Nat}{v:ti}{ys:List ti},w.ownsRow b e s v n2 ys->e≠126->w'.ownsRow b e s v n2 ys:=fun ho h1=>Rk ho fun g hg=>hb.block g (Io ho hg) (fun e=>xj ho hK h1 Y4);exact⟨h5.trans h.h5,h6,h7,ino,h.row.of_heap (hb.block _ h.row.lt h.lo.2.2.1),⟨h.lo.1,h.lo.2.1,h.lo.2.2.1,h.lo.2.2.2.1,hl⟩,fun c hc=>ty (h.own c hc) U0,h.Un,h.oh,fun i hi=>ty (h.yD i hi) U0,h.YF,h.u_⟩
theorem Tn.lines(h:Tn w k r Q m xs)(hN:Om w k.nC r Q nl Ls F inV il)(hl:tG w r Ls L w'):Tn w' k r Q m xs/\Om w' k.nC r Q nl L F inV il:=by
 have ns:∀{b:Nat},Hm r w b->w'.heap[b]?=w.heap[b]?:=fun {b} hs=>hl.but.block _ hs.lt (fun e=>by
  rcases e with e|⟨c,hc,e⟩
  ·exact hs.2.1.2 e
  ·exact hs.ot (fun b=>hN.oh c b hc) e)
 have to:∀{b:Nat},Hm r w b->Hm r w' b:=fun hs=>hs.to hl.but.size;have ty:∀{b e s n2:Nat}{v:ti}{ys:List ti},w.ownsRow b e s v n2 ys->e≠175->e≠2->w'.ownsRow b e s v n2 ys:=fun ho h1 h2=>Rk ho fun g hg=>hl.but.block g (Io ho hg) (fun e=>by
  rcases e with e|⟨c,hc,e⟩
  ·exact xj ho hN.row h1 Y4
  ·exact Px ho (hN.own c hc) h2 hg e)
 have kG:w'.heap[r.Gc]?=w.heap[r.Gc]?:=hl.but.block _ h.row.lt (fun e=>by
  rcases e with e|⟨c,hc,e⟩
  ·exact hN.lo.2.1 e.symm
  ·exact xj (hN.own c hc) h.row U0 e)
 refine⟨⟨(cell_of_heap (a:=⟨r.Kb,0,Ai⟩) (ns h.sK)).trans h.h0,(cell_of_heap (a:=⟨r.Kb,4,Ai⟩) (ns h.sK)).trans h.h4,to h.sK,to h.sb,fun i hi=>to (h.sc i hi),fun i hi b o e=>to (h.si i hi b o e),h.oh,
  fun i hi=>(cell_of_heap (a:=⟨r.bo,r.oo+i*3,Ai⟩) (ns h.sb)).trans (h.hc i hi),fun i hi=>(cell_of_heap (a:=⟨r.bo,r.oo+i*3+1,Ai⟩) (ns h.sb)).trans (h.hi i hi),fun i hi=>(cell_of_heap (a:=⟨r.bo,r.oo+i*3+2,Ai⟩) (ns h.sb)).trans (h.hl i hi),
  fun i hi j hj=>(cell_of_heap (a:=⟨r.cb i,r.co i+j,Ai⟩) (ns (h.sc i hi))).trans (h.code i hi j hj),fun i hi=>?_,h.row.of_heap kG,fun i hi=>ty (h.own i hi) U0 U0,h.Un,h.g16,h.n48,h.ok,h.fst⟩,
  ⟨(cell_of_heap (a:=⟨r.Kb,5,Ai⟩) (ns h.sK)).trans hN.h5,(cell_of_heap (a:=⟨r.Kb,6,Ai⟩) (ns h.sK)).trans hN.h6,(cell_of_heap (a:=⟨r.Kb,7,Ai⟩) (ns h.sK)).trans hN.h7,ty hN.ino U0 U0,hl.row,hN.lo,hl.own,hl.ne,fun c b hc hb=>?_,fun i hi=>ty (hN.yD i hi) U0 U0,hN.YF,hN.u_⟩⟩
 ·rcases h.bQ i hi with e|⟨b,o,e,hc⟩
  ·exact .inl e
  ·exact ug
 ·rcases hl.blk c b hc hb with x|x
  ·exact hN.oh c b hc x
  ·exact Nat.le_trans h.sK.2.2 x
theorem Tn.cleared(h:Tn w k r Q m xs)(hN:Om w k.nC r Q nl Ls F inV il)(hb:ak (fun j=>j=r.Gc) w w')(hr:Ei w' r.Gc (k.nC*26) 131 (Sj (lx Q k.nC))):Tn w' k r (lx Q k.nC) m xs/\Om w' k.nC r (lx Q k.nC) (fun _=>[]) Ls F inV il:=by
 have ns:∀{b:Nat},Hm r w b->w'.heap[b]?=w.heap[b]?:=fun {b} hs=>hb.block _ hs.lt hs.2.1.1;have to:∀{b:Nat},Hm r w b->Hm r w' b:=fun hs=>hs.to hb.size;have ty:∀{b e s n2:Nat}{v:ti}{ys:List ti},w.ownsRow b e s v n2 ys->e≠131->w'.ownsRow b e s v n2 ys:=fun ho h1=>Rk ho fun g hg=>hb.block g (Io ho hg) (fun e=>xj ho h.row h1 Y4);have q:∀i,(lx Q k.nC i).v=(Q i).v/\(lx Q k.nC i).z=(Q i).z:=fun i=>by unfold lx;split<;>exact⟨rfl,rfl⟩
 have qn:∀i,i<k.nC->(lx Q k.nC i).nt=.slice Ai 0 0:=fun i hi=>by unfold lx;rw[if_pos hi]
 refine⟨⟨(cell_of_heap (a:=⟨r.Kb,0,Ai⟩) (ns h.sK)).trans h.h0,(cell_of_heap (a:=⟨r.Kb,4,Ai⟩) (ns h.sK)).trans h.h4,to h.sK,to h.sb,fun i hi=>to (h.sc i hi),fun i hi b o e=>to (h.si i hi b o e),fun i b hi=>by rw[(q i).1];exact h.oh i b hi,
  fun i hi=>(cell_of_heap (a:=⟨r.bo,r.oo+i*3,Ai⟩) (ns h.sb)).trans (h.hc i hi),fun i hi=>(cell_of_heap (a:=⟨r.bo,r.oo+i*3+1,Ai⟩) (ns h.sb)).trans (h.hi i hi),fun i hi=>(cell_of_heap (a:=⟨r.bo,r.oo+i*3+2,Ai⟩) (ns h.sb)).trans (h.hl i hi),
  fun i hi j hj=>(cell_of_heap (a:=⟨r.cb i,r.co i+j,Ai⟩) (ns (h.sc i hi))).trans (h.code i hi j hj),fun i hi=>?_,hr,fun i hi=>by rw[(q i).1];exact ty (h.own i hi) U0,fun i j hi hj Jj b=>by rw[(q i).1,(q j).1];exact h.Un i j hi hj Jj b,h.g16,h.n48,h.ok,fun i hi j=>by rw[(q i).2];exact h.fst i hi j⟩,
  ⟨(cell_of_heap (a:=⟨r.Kb,5,Ai⟩) (ns h.sK)).trans hN.h5,(cell_of_heap (a:=⟨r.Kb,6,Ai⟩) (ns h.sK)).trans hN.h6,(cell_of_heap (a:=⟨r.Kb,7,Ai⟩) (ns h.sK)).trans hN.h7,ty hN.ino U0,hN.row.of_heap (hb.block _ hN.row.lt hN.lo.2.1),hN.lo,fun c hc=>ty (hN.own c hc) U0,hN.Un,hN.oh,fun i hi=>by rw[qn i hi];exact World.ownsRow_nil _ _ _ _,fun i j hi hj Jj b Zs=>(by rw[qn i hi]at Zs;cases Zs),fun i b hi Zs=>(by rw[qn i hi]at Zs;cases Zs)⟩⟩
 rcases h.bQ i hi with e|⟨b,o,e,hc⟩
 ·exact .inl e
 ·exact ug
end
theorem qJ(Kb:Nat)(ip:Option Addr)(il ic:Nat)(w:ui)(h:4<il):
  Calls prog 44 #[.pointer (yi ⟨Kb,0,Ai⟩),.slice ip il ic] w fun e w'=>e=.returned (.int .i64 6)/\w'=w:=by
 go_enter func44,ntmps44
 exact Wc
def B70(w:ui)(vs:Nat->ti)(Ls:Nat->Ln)(w':ui)(k:Vu)(K:Nl)(r:RK)(kind:Nat->Int)(s1:Hy)(F1:Int)(il:List (Int×Int))(kf:ti->Nat->ti):Prop:=∃Sv Jw Dt,Tn w' k r (Nx s1 Sv (fun _=>.slice Ai 0 0)) s1.m s1.xs/\Om w' k.nC r (Nx s1 Sv (fun _=>.slice Ai 0 0)) (fun _=>[]) Jw F1 Dt il/\Dl r.kc kind K.fr (fun _=>[]) Jw F1 s1.D/\Ro r.kc s1.D/\E_ k s1/\Ei w' r.Kb 8 126 (kf Dt)/\ak (fun j=>(j=r.Kb\/j=r.Gc\/j=r.Lb)\/(∃i,i<k.nC/\(vs i).ownBlock=yi j)\/∃c,c<r.kc/\(Ls c).wv.ownBlock=yi j) w w'/\(∀i b,i<k.nC->(Sv i).ownBlock=yi b->(vs i).ownBlock=yi b\/w.heap.size<=b)/\(∀c b,c<r.kc->(Jw c).wv.ownBlock=yi b->(Ls c).wv.ownBlock=yi b\/w.heap.size<=b)/\∀b,Dt.ownBlock=yi b->w.heap.size<=b
section
variable {w:ui}{k:Vu}{K:Nl}{r:RK}{kind:Nat->Int}{s:Hy}{vs:Nat->ti}{Ls:Nat->Ln}{fr:Nat}{Yc0:ti}{il0:List (Int×Int)}{tb RD nT cT Iq wo nW cW cc nD c3 il ic:Nat}{qc q3 ip:Option Addr}{zi ch:Nat->Int}{wn:Nat->Nat×Nat}
theorem x00{W W':ui}{p:Option Addr}{n:Nat}{f:Nat->ti}(h:Sl W p n f)(hk:∀b o,p=yi ⟨b,o,Ai⟩->W'.heap[b]?=W.heap[b]?):Sl W' p n f:=by
 rcases h with h|⟨b,o,e,hc⟩
 ·exact .inl h
 ·exact .inr ⟨b,o,e,fun j hj=>(World.cell?_of_block (hk b o e)).trans (hc j hj)⟩
theorem Tn.F90{Q Q':Nat->RC}{m:Nat->Nat}{xs:Nat->List ti}(h:Tn w k r Q m xs)(e:∀i,i<k.nC->Q' i=Q i):Tn w k r Q' m xs:=
 ⟨h.h0,h.h4,h.sK,h.sb,h.sc,h.si,fun i b hi=>by rw[e i hi];exact h.oh i b hi,h.hc,h.hi,h.hl,h.code,h.bQ,h.row.congr fun j hj=>by unfold Sj;rw[e (j/26) E0],fun i hi=>by rw[e i hi];exact h.own i hi,fun i j hi hj Jj b=>by rw[e i hi,e j hj];exact h.Un i j hi hj Jj b,h.g16,h.n48,h.ok,fun i hi j=>by rw[e i hi];exact h.fst i hi j⟩
theorem Om.F90{nC:Nat}{Q Q':Nat->RC}{nl:Nat->List (Int×Int)}{F:Int}{inV:ti}{l:List (Int×Int)}(h:Om w nC r Q nl Ls F inV l)(e:∀i,i<nC->Q' i=Q i):Om w nC r Q' nl Ls F inV l:=
 ⟨h.h5,h.h6,h.h7,h.ino,h.row,h.lo,h.own,h.Un,h.oh,fun i hi=>by rw[e i hi];exact h.yD i hi,fun i j hi hj Jj b=>by rw[e i hi,e j hj];exact h.YF i j hi hj Jj b,fun i b hi=>by rw[e i hi];exact h.u_ i b hi⟩
theorem d20(dF:Tn w k r (Nx s vs (fun _=>.slice Ai 0 0)) s.m s.xs)(JC:Om w k.nC r (Nx s vs (fun _=>.slice Ai 0 0)) (fun _=>[]) Ls fr Yc0 il0)(hrel:Dl r.kc kind K.fr (fun _=>[]) Ls fr s.D)(TQ:Ro r.kc s.D)(hS:E_ k s)(ha:VQ k r)(hkK:K.k=r.kc)(XD:∀i,i<k.nC->k.num i=i)
  (hK:Ei w r.Kb 8 126 (kf8 (.slice (yi ⟨r.bo,r.oo,Ai⟩) k.nC r.cq) (.slice (yi ⟨tb,RD,Ai⟩) nT cT) (.slice qc r.kc cc) (.slice q3 nD c3) (.slice (yi ⟨r.Gc,0,Ai⟩) k.nC k.nC) (.slice (yi ⟨r.Lb,0,Ai⟩) r.kc r.kc) (.int .i64 fr) Yc0))(st:Hm r w tb)(htK:tb≠r.Kb)(Nk:w.cell? ⟨tb,RD+fr%nT,Ai⟩=yi (.slice (yi ⟨Iq,wo,Ai⟩) nW cW))(sW:Hm r w Iq)(hwK:Iq≠r.Kb)(c0:∀j,j<nW->w.cell? ⟨Iq,wo+j*2,Ai⟩=yi (.int .i64 (wn j).1))(c1:∀j,j<nW->w.cell? ⟨Iq,wo+j*2+1,Ai⟩=yi (.int .i64 (wn j).2))
  (yB:Sl w qc (r.kc*3) (fun j=>.int .i64 (ch j)))(hqs:∀b o,qc=yi ⟨b,o,Ai⟩->Hm r w b/\b≠r.Kb)(hkf:∀c,c<r.kc->kind c=ch (c*3)/\K.fr c=ch (c*3+1)/\0<=K.fr c/\K.fr c<k.nC)
  (Pm:Sl w ip (il*2) (fun j=>.int .i64 (zi j)))(hiK:il=0\/∀b o,ip=yi ⟨b,o,Ai⟩->b≠r.Kb)(rU:il<=4)(hnD:nD<=1000)(hnT:1<=nT)(Me0:nT<=1000)(Dy:fr<=100000000000)(hnW:nW<=1000)(TJ:∀j,j<nW->(wn j).1<k.nC/\(wn j).2<=200)(hnC:k.nC<=1000)(hm:∀i,s.m i+nW*201+300<=1000000000)(yQ:∀i,i<k.nC->TC i kind K.fr nD (k.n i) (k.ci i)):
  Calls prog 44 #[.pointer (yi ⟨r.Kb,0,Ai⟩),.slice ip il ic] w fun e w'=>e=.returned (.int .i64 0)/\B70 w vs Ls w' k K r kind (ju k K wn nW ((List.range il).map fun j=>(zi (j*2),zi (j*2+1))) s) ((fr:Int)+1) (JF zi nD il) (kf8 (.slice (yi ⟨r.bo,r.oo,Ai⟩) k.nC r.cq) (.slice (yi ⟨tb,RD,Ai⟩) nT cT) (.slice qc r.kc cc) (.slice q3 nD c3) (.slice (yi ⟨r.Gc,0,Ai⟩) k.nC k.nC) (.slice (yi ⟨r.Lb,0,Ai⟩) r.kc r.kc) (.int .i64 ((fr:Int)+1))):=by
 go_enter func44,ntmps44
 go_upto_region 3 with fail
 refine Code.wp_mono (fun e a' w' h=>?_) (A60 (ip:=ip) (il:=il) (ic:=ic) hK ⟨rfl,rfl,rfl⟩ rfl);obtain⟨rfl,⟨y1,y2,y3,z1⟩,rfl⟩:=h;refine ‹∀(a:Act)(w:ui),Code.wp _ _ _ a w->_› _ _ ?_;have z0:At0 a' _:=⟨y1,y2,y3⟩;have hB7:ak (fun j=>j=r.Kb) w (w.setCell ⟨r.Kb,7,Ai⟩ (.slice Ai 0 0)):=vj (ak.refl _ _) _ _;have hK7:=(Ei.r90 hK (.slice Ai 0 0)).2;have dj0:Sl (w.setCell ⟨r.Kb,7,Ai⟩ (.slice Ai 0 0)) ip (il*2) (fun j=>.int .i64 (zi j)):=by
  rcases Pm with e|⟨b,o,e,hc⟩
  ·exact .inl e
  ·rcases hiK with e0|hiK
   ·exact .inl E0
   ·exact .inr ⟨b,o,e,fun j hj=>(World.cell?_of_block (heap_setCell_other _ _ _ _ (hiK b o e))).trans (hc j hj)⟩
 generalize w.setCell ⟨r.Kb,7,Ai⟩ (.slice Ai 0 0)=w7 at *;refine wp_seq (Code.wp_mono (fun e a' w8 h=>?_) (jd0 hK7 dj0 hiK rU hnD z0 z1));obtain⟨rfl,z0,inV,hI⟩:=h;refine(?_:Code.wp _ _ _ a' w8);have hB8:=hB7.trans hI.but (fun _ x=>x) (fun _ _ x=>x);have hK8:=hI.row;have kn8:=dF.kb ha hB8 ((hK8.cell (j:=0) E0).trans (hK.cell (j:=0) E0).symm) ((hK8.cell (j:=4) E0).trans (hK.cell (j:=4) E0).symm) hK;have Oi0:=JC.kb hB8 hK ((hK8.cell (j:=5) E0).trans (hK.cell (j:=5) E0).symm) (hK8.cell (j:=6) E0) (hK8.cell (j:=7) E0) hI.own (by have:=oV zi nD il;omega);refine wp_seq (Code.wp_mono (fun e a' w9 h=>?_) (M90 hK8 ((World.cell?_of_block (hB8.block tb st.lt htK)).trans Nk) hnT Me0 E0 z0));obtain⟨rfl,⟨y1,y2,y3,z1⟩,d9,rfl⟩:=h;refine(?_:Code.wp _ _ _ a' _);have z0:At0 a' _:=⟨y1,y2,y3⟩;have hF9:BQ (w8.at d9) vs Ls k K r kind s vs (fun _=>.slice Ai 0 0) (fun _=>[]) Ls fr inV (JF zi nD il) 0 (w8.at d9):=⟨kn8.at d9,Oi0.at d9,hrel,TQ,ak.refl _ _,fun _ _ _ x=>.inl x,fun _ _ _ x=>(by cases x),fun _ _ _ x=>.inl x,fun _ _=>Nat.le_refl _⟩;have hB9:ak (fun j=>j=r.Kb) w (w8.at d9):=⟨hB8.os,hB8.tape,hB8.output,hB8.size,hB8.block⟩;have hK9:Ei (w8.at d9) r.Kb 8 126 (kf8 (.slice (yi ⟨r.bo,r.oo,Ai⟩) k.nC r.cq) (.slice (yi ⟨tb,RD,Ai⟩) nT cT) (.slice qc r.kc cc) (.slice q3 nD c3) (.slice (yi ⟨r.Gc,0,Ai⟩) k.nC k.nC) (.slice (yi ⟨r.Lb,0,Ai⟩) r.kc r.kc) (.int .i64 fr) inV):=hK8;have kj0:∀b,inV.ownBlock=yi b->w.heap.size<=b:=fun b hb=>Nat.le_trans hB7.size (hI.blk b hb);generalize w8.at d9=w9 at *;have rj:∀i b,i<k.nC->(vs i).ownBlock=yi b->r.hi<=b:=fun i b hi hb=>dF.oh i b hi hb;refine wp_seq (Code.wp_mono (fun e a2 wW h=>?_) (e50 (ins:=((List.range il).map fun j=>(zi (j*2),zi (j*2+1)))) (nD:=nD) hF9 hS XD rj (sW.to hB9.size) (fun j hj=>(World.cell?_of_block (hB9.block Iq sW.lt hwK)).trans (c0 j hj)) (fun j hj=>(World.cell?_of_block (hB9.block Iq sW.lt hwK)).trans (c1 j hj)) hnW TJ hm E0 yQ (fun N h0 h1=>OY zi nD il N h0 h1) (fun c hc=>(hkf c hc).2.2.1) E0 z0 z1));obtain⟨rfl,z0,vsW,tsW,nlW,LsW,dW,AQ,hSW,hdW⟩:=h;refine(?_:Code.wp _ _ _ a2 _);have hsK:=hF9.kn.sK;have hKW:=hK9.of_heap (AQ.stat hsK rj);refine wp_seq (Code.wp_mono (fun e a3 wX h=>?_) (V50 hKW E0 z0));obtain⟨rfl,z0,rfl⟩:=h;refine(?_:Code.wp _ _ _ a3 _);have hBX:ak (fun j=>j=r.Kb) wW (wW.setCell ⟨r.Kb,6,Ai⟩ (.int .i64 ((fr:Int)+1))):=vj (ak.refl _ _) _ _;have hKX:=(Ei.r90 hKW (.int .i64 ((fr:Int)+1))).1;have knX:=AQ.kn.kb ha hBX ((hKX.cell (j:=0) E0).trans (hKW.cell (j:=0) E0).symm) ((hKX.cell (j:=4) E0).trans (hKW.cell (j:=4) E0).symm) hKW;have oP:=AQ.net.kb (F':=(fr:Int)+1) hBX hKW ((hKX.cell (j:=5) E0).trans (hKW.cell (j:=5) E0).symm) (hKX.cell (j:=6) E0) (hKX.cell (j:=7) E0) (Rk AQ.net.ino fun b hb=>hBX.block b (Io AQ.net.ino hb) (fun e=>xj AQ.net.ino hKW U0 D4)) AQ.net.lo.2.2.2.2;have nd0:∀b,Hm r w b->b≠r.Kb->(wW.setCell ⟨r.Kb,6,Ai⟩ (.int .i64 ((fr:Int)+1))).heap[b]?=w.heap[b]?:=fun b hs Jj=>(heap_setCell_other _ _ _ _ Jj).trans ((AQ.stat (hs.to hB9.size) rj).trans (hB9.block b hs.lt Jj));generalize wW.setCell ⟨r.Kb,6,Ai⟩ (.int .i64 ((fr:Int)+1))=wX at *;have hLS:LnS wX r LsW (Nx (Eo k K ((List.range il).map fun j=>(zi (j*2),zi (j*2+1))) wn nW 0 s) vsW tsW) nlW ch (fun c=>(K.fr c).toNat) qc cc k.nC ((fr:Int)+1):=⟨hKX.cell (j:=2) E0,hKX.cell (j:=4) E0,hKX.cell (j:=5) E0,hKX.cell (j:=6) E0,x00 yB fun b o e=>nd0 b (hqs b o e).1 (hqs b o e).2,fun b o e=>⟨(hqs b o e).1.2.1.2,fun c hc=>(hqs b o e).1.ot (fun b=>oP.oh c b hc)⟩,⟨knX.sK.2.1.2,fun c hc=>knX.sK.ot (fun b=>oP.oh c b hc)⟩,knX.row,⟨ak.refl _ _,oP.row,oP.own,oP.Un,fun _ _ _ x=>.inl x⟩,oP.yD,fun c hc=>by
  obtain⟨-,e1,e2,e3⟩:=hkf c hc;exact⟨by rw[<-e1];show _=((K.fr c).toNat:Int);omega,E0⟩,⟨oP.lo.2.2.2.1,hnC,fun i hi=>by have:=AQ.dl i hi;omega⟩⟩
 refine wp_seq (Code.wp_mono (fun e a4 wY h=>?_) (n00 hLS z0));obtain⟨rfl,z0,L,hL,ae0⟩:=h;refine(?_:Code.wp _ _ _ a4 _);obtain⟨knY,Rj0⟩:=knX.lines oP hL;have hKY:=hKX.of_heap (hLS.K hL);have oj0:=WR AQ.rel E0 (fun c hc=>by rw[(hkf c hc).1];exact ae0 c hc);refine wp_seq (Code.wp_mono (fun e a5 wZ h=>?_) (U20 knY.h4 knY.row knY.sK.2.1.1 hnC z0));obtain⟨rfl,z0,hrZ,hbZ⟩:=h;refine(?_:Code.wp _ _ _ a5 _);rw[Pz a5 z0.1 z0.2.1];obtain⟨knZ,Ah0⟩:=knY.cleared Rj0 hbZ hrZ;have hKZ:=hKY.of_heap (hbZ.block _ hKY.lt knY.sK.2.1.1);have eQ:∀i,i<k.nC->Nx (ju k K wn nW ((List.range il).map fun j=>(zi (j*2),zi (j*2+1))) s) vsW (fun _=>.slice Ai 0 0) i=lx (Nx (Eo k K ((List.range il).map fun j=>(zi (j*2),zi (j*2+1))) wn nW 0 s) vsW tsW) k.nC i:=fun i hi=>by
  unfold lx;rw[if_pos hi];rfl
 have eD:(ju k K wn nW ((List.range il).map fun j=>(zi (j*2),zi (j*2+1))) s).D=VD r.kc (Eo k K ((List.range il).map fun j=>(zi (j*2),zi (j*2+1))) wn nW 0 s).D:=by
  show VD K.k _=_;rw[hkK]
 have lh0:Ro r.kc (ju k K wn nW ((List.range il).map fun j=>(zi (j*2),zi (j*2+1))) s).D:=by
  rw[eD];exact fun i hi=>(nP AQ.wt i hi).2
 have hBE:ak (fun j=>(j=r.Kb\/j=r.Gc\/j=r.Lb)\/(∃i,i<k.nC/\(vs i).ownBlock=yi j)\/∃c,c<r.kc/\(Ls c).wv.ownBlock=yi j) w wZ:=by
  refine(((hB9.trans AQ.but (fun _ x=>.inl (.inl x)) (fun j hj x=>?_)).trans hBX (fun _ x=>x) (fun j hj x=>.inl (.inl x))).trans hL.but (fun _ x=>x) (fun j hj x=>?_)).trans hbZ (fun _ x=>x) (fun j hj x=>.inl (.inr (.inl x)))
  ·rcases x with (x|x)|x
   ·exact .inl (.inr (.inl x))
   ·exact .inl (.inr (.inr x))
   ·exact .inr (.inl x)
  ·rcases x with x|⟨c,hc,x⟩
   ·exact .inl (.inr (.inr x))
   ·rcases AQ.B50 c j hc x with x|x
    ·exact .inr (.inr ⟨c,hc,x⟩)
    ·have:=hB9.size;omega
 have hwX:=Nat.le_trans hB9.size (Nat.le_trans AQ.but.size hBX.size);have hDN:B70 w vs Ls wZ k K r kind (ju k K wn nW ((List.range il).map fun j=>(zi (j*2),zi (j*2+1))) s) ((fr:Int)+1) (JF zi nD il) (kf8 (.slice (yi ⟨r.bo,r.oo,Ai⟩) k.nC r.cq) (.slice (yi ⟨tb,RD,Ai⟩) nT cT) (.slice qc r.kc cc) (.slice q3 nD c3) (.slice (yi ⟨r.Gc,0,Ai⟩) k.nC k.nC) (.slice (yi ⟨r.Lb,0,Ai⟩) r.kc r.kc) (.int .i64 ((fr:Int)+1))):=⟨vsW,L,inV,knZ.F90 eQ,Ah0.F90 eQ,by rw[eD];exact oj0,lh0,hSW,hKZ,hBE,fun i b hi hb=>(AQ.blk i b hi hb).imp id (Nat.le_trans hB9.size),fun c b hc hb=>by
  rcases hL.blk c b hc hb with x|x
  ·exact(AQ.B50 c b hc x).imp id (Nat.le_trans hB9.size)
  ·exact .inr (Nat.le_trans hwX x),kj0⟩
 go_wp2_with fail
 go_ret;exact⟨rfl,hDN⟩
end
def vy(c:vl)(k i:Nat):RC:=if i<k then ⟨qt (c.lim i) (c.Vj i) (c.img i),0,.slice Ai 0 0,gi,.slice Ai 0 0⟩else ⟨fun _=>0,0,.slice Ai 0 0,gi,.slice Ai 0 0⟩
theorem yK(c:vl)(k:Nat)(h16:c.Vj k<=16)(j:Nat):Sj (fj (vy c k) k {vy c k k with z:=Dw (c.Vj k) (c.img k) (vy c k k).z,nt:=.slice Ai 0 0}) j=Sj (vy c (k+1)) j:=by
 unfold Sj;by_cases e:j/26=k
 ·rw[e,Oi];have e1:vy c k k=⟨fun _=>0,0,.slice Ai 0 0,gi,.slice Ai 0 0⟩:=if_neg (Nat.lt_irrefl _);have e2:vy c (k+1) k=⟨qt (c.lim k) (c.Vj k) (c.img k),0,.slice Ai 0 0,gi,.slice Ai 0 0⟩:=if_pos (Nat.lt_succ_self _);rw[e1,e2];refine Ov (c:=⟨fun _=>0,0,.slice Ai 0 0,gi,.slice Ai 0 0⟩) (fun i hi=>?_) _;unfold Dw qt;by_cases h:25<=i/\i<46
  ·rw[if_pos h];by_cases h2:29<=i/\i<29+c.Vj k
   ·rw[if_pos h2,if_neg (show ¬i=3 by omega),if_neg E0]
   ·rw[if_neg h2,if_neg (show ¬i=3 by omega),if_neg E0]
  ·rw[if_neg h,if_neg E0,if_neg E0,if_neg E0]
 ·rw[cj _ _ e];have:vy c k (j/26)=vy c (k+1) (j/26):=by
   unfold vy;by_cases h:j/26<k
   ·rw[if_pos h,if_pos E0]
   ·rw[if_neg h,if_neg E0]
  rw[this]
theorem T20(A:ui)(t:Nat)(a b c d e f g h:ti)(G:Nat)(hG:A.heap.size=G):Ei (A.alloc (.cells #[a,b,c,d,e,f,g,h] t)).drew G 8 t (kf8 a b c d e f g h):=by
 subst hG;exact Ei.new A #[a,b,c,d,e,f,g,h] t _ (fun j hj=>by
  have:j=0\/j=1\/j=2\/j=3\/j=4\/j=5\/j=6\/j=7:=by simp at hj;omega
  rcases this with rfl|rfl|rfl|rfl|rfl|rfl|rfl|rfl<;>rfl)
def kF:Ln:=⟨.slice Ai 0 0,[],0,gi,0,0⟩
theorem GN(j:Nat):(Value.agg #[.slice Ai 0 0,.int .i64 0,.bool gi,.int .i64 0,.int .i64 0]).cells[j%(Value.agg #[.slice Ai 0 0,.int .i64 0,.bool gi,.int .i64 0,.int .i64 0]).cells.size]! = Jm (fun _=>kF) j:=by
 show (#[Value.slice Ai 0 0,.int .i64 0,.bool gi,.int .i64 0,.int .i64 0]:Array ti)[j%5]! = uv kF (j%5);have h:j%5<5:=Nat.mod_lt _ E0;generalize j%5=i at h;have:i=0\/i=1\/i=2\/i=3\/i=4:=E0;rcases this with rfl|rfl|rfl|rfl|rfl<;>rfl
def w00(c:vl)(w:ui)(o0 o1 o2 o3:ti)(kb Gc L:Nat)(w':ui):Prop:=
 w.heap.size<=kb/\w.heap.size<=Gc/\kb≠Gc/\Ei w' kb 8 126 (kf8 o0 o1 o2 o3 (.slice (yi ⟨Gc,0,Ai⟩) c.nC c.nC) (.slice (yi ⟨L,0,Ai⟩) c.qj c.qj) (.int .i64 0) (.slice Ai 0 0))/\Ei w' Gc (c.nC*26) 131 (Sj (vy c c.nC))/\w.heap.size<=L/\L≠Gc/\L≠kb/\Ei w' L (c.qj*5) 175 (Jm fun _=>kF)
theorem bL(c:vl)(j:Nat):(Value.agg #[.int .i64 0,.int .i64 0,.int .i64 0,.int .i64 0,.int .i64 0,.int .i64 0,.int .i64 0,.int .i64 0,.int .i64 0,.int .i64 0,.int .i64 0,.int .i64 0,.int .i64 0,.int .i64 0,.int .i64 0,.int .i64 0,.int .i64 0,.int .i64 0,.int .i64 0,.int .i64 0,.int .i64 0,.slice Ai 0 0,.slice Ai 0 0,.int .i64 0,.int .i64 0,.bool gi]).cells[j%(Value.agg #[.int .i64 0,.int .i64 0,.int .i64 0,.int .i64 0,.int .i64 0,.int .i64 0,.int .i64 0,.int .i64 0,.int .i64 0,.int .i64 0,.int .i64 0,.int .i64 0,.int .i64 0,.int .i64 0,.int .i64 0,.int .i64 0,.int .i64 0,.int .i64 0,.int .i64 0,.int .i64 0,.int .i64 0,.slice Ai 0 0,.slice Ai 0 0,.int .i64 0,.int .i64 0,.bool gi]).cells.size]! = Sj (vy c 0) j:=by
 have e1:vy c 0 (j/26)=⟨fun _=>0,0,.slice Ai 0 0,gi,.slice Ai 0 0⟩:=if_neg (Nat.not_lt_zero _);unfold Sj;rw[e1];show (#[Value.int .i64 0,.int .i64 0,.int .i64 0,.int .i64 0,.int .i64 0,.int .i64 0,.int .i64 0,.int .i64 0,.int .i64 0,.int .i64 0,.int .i64 0,.int .i64 0,.int .i64 0,.int .i64 0,.int .i64 0,.int .i64 0,.int .i64 0,.int .i64 0,.int .i64 0,.int .i64 0,.int .i64 0,.slice Ai 0 0,.slice Ai 0 0,.int .i64 0,.int .i64 0,.bool gi]:Array ti)[j%26]! = _;have h:j%26<26:=Nat.mod_lt _ E0;generalize j%26=i at h;have:i=0\/i=1\/i=2\/i=3\/i=4\/i=5\/i=6\/i=7\/i=8\/i=9\/i=10\/i=11\/i=12\/i=13\/i=14\/i=15\/i=16\/i=17\/i=18\/i=19\/i=20\/i=21\/i=22\/i=23\/i=24\/i=25:=E0;rcases this with rfl|rfl|rfl|rfl|rfl|rfl|rfl|rfl|rfl|rfl|rfl|rfl|rfl|rfl|rfl|rfl|rfl|rfl|rfl|rfl|rfl|rfl|rfl|rfl|rfl|rfl<;>rfl
theorem XK(c:vl)(o0 o1 o2 o3:ti)(B:Nat)(w:ui)(hl:vu w c B o0 o1 o2 o3)(h16:∀i,i<c.nC->c.Vj i<=16)(h6:c.nC<=6)(h8:c.qj<=8)(rN:1<=c.nC)(Bn:c.Jt=ji->c.qj=0)(AH:c.Ws=ji->c.nD=0)(hzi:∀i,i<c.nC->c.Yl i=ji->c.Vj i=0):
  Calls prog 42 #[.agg #[o0,o1,o2,o3]] w fun e w'=>∃kb Gc L,e=.returned (.pointer (yi ⟨kb,0,Ai⟩))/\Below w.heap.size w w'/\w00 c w o0 o1 o2 o3 kb Gc L w':=by
 obtain⟨cb,rb,yo,Zu,q0,xB,q1,rI,hi,Ny,rfl,lq0,zq0,sN,rfl,lq1,zq1,sq1,rfl,rfl,Pm,JK,hB2,Nk,QH,yB,hdv,hh1,y_,hh3⟩:=hl.ex;obtain⟨q2,w_,e2⟩:∃q cc,zj c.Jt yo c.qj=.slice q c.qj cc:=Tq _ _ _ Bn;obtain⟨q3,A_,e3⟩:∃q cc,zj c.Ws Zu c.nD=.slice q c.nD cc:=Tq _ _ _ AH;obtain⟨bo,oo,rfl,hq⟩:=sN.at E0;obtain⟨M1,hM1,hMC,hm1⟩:=rK (P:=prog) 123 131 _ 26 240 c.nC underlying123 QT E0 E0;obtain⟨M2,hM2,hML,hm2⟩:=rK (P:=prog) 124 175 _ 5 56 c.qj underlying124 KT E0 E0;rw[e2,e3];have HQ:=Gl hq;have HI:=Gl Pm;have H16:=Gl h16;have HM1:=Gl hM1;have HMC:Hid (∀j,j<c.nC*26->M1[j]?=yi (Sj (vy c 0) j)):=fun j hj=>by rw[hMC j hj];exact congrArg yi (bL c j)
 have HM2:=Gl hM2;have HML:Hid (∀j,j<c.qj*5->M2[j]?=yi ((Jm fun _=>kF) j)):=fun j hj=>by rw[hML j hj];exact congrArg yi (GN j)
 have HZI:=Gl hzi;have hbo:bo<w.heap.size:=by
  have:=block_lt_of_cell (hq 0 E0);exact nh
 go_enter func42,ntmps42
 go_wp2_with fail
 go_region_held3 (fun W=>W.cell? ⟨w.heap.size,0,Ai⟩=yi (.slice (yi ⟨bo,oo,Ai⟩) c.nC xB)/\W.cell? ⟨w.heap.size,1,Ai⟩=yi (.slice q1 c.nT rI)/\W.cell? ⟨w.heap.size,2,Ai⟩=yi (.slice q2 c.qj w_)/\W.cell? ⟨w.heap.size,3,Ai⟩=yi (.slice q3 c.nD A_)) (go_keep) (fail)
 ·go_wp2_with fail
  go_loopw [4] (fun i wr=>∃k:Nat,k<=c.nC/\i=.int .i64 k/\Hid (Below w.heap.size w wr)/\Hid (wr.cell? ⟨w.heap.size,0,Ai⟩=yi (.slice (yi ⟨bo,oo,Ai⟩) c.nC xB))/\Hid (Ei wr (w.heap.size+1+1+1) 8 126 (kf8 (.slice (yi ⟨bo,oo,Ai⟩) c.nC xB) (.slice q1 c.nT rI) (.slice q2 c.qj w_) (.slice q3 c.nD A_) (.slice (yi ⟨w.heap.size+1,0,Ai⟩) c.nC c.nC) (.slice (yi ⟨w.heap.size+1+1,0,Ai⟩) c.qj c.qj) (.int .i64 0) (.slice Ai 0 0)))/\Hid (Ei wr (w.heap.size+1) (c.nC*26) 131 (Sj (vy c k)))/\Hid (Ei wr (w.heap.size+1+1) (c.qj*5) 175 (Jm fun _=>kF))) (fun i _=>c.nC-(intOf i).toNat)
  case atStart=>
   refine⟨0,Nat.zero_le _,rfl,?_,?_,?_,?_,?_⟩
   ·exact pg
   ·show _=_;simp[go_sem]
   ·exact T20 _ _ _ _ _ _ _ _ _ _ _ P0
   ·exact((c50 (A:=w.alloc _) P0 HM1.out HMC.out).alloc _).alloc _
   ·exact(c50 (A:=(w.alloc _).alloc _) P0 HM2.out HML.out).alloc _
  case round=>
   obtain⟨k,hk,rfl,HB,X0,HKb,HR,HL⟩:=hrel;have x0:=X0.out;by_cases Wi:k<c.nC
   ·have c1:=(HB.out.cell (p:=⟨bo,oo+(k*3+1),Ai⟩) hbo).trans (HQ.out (k*3+1) E0);obtain⟨-,ef,-⟩:=Kq c cb k;rw[ef,<-Nat.add_assoc]at c1;obtain⟨qi,ci,e1,hsl,hqb⟩:∃qi ci,zj (c.Yl k) (cb k+1) (c.Vj k)=.slice qi (c.Vj k) ci/\Sl wr qi (c.Vj k) (fun j=>.int .i64 (c.img k j))/\∀b o,qi=yi ⟨b,o,Ai⟩->b<w.heap.size:=AG (HI.out.img k Wi) HB.out (HZI.out k Wi);rw[e1]at c1;go_wp2_with fail;refine(Jy (w.heap.size+1+1+1) (w.heap.size+1) k c.nC xB bo oo (c.Vj k) ci 131 qi (c.img k) (vy c k) _ (HKb.out.cell (j:=0) E0) (HKb.out.cell (j:=4) E0) c1 hsl HR.out Wi (H16.out k Wi) E0 E0 (fun b o h=>by have:=hqb b o h;omega)).mono ?_;exact U9
   ·obtain rfl:k=c.nC:=by omega
    go_wp2_with fail
    go_ret;exact⟨w.heap.size+1+1+1,w.heap.size+1,w.heap.size+1+1,rfl,HB.out,E0,E0,E0,HKb.out,HR.out,E0,E0,E0,HL.out⟩
 ·go_wp2_with fail
  go_loopw [4] (fun i wr=>∃k:Nat,k<=c.nC/\i=.int .i64 k/\Hid (Below w.heap.size w wr)/\Hid (wr.cell? ⟨w.heap.size,0,Ai⟩=yi (.slice (yi ⟨bo,oo,Ai⟩) c.nC xB))/\Hid (Ei wr (w.heap.size+1+1+1) 8 126 (kf8 (.slice (yi ⟨bo,oo,Ai⟩) c.nC xB) (.slice q1 c.nT rI) (.slice q2 c.qj w_) (.slice q3 c.nD A_) (.slice (yi ⟨w.heap.size+1+1,0,Ai⟩) c.nC c.nC) (.slice (yi ⟨w.heap.size+1,0,Ai⟩) c.qj c.qj) (.int .i64 0) (.slice Ai 0 0)))/\Hid (Ei wr (w.heap.size+1+1) (c.nC*26) 131 (Sj (vy c k)))/\Hid (Ei wr (w.heap.size+1) (c.qj*5) 175 (Jm fun _=>kF))) (fun i _=>c.nC-(intOf i).toNat)
  case atStart=>
   refine⟨0,Nat.zero_le _,rfl,?_,?_,?_,?_,?_⟩
   ·exact pg
   ·show _=_;simp[go_sem]
   ·exact T20 _ _ _ _ _ _ _ _ _ _ _ P0
   ·exact(c50 (A:=(w.alloc _).alloc _) P0 HM1.out HMC.out).alloc _
   ·exact((c50 (A:=w.alloc _) P0 HM2.out HML.out).alloc _).alloc _
  case round=>
   obtain⟨k,hk,rfl,HB,X0,HKb,HR,HL⟩:=hrel;have x0:=X0.out;by_cases Wi:k<c.nC
   ·have c1:=(HB.out.cell (p:=⟨bo,oo+(k*3+1),Ai⟩) hbo).trans (HQ.out (k*3+1) E0);obtain⟨-,ef,-⟩:=Kq c cb k;rw[ef,<-Nat.add_assoc]at c1;obtain⟨qi,ci,e1,hsl,hqb⟩:∃qi ci,zj (c.Yl k) (cb k+1) (c.Vj k)=.slice qi (c.Vj k) ci/\Sl wr qi (c.Vj k) (fun j=>.int .i64 (c.img k j))/\∀b o,qi=yi ⟨b,o,Ai⟩->b<w.heap.size:=AG (HI.out.img k Wi) HB.out (HZI.out k Wi);rw[e1]at c1;go_wp2_with fail;refine(Jy (w.heap.size+1+1+1) (w.heap.size+1+1) k c.nC xB bo oo (c.Vj k) ci 131 qi (c.img k) (vy c k) _ (HKb.out.cell (j:=0) E0) (HKb.out.cell (j:=4) E0) c1 hsl HR.out Wi (H16.out k Wi) E0 E0 (fun b o h=>by have:=hqb b o h;omega)).mono ?_;exact U9
   ·obtain rfl:k=c.nC:=by omega
    go_wp2_with fail
    go_ret;exact⟨w.heap.size+1+1+1,w.heap.size+1+1,w.heap.size+1,rfl,HB.out,E0,E0,E0,HKb.out,HR.out,E0,E0,E0,HL.out⟩
end Go.Proofs.YtdoghgnifkgfdaaGreat.Mute
