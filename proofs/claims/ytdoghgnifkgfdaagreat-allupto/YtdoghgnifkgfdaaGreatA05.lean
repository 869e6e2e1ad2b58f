import Derived.Test.YtdoghgnifkgfdaaGreatA04
set_option maxRecDepth 100000
set_option maxHeartbeats 16000000
open Option renaming none->Hn,some->Gn
open Go renaming World->En,Value->Dn,heap_setCell_other->yn,Calls->Zm,Program->Ym,block_lt_of_cell->Wm,Addr->Vm
open Bool renaming true->Um,false->Tm
open Go.RowKit renaming Below->Sm
open Nat renaming le_trans->Qm,zero_le->Pm,le_refl->Om,lt_of_lt_of_le->Lm,add_assoc->Jm
open List renaming range->Hm
namespace Go.Proofs.YtdoghgnifkgfdaaGreat
open Tryz Go.RowKit
theorem TA:(prog.info? 53).map (fun i=>(i.zero,i.size,i.bytes))=Gn (Gn (.agg #[.slice Hn 0 0,.slice Hn 0 0,.int .i64 0]),3,56):=J0
theorem jI:(prog.info? 100).map (fun i=>(i.zero,i.size,i.bytes))=Gn (Gn (.slice Hn 0 0),1,24):=J0
def Iu(c:Ur)(w:En)(a0 a1 a2 a3:Dn)(k:Nat)(wr:En):Prop:=
 ∃cb v,Sm w.heap.size w wr/\w.heap.size+3<=wr.heap.size/\Tn wr w.heap.size 4 28 (cells4 a0 a1 a2 a3)/\
  Tn wr (w.heap.size+1) 4 28 (cells4 (.slice Hn 0 0) (.slice Hn 0 0) (.slice Hn 0 0) (.slice Hn 0 0))/\
  Tn wr (w.heap.size+1+1) 4 28 (cells4 v (.slice Hn 0 0) (.slice Hn 0 0) (.slice Hn 0 0))/\
  Sr wr c k (w.heap.size+3) wr.heap.size cb/\wr.ownsRow (w.heap.size+3) 53 3 v k (Iy c cb k)/\∀g,v.ownBlock=Gn g->∀i,i<k->g≠cb i/\g≠cb i+1
theorem uZ{w:En}{base e size n:Nat}{v:Dn}{xs:List Dn}(h:w.ownsRow base e size v n xs){j:Nat}(hj:j<base):Gn j≠v.ownBlock:=fun e=>by
 have:=(h.lt j e.symm).1;omega
theorem xo{w w':En}{base e size n:Nat}{v:Dn}{xs:List Dn}(h:w.ownsRow base e size v n xs)(hb:Sm w.heap.size w w'):w'.ownsRow base e size v n xs:=
 h.kept (row:=Hn) ⟨hb.os,hb.tape,hb.output,hb.size,fun k hk _=>hb.block k hk⟩ (by cases v.ownBlock<;>simp)
theorem alloc_at{A:En}{o:Obj}{B:Nat}(h:A.heap.size=B):(A.alloc o).heap[B]?=Gn o:=by subst h;exact heap_alloc_new A o
theorem Br{P:Ym}{w:En}{ops:Array Oper}{o:Oper}{a:Act}{K:Act->En->Prop}{Q:Exit->Act->En->Prop}{E:Prop}(lS:o.guard=Hn)(s x:Operand)(t:TypeId)
  (ho:o.op=.call {callee:=.builtin .append,args:=#[s,x],argTypes:=#[t,t]})
  (base:Nat)(e:TypeId)(z:Dn)(size bytes:Nat)(ht:P.underlying t=Gn (.slice e))(Ny:(P.info? e).map (fun i=>(i.zero,i.size,i.bytes))=Gn (Gn z,size,bytes))
  (hzs:z.cells.size=size)(ju:0<size)(v:Dn)(n:Nat)(xs:List Dn)(hs:a.eval s=v)(Io:w.ownsRow base e size v n xs)
  (B:Nat)(Wv:List Dn)(ty:TypeId)(hx:a.eval x=.slice (Gn ⟨B,0,Hn⟩) 1 1)(hl:Wv.length=size)(Ir:w.heap[B]?=Gn (.cells Wv.toArray ty (0,0)))(h1:∀u∈Wv,u.oneCell'=Um)
  (Q_:n+1<=maxLen)(dA:(n+1)*bytes<=140737488355328)(ZD:base<=w.heap.size)
  (h:∀g cap w',w'.ownsRow base e size (.slice (Gn ⟨g,0,Hn⟩) (n+1) cap) (n+1) (xs++Wv)->w.grownBy w' v.ownBlock->(v.ownBlock=Gn g\/g=w.heap.size)->g<w'.heap.size->K (a.put o.dst (.slice (Gn ⟨g,0,Hn⟩) (n+1) cap)) w'):
  if Region.wanted o (yielded ops a.tmps)=Um then Oper.wp P o a w K Q else E:=by
 obtain⟨i,h2,h3,h4,h5⟩:=info_parts Ny;exact step_append_lies w lS s x t ho base e i z size bytes ht h2 h3 h4 h5 hzs ju v n xs hs Io ⟨B,0,Hn⟩ 1 1 Wv hx (by rw[hl,Nat.one_mul]) (by
  have:=World.news_of_block Ir;simpa using this) h1 E0 Q_ dA ZD _ rfl h
theorem Iu.mid{c:Ur}{w wr W w1:En}{k:Nat}{cb:Nat->Nat}{v:Dn}{B t:Nat}{f:Nat->Dn}(ho:wr.ownsRow (w.heap.size+3) 53 3 v k (Iy c cb k))(hW:Sm wr.heap.size wr W)
  (hg:W.grownBy w1 v.ownBlock)(hr:Tn wr B 4 t f)(hB:B<w.heap.size+3):Tn w1 B 4 t f:=
 (hr.of_heap (hW.block B hr.lt)).of_heap (hg.block B (Lm hr.lt hW.size) (uZ ho hB))
theorem Iu.step{c:Ur}{w wr W w1:En}{a0 a1 a2 a3:Dn}{k b g cap:Nat}{cb:Nat->Nat}{v:Dn}
  (hB:Sm w.heap.size w wr)(ju:w.heap.size+3<=wr.heap.size)(r0:Tn wr w.heap.size 4 28 (cells4 a0 a1 a2 a3))
  (r1:Tn wr (w.heap.size+1) 4 28 (cells4 (.slice Hn 0 0) (.slice Hn 0 0) (.slice Hn 0 0) (.slice Hn 0 0)))(r2:Tn wr (w.heap.size+1+1) 4 28 (cells4 v (.slice Hn 0 0) (.slice Hn 0 0) (.slice Hn 0 0)))
  (hi:Sr wr c k (w.heap.size+3) wr.heap.size cb)(ho:wr.ownsRow (w.heap.size+3) 53 3 v k (Iy c cb k))(hp:∀g,v.ownBlock=Gn g->∀i,i<k->g≠cb i/\g≠cb i+1)
  (hW:Sm wr.heap.size wr W)(hb:wr.heap.size<=b)(Vx:b+2<=W.heap.size)(i1:xC W (c.Jt k) b (c.Ho k) 4 (c.code k))(i2:xC W (c.Vt k) (b+1) (c.Hq k) 1 (c.img k))
  (kO:w1.ownsRow (w.heap.size+3) 53 3 (.slice (Gn ⟨g,0,Hn⟩) (k+1:Nat) cap) (k+1) (Iy c cb k++[Gp (c.Jt k) b (c.Ho k),Gp (c.Vt k) (b+1) (c.Hq k),.int .i64 (c.lim k)]))
  (hg:W.grownBy w1 v.ownBlock)(jr:v.ownBlock=Gn g\/g=W.heap.size):
  Iu c w a0 a1 a2 a3 (k+1) (w1.setCell ⟨w.heap.size+1+1,0,Hn⟩ (.slice (Gn ⟨g,0,Hn⟩) (k+1:Nat) cap)):=by
 have mq0:=hW.size;have dp0:=hg.size;have yo:∀j,v.ownBlock=Gn j->w.heap.size+3<=j/\j<wr.heap.size:=ho.lt;have jQ:Sm w.heap.size w w1:=(hB.trans (hW.mono E0)).grown hg E0 (fun j hj=>by have:=yo j hj;omega);have hnb:∀j,wr.heap.size<=j->Gn j≠v.ownBlock:=fun j hj e=>by have:=yo j e.symm;omega
 have e0:(w1.setCell ⟨w.heap.size+1+1,0,Hn⟩ (.slice (Gn ⟨g,0,Hn⟩) (k+1:Nat) cap)).heap.size=w1.heap.size:=size_setCell _ _ _;have wV:∀j,w.heap.size+3<=j->(w1.setCell ⟨w.heap.size+1+1,0,Hn⟩ (.slice (Gn ⟨g,0,Hn⟩) (k+1:Nat) cap)).heap[j]?=w1.heap[j]?:=fun j hj=>yn _ _ _ _ A1;refine⟨gx cb k b,.slice (Gn ⟨g,0,Hn⟩) (k+1:Nat) cap,jQ.setCell A1 _,by rw[e0];omega,?_,?_,?_,?_,?_,?_⟩
 ·exact(Iu.mid ho hW hg r0 E0).other _ _ A1
 ·exact(Iu.mid ho hW hg r1 E0).other _ _ P0
 ·exact((Iu.mid ho hW hg r2 E0).AB _).1
 ·rw[e0];have hiW:Sr w1 c k (w.heap.size+3) wr.heap.size cb:=hi.keep N8 (fun i xy=>by
   have h1:=hi.lo i xy;have Yp:∀j,(j=cb i\/j=cb i+1)->w1.heap[j]?=wr.heap[j]?:=fun j hj=>by
    rw[hg.block j E0 (fun e=>by have:=hp j e.symm i xy;omega)];exact hW.block j E0
   exact⟨Yp _ (.inl rfl),Yp _ (.inr rfl)⟩)
  have j1:xC w1 (c.Jt k) b (c.Ho k) 4 (c.code k):=i1.keep (fun _=>hg.block b E0 (hnb b hb));have j2:xC w1 (c.Vt k) (b+1) (c.Hq k) 1 (c.img k):=i2.keep (fun _=>hg.block (b+1) E0 (hnb (b+1) E0));refine(hiW.step j1 j2 hb E0 (by omega:b+2<=w1.heap.size)).keep N8 (fun i xy=>?_);have hlo:w.heap.size+3<=gx cb k b i:=by
   unfold gx;split
   ·rename_i h;exact(hi.lo i h).1
   ·omega
  exact⟨wV _ hlo,wV _ E0⟩
 ·rw[<-CU];exact ownsRow_setCell_below kO P0 _
 ·intro g' jJ i xy;simp[Value.ownBlock]at jJ;subst jJ;unfold gx;split
  ·rename_i h
   rcases jr with h'|h'
   ·exact hp g h' i h
   ·have:=hi.lo i h;omega
  ·rcases jr with h'|h'
   ·have:=yo g h';omega
   ·omega
def kE(c:Ur)(rb:Nat->Nat)(k:Nat):List Value:=(Hm k).map (fun i=>Gp Tm (rb i) (c.nRow i))
theorem IZ(c:Ur)(rb:Nat->Nat)(k b:Nat):kE c rb k++[Gp Tm b (c.nRow k)]=kE c (gx rb k b) (k+1):=by
 unfold kE;rw[List.range_succ];simp only[List.map_append,List.map_cons,List.map_nil];have s:gx rb k b k=b:=by simp[gx]
 rw[s];congr 1;apply List.map_congr_left;intro j hj;have kz:j<k:=E2;simp[gx,kz]
def rD(c:Ur)(w0:En)(H:Nat)(v0:Dn)(k:Nat)(wr:En):Prop:=
 ∃rb v,w0.grownBy wr (Gn H)/\Tn wr H 4 28 (cells4 v0 v (.slice Hn 0 0) (.slice Hn 0 0))/\(∀i,i<k->xC wr Tm (rb i) (c.nRow i) 2 (c.row i)/\w0.heap.size<=rb i/\rb i<wr.heap.size)/\
  (∀i j,i<j->j<k->rb i<rb j)/\wr.ownsRow w0.heap.size 100 1 v k (kE c rb k)/\∀g,v.ownBlock=Gn g->∀i,i<k->g≠rb i
theorem rD.mid{c:Ur}{w0 wr W w1:En}{H k:Nat}{rb:Nat->Nat}{v v0:Dn}(ho:wr.ownsRow w0.heap.size 100 1 v k (kE c rb k))(hW:Sm wr.heap.size wr W)(hH:H<w0.heap.size)
  (hg:W.grownBy w1 v.ownBlock)(hr:Tn wr H 4 28 (cells4 v0 v (.slice Hn 0 0) (.slice Hn 0 0))):Tn w1 H 4 28 (cells4 v0 v (.slice Hn 0 0) (.slice Hn 0 0)):=
 (hr.of_heap (hW.block H hr.lt)).of_heap (hg.block H (Lm hr.lt hW.size) (uZ ho hH))
theorem rD.step{c:Ur}{w0 wr W w1:En}{H k b g cap:Nat}{rb:Nat->Nat}{v v0:Dn}(hH:H<w0.heap.size)(hB:w0.grownBy wr (Gn H))(r:Tn wr H 4 28 (cells4 v0 v (.slice Hn 0 0) (.slice Hn 0 0)))
  (hi:∀i,i<k->xC wr Tm (rb i) (c.nRow i) 2 (c.row i)/\w0.heap.size<=rb i/\rb i<wr.heap.size)(aN:∀i j,i<j->j<k->rb i<rb j)(ho:wr.ownsRow w0.heap.size 100 1 v k (kE c rb k))(hp:∀g,v.ownBlock=Gn g->∀i,i<k->g≠rb i)
  (hW:Sm wr.heap.size wr W)(hb:wr.heap.size<=b)(Vx:b<W.heap.size)(i1:xC W Tm b (c.nRow k) 2 (c.row k))
  (kO:w1.ownsRow w0.heap.size 100 1 (.slice (Gn ⟨g,0,Hn⟩) (k+1:Nat) cap) (k+1) (kE c rb k++[Gp Tm b (c.nRow k)]))(hg:W.grownBy w1 v.ownBlock)(jr:v.ownBlock=Gn g\/g=W.heap.size):
  rD c w0 H v0 (k+1) (w1.setCell ⟨H,1,Hn⟩ (.slice (Gn ⟨g,0,Hn⟩) (k+1:Nat) cap)):=by
 have mq0:=hW.size;have dp0:=hg.size;have hw0:=hB.size;have yo:∀j,v.ownBlock=Gn j->w0.heap.size<=j/\j<wr.heap.size:=ho.lt;have hnb:∀j,wr.heap.size<=j->Gn j≠v.ownBlock:=fun j hj e=>by have:=yo j e.symm;omega
 have e0:(w1.setCell ⟨H,1,Hn⟩ (.slice (Gn ⟨g,0,Hn⟩) (k+1:Nat) cap)).heap.size=w1.heap.size:=size_setCell _ _ _;have wV:∀j,j≠H->(w1.setCell ⟨H,1,Hn⟩ (.slice (Gn ⟨g,0,Hn⟩) (k+1:Nat) cap)).heap[j]?=w1.heap[j]?:=fun j hj=>yn _ _ _ _ E2;have old:∀j,j<wr.heap.size->Gn j≠v.ownBlock->w1.heap[j]?=wr.heap[j]?:=fun j hj Yp=>(hg.block j E0 Yp).trans (hW.block j hj);refine⟨gx rb k b,.slice (Gn ⟨g,0,Hn⟩) (k+1:Nat) cap,?_,((rD.mid ho hW hH hg r).AB _).2.1,fun i xy=>?_,fun i j hij hj=>?_,?_,?_⟩
 ·refine Wq ⟨(hg.os.trans hW.os).trans hB.os,(hg.tape.trans hW.tape).trans hB.tape,(hg.output.trans hW.output).trans hB.output,E0,fun j hj Yp=>?_⟩ 1 _;rw[old j E0 (fun e=>by have:=yo j e.symm;omega)];exact hB.block j hj Yp
 ·unfold gx;split
  ·rename_i h
   obtain⟨h1,h2,h3⟩:=hi i h;refine⟨h1.keep (fun _=>?_),h2,by rw[e0];omega⟩;rw[wV _ E0];exact old _ h3 (fun e=>hp _ e.symm i h rfl)
  ·obtain rfl:i=k:=by omega
   refine⟨i1.keep (fun _=>?_),E0,by rw[e0];omega⟩;rw[wV _ E0];exact hg.block b Vx (hnb b hb)
 ·rcases Nat.lt_or_ge j k with hl|hl
  ·simp only[gx,hl,show i<k by omega,if_true];exact aN i j hij hl
  ·obtain rfl:j=k:=by omega
   simp only[gx,hij,if_true,Nat.lt_irrefl,if_false];have:=(hi i hij).2.2;omega
 ·rw[<-IZ];exact ownsRow_setCell_below kO hH _
 ·intro g' jJ i xy;simp[Value.ownBlock]at jJ;subst jJ;unfold gx;split
  ·rename_i h
   rcases jr with h'|h'
   ·exact hp g h' i h
   ·have:=(hi i h).2.2;omega
  ·rcases jr with h'|h'
   ·have:=yo g h';omega
   ·omega
structure YA(w:En)(c:Ur)(B:Nat)(v0 v1 v2 v3:Dn):Prop where
 ex:∃(cb rb:Nat->Nat)(hb db:Nat)(p0:Option Vm)(yp:Nat)(p1:Option Vm)(gp hi eG:Nat),v0=.slice p0 c.nC yp/\c.nC<=yp/\(p0=Hn->c.nC=0/\yp=0)/\Sl w p0 (c.nC*3) (Du c cb)/\
  v1=.slice p1 c.nT gp/\c.nT<=gp/\(p1=Hn->c.nT=0/\gp=0)/\Sl w p1 c.nT (fun i=>Gp Tm (rb i) (c.nRow i))/\
  v2=Gp c.aA hb c.Zo/\v3=Gp c.Vz db c.nD/\Sr w c c.nC B hi cb/\B<=hi/\hi<=eG/\
  (∀i,i<c.nT->xC w Tm (rb i) (c.nRow i) 2 (c.row i)/\hi<=rb i/\rb i<eG)/\(∀i j,i<j->j<c.nT->rb i<rb j)/\
  xC w c.aA hb c.Zo 3 c.ch/\xC w c.Vz db c.nD 1 c.dv/\(c.aA=Tm->eG<=hb)/\(c.Vz=Tm->eG<=db)/\(c.aA=Tm->c.Vz=Tm->hb<db)
 lo0:∀b,v0.ownBlock=Gn b->B<=b
 lo1:∀b,v1.ownBlock=Gn b->B<=b
theorem nB{w:En}{base e size n:Nat}{v:Dn}{F:Nat->Dn}(h:w.ownsRow base e size v n ((Hm (n*size)).map F)):
  ∃p cap,v=.slice p n cap/\n<=cap/\(p=Hn->n=0/\cap=0)/\Sl w p (n*size) F:=by
 rcases h.2 with⟨rfl,rfl⟩|⟨g,cap,Ov,rfl,hb,hg,hn,_,_,b00⟩
 ·exact⟨Hn,0,rfl,Om _,fun _=>⟨rfl,rfl⟩,.inl P0⟩
 ·refine⟨Gn ⟨g,0,Hn⟩,cap,rfl,hn,fun h=>X3,.inr ⟨g,0,rfl,fun j hj=>?_⟩⟩;have:=h.cells (g:=g) rfl j (F j) (by simp[hj]);rw[Addr.add_lit]at this;exact Vh
theorem YA.mk'{c:Ur}{w w0 wr wF:En}{cb rb:Nat->Nat}{v v1:Dn}{hb db:Nat}(ju:w.heap.size+3<=w0.heap.size)
  (HI:Sr w0 c c.nC (w.heap.size+3) w0.heap.size cb)(HO:w0.ownsRow (w.heap.size+3) 53 3 v c.nC (Iy c cb c.nC))
  (HG:w0.grownBy wr (Gn (w.heap.size+1+1)))(HIr:∀i,i<c.nT->xC wr Tm (rb i) (c.nRow i) 2 (c.row i)/\w0.heap.size<=rb i/\rb i<wr.heap.size)(HOr:∀i j,i<j->j<c.nT->rb i<rb j)
  (HOw:wr.ownsRow w0.heap.size 100 1 v1 c.nT (kE c rb c.nT))(hk:∀j,w.heap.size+3<=j->j<wr.heap.size->wF.heap[j]?=wr.heap[j]?)
  (hc:xC wF c.aA hb c.Zo 3 c.ch)(hd:xC wF c.Vz db c.nD 1 c.dv)(h1:c.aA=Tm->wr.heap.size<=hb)(h2:c.Vz=Tm->wr.heap.size<=db)(h3:c.aA=Tm->c.Vz=Tm->hb<db):YA wF c w.heap.size v v1 (Gp c.aA hb c.Zo) (Gp c.Vz db c.nD):=by
 have sA:=HG.size;have k0:∀j,w.heap.size+3<=j->j<w0.heap.size->wF.heap[j]?=w0.heap[j]?:=fun j a b=>(hk j a E0).trans (HG.block j b A1);have o1:wF.ownsRow (w.heap.size+3) 53 3 v c.nC (Iy c cb c.nC):=by
  rcases HO.2 with hn|⟨g,cap,Ov,hv,oU,hg,r⟩
  ·exact⟨HO.1,.inl hn⟩
  ·exact⟨HO.1,.inr ⟨g,cap,Ov,hv,oU,by rw[k0 g oU (Array.getElem?_eq_some_iff.1 hg).1];exact hg,r⟩⟩
 have o2:wF.ownsRow w0.heap.size 100 1 v1 c.nT (kE c rb c.nT):=by
  rcases HOw.2 with hn|⟨g,cap,Ov,hv,oU,hg,r⟩
  ·exact⟨HOw.1,.inl hn⟩
  ·exact⟨HOw.1,.inr ⟨g,cap,Ov,hv,oU,by rw[hk g E0 (Array.getElem?_eq_some_iff.1 hg).1];exact hg,r⟩⟩
 obtain⟨p0,yp,e0,l0,n0,s0⟩:=nB (F:=Du c cb) o1;obtain⟨p1,gp,e1,l1,n1,s1⟩:=nB (F:=fun i=>Gp Tm (rb i) (c.nRow i)) (n:=c.nT) (size:=1) (by simpa[kE]using o2);refine⟨⟨cb,rb,hb,db,p0,yp,p1,gp,w0.heap.size,wr.heap.size,e0,l0,n0,s0,e1,l1,n1,by simpa using s1,rfl,rfl,?_,E0,sA,?_,HOr,hc,hd,h1,h2,h3⟩,fun b Xq=>by have:=(o1.lt b Xq).1;omega,fun b Xq=>by have:=(o2.lt b Xq).1;omega⟩
 ·have:=HI.keep (w':=wF) N8 (fun i hi=>by have:=HI.lo i hi;exact⟨k0 _ E0 E0,k0 _ E0 E0⟩);exact⟨this.code,this.img,fun i hi=>by have:=this.lo i hi;omega,this.ord⟩
 ·intro i hi;obtain⟨a,b,d⟩:=HIr i hi;exact⟨a.keep (fun _=>hk _ E0 d),b,d⟩
theorem sx{w:En}{base e size n:Nat}{v:Dn}{xs:List Dn}(h:w.ownsRow base e size v n xs):∃p m cap,v=.slice p m cap:=by
 rcases h.2 with⟨h,_⟩|⟨g,cap,_,h,_⟩
 ·exact⟨_,_,_,h⟩
 ·exact⟨_,_,_,h⟩
theorem EI(w:En)(g:Nat)(a b c d:Dn)(j:Nat)(hj:j≠g):((((w.setCell ⟨g,0,Hn⟩ a).setCell ⟨g,1,Hn⟩ b).setCell ⟨g,2,Hn⟩ c).setCell ⟨g,3,Hn⟩ d).heap[j]?=w.heap[j]?:=by
 rw[yn _ _ _ _ E2,yn _ _ _ _ E2,yn _ _ _ _ E2,yn _ _ _ _ E2]
theorem PD{B:Nat}{w0 w:En}(h:Sm B w0 w){g:Nat}(hg:B<=g)(a b c d:Dn):Sm B w0 ((((w.setCell ⟨g,0,Hn⟩ a).setCell ⟨g,1,Hn⟩ b).setCell ⟨g,2,Hn⟩ c).setCell ⟨g,3,Hn⟩ d):=
 (((h.setCell hg _).setCell hg _).setCell hg _).setCell hg _
theorem Tz:(prog.info? 28).map (·.size)=Gn 4:=J0
theorem AV(c:Ur)(v0 v1 v2 v3:Dn)(w:En)(h:Zx w v0 v1 v2 v3 c):
  Zm prog 36 #[.agg #[v0,v1,v2,v3]] w fun e w'=>∃x0 x1 x2 x3,e=.returned (.agg #[x0,x1,x2,x3])/\YA w' c w.heap.size x0 x1 x2 x3/\Sm w.heap.size w w':=by
 obtain⟨⟨p0,yp,F0,rfl,-,n0,z0,b0,s0,k0⟩,⟨p1,gp,F1,rfl,-,n1,z1,b1,s1,k1⟩,⟨p2,dq,rfl,-,n2,z2,b2,s2⟩,⟨p3,Lq,rfl,-,n3,z3,b3,s3⟩⟩:=h;refine Ob fun S0 K0=>?_;refine Wc fun S1 K1 S2=>?_;have S3:Hid (Sl w p3 (c.nD*1) (fun j=>.int .i64 (c.dv j))):=s3;refine Wj fun hb0 Dx=>?_;refine sg fun Vx dS=>?_;have HN:Hid ((p2=Hn↔c.aA=Um)/\(p2=Hn->c.Zo=0/\dq=0)/\(p3=Hn↔c.Vz=Um)/\(p3=Hn->c.nD=0/\Lq=0)):=⟨n2,z2,n3,z3⟩;have B0:Hid (56*c.nC<=140737488355328):=b0;have B1:Hid (24*c.nT<=140737488355328):=b1;have B2:Hid (24*c.Zo<=140737488355328):=b2;have B3:Hid (8*c.nD<=140737488355328):=b3;clear s0 k0 s1 k1 s2 s3 b0 b1 b2 b3 n0 z0 n1 z1 n2 z2 n3 z3
 go_enter func36,ntmps36
 go_wp2_with fail
 go_loopw [4] (fun i wr=>∃k:Nat,k<=c.nC/\i=.int .i64 k/\Hid (Iu c w (.slice p0 c.nC yp) (.slice p1 c.nT gp) (.slice p2 c.Zo dq) (.slice p3 c.nD Lq) k wr)) (fun i _=>c.nC-(intOf i).toNat)
 case atStart=>
  refine⟨0,Pm _,rfl,fun _=>0,.slice Hn 0 0,(((Below.refl _ _).alloc N8 _).alloc P0 _).alloc A1 _,P0,((row4 _ _ _ _ _ _).alloc _).alloc _,?_,?_,Sr.zero _ _ _ _ _,World.ownsRow_nil _ _ _ _,Y4⟩
  ·have:=(row4 (w.alloc (.cells #[.slice p0 c.nC yp,.slice p1 c.nT gp,.slice p2 c.Zo dq,.slice p3 c.nD Lq] 28)) (.slice Hn 0 0) (.slice Hn 0 0) (.slice Hn 0 0) (.slice Hn 0 0) 28).alloc (.cells #[.slice Hn 0 0,.slice Hn 0 0,.slice Hn 0 0,.slice Hn 0 0] 28);exact Vd
  ·have:=row4 ((w.alloc (.cells #[.slice p0 c.nC yp,.slice p1 c.nT gp,.slice p2 c.Zo dq,.slice p3 c.nD Lq] 28)).alloc (.cells #[.slice Hn 0 0,.slice Hn 0 0,.slice Hn 0 0,.slice Hn 0 0] 28)) (.slice Hn 0 0) (.slice Hn 0 0) (.slice Hn 0 0) (.slice Hn 0 0) 28;exact Vd
 case round=>
  obtain⟨k,hk,rfl,HL⟩:=hrel;obtain⟨cb,v,hB,ju,r0,r1,r2,iu,Io,T_⟩:=HL.out;obtain⟨x0,x1,x2,x3⟩:=r0.at4;obtain⟨y0,y1,y2,y3⟩:=r2.at4;have y0f:=r2.frozen 0;have hl0:w.heap.size<wr.heap.size:=E0;have hl1:w.heap.size+1<wr.heap.size:=E0;have X_:w.heap.size+1+1<wr.heap.size:=E0;have HB:Hid (Sm w.heap.size w wr):=hB;have R0:Hid (Tn wr w.heap.size 4 28 (cells4 (.slice p0 c.nC yp) (.slice p1 c.nT gp) (.slice p2 c.Zo dq) (.slice p3 c.nD Lq))):=r0;have R1:Hid (Tn wr (w.heap.size+1) 4 28 (cells4 (.slice Hn 0 0) (.slice Hn 0 0) (.slice Hn 0 0) (.slice Hn 0 0))):=r1;have R2:Hid (Tn wr (w.heap.size+1+1) 4 28 (cells4 v (.slice Hn 0 0) (.slice Hn 0 0) (.slice Hn 0 0))):=r2;have HI:Hid (Sr wr c k (w.heap.size+3) wr.heap.size cb):=iu;have HO:Hid (wr.ownsRow (w.heap.size+3) 53 3 v k (Iy c cb k)):=Io;have HP:Hid (∀g,v.ownBlock=Gn g->∀i,i<k->g≠cb i/\g≠cb i+1):=T_;clear hB r0 r1 r2 iu Io T_ HL;by_cases yo:k<c.nC
  ·obtain⟨b,off,rfl,hc⟩:=(S0.out.below HB.out).at E0;refine Vb fun c0 c1 c2=>?_;refine Ah fun Jv=>?_;have hbw:b<w.heap.size:=by
    obtain⟨b',Xk0,e,zE⟩:=S0.out.at E0;simp only[Option.some.injEq,Addr.mk.injEq]at e;have:=Wm (zE 0 E0);simp only at this;omega
   rw[<-Jm]at c1 c2;clear hc;obtain⟨⟨pc,Hy,R_,-,nc,zc,bc,sc⟩,⟨pi,KC,hF1,-,ni,zi,bi,si⟩,Gs⟩:=K0.out k yo;rw[R_]at c0;rw[hF1]at c1;rw[Gs]at c2;have hnc:c.Ho k<=4398046511104:=E0;have hni:c.Hq k<=17592186044416:=E0;have SC:Hid (Sl w pc (c.Ho k*4) (fun j=>.int .i64 (c.code k j))):=sc;have SI:Hid (Sl w pi (c.Hq k) (fun j=>.int .i64 (c.img k j))):=by show Sl _ _ _ _;simpa using si
   have BC:Hid (32*c.Ho k<=140737488355328):=bc;have BI:Hid (8*c.Hq k<=140737488355328):=bi;clear R_ hF1 Gs sc si bc bi;cases pc with
   |none=>
    obtain⟨lP,rfl⟩:=zc rfl;have mG:=nc.1 rfl;rw[lP]at c0;clear zc nc;have HN1:Hid (c.Jt k=Um/\c.Ho k=0):=⟨mG,lP⟩;clear mG lP;cases pi with
    |none=>
     obtain⟨lP,rfl⟩:=zi rfl;have mG:=ni.1 rfl;rw[lP]at c1;clear zi ni;have KG:Hid (c.Vt k=Um/\c.Hq k=0):=⟨mG,lP⟩;clear mG lP;go_wp2_with (at_builtin;refine Eo _ rfl _ _ 23 rfl (w.heap.size+3) 53 _ 3 56 underlying23 TA rfl E0 v k (Iy c cb k) rfl ((HO.out.alloc _).alloc _) (wr.heap.size+1) [.slice Hn 0 0,.slice Hn 0 0,.int .i64 (c.lim k)] 53 rfl rfl (heap_alloc2_new _ _ _) D2 Y1 Z5 A1 ?_);intro g cap w1 kq uo jr Av;have z0:=(Iu.mid HO.out (((Below.refl _ _).alloc N8 _).alloc P0 _) uo R2.out E0).at4;have z0f:=(Iu.mid HO.out (((Below.refl _ _).alloc N8 _).alloc P0 _) uo R2.out E0).frozen 0;obtain⟨z0,-,-,-⟩:=z0;have HF:Hid (Iu c w (.slice (Gn ⟨b,off,Hn⟩) c.nC yp) (.slice p1 c.nT gp) (.slice p2 c.Zo dq) (.slice p3 c.nD Lq) (k+1) (w1.setCell ⟨w.heap.size+1+1,0,Hn⟩ (.slice (Gn ⟨g,0,Hn⟩) (k+1:Nat) cap))):=
      Iu.step (b:=wr.heap.size) HB.out E0 R0.out R1.out R2.out HI.out HO.out HP.out (((Below.refl _ _).alloc N8 _).alloc P0 _) N8 P0 (fun h=>by rw[HN1.out.1]at h;cases h) (fun h=>by rw[KG.out.1]at h;cases h) (by simpa[Gp,HN1.out.1,KG.out.1]using kq) uo (by simpa using jr)
     clear kq uo jr Av;go_wp2_with fail;exact⟨⟨k+1,E0,E1,HF⟩,U1⟩
    |some q=>
     obtain⟨bq,oq,sq⟩:=q;have mG:c.Vt k=false:=by
      cases h:c.Vt k
      ·rfl
      ·exact absurd (ni.2 h) P0
     have KG:Hid (c.Vt k=Tm):=mG;clear zi ni mG;go_wp2_with fail;refine(uF (Gn ⟨bq,oq,sq⟩) (c.Hq k) KC (c.img k) _ ((SI.out.below HB.out).below P8) P0 BI.out).mono ?_;rintro e wA ⟨rfl,gB,xt,Xw⟩;obtain⟨hcA,hfA⟩:=X60 xt;have kD:Hid (Sm wr.heap.size wr wA):=Gy xt;have HRA:Hid (Tn wA (wr.heap.size+1) ((c.Hq k+2)*1) 2 (fun j=>.int .i64 (uq 1 (c.Hq k) (c.img k) j))):=by show Tn _ _ _ _ _;simpa using Xw
     have dI:wA.heap.size=wr.heap.size+1+1:=by simpa using gB
     clear xt Xw gB;go_wp2_with (at_builtin;refine Eo _ rfl _ _ 23 rfl (w.heap.size+3) 53 _ 3 56 underlying23 TA rfl E0 v k (Iy c cb k) rfl I8 (wr.heap.size+1+1) [.slice Hn 0 0,.slice (Gn ⟨wr.heap.size+1,0,Hn⟩) (c.Hq k) (c.Hq k+2:Nat),.int .i64 (c.lim k)] 53 rfl rfl (by exact alloc_at E4) D2 Y1 Z5 A1 ?_);intro g cap w1 kq uo jr Av;have A_:Hid (Sm wr.heap.size wr _):=(kD.out.setCell (p:=⟨wr.heap.size,1,Hn⟩) N8 (.slice (Gn ⟨wr.heap.size+1,0,Hn⟩) (c.Hq k) (c.Hq k+2:Nat))).alloc E4 (.cells #[.slice Hn 0 0,.slice (Gn ⟨wr.heap.size+1,0,Hn⟩) (c.Hq k) (c.Hq k+2:Nat),.int .i64 (c.lim k)] 53);obtain⟨z0,-,-,-⟩:=(Iu.mid HO.out A_.out uo R2.out E0).at4;have z0f:=(Iu.mid HO.out A_.out uo R2.out E0).frozen 0;have HF:Hid (Iu c w (.slice (Gn ⟨b,off,Hn⟩) c.nC yp) (.slice p1 c.nT gp) (.slice p2 c.Zo dq) (.slice p3 c.nD Lq) (k+1) (w1.setCell ⟨w.heap.size+1+1,0,Hn⟩ (.slice (Gn ⟨g,0,Hn⟩) (k+1:Nat) cap))):=
      Iu.step (b:=wr.heap.size) HB.out E0 R0.out R1.out R2.out HI.out HO.out HP.out A_.out N8 A1 (fun h=>by rw[HN1.out.1]at h;cases h) (fun _=>⟨_,(HRA.out.other _ _ P0).alloc _⟩) (by simpa[Gp,HN1.out.1,KG.out]using kq) uo (by simpa[dI]using jr)
     clear kq uo jr Av A_;go_wp2_with fail;exact⟨⟨k+1,E0,E1,HF⟩,U1⟩
   |some q=>
    obtain⟨bq,oq,sq⟩:=q;have mG:c.Jt k=false:=by
     cases h:c.Jt k
     ·rfl
     ·exact absurd (nc.2 h) P0
    have HN1:Hid (c.Jt k=Tm):=mG;clear zc nc mG;cases pi with
    |none=>
     obtain⟨lP,rfl⟩:=zi rfl;have mG:=ni.1 rfl;rw[lP]at c1;clear zi ni;have KG:Hid (c.Vt k=Um/\c.Hq k=0):=⟨mG,lP⟩;clear mG lP;go_wp2_with fail;refine gi ?_;rintro e wA ⟨rfl,gB,xt,Xw⟩;obtain⟨hcA,hfA⟩:=X60 xt;have kD:Hid (Sm wr.heap.size wr wA):=Gy xt;have HRA:Hid (Tn wA (wr.heap.size+1) ((c.Ho k+2)*4) 97 (fun j=>.int .i64 (uq 4 (c.Ho k) (c.code k) j))):=by show Tn _ _ _ _ _;simpa using Xw
     have dI:wA.heap.size=wr.heap.size+1+1:=by simpa using gB
     clear xt Xw gB;go_wp2_with (at_builtin;refine Eo _ rfl _ _ 23 rfl (w.heap.size+3) 53 _ 3 56 underlying23 TA rfl E0 v k (Iy c cb k) rfl I8 (wr.heap.size+1+1) [.slice (Gn ⟨wr.heap.size+1,0,Hn⟩) (c.Ho k) (c.Ho k+2:Nat),.slice Hn 0 0,.int .i64 (c.lim k)] 53 rfl rfl (by exact alloc_at E4) D2 Y1 Z5 A1 ?_);intro g cap w1 kq uo jr Av;have A_:Hid (Sm wr.heap.size wr _):=(kD.out.setCell (p:=⟨wr.heap.size,0,Hn⟩) N8 (.slice (Gn ⟨wr.heap.size+1,0,Hn⟩) (c.Ho k) (c.Ho k+2:Nat))).alloc E4 (.cells #[.slice (Gn ⟨wr.heap.size+1,0,Hn⟩) (c.Ho k) (c.Ho k+2:Nat),.slice Hn 0 0,.int .i64 (c.lim k)] 53);obtain⟨z0,-,-,-⟩:=(Iu.mid HO.out A_.out uo R2.out E0).at4;have z0f:=(Iu.mid HO.out A_.out uo R2.out E0).frozen 0;have HF:Hid (Iu c w (.slice (Gn ⟨b,off,Hn⟩) c.nC yp) (.slice p1 c.nT gp) (.slice p2 c.Zo dq) (.slice p3 c.nD Lq) (k+1) (w1.setCell ⟨w.heap.size+1+1,0,Hn⟩ (.slice (Gn ⟨g,0,Hn⟩) (k+1:Nat) cap))):=
      Iu.step (b:=wr.heap.size+1) HB.out E0 R0.out R1.out R2.out HI.out HO.out HP.out A_.out E0 A1 (fun _=>⟨_,(HRA.out.other _ _ P0).alloc _⟩) (fun h=>by rw[KG.out.1]at h;cases h) (by simpa[Gp,HN1.out,KG.out.1]using kq) uo (by simpa[dI]using jr)
     clear kq uo jr Av A_;go_wp2_with fail;exact⟨⟨k+1,E0,E1,HF⟩,U1⟩
    |some q=>
     obtain⟨bi,oi,si'⟩:=q;have mG:c.Vt k=false:=by
      cases h:c.Vt k
      ·rfl
      ·exact absurd (ni.2 h) P0
     have KG:Hid (c.Vt k=Tm):=mG;clear zi ni mG;go_wp2_with fail;refine gi ?_;rintro e wA ⟨rfl,gB,xt,Xw⟩;obtain⟨hcA,hfA⟩:=X60 xt;have kD:Hid (Sm wr.heap.size wr wA):=Gy xt;have HXA:Hid (Tn wA wr.heap.size 3 53 (cells3 (.slice Hn 0 0) (.slice Hn 0 0) (.int .i64 (c.lim k)))):=(row3 wr _ _ _ _).below xt P0;have HRA:Hid (Tn wA (wr.heap.size+1) ((c.Ho k+2)*4) 97 (fun j=>.int .i64 (uq 4 (c.Ho k) (c.code k) j))):=by show Tn _ _ _ _ _;simpa using Xw
     have dI:wA.heap.size=wr.heap.size+1+1:=by simpa using gB
     clear xt Xw gB;go_wp2_with fail;have HBB:Hid (Sm wr.heap.size wr (wA.setCell ⟨wr.heap.size,0,Hn⟩ (.slice (Gn ⟨wr.heap.size+1,0,Hn⟩) (c.Ho k) (c.Ho k+2:Nat)))):=kD.out.setCell N8 _;refine(uF (Gn ⟨bi,oi,si'⟩) (c.Hq k) KC (c.img k) _ ((SI.out.below HB.out).below HBB.out) P0 BI.out).mono ?_;rintro e wB ⟨rfl,Dk0,V_,Kd0⟩;have uH:Hid (Sm wr.heap.size wr wB):=HBB.out.trans (V_.mono HBB.out.size);have HRB:Hid (Tn wB (wr.heap.size+1+1) ((c.Hq k+2)*1) 2 (fun j=>.int .i64 (uq 1 (c.Hq k) (c.img k) j))):=by show Tn _ _ _ _ _;simpa[dI]using Kd0
     have On0:Hid (Tn wB (wr.heap.size+1) ((c.Ho k+2)*4) 97 (fun j=>.int .i64 (uq 4 (c.Ho k) (c.code k) j))):=(HRA.out.other _ _ P0).below V_ (by simp[dI]);have Ek0:wB.heap.size=wr.heap.size+1+1+1:=by simpa[dI]using Dk0
     have HXB:Hid (Tn wB wr.heap.size 3 53 (cells3 (.slice (Gn ⟨wr.heap.size+1,0,Hn⟩) (c.Ho k) (c.Ho k+2:Nat)) (.slice Hn 0 0) (.int .i64 (c.lim k)))):=(HXA.out.UZ _).1.below V_ (by simp[dI];omega);obtain⟨q0,q1,q2⟩:=HXB.out.at3;have q1f:=HXB.out.frozen 1;have q3:=(uH.out.cell (p:=⟨w.heap.size,0,Hn⟩) hl0).trans x0;have q4:=(uH.out.cell (p:=⟨w.heap.size+1+1,0,Hn⟩) X_).trans y0;have q4f:=(uH.out.frozen (p:=⟨w.heap.size+1+1,0,Hn⟩) X_).trans y0f;have q5:=(uH.out.cell (p:=⟨b,off+k*3+1,Hn⟩) Jv).trans c1;have rx0:w.heap.size<wB.heap.size:=E0;have sx0:w.heap.size+1+1<wB.heap.size:=E0;have lp0:b<wB.heap.size:=E0;have hX':wr.heap.size<wB.heap.size:=E0;clear V_ Kd0 Dk0 HRA hcA hfA x0 x1 x2 x3 y0 y1 y2 y3 y0f c0 c1 c2;go_wp2_with (at_builtin;refine Eo _ rfl _ _ 23 rfl (w.heap.size+3) 53 _ 3 56 underlying23 TA rfl E0 v k (Iy c cb k) rfl (by exact xo HO.out ((uH.out.setCell N8 _).alloc E4 _)) (wr.heap.size+1+1+1) [.slice (Gn ⟨wr.heap.size+1,0,Hn⟩) (c.Ho k) (c.Ho k+2:Nat),.slice (Gn ⟨wr.heap.size+1+1,0,Hn⟩) (c.Hq k) (c.Hq k+2:Nat),.int .i64 (c.lim k)] 53 rfl rfl (by exact alloc_at E4) D2 Y1 Z5 A1 ?_);intro g cap w1 kq uo jr Av;have A_:Hid (Sm wr.heap.size wr _):=(uH.out.setCell (p:=⟨wr.heap.size,1,Hn⟩) N8 (.slice (Gn ⟨wr.heap.size+1+1,0,Hn⟩) (c.Hq k) (c.Hq k+2:Nat))).alloc E4 (.cells #[.slice (Gn ⟨wr.heap.size+1,0,Hn⟩) (c.Ho k) (c.Ho k+2:Nat),.slice (Gn ⟨wr.heap.size+1+1,0,Hn⟩) (c.Hq k) (c.Hq k+2:Nat),.int .i64 (c.lim k)] 53);obtain⟨z0,-,-,-⟩:=(Iu.mid HO.out A_.out uo R2.out E0).at4;have z0f:=(Iu.mid HO.out A_.out uo R2.out E0).frozen 0;have HF:Hid (Iu c w (.slice (Gn ⟨b,off,Hn⟩) c.nC yp) (.slice p1 c.nT gp) (.slice p2 c.Zo dq) (.slice p3 c.nD Lq) (k+1) (w1.setCell ⟨w.heap.size+1+1,0,Hn⟩ (.slice (Gn ⟨g,0,Hn⟩) (k+1:Nat) cap))):=
      Iu.step (b:=wr.heap.size+1) HB.out E0 R0.out R1.out R2.out HI.out HO.out HP.out A_.out E0 A1 (fun _=>⟨_,(On0.out.other _ _ P0).alloc _⟩) (fun _=>⟨_,(HRB.out.other _ _ A1).alloc _⟩) (by simpa[Gp,HN1.out,KG.out]using kq) uo (by simpa[Ek0]using jr)
     clear kq uo jr Av A_;go_wp2_with fail;exact⟨⟨k+1,E0,E1,HF⟩,U1⟩
  ·obtain rfl:k=c.nC:=by omega
   clear yo hk;revert HP HO HI R2 R1 R0 HB X_ hl1 hl0 y0f y3 y2 y1 y0 x3 x2 x1 x0 ju;revert wr;intro w0 ju x0 x1 x2 x3 y0 y1 y2 y3 y0f hl0 hl1 X_ HB R0 R1 R2 HI HO HP;go_wp2_with fail;go_loopw [8] (fun i wr=>∃k:Nat,k<=c.nT/\i=.int .i64 k/\Hid (rD c w0 (w.heap.size+1+1) v k wr)) (fun i _=>c.nT-(intOf i).toNat)
   case atStart=>exact⟨0,Pm _,rfl,fun _=>0,.slice Hn 0 0,World.grownBy.refl _ _,R2.out,fun i hi=>absurd hi E0,fun i j _ hj=>absurd hj E0,World.ownsRow_nil _ _ _ _,Y4⟩
   case round=>
    obtain⟨k,hk,rfl,HL⟩:=hrel;obtain⟨rb,v1,hB,r2,iu,aN,Io,T_⟩:=HL.out;obtain⟨z0,z1,z2,z3⟩:=r2.at4;have z1f:=r2.frozen 1;have sA:w0.heap.size<=wr.heap.size:=hB.size;have m0:wr.cell? ⟨w.heap.size,0,Hn⟩=Gn (.slice p0 c.nC yp):=hB.cell x0 A1;have m1:wr.cell? ⟨w.heap.size,1,Hn⟩=Gn (.slice p1 c.nT gp):=hB.cell x1 A1;have m2:wr.cell? ⟨w.heap.size,2,Hn⟩=Gn (.slice p2 c.Zo dq):=hB.cell x2 A1;have m3:wr.cell? ⟨w.heap.size,3,Hn⟩=Gn (.slice p3 c.nD Lq):=hB.cell x3 A1;have HG:Hid (w0.grownBy wr (Gn (w.heap.size+1+1))):=hB;have R2r:Hid (Tn wr (w.heap.size+1+1) 4 28 (cells4 v v1 (.slice Hn 0 0) (.slice Hn 0 0))):=r2;have HIr:Hid (∀i,i<k->xC wr Tm (rb i) (c.nRow i) 2 (c.row i)/\w0.heap.size<=rb i/\rb i<wr.heap.size):=iu;have HOr:Hid (∀i j,i<j->j<k->rb i<rb j):=aN;have HOw:Hid (wr.ownsRow w0.heap.size 100 1 v1 k (kE c rb k)):=Io;have HPr:Hid (∀g,v1.ownBlock=Gn g->∀i,i<k->g≠rb i):=T_;have HBw:Hid (Sm w.heap.size w wr):=HB.out.trans ⟨hB.os,hB.tape,hB.output,hB.size,fun j hj=>hB.block j E0 A1⟩;have hw0:w.heap.size<wr.heap.size:=E0;have hw2:w.heap.size+1+1<wr.heap.size:=E0;clear hB r2 iu aN Io T_ HL;by_cases yo:k<c.nT
    ·obtain⟨b,off,rfl,hc⟩:=(S1.out.below HBw.out).at E0;have c0:=hc k yo;refine Ah fun Jv=>?_;clear hc;obtain⟨pr,BO,hF,-,-,zr,br,sr⟩:=K1.out k yo;rw[hF]at c0;have SR:Hid (Sl w pr (c.nRow k*2) (fun j=>.int .i64 (c.row k j))):=sr;have BR:Hid (16*c.nRow k<=140737488355328):=br;have ZR:Hid (pr=Hn->c.nRow k=0):=fun h=>(zr h).1;have hnr:c.nRow k<=8796093022208:=by omega
     clear hF sr br zr;go_wp2_with fail;refine(LK pr (c.nRow k) BO (c.row k) _ (SR.out.below HBw.out) ZR.out BR.out).mono ?_;rintro e wA ⟨rfl,gB,xt,Xw⟩;have kD:Hid (Sm wr.heap.size wr wA):=xt;have HRA:Hid (Tn wA wr.heap.size ((c.nRow k+2)*2) 102 (fun j=>.int .i64 (uq 2 (c.nRow k) (c.row k) j))):=Xw;have q1:=(kD.out.cell (p:=⟨w.heap.size,1,Hn⟩) hw0).trans m1;have q2:=(kD.out.cell (p:=⟨w.heap.size+1+1,1,Hn⟩) hw2).trans z1;have q2f:=(kD.out.frozen (p:=⟨w.heap.size+1+1,1,Hn⟩) hw2).trans z1f;have q3:=(kD.out.cell (p:=⟨b,off+k,Hn⟩) Jv).trans c0;have cy0:w.heap.size<wA.heap.size:=E0;have dy0:w.heap.size+1+1<wA.heap.size:=E0;have lp0:b<wA.heap.size:=E0;have zy:Hid (wA.heap.size=wr.heap.size+1):=gB;have hwA:wr.heap.size<=wA.heap.size:=E0;clear xt Xw gB m0 m1 m2 m3 z0 z1 z2 z3 z1f c0;go_wp2_with fail;have ck0:(c.nRow k:Int)<=(c.nRow k:Int)+2:=E0;have YQ:Hid (∀o,Sm wr.heap.size wr (wA.drew.alloc o)):=fun o=>kD.out.drew.alloc (by show _<=wA.heap.size;have:=zy.out;omega) _
     go_region_law (refine Br rfl _ _ 24 rfl w0.heap.size 100 _ 1 24 underlying24 jI rfl E0 v1 k (kE c rb k) rfl (by exact xo HOw.out (YQ.out _)) wA.heap.size [.slice (Gn ⟨wr.heap.size,0,Hn⟩) (c.nRow k) (c.nRow k+2:Nat)] 100 rfl rfl G2 D2 Y1 (by have:=B1.out;omega) A1 ?_;intro g cap w1 kq uo jr Av;obtain⟨-,u1,-,-⟩:=(rD.mid HOw.out (YQ.out _) E0 uo R2r.out).at4;have u1f:=(rD.mid HOw.out (YQ.out _) E0 uo R2r.out).frozen 1)
     all_goals
      have HF:Hid (rD c w0 (w.heap.size+1+1) v (k+1) (w1.setCell ⟨w.heap.size+1+1,1,Hn⟩ (.slice (Gn ⟨g,0,Hn⟩) (k+1:Nat) cap))):=
       rD.step (b:=wr.heap.size) E0 HG.out R2r.out HIr.out HOr.out HOw.out HPr.out (YQ.out _) N8 (by simp;have:=zy.out;omega) (fun _=>⟨_,Tn.alloc (w:=wA.drew) HRA.out _⟩) (by simpa[Gp]using kq) uo (by simpa using jr)
      clear kq uo jr Av;go_wp2_with fail;exact⟨⟨k+1,E0,E1,HF⟩,U1⟩
    ·obtain rfl:k=c.nT:=by omega
     clear yo hk;obtain⟨n2,zz2,n3,zX⟩:=HN.out;obtain⟨pv,mv,cv,rfl⟩:=sx HO.out;obtain⟨pu,mu,cu,rfl⟩:=sx HOw.out;have RR1:Hid (Tn wr (w.heap.size+1) 4 28 (cells4 (.slice Hn 0 0) (.slice Hn 0 0) (.slice Hn 0 0) (.slice Hn 0 0))):=R1.out.of_heap (HG.out.block _ E0 P0);have dE:w.heap.size+1<wr.heap.size:=E0;obtain⟨t0,t1,t2,t3⟩:=RR1.out.at4;have t0f:=RR1.out.frozen 0;have t1f:=RR1.out.frozen 1;have t2f:=RR1.out.frozen 2;have t3f:=RR1.out.frozen 3;have z2f:=R2r.out.frozen 2;have z3f:=R2r.out.frozen 3;have R0r:Hid (Tn wr w.heap.size 4 28 (cells4 (.slice p0 c.nC yp) (.slice p1 c.nT gp) (.slice p2 c.Zo dq) (.slice p3 c.nD Lq))):=R0.out.of_heap (HG.out.block _ E0 A1);have S3':Hid (Sl w p3 c.nD (fun j=>.int .i64 (c.dv j))):=by show Sl _ _ _ _;have h:=S3.out;rwa [Nat.mul_one]at h
     cases p2 with
     |none=>
      obtain⟨zu,rfl⟩:=zz2 rfl;have KG:Hid (c.aA=Um):=n2.1 rfl;rw[zu]at m2;clear zz2 n2 zu;cases p3 with
      |none=>
       obtain⟨JL,rfl⟩:=zX rfl;have qO:Hid (c.Vz=Um):=n3.1 rfl;rw[JL]at m3;clear zX n3 JL;go_wp2_with fail;have XQ:=iD ((((RR1.out.AB (.slice pv mv cv)).1.AB (.slice pu mu cu)).2.1.AB (.slice Hn 0 0)).2.2.1.AB (.slice Hn 0 0)).2.2.2;refine bodyPost_ret (results_cell_row (P:=prog) rfl _ _ (w.heap.size+1) 28 #[.slice pv mv cv,.slice pu mu cu,.slice Hn 0 0,.slice Hn 0 0] (0,0) _ rfl XQ underlying28 rfl Tz) rfl ?_;have CX:=YA.mk' (w:=w) (wr:=wr) (wF:=((((wr).setCell ⟨w.heap.size+1,0,Hn⟩ (.slice pv mv cv)).setCell ⟨w.heap.size+1,1,Hn⟩ (.slice pu mu cu)).setCell ⟨w.heap.size+1,2,Hn⟩ (.slice Hn 0 0)).setCell ⟨w.heap.size+1,3,Hn⟩ (.slice Hn 0 0)) (hb:=wr.heap.size) (db:=wr.heap.size+1) E0 HI.out HO.out HG.out HIr.out HOr.out HOw.out (fun j h1 h2=>by rw[EI _ _ _ _ _ _ j E0]) (fun h=>by rw[KG.out]at h;cases h) (fun h=>by rw[qO.out]at h;cases h) (fun _=>E0) (fun _=>E0) (fun _ _=>E0);exact⟨_,_,_,_,rfl,d6,PD (HBw.out) E0 _ _ _ _⟩
      |some q=>
       obtain⟨bq3,oq3,sq3⟩:=q;have qO:Hid (c.Vz=Tm):=by
        show _=_;cases h:c.Vz
        ·rfl
        ·exact absurd (n3.2 h) P0
       clear zX n3;go_wp2_with fail;refine(KH (Gn ⟨bq3,oq3,sq3⟩) c.nD Lq c.dv _ (S3'.out.below HBw.out) P0 B3.out).mono ?_;rintro e wD ⟨rfl,W10,iK,mQ⟩;have HBD:Hid (Sm wr.heap.size wr wD):=iK;have Fk0:wD.heap.size=wr.heap.size+1:=W10;have HRD:Hid (Tn wD wr.heap.size ((c.nD+2)*1) 3 (fun j=>.int .i64 (uq 1 c.nD c.dv j))):=mQ;have R2D:=R2r.out.below iK E0;have EX:=RR1.out.below iK E0;have R0D:=R0r.out.below iK E0;clear iK mQ W10 m0 m1 m2 m3 z0 z1 z2 z3 z1f t0 t1 t2 t3 t0f t1f t2f t3f z2f z3f;obtain⟨m0,m1,m2,m3⟩:=R0D.at4;obtain⟨z0,z1,z2,z3⟩:=R2D.at4;obtain⟨t0,t1,t2,t3⟩:=EX.at4;have z3f:=R2D.frozen 3;have t0f:=EX.frozen 0;have t1f:=EX.frozen 1;have t2f:=EX.frozen 2;have t3f:=EX.frozen 3;have RF:Hid (Tn (wD.setCell ⟨w.heap.size+1+1,3,Hn⟩ (.slice (Gn ⟨wr.heap.size,0,Hn⟩) c.nD (c.nD+2:Nat))) (w.heap.size+1) 4 28 (cells4 (.slice Hn 0 0) (.slice Hn 0 0) (.slice Hn 0 0) (.slice Hn 0 0))):=EX.other _ _ P0;clear R0D R2D EX;go_wp2_with fail;have XQ:=iD ((((RF.out.AB (.slice pv mv cv)).1.AB (.slice pu mu cu)).2.1.AB (.slice Hn 0 0)).2.2.1.AB (.slice (Gn ⟨wr.heap.size,0,Hn⟩) c.nD (c.nD+2:Nat))).2.2.2;refine bodyPost_ret (results_cell_row (P:=prog) rfl _ _ (w.heap.size+1) 28 #[.slice pv mv cv,.slice pu mu cu,.slice Hn 0 0,.slice (Gn ⟨wr.heap.size,0,Hn⟩) c.nD (c.nD+2:Nat)] (0,0) _ rfl XQ underlying28 rfl Tz) rfl ?_;have CX:=YA.mk' (w:=w) (wr:=wr) (wF:=((((wD.setCell ⟨w.heap.size+1+1,3,Hn⟩ (.slice (Gn ⟨wr.heap.size,0,Hn⟩) c.nD (c.nD+2:Nat))).setCell ⟨w.heap.size+1,0,Hn⟩ (.slice pv mv cv)).setCell ⟨w.heap.size+1,1,Hn⟩ (.slice pu mu cu)).setCell ⟨w.heap.size+1,2,Hn⟩ (.slice Hn 0 0)).setCell ⟨w.heap.size+1,3,Hn⟩ (.slice (Gn ⟨wr.heap.size,0,Hn⟩) c.nD (c.nD+2:Nat))) (hb:=wr.heap.size) (db:=wr.heap.size) E0 HI.out HO.out HG.out HIr.out HOr.out HOw.out (fun j h1 h2=>by rw[EI _ _ _ _ _ _ j E0];rw[yn _ _ _ _ A1];exact HBD.out.block j h2) (fun h=>by rw[KG.out]at h;cases h) (fun _=>⟨_,(((((HRD.out.other _ _ A1).other _ _ A1).other _ _ A1).other _ _ A1).other _ _ A1)⟩) (fun _=>E0) (fun _=>E0) (fun h=>by rw[KG.out]at h;cases h);exact⟨_,_,_,_,rfl,d6,PD ((HBw.out.trans (HBD.out.mono E0)).setCell A1 _) E0 _ _ _ _⟩
     |some q=>
      obtain⟨bq2,oq2,sq2⟩:=q;have KG:Hid (c.aA=Tm):=by
       show _=_;cases h:c.aA
       ·rfl
       ·exact absurd (n2.2 h) P0
      clear zz2 n2;go_wp2_with fail;refine(bQ (Gn ⟨bq2,oq2,sq2⟩) c.Zo dq c.ch _ (S2.out.below HBw.out) P0 B2.out).mono ?_;rintro e wA ⟨rfl,gB,xt,Xw⟩;have kD:Hid (Sm wr.heap.size wr wA):=xt;have zy:Hid (wA.heap.size=wr.heap.size+1):=gB;have dI:wr.heap.size<wA.heap.size:=E0;have HRA:Hid (Tn wA wr.heap.size ((c.Zo+2)*3) 138 (fun j=>.int .i64 (uq 3 c.Zo c.ch j))):=Xw;have R2A:=R2r.out.below xt E0;have R1A:=RR1.out.below xt E0;have R0A:=R0r.out.below xt E0;clear xt Xw gB m0 m1 m2 m3 z0 z1 z2 z3 z1f t0 t1 t2 t3 t0f t1f t2f t3f z2f z3f;obtain⟨m0,m1,m2,m3⟩:=R0A.at4;obtain⟨z0,z1,z2,z3⟩:=R2A.at4;obtain⟨t0,t1,t2,t3⟩:=R1A.at4;have z2f:=R2A.frozen 2;have z3f:=R2A.frozen 3;have t0f:=R1A.frozen 0;have t1f:=R1A.frozen 1;have t2f:=R1A.frozen 2;have t3f:=R1A.frozen 3;have RA0:Hid (Tn (wA.setCell ⟨w.heap.size+1+1,2,Hn⟩ (.slice (Gn ⟨wr.heap.size,0,Hn⟩) c.Zo (c.Zo+2:Nat))) w.heap.size 4 28 _):=R0A.other _ _ A1;have RA1:Hid (Tn (wA.setCell ⟨w.heap.size+1+1,2,Hn⟩ (.slice (Gn ⟨wr.heap.size,0,Hn⟩) c.Zo (c.Zo+2:Nat))) (w.heap.size+1) 4 28 _):=R1A.other _ _ P0;have RA2:Hid (Tn (wA.setCell ⟨w.heap.size+1+1,2,Hn⟩ (.slice (Gn ⟨wr.heap.size,0,Hn⟩) c.Zo (c.Zo+2:Nat))) (w.heap.size+1+1) 4 28 _):=(R2A.AB _).2.2.1;clear R0A R1A R2A;cases p3 with
      |none=>
       obtain⟨JL,rfl⟩:=zX rfl;have qO:Hid (c.Vz=Um):=n3.1 rfl;rw[JL]at m3;clear zX n3 JL;go_wp2_with fail;have XQ:=iD ((((RA1.out.AB (.slice pv mv cv)).1.AB (.slice pu mu cu)).2.1.AB (.slice (Gn ⟨wr.heap.size,0,Hn⟩) c.Zo (c.Zo+2:Nat))).2.2.1.AB (.slice Hn 0 0)).2.2.2;refine bodyPost_ret (results_cell_row (P:=prog) rfl _ _ (w.heap.size+1) 28 #[.slice pv mv cv,.slice pu mu cu,.slice (Gn ⟨wr.heap.size,0,Hn⟩) c.Zo (c.Zo+2:Nat),.slice Hn 0 0] (0,0) _ rfl XQ underlying28 rfl Tz) rfl ?_;have CX:=YA.mk' (w:=w) (wr:=wr) (wF:=((((wA.setCell ⟨w.heap.size+1+1,2,Hn⟩ (.slice (Gn ⟨wr.heap.size,0,Hn⟩) c.Zo (c.Zo+2:Nat))).setCell ⟨w.heap.size+1,0,Hn⟩ (.slice pv mv cv)).setCell ⟨w.heap.size+1,1,Hn⟩ (.slice pu mu cu)).setCell ⟨w.heap.size+1,2,Hn⟩ (.slice (Gn ⟨wr.heap.size,0,Hn⟩) c.Zo (c.Zo+2:Nat))).setCell ⟨w.heap.size+1,3,Hn⟩ (.slice Hn 0 0)) (hb:=wr.heap.size) (db:=wr.heap.size+1) E0 HI.out HO.out HG.out HIr.out HOr.out HOw.out (fun j h1 h2=>by rw[EI _ _ _ _ _ _ j E0];rw[yn _ _ _ _ A1];exact kD.out.block j h2) (fun _=>⟨_,(((((HRA.out.other _ _ A1).other _ _ A1).other _ _ A1).other _ _ A1).other _ _ A1)⟩) (fun h=>by rw[qO.out]at h;cases h) (fun _=>E0) (fun _=>E0) (fun _ _=>E0);exact⟨_,_,_,_,rfl,d6,PD ((HBw.out.trans (kD.out.mono E0)).setCell A1 _) E0 _ _ _ _⟩
      |some q=>
       obtain⟨bq3,oq3,sq3⟩:=q;have qO:Hid (c.Vz=Tm):=by
        show _=_;cases h:c.Vz
        ·rfl
        ·exact absurd (n3.2 h) P0
       clear zX n3;go_wp2_with fail;have HBS:Hid (Sm w.heap.size w (wA.setCell ⟨w.heap.size+1+1,2,Hn⟩ (.slice (Gn ⟨wr.heap.size,0,Hn⟩) c.Zo (c.Zo+2:Nat)))):=(HBw.out.trans (kD.out.mono E0)).setCell A1 _;refine(KH (Gn ⟨bq3,oq3,sq3⟩) c.nD Lq c.dv _ (S3'.out.below HBS.out) P0 B3.out).mono ?_;rintro e wD ⟨he,W10,iK,mQ⟩;have uy:(wA.setCell ⟨w.heap.size+1+1,2,Hn⟩ (.slice (Gn ⟨wr.heap.size,0,Hn⟩) c.Zo (c.Zo+2:Nat))).heap.size=wr.heap.size+1:=by rw[size_setCell];exact zy.out
       rw[uy]at he W10 mQ;subst he;have HBD:Hid (Sm (wr.heap.size+1) (wA.setCell ⟨w.heap.size+1+1,2,Hn⟩ (.slice (Gn ⟨wr.heap.size,0,Hn⟩) c.Zo (c.Zo+2:Nat))) wD):=iK.mono E0;have HZD:Hid (wD.heap.size=wr.heap.size+1+1):=W10;have Fk0:wr.heap.size+1<wD.heap.size:=E0;have HRD:Hid (Tn wD (wr.heap.size+1) ((c.nD+2)*1) 3 (fun j=>.int .i64 (uq 1 c.nD c.dv j))):=mQ;have HRC:Hid (Tn wD wr.heap.size ((c.Zo+2)*3) 138 (fun j=>.int .i64 (uq 3 c.Zo c.ch j))):=(HRA.out.other _ _ A1).below HBD.out E0;have R2D:=RA2.out.below HBD.out E0;have EX:=RA1.out.below HBD.out E0;have R0D:=RA0.out.below HBD.out E0;clear iK mQ W10 m0 m1 m2 m3 z0 z1 z2 z3 t0 t1 t2 t3 t0f t1f t2f t3f z2f z3f uy;obtain⟨m0,m1,m2,m3⟩:=R0D.at4;obtain⟨z0,z1,z2,z3⟩:=R2D.at4;obtain⟨t0,t1,t2,t3⟩:=EX.at4;have z3f:=R2D.frozen 3;have t0f:=EX.frozen 0;have t1f:=EX.frozen 1;have t2f:=EX.frozen 2;have t3f:=EX.frozen 3;have RF:Hid (Tn (wD.setCell ⟨w.heap.size+1+1,3,Hn⟩ (.slice (Gn ⟨wr.heap.size+1,0,Hn⟩) c.nD (c.nD+2:Nat))) (w.heap.size+1) 4 28 (cells4 (.slice Hn 0 0) (.slice Hn 0 0) (.slice Hn 0 0) (.slice Hn 0 0))):=EX.other _ _ P0;clear R0D R2D EX;have vn0:Hid (∀j,w.heap.size+3<=j->j<wr.heap.size->wD.heap[j]?=wr.heap[j]?):=fun j h1 h2=>by
        rw[HBD.out.block j E0,yn _ _ _ _ A1];exact kD.out.block j h2
       have HBF:Hid (Sm w.heap.size w wD):=HBS.out.trans (HBD.out.mono E0);go_wp2_with fail;have XQ:=iD ((((RF.out.AB (.slice pv mv cv)).1.AB (.slice pu mu cu)).2.1.AB (.slice (Gn ⟨wr.heap.size,0,Hn⟩) c.Zo (c.Zo+2:Nat))).2.2.1.AB (.slice (Gn ⟨wr.heap.size+1,0,Hn⟩) c.nD (c.nD+2:Nat))).2.2.2;refine bodyPost_ret (results_cell_row (P:=prog) rfl _ _ (w.heap.size+1) 28 #[.slice pv mv cv,.slice pu mu cu,.slice (Gn ⟨wr.heap.size,0,Hn⟩) c.Zo (c.Zo+2:Nat),.slice (Gn ⟨wr.heap.size+1,0,Hn⟩) c.nD (c.nD+2:Nat)] (0,0) _ rfl XQ underlying28 rfl Tz) rfl ?_;have CX:=YA.mk' (w:=w) (wr:=wr) (wF:=((((wD.setCell ⟨w.heap.size+1+1,3,Hn⟩ (.slice (Gn ⟨wr.heap.size+1,0,Hn⟩) c.nD (c.nD+2:Nat))).setCell ⟨w.heap.size+1,0,Hn⟩ (.slice pv mv cv)).setCell ⟨w.heap.size+1,1,Hn⟩ (.slice pu mu cu)).setCell ⟨w.heap.size+1,2,Hn⟩ (.slice (Gn ⟨wr.heap.size,0,Hn⟩) c.Zo (c.Zo+2:Nat))).setCell ⟨w.heap.size+1,3,Hn⟩ (.slice (Gn ⟨wr.heap.size+1,0,Hn⟩) c.nD (c.nD+2:Nat))) (hb:=wr.heap.size) (db:=wr.heap.size+1) E0 HI.out HO.out HG.out HIr.out HOr.out HOw.out (fun j h1 h2=>by rw[EI _ _ _ _ _ _ j E0];rw[yn _ _ _ _ A1];exact vn0.out j h1 h2) (fun _=>⟨_,(((((HRC.out.other _ _ A1).other _ _ A1).other _ _ A1).other _ _ A1).other _ _ A1)⟩) (fun _=>⟨_,(((((HRD.out.other _ _ A1).other _ _ A1).other _ _ A1).other _ _ A1).other _ _ A1)⟩) (fun _=>E0) (fun _=>E0) (fun _ _=>E0);exact⟨_,_,_,_,rfl,d6,PD (HBF.out.setCell A1 _) E0 _ _ _ _⟩
def RQ(j:Nat):Value:=if j%3=2 then .int .i64 0 else .slice Hn 0 0
theorem eX(j:Nat):(Value.agg #[.slice Hn 0 0,.slice Hn 0 0,.int .i64 0]).cells[j%(Value.agg #[.slice Hn 0 0,.slice Hn 0 0,.int .i64 0]).cells.size]! = RQ j:=by
 have h:(Value.agg #[.slice Hn 0 0,.slice Hn 0 0,.int .i64 0]).cells=#[.slice Hn 0 0,.slice Hn 0 0,.int .i64 0]:=rfl;rw[h];have:j%3=0\/j%3=1\/j%3=2:=E0;unfold RQ;rcases this with e|e|e<;>simp[e]
theorem fX(j:Nat):(Value.slice Hn 0 0).cells[j%(Value.slice Hn 0 0).cells.size]! = Value.slice Hn 0 0:=by
 have h:(Value.slice Hn 0 0).cells=#[.slice Hn 0 0]:=rfl;rw[h];have:j%1=0:=E0;simp[this]
def BD(n:Nat)(F:Nat->Dn)(j:Nat):Value:=if j<n*3 then F j else if j%3=2 then .int .i64 (-77)else .slice Hn 0 0
def BJ(m:Nat)(G:Nat->Dn)(j:Nat):Value:=if j<m then G j else .slice Hn 0 0
def xI(n k:Nat)(F:Nat->Dn)(j:Nat):Value:=if j<n*3 then F j else if j<k*3 then (if j%3=2 then .int .i64 (-77)else .slice Hn 0 0)else RQ j
theorem jc0(n k j:Nat)(F:Nat->Dn)(hk:n<=k):(if j=k*3+2 then Value.int .i64 (-77)else if j=k*3+1 then .slice Hn 0 0 else if j=k*3 then .slice Hn 0 0 else xI n k F j)=xI n (k+1) F j:=by
 unfold xI;repeat' split
 all_goals first
  |rfl
  |(exfalso;omega)
theorem S20(n m yp gp:Nat)(p0 p1:Option Vm)(F G:Nat->Dn)(v2 v3:Dn)(w:En)(s0:Sl w p0 (n*3) F)(s1:Sl w p1 m G)(z0:p0=Hn->n=0)(z1:p1=Hn->m=0)(o0:∀j,j<n*3->(F j).oneCell'=Um)(o1:∀j,j<m->(G j).oneCell'=Um)
  (b0:56*n<=140737488355328)(b1:24*m<=140737488355328):
  Zm prog 37 #[.agg #[.slice p0 n yp,.slice p1 m gp,v2,v3]] w fun e w'=>
   e=.returned (.tuple #[.slice (Gn ⟨w.heap.size+1,0,Hn⟩) (n+2:Nat) (n+2:Nat),.slice (Gn ⟨w.heap.size+1+1,0,Hn⟩) (m+2:Nat) (m+2:Nat)])/\w'.heap.size=w.heap.size+1+1+1/\Sm w.heap.size w w'/\
   Tn w' (w.heap.size+1) ((n+2)*3) 53 (BD n F)/\Tn w' (w.heap.size+1+1) (m+2) 100 (BJ m G):=by
 have hb0:n<=2513169434916:=E0;have Dx:m<=5864062014805:=E0;have S0:Hid (Sl w p0 (n*3) F):=s0;have S1:Hid (Sl w p1 m G):=s1;have Z0:Hid (p0=Hn->n=0):=z0;have Z1:Hid (p1=Hn->m=0):=z1;have O0:Hid (∀j,j<n*3->(F j).oneCell'=Um):=o0;have O1:Hid (∀j,j<m->(G j).oneCell'=Um):=o1;have M0:Hid (56*(n+2)<=281474976710656):=by show _<=_;omega
 have M1:Hid (24*(m+2)<=281474976710656):=by show _<=_;omega
 clear s0 s1 z0 z1 o0 o1 b0 b1
 go_enter func37,ntmps37
 go_wp2_with (at_make;refine ot _ rfl _ _ 23 rfl 53 _ 3 56 underlying23 TA _ _ _ _ (n+2) rfl rfl E0 E0 M0.out Y1 RQ (fun j _=>eX j) ?_)
 intro w1 Bv Jx Lu;have R0:=(row4 w (.slice p0 n yp) (.slice p1 m gp) v2 v3 28).below Lu P0;obtain⟨x0,x1,-,-⟩:=R0.at4;have Ax:Hid (Sm (w.heap.size+1) (w.alloc (.cells #[.slice p0 n yp,.slice p1 m gp,v2,v3] 28)) w1):=Lu.mono P0;have vH:Hid (w1.heap.size=w.heap.size+1+1):=by show _=_;simpa using Jx
 have FB:Hid (Tn w1 (w.heap.size+1) ((n+2)*3) 53 RQ):=by show Tn _ _ _ _ _;simpa using Bv
 clear Bv Jx Lu R0;go_wp2_with (refine kt rfl _ _ _ _ rfl 53 _ 3 56 underlying23 TA (w.heap.size+1) (n+2) (n+2) p0 n yp rfl rfl ((n+2)*3) 53 RQ F E0 FB.out E0 (S0.out.below (Vo Ax.out)) O0.out Z0.out ?_);intro w2 eB jF uy;have y0:=jF.cell x0 P0;have y1:=jF.cell x1 P0;have Pz:Hid (Sm (w.heap.size+1) (w.alloc (.cells #[.slice p0 n yp,.slice p1 m gp,v2,v3] 28)) w2):=Ax.out.grown jF (by have:=vH.out;omega) (fun k hk=>X4);have HZ2:Hid (w2.heap.size=w.heap.size+1+1):=uy.trans vH.out;have AL:Hid (Tn w2 (w.heap.size+1) ((n+2)*3) 53 (xI n n F)):=eB.congr (fun j _=>by unfold xI;by_cases h:j<n*3<;>simp[h]);clear eB jF uy x0 x1 Ax vH FB;go_wp2_with fail;go_loopw [5] (fun i wr=>∃k:Nat,n<=k/\k<=n+2/\i=.int .i64 k/\Hid (wr.heap.size=w.heap.size+1+1)/\Hid (Sm (w.heap.size+1) (w.alloc (.cells #[.slice p0 n yp,.slice p1 m gp,v2,v3] 28)) wr)/\Hid (Tn wr (w.heap.size+1) ((n+2)*3) 53 (xI n k F)))
  (fun i _=>n+2-(intOf i).toNat)
 case atStart=>exact⟨n,Om _,E0,rfl,HZ2,Pz,AL⟩
 case round=>
  obtain⟨k,xG,jG,rfl,HZ,HB,HR⟩:=hrel;by_cases yo:k<n+2
  ·have HP:Hid (∀j,_):=fun j=>jc0 n k j F xG;refine ei fun c0 c1 c2 f0 f1 f2=>?_;go_wp2
   go_roundw
   case rel=>exact⟨k+1,E0,E0,E1,H7,((HB.out.setCell N8 _).setCell N8 _).setCell N8 _,(((HR.out.set (k*3) _).set (k*3+1) _).set (k*3+2) _).congr (fun j _=>HP.out j)⟩
   case measure=>simp[intOf];omega
  ·obtain rfl:k=n+2:=by omega
   clear yo xG jG;obtain⟨x0,x1,-,-⟩:=NG HB.out;have hl0:w.heap.size<wr.heap.size:=Wm x0;go_wp2_with (at_make;refine ot _ rfl _ _ 24 rfl 100 _ 1 24 underlying24 jI _ _ _ _ (m+2) rfl rfl E0 E0 M1.out Y1 (fun _=>.slice Hn 0 0) (fun j _=>fX j) ?_);intro w3 Id0 Bk0 U_;have q1:=(U_.cell (p:=⟨w.heap.size,1,Hn⟩) hl0).trans x1;have zL:Hid (Sm (w.heap.size+1) (w.alloc (.cells #[.slice p0 n yp,.slice p1 m gp,v2,v3] 28)) w3):=FH HB.out U_;have HZ3:Hid (w3.heap.size=w.heap.size+1+1+1):=by show _=_;rw[Bk0,HZ.out]
   have HR3:Hid (Tn w3 wr.heap.size (m+2) 100 (fun _=>.slice Hn 0 0)):=by show Tn _ _ _ _ _;simpa using Id0
   have HC3:Hid (Tn w3 (w.heap.size+1) ((n+2)*3) 53 (xI n (n+2) F)):=HR.out.below U_ (by have:=HZ.out;omega);clear Id0 Bk0 U_ x0 x1 HR HB;go_wp2_with (refine kt rfl _ _ _ _ rfl 100 _ 1 24 underlying24 jI wr.heap.size (m+2) (m+2) p1 m gp rfl rfl (m+2) 100 (fun _=>.slice Hn 0 0) G E0 HR3.out E0 (by rw[Nat.mul_one];exact S1.out.below (Vo zL.out)) (by simpa using O1.out) Z1.out ?_);intro w4 Jd0 uf0 Ck0;have HB4:Hid (Sm w.heap.size w w4):=(Vo zL.out).grown uf0 (by have:=HZ3.out;omega) (fun k hk=>by simp at hk;have:=HZ.out;omega);have HC4:Hid (Tn w4 (w.heap.size+1) ((n+2)*3) 53 (xI n (n+2) F)):=HC3.out.of_heap (uf0.block _ (by have:=HZ3.out;omega) (by have:=HZ.out;simp;omega));have HZ4:Hid (w4.heap.size=w.heap.size+1+1+1):=Ck0.trans HZ3.out;have HR4:Hid (Tn w4 wr.heap.size (m+2) 100 (BJ m G)):=Jd0.congr (fun j _=>by unfold BJ;by_cases h:j<m<;>simp[h]);clear Jd0 uf0 Ck0 q1;go_wp2_with fail
   go_ret2
   have hEq:wr.heap.size=w.heap.size+1+1:=HZ.out;rw[<-hEq];exact⟨rfl,HZ4.out.trans (by rw[hEq]),HB4.out,HC4.out.congr (fun j hj=>by unfold xI BD;by_cases h:j<n*3<;>simp[h,hj]),HR4.out⟩
structure EG(w w':En)(a b:Nat):Prop where
 os:w'.os=w.os
 tape:w'.tape=w.tape
 output:w'.output=w.output
 size:w.heap.size<=w'.heap.size
 block:∀k,k<w.heap.size->k≠a->k≠b->w'.heap[k]?=w.heap[k]?
theorem EG.set1{w w':En}{a b:Nat}(h:EG w w' a b)(j:Nat)(v:Dn):EG w (w'.setCell ⟨a,j,Hn⟩ v) a b:=
 ⟨h.os,h.tape,h.output,j6,fun k h1 h2 h3=>by rw[yn _ _ _ _ h2];exact h.block k h1 h2 h3⟩
theorem EG.set2{w w':En}{a b:Nat}(h:EG w w' a b)(j:Nat)(v:Dn):EG w (w'.setCell ⟨b,j,Hn⟩ v) a b:=
 ⟨h.os,h.tape,h.output,j6,fun k h1 h2 h3=>by rw[yn _ _ _ _ h3];exact h.block k h1 h2 h3⟩
theorem EG.drewN{w w':En}{a b:Nat}(h:EG w w' a b)(n:Nat):EG w (w'.drewN n) a b:=⟨h.os,h.tape,h.output,h.size,h.block⟩
theorem EG.below{w0 w w':En}{a b:Nat}(h:EG w w' a b)(hb:Sm w0.heap.size w0 w)(ha:w0.heap.size<=a)(hbb:w0.heap.size<=b):Sm w0.heap.size w0 w':=
 hb.trans ⟨h.os,h.tape,h.output,h.size,fun k hk=>h.block k (Lm hk hb.size) E0 E0⟩
def Nq(w:En)(g m t k:Nat)(f:Nat->Dn):Prop:=∃f',Tn w g m t f'/\∀j,k<=j->j<m->f' j=f j
theorem Nq.of{w:En}{g m t:Nat}{f:Nat->Dn}(h:Tn w g m t f)(k:Nat):Nq w g m t k f:=⟨f,h,fun _ _ _=>rfl⟩
theorem Nq.cell{w:En}{g m t k:Nat}{f:Nat->Dn}(h:Nq w g m t k f){j:Nat}(hk:k<=j)(hj:j<m):w.cell? ⟨g,j,Hn⟩=Gn (f j):=by
 obtain⟨f',h1,h2⟩:=h;rw[h1.cell hj,h2 j hk hj]
theorem Nq.frozen{w:En}{g m t k:Nat}{f:Nat->Dn}(h:Nq w g m t k f)(j:Nat):w.frozen? ⟨g,j,Hn⟩=false:=by
 obtain⟨f',h1,h2⟩:=h;exact h1.frozen j
theorem Nq.set{w:En}{g m t k:Nat}{f:Nat->Dn}(h:Nq w g m t k f)(j:Nat)(v:Dn)(hj:j<k):Nq (w.setCell ⟨g,j,Hn⟩ v) g m t k f:=by
 obtain⟨f',h1,h2⟩:=h;exact⟨_,h1.set j v,fun i hi him=>by rw[if_neg E0];exact h2 i hi him⟩
theorem Nq.mono{w:En}{g m t k k':Nat}{f:Nat->Dn}(h:Nq w g m t k f)(hk:k<=k'):Nq w g m t k' f:=by
 obtain⟨f',h1,h2⟩:=h;exact⟨f',h1,fun i hi him=>h2 i E0 him⟩
theorem Nq.drewN{w:En}{g m t k:Nat}{f:Nat->Dn}(h:Nq w g m t k f)(n:Nat):Nq (w.drewN n) g m t k f:=h
theorem jy(nl:Bool)(b n:Nat)(h:nl=Um->n=0):∃q cap,Gp nl b n=.slice q n cap:=by
 cases nl
 ·exact⟨_,_,rfl⟩
 ·obtain rfl:=h rfl;exact⟨_,_,rfl⟩
theorem QV(c:Ur)(v0 v1 v2 v3:Dn)(gC gT:Nat)(cb rb:Nat->Nat)(w0 w:En)(h:Zx w0 v0 v1 v2 v3 c)(hb:Sm w0.heap.size w0 w)(h1:w0.heap.size<=gC)(h2:w0.heap.size<=gT)(Yp:gC≠gT)
  (rC:Tn w gC ((c.nC+2)*3) 53 (BD c.nC (Du c cb)))(rT:Tn w gT (c.nT+2) 100 (BJ c.nT (fun i=>Gp Tm (rb i) (c.nRow i)))):
  Zm prog 39 #[.slice (Gn ⟨gC,0,Hn⟩) (c.nC+2:Nat) (c.nC+2:Nat),.slice (Gn ⟨gT,0,Hn⟩) (c.nT+2:Nat) (c.nT+2:Nat),.agg #[v0,v1,v2,v3]] w fun e w'=>e=.returned (.bool Um)/\EG w w' gC gT:=by
 obtain⟨⟨p0,yp,F0,rfl,-,n0,z0,b0,s0,k0⟩,⟨p1,gp,F1,rfl,-,n1,z1,b1,s1,k1⟩,-,-⟩:=h;have S0:Hid (Sl w0 p0 (c.nC*3) F0):=s0;have K0:Hid (∀i,i<c.nC->FC w0 (F0 (i*3)) (c.Jt i) (c.Ho i) 4 (c.code i) 32/\FC w0 (F0 (i*3+1)) (c.Vt i) (c.Hq i) 1 (c.img i) 8/\F0 (i*3+2)=.int .i64 (c.lim i)):=k0;have S1:Hid (Sl w0 p1 c.nT F1):=s1;have K1:Hid (∀i,i<c.nT->FC w0 (F1 i) (c.EJ i) (c.nRow i) 2 (c.row i) 16):=k1;refine Wj fun hb0 Dx=>?_;have hgC:=rC.lt;have hgT:=rT.lt;have IG:Hid (Sm w0.heap.size w0 w):=hb;have HRC:Hid (Tn w gC ((c.nC+2)*3) 53 (BD c.nC (Du c cb))):=rC;have HRT:Hid (Tn w gT (c.nT+2) 100 (BJ c.nT (fun i=>Gp Tm (rb i) (c.nRow i)))):=rT;have HNE:Hid (gC≠gT):=Yp;clear s0 k0 s1 k1 n0 z0 n1 z1 b0 b1 rC rT hb Yp
 go_enter func39,ntmps39
 go_wp2_with fail
 refine U9 fun HA=>?_;go_loopw [7,8] (fun o i wr=>∃k:Nat,k<=c.nC+2/\i=.int .i64 k/\o=.bool Um/\Hid (EG w wr gC gT)/\Hid (Tn wr w.heap.size 4 28 (cells4 (.slice p0 c.nC yp) (.slice p1 c.nT gp) v2 v3))/\Hid (Nq wr gC ((c.nC+2)*3) 53 (k*3) (BD c.nC (Du c cb)))/\Hid (Tn wr gT (c.nT+2) 100 (BJ c.nT (fun i=>Gp Tm (rb i) (c.nRow i))))) (fun _ i _=>c.nC+2-(intOf i).toNat)
 case atStart=>exact⟨0,Pm _,rfl,rfl,⟨rfl,rfl,rfl,P0,fun j hj _ _=>(HA.out _).block j hj⟩,row4 _ _ _ _ _ _,Nq.of (HRC.out.alloc _) _,HRT.out.alloc _⟩
 case round=>
  obtain⟨k,hk,rfl,rfl,Pz,DX,HF,HT⟩:=hrel;obtain⟨x0,x1,-,-⟩:=DX.out.at4;have hx:w.heap.size<wr.heap.size:=Wm x0;by_cases yo:k<c.nC+2
  ·have a0:=HF.out.cell (j:=k*3) E0 E0;have a1:=HF.out.cell (j:=k*3+1) E0 E0;have a2:=HF.out.cell (j:=k*3+2) E0 E0;have f0:=HF.out.frozen (k*3);have f1:=HF.out.frozen (k*3+1);have f2:=HF.out.frozen (k*3+2);by_cases iu:k<c.nC
   ·have Aw:Hid (Sm w0.heap.size w0 wr):=Pz.out.below IG.out h1 h2;obtain⟨b,off,rfl,hc⟩:=(S0.out.below Aw.out).at E0;refine Vb fun c0 c1 c2=>?_;rw[<-Jm]at c1 c2;clear hc;obtain⟨⟨pc,Hy,R_,-,nc,zc,bc,-⟩,⟨pi,KC,hF1,-,ni,zi,bi,-⟩,Gs⟩:=K0.out k iu;rw[R_]at c0;rw[hF1]at c1;rw[Gs]at c2;obtain⟨e0,e1,e2⟩:=Qx c cb k;obtain⟨q0,t0,l0⟩:=jy (c.Jt k) (cb k) (c.Ho k) (fun h=>(zc (nc.2 h)).1);obtain⟨q1,t1,l1⟩:=jy (c.Vt k) (cb k+1) (c.Hq k) (fun h=>(zi (ni.2 h)).1);have i0:BD c.nC (Du c cb) (k*3)=.slice q0 (c.Ho k) t0:=by unfold BD;rw[if_pos E0,e0,l0]
    have i1:BD c.nC (Du c cb) (k*3+1)=.slice q1 (c.Hq k) t1:=by unfold BD;rw[if_pos E0,e1,l1]
    have i2:BD c.nC (Du c cb) (k*3+2)=.int .i64 (c.lim k):=by unfold BD;rw[if_pos E0,e2]
    rw[i0]at a0;rw[i1]at a1;rw[i2]at a2;have hnc:c.Ho k<=4398046511104:=E0;have hni:c.Hq k<=17592186044416:=E0;clear R_ hF1 Gs nc zc bc ni zi bi e0 e1 e2 l0 l1 i0 i1 i2;go_wp2_with fail;go_quiet (fail);go_wp2_with fail;exact⟨⟨k+1,E0,E1,rfl,(((Pz.out.drewN _).set1 _ _).set1 _ _).set1 _ _,(((DX.out.drewN _).other _ _ A1).other _ _ A1).other _ _ A1,
     (((((HF.out.drewN _).mono E0).set _ _ E0).set _ _ E0).set _ _ E0:Nq _ _ _ _ ((k+1)*3) _),(((HT.out.drewN _).other _ _ B5).other _ _ B5).other _ _ B5⟩,U1⟩
   ·have i0:BD c.nC (Du c cb) (k*3)=.slice Hn 0 0:=by unfold BD;rw[if_neg E0,if_neg E0]
    have i1:BD c.nC (Du c cb) (k*3+1)=.slice Hn 0 0:=by unfold BD;rw[if_neg E0,if_neg E0]
    have i2:BD c.nC (Du c cb) (k*3+2)=.int .i64 (-77):=by unfold BD;rw[if_neg E0,if_pos E0]
    rw[i0]at a0;rw[i1]at a1;rw[i2]at a2;clear i0 i1 i2;go_wp2_with fail;exact⟨⟨k+1,E0,E1,rfl,((Pz.out.set1 _ _).set1 _ _).set1 _ _,((DX.out.other _ _ A1).other _ _ A1).other _ _ A1,
     ((((HF.out.mono E0).set _ _ E0).set _ _ E0).set _ _ E0:Nq _ _ _ _ ((k+1)*3) _),((HT.out.other _ _ B5).other _ _ B5).other _ _ B5⟩,U1⟩
  ·obtain rfl:k=c.nC+2:=by omega
   clear yo hk;have jn0:=Pz;have Nn0:=DX;have HT0:=HT;clear Pz DX HT HF x0 x1 hx;go_wp2_with fail;go_loopw [7,9] (fun o i wr=>∃k:Nat,k<=c.nT+2/\i=.int .i64 k/\o=.bool Um/\Hid (EG w wr gC gT)/\Hid (Tn wr w.heap.size 4 28 (cells4 (.slice p0 c.nC yp) (.slice p1 c.nT gp) v2 v3))/\Hid (Nq wr gT (c.nT+2) 100 k (BJ c.nT (fun i=>Gp Tm (rb i) (c.nRow i))))) (fun _ i _=>c.nT+2-(intOf i).toNat)
   case atStart=>exact⟨0,Pm _,rfl,rfl,jn0,Nn0,Nq.of HT0.out _⟩
   case round=>
    obtain⟨k,hk,rfl,rfl,Pz,DX,HF⟩:=hrel;obtain⟨x0,x1,-,-⟩:=DX.out.at4;have hx:w.heap.size<wr.heap.size:=Wm x0;by_cases yo:k<c.nT+2
    ·have a0:=HF.out.cell (j:=k) E0 E0;have f0:=HF.out.frozen k;by_cases iu:k<c.nT
     ·have Aw:Hid (Sm w0.heap.size w0 wr):=Pz.out.below IG.out h1 h2;obtain⟨b,off,rfl,hc⟩:=(S1.out.below Aw.out).at E0;have c0:=hc k E0;clear hc;obtain⟨pr,BO,R_,-,-,-,br,-⟩:=K1.out k iu;rw[R_]at c0;have i0:BJ c.nT (fun i=>Gp Tm (rb i) (c.nRow i)) k=.slice (Gn ⟨rb k,0,Hn⟩) (c.nRow k) (c.nRow k+2):=by unfold BJ;rw[if_pos iu];rfl
      rw[i0]at a0;have hnr:c.nRow k<=8796093022208:=E0;clear R_ br i0;go_wp2_with fail;go_quiet (fail);go_wp2_with fail;exact⟨⟨k+1,E0,E1,rfl,(Pz.out.drewN _).set2 _ _,(DX.out.drewN _).other _ _ A1,(((HF.out.drewN _).mono E0).set _ _ E0:Nq _ _ _ _ (k+1) _)⟩,U1⟩
     ·have i0:BJ c.nT (fun i=>Gp Tm (rb i) (c.nRow i)) k=.slice Hn 0 0:=by unfold BJ;rw[if_neg iu]
      rw[i0]at a0;clear i0;go_wp2_with fail;exact⟨⟨k+1,E0,E1,rfl,Pz.out.set2 _ _,DX.out.other _ _ A1,((HF.out.mono E0).set _ _ E0:Nq _ _ _ _ (k+1) _)⟩,U1⟩
    ·obtain rfl:k=c.nT+2:=by omega
     go_wp2_with fail
     go_ret;exact⟨rfl,Pz.out⟩
structure Jq(S:Nat->Prop)(w w':En):Prop where
 os:w'.os=w.os
 tape:w'.tape=w.tape
 output:w'.output=w.output
 size:w.heap.size<=w'.heap.size
 block:∀k,k<w.heap.size->¬S k->w'.heap[k]?=w.heap[k]?
theorem Jq.refl(S:Nat->Prop)(w:En):Jq S w w:=⟨rfl,rfl,rfl,Om _,fun _ _ _=>rfl⟩
theorem Jq.trans{S T U:Nat->Prop}{a b c:En}(h:Jq S a b)(k:Jq T b c)(hs:∀j,S j->U j)(ht:∀j,j<a.heap.size->T j->U j):Jq U a c:=
 ⟨k.os.trans h.os,k.tape.trans h.tape,k.output.trans h.output,Qm h.size k.size,fun j hj hn=>by
  rw[k.block j (Lm hj h.size) (fun x=>hn (ht j hj x))];exact h.block j hj (fun x=>hn (hs j x))⟩
theorem Jq.of_below{w w':En}(h:Sm w.heap.size w w')(S:Nat->Prop):Jq S w w':=⟨h.os,h.tape,h.output,h.size,fun k hk _=>h.block k hk⟩
theorem Jq.zN{w w':En}{g:Nat}(h:w.grownBy w' (Gn g)):Jq (fun j=>j=g) w w':=⟨h.os,h.tape,h.output,h.size,fun k hk hn=>h.block k hk D5⟩
theorem Jq.mono{S T:Nat->Prop}{w w':En}(h:Jq S w w')(hs:∀j,S j->T j):Jq T w w':=⟨h.os,h.tape,h.output,h.size,fun k hk hn=>h.block k hk (fun x=>hn (hs k x))⟩
theorem Jq.cell{S:Nat->Prop}{w w':En}(h:Jq S w w'){a:Vm}{v:Dn}(hc:w.cell? a=Gn v)(hn:¬S a.block):w'.cell? a=Gn v:=by
 rw[World.cell?_of_block (w:=w) (h.block a.block (Wm hc) hn)];exact hc
theorem Jq.below{S:Nat->Prop}{w0 w w':En}(h:Jq S w w')(hb:Sm w0.heap.size w0 w)(hs:∀j,S j->w0.heap.size<=j):Sm w0.heap.size w0 w':=
 hb.trans ⟨h.os,h.tape,h.output,h.size,fun k hk=>h.block k (Lm hk hb.size) (fun x=>by have:=hs k x;omega)⟩
theorem Jq.drew{S:Nat->Prop}{w w':En}(h:Jq S w w'):Jq S w w'.drew:=⟨h.os,h.tape,h.output,h.size,h.block⟩
theorem FW{w:En}{b off m g m' t:Nat}{F:Nat->Dn}{f:Nat->Int}(h:∀j,j<m->w.cell? ⟨b,off+j,Hn⟩=Gn (F j))(hm:0<m)(hF:∃p n c,F 0=.slice p n c)(hr:Tn w g m' t (fun j=>.int .i64 (f j))):b≠g:=by
 intro e;subst e;obtain⟨p,n,c,hF⟩:=hF;obtain⟨cs,h1,h2,h3⟩:=hr;have hc:=h 0 hm;rw[cell_of_row w b (off+0) cs t (0,0) h1,hF]at hc;by_cases hl:off+0<m'
 ·rw[h3 _ hl]at hc;simp at hc
 ·rw[Array.getElem?_eq_none E0]at hc;cases hc
section
variable (nl:Bool)(b n:Nat)(z:Nat->Int)(v:Dn)(w:En)
include nl b n z v w
theorem YN(hI:xC w nl b n 4 z)(hs:FC w v nl n 4 z 32):
  Zm prog 70 #[Gp nl b n,v] w fun e w'=>e=.returned (.bool Um)/\Jq (fun j=>nl=Tm/\j=b) w w':=by
 obtain⟨p,cap,rfl,-,h1,h2,h3,h4⟩:=hs;cases nl
 ·obtain⟨ty,hr⟩:=hI rfl;cases p with
  |none=>exact absurd (h1.1 rfl) P0
  |some q=>
   obtain⟨bq,oq,sq⟩:=q;exact(OP b n cap bq oq ty sq z w hr h4 h3).mono fun e w' ⟨g1,g2⟩=>⟨g1,(Jq.zN g2).mono (fun j hj=>⟨rfl,hj⟩)⟩
 ·have hp:=h1.2 rfl;subst hp;obtain⟨rfl,rfl⟩:=h2 rfl;exact(QP w).mono fun e w' ⟨g1,g2⟩=>⟨g1,g2▸Jq.refl _ _⟩
theorem yL(hI:xC w nl b n 1 z)(hs:FC w v nl n 1 z 8):
  Zm prog 71 #[Gp nl b n,v] w fun e w'=>e=.returned (.bool Um)/\Jq (fun j=>nl=Tm/\j=b) w w':=by
 obtain⟨p,cap,rfl,-,h1,h2,h3,h4⟩:=hs;cases nl
 ·obtain⟨ty,hr⟩:=hI rfl;cases p with
  |none=>exact absurd (h1.1 rfl) P0
  |some q=>
   obtain⟨bq,oq,sq⟩:=q;exact(ZN b n cap bq oq ty sq z w hr (by rwa [Nat.mul_one]at h4) h3).mono fun e w' ⟨g1,g2⟩=>⟨g1,(Jq.zN g2).mono (fun j hj=>⟨rfl,hj⟩)⟩
 ·have hp:=h1.2 rfl;subst hp;obtain⟨rfl,rfl⟩:=h2 rfl;exact(aO w).mono fun e w' ⟨g1,g2⟩=>⟨g1,g2▸Jq.refl _ _⟩
theorem RP(hI:xC w Tm b n 2 z)(hs:FC w v nl n 2 z 16):
  Zm prog 72 #[Gp Tm b n,v] w fun e w'=>e=.returned (.bool Um)/\Jq (fun j=>j=b) w w':=by
 obtain⟨p,cap,rfl,-,h1,h2,h3,h4⟩:=hs;obtain⟨ty,hr⟩:=hI rfl;exact(hU b n cap ty p (fun h=>(h2 h).1) z w hr h4 h3).mono fun e w' ⟨g1,g2⟩=>⟨g1,Jq.zN g2⟩
end
def SC(c:Ur)(cb:Nat->Nat)(k j:Nat):Prop:=∃i,i<k/\((c.Jt i=Tm/\j=cb i)\/(c.Vt i=Tm/\j=cb i+1))
def SR(c:Ur)(cb rb:Nat->Nat)(k j:Nat):Prop:=SC c cb c.nC j\/∃i,i<k/\j=rb i
theorem VR{w w':En}{row:Option Nat}(h:w.grownBy w' row):w.grownBy w'.drew row:=⟨h.os,h.tape,h.output,h.size,h.block⟩
theorem ZY:(prog.info? 131).map (fun i=>(i.zero,i.size,i.bytes))=Gn (Gn (.agg #[.int .i64 0,.int .i64 0,.int .i64 0,.int .i64 0,.int .i64 0,.int .i64 0,.int .i64 0,.int .i64 0,.int .i64 0,.int .i64 0,.int .i64 0,.int .i64 0,.int .i64 0,.int .i64 0,.int .i64 0,.int .i64 0,.int .i64 0,.int .i64 0,.int .i64 0,.int .i64 0,.int .i64 0,.slice Hn 0 0,.slice Hn 0 0,.int .i64 0,.int .i64 0,.bool Tm]),26,240):=J0
theorem aZ:(prog.info? 175).map (fun i=>(i.zero,i.size,i.bytes))=Gn (Gn (.agg #[.slice Hn 0 0,.int .i64 0,.bool Tm,.int .i64 0,.int .i64 0]),5,56):=J0
theorem mN{w wr:En}{nl:Bool}{b n:Nat}{z:Nat->Int}(h:xC w nl b n 1 z)(hb:Sm w.heap.size w wr)(hz:nl=Um->n=0):
  ∃qi ci,Gp nl b n=.slice qi n ci/\Sl wr qi n (fun j=>.int .i64 (z j))/\∀b o,qi=Gn ⟨b,o,Hn⟩->b<w.heap.size:=by
 cases nl
 ·obtain⟨ty,hr⟩:=h rfl;refine⟨Gn ⟨b,0,Hn⟩,n+2,rfl,((hr.below hb hr.lt).C00 E0).congr (fun j hj=>O4),fun b' o' e=>?_⟩;have:=Option.some.inj e;simp only[Addr.mk.injEq]at this;rw[<-this.1];exact hr.lt
 ·obtain rfl:=hz rfl;exact⟨Hn,0,rfl,.inl rfl,fun b o e=>I3⟩
open Go.Maps
theorem laidOut:laidOutB prog=true:=J0
theorem B90:231<prog.types.size:=of_decide_eq_true J0
theorem LS:prog.keyTypeAt 3 231=true:=J0
theorem yD:Keyed prog 231:=Keyed.of_law (deep_law_laid laidOut (m:=3) E0 B90 LS (by simp[underlying231]))
theorem dZ:prog.keyType 231=true:=J0
theorem l70:prog.cellsOf 231=3:=J0
theorem O30:∃m,prog.types.size+1=m+2:=⟨prog.types.size-1,by have:=B90;omega⟩
theorem j70:prog.cellsOf 229=1:=J0
theorem k70:prog.cellsOf 3=1:=J0
theorem dY:prog.cellsOf 2=1:=J0
theorem N60(a b c:Int):(Value.agg #[.int .i64 a,.int .i64 b,.int .i64 c]).cells=#[.int .i64 a,.int .i64 b,.int .i64 c]:=rfl
theorem MS(a b c:Int)(ha:(Lit.int .i64 a).wf=Um)(hb:(Lit.int .i64 b).wf=Um)(hc:(Lit.int .i64 c).wf=Um):∃kl,keyOf prog 231 (.agg #[.int .i64 a,.int .i64 b,.int .i64 c])=Gn kl:=by
 obtain⟨m,hm⟩:=O30;unfold keyOf;rw[hm];simp[underlying231,underlying229,underlying3,underlying2,dZ,Value.formed,l70,Program.keyLits,N60,j70,k70,dY,ha,hb,hc]
def Bc0(e k n:Int):Value:=.agg #[.int .i64 e,.int .i64 k,.int .i64 n]
def VI(e k n:Int)(kl:Lit):Prop:=keyOf prog 231 (Bc0 e k n)=Gn kl
theorem ia0{e k n e' k' n':Int}(h:Bc0 e k n=Bc0 e' k' n'):e=e'/\k=k'/\n=n':=by
 simp[Bc0]at h;exact h
theorem VI.inj{e k n e' k' n':Int}{kl:Lit}(h:VI e k n kl)(h':VI e' k' n' kl):e=e'/\k=k'/\n=n':=ia0 (yD.inj h h')
theorem VI.fn{e k n:Int}{kl kl':Lit}(h:VI e k n kl)(h':VI e k n kl'):kl=kl':=Option.some.inj (h.symm.trans h')
def ZA(D:DataW Unit)(c:Ur)(m:Nat):Prop:=
 IsMap D/\∀e kd n kl,VI e kd n kl->
  (Maps.has D kl=Um↔∃i:Nat,i<m/\n=i/\kd=c.ch (i*3)/\(e=1\/e=2))/\
  ∀i:Nat,i<m->n=i->kd=c.ch (i*3)->(e=1->D.atKey kl (.lit (.int .i64 0))=.lit (.int .i64 (c.ch (i*3+1))))/\(e=2->D.atKey kl (.lit (.int .i64 0))=.lit (.int .i64 (c.ch (i*3+2))))
theorem ZA.zero(c:Ur):ZA (.map []) c 0:=by
 refine⟨isMap_empty,fun e kd n kl h=>⟨?_,fun i hi=>absurd hi E0⟩⟩;constructor
 ·intro h;simp[has_eq]at h
 ·rintro⟨i,hi,_⟩;omega
theorem ZA.step{D:DataW Unit}{c:Ur}{m:Nat}{k1 k2:Lit}(h:ZA D c m)(h1:VI 1 (c.ch (m*3)) m k1)(h2:VI 2 (c.ch (m*3)) m k2):
  ZA ((D.put k1 (.lit (.int .i64 (c.ch (m*3+1))))).put k2 (.lit (.int .i64 (c.ch (m*3+2))))) c (m+1):=by
 obtain⟨hM,hD⟩:=h;have i1:WideAt.IsKeyLit k1:=yD.key h1;have i2:WideAt.IsKeyLit k2:=yD.key h2;have h12:k1≠k2:=by
  intro e;subst e;have:=(h1.inj h2).1;omega
 refine⟨(hM.put _ _).put _ _,fun e kd n kl hk=>?_⟩;by_cases e2:kl=k2
 ·subst e2;obtain⟨r1,r2,r3⟩:=hk.inj h2;subst r1 r2 r3;refine⟨⟨fun _=>⟨m,E0,rfl,rfl,.inr rfl⟩,fun _=>has_put_same (hM.put _ _) i2 _⟩,fun i hi hn DY=>⟨fun h=>absurd h E0,fun _=>?_⟩⟩;obtain rfl:i=m:=by omega
  exact atKey_put_same (hM.put _ _) i2 _ _
 ·by_cases e1:kl=k1
  ·subst e1;obtain⟨r1,r2,r3⟩:=hk.inj h1;subst r1 r2 r3;refine⟨⟨fun _=>⟨m,E0,rfl,rfl,.inl rfl⟩,fun _=>?_⟩,fun i hi hn DY=>⟨fun _=>?_,fun h=>absurd h E0⟩⟩
   ·rw[has_put_other h12];exact has_put_same hM i1 _
   ·obtain rfl:i=m:=by omega
    rw[atKey_put_other h12];exact atKey_put_same hM i1 _ _
  ·obtain⟨g1,g2⟩:=hD e kd n kl hk;have Yp:∀i:Nat,i<m+1->n=i->kd=c.ch (i*3)->(e=1\/e=2)->i<m:=by
    intro i hi hn DY he;rcases Nat.lt_or_ge i m with hl|hl
    ·exact hl
    ·obtain rfl:i=m:=by omega
     subst hn DY;rcases he with rfl|rfl
     ·exact absurd (hk.fn h1) e1
     ·exact absurd (hk.fn h2) e2
   rw[has_put_other e2,has_put_other e1];refine⟨⟨fun h=>?_,fun ⟨i,hi,hn,DY,he⟩=>g1.2 ⟨i,Yp i hi hn DY he,hn,DY,he⟩⟩,fun i hi hn DY=>?_⟩
   ·obtain⟨i,hi,r⟩:=g1.1 h;exact⟨i,E0,r⟩
   ·rw[atKey_put_other e2,atKey_put_other e1];exact⟨fun he=>(g2 i (Yp i hi hn DY (.inl he)) hn DY).1 he,fun he=>(g2 i (Yp i hi hn DY (.inr he)) hn DY).2 he⟩
def cy(w:En)(b:Nat)(c:Ur):Prop:=∃n D,w.ownsMap prog 231 (plainElem prog 3) b n D/\ZA D c c.Zo
def zi0(c:Ur)(w:En)(e:Ending)(w':En):Prop:=∃b,e=.returned (.map (Gn b))/\cy w' b c/\Sm w.heap.size w w'
theorem wfi{a:Int}(h0:-9223372036854775808<=a)(h1:a<=9223372036854775807):(Lit.int .i64 a).wf=true:=WalkArith.wf_i64 ⟨h0,h1⟩
theorem YW(c:Ur)(p:Option Vm)(cap:Nat)(w:En)(hs:Sl w p (c.Zo*3) (fun j=>.int .i64 (c.ch j)))(h8:c.Zo<=8)(Yr:Lp (Xz c) c.Zo)(h6:c.nC<=6):
  Zm prog 98 #[.slice p c.Zo cap] w (zi0 c w):=by
 have HS:Hid (Sl w p (c.Zo*3) (fun j=>.int .i64 (c.ch j))):=hs;have HO:Hid (Lp (Xz c) c.Zo):=Yr;clear hs Yr;have Y_:=@run_makeMap prog
 go_enter func98,ntmps98
 go_wp2_with fail
 go_loopw [9] (fun i wr=>∃k:Nat,k<=c.Zo/\i=.int .i64 k/\Hid (Sm w.heap.size w wr)/\Hid (∃D,wr.ownsMap prog 231 (plainElem prog 3) w.heap.size (2*k) D/\ZA D c k)) (fun i _=>c.Zo-(intOf i).toNat)
 case atStart=>exact⟨0,Pm _,rfl,(Below.refl _ _).alloc N8 _,⟨_,World.ownsMap_made _ _ _ _,ZA.zero c⟩⟩
 case round=>
  obtain⟨k,hk,rfl,HW,HM⟩:=hrel;by_cases yo:k<c.Zo
  ·obtain⟨b,off,rfl,hc⟩:=(HS.out.below HW.out).at E0;refine Vb fun c0 c1 c2=>?_;refine Ah fun Jv=>?_;have ju:w.heap.size<=wr.heap.size:=HW.out.size;rw[<-Jm]at c1 c2;clear hc;obtain⟨D,Io,hD⟩:=HM.out;obtain⟨g1,⟨g2,g3⟩,⟨g4,g5⟩,g6⟩:=HO.out k yo;obtain⟨k1,xG⟩:=MS 1 (c.ch (k*3)) k (wfi E0 E0) (wfi E0 E0) (wfi E0 E0);obtain⟨k2,jG⟩:=MS 2 (c.ch (k*3)) k (wfi E0 E0) (wfi E0 E0) (wfi E0 E0);have HD:Hid (ZA ((D.put k1 (.lit (.int .i64 (c.ch (k*3+1))))).put k2 (.lit (.int .i64 (c.ch (k*3+2))))) c (k+1)):=hD.step xG jG;have rO:Hid (wr.ownsMap prog 231 (plainElem prog 3) w.heap.size (2*k) D):=Io;have HK1:Hid (keyOf prog 231 (.agg #[.int .i64 1,.int .i64 (c.ch (k*3)),.int .i64 k])=Gn k1):=xG;have HK2:Hid (keyOf prog 231 (.agg #[.int .i64 2,.int .i64 (c.ch (k*3)),.int .i64 k])=Gn k2):=jG;have W1:Hid ((Lit.int .i64 (c.ch (k*3+1))).wf=Um):=wfi E0 E0;have W2:Hid ((Lit.int .i64 (c.ch (k*3+2))).wf=Um):=wfi E0 E0;clear Io hD xG jG g1 g2 g3 g4 g5 g6;go_wp2_with (at_mapUpdate;refine wpList_mapUpdate_own _ rfl _ _ _ 204 rfl 231 3 yD underlying204 _ w.heap.size (2*k) D rfl (rO.out.alloc _) (by unfold maxLen;omega) _ _ k1 rfl rfl HK1.out _ [] (plainElem_int underlying3 W1.out) ?_);intro w1 kq uo;have Av:w.heap.size<wr.heap.size:=rO.out.lt;obtain⟨y0,_,y2⟩:=Hi0 (w:=wr) (Below.refl _ (wr.alloc (.cells #[.int .i64 (c.ch (k*3)),.int .i64 (c.ch (k*3+1)),.int .i64 (c.ch (k*3+2))] 138)));have x0:=uo.cell y0 A1;have x2:=uo.cell y2 A1;have HW1:Hid (Sm w.heap.size w w1):=(HW.out.alloc ju _).grown uo A1 (fun j hj=>by cases hj;exact Om _);have li0:Hid (w1.ownsMap prog 231 (plainElem prog 3) w.heap.size (2*k+1) (D.put k1 (.lit (.int .i64 (c.ch (k*3+1)))))):=kq;clear y0 y2 kq uo c0 c1 c2 rO;go_wp2_with (at_mapUpdate;refine wpList_mapUpdate_own _ rfl _ _ _ 204 rfl 231 3 yD underlying204 _ w.heap.size (2*k+1) (D.put k1 (.lit (.int .i64 (c.ch (k*3+1))))) rfl li0.out (by unfold maxLen;omega) _ _ k2 rfl rfl HK2.out _ [] (plainElem_int underlying3 W2.out) ?_);intro w2 Gd0 j80;have HW2:Hid (Sm w.heap.size w w2):=HW1.out.grown j80 HW1.out.size (fun j hj=>by cases hj;exact Om _);have Jn0:Hid (w2.ownsMap prog 231 (plainElem prog 3) w.heap.size (2*(k+1)) ((D.put k1 (.lit (.int .i64 (c.ch (k*3+1))))).put k2 (.lit (.int .i64 (c.ch (k*3+2)))))):=Gd0;clear Gd0 j80 li0 HW1 x0 x2;go_wp2_with fail;exact⟨⟨k+1,E0,E1,HW2.out,⟨_,Jn0.out,HD.out⟩⟩,U1⟩
  ·obtain rfl:k=c.Zo:=by omega
   go_wp2_with fail
   go_ret;obtain⟨D,Io,hD⟩:=HM.out;exact⟨_,rfl,⟨_,D,Io,hD⟩,HW.out⟩
end Go.Proofs.YtdoghgnifkgfdaaGreat
