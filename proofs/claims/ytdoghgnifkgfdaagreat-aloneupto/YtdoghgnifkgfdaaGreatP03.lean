import Derived.Deep.RegionLaw
import Derived.Test.YtdoghgnifkgfdaaGreatP02
set_option maxRecDepth 100000
set_option maxHeartbeats 4000000
namespace Go.Proofs.YtdoghgnifkgfdaaGreat
open Go.RowKit
theorem Jt:(Tryz.prog.info? 53).map (fun i=>(i.zero,i.size,i.bytes))=some (some (.agg #[.slice none 0 0,.slice none 0 0,.int .i64 0]),3,56):=by kernel_rfl
theorem Y17:(Tryz.prog.info? 100).map (fun i=>(i.zero,i.size,i.bytes))=some (some (.slice none 0 0),1,24):=by kernel_rfl
def YT (c:Cfg) (w:World) (a0 a1 a2 a3:Value) (k:Nat) (wr:World):Prop:=
 ∃cb v,Below w.heap.size w wr∧w.heap.size+3≤wr.heap.size∧RowF wr w.heap.size 4 28 (Yc a0 a1 a2 a3)∧
  RowF wr (w.heap.size+1) 4 28 (Yc (.slice none 0 0) (.slice none 0 0) (.slice none 0 0) (.slice none 0 0))∧
  RowF wr (w.heap.size+1+1) 4 28 (Yc v (.slice none 0 0) (.slice none 0 0) (.slice none 0 0))∧
  YJ wr c k (w.heap.size+3) wr.heap.size cb∧wr.ownsRow (w.heap.size+3) 53 3 v k (XG c cb k)∧∀g,v.ownBlock=some g→∀i,i<k→g≠cb i∧g≠cb i+1
theorem Y1x {w:World} {base e size n:Nat} {v:Value} {xs:List Value} (h:w.ownsRow base e size v n xs) {j:Nat} (hj:j<base):some j≠v.ownBlock:=fun e=>by
 have:=(h.lt j e.symm).1;omega
theorem own_below {w w':World} {base e size n:Nat} {v:Value} {xs:List Value} (h:w.ownsRow base e size v n xs) (hb:Below w.heap.size w w'):w'.ownsRow base e size v n xs:=
 h.kept (row:=none) ⟨hb.os,hb.tape,hb.output,hb.size,fun k hk _=>hb.block k hk⟩ (by cases v.ownBlock<;>simp)
theorem alloc_at {A:World} {o:Obj} {B:Nat} (h:A.heap.size=B):(A.alloc o).heap[B]?=some o:=by subst h;exact heap_alloc_new A o
theorem Jk {P:Program} {w:World} {ops:Array Oper} {o:Oper} {a:Act} {K:Act→World→Prop} {Q:Exit→Act→World→Prop} {E:Prop} (hgd:o.guard=none) (s x:Operand) (t:TypeId)
  (ho:o.op=.call {callee:=.builtin .append,args:=#[s,x],argTypes:=#[t,t]})
  (base:Nat) (e:TypeId) (z:Value) (size bytes:Nat) (ht:P.underlying t=some (.slice e)) (hinfo:(P.info? e).map (fun i=>(i.zero,i.size,i.bytes))=some (some z,size,bytes))
  (hzs:z.cells.size=size) (hsz:0<size) (v:Value) (n:Nat) (xs:List Value) (hs:a.eval s=v) (hown:w.ownsRow base e size v n xs)
  (B:Nat) (news:List Value) (ty:TypeId) (hx:a.eval x=.slice (some ⟨B,0,none⟩) 1 1) (hl:news.length=size) (hrow:w.heap[B]?=some (.cells news.toArray ty (0,0))) (h1:∀u∈news,u.oneCell'=true)
  (h63:n+1≤maxLen) (hbytes:(n+1)*bytes≤140737488355328) (hbase:base≤w.heap.size)
  (h:∀g cap w',w'.ownsRow base e size (.slice (some ⟨g,0,none⟩) (n+1) cap) (n+1) (xs++news)→w.grownBy w' v.ownBlock→(v.ownBlock=some g∨g=w.heap.size)→g<w'.heap.size→K (a.put o.dst (.slice (some ⟨g,0,none⟩) (n+1) cap)) w'):
  if Region.wanted o (yielded ops a.tmps)=true then Oper.wp P o a w K Q else E:=by
 obtain ⟨i,h2,h3,h4,h5⟩:=info_parts hinfo;exact step_append_lies w hgd s x t ho base e i z size bytes ht h2 h3 h4 h5 hzs hsz v n xs hs hown ⟨B,0,none⟩ 1 1 news hx (by rw [hl,Nat.one_mul]) (by
  have:=World.news_of_block hrow;simpa using this) h1 (by omega) h63 hbytes hbase _ rfl h
theorem YT.mid {c:Cfg} {w wr W w1:World} {k:Nat} {cb:Nat→Nat} {v:Value} {B t:Nat} {f:Nat→Value} (ho:wr.ownsRow (w.heap.size+3) 53 3 v k (XG c cb k)) (hW:Below wr.heap.size wr W)
  (hg:W.grownBy w1 v.ownBlock) (hr:RowF wr B 4 t f) (hB:B<w.heap.size+3):RowF w1 B 4 t f:=
 (hr.of_heap (hW.block B hr.lt)).of_heap (hg.block B (Nat.lt_of_lt_of_le hr.lt hW.size) (Y1x ho hB))
theorem YT.step {c:Cfg} {w wr W w1:World} {a0 a1 a2 a3:Value} {k b g cap:Nat} {cb:Nat→Nat} {v:Value}
  (hB:Below w.heap.size w wr) (hsz:w.heap.size+3≤wr.heap.size) (r0:RowF wr w.heap.size 4 28 (Yc a0 a1 a2 a3))
  (r1:RowF wr (w.heap.size+1) 4 28 (Yc (.slice none 0 0) (.slice none 0 0) (.slice none 0 0) (.slice none 0 0))) (r2:RowF wr (w.heap.size+1+1) 4 28 (Yc v (.slice none 0 0) (.slice none 0 0) (.slice none 0 0)))
  (hi:YJ wr c k (w.heap.size+3) wr.heap.size cb) (ho:wr.ownsRow (w.heap.size+3) 53 3 v k (XG c cb k)) (hp:∀g,v.ownBlock=some g→∀i,i<k→g≠cb i∧g≠cb i+1)
  (hW:Below wr.heap.size wr W) (hb:wr.heap.size≤b) (hb2:b+2≤W.heap.size) (i1:Inn W (c.codeN k) b (c.nCode k) 4 (c.code k)) (i2:Inn W (c.imgN k) (b+1) (c.nImg k) 1 (c.img k))
  (ho1:w1.ownsRow (w.heap.size+3) 53 3 (.slice (some ⟨g,0,none⟩) (k+1:Nat) cap) (k+1) (XG c cb k++[Y6 (c.codeN k) b (c.nCode k),Y6 (c.imgN k) (b+1) (c.nImg k),.int .i64 (c.lim k)]))
  (hg:W.grownBy w1 v.ownBlock) (hat:v.ownBlock=some g∨g=W.heap.size):
  YT c w a0 a1 a2 a3 (k+1) (w1.setCell ⟨w.heap.size+1+1,0,none⟩ (.slice (some ⟨g,0,none⟩) (k+1:Nat) cap)):=by
 have hwrW:=hW.size;have hWw1:=hg.size;have hlt:∀j,v.ownBlock=some j→w.heap.size+3≤j∧j<wr.heap.size:=ho.lt;have hB1:Below w.heap.size w w1:=(hB.trans (hW.mono (by omega))).grown hg (by omega) (fun j hj=>by have:=hlt j hj;omega);have hnb:∀j,wr.heap.size≤j→some j≠v.ownBlock:=fun j hj e=>by have:=hlt j e.symm;omega
 have e0:(w1.setCell ⟨w.heap.size+1+1,0,none⟩ (.slice (some ⟨g,0,none⟩) (k+1:Nat) cap)).heap.size=w1.heap.size:=size_setCell _ _ _;have keepI:∀j,w.heap.size+3≤j→(w1.setCell ⟨w.heap.size+1+1,0,none⟩ (.slice (some ⟨g,0,none⟩) (k+1:Nat) cap)).heap[j]?=w1.heap[j]?:=fun j hj=>heap_setCell_other _ _ _ _ (by simp;omega);refine ⟨setAt cb k b,.slice (some ⟨g,0,none⟩) (k+1:Nat) cap,hB1.setCell (by simp;omega) _,by rw [e0];omega,?_,?_,?_,?_,?_,?_⟩
 ·exact (YT.mid ho hW hg r0 (by omega)).other _ _ (by simp;omega)
 ·exact (YT.mid ho hW hg r1 (by omega)).other _ _ (by simp)
 ·exact ((YT.mid ho hW hg r2 (by omega)).set4 _).1
 ·rw [e0];have hiW:YJ w1 c k (w.heap.size+3) wr.heap.size cb:=hi.keep (Nat.le_refl _) (fun i hik=>by
   have h1:=hi.lo i hik;have hne:∀j,(j=cb i∨j=cb i+1)→w1.heap[j]?=wr.heap[j]?:=fun j hj=>by
    rw [hg.block j (by omega) (fun e=>by have:=hp j e.symm i hik;omega)];exact hW.block j (by omega)
   exact ⟨hne _ (.inl rfl),hne _ (.inr rfl)⟩)
  have j1:Inn w1 (c.codeN k) b (c.nCode k) 4 (c.code k):=i1.keep (fun _=>hg.block b (by omega) (hnb b hb));have j2:Inn w1 (c.imgN k) (b+1) (c.nImg k) 1 (c.img k):=i2.keep (fun _=>hg.block (b+1) (by omega) (hnb (b+1) (by omega)));refine (hiW.step j1 j2 hb (by omega) (by omega:b+2≤w1.heap.size)).keep (Nat.le_refl _) (fun i hik=>?_);have hlo:w.heap.size+3≤setAt cb k b i:=by
   unfold setAt;split
   ·rename_i h;exact (hi.lo i h).1
   ·omega
  exact ⟨keepI _ hlo,keepI _ (by omega)⟩
 ·rw [←Y8V];exact ownsRow_setCell_below ho1 (by simp) _
 ·intro g' hg' i hik;simp [Value.ownBlock] at hg';subst hg';unfold setAt;split
  ·rename_i h
   rcases hat with h'|h'
   ·exact hp g h' i h
   ·have:=hi.lo i h;omega
  ·rcases hat with h'|h'
   ·have:=hlt g h';omega
   ·omega
def Z4 (c:Cfg) (rb:Nat→Nat) (k:Nat):List Value:=(List.range k).map (fun i=>Y6 false (rb i) (c.nRow i))
theorem Yac (c:Cfg) (rb:Nat→Nat) (k b:Nat):Z4 c rb k++[Y6 false b (c.nRow k)]=Z4 c (setAt rb k b) (k+1):=by
 unfold Z4;rw [List.range_succ];simp only [List.map_append,List.map_cons,List.map_nil];have s:setAt rb k b k=b:=by simp [setAt]
 rw [s];congr 1;apply List.map_congr_left;intro j hj;have hj':j<k:=by simpa using hj
 simp [setAt,hj']
def Zp (c:Cfg) (w0:World) (H:Nat) (v0:Value) (k:Nat) (wr:World):Prop:=
 ∃rb v,w0.grownBy wr (some H)∧RowF wr H 4 28 (Yc v0 v (.slice none 0 0) (.slice none 0 0))∧(∀i,i<k→Inn wr false (rb i) (c.nRow i) 2 (c.row i)∧w0.heap.size≤rb i∧rb i<wr.heap.size)∧
  (∀i j,i<j→j<k→rb i<rb j)∧wr.ownsRow w0.heap.size 100 1 v k (Z4 c rb k)∧∀g,v.ownBlock=some g→∀i,i<k→g≠rb i
theorem Zp.mid {c:Cfg} {w0 wr W w1:World} {H k:Nat} {rb:Nat→Nat} {v v0:Value} (ho:wr.ownsRow w0.heap.size 100 1 v k (Z4 c rb k)) (hW:Below wr.heap.size wr W) (hH:H<w0.heap.size)
  (hg:W.grownBy w1 v.ownBlock) (hr:RowF wr H 4 28 (Yc v0 v (.slice none 0 0) (.slice none 0 0))):RowF w1 H 4 28 (Yc v0 v (.slice none 0 0) (.slice none 0 0)):=
 (hr.of_heap (hW.block H hr.lt)).of_heap (hg.block H (Nat.lt_of_lt_of_le hr.lt hW.size) (Y1x ho hH))
theorem Zp.step {c:Cfg} {w0 wr W w1:World} {H k b g cap:Nat} {rb:Nat→Nat} {v v0:Value} (hH:H<w0.heap.size) (hB:w0.grownBy wr (some H)) (r:RowF wr H 4 28 (Yc v0 v (.slice none 0 0) (.slice none 0 0)))
  (hi:∀i,i<k→Inn wr false (rb i) (c.nRow i) 2 (c.row i)∧w0.heap.size≤rb i∧rb i<wr.heap.size) (hord:∀i j,i<j→j<k→rb i<rb j) (ho:wr.ownsRow w0.heap.size 100 1 v k (Z4 c rb k)) (hp:∀g,v.ownBlock=some g→∀i,i<k→g≠rb i)
  (hW:Below wr.heap.size wr W) (hb:wr.heap.size≤b) (hb2:b<W.heap.size) (i1:Inn W false b (c.nRow k) 2 (c.row k))
  (ho1:w1.ownsRow w0.heap.size 100 1 (.slice (some ⟨g,0,none⟩) (k+1:Nat) cap) (k+1) (Z4 c rb k++[Y6 false b (c.nRow k)])) (hg:W.grownBy w1 v.ownBlock) (hat:v.ownBlock=some g∨g=W.heap.size):
  Zp c w0 H v0 (k+1) (w1.setCell ⟨H,1,none⟩ (.slice (some ⟨g,0,none⟩) (k+1:Nat) cap)):=by
 have hwrW:=hW.size;have hWw1:=hg.size;have hw0:=hB.size;have hlt:∀j,v.ownBlock=some j→w0.heap.size≤j∧j<wr.heap.size:=ho.lt;have hnb:∀j,wr.heap.size≤j→some j≠v.ownBlock:=fun j hj e=>by have:=hlt j e.symm;omega
 have e0:(w1.setCell ⟨H,1,none⟩ (.slice (some ⟨g,0,none⟩) (k+1:Nat) cap)).heap.size=w1.heap.size:=size_setCell _ _ _;have keepI:∀j,j≠H→(w1.setCell ⟨H,1,none⟩ (.slice (some ⟨g,0,none⟩) (k+1:Nat) cap)).heap[j]?=w1.heap[j]?:=fun j hj=>heap_setCell_other _ _ _ _ (by simpa using hj);have old:∀j,j<wr.heap.size→some j≠v.ownBlock→w1.heap[j]?=wr.heap[j]?:=fun j hj hne=>(hg.block j (by omega) hne).trans (hW.block j hj);refine ⟨setAt rb k b,.slice (some ⟨g,0,none⟩) (k+1:Nat) cap,?_,((Zp.mid ho hW hH hg r).set4 _).2.1,fun i hik=>?_,fun i j hij hj=>?_,?_,?_⟩
 ·refine grownBy_setCell ⟨(hg.os.trans hW.os).trans hB.os,(hg.tape.trans hW.tape).trans hB.tape,(hg.output.trans hW.output).trans hB.output,by omega,fun j hj hne=>?_⟩ 1 _;rw [old j (by omega) (fun e=>by have:=hlt j e.symm;omega)];exact hB.block j hj hne
 ·unfold setAt;split
  ·rename_i h
   obtain ⟨h1,h2,h3⟩:=hi i h;refine ⟨h1.keep (fun _=>?_),h2,by rw [e0];omega⟩;rw [keepI _ (by omega)];exact old _ h3 (fun e=>hp _ e.symm i h rfl)
  ·obtain rfl:i=k:=by omega
   refine ⟨i1.keep (fun _=>?_),by omega,by rw [e0];omega⟩;rw [keepI _ (by omega)];exact hg.block b hb2 (hnb b hb)
 ·rcases Nat.lt_or_ge j k with hl|hl
  ·simp only [setAt,hl,show i<k by omega,if_true];exact hord i j hij hl
  ·obtain rfl:j=k:=by omega
   simp only [setAt,hij,if_true,Nat.lt_irrefl,if_false];have:=(hi i hij).2.2;omega
 ·rw [←Yac];exact ownsRow_setCell_below ho1 hH _
 ·intro g' hg' i hik;simp [Value.ownBlock] at hg';subst hg';unfold setAt;split
  ·rename_i h
   rcases hat with h'|h'
   ·exact hp g h' i h
   ·have:=(hi i h).2.2;omega
  ·rcases hat with h'|h'
   ·have:=hlt g h';omega
   ·omega
structure X5 (w:World) (c:Cfg) (B:Nat) (v0 v1 v2 v3:Value):Prop where
 ex:∃(cb rb:Nat→Nat) (hb db:Nat) (p0:Option Addr) (cap0:Nat) (p1:Option Addr) (cap1 hi hi2:Nat),v0=.slice p0 c.nC cap0∧c.nC≤cap0∧(p0=none→c.nC=0∧cap0=0)∧Sl w p0 (c.nC*3) (Yy c cb)∧
  v1=.slice p1 c.nT cap1∧c.nT≤cap1∧(p1=none→c.nT=0∧cap1=0)∧Sl w p1 c.nT (fun i=>Y6 false (rb i) (c.nRow i))∧
  v2=Y6 c.chN hb c.nCh∧v3=Y6 c.dvN db c.nD∧YJ w c c.nC B hi cb∧B≤hi∧hi≤hi2∧
  (∀i,i<c.nT→Inn w false (rb i) (c.nRow i) 2 (c.row i)∧hi≤rb i∧rb i<hi2)∧(∀i j,i<j→j<c.nT→rb i<rb j)∧
  Inn w c.chN hb c.nCh 3 c.ch∧Inn w c.dvN db c.nD 1 c.dv∧(c.chN=false→hi2≤hb)∧(c.dvN=false→hi2≤db)∧(c.chN=false→c.dvN=false→hb<db)
 lo0:∀b,v0.ownBlock=some b→B≤b
 lo1:∀b,v1.ownBlock=some b→B≤b
theorem Zk {w:World} {base e size n:Nat} {v:Value} {F:Nat→Value} (h:w.ownsRow base e size v n ((List.range (n*size)).map F)):
  ∃p cap,v=.slice p n cap∧n≤cap∧(p=none→n=0∧cap=0)∧Sl w p (n*size) F:=by
 rcases h.2 with ⟨rfl,rfl⟩|⟨g,cap,cur,rfl,hb,hg,hn,_,_,htake⟩
 ·exact ⟨none,0,rfl,Nat.le_refl _,fun _=>⟨rfl,rfl⟩,.inl (by simp)⟩
 ·refine ⟨some ⟨g,0,none⟩,cap,rfl,hn,fun h=>(by cases h),.inr ⟨g,0,rfl,fun j hj=>?_⟩⟩;have:=h.cells (g:=g) rfl j (F j) (by simp [hj]);rw [Addr.add_lit] at this;exact this
theorem X5.mk' {c:Cfg} {w w0 wr wF:World} {cb rb:Nat→Nat} {v v1:Value} {hb db:Nat} (hsz:w.heap.size+3≤w0.heap.size)
  (HI:YJ w0 c c.nC (w.heap.size+3) w0.heap.size cb) (HO:w0.ownsRow (w.heap.size+3) 53 3 v c.nC (XG c cb c.nC))
  (HG:w0.grownBy wr (some (w.heap.size+1+1))) (HIr:∀i,i<c.nT→Inn wr false (rb i) (c.nRow i) 2 (c.row i)∧w0.heap.size≤rb i∧rb i<wr.heap.size) (HOr:∀i j,i<j→j<c.nT→rb i<rb j)
  (HOw:wr.ownsRow w0.heap.size 100 1 v1 c.nT (Z4 c rb c.nT)) (hk:∀j,w.heap.size+3≤j→j<wr.heap.size→wF.heap[j]?=wr.heap[j]?)
  (hc:Inn wF c.chN hb c.nCh 3 c.ch) (hd:Inn wF c.dvN db c.nD 1 c.dv) (h1:c.chN=false→wr.heap.size≤hb) (h2:c.dvN=false→wr.heap.size≤db) (h3:c.chN=false→c.dvN=false→hb<db):X5 wF c w.heap.size v v1 (Y6 c.chN hb c.nCh) (Y6 c.dvN db c.nD):=by
 have hs0:=HG.size;have k0:∀j,w.heap.size+3≤j→j<w0.heap.size→wF.heap[j]?=w0.heap[j]?:=fun j a b=>(hk j a (by omega)).trans (HG.block j b (by simp;omega));have o1:wF.ownsRow (w.heap.size+3) 53 3 v c.nC (XG c cb c.nC):=by
  rcases HO.2 with hn|⟨g,cap,cur,hv,hbg,hg,r⟩
  ·exact ⟨HO.1,.inl hn⟩
  ·exact ⟨HO.1,.inr ⟨g,cap,cur,hv,hbg,by rw [k0 g hbg (Array.getElem?_eq_some_iff.1 hg).1];exact hg,r⟩⟩
 have o2:wF.ownsRow w0.heap.size 100 1 v1 c.nT (Z4 c rb c.nT):=by
  rcases HOw.2 with hn|⟨g,cap,cur,hv,hbg,hg,r⟩
  ·exact ⟨HOw.1,.inl hn⟩
  ·exact ⟨HOw.1,.inr ⟨g,cap,cur,hv,hbg,by rw [hk g (by omega) (Array.getElem?_eq_some_iff.1 hg).1];exact hg,r⟩⟩
 obtain ⟨p0,cap0,e0,l0,n0,s0⟩:=Zk (F:=Yy c cb) o1;obtain ⟨p1,cap1,e1,l1,n1,s1⟩:=Zk (F:=fun i=>Y6 false (rb i) (c.nRow i)) (n:=c.nT) (size:=1) (by simpa [Z4] using o2);refine ⟨⟨cb,rb,hb,db,p0,cap0,p1,cap1,w0.heap.size,wr.heap.size,e0,l0,n0,s0,e1,l1,n1,by simpa using s1,rfl,rfl,?_,by omega,hs0,?_,HOr,hc,hd,h1,h2,h3⟩,fun b hb'=>by have:=(o1.lt b hb').1;omega,fun b hb'=>by have:=(o2.lt b hb').1;omega⟩
 ·have:=HI.keep (w':=wF) (Nat.le_refl _) (fun i hi=>by have:=HI.lo i hi;exact ⟨k0 _ (by omega) (by omega),k0 _ (by omega) (by omega)⟩);exact ⟨this.code,this.img,fun i hi=>by have:=this.lo i hi;omega,this.ord⟩
 ·intro i hi;obtain ⟨a,b,d⟩:=HIr i hi;exact ⟨a.keep (fun _=>hk _ (by omega) d),b,d⟩
theorem ZT {w:World} {base e size n:Nat} {v:Value} {xs:List Value} (h:w.ownsRow base e size v n xs):∃p m cap,v=.slice p m cap:=by
 rcases h.2 with ⟨h,_⟩|⟨g,cap,_,h,_⟩
 ·exact ⟨_,_,_,h⟩
 ·exact ⟨_,_,_,h⟩
theorem Y0W (w:World) (g:Nat) (a b c d:Value) (j:Nat) (hj:j≠g):((((w.setCell ⟨g,0,none⟩ a).setCell ⟨g,1,none⟩ b).setCell ⟨g,2,none⟩ c).setCell ⟨g,3,none⟩ d).heap[j]?=w.heap[j]?:=by
 rw [heap_setCell_other _ _ _ _ (by simpa using hj),heap_setCell_other _ _ _ _ (by simpa using hj),heap_setCell_other _ _ _ _ (by simpa using hj),heap_setCell_other _ _ _ _ (by simpa using hj)]
theorem Y0b {B:Nat} {w0 w:World} (h:Below B w0 w) {g:Nat} (hg:B≤g) (a b c d:Value):Below B w0 ((((w.setCell ⟨g,0,none⟩ a).setCell ⟨g,1,none⟩ b).setCell ⟨g,2,none⟩ c).setCell ⟨g,3,none⟩ d):=
 (((h.setCell hg _).setCell hg _).setCell hg _).setCell hg _
theorem Y03:(Tryz.prog.info? 28).map (·.size)=some 4:=by kernel_rfl
theorem Y3S (c:Cfg) (v0 v1 v2 v3:Value) (w:World) (h:CfgR w v0 v1 v2 v3 c):
  Calls Tryz.prog 36 #[.agg #[v0,v1,v2,v3]] w fun e w'=>∃x0 x1 x2 x3,e=.returned (.agg #[x0,x1,x2,x3])∧X5 w' c w.heap.size x0 x1 x2 x3∧Below w.heap.size w w':=by
 obtain ⟨⟨p0,cap0,F0,rfl,-,n0,z0,b0,s0,k0⟩,⟨p1,cap1,F1,rfl,-,n1,z1,b1,s1,k1⟩,⟨p2,cap2,rfl,-,n2,z2,b2,s2⟩,⟨p3,cap3,rfl,-,n3,z3,b3,s3⟩⟩:=h;have S0:Hid (Sl w p0 (c.nC*3) F0):=s0;have K0:Hid (∀i,i<c.nC→SlZ w (F0 (i*3)) (c.codeN i) (c.nCode i) 4 (c.code i) 32∧SlZ w (F0 (i*3+1)) (c.imgN i) (c.nImg i) 1 (c.img i) 8∧F0 (i*3+2)=.int .i64 (c.lim i)):=k0;have S1:Hid (Sl w p1 c.nT F1):=s1;have K1:Hid (∀i,i<c.nT→SlZ w (F1 i) (c.rowN i) (c.nRow i) 2 (c.row i) 16):=k1;have S2:Hid (Sl w p2 (c.nCh*3) (fun j=>.int .i64 (c.ch j))):=s2;have S3:Hid (Sl w p3 (c.nD*1) (fun j=>.int .i64 (c.dv j))):=s3;have hb0:c.nC≤2513169434916:=by omega
 have hb1:c.nT≤5864062014805:=by omega
 have hb2:c.nCh≤8796093022208:=by omega
 have hb3:c.nD≤17592186044416:=by omega
 have HN:Hid ((p2=none↔c.chN=true)∧(p2=none→c.nCh=0∧cap2=0)∧(p3=none↔c.dvN=true)∧(p3=none→c.nD=0∧cap3=0)):=⟨n2,z2,n3,z3⟩;have B0:Hid (56*c.nC≤140737488355328):=b0;have B1:Hid (24*c.nT≤140737488355328):=b1;have B2:Hid (24*c.nCh≤140737488355328):=b2;have B3:Hid (8*c.nD≤140737488355328):=b3;clear s0 k0 s1 k1 s2 s3 b0 b1 b2 b3 n0 z0 n1 z1 n2 z2 n3 z3
 go_enter Tryz.func36,Tryz.ntmps36
 go_wp2_with fail
 go_loopw [4] (fun i wr=>∃k:Nat,k≤c.nC∧i=.int .i64 k∧Hid (YT c w (.slice p0 c.nC cap0) (.slice p1 c.nT cap1) (.slice p2 c.nCh cap2) (.slice p3 c.nD cap3) k wr)) (fun i _=>c.nC-(intOf i).toNat)
 case atStart=>
  refine ⟨0,Nat.zero_le _,rfl,fun _=>0,.slice none 0 0,(((Below.refl _ _).alloc (Nat.le_refl _) _).alloc (by simp) _).alloc (by simp;omega) _,by simp,((row4 _ _ _ _ _ _).alloc _).alloc _,?_,?_,YJ.zero _ _ _ _ _,World.ownsRow_nil _ _ _ _,by simp [Value.ownBlock]⟩
  ·have:=(row4 (w.alloc (.cells #[.slice p0 c.nC cap0,.slice p1 c.nT cap1,.slice p2 c.nCh cap2,.slice p3 c.nD cap3] 28)) (.slice none 0 0) (.slice none 0 0) (.slice none 0 0) (.slice none 0 0) 28).alloc (.cells #[.slice none 0 0,.slice none 0 0,.slice none 0 0,.slice none 0 0] 28);simpa using this
  ·have:=row4 ((w.alloc (.cells #[.slice p0 c.nC cap0,.slice p1 c.nT cap1,.slice p2 c.nCh cap2,.slice p3 c.nD cap3] 28)).alloc (.cells #[.slice none 0 0,.slice none 0 0,.slice none 0 0,.slice none 0 0] 28)) (.slice none 0 0) (.slice none 0 0) (.slice none 0 0) (.slice none 0 0) 28;simpa using this
 case round=>
  obtain ⟨k,hk,rfl,HL⟩:=hrel;obtain ⟨cb,v,hB,hsz,r0,r1,r2,hin,hown,hap⟩:=HL.out;obtain ⟨x0,x1,x2,x3⟩:=r0.at4;obtain ⟨y0,y1,y2,y3⟩:=r2.at4;have y0f:=r2.frozen 0;have hl0:w.heap.size<wr.heap.size:=by omega
  have hl1:w.heap.size+1<wr.heap.size:=by omega
  have hl2:w.heap.size+1+1<wr.heap.size:=by omega
  have HB:Hid (Below w.heap.size w wr):=hB;have R0:Hid (RowF wr w.heap.size 4 28 (Yc (.slice p0 c.nC cap0) (.slice p1 c.nT cap1) (.slice p2 c.nCh cap2) (.slice p3 c.nD cap3))):=r0;have R1:Hid (RowF wr (w.heap.size+1) 4 28 (Yc (.slice none 0 0) (.slice none 0 0) (.slice none 0 0) (.slice none 0 0))):=r1;have R2:Hid (RowF wr (w.heap.size+1+1) 4 28 (Yc v (.slice none 0 0) (.slice none 0 0) (.slice none 0 0))):=r2;have HI:Hid (YJ wr c k (w.heap.size+3) wr.heap.size cb):=hin;have HO:Hid (wr.ownsRow (w.heap.size+3) 53 3 v k (XG c cb k)):=hown;have HP:Hid (∀g,v.ownBlock=some g→∀i,i<k→g≠cb i∧g≠cb i+1):=hap;clear hB r0 r1 r2 hin hown hap HL;by_cases hlt:k<c.nC
  ·obtain ⟨b,off,rfl,hc⟩:=(S0.out.below HB.out).at (by omega);have c0:=hc (k*3) (by omega);have c1:=hc (k*3+1) (by omega);have c2:=hc (k*3+2) (by omega);have hbl:b<wr.heap.size:=block_lt_of_cell c0;have hbw:b<w.heap.size:=by
    obtain ⟨b',off',e,hc'⟩:=S0.out.at (by omega);simp only [Option.some.injEq,Addr.mk.injEq] at e;have:=block_lt_of_cell (hc' 0 (by omega));simp only at this;omega
   rw [←Nat.add_assoc] at c1 c2;clear hc;obtain ⟨⟨pc,capc,hF0,-,nc,zc,bc,sc⟩,⟨pi,capi,hF1,-,ni,zi,bi,si⟩,hF2⟩:=K0.out k hlt;rw [hF0] at c0;rw [hF1] at c1;rw [hF2] at c2;have hnc:c.nCode k≤4398046511104:=by omega
   have hni:c.nImg k≤17592186044416:=by omega
   have SC:Hid (Sl w pc (c.nCode k*4) (fun j=>.int .i64 (c.code k j))):=sc;have SI:Hid (Sl w pi (c.nImg k) (fun j=>.int .i64 (c.img k j))):=by show Sl _ _ _ _;simpa using si
   have BC:Hid (32*c.nCode k≤140737488355328):=bc;have BI:Hid (8*c.nImg k≤140737488355328):=bi;clear hF0 hF1 hF2 sc si bc bi;cases pc with
   |none=>
    obtain ⟨hz1,rfl⟩:=zc rfl;have hn1:=nc.1 rfl;rw [hz1] at c0;clear zc nc;have HN1:Hid (c.codeN k=true∧c.nCode k=0):=⟨hn1,hz1⟩;clear hn1 hz1;cases pi with
    |none=>
     obtain ⟨hz1,rfl⟩:=zi rfl;have hn1:=ni.1 rfl;rw [hz1] at c1;clear zi ni;have HN2:Hid (c.imgN k=true∧c.nImg k=0):=⟨hn1,hz1⟩;clear hn1 hz1;go_wp2_with (at_builtin;refine YX _ rfl _ _ 23 rfl (w.heap.size+3) 53 _ 3 56 Tryz.underlying23 Jt rfl (by omega) v k (XG c cb k) rfl ((HO.out.alloc _).alloc _) (wr.heap.size+1) [.slice none 0 0,.slice none 0 0,.int .i64 (c.lim k)] 53 rfl rfl (heap_alloc2_new _ _ _) (by simp [Value.oneCell']) (by simp only [maxLen];omega) (by have:=B0.out;omega) (by simp;omega) ?_)
     intro g cap w1 hown1 hgrow1 hat hlt1;have z0:=(YT.mid HO.out (((Below.refl _ _).alloc (Nat.le_refl _) _).alloc (by simp) _) hgrow1 R2.out (by omega)).at4;have z0f:=(YT.mid HO.out (((Below.refl _ _).alloc (Nat.le_refl _) _).alloc (by simp) _) hgrow1 R2.out (by omega)).frozen 0;obtain ⟨z0,-,-,-⟩:=z0;have HF:Hid (YT c w (.slice (some ⟨b,off,none⟩) c.nC cap0) (.slice p1 c.nT cap1) (.slice p2 c.nCh cap2) (.slice p3 c.nD cap3) (k+1) (w1.setCell ⟨w.heap.size+1+1,0,none⟩ (.slice (some ⟨g,0,none⟩) (k+1:Nat) cap))):=
      YT.step (b:=wr.heap.size) HB.out (by omega) R0.out R1.out R2.out HI.out HO.out HP.out (((Below.refl _ _).alloc (Nat.le_refl _) _).alloc (by simp) _) (Nat.le_refl _) (by simp) (fun h=>by rw [HN1.out.1] at h;cases h) (fun h=>by rw [HN2.out.1] at h;cases h) (by simpa [Y6,HN1.out.1,HN2.out.1] using hown1) hgrow1 (by simpa using hat)
     clear hown1 hgrow1 hat hlt1;go_wp2_with fail
     exact ⟨⟨k+1,by omega,by go_num,HF⟩,by simp [intOf];omega⟩
    |some q=>
     obtain ⟨bq,oq,sq⟩:=q;have hn1:c.imgN k=false:=by
      cases h:c.imgN k
      ·rfl
      ·exact absurd (ni.2 h) (by simp)
     have HN2:Hid (c.imgN k=false):=hn1;clear zi ni hn1;go_wp2_with fail
     refine (Y1n (some ⟨bq,oq,sq⟩) (c.nImg k) capi (c.img k) _ ((SI.out.below HB.out).below ((Below.refl _ _).alloc (Nat.le_refl _) _)) (by simp) BI.out).mono ?_;rintro e wA ⟨rfl,hszA,hbelA,hrowA⟩;obtain ⟨hcA,hfA⟩:=Y1s hbelA;have HBA:Hid (Below wr.heap.size wr wA):=Xh hbelA;have HRA:Hid (RowF wA (wr.heap.size+1) ((c.nImg k+2)*1) 2 (fun j=>.int .i64 (padZ 1 (c.nImg k) (c.img k) j))):=by show RowF _ _ _ _ _;simpa using hrowA
     have hszA':wA.heap.size=wr.heap.size+1+1:=by simpa using hszA
     clear hbelA hrowA hszA;go_wp2_with (at_builtin;refine YX _ rfl _ _ 23 rfl (w.heap.size+3) 53 _ 3 56 Tryz.underlying23 Jt rfl (by omega) v k (XG c cb k) rfl (by exact own_below HO.out ((HBA.out.setCell (Nat.le_refl _) _).alloc (by rw [size_setCell];omega) _)) (wr.heap.size+1+1) [.slice none 0 0,.slice (some ⟨wr.heap.size+1,0,none⟩) (c.nImg k) (c.nImg k+2:Nat),.int .i64 (c.lim k)] 53 rfl rfl (by exact alloc_at (by rw [size_setCell];omega)) (by simp [Value.oneCell']) (by simp only [maxLen];omega) (by have:=B0.out;omega) (by simp;omega) ?_)
     intro g cap w1 hown1 hgrow1 hat hlt1;have HWW:Hid (Below wr.heap.size wr _):=(HBA.out.setCell (p:=⟨wr.heap.size,1,none⟩) (Nat.le_refl _) (.slice (some ⟨wr.heap.size+1,0,none⟩) (c.nImg k) (c.nImg k+2:Nat))).alloc (by rw [size_setCell];omega) (.cells #[.slice none 0 0,.slice (some ⟨wr.heap.size+1,0,none⟩) (c.nImg k) (c.nImg k+2:Nat),.int .i64 (c.lim k)] 53);obtain ⟨z0,-,-,-⟩:=(YT.mid HO.out HWW.out hgrow1 R2.out (by omega)).at4;have z0f:=(YT.mid HO.out HWW.out hgrow1 R2.out (by omega)).frozen 0;have HF:Hid (YT c w (.slice (some ⟨b,off,none⟩) c.nC cap0) (.slice p1 c.nT cap1) (.slice p2 c.nCh cap2) (.slice p3 c.nD cap3) (k+1) (w1.setCell ⟨w.heap.size+1+1,0,none⟩ (.slice (some ⟨g,0,none⟩) (k+1:Nat) cap))):=
      YT.step (b:=wr.heap.size) HB.out (by omega) R0.out R1.out R2.out HI.out HO.out HP.out HWW.out (Nat.le_refl _) (by simp;omega) (fun h=>by rw [HN1.out.1] at h;cases h) (fun _=>⟨_,(HRA.out.other _ _ (by simp)).alloc _⟩) (by simpa [Y6,HN1.out.1,HN2.out] using hown1) hgrow1 (by simpa [hszA'] using hat)
     clear hown1 hgrow1 hat hlt1 HWW;go_wp2_with fail
     exact ⟨⟨k+1,by omega,by go_num,HF⟩,by simp [intOf];omega⟩
   |some q=>
    obtain ⟨bq,oq,sq⟩:=q;have hn1:c.codeN k=false:=by
     cases h:c.codeN k
     ·rfl
     ·exact absurd (nc.2 h) (by simp)
    have HN1:Hid (c.codeN k=false):=hn1;clear zc nc hn1;cases pi with
    |none=>
     obtain ⟨hz1,rfl⟩:=zi rfl;have hn1:=ni.1 rfl;rw [hz1] at c1;clear zi ni;have HN2:Hid (c.imgN k=true∧c.nImg k=0):=⟨hn1,hz1⟩;clear hn1 hz1;go_wp2_with fail
     refine (Y1e (some ⟨bq,oq,sq⟩) (c.nCode k) capc (c.code k) _ ((SC.out.below HB.out).below ((Below.refl _ _).alloc (Nat.le_refl _) _)) (by simp) BC.out).mono ?_;rintro e wA ⟨rfl,hszA,hbelA,hrowA⟩;obtain ⟨hcA,hfA⟩:=Y1s hbelA;have HBA:Hid (Below wr.heap.size wr wA):=Xh hbelA;have HRA:Hid (RowF wA (wr.heap.size+1) ((c.nCode k+2)*4) 97 (fun j=>.int .i64 (padZ 4 (c.nCode k) (c.code k) j))):=by show RowF _ _ _ _ _;simpa using hrowA
     have hszA':wA.heap.size=wr.heap.size+1+1:=by simpa using hszA
     clear hbelA hrowA hszA;go_wp2_with (at_builtin;refine YX _ rfl _ _ 23 rfl (w.heap.size+3) 53 _ 3 56 Tryz.underlying23 Jt rfl (by omega) v k (XG c cb k) rfl (by exact own_below HO.out ((HBA.out.setCell (Nat.le_refl _) _).alloc (by rw [size_setCell];omega) _)) (wr.heap.size+1+1) [.slice (some ⟨wr.heap.size+1,0,none⟩) (c.nCode k) (c.nCode k+2:Nat),.slice none 0 0,.int .i64 (c.lim k)] 53 rfl rfl (by exact alloc_at (by rw [size_setCell];omega)) (by simp [Value.oneCell']) (by simp only [maxLen];omega) (by have:=B0.out;omega) (by simp;omega) ?_)
     intro g cap w1 hown1 hgrow1 hat hlt1;have HWW:Hid (Below wr.heap.size wr _):=(HBA.out.setCell (p:=⟨wr.heap.size,0,none⟩) (Nat.le_refl _) (.slice (some ⟨wr.heap.size+1,0,none⟩) (c.nCode k) (c.nCode k+2:Nat))).alloc (by rw [size_setCell];omega) (.cells #[.slice (some ⟨wr.heap.size+1,0,none⟩) (c.nCode k) (c.nCode k+2:Nat),.slice none 0 0,.int .i64 (c.lim k)] 53);obtain ⟨z0,-,-,-⟩:=(YT.mid HO.out HWW.out hgrow1 R2.out (by omega)).at4;have z0f:=(YT.mid HO.out HWW.out hgrow1 R2.out (by omega)).frozen 0;have HF:Hid (YT c w (.slice (some ⟨b,off,none⟩) c.nC cap0) (.slice p1 c.nT cap1) (.slice p2 c.nCh cap2) (.slice p3 c.nD cap3) (k+1) (w1.setCell ⟨w.heap.size+1+1,0,none⟩ (.slice (some ⟨g,0,none⟩) (k+1:Nat) cap))):=
      YT.step (b:=wr.heap.size+1) HB.out (by omega) R0.out R1.out R2.out HI.out HO.out HP.out HWW.out (by omega) (by simp;omega) (fun _=>⟨_,(HRA.out.other _ _ (by simp)).alloc _⟩) (fun h=>by rw [HN2.out.1] at h;cases h) (by simpa [Y6,HN1.out,HN2.out.1] using hown1) hgrow1 (by simpa [hszA'] using hat)
     clear hown1 hgrow1 hat hlt1 HWW;go_wp2_with fail
     exact ⟨⟨k+1,by omega,by go_num,HF⟩,by simp [intOf];omega⟩
    |some q=>
     obtain ⟨bi,oi,si'⟩:=q;have hn1:c.imgN k=false:=by
      cases h:c.imgN k
      ·rfl
      ·exact absurd (ni.2 h) (by simp)
     have HN2:Hid (c.imgN k=false):=hn1;clear zi ni hn1;go_wp2_with fail
     refine (Y1e (some ⟨bq,oq,sq⟩) (c.nCode k) capc (c.code k) _ ((SC.out.below HB.out).below ((Below.refl _ _).alloc (Nat.le_refl _) _)) (by simp) BC.out).mono ?_;rintro e wA ⟨rfl,hszA,hbelA,hrowA⟩;obtain ⟨hcA,hfA⟩:=Y1s hbelA;have HBA:Hid (Below wr.heap.size wr wA):=Xh hbelA;have HXA:Hid (RowF wA wr.heap.size 3 53 (cells3 (.slice none 0 0) (.slice none 0 0) (.int .i64 (c.lim k)))):=(row3 wr _ _ _ _).below hbelA (by simp);have HRA:Hid (RowF wA (wr.heap.size+1) ((c.nCode k+2)*4) 97 (fun j=>.int .i64 (padZ 4 (c.nCode k) (c.code k) j))):=by show RowF _ _ _ _ _;simpa using hrowA
     have hszA':wA.heap.size=wr.heap.size+1+1:=by simpa using hszA
     clear hbelA hrowA hszA;go_wp2_with fail
     have HBB:Hid (Below wr.heap.size wr (wA.setCell ⟨wr.heap.size,0,none⟩ (.slice (some ⟨wr.heap.size+1,0,none⟩) (c.nCode k) (c.nCode k+2:Nat)))):=HBA.out.setCell (Nat.le_refl _) _;refine (Y1n (some ⟨bi,oi,si'⟩) (c.nImg k) capi (c.img k) _ ((SI.out.below HB.out).below HBB.out) (by simp) BI.out).mono ?_;rintro e wB ⟨rfl,hszB,hbelB,hrowB⟩;have HBC:Hid (Below wr.heap.size wr wB):=HBB.out.trans (hbelB.mono HBB.out.size);have HRB:Hid (RowF wB (wr.heap.size+1+1) ((c.nImg k+2)*1) 2 (fun j=>.int .i64 (padZ 1 (c.nImg k) (c.img k) j))):=by show RowF _ _ _ _ _;simpa [hszA'] using hrowB
     have HRA2:Hid (RowF wB (wr.heap.size+1) ((c.nCode k+2)*4) 97 (fun j=>.int .i64 (padZ 4 (c.nCode k) (c.code k) j))):=(HRA.out.other _ _ (by simp)).below hbelB (by simp [hszA']);have hszB':wB.heap.size=wr.heap.size+1+1+1:=by simpa [hszA'] using hszB
     have HXB:Hid (RowF wB wr.heap.size 3 53 (cells3 (.slice (some ⟨wr.heap.size+1,0,none⟩) (c.nCode k) (c.nCode k+2:Nat)) (.slice none 0 0) (.int .i64 (c.lim k)))):=(HXA.out.set3 _).1.below hbelB (by simp [hszA'];omega);obtain ⟨q0,q1,q2⟩:=HXB.out.at3;have q1f:=HXB.out.frozen 1;have q3:=(HBC.out.cell (p:=⟨w.heap.size,0,none⟩) hl0).trans x0;have q4:=(HBC.out.cell (p:=⟨w.heap.size+1+1,0,none⟩) hl2).trans y0;have q4f:=(HBC.out.frozen (p:=⟨w.heap.size+1+1,0,none⟩) hl2).trans y0f;have q5:=(HBC.out.cell (p:=⟨b,off+k*3+1,none⟩) hbl).trans c1;have hl0':w.heap.size<wB.heap.size:=by omega
     have hl2':w.heap.size+1+1<wB.heap.size:=by omega
     have hbl':b<wB.heap.size:=by omega
     have hX':wr.heap.size<wB.heap.size:=by omega
     clear hbelB hrowB hszB HRA hcA hfA x0 x1 x2 x3 y0 y1 y2 y3 y0f c0 c1 c2;go_wp2_with (at_builtin;refine YX _ rfl _ _ 23 rfl (w.heap.size+3) 53 _ 3 56 Tryz.underlying23 Jt rfl (by omega) v k (XG c cb k) rfl (by exact own_below HO.out ((HBC.out.setCell (Nat.le_refl _) _).alloc (by rw [size_setCell];omega) _)) (wr.heap.size+1+1+1) [.slice (some ⟨wr.heap.size+1,0,none⟩) (c.nCode k) (c.nCode k+2:Nat),.slice (some ⟨wr.heap.size+1+1,0,none⟩) (c.nImg k) (c.nImg k+2:Nat),.int .i64 (c.lim k)] 53 rfl rfl (by exact alloc_at (by rw [size_setCell];omega)) (by simp [Value.oneCell']) (by simp only [maxLen];omega) (by have:=B0.out;omega) (by simp;omega) ?_)
     intro g cap w1 hown1 hgrow1 hat hlt1;have HWW:Hid (Below wr.heap.size wr _):=(HBC.out.setCell (p:=⟨wr.heap.size,1,none⟩) (Nat.le_refl _) (.slice (some ⟨wr.heap.size+1+1,0,none⟩) (c.nImg k) (c.nImg k+2:Nat))).alloc (by rw [size_setCell];omega) (.cells #[.slice (some ⟨wr.heap.size+1,0,none⟩) (c.nCode k) (c.nCode k+2:Nat),.slice (some ⟨wr.heap.size+1+1,0,none⟩) (c.nImg k) (c.nImg k+2:Nat),.int .i64 (c.lim k)] 53);obtain ⟨z0,-,-,-⟩:=(YT.mid HO.out HWW.out hgrow1 R2.out (by omega)).at4;have z0f:=(YT.mid HO.out HWW.out hgrow1 R2.out (by omega)).frozen 0;have HF:Hid (YT c w (.slice (some ⟨b,off,none⟩) c.nC cap0) (.slice p1 c.nT cap1) (.slice p2 c.nCh cap2) (.slice p3 c.nD cap3) (k+1) (w1.setCell ⟨w.heap.size+1+1,0,none⟩ (.slice (some ⟨g,0,none⟩) (k+1:Nat) cap))):=
      YT.step (b:=wr.heap.size+1) HB.out (by omega) R0.out R1.out R2.out HI.out HO.out HP.out HWW.out (by omega) (by simp;omega) (fun _=>⟨_,(HRA2.out.other _ _ (by simp)).alloc _⟩) (fun _=>⟨_,(HRB.out.other _ _ (by simp;omega)).alloc _⟩) (by simpa [Y6,HN1.out,HN2.out] using hown1) hgrow1 (by simpa [hszB'] using hat)
     clear hown1 hgrow1 hat hlt1 HWW;go_wp2_with fail
     exact ⟨⟨k+1,by omega,by go_num,HF⟩,by simp [intOf];omega⟩
  ·obtain rfl:k=c.nC:=by omega
   clear hlt hk;revert HP HO HI R2 R1 R0 HB hl2 hl1 hl0 y0f y3 y2 y1 y0 x3 x2 x1 x0 hsz;revert wr;intro w0 hsz x0 x1 x2 x3 y0 y1 y2 y3 y0f hl0 hl1 hl2 HB R0 R1 R2 HI HO HP;go_wp2_with fail
   go_loopw [8] (fun i wr=>∃k:Nat,k≤c.nT∧i=.int .i64 k∧Hid (Zp c w0 (w.heap.size+1+1) v k wr)) (fun i _=>c.nT-(intOf i).toNat)
   case atStart=>exact ⟨0,Nat.zero_le _,rfl,fun _=>0,.slice none 0 0,World.grownBy.refl _ _,R2.out,fun i hi=>absurd hi (by omega),fun i j _ hj=>absurd hj (by omega),World.ownsRow_nil _ _ _ _,by simp [Value.ownBlock]⟩
   case round=>
    obtain ⟨k,hk,rfl,HL⟩:=hrel;obtain ⟨rb,v1,hB,r2,hin,hord,hown,hap⟩:=HL.out;obtain ⟨z0,z1,z2,z3⟩:=r2.at4;have z1f:=r2.frozen 1;have hs0:w0.heap.size≤wr.heap.size:=hB.size;have m0:wr.cell? ⟨w.heap.size,0,none⟩=some (.slice p0 c.nC cap0):=hB.cell x0 (by simp;omega);have m1:wr.cell? ⟨w.heap.size,1,none⟩=some (.slice p1 c.nT cap1):=hB.cell x1 (by simp;omega);have m2:wr.cell? ⟨w.heap.size,2,none⟩=some (.slice p2 c.nCh cap2):=hB.cell x2 (by simp;omega);have m3:wr.cell? ⟨w.heap.size,3,none⟩=some (.slice p3 c.nD cap3):=hB.cell x3 (by simp;omega);have HG:Hid (w0.grownBy wr (some (w.heap.size+1+1))):=hB;have R2r:Hid (RowF wr (w.heap.size+1+1) 4 28 (Yc v v1 (.slice none 0 0) (.slice none 0 0))):=r2;have HIr:Hid (∀i,i<k→Inn wr false (rb i) (c.nRow i) 2 (c.row i)∧w0.heap.size≤rb i∧rb i<wr.heap.size):=hin;have HOr:Hid (∀i j,i<j→j<k→rb i<rb j):=hord;have HOw:Hid (wr.ownsRow w0.heap.size 100 1 v1 k (Z4 c rb k)):=hown;have HPr:Hid (∀g,v1.ownBlock=some g→∀i,i<k→g≠rb i):=hap;have HBw:Hid (Below w.heap.size w wr):=HB.out.trans ⟨hB.os,hB.tape,hB.output,hB.size,fun j hj=>hB.block j (by omega) (by simp;omega)⟩;have hw0:w.heap.size<wr.heap.size:=by omega
    have hw2:w.heap.size+1+1<wr.heap.size:=by omega
    clear hB r2 hin hord hown hap HL;by_cases hlt:k<c.nT
    ·obtain ⟨b,off,rfl,hc⟩:=(S1.out.below HBw.out).at (by omega);have c0:=hc k hlt;have hbl:b<wr.heap.size:=block_lt_of_cell c0;clear hc;obtain ⟨pr,capr,hF,-,-,zr,br,sr⟩:=K1.out k hlt;rw [hF] at c0;have SR:Hid (Sl w pr (c.nRow k*2) (fun j=>.int .i64 (c.row k j))):=sr;have BR:Hid (16*c.nRow k≤140737488355328):=br;have ZR:Hid (pr=none→c.nRow k=0):=fun h=>(zr h).1;have hnr:c.nRow k≤8796093022208:=by omega
     clear hF sr br zr;go_wp2_with fail
     refine (Y3L pr (c.nRow k) capr (c.row k) _ (SR.out.below HBw.out) ZR.out BR.out).mono ?_;rintro e wA ⟨rfl,hszA,hbelA,hrowA⟩;have HBA:Hid (Below wr.heap.size wr wA):=hbelA;have HRA:Hid (RowF wA wr.heap.size ((c.nRow k+2)*2) 102 (fun j=>.int .i64 (padZ 2 (c.nRow k) (c.row k) j))):=hrowA;have q1:=(HBA.out.cell (p:=⟨w.heap.size,1,none⟩) hw0).trans m1;have q2:=(HBA.out.cell (p:=⟨w.heap.size+1+1,1,none⟩) hw2).trans z1;have q2f:=(HBA.out.frozen (p:=⟨w.heap.size+1+1,1,none⟩) hw2).trans z1f;have q3:=(HBA.out.cell (p:=⟨b,off+k,none⟩) hbl).trans c0;have hw0':w.heap.size<wA.heap.size:=by omega
     have hw2':w.heap.size+1+1<wA.heap.size:=by omega
     have hbl':b<wA.heap.size:=by omega
     have HZA:Hid (wA.heap.size=wr.heap.size+1):=hszA;have hwA:wr.heap.size≤wA.heap.size:=by omega
     clear hbelA hrowA hszA m0 m1 m2 m3 z0 z1 z2 z3 z1f c0;go_wp2_with fail
     have hle2:(c.nRow k:Int)≤(c.nRow k:Int)+2:=by omega
     have HSZ:Hid (∀o,Below wr.heap.size wr (wA.drew.alloc o)):=fun o=>HBA.out.drew.alloc (by show _≤wA.heap.size;have:=HZA.out;omega) _
     go_region_law (refine Jk rfl _ _ 24 rfl w0.heap.size 100 _ 1 24 Tryz.underlying24 Y17 rfl (by omega) v1 k (Z4 c rb k) rfl (by exact own_below HOw.out (HSZ.out _)) wA.heap.size [.slice (some ⟨wr.heap.size,0,none⟩) (c.nRow k) (c.nRow k+2:Nat)] 100 rfl rfl (by exact alloc_at rfl) (by simp [Value.oneCell']) (by simp only [maxLen];omega) (by have:=B1.out;omega) (by simp;omega) ?_;intro g cap w1 hown1 hgrow1 hat hlt1;obtain ⟨-,u1,-,-⟩:=(Zp.mid HOw.out (HSZ.out _) (by omega) hgrow1 R2r.out).at4;have u1f:=(Zp.mid HOw.out (HSZ.out _) (by omega) hgrow1 R2r.out).frozen 1)
     all_goals
      have HF:Hid (Zp c w0 (w.heap.size+1+1) v (k+1) (w1.setCell ⟨w.heap.size+1+1,1,none⟩ (.slice (some ⟨g,0,none⟩) (k+1:Nat) cap))):=
       Zp.step (b:=wr.heap.size) (by omega) HG.out R2r.out HIr.out HOr.out HOw.out HPr.out (HSZ.out _) (Nat.le_refl _) (by simp;have:=HZA.out;omega) (fun _=>⟨_,RowF.alloc (w:=wA.drew) HRA.out _⟩) (by simpa [Y6] using hown1) hgrow1 (by simpa using hat)
      clear hown1 hgrow1 hat hlt1;go_wp2_with fail
      exact ⟨⟨k+1,by omega,by go_num,HF⟩,by simp [intOf];omega⟩
    ·obtain rfl:k=c.nT:=by omega
     clear hlt hk;obtain ⟨n2,zz2,n3,zz3⟩:=HN.out;obtain ⟨pv,mv,cv,rfl⟩:=ZT HO.out;obtain ⟨pu,mu,cu,rfl⟩:=ZT HOw.out;have RR1:Hid (RowF wr (w.heap.size+1) 4 28 (Yc (.slice none 0 0) (.slice none 0 0) (.slice none 0 0) (.slice none 0 0))):=R1.out.of_heap (HG.out.block _ (by omega) (by simp));have hw1:w.heap.size+1<wr.heap.size:=by omega
     obtain ⟨t0,t1,t2,t3⟩:=RR1.out.at4;have t0f:=RR1.out.frozen 0;have t1f:=RR1.out.frozen 1;have t2f:=RR1.out.frozen 2;have t3f:=RR1.out.frozen 3;have z2f:=R2r.out.frozen 2;have z3f:=R2r.out.frozen 3;have R0r:Hid (RowF wr w.heap.size 4 28 (Yc (.slice p0 c.nC cap0) (.slice p1 c.nT cap1) (.slice p2 c.nCh cap2) (.slice p3 c.nD cap3))):=R0.out.of_heap (HG.out.block _ (by omega) (by simp;omega));have S3':Hid (Sl w p3 c.nD (fun j=>.int .i64 (c.dv j))):=by show Sl _ _ _ _;have h:=S3.out;rwa [Nat.mul_one] at h
     cases p2 with
     |none=>
      obtain ⟨hz2,rfl⟩:=zz2 rfl;have HN2:Hid (c.chN=true):=n2.1 rfl;rw [hz2] at m2;clear zz2 n2 hz2;cases p3 with
      |none=>
       obtain ⟨hz3,rfl⟩:=zz3 rfl;have HN3:Hid (c.dvN=true):=n3.1 rfl;rw [hz3] at m3;clear zz3 n3 hz3;go_wp2_with fail
       have HROW:=JY ((((RR1.out.set4 (.slice pv mv cv)).1.set4 (.slice pu mu cu)).2.1.set4 (.slice none 0 0)).2.2.1.set4 (.slice none 0 0)).2.2.2;refine bodyPost_ret (results_cell_row (P:=Tryz.prog) rfl _ _ (w.heap.size+1) 28 #[.slice pv mv cv,.slice pu mu cu,.slice none 0 0,.slice none 0 0] (0,0) _ rfl HROW Tryz.underlying28 rfl Y03) rfl ?_;have HFIN:=X5.mk' (w:=w) (wr:=wr) (wF:=((((wr).setCell ⟨w.heap.size+1,0,none⟩ (.slice pv mv cv)).setCell ⟨w.heap.size+1,1,none⟩ (.slice pu mu cu)).setCell ⟨w.heap.size+1,2,none⟩ (.slice none 0 0)).setCell ⟨w.heap.size+1,3,none⟩ (.slice none 0 0)) (hb:=wr.heap.size) (db:=wr.heap.size+1) (by omega) HI.out HO.out HG.out HIr.out HOr.out HOw.out (fun j h1 h2=>by rw [Y0W _ _ _ _ _ _ j (by omega)]) (fun h=>by rw [HN2.out] at h;cases h) (fun h=>by rw [HN3.out] at h;cases h) (fun _=>by omega) (fun _=>by omega) (fun _ _=>by omega);exact ⟨_,_,_,_,rfl,by simpa [Y6,HN2.out,HN3.out] using HFIN,Y0b (HBw.out) (by omega) _ _ _ _⟩
      |some q=>
       obtain ⟨bq3,oq3,sq3⟩:=q;have HN3:Hid (c.dvN=false):=by
        show _=_;cases h:c.dvN
        ·rfl
        ·exact absurd (n3.2 h) (by simp)
       clear zz3 n3;go_wp2_with fail
       refine (Jq (some ⟨bq3,oq3,sq3⟩) c.nD cap3 c.dv _ (S3'.out.below HBw.out) (by simp) B3.out).mono ?_;rintro e wD ⟨rfl,hszD,hbelD,hrowD⟩;have HBD:Hid (Below wr.heap.size wr wD):=hbelD;have hszD':wD.heap.size=wr.heap.size+1:=hszD;have HRD:Hid (RowF wD wr.heap.size ((c.nD+2)*1) 3 (fun j=>.int .i64 (padZ 1 c.nD c.dv j))):=hrowD;have R2D:=R2r.out.below hbelD (by omega);have R1D:=RR1.out.below hbelD (by omega);have R0D:=R0r.out.below hbelD (by omega);clear hbelD hrowD hszD m0 m1 m2 m3 z0 z1 z2 z3 z1f t0 t1 t2 t3 t0f t1f t2f t3f z2f z3f;obtain ⟨m0,m1,m2,m3⟩:=R0D.at4;obtain ⟨z0,z1,z2,z3⟩:=R2D.at4;obtain ⟨t0,t1,t2,t3⟩:=R1D.at4;have z3f:=R2D.frozen 3;have t0f:=R1D.frozen 0;have t1f:=R1D.frozen 1;have t2f:=R1D.frozen 2;have t3f:=R1D.frozen 3;have RF:Hid (RowF (wD.setCell ⟨w.heap.size+1+1,3,none⟩ (.slice (some ⟨wr.heap.size,0,none⟩) c.nD (c.nD+2:Nat))) (w.heap.size+1) 4 28 (Yc (.slice none 0 0) (.slice none 0 0) (.slice none 0 0) (.slice none 0 0))):=R1D.other _ _ (by simp);clear R0D R2D R1D;go_wp2_with fail
       have HROW:=JY ((((RF.out.set4 (.slice pv mv cv)).1.set4 (.slice pu mu cu)).2.1.set4 (.slice none 0 0)).2.2.1.set4 (.slice (some ⟨wr.heap.size,0,none⟩) c.nD (c.nD+2:Nat))).2.2.2;refine bodyPost_ret (results_cell_row (P:=Tryz.prog) rfl _ _ (w.heap.size+1) 28 #[.slice pv mv cv,.slice pu mu cu,.slice none 0 0,.slice (some ⟨wr.heap.size,0,none⟩) c.nD (c.nD+2:Nat)] (0,0) _ rfl HROW Tryz.underlying28 rfl Y03) rfl ?_;have HFIN:=X5.mk' (w:=w) (wr:=wr) (wF:=((((wD.setCell ⟨w.heap.size+1+1,3,none⟩ (.slice (some ⟨wr.heap.size,0,none⟩) c.nD (c.nD+2:Nat))).setCell ⟨w.heap.size+1,0,none⟩ (.slice pv mv cv)).setCell ⟨w.heap.size+1,1,none⟩ (.slice pu mu cu)).setCell ⟨w.heap.size+1,2,none⟩ (.slice none 0 0)).setCell ⟨w.heap.size+1,3,none⟩ (.slice (some ⟨wr.heap.size,0,none⟩) c.nD (c.nD+2:Nat))) (hb:=wr.heap.size) (db:=wr.heap.size) (by omega) HI.out HO.out HG.out HIr.out HOr.out HOw.out (fun j h1 h2=>by rw [Y0W _ _ _ _ _ _ j (by omega)];rw [heap_setCell_other _ _ _ _ (by simp;omega)];exact HBD.out.block j h2) (fun h=>by rw [HN2.out] at h;cases h) (fun _=>⟨_,(((((HRD.out.other _ _ (by simp;omega)).other _ _ (by simp;omega)).other _ _ (by simp;omega)).other _ _ (by simp;omega)).other _ _ (by simp;omega))⟩) (fun _=>by omega) (fun _=>by omega) (fun h=>by rw [HN2.out] at h;cases h);exact ⟨_,_,_,_,rfl,by simpa [Y6,HN2.out,HN3.out] using HFIN,Y0b ((HBw.out.trans (HBD.out.mono (by omega))).setCell (by simp;omega) _) (by omega) _ _ _ _⟩
     |some q=>
      obtain ⟨bq2,oq2,sq2⟩:=q;have HN2:Hid (c.chN=false):=by
       show _=_;cases h:c.chN
       ·rfl
       ·exact absurd (n2.2 h) (by simp)
      clear zz2 n2;go_wp2_with fail
      refine (Y1J (some ⟨bq2,oq2,sq2⟩) c.nCh cap2 c.ch _ (S2.out.below HBw.out) (by simp) B2.out).mono ?_;rintro e wA ⟨rfl,hszA,hbelA,hrowA⟩;have HBA:Hid (Below wr.heap.size wr wA):=hbelA;have HZA:Hid (wA.heap.size=wr.heap.size+1):=hszA;have hszA':wr.heap.size<wA.heap.size:=by omega
      have HRA:Hid (RowF wA wr.heap.size ((c.nCh+2)*3) 138 (fun j=>.int .i64 (padZ 3 c.nCh c.ch j))):=hrowA;have R2A:=R2r.out.below hbelA (by omega);have R1A:=RR1.out.below hbelA (by omega);have R0A:=R0r.out.below hbelA (by omega);clear hbelA hrowA hszA m0 m1 m2 m3 z0 z1 z2 z3 z1f t0 t1 t2 t3 t0f t1f t2f t3f z2f z3f;obtain ⟨m0,m1,m2,m3⟩:=R0A.at4;obtain ⟨z0,z1,z2,z3⟩:=R2A.at4;obtain ⟨t0,t1,t2,t3⟩:=R1A.at4;have z2f:=R2A.frozen 2;have z3f:=R2A.frozen 3;have t0f:=R1A.frozen 0;have t1f:=R1A.frozen 1;have t2f:=R1A.frozen 2;have t3f:=R1A.frozen 3;have RA0:Hid (RowF (wA.setCell ⟨w.heap.size+1+1,2,none⟩ (.slice (some ⟨wr.heap.size,0,none⟩) c.nCh (c.nCh+2:Nat))) w.heap.size 4 28 _):=R0A.other _ _ (by simp;omega);have RA1:Hid (RowF (wA.setCell ⟨w.heap.size+1+1,2,none⟩ (.slice (some ⟨wr.heap.size,0,none⟩) c.nCh (c.nCh+2:Nat))) (w.heap.size+1) 4 28 _):=R1A.other _ _ (by simp);have RA2:Hid (RowF (wA.setCell ⟨w.heap.size+1+1,2,none⟩ (.slice (some ⟨wr.heap.size,0,none⟩) c.nCh (c.nCh+2:Nat))) (w.heap.size+1+1) 4 28 _):=(R2A.set4 _).2.2.1;clear R0A R1A R2A;cases p3 with
      |none=>
       obtain ⟨hz3,rfl⟩:=zz3 rfl;have HN3:Hid (c.dvN=true):=n3.1 rfl;rw [hz3] at m3;clear zz3 n3 hz3;go_wp2_with fail
       have HROW:=JY ((((RA1.out.set4 (.slice pv mv cv)).1.set4 (.slice pu mu cu)).2.1.set4 (.slice (some ⟨wr.heap.size,0,none⟩) c.nCh (c.nCh+2:Nat))).2.2.1.set4 (.slice none 0 0)).2.2.2;refine bodyPost_ret (results_cell_row (P:=Tryz.prog) rfl _ _ (w.heap.size+1) 28 #[.slice pv mv cv,.slice pu mu cu,.slice (some ⟨wr.heap.size,0,none⟩) c.nCh (c.nCh+2:Nat),.slice none 0 0] (0,0) _ rfl HROW Tryz.underlying28 rfl Y03) rfl ?_;have HFIN:=X5.mk' (w:=w) (wr:=wr) (wF:=((((wA.setCell ⟨w.heap.size+1+1,2,none⟩ (.slice (some ⟨wr.heap.size,0,none⟩) c.nCh (c.nCh+2:Nat))).setCell ⟨w.heap.size+1,0,none⟩ (.slice pv mv cv)).setCell ⟨w.heap.size+1,1,none⟩ (.slice pu mu cu)).setCell ⟨w.heap.size+1,2,none⟩ (.slice (some ⟨wr.heap.size,0,none⟩) c.nCh (c.nCh+2:Nat))).setCell ⟨w.heap.size+1,3,none⟩ (.slice none 0 0)) (hb:=wr.heap.size) (db:=wr.heap.size+1) (by omega) HI.out HO.out HG.out HIr.out HOr.out HOw.out (fun j h1 h2=>by rw [Y0W _ _ _ _ _ _ j (by omega)];rw [heap_setCell_other _ _ _ _ (by simp;omega)];exact HBA.out.block j h2) (fun _=>⟨_,(((((HRA.out.other _ _ (by simp;omega)).other _ _ (by simp;omega)).other _ _ (by simp;omega)).other _ _ (by simp;omega)).other _ _ (by simp;omega))⟩) (fun h=>by rw [HN3.out] at h;cases h) (fun _=>by omega) (fun _=>by omega) (fun _ _=>by omega);exact ⟨_,_,_,_,rfl,by simpa [Y6,HN2.out,HN3.out] using HFIN,Y0b ((HBw.out.trans (HBA.out.mono (by omega))).setCell (by simp;omega) _) (by omega) _ _ _ _⟩
      |some q=>
       obtain ⟨bq3,oq3,sq3⟩:=q;have HN3:Hid (c.dvN=false):=by
        show _=_;cases h:c.dvN
        ·rfl
        ·exact absurd (n3.2 h) (by simp)
       clear zz3 n3;go_wp2_with fail
       have HBS:Hid (Below w.heap.size w (wA.setCell ⟨w.heap.size+1+1,2,none⟩ (.slice (some ⟨wr.heap.size,0,none⟩) c.nCh (c.nCh+2:Nat)))):=(HBw.out.trans (HBA.out.mono (by omega))).setCell (by simp;omega) _;refine (Jq (some ⟨bq3,oq3,sq3⟩) c.nD cap3 c.dv _ (S3'.out.below HBS.out) (by simp) B3.out).mono ?_;rintro e wD ⟨he,hszD,hbelD,hrowD⟩;have hsz2:(wA.setCell ⟨w.heap.size+1+1,2,none⟩ (.slice (some ⟨wr.heap.size,0,none⟩) c.nCh (c.nCh+2:Nat))).heap.size=wr.heap.size+1:=by rw [size_setCell];exact HZA.out
       rw [hsz2] at he hszD hrowD;subst he;have HBD:Hid (Below (wr.heap.size+1) (wA.setCell ⟨w.heap.size+1+1,2,none⟩ (.slice (some ⟨wr.heap.size,0,none⟩) c.nCh (c.nCh+2:Nat))) wD):=hbelD.mono (by omega);have HZD:Hid (wD.heap.size=wr.heap.size+1+1):=hszD;have hszD':wr.heap.size+1<wD.heap.size:=by omega
       have HRD:Hid (RowF wD (wr.heap.size+1) ((c.nD+2)*1) 3 (fun j=>.int .i64 (padZ 1 c.nD c.dv j))):=hrowD;have HRC:Hid (RowF wD wr.heap.size ((c.nCh+2)*3) 138 (fun j=>.int .i64 (padZ 3 c.nCh c.ch j))):=(HRA.out.other _ _ (by simp;omega)).below HBD.out (by omega);have R2D:=RA2.out.below HBD.out (by omega);have R1D:=RA1.out.below HBD.out (by omega);have R0D:=RA0.out.below HBD.out (by omega);clear hbelD hrowD hszD m0 m1 m2 m3 z0 z1 z2 z3 t0 t1 t2 t3 t0f t1f t2f t3f z2f z3f hsz2;obtain ⟨m0,m1,m2,m3⟩:=R0D.at4;obtain ⟨z0,z1,z2,z3⟩:=R2D.at4;obtain ⟨t0,t1,t2,t3⟩:=R1D.at4;have z3f:=R2D.frozen 3;have t0f:=R1D.frozen 0;have t1f:=R1D.frozen 1;have t2f:=R1D.frozen 2;have t3f:=R1D.frozen 3;have RF:Hid (RowF (wD.setCell ⟨w.heap.size+1+1,3,none⟩ (.slice (some ⟨wr.heap.size+1,0,none⟩) c.nD (c.nD+2:Nat))) (w.heap.size+1) 4 28 (Yc (.slice none 0 0) (.slice none 0 0) (.slice none 0 0) (.slice none 0 0))):=R1D.other _ _ (by simp);clear R0D R2D R1D;have HFAR:Hid (∀j,w.heap.size+3≤j→j<wr.heap.size→wD.heap[j]?=wr.heap[j]?):=fun j h1 h2=>by
        rw [HBD.out.block j (by omega),heap_setCell_other _ _ _ _ (by simp;omega)];exact HBA.out.block j h2
       have HBF:Hid (Below w.heap.size w wD):=HBS.out.trans (HBD.out.mono (by omega));go_wp2_with fail
       have HROW:=JY ((((RF.out.set4 (.slice pv mv cv)).1.set4 (.slice pu mu cu)).2.1.set4 (.slice (some ⟨wr.heap.size,0,none⟩) c.nCh (c.nCh+2:Nat))).2.2.1.set4 (.slice (some ⟨wr.heap.size+1,0,none⟩) c.nD (c.nD+2:Nat))).2.2.2;refine bodyPost_ret (results_cell_row (P:=Tryz.prog) rfl _ _ (w.heap.size+1) 28 #[.slice pv mv cv,.slice pu mu cu,.slice (some ⟨wr.heap.size,0,none⟩) c.nCh (c.nCh+2:Nat),.slice (some ⟨wr.heap.size+1,0,none⟩) c.nD (c.nD+2:Nat)] (0,0) _ rfl HROW Tryz.underlying28 rfl Y03) rfl ?_;have HFIN:=X5.mk' (w:=w) (wr:=wr) (wF:=((((wD.setCell ⟨w.heap.size+1+1,3,none⟩ (.slice (some ⟨wr.heap.size+1,0,none⟩) c.nD (c.nD+2:Nat))).setCell ⟨w.heap.size+1,0,none⟩ (.slice pv mv cv)).setCell ⟨w.heap.size+1,1,none⟩ (.slice pu mu cu)).setCell ⟨w.heap.size+1,2,none⟩ (.slice (some ⟨wr.heap.size,0,none⟩) c.nCh (c.nCh+2:Nat))).setCell ⟨w.heap.size+1,3,none⟩ (.slice (some ⟨wr.heap.size+1,0,none⟩) c.nD (c.nD+2:Nat))) (hb:=wr.heap.size) (db:=wr.heap.size+1) (by omega) HI.out HO.out HG.out HIr.out HOr.out HOw.out (fun j h1 h2=>by rw [Y0W _ _ _ _ _ _ j (by omega)];rw [heap_setCell_other _ _ _ _ (by simp;omega)];exact HFAR.out j h1 h2) (fun _=>⟨_,(((((HRC.out.other _ _ (by simp;omega)).other _ _ (by simp;omega)).other _ _ (by simp;omega)).other _ _ (by simp;omega)).other _ _ (by simp;omega))⟩) (fun _=>⟨_,(((((HRD.out.other _ _ (by simp;omega)).other _ _ (by simp;omega)).other _ _ (by simp;omega)).other _ _ (by simp;omega)).other _ _ (by simp;omega))⟩) (fun _=>by omega) (fun _=>by omega) (fun _ _=>by omega);exact ⟨_,_,_,_,rfl,by simpa [Y6,HN2.out,HN3.out] using HFIN,Y0b (HBF.out.setCell (by simp;omega) _) (by omega) _ _ _ _⟩
end Go.Proofs.YtdoghgnifkgfdaaGreat
