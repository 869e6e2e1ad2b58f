import Derived.WalkKit
import Derived.WalkSpells
import Derived.WalkLawsBesides
import Derived.Deep.AppendLies
import Derived.Laws.CopyOwn
import Derived.Test.YtdoghgnifkgfdaaGreatProg
set_option maxRecDepth 100000
set_option maxHeartbeats 16000000
namespace Go.Proofs.YtdoghgnifkgfdaaGreat
open Go.RowKit
def RowF (w:World) (g m t:Nat) (f:Nat→Value):Prop:=
 ∃cs:Array Value,w.heap[g]?=some (.cells cs t (0,0))∧cs.size=m∧∀j,j<m→cs[j]?=some (f j)
def Sl (w:World) (p:Option Addr) (m:Nat) (f:Nat→Value):Prop:=
 m=0∨∃b off,p=some ⟨b,off,none⟩∧∀j,j<m→w.cell? ⟨b,off+j,none⟩=some (f j)
section
variable {w w':World} {g m t:Nat} {f f':Nat→Value}
theorem RowF.cell (h:RowF w g m t f) {j:Nat} (hj:j<m):w.cell? ⟨g,j,none⟩=some (f j):=by
 obtain ⟨cs,h1,_,h3⟩:=h;rw [cell_of_row w g j cs t (0,0) h1];exact h3 j hj
theorem RowF.frozen (h:RowF w g m t f) (j:Nat):w.frozen? ⟨g,j,none⟩=false:=by
 obtain ⟨cs,h1,_⟩:=h;exact frozen_of_row w g j cs t h1
theorem RowF.lt (h:RowF w g m t f):g<w.heap.size:=by
 obtain ⟨cs,h1,_⟩:=h;exact (Array.getElem?_eq_some_iff.1 h1).1
theorem RowF.congr (h:RowF w g m t f) (hf:∀j,j<m→f j=f' j):RowF w g m t f':=by
 obtain ⟨cs,h1,h2,h3⟩:=h;exact ⟨cs,h1,h2,fun j hj=>by rw [h3 j hj,hf j hj]⟩
theorem RowF.of_heap (h:RowF w g m t f) (e:w'.heap[g]?=w.heap[g]?):RowF w' g m t f:=by
 obtain ⟨cs,h1,h2,h3⟩:=h;exact ⟨cs,by rw [e];exact h1,h2,h3⟩
theorem RowF.set (h:RowF w g m t f) (j:Nat) (v:Value):RowF (w.setCell ⟨g,j,none⟩ v) g m t (fun i=>if i=j then v else f i):=by
 obtain ⟨cs,h1,h2,h3⟩:=h;refine ⟨cs.setIfInBounds j v,heap_setCell_same w g j cs t v h1,by simp [h2],fun i hi=>?_⟩;rw [Array.getElem?_setIfInBounds];by_cases e:j=i
 ·subst e;simp [h2,hi]
 ·have e':¬i=j:=fun x=>e x.symm;simp [e,e',h3 i hi]
theorem RowF.other (h:RowF w g m t f) (a:Addr) (v:Value) (ha:a.block≠g):RowF (w.setCell a v) g m t f:=
 h.of_heap (heap_setCell_other w a g v (fun e=>ha e.symm))
theorem RowF.alloc (h:RowF w g m t f) (o:Obj):RowF (w.alloc o) g m t f:=h.of_heap (heap_alloc_old w o h.lt)
theorem RowF.new (w:World) (cs:Array Value) (t:Nat) (f:Nat→Value) (hf:∀j,j<cs.size→cs[j]?=some (f j)):RowF (w.alloc (.cells cs t)) w.heap.size cs.size t f:=
 ⟨cs,heap_alloc_new w _,rfl,hf⟩
theorem RowF.below {B:Nat} (h:RowF w g m t f) (hb:Below B w w') (hg:g<B):RowF w' g m t f:=h.of_heap (hb.block g hg)
end
theorem Sl.keep {w w':World} {p:Option Addr} {m:Nat} {f:Nat→Value} (h:Sl w p m f) (hk:∀a v,w.cell? a=some v→w'.cell? a=some v):Sl w' p m f:=by
 rcases h with h|⟨b,off,hp,hc⟩
 ·exact .inl h
 ·exact .inr ⟨b,off,hp,fun j hj=>hk _ _ (hc j hj)⟩
theorem Zc {w w':World} (h:Below w.heap.size w w'):∀a v,w.cell? a=some v→w'.cell? a=some v:=by
 intro a v ha;rw [h.cell (block_lt_of_cell ha)];exact ha
theorem Sl.below {w w':World} {p:Option Addr} {m:Nat} {f:Nat→Value} (h:Sl w p m f) (hb:Below w.heap.size w w'):Sl w' p m f:=h.keep (Zc hb)
theorem Sl.congr {w:World} {p:Option Addr} {m:Nat} {f f':Nat→Value} (h:Sl w p m f) (hf:∀j,j<m→f j=f' j):Sl w p m f':=by
 rcases h with h|⟨b,off,hp,hc⟩
 ·exact .inl h
 ·exact .inr ⟨b,off,hp,fun j hj=>by rw [hc j hj,hf j hj]⟩
theorem size_setCell (w:World) (a:Addr) (v:Value):(w.setCell a v).heap.size=w.heap.size:=by simp [World.setCell]
structure Cfg where
 cellsN:Bool
 nC:Nat
 lim:Nat→Int
 codeN:Nat→Bool
 nCode:Nat→Nat
 code:Nat→Nat→Int
 imgN:Nat→Bool
 nImg:Nat→Nat
 img:Nat→Nat→Int
 tableN:Bool
 nT:Nat
 rowN:Nat→Bool
 nRow:Nat→Nat
 row:Nat→Nat→Int
 chN:Bool
 nCh:Nat
 ch:Nat→Int
 dvN:Bool
 nD:Nat
 dv:Nat→Int
def sumTo (z:Nat→Int):Nat→Int
 |0=>0
 |m+1=>sumTo z m+z (m*2+1)
def J7 (n:Nat) (z:Nat→Int) (i:Nat):Prop:=0≤z (i*2)∧z (i*2)<n∧1≤z (i*2+1)
def Zt (n m:Nat) (z:Nat→Int):Prop:=m≤6∧(∀i,i<m→J7 n z i)∧sumTo z m≤200
def ChOk (c:Cfg) (i:Nat):Prop:=
 (c.ch (i*3)=1∨c.ch (i*3)=2)∧(0≤c.ch (i*3+1)∧c.ch (i*3+1)<c.nC)∧(0≤c.ch (i*3+2)∧c.ch (i*3+2)<c.nC)∧c.ch (i*3+1)≠c.ch (i*3+2)
def DvOk (c:Cfg) (i:Nat):Prop:=0≤c.dv i∧c.dv i<c.nC
def YA (c:Cfg) (cell:Int) (n kind:Int) (ende:Nat):Prop:=
 0≤n∧n<c.nCh∧c.ch (n.toNat*3)=kind∧c.ch (n.toNat*3+ende)=cell
def Xe (c:Cfg) (cell nCode:Nat) (op r a n:Int):Prop:=
 (0≤op∧op≤16)∧(0≤r∧r<4)∧(0≤a∧a<4)∧
 ((op=8∨op=9)→0≤n∧n<nCode)∧
 (op=10→YA c cell n 1 1)∧(op=11→YA c cell n 2 1)∧((op=12∨op=16)→YA c cell n 1 2)∧(op=13→YA c cell n 2 2)∧
 (op=14→0≤n∧n<c.nD∧c.dv n.toNat=cell)
def XO (c:Cfg) (i k:Nat):Prop:=Xe c i (c.nCode i) (c.code i (k*4)) (c.code i (k*4+1)) (c.code i (k*4+2)) (c.code i (k*4+3))
def X3 (c:Cfg) (i:Nat):Prop:=
 (0≤c.lim i∧c.lim i≤5)∧c.nImg i≤16∧(1≤c.nCode i∧c.nCode i≤48)∧∀k,k<c.nCode i→XO c i k
def Bad1 (P:Nat→Prop) (n i:Nat):Prop:=i<n∧¬P i∧∀j,j<i→P j
def Yb (P:Nat→Prop) (n:Nat):Prop:=∀j,j<n→P j
def YU (c:Cfg) (i:Nat):Prop:=Zt c.nC (c.nRow i) (c.row i)
def NCok (c:Cfg):Prop:=1≤c.nC∧c.nC≤6
def NTok (c:Cfg):Prop:=1≤c.nT∧c.nT≤8
def Y8 (c:Cfg) (e at':Int):Prop:=
 (¬NCok c∧e=1∧at'=0)∨
 (NCok c∧¬NTok c∧e=2∧at'=0)∨
 (NCok c∧NTok c∧∃i:Nat,Bad1 (YU c) c.nT i∧e=2∧at'=i)∨
 (NCok c∧NTok c∧Yb (YU c) c.nT∧¬c.nCh≤8∧e=3∧at'=0)∨
 (NCok c∧NTok c∧Yb (YU c) c.nT∧c.nCh≤8∧∃i:Nat,Bad1 (ChOk c) c.nCh i∧e=3∧at'=i)∨
 (NCok c∧NTok c∧Yb (YU c) c.nT∧c.nCh≤8∧Yb (ChOk c) c.nCh∧¬c.nD≤4∧e=4∧at'=0)∨
 (NCok c∧NTok c∧Yb (YU c) c.nT∧c.nCh≤8∧Yb (ChOk c) c.nCh∧c.nD≤4∧∃i:Nat,Bad1 (DvOk c) c.nD i∧e=4∧at'=i)∨
 (NCok c∧NTok c∧Yb (YU c) c.nT∧c.nCh≤8∧Yb (ChOk c) c.nCh∧c.nD≤4∧Yb (DvOk c) c.nD∧∃i:Nat,Bad1 (X3 c) c.nC i∧e=5∧at'=i)∨
 (NCok c∧NTok c∧Yb (YU c) c.nT∧c.nCh≤8∧Yb (ChOk c) c.nCh∧c.nD≤4∧Yb (DvOk c) c.nD∧Yb (X3 c) c.nC∧e=0∧at'=0)
theorem Bad1.uniq {P:Nat→Prop} {n i j:Nat} (h:Bad1 P n i) (k:Bad1 P n j):i=j:=by
 rcases Nat.lt_trichotomy i j with hl|he|hl
 ·exact absurd (k.2.2 i hl) h.2.1
 ·exact he
 ·exact absurd (h.2.2 j hl) k.2.1
theorem Bad1.not_all {P:Nat→Prop} {n i:Nat} (h:Bad1 P n i) (k:Yb P n):False:=h.2.1 (k i h.1)
theorem Y8.uniq {c:Cfg} {e a e' a':Int} (h:Y8 c e a) (k:Y8 c e' a'):e=e'∧a=a':=by
 unfold Y8 at h k;rcases h with h|h|h|h|h|h|h|h|h<;>rcases k with k|k|k|k|k|k|k|k|k
 all_goals first
  |exact absurd k.1 h.1
  |exact absurd h.1 k.1
  |exact absurd k.2.1 h.2.1
  |exact absurd h.2.1 k.2.1
  |exact ⟨h.2.1.trans k.2.1.symm,h.2.2.trans k.2.2.symm⟩
  |exact ⟨h.2.2.1.trans k.2.2.1.symm,h.2.2.2.trans k.2.2.2.symm⟩
  |(obtain ⟨_,_,i,h1,h2,h3⟩:=h;obtain ⟨_,_,j,k1,k2,k3⟩:=k;have:=h1.uniq k1;subst this;exact ⟨h2.trans k2.symm,h3.trans k3.symm⟩)
  |(obtain ⟨_,_,i,h1,h2,h3⟩:=h;exact absurd k.2.2.1 (fun x=>h1.not_all x))
  |(obtain ⟨_,_,i,h1,h2,h3⟩:=k;exact absurd h.2.2.1 (fun x=>h1.not_all x))
  |exact absurd k.2.2.2.1 h.2.2.2.1
  |exact absurd h.2.2.2.1 k.2.2.2.1
  |exact ⟨h.2.2.2.2.1.trans k.2.2.2.2.1.symm,h.2.2.2.2.2.trans k.2.2.2.2.2.symm⟩
  |(obtain ⟨_,_,_,_,i,h1,h2,h3⟩:=h;obtain ⟨_,_,_,_,j,k1,k2,k3⟩:=k;have:=h1.uniq k1;subst this;exact ⟨h2.trans k2.symm,h3.trans k3.symm⟩)
  |(obtain ⟨_,_,_,_,i,h1,h2,h3⟩:=h;exact absurd k.2.2.2.2.1 (fun x=>h1.not_all x))
  |(obtain ⟨_,_,_,_,i,h1,h2,h3⟩:=k;exact absurd h.2.2.2.2.1 (fun x=>h1.not_all x))
  |exact absurd k.2.2.2.2.2.1 h.2.2.2.2.2.1
  |exact absurd h.2.2.2.2.2.1 k.2.2.2.2.2.1
  |exact ⟨h.2.2.2.2.2.2.1.trans k.2.2.2.2.2.2.1.symm,h.2.2.2.2.2.2.2.trans k.2.2.2.2.2.2.2.symm⟩
  |(obtain ⟨_,_,_,_,_,_,i,h1,h2,h3⟩:=h;obtain ⟨_,_,_,_,_,_,j,k1,k2,k3⟩:=k;have:=h1.uniq k1;subst this;exact ⟨h2.trans k2.symm,h3.trans k3.symm⟩)
  |(obtain ⟨_,_,_,_,_,_,i,h1,h2,h3⟩:=h;exact absurd k.2.2.2.2.2.2.1 (fun x=>h1.not_all x))
  |(obtain ⟨_,_,_,_,_,_,i,h1,h2,h3⟩:=k;exact absurd h.2.2.2.2.2.2.1 (fun x=>h1.not_all x))
  |(obtain ⟨_,_,_,_,_,_,_,i,h1,h2,h3⟩:=h;obtain ⟨_,_,_,_,_,_,_,j,k1,k2,k3⟩:=k;have:=h1.uniq k1;subst this;exact ⟨h2.trans k2.symm,h3.trans k3.symm⟩)
  |(obtain ⟨_,_,_,_,_,_,_,i,h1,h2,h3⟩:=h;exact absurd k.2.2.2.2.2.2.2.1 (fun x=>h1.not_all x))
  |(obtain ⟨_,_,_,_,_,_,_,i,h1,h2,h3⟩:=k;exact absurd h.2.2.2.2.2.2.2.1 (fun x=>h1.not_all x))
  |exact ⟨h.2.2.2.2.2.2.2.2.1.trans k.2.2.2.2.2.2.2.2.1.symm,h.2.2.2.2.2.2.2.2.2.trans k.2.2.2.2.2.2.2.2.2.symm⟩
section
variable {c:Cfg} {i:Nat}
theorem Y8.c1 (h:¬NCok c):Y8 c 1 0:=.inl ⟨h,rfl,rfl⟩
theorem Y8.c2 (a1:NCok c) (h:¬NTok c):Y8 c 2 0:=.inr (.inl ⟨a1,h,rfl,rfl⟩)
theorem Y8.c3 (a1:NCok c) (a2:NTok c) (h:Bad1 (YU c) c.nT i):Y8 c 2 i:=.inr (.inr (.inl ⟨a1,a2,i,h,rfl,rfl⟩))
theorem Y8.c4 (a1:NCok c) (a2:NTok c) (a3:Yb (YU c) c.nT) (h:¬c.nCh≤8):Y8 c 3 0:=.inr (.inr (.inr (.inl ⟨a1,a2,a3,h,rfl,rfl⟩)))
theorem Y8.c5 (a1:NCok c) (a2:NTok c) (a3:Yb (YU c) c.nT) (a4:c.nCh≤8) (h:Bad1 (ChOk c) c.nCh i):Y8 c 3 i:=.inr (.inr (.inr (.inr (.inl ⟨a1,a2,a3,a4,i,h,rfl,rfl⟩))))
theorem Y8.c6 (a1:NCok c) (a2:NTok c) (a3:Yb (YU c) c.nT) (a4:c.nCh≤8) (a5:Yb (ChOk c) c.nCh) (h:¬c.nD≤4):Y8 c 4 0:=.inr (.inr (.inr (.inr (.inr (.inl ⟨a1,a2,a3,a4,a5,h,rfl,rfl⟩)))))
theorem Y8.c7 (a1:NCok c) (a2:NTok c) (a3:Yb (YU c) c.nT) (a4:c.nCh≤8) (a5:Yb (ChOk c) c.nCh) (a6:c.nD≤4) (h:Bad1 (DvOk c) c.nD i):Y8 c 4 i:=.inr (.inr (.inr (.inr (.inr (.inr (.inl ⟨a1,a2,a3,a4,a5,a6,i,h,rfl,rfl⟩))))))
theorem Y8.c8 (a1:NCok c) (a2:NTok c) (a3:Yb (YU c) c.nT) (a4:c.nCh≤8) (a5:Yb (ChOk c) c.nCh) (a6:c.nD≤4) (a7:Yb (DvOk c) c.nD) (h:Bad1 (X3 c) c.nC i):Y8 c 5 i:=.inr (.inr (.inr (.inr (.inr (.inr (.inr (.inl ⟨a1,a2,a3,a4,a5,a6,a7,i,h,rfl,rfl⟩)))))))
theorem Y8.c9 (a1:NCok c) (a2:NTok c) (a3:Yb (YU c) c.nT) (a4:c.nCh≤8) (a5:Yb (ChOk c) c.nCh) (a6:c.nD≤4) (a7:Yb (DvOk c) c.nD) (h:Yb (X3 c) c.nC):Y8 c 0 0:=.inr (.inr (.inr (.inr (.inr (.inr (.inr (.inr ⟨a1,a2,a3,a4,a5,a6,a7,h,rfl,rfl⟩)))))))
end
theorem Yb.step {P:Nat→Prop} {k:Nat} (h:Yb P k) (hk:P k):Yb P (k+1):=by
 intro j hj;rcases Nat.lt_or_ge j k with hl|hl
 ·exact h j hl
 ·obtain rfl:j=k:=by omega
  exact hk
theorem Yb.zero (P:Nat→Prop):Yb P 0:=fun _ h=>absurd h (by omega)
def SlZ (w:World) (v:Value) (nl:Bool) (n k:Nat) (z:Nat→Int) (bn:Nat):Prop:=
 ∃p cap,v=.slice p n cap∧n≤cap∧(p=none↔nl=true)∧(p=none→n=0∧cap=0)∧bn*n≤140737488355328∧Sl w p (n*k) (fun j=>.int .i64 (z j))
def Y0h (w:World) (v:Value) (c:Cfg):Prop:=
 ∃p cap,∃F:Nat→Value,v=.slice p c.nC cap∧c.nC≤cap∧(p=none↔c.cellsN=true)∧(p=none→c.nC=0∧cap=0)∧56*c.nC≤140737488355328∧Sl w p (c.nC*3) F∧
  ∀i,i<c.nC→SlZ w (F (i*3)) (c.codeN i) (c.nCode i) 4 (c.code i) 32∧SlZ w (F (i*3+1)) (c.imgN i) (c.nImg i) 1 (c.img i) 8∧F (i*3+2)=.int .i64 (c.lim i)
def Y0o (w:World) (v:Value) (c:Cfg):Prop:=
 ∃p cap,∃F:Nat→Value,v=.slice p c.nT cap∧c.nT≤cap∧(p=none↔c.tableN=true)∧(p=none→c.nT=0∧cap=0)∧24*c.nT≤140737488355328∧Sl w p c.nT F∧
  ∀i,i<c.nT→SlZ w (F i) (c.rowN i) (c.nRow i) 2 (c.row i) 16
structure CfgR (w:World) (v0 v1 v2 v3:Value) (c:Cfg):Prop where
 cells:Y0h w v0 c
 table:Y0o w v1 c
 chans:SlZ w v2 c.chN c.nCh 3 c.ch 24
 devs:SlZ w v3 c.dvN c.nD 1 c.dv 8
section
variable {w w':World}
theorem SlZ.keep {v:Value} {nl:Bool} {n k:Nat} {z:Nat→Int} {bn:Nat} (h:SlZ w v nl n k z bn) (hk:∀a v,w.cell? a=some v→w'.cell? a=some v):SlZ w' v nl n k z bn:=by
 obtain ⟨p,cap,h1,h2,h3,h4,h5,h6⟩:=h;exact ⟨p,cap,h1,h2,h3,h4,h5,h6.keep hk⟩
theorem Y0h.keep {v:Value} {c:Cfg} (h:Y0h w v c) (hk:∀a v,w.cell? a=some v→w'.cell? a=some v):Y0h w' v c:=by
 obtain ⟨p,cap,F,h1,h2,h3,h4,h5,h6,h7⟩:=h;exact ⟨p,cap,F,h1,h2,h3,h4,h5,h6.keep hk,fun i hi=>⟨(h7 i hi).1.keep hk,(h7 i hi).2.1.keep hk,(h7 i hi).2.2⟩⟩
theorem Y0o.keep {v:Value} {c:Cfg} (h:Y0o w v c) (hk:∀a v,w.cell? a=some v→w'.cell? a=some v):Y0o w' v c:=by
 obtain ⟨p,cap,F,h1,h2,h3,h4,h5,h6,h7⟩:=h;exact ⟨p,cap,F,h1,h2,h3,h4,h5,h6.keep hk,fun i hi=>(h7 i hi).keep hk⟩
theorem CfgR.keep {v0 v1 v2 v3:Value} {c:Cfg} (h:CfgR w v0 v1 v2 v3 c) (hk:∀a v,w.cell? a=some v→w'.cell? a=some v):CfgR w' v0 v1 v2 v3 c:=
 ⟨h.cells.keep hk,h.table.keep hk,h.chans.keep hk,h.devs.keep hk⟩
end
theorem CfgR.below {w w':World} {v0 v1 v2 v3:Value} {c:Cfg} (h:CfgR w v0 v1 v2 v3 c) (hb:Below w.heap.size w w'):CfgR w' v0 v1 v2 v3 c:=h.keep (Zc hb)
theorem Sl.at {w:World} {p:Option Addr} {m:Nat} {f:Nat→Value} (h:Sl w p m f) (hm:0<m):∃b off,p=some ⟨b,off,none⟩∧∀j,j<m→w.cell? ⟨b,off+j,none⟩=some (f j):=by
 rcases h with h0|h
 ·omega
 ·exact h
theorem Y4L (z:Nat→Int) (m:Nat) (h:∀i,i<m→1≤z (i*2+1)∧z (i*2+1)≤200):0≤sumTo z m∧sumTo z m≤200*m:=by
 induction m with
 |zero=>simp [sumTo]
 |succ m ih=>
  have h1:=ih (fun i hi=>h i (by omega));have h2:=h m (by omega);simp only [sumTo];omega
theorem Y27 (z:Nat→Int) (m:Nat) (h:∀i,i<m→1≤z (i*2+1)):(m:Int)≤sumTo z m∧∀i,i<m→z (i*2+1)≤sumTo z m:=by
 induction m with
 |zero=>simp [sumTo]
 |succ m ih=>
  have h1:=ih (fun i hi=>h i (by omega));have h2:=h m (by omega);simp only [sumTo];refine ⟨by omega,fun i hi=>?_⟩;rcases Nat.lt_or_ge i m with hl|hl
  ·have:=h1.2 i hl;omega
  ·have:i=m:=by omega
   subst this;omega
def Ans (P:Prop) (W:World→Prop) (e:Ending) (w':World):Prop:=∃b,e=.returned (.bool b)∧(b=true↔P)∧W w'
theorem Ans.no {P:Prop} {W:World→Prop} {w':World} (h:¬P) (hw:W w'):Ans P W (.returned (.bool false)) w':=⟨false,rfl,by simp [h],hw⟩
theorem Ans.yes {P:Prop} {W:World→Prop} {w':World} (h:P) (hw:W w'):Ans P W (.returned (.bool true)) w':=⟨true,rfl,by simp [h],hw⟩
theorem Ans.of {P:Prop} {W:World→Prop} {w':World} {b:Bool} (h:b=true↔P) (hw:W w'):Ans P W (.returned (.bool b)) w':=⟨b,rfl,h,hw⟩
def Chk (c:Cfg) (w:World) (e:Ending) (w':World):Prop:=∃x y:Int,e=.returned (.tuple #[.int .i64 x,.int .i64 y])∧Y8 c x y∧Below w.heap.size w w'
theorem Chk.mk {c:Cfg} {w w':World} {x y:Int} (h:Y8 c x y) (hb:Below w.heap.size w w'):Chk c w (.returned (.tuple #[.int .i64 x,.int .i64 y])) w':=⟨x,y,rfl,h,hb⟩
theorem box4 {w w':World} {v0 v1 v2 v3:Value} {t:Nat} (h:Below (w.heap.size+1) (w.alloc (.cells #[v0,v1,v2,v3] t)) w'):
  w'.cell? ⟨w.heap.size,0,none⟩=some v0∧w'.cell? ⟨w.heap.size,1,none⟩=some v1∧w'.cell? ⟨w.heap.size,2,none⟩=some v2∧w'.cell? ⟨w.heap.size,3,none⟩=some v3:=by
 have hc:∀j,w'.cell? ⟨w.heap.size,j,none⟩=(#[v0,v1,v2,v3]:Array Value)[j]?:=fun j=>by
  rw [h.cell (p:=⟨w.heap.size,j,none⟩) (by simp)];exact cell_of_row _ _ _ _ _ _ (heap_alloc_new w _)
 exact ⟨hc 0,hc 1,hc 2,hc 3⟩
theorem Yg {w w':World} {o:Obj} (h:Below (w.heap.size+1) (w.alloc o) w'):Below w.heap.size w w':=
 ((Below.refl w.heap.size w).alloc (Nat.le_refl _) o).trans (h.mono (by omega))
theorem Y0l {w wr w':World} {o:Obj} (h:Below (w.heap.size+1) (w.alloc o) wr) (k:Below wr.heap.size wr w'):Below (w.heap.size+1) (w.alloc o) w':=
 h.trans (k.mono (by have:=h.size;simpa using this))
theorem Ans.says {P:Program} {f:FuncId} {args:Array Value} {w:World} {Pr:Prop} {W:World→Prop} (h:Calls P f args w (Ans Pr W)) (hp:Pr):Calls P f args w (fun e w'=>e=.returned (.bool true)∧W w'):=
 h.mono fun e w' ⟨b,h1,h2,h3⟩=>by
  obtain rfl:b=true:=h2.2 hp;exact ⟨h1,h3⟩
theorem Ans.denies {P:Program} {f:FuncId} {args:Array Value} {w:World} {Pr:Prop} {W:World→Prop} (h:Calls P f args w (Ans Pr W)) (hp:¬Pr):Calls P f args w (fun e w'=>e=.returned (.bool false)∧W w'):=
 h.mono fun e w' ⟨b,h1,h2,h3⟩=>by
  obtain rfl:b=false:=by
   cases b
   ·rfl
   ·exact absurd (h2.1 rfl) hp
  exact ⟨h1,h3⟩
theorem Xh {w w':World} {o:Obj} (h:Below (w.alloc o).heap.size (w.alloc o) w'):Below w.heap.size w w':=
 ((Below.refl w.heap.size w).alloc (Nat.le_refl _) o).trans (h.mono (by simp))
theorem Zm {w w':World} {o o':Obj} (h:Below ((w.alloc o).alloc o').heap.size ((w.alloc o).alloc o') w'):Below w.heap.size w w':=Xh (Xh h)
theorem box3 {w w':World} {v0 v1 v2:Value} {t:Nat} (h:Below (w.heap.size+1) (w.alloc (.cells #[v0,v1,v2] t)) w'):
  w'.cell? ⟨w.heap.size,0,none⟩=some v0∧w'.cell? ⟨w.heap.size,1,none⟩=some v1∧w'.cell? ⟨w.heap.size,2,none⟩=some v2:=by
 have hc:∀j,w'.cell? ⟨w.heap.size,j,none⟩=(#[v0,v1,v2]:Array Value)[j]?:=fun j=>by
  rw [h.cell (p:=⟨w.heap.size,j,none⟩) (by simp)];exact cell_of_row _ _ _ _ _ _ (heap_alloc_new w _)
 exact ⟨hc 0,hc 1,hc 2⟩
structure Pl where
 nC:Nat→Nat
 code:Nat→Nat→Int
 lim:Nat→Int
 img:Nat→Int
 nW:Nat
 ways:Nat→Int
 nD:Nat
 devs:Nat→Int
def pk (c:Int) (n:Nat):Nat:=((if c<0 then -(c+1) else c) % (n:Int)).toNat
theorem Yc5 (c:Int) {n:Nat} (h:0<n):pk c n<n:=by
 unfold pk;have h1:=Int.emod_nonneg (if c<0 then -(c+1) else c) (show (n:Int)≠0 by omega);have h2:=Int.emod_lt_of_pos (if c<0 then -(c+1) else c) (show (0:Int)<n by omega);omega
def wayN (x j:Nat):Nat:=if j=0 then 1+x % 2 else if j=1 then x / 2 % 4 else (x / 2 % 4+1+x / 2 / 4) % 4
def plCh (P:Pl) (j:Nat):Int:=wayN (pk (P.ways (j / 3)) 24) (j % 3)
def plK (P:Pl):Nat:=min P.nW 8
def plDv (P:Pl) (j:Nat):Int:=pk (P.devs j) 4
def plD (P:Pl):Nat:=min P.nD 4
def YbO (k:Nat) (ch:Nat→Int) (n kind cell:Int) (e:Nat):Nat→Nat→Int
 |0,_=>-1
 |rem+1,i=>if ch ((pk n k+i) % k*3)=kind∧ch ((pk n k+i) % k*3+e)=cell then (((pk n k+i) % k:Nat):Int) else YbO k ch n kind cell e rem (i+1)
def devF (dv:Nat→Int) (cell:Int):Nat→Int
 |0=>-1
 |m+1=>if dv m=cell then (m:Int) else devF dv cell m
def insN (k:Nat) (ch:Nat→Int) (nd:Nat) (dv:Nat→Int) (cell words op:Nat) (n:Int):Int:=
 if op=8∨op=9 then (pk n words:Int) else if op=10 then YbO k ch n 1 cell 1 k 0 else if op=11 then YbO k ch n 2 cell 1 k 0 else if op=12∨op=16 then YbO k ch n 1 cell 2 k 0 else if op=13 then YbO k ch n 2 cell 2 k 0 else devF dv cell nd
def isKey (op:Nat):Prop:=op=8∨op=9∨op=10∨op=11∨op=12∨op=16∨op=13∨op=14
instance (op:Nat):Decidable (isKey op):=by unfold isKey;infer_instance
def insF (k:Nat) (ch:Nat→Int) (nd:Nat) (dv:Nat→Int) (cell words:Nat) (o r a n:Int) (j:Nat):Int:=
 if isKey (pk o 17)∧insN k ch nd dv cell words (pk o 17) n<0 then 0
 else if j=0 then (pk o 17:Int) else if j=1 then (pk r 4:Int) else if j=2 then (pk a 4:Int) else if isKey (pk o 17) then insN k ch nd dv cell words (pk o 17) n else n
def plN (P:Pl) (i:Nat):Nat:=min (P.nC i) 47
def YbV (k:Nat) (ch:Nat→Int) (nd:Nat) (dv:Nat→Int) (P:Pl) (i j:Nat):Int:=
 if j / 4<plN P i then insF k ch nd dv i (plN P i+1) (P.code i (j / 4*4)) (P.code i (j / 4*4+1)) (P.code i (j / 4*4+2)) (P.code i (j / 4*4+3)) (j % 4)
 else if j % 4=0 then 8 else 0
def tabN (i:Nat):Nat:=if i=1 then 3 else 4
def tabL (i:Nat):List Int:=if i=0 then [0,9,1,14,2,3,3,20] else if i=1 then [3,5,1,1,0,30] else [2,40,0,2,3,7,2,6]
def cfgP (P:Pl) (Q:Nat→Pl):Cfg where
 cellsN:=false
 nC:=4
 lim:=fun i=>(pk ((Q i).lim i) 6:Int)
 codeN:=fun _=>false
 nCode:=fun i=>plN (Q i) i+1
 code:=fun i=>YbV (plK P) (plCh P) (plD P) (plDv P) (Q i) i
 imgN:=fun _=>false
 nImg:=fun _=>2
 img:=fun i j=>if j=0 then (Q i).img i else 3
 tableN:=false
 nT:=3
 rowN:=fun _=>false
 nRow:=tabN
 row:=fun i j=>(tabL i).getD j 0
 chN:=decide (P.nW=0)
 nCh:=plK P
 ch:=plCh P
 dvN:=decide (P.nD=0)
 nD:=plD P
 dv:=plDv P
theorem Yg1 (x:Nat) (hx:x<24):(wayN x 0=1∨wayN x 0=2)∧wayN x 1<4∧wayN x 2<4∧wayN x 1≠wayN x 2:=by
 unfold wayN;simp only [if_true];refine ⟨by omega,by simp;omega,by simp;omega,by simp;omega⟩
theorem YdA (P:Pl) (Q:Nat→Pl) (i:Nat):ChOk (cfgP P Q) i:=by
 have h:=Yg1 (pk (P.ways i) 24) (Yc5 _ (by omega));have e0:(cfgP P Q).ch (i*3)=wayN (pk (P.ways i) 24) 0:=by show (wayN (pk (P.ways (i*3 / 3)) 24) (i*3 % 3):Int)=_;rw [show i*3 / 3=i by omega,show i*3 % 3=0 by omega]
 have e1:(cfgP P Q).ch (i*3+1)=wayN (pk (P.ways i) 24) 1:=by show (wayN (pk (P.ways ((i*3+1) / 3)) 24) ((i*3+1) % 3):Int)=_;rw [show (i*3+1) / 3=i by omega,show (i*3+1) % 3=1 by omega]
 have e2:(cfgP P Q).ch (i*3+2)=wayN (pk (P.ways i) 24) 2:=by show (wayN (pk (P.ways ((i*3+2) / 3)) 24) ((i*3+2) % 3):Int)=_;rw [show (i*3+2) / 3=i by omega,show (i*3+2) % 3=2 by omega]
 unfold ChOk;rw [e0,e1,e2];have hn:(cfgP P Q).nC=4:=rfl;rw [hn];generalize wayN (pk (P.ways i) 24) 0=a at *;generalize wayN (pk (P.ways i) 24) 1=b at *;generalize wayN (pk (P.ways i) 24) 2=d at *;refine ⟨?_,⟨by omega,by omega⟩,⟨by omega,by omega⟩,by omega⟩;rcases h.1 with h|h<;>omega
theorem Ydg {k:Nat} {ch:Nat→Int} {n kind cell:Int} {e:Nat} (hk:0<k):∀(rem i:Nat),0≤YbO k ch n kind cell e rem i→∃x:Nat,YbO k ch n kind cell e rem i=x∧x<k∧ch (x*3)=kind∧ch (x*3+e)=cell
 |0,_,h=>by simp [YbO] at h
 |rem+1,i,h=>by
  unfold YbO at h ⊢;split
  ·rename_i hc
   exact ⟨_,rfl,Nat.mod_lt _ hk,hc.1,hc.2⟩
  ·rename_i hc
   rw [if_neg hc] at h;exact Ydg hk rem (i+1) h
theorem Yde {dv:Nat→Int} {cell:Int}:∀m,0≤devF dv cell m→∃x:Nat,devF dv cell m=x∧x<m∧dv x=cell
 |0,h=>by simp [devF] at h
 |m+1,h=>by
  unfold devF at h ⊢;split
  ·rename_i hc
   exact ⟨m,rfl,by omega,hc⟩
  ·rename_i hc
   rw [if_neg hc] at h;obtain ⟨x,h1,h2,h3⟩:=Yde m h;exact ⟨x,h1,by omega,h3⟩
theorem Yh9 (P:Pl) (Q:Nat→Pl) (cell:Nat) (o r a n:Int) (words:Nat) (hw:0<words):Xe (cfgP P Q) cell words (insF (plK P) (plCh P) (plD P) (plDv P) cell words o r a n 0) (insF (plK P) (plCh P) (plD P) (plDv P) cell words o r a n 1) (insF (plK P) (plCh P) (plD P) (plDv P) cell words o r a n 2) (insF (plK P) (plCh P) (plD P) (plDv P) cell words o r a n 3):=by
 have ho:=Yc5 o (show 0<17 by omega);have hr:=Yc5 r (show 0<4 by omega);have ha:=Yc5 a (show 0<4 by omega);have hpw:=Yc5 n hw;unfold insF;by_cases hz:isKey (pk o 17)∧insN (plK P) (plCh P) (plD P) (plDv P) cell words (pk o 17) n<0
 ·simp only [if_pos hz];unfold Xe;simp
 ·simp only [if_neg hz,if_true];have e1:¬(1=0):=by omega
  have e2:¬(2=0)∧¬(2=1):=by omega
  have e3:¬(3=0)∧¬(3=1)∧¬(3=2):=by omega
  simp only [if_neg e1,if_neg e2.1,if_neg e2.2,if_neg e3.1,if_neg e3.2.1,if_neg e3.2.2];generalize hop:pk o 17=op at *;clear hop;have fits:∀(kind:Int) (e:Nat),0≤YbO (plK P) (plCh P) n kind cell e (plK P) 0→YA (cfgP P Q) cell (YbO (plK P) (plCh P) n kind cell e (plK P) 0) kind e:=fun kind e h=>by
   by_cases hk:0<plK P
   ·obtain ⟨x,h1,h2,h3,h4⟩:=Ydg hk _ _ h;rw [h1];exact ⟨by omega,by show (x:Int)<(plK P:Int);omega,by show plCh P ((x:Int).toNat*3)=kind;simpa using h3,by show plCh P ((x:Int).toNat*3+e)=cell;simpa using h4⟩
   ·have h0:plK P=0:=by omega
    rw [h0] at h;simp [YbO] at h
  have pos:isKey op→0≤insN (plK P) (plCh P) (plD P) (plDv P) cell words op n:=fun hk=>by
   rcases Int.lt_or_le (insN (plK P) (plCh P) (plD P) (plDv P) cell words op n) 0 with h|h
   ·exact absurd ⟨hk,h⟩ hz
   ·exact h
  refine ⟨⟨by omega,by omega⟩,⟨by omega,by omega⟩,⟨by omega,by omega⟩,fun h=>?_,fun h=>?_,fun h=>?_,fun h=>?_,fun h=>?_,fun h=>?_⟩
  ·have hk:op=8∨op=9:=by omega
   have hK:isKey op:=by unfold isKey;omega
   rw [if_pos hK];unfold insN;rw [if_pos hk];exact ⟨by omega,by omega⟩
  ·obtain rfl:op=10:=by omega
   have hp:=pos (by unfold isKey;omega);rw [if_pos (show isKey 10 by decide)];exact fits 1 1 hp
  ·obtain rfl:op=11:=by omega
   have hp:=pos (by unfold isKey;omega);rw [if_pos (show isKey 11 by decide)];exact fits 2 1 hp
  ·have:op=12∨op=16:=by omega
   rcases this with rfl|rfl
   ·have hp:=pos (by unfold isKey;omega);rw [if_pos (show isKey 12 by decide)];exact fits 1 2 hp
   ·have hp:=pos (by unfold isKey;omega);rw [if_pos (show isKey 16 by decide)];exact fits 1 2 hp
  ·obtain rfl:op=13:=by omega
   have hp:=pos (by unfold isKey;omega);rw [if_pos (show isKey 13 by decide)];exact fits 2 2 hp
  ·obtain rfl:op=14:=by omega
   have hp:0≤devF (plDv P) cell (plD P):=pos (by unfold isKey;omega);rw [if_pos (show isKey 14 by decide)];obtain ⟨x,h1,h2,h3⟩:=Yde _ hp;show 0≤devF (plDv P) cell (plD P)∧devF (plDv P) cell (plD P)<(plD P:Int)∧plDv P (devF (plDv P) cell (plD P)).toNat=cell;rw [h1];exact ⟨by omega,by omega,by simpa using h3⟩
theorem YcJ (P:Pl) (Q:Nat→Pl):Y8 (cfgP P Q) 0 0:=by
 have h1:NCok (cfgP P Q):=⟨by show 1≤4;omega,by show 4≤6;omega⟩;have h2:NTok (cfgP P Q):=⟨by show 1≤3;omega,by show 3≤8;omega⟩;have h3:Yb (YU (cfgP P Q)) (cfgP P Q).nT:=fun i hi=>by
  have hi:i<3:=hi;show Zt 4 (tabN i) (fun j=>(tabL i).getD j 0);have:i=0∨i=1∨i=2:=by omega
  rcases this with rfl|rfl|rfl
  ·refine ⟨by decide,fun j hj=>?_,by decide⟩;have hj:j<4:=hj;have:j=0∨j=1∨j=2∨j=3:=by omega
   rcases this with rfl|rfl|rfl|rfl<;>exact ⟨by decide,by decide,by decide⟩
  ·refine ⟨by decide,fun j hj=>?_,by decide⟩;have hj:j<3:=hj;have:j=0∨j=1∨j=2:=by omega
   rcases this with rfl|rfl|rfl<;>exact ⟨by decide,by decide,by decide⟩
  ·refine ⟨by decide,fun j hj=>?_,by decide⟩;have hj:j<4:=hj;have:j=0∨j=1∨j=2∨j=3:=by omega
   rcases this with rfl|rfl|rfl|rfl<;>exact ⟨by decide,by decide,by decide⟩
 have h4:(cfgP P Q).nCh≤8:=by show min P.nW 8≤8;omega
 have h5:Yb (ChOk (cfgP P Q)) (cfgP P Q).nCh:=fun i _=>YdA P Q i;have h6:(cfgP P Q).nD≤4:=by show min P.nD 4≤4;omega
 have h7:Yb (DvOk (cfgP P Q)) (cfgP P Q).nD:=fun i _=>by
  have:=Yc5 (P.devs i) (show 0<4 by omega);exact ⟨by show (0:Int)≤(pk (P.devs i) 4:Int);omega,by show (pk (P.devs i) 4:Int)<(4:Nat);omega⟩
 have h8:Yb (X3 (cfgP P Q)) (cfgP P Q).nC:=fun i hi=>by
  have hl:=Yc5 ((Q i).lim i) (show 0<6 by omega);have hn:plN (Q i) i≤47:=by unfold plN;omega
  refine ⟨⟨by show (0:Int)≤(pk _ 6:Int);omega,by show (pk _ 6:Int)≤5;omega⟩,by show 2≤16;omega,⟨by show 1≤plN (Q i) i+1;omega,by show plN (Q i) i+1≤48;omega⟩,fun k hk=>?_⟩;have hk:k<plN (Q i) i+1:=hk;have ec:∀j,(cfgP P Q).code i j=YbV (plK P) (plCh P) (plD P) (plDv P) (Q i) i j:=fun _=>rfl;unfold XO;rw [ec,ec,ec,ec];unfold YbV;rw [show k*4 / 4=k by omega,show (k*4+1) / 4=k by omega,show (k*4+2) / 4=k by omega,show (k*4+3) / 4=k by omega,show k*4 % 4=0 by omega,show (k*4+1) % 4=1 by omega,show (k*4+2) % 4=2 by omega,show (k*4+3) % 4=3 by omega];by_cases hlt:k<plN (Q i) i
  ·simp only [if_pos hlt];exact Yh9 P Q i _ _ _ _ (plN (Q i) i+1) (by omega)
  ·simp only [if_neg hlt,if_true];unfold Xe;simp;show 0<plN (Q i) i+1;omega
 unfold Y8;exact .inr (.inr (.inr (.inr (.inr (.inr (.inr (.inr ⟨h1,h2,h3,h4,h5,h6,h7,h8,rfl,rfl⟩)))))))
theorem Y1R:(Tryz.prog.info? 97).map (fun i=>(i.zero,i.size,i.bytes))=some (some (.agg #[.int .i64 0,.int .i64 0,.int .i64 0,.int .i64 0]),4,32):=by kernel_rfl
theorem ZX:(Tryz.prog.info? 2).map (fun i=>(i.zero,i.size,i.bytes))=some (some (.int .i64 0),1,8):=by kernel_rfl
theorem Y1U:(Tryz.prog.info? 102).map (fun i=>(i.zero,i.size,i.bytes))=some (some (.agg #[.int .i64 0,.int .i64 0]),2,16):=by kernel_rfl
theorem CfgR.parts {w:World} {v0 v1 v2 v3:Value} {c:Cfg} (h:CfgR w v0 v1 v2 v3 c):
  ∃p0 cap0 F0 p1 cap1 F1 p2 cap2 p3 cap3,v0=.slice p0 c.nC cap0∧v1=.slice p1 c.nT cap1∧v2=.slice p2 c.nCh cap2∧v3=.slice p3 c.nD cap3∧
   Sl w p0 (c.nC*3) F0∧(∀i,i<c.nC→SlZ w (F0 (i*3)) (c.codeN i) (c.nCode i) 4 (c.code i) 32∧SlZ w (F0 (i*3+1)) (c.imgN i) (c.nImg i) 1 (c.img i) 8∧F0 (i*3+2)=.int .i64 (c.lim i))∧
   Sl w p1 c.nT F1∧(∀i,i<c.nT→SlZ w (F1 i) (c.rowN i) (c.nRow i) 2 (c.row i) 16)∧
   Sl w p2 (c.nCh*3) (fun j=>.int .i64 (c.ch j))∧Sl w p3 c.nD (fun j=>.int .i64 (c.dv j))∧
   c.nC≤8796093022208∧c.nT≤8796093022208∧24*c.nCh≤140737488355328∧8*c.nD≤140737488355328:=by
 obtain ⟨⟨p0,cap0,F0,rfl,_,_,_,b0,s0,k0⟩,⟨p1,cap1,F1,rfl,_,_,_,b1,s1,k1⟩,⟨p2,cap2,rfl,_,_,_,b2,s2⟩,⟨p3,cap3,rfl,_,_,_,b3,s3⟩⟩:=h;exact ⟨p0,cap0,F0,p1,cap1,F1,p2,cap2,p3,cap3,rfl,rfl,rfl,rfl,s0,k0,s1,k1,s2,by simpa using s3,by omega,by omega,b2,b3⟩
end Go.Proofs.YtdoghgnifkgfdaaGreat
