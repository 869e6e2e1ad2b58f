import Derived.WalkKit
import Derived.WalkSpells
import Derived.WalkLawsBesides
import Derived.Deep.AppendLies
import Derived.Laws.CopyOwn
import Derived.Test.YtdoghgnifkgfdaaProg
import Derived.BigQuiet
import Derived.Deep.QuietTactic
import Derived.WalkSmall
set_option maxRecDepth 100000
set_option maxHeartbeats 16000000
namespace Go.Proofs.Ytdoghgnifkgfdaa
open Go.RowKit
def RowF (w:World) (g m t:Nat) (f:Nat→Value):Prop:=
 ∃cs:Array Value,w.heap[g]?=some (.cells cs t (0,0))∧cs.size=m∧∀j,j<m→cs[j]?=some (f j)
def Sl (w:World) (p:Option Addr) (m:Nat) (f:Nat→Value):Prop:=
 m=0∨∃b off,p=some ⟨b,off,none⟩∧∀j,j<m→w.cell? ⟨b,off+j,none⟩=some (f j)
section
variable {w w':World} {g m t:Nat} {f f':Nat→Value}
theorem RowF.cell (h:RowF w g m t f) {j:Nat} (hj:j<m):w.cell? ⟨g,j,none⟩=some (f j):=by
 obtain ⟨cs,h1,_,h3⟩:=h;rw [cell_of_row w g j cs t (0,0) h1];exact h3 j hj
theorem RowF.frozen (h:RowF w g m t f) (j:Nat):w.frozen? ⟨g,j,none⟩=false:=by
 obtain ⟨cs,h1,_⟩:=h;exact frozen_of_row w g j cs t h1
theorem RowF.lt (h:RowF w g m t f):g<w.heap.size:=by
 obtain ⟨cs,h1,_⟩:=h;exact (Array.getElem?_eq_some_iff.1 h1).1
theorem RowF.congr (h:RowF w g m t f) (hf:∀j,j<m→f j=f' j):RowF w g m t f':=by
 obtain ⟨cs,h1,h2,h3⟩:=h;exact ⟨cs,h1,h2,fun j hj=>by rw [h3 j hj,hf j hj]⟩
theorem RowF.of_heap (h:RowF w g m t f) (e:w'.heap[g]?=w.heap[g]?):RowF w' g m t f:=by
 obtain ⟨cs,h1,h2,h3⟩:=h;exact ⟨cs,by rw [e];exact h1,h2,h3⟩
theorem RowF.set (h:RowF w g m t f) (j:Nat) (v:Value):RowF (w.setCell ⟨g,j,none⟩ v) g m t (fun i=>if i=j then v else f i):=by
 obtain ⟨cs,h1,h2,h3⟩:=h;refine ⟨cs.setIfInBounds j v,heap_setCell_same w g j cs t v h1,by simp [h2],fun i hi=>?_⟩;rw [Array.getElem?_setIfInBounds];by_cases e:j=i
 ·subst e;simp [h2,hi]
 ·have e':¬i=j:=fun x=>e x.symm;simp [e,e',h3 i hi]
theorem RowF.other (h:RowF w g m t f) (a:Addr) (v:Value) (ha:a.block≠g):RowF (w.setCell a v) g m t f:=
 h.of_heap (heap_setCell_other w a g v (fun e=>ha e.symm))
theorem RowF.alloc (h:RowF w g m t f) (o:Obj):RowF (w.alloc o) g m t f:=h.of_heap (heap_alloc_old w o h.lt)
theorem RowF.new (w:World) (cs:Array Value) (t:Nat) (f:Nat→Value) (hf:∀j,j<cs.size→cs[j]?=some (f j)):RowF (w.alloc (.cells cs t)) w.heap.size cs.size t f:=
 ⟨cs,heap_alloc_new w _,rfl,hf⟩
theorem RowF.below {B:Nat} (h:RowF w g m t f) (hb:Below B w w') (hg:g<B):RowF w' g m t f:=h.of_heap (hb.block g hg)
end
theorem Sl.keep {w w':World} {p:Option Addr} {m:Nat} {f:Nat→Value} (h:Sl w p m f) (hk:∀a v,w.cell? a=some v→w'.cell? a=some v):Sl w' p m f:=by
 rcases h with h|⟨b,off,hp,hc⟩
 ·exact .inl h
 ·exact .inr ⟨b,off,hp,fun j hj=>hk _ _ (hc j hj)⟩
theorem below_keep {w w':World} (h:Below w.heap.size w w'):∀a v,w.cell? a=some v→w'.cell? a=some v:=by
 intro a v ha;rw [h.cell (block_lt_of_cell ha)];exact ha
theorem Sl.below {w w':World} {p:Option Addr} {m:Nat} {f:Nat→Value} (h:Sl w p m f) (hb:Below w.heap.size w w'):Sl w' p m f:=h.keep (below_keep hb)
theorem Sl.congr {w:World} {p:Option Addr} {m:Nat} {f f':Nat→Value} (h:Sl w p m f) (hf:∀j,j<m→f j=f' j):Sl w p m f':=by
 rcases h with h|⟨b,off,hp,hc⟩
 ·exact .inl h
 ·exact .inr ⟨b,off,hp,fun j hj=>by rw [hc j hj,hf j hj]⟩
theorem size_setCell (w:World) (a:Addr) (v:Value):(w.setCell a v).heap.size=w.heap.size:=by simp [World.setCell]
theorem info_codes:(Try.prog.info? 73).map (fun i=>(i.zero,i.size,i.bytes))=some (some (.agg #[.int .i64 0,.int .i64 0,.int .i64 0,.int .i64 0]),4,32):=by kernel_rfl
theorem info_numbers:(Try.prog.info? 2).map (fun i=>(i.zero,i.size,i.bytes))=some (some (.int .i64 0),1,8):=by kernel_rfl
theorem info_windows:(Try.prog.info? 65).map (fun i=>(i.zero,i.size,i.bytes))=some (some (.agg #[.int .i64 0,.int .i64 0]),2,16):=by kernel_rfl
structure Cfg where
 cellsN:Bool
 nC:Nat
 lim:Nat→Int
 codeN:Nat→Bool
 nCode:Nat→Nat
 code:Nat→Nat→Int
 imgN:Nat→Bool
 nImg:Nat→Nat
 img:Nat→Nat→Int
 tableN:Bool
 nT:Nat
 rowN:Nat→Bool
 nRow:Nat→Nat
 row:Nat→Nat→Int
 chN:Bool
 nCh:Nat
 ch:Nat→Int
 dvN:Bool
 nD:Nat
 dv:Nat→Int
def sumTo (z:Nat→Int):Nat→Int
 |0=>0
 |m+1=>sumTo z m+z (m*2+1)
def WinOk (n:Nat) (z:Nat→Int) (i:Nat):Prop:=0≤z (i*2)∧z (i*2)<n∧1≤z (i*2+1)
def RowOk (n m:Nat) (z:Nat→Int):Prop:=m≤6∧(∀i,i<m→WinOk n z i)∧sumTo z m≤200
def ChOk (c:Cfg) (i:Nat):Prop:=
 (c.ch (i*3)=1∨c.ch (i*3)=2)∧(0≤c.ch (i*3+1)∧c.ch (i*3+1)<c.nC)∧(0≤c.ch (i*3+2)∧c.ch (i*3+2)<c.nC)∧c.ch (i*3+1)≠c.ch (i*3+2)
def DvOk (c:Cfg) (i:Nat):Prop:=0≤c.dv i∧c.dv i<c.nC
def UseOk (c:Cfg) (cell:Int) (n kind:Int) (ende:Nat):Prop:=
 0≤n∧n<c.nCh∧c.ch (n.toNat*3)=kind∧c.ch (n.toNat*3+ende)=cell
def InsOk (c:Cfg) (cell nCode:Nat) (op r a n:Int):Prop:=
 (0≤op∧op≤16)∧(0≤r∧r<4)∧(0≤a∧a<4)∧
 ((op=8∨op=9)→0≤n∧n<nCode)∧
 (op=10→UseOk c cell n 1 1)∧(op=11→UseOk c cell n 2 1)∧((op=12∨op=16)→UseOk c cell n 1 2)∧(op=13→UseOk c cell n 2 2)∧
 (op=14→0≤n∧n<c.nD∧c.dv n.toNat=cell)
def InsAt (c:Cfg) (i k:Nat):Prop:=InsOk c i (c.nCode i) (c.code i (k*4)) (c.code i (k*4+1)) (c.code i (k*4+2)) (c.code i (k*4+3))
def CellOk (c:Cfg) (i:Nat):Prop:=
 (0≤c.lim i∧c.lim i≤5)∧c.nImg i≤16∧(1≤c.nCode i∧c.nCode i≤48)∧∀k,k<c.nCode i→InsAt c i k
def Bad1 (P:Nat→Prop) (n i:Nat):Prop:=i<n∧¬P i∧∀j,j<i→P j
def AllOk (P:Nat→Prop) (n:Nat):Prop:=∀j,j<n→P j
def RowAt (c:Cfg) (i:Nat):Prop:=RowOk c.nC (c.nRow i) (c.row i)
def NCok (c:Cfg):Prop:=1≤c.nC∧c.nC≤6
def NTok (c:Cfg):Prop:=1≤c.nT∧c.nT≤8
def CheckIs (c:Cfg) (e at':Int):Prop:=
 (¬NCok c∧e=1∧at'=0)∨
 (NCok c∧¬NTok c∧e=2∧at'=0)∨
 (NCok c∧NTok c∧∃i:Nat,Bad1 (RowAt c) c.nT i∧e=2∧at'=i)∨
 (NCok c∧NTok c∧AllOk (RowAt c) c.nT∧¬c.nCh≤8∧e=3∧at'=0)∨
 (NCok c∧NTok c∧AllOk (RowAt c) c.nT∧c.nCh≤8∧∃i:Nat,Bad1 (ChOk c) c.nCh i∧e=3∧at'=i)∨
 (NCok c∧NTok c∧AllOk (RowAt c) c.nT∧c.nCh≤8∧AllOk (ChOk c) c.nCh∧¬c.nD≤4∧e=4∧at'=0)∨
 (NCok c∧NTok c∧AllOk (RowAt c) c.nT∧c.nCh≤8∧AllOk (ChOk c) c.nCh∧c.nD≤4∧∃i:Nat,Bad1 (DvOk c) c.nD i∧e=4∧at'=i)∨
 (NCok c∧NTok c∧AllOk (RowAt c) c.nT∧c.nCh≤8∧AllOk (ChOk c) c.nCh∧c.nD≤4∧AllOk (DvOk c) c.nD∧∃i:Nat,Bad1 (CellOk c) c.nC i∧e=5∧at'=i)∨
 (NCok c∧NTok c∧AllOk (RowAt c) c.nT∧c.nCh≤8∧AllOk (ChOk c) c.nCh∧c.nD≤4∧AllOk (DvOk c) c.nD∧AllOk (CellOk c) c.nC∧e=0∧at'=0)
theorem Bad1.uniq {P:Nat→Prop} {n i j:Nat} (h:Bad1 P n i) (k:Bad1 P n j):i=j:=by
 rcases Nat.lt_trichotomy i j with hl|he|hl
 ·exact absurd (k.2.2 i hl) h.2.1
 ·exact he
 ·exact absurd (h.2.2 j hl) k.2.1
theorem Bad1.not_all {P:Nat→Prop} {n i:Nat} (h:Bad1 P n i) (k:AllOk P n):False:=h.2.1 (k i h.1)
theorem CheckIs.uniq {c:Cfg} {e a e' a':Int} (h:CheckIs c e a) (k:CheckIs c e' a'):e=e'∧a=a':=by
 unfold CheckIs at h k;rcases h with h|h|h|h|h|h|h|h|h<;>rcases k with k|k|k|k|k|k|k|k|k
 all_goals first
  |exact absurd k.1 h.1
  |exact absurd h.1 k.1
  |exact absurd k.2.1 h.2.1
  |exact absurd h.2.1 k.2.1
  |exact ⟨h.2.1.trans k.2.1.symm,h.2.2.trans k.2.2.symm⟩
  |exact ⟨h.2.2.1.trans k.2.2.1.symm,h.2.2.2.trans k.2.2.2.symm⟩
  |(obtain ⟨_,_,i,h1,h2,h3⟩:=h;obtain ⟨_,_,j,k1,k2,k3⟩:=k;have:=h1.uniq k1;subst this;exact ⟨h2.trans k2.symm,h3.trans k3.symm⟩)
  |(obtain ⟨_,_,i,h1,h2,h3⟩:=h;exact absurd k.2.2.1 (fun x=>h1.not_all x))
  |(obtain ⟨_,_,i,h1,h2,h3⟩:=k;exact absurd h.2.2.1 (fun x=>h1.not_all x))
  |exact absurd k.2.2.2.1 h.2.2.2.1
  |exact absurd h.2.2.2.1 k.2.2.2.1
  |exact ⟨h.2.2.2.2.1.trans k.2.2.2.2.1.symm,h.2.2.2.2.2.trans k.2.2.2.2.2.symm⟩
  |(obtain ⟨_,_,_,_,i,h1,h2,h3⟩:=h;obtain ⟨_,_,_,_,j,k1,k2,k3⟩:=k;have:=h1.uniq k1;subst this;exact ⟨h2.trans k2.symm,h3.trans k3.symm⟩)
  |(obtain ⟨_,_,_,_,i,h1,h2,h3⟩:=h;exact absurd k.2.2.2.2.1 (fun x=>h1.not_all x))
  |(obtain ⟨_,_,_,_,i,h1,h2,h3⟩:=k;exact absurd h.2.2.2.2.1 (fun x=>h1.not_all x))
  |exact absurd k.2.2.2.2.2.1 h.2.2.2.2.2.1
  |exact absurd h.2.2.2.2.2.1 k.2.2.2.2.2.1
  |exact ⟨h.2.2.2.2.2.2.1.trans k.2.2.2.2.2.2.1.symm,h.2.2.2.2.2.2.2.trans k.2.2.2.2.2.2.2.symm⟩
  |(obtain ⟨_,_,_,_,_,_,i,h1,h2,h3⟩:=h;obtain ⟨_,_,_,_,_,_,j,k1,k2,k3⟩:=k;have:=h1.uniq k1;subst this;exact ⟨h2.trans k2.symm,h3.trans k3.symm⟩)
  |(obtain ⟨_,_,_,_,_,_,i,h1,h2,h3⟩:=h;exact absurd k.2.2.2.2.2.2.1 (fun x=>h1.not_all x))
  |(obtain ⟨_,_,_,_,_,_,i,h1,h2,h3⟩:=k;exact absurd h.2.2.2.2.2.2.1 (fun x=>h1.not_all x))
  |(obtain ⟨_,_,_,_,_,_,_,i,h1,h2,h3⟩:=h;obtain ⟨_,_,_,_,_,_,_,j,k1,k2,k3⟩:=k;have:=h1.uniq k1;subst this;exact ⟨h2.trans k2.symm,h3.trans k3.symm⟩)
  |(obtain ⟨_,_,_,_,_,_,_,i,h1,h2,h3⟩:=h;exact absurd k.2.2.2.2.2.2.2.1 (fun x=>h1.not_all x))
  |(obtain ⟨_,_,_,_,_,_,_,i,h1,h2,h3⟩:=k;exact absurd h.2.2.2.2.2.2.2.1 (fun x=>h1.not_all x))
  |exact ⟨h.2.2.2.2.2.2.2.2.1.trans k.2.2.2.2.2.2.2.2.1.symm,h.2.2.2.2.2.2.2.2.2.trans k.2.2.2.2.2.2.2.2.2.symm⟩
section
variable {c:Cfg} {i:Nat}
theorem CheckIs.c1 (h:¬NCok c):CheckIs c 1 0:=.inl ⟨h,rfl,rfl⟩
theorem CheckIs.c2 (a1:NCok c) (h:¬NTok c):CheckIs c 2 0:=.inr (.inl ⟨a1,h,rfl,rfl⟩)
theorem CheckIs.c3 (a1:NCok c) (a2:NTok c) (h:Bad1 (RowAt c) c.nT i):CheckIs c 2 i:=.inr (.inr (.inl ⟨a1,a2,i,h,rfl,rfl⟩))
theorem CheckIs.c4 (a1:NCok c) (a2:NTok c) (a3:AllOk (RowAt c) c.nT) (h:¬c.nCh≤8):CheckIs c 3 0:=.inr (.inr (.inr (.inl ⟨a1,a2,a3,h,rfl,rfl⟩)))
theorem CheckIs.c5 (a1:NCok c) (a2:NTok c) (a3:AllOk (RowAt c) c.nT) (a4:c.nCh≤8) (h:Bad1 (ChOk c) c.nCh i):CheckIs c 3 i:=.inr (.inr (.inr (.inr (.inl ⟨a1,a2,a3,a4,i,h,rfl,rfl⟩))))
theorem CheckIs.c6 (a1:NCok c) (a2:NTok c) (a3:AllOk (RowAt c) c.nT) (a4:c.nCh≤8) (a5:AllOk (ChOk c) c.nCh) (h:¬c.nD≤4):CheckIs c 4 0:=.inr (.inr (.inr (.inr (.inr (.inl ⟨a1,a2,a3,a4,a5,h,rfl,rfl⟩)))))
theorem CheckIs.c7 (a1:NCok c) (a2:NTok c) (a3:AllOk (RowAt c) c.nT) (a4:c.nCh≤8) (a5:AllOk (ChOk c) c.nCh) (a6:c.nD≤4) (h:Bad1 (DvOk c) c.nD i):CheckIs c 4 i:=.inr (.inr (.inr (.inr (.inr (.inr (.inl ⟨a1,a2,a3,a4,a5,a6,i,h,rfl,rfl⟩))))))
theorem CheckIs.c8 (a1:NCok c) (a2:NTok c) (a3:AllOk (RowAt c) c.nT) (a4:c.nCh≤8) (a5:AllOk (ChOk c) c.nCh) (a6:c.nD≤4) (a7:AllOk (DvOk c) c.nD) (h:Bad1 (CellOk c) c.nC i):CheckIs c 5 i:=.inr (.inr (.inr (.inr (.inr (.inr (.inr (.inl ⟨a1,a2,a3,a4,a5,a6,a7,i,h,rfl,rfl⟩)))))))
theorem CheckIs.c9 (a1:NCok c) (a2:NTok c) (a3:AllOk (RowAt c) c.nT) (a4:c.nCh≤8) (a5:AllOk (ChOk c) c.nCh) (a6:c.nD≤4) (a7:AllOk (DvOk c) c.nD) (h:AllOk (CellOk c) c.nC):CheckIs c 0 0:=.inr (.inr (.inr (.inr (.inr (.inr (.inr (.inr ⟨a1,a2,a3,a4,a5,a6,a7,h,rfl,rfl⟩)))))))
end
theorem AllOk.step {P:Nat→Prop} {k:Nat} (h:AllOk P k) (hk:P k):AllOk P (k+1):=by
 intro j hj;rcases Nat.lt_or_ge j k with hl|hl
 ·exact h j hl
 ·obtain rfl:j=k:=by omega
  exact hk
theorem AllOk.zero (P:Nat→Prop):AllOk P 0:=fun _ h=>absurd h (by omega)
def SlZ (w:World) (v:Value) (nl:Bool) (n k:Nat) (z:Nat→Int) (bn:Nat):Prop:=
 ∃p cap,v=.slice p n cap∧n≤cap∧(p=none↔nl=true)∧(p=none→n=0∧cap=0)∧bn*n≤140737488355328∧Sl w p (n*k) (fun j=>.int .i64 (z j))
def CellsR (w:World) (v:Value) (c:Cfg):Prop:=
 ∃p cap,∃F:Nat→Value,v=.slice p c.nC cap∧c.nC≤cap∧(p=none↔c.cellsN=true)∧(p=none→c.nC=0∧cap=0)∧56*c.nC≤140737488355328∧Sl w p (c.nC*3) F∧
  ∀i,i<c.nC→SlZ w (F (i*3)) (c.codeN i) (c.nCode i) 4 (c.code i) 32∧SlZ w (F (i*3+1)) (c.imgN i) (c.nImg i) 1 (c.img i) 8∧F (i*3+2)=.int .i64 (c.lim i)
def TableR (w:World) (v:Value) (c:Cfg):Prop:=
 ∃p cap,∃F:Nat→Value,v=.slice p c.nT cap∧c.nT≤cap∧(p=none↔c.tableN=true)∧(p=none→c.nT=0∧cap=0)∧24*c.nT≤140737488355328∧Sl w p c.nT F∧
  ∀i,i<c.nT→SlZ w (F i) (c.rowN i) (c.nRow i) 2 (c.row i) 16
structure CfgR (w:World) (v0 v1 v2 v3:Value) (c:Cfg):Prop where
 cells:CellsR w v0 c
 table:TableR w v1 c
 chans:SlZ w v2 c.chN c.nCh 3 c.ch 24
 devs:SlZ w v3 c.dvN c.nD 1 c.dv 8
section
variable {w w':World}
theorem SlZ.keep {v:Value} {nl:Bool} {n k:Nat} {z:Nat→Int} {bn:Nat} (h:SlZ w v nl n k z bn) (hk:∀a v,w.cell? a=some v→w'.cell? a=some v):SlZ w' v nl n k z bn:=by
 obtain ⟨p,cap,h1,h2,h3,h4,h5,h6⟩:=h;exact ⟨p,cap,h1,h2,h3,h4,h5,h6.keep hk⟩
theorem CellsR.keep {v:Value} {c:Cfg} (h:CellsR w v c) (hk:∀a v,w.cell? a=some v→w'.cell? a=some v):CellsR w' v c:=by
 obtain ⟨p,cap,F,h1,h2,h3,h4,h5,h6,h7⟩:=h;exact ⟨p,cap,F,h1,h2,h3,h4,h5,h6.keep hk,fun i hi=>⟨(h7 i hi).1.keep hk,(h7 i hi).2.1.keep hk,(h7 i hi).2.2⟩⟩
theorem TableR.keep {v:Value} {c:Cfg} (h:TableR w v c) (hk:∀a v,w.cell? a=some v→w'.cell? a=some v):TableR w' v c:=by
 obtain ⟨p,cap,F,h1,h2,h3,h4,h5,h6,h7⟩:=h;exact ⟨p,cap,F,h1,h2,h3,h4,h5,h6.keep hk,fun i hi=>(h7 i hi).keep hk⟩
theorem CfgR.keep {v0 v1 v2 v3:Value} {c:Cfg} (h:CfgR w v0 v1 v2 v3 c) (hk:∀a v,w.cell? a=some v→w'.cell? a=some v):CfgR w' v0 v1 v2 v3 c:=
 ⟨h.cells.keep hk,h.table.keep hk,h.chans.keep hk,h.devs.keep hk⟩
end
theorem CfgR.below {w w':World} {v0 v1 v2 v3:Value} {c:Cfg} (h:CfgR w v0 v1 v2 v3 c) (hb:Below w.heap.size w w'):CfgR w' v0 v1 v2 v3 c:=h.keep (below_keep hb)
theorem Sl.at {w:World} {p:Option Addr} {m:Nat} {f:Nat→Value} (h:Sl w p m f) (hm:0<m):∃b off,p=some ⟨b,off,none⟩∧∀j,j<m→w.cell? ⟨b,off+j,none⟩=some (f j):=by
 rcases h with h0|h
 ·omega
 ·exact h
theorem sumTo_bound (z:Nat→Int) (m:Nat) (h:∀i,i<m→1≤z (i*2+1)∧z (i*2+1)≤200):0≤sumTo z m∧sumTo z m≤200*m:=by
 induction m with
 |zero=>simp [sumTo]
 |succ m ih=>
  have h1:=ih (fun i hi=>h i (by omega));have h2:=h m (by omega);simp only [sumTo];omega
theorem sumTo_ge (z:Nat→Int) (m:Nat) (h:∀i,i<m→1≤z (i*2+1)):(m:Int)≤sumTo z m∧∀i,i<m→z (i*2+1)≤sumTo z m:=by
 induction m with
 |zero=>simp [sumTo]
 |succ m ih=>
  have h1:=ih (fun i hi=>h i (by omega));have h2:=h m (by omega);simp only [sumTo];refine ⟨by omega,fun i hi=>?_⟩;rcases Nat.lt_or_ge i m with hl|hl
  ·have:=h1.2 i hl;omega
  ·have:i=m:=by omega
   subst this;omega
def Ans (P:Prop) (W:World→Prop) (e:Ending) (w':World):Prop:=∃b,e=.returned (.bool b)∧(b=true↔P)∧W w'
theorem Ans.no {P:Prop} {W:World→Prop} {w':World} (h:¬P) (hw:W w'):Ans P W (.returned (.bool false)) w':=⟨false,rfl,by simp [h],hw⟩
theorem Ans.yes {P:Prop} {W:World→Prop} {w':World} (h:P) (hw:W w'):Ans P W (.returned (.bool true)) w':=⟨true,rfl,by simp [h],hw⟩
theorem Ans.of {P:Prop} {W:World→Prop} {w':World} {b:Bool} (h:b=true↔P) (hw:W w'):Ans P W (.returned (.bool b)) w':=⟨b,rfl,h,hw⟩
def Chk (c:Cfg) (w:World) (e:Ending) (w':World):Prop:=∃x y:Int,e=.returned (.tuple #[.int .i64 x,.int .i64 y])∧CheckIs c x y∧Below w.heap.size w w'
theorem Chk.mk {c:Cfg} {w w':World} {x y:Int} (h:CheckIs c x y) (hb:Below w.heap.size w w'):Chk c w (.returned (.tuple #[.int .i64 x,.int .i64 y])) w':=⟨x,y,rfl,h,hb⟩
theorem box4 {w w':World} {v0 v1 v2 v3:Value} {t:Nat} (h:Below (w.heap.size+1) (w.alloc (.cells #[v0,v1,v2,v3] t)) w'):
  w'.cell? ⟨w.heap.size,0,none⟩=some v0∧w'.cell? ⟨w.heap.size,1,none⟩=some v1∧w'.cell? ⟨w.heap.size,2,none⟩=some v2∧w'.cell? ⟨w.heap.size,3,none⟩=some v3:=by
 have hc:∀j,w'.cell? ⟨w.heap.size,j,none⟩=(#[v0,v1,v2,v3]:Array Value)[j]?:=fun j=>by
  rw [h.cell (p:=⟨w.heap.size,j,none⟩) (by simp)];exact cell_of_row _ _ _ _ _ _ (heap_alloc_new w _)
 exact ⟨hc 0,hc 1,hc 2,hc 3⟩
theorem box_below {w w':World} {o:Obj} (h:Below (w.heap.size+1) (w.alloc o) w'):Below w.heap.size w w':=
 ((Below.refl w.heap.size w).alloc (Nat.le_refl _) o).trans (h.mono (by omega))
theorem box_step {w wr w':World} {o:Obj} (h:Below (w.heap.size+1) (w.alloc o) wr) (k:Below wr.heap.size wr w'):Below (w.heap.size+1) (w.alloc o) w':=
 h.trans (k.mono (by have:=h.size;simpa using this))
theorem Ans.says {P:Program} {f:FuncId} {args:Array Value} {w:World} {Pr:Prop} {W:World→Prop} (h:Calls P f args w (Ans Pr W)) (hp:Pr):Calls P f args w (fun e w'=>e=.returned (.bool true)∧W w'):=
 h.mono fun e w' ⟨b,h1,h2,h3⟩=>by
  obtain rfl:b=true:=h2.2 hp;exact ⟨h1,h3⟩
theorem Ans.denies {P:Program} {f:FuncId} {args:Array Value} {w:World} {Pr:Prop} {W:World→Prop} (h:Calls P f args w (Ans Pr W)) (hp:¬Pr):Calls P f args w (fun e w'=>e=.returned (.bool false)∧W w'):=
 h.mono fun e w' ⟨b,h1,h2,h3⟩=>by
  obtain rfl:b=false:=by
   cases b
   ·rfl
   ·exact absurd (h2.1 rfl) hp
  exact ⟨h1,h3⟩
theorem below1 {w w':World} {o:Obj} (h:Below (w.alloc o).heap.size (w.alloc o) w'):Below w.heap.size w w':=
 ((Below.refl w.heap.size w).alloc (Nat.le_refl _) o).trans (h.mono (by simp))
theorem below2 {w w':World} {o o':Obj} (h:Below ((w.alloc o).alloc o').heap.size ((w.alloc o).alloc o') w'):Below w.heap.size w w':=below1 (below1 h)
theorem box3 {w w':World} {v0 v1 v2:Value} {t:Nat} (h:Below (w.heap.size+1) (w.alloc (.cells #[v0,v1,v2] t)) w'):
  w'.cell? ⟨w.heap.size,0,none⟩=some v0∧w'.cell? ⟨w.heap.size,1,none⟩=some v1∧w'.cell? ⟨w.heap.size,2,none⟩=some v2:=by
 have hc:∀j,w'.cell? ⟨w.heap.size,j,none⟩=(#[v0,v1,v2]:Array Value)[j]?:=fun j=>by
  rw [h.cell (p:=⟨w.heap.size,j,none⟩) (by simp)];exact cell_of_row _ _ _ _ _ _ (heap_alloc_new w _)
 exact ⟨hc 0,hc 1,hc 2⟩
theorem CfgR.parts {w:World} {v0 v1 v2 v3:Value} {c:Cfg} (h:CfgR w v0 v1 v2 v3 c):
  ∃p0 cap0 F0 p1 cap1 F1 p2 cap2 p3 cap3,v0=.slice p0 c.nC cap0∧v1=.slice p1 c.nT cap1∧v2=.slice p2 c.nCh cap2∧v3=.slice p3 c.nD cap3∧
   Sl w p0 (c.nC*3) F0∧(∀i,i<c.nC→SlZ w (F0 (i*3)) (c.codeN i) (c.nCode i) 4 (c.code i) 32∧SlZ w (F0 (i*3+1)) (c.imgN i) (c.nImg i) 1 (c.img i) 8∧F0 (i*3+2)=.int .i64 (c.lim i))∧
   Sl w p1 c.nT F1∧(∀i,i<c.nT→SlZ w (F1 i) (c.rowN i) (c.nRow i) 2 (c.row i) 16)∧
   Sl w p2 (c.nCh*3) (fun j=>.int .i64 (c.ch j))∧Sl w p3 c.nD (fun j=>.int .i64 (c.dv j))∧
   c.nC≤8796093022208∧c.nT≤8796093022208∧24*c.nCh≤140737488355328∧8*c.nD≤140737488355328:=by
 obtain ⟨⟨p0,cap0,F0,rfl,_,_,_,b0,s0,k0⟩,⟨p1,cap1,F1,rfl,_,_,_,b1,s1,k1⟩,⟨p2,cap2,rfl,_,_,_,b2,s2⟩,⟨p3,cap3,rfl,_,_,_,b3,s3⟩⟩:=h;exact ⟨p0,cap0,F0,p1,cap1,F1,p2,cap2,p3,cap3,rfl,rfl,rfl,rfl,s0,k0,s1,k1,s2,by simpa using s3,by omega,by omega,b2,b3⟩
def setAt (cb:Nat→Nat) (k b:Nat) (i:Nat):Nat:=if i<k then cb i else b
def cells4 (a b c d:Value) (j:Nat):Value:=if j=0 then a else if j=1 then b else if j=2 then c else d
theorem row4 (w:World) (a b c d:Value) (t:Nat):RowF (w.alloc (.cells #[a,b,c,d] t)) w.heap.size 4 t (cells4 a b c d):=
 RowF.new w #[a,b,c,d] t _ (fun j hj=>by
  have:j=0∨j=1∨j=2∨j=3:=by simp at hj;omega
  rcases this with rfl|rfl|rfl|rfl<;>rfl)
theorem RowF.at4 {w:World} {g t:Nat} {a b c d:Value} (h:RowF w g 4 t (cells4 a b c d)):w.cell? ⟨g,0,none⟩=some a∧w.cell? ⟨g,1,none⟩=some b∧w.cell? ⟨g,2,none⟩=some c∧w.cell? ⟨g,3,none⟩=some d:=
 ⟨h.cell (by omega),h.cell (by omega),h.cell (by omega),h.cell (by omega)⟩
theorem wpList_append_info {P:Program} (w:World) {ops:Array Oper} {rest:List Oper} {o:Oper} {a:Act} {Q:Exit→Act→World→Prop} (hgd:o.guard=none) (s x:Operand) (t:TypeId)
  (ho:o.op=.call {callee:=.builtin .append,args:=#[s,x],argTypes:=#[t,t]})
  (base:Nat) (e:TypeId) (z:Value) (size bytes:Nat) (ht:P.underlying t=some (.slice e)) (hinfo:(P.info? e).map (fun i=>(i.zero,i.size,i.bytes))=some (some z,size,bytes))
  (hzs:z.cells.size=size) (hsz:0<size) (v:Value) (n:Nat) (xs:List Value) (hs:a.eval s=v) (hown:w.ownsRow base e size v n xs)
  (B:Nat) (news:List Value) (ty:TypeId) (hx:a.eval x=.slice (some ⟨B,0,none⟩) 1 1) (hl:news.length=size) (hrow:w.heap[B]?=some (.cells news.toArray ty (0,0))) (h1:∀u∈news,u.oneCell'=true)
  (h63:n+1≤maxLen) (hbytes:(n+1)*bytes≤140737488355328) (hbase:base≤w.heap.size)
  (h:∀g cap w',w'.ownsRow base e size (.slice (some ⟨g,0,none⟩) (n+1) cap) (n+1) (xs++news)→w.grownBy w' v.ownBlock→(v.ownBlock=some g∨g=w.heap.size)→g<w'.heap.size→wpList P ops Q rest (a.put o.dst (.slice (some ⟨g,0,none⟩) (n+1) cap)) w'):wpList P ops Q (o::rest) a w:=by
 obtain ⟨i,h2,h3,h4,h5⟩:=info_parts hinfo;exact wpList_append_lies w hgd s x t ho base e i z size bytes ht h2 h3 h4 h5 hzs hsz v n xs hs hown ⟨B,0,none⟩ 1 1 news hx (by rw [hl,Nat.one_mul]) (by
  have:=World.news_of_block hrow;simpa using this) h1 (by omega) h63 hbytes hbase _ rfl h
def cells3 (a b c:Value) (j:Nat):Value:=if j=0 then a else if j=1 then b else c
theorem row3 (w:World) (a b c:Value) (t:Nat):RowF (w.alloc (.cells #[a,b,c] t)) w.heap.size 3 t (cells3 a b c):=
 RowF.new w #[a,b,c] t _ (fun j hj=>by
  have:j=0∨j=1∨j=2:=by simp at hj;omega
  rcases this with rfl|rfl|rfl<;>rfl)
theorem RowF.at3 {w:World} {g t:Nat} {a b c:Value} (h:RowF w g 3 t (cells3 a b c)):w.cell? ⟨g,0,none⟩=some a∧w.cell? ⟨g,1,none⟩=some b∧w.cell? ⟨g,2,none⟩=some c:=
 ⟨h.cell (by omega),h.cell (by omega),h.cell (by omega)⟩
theorem RowF.set3 {w:World} {g t:Nat} {a b c:Value} (h:RowF w g 3 t (cells3 a b c)) (v:Value):
  RowF (w.setCell ⟨g,0,none⟩ v) g 3 t (cells3 v b c)∧RowF (w.setCell ⟨g,1,none⟩ v) g 3 t (cells3 a v c)∧RowF (w.setCell ⟨g,2,none⟩ v) g 3 t (cells3 a b v):=by
 refine ⟨(h.set 0 v).congr ?_,(h.set 1 v).congr ?_,(h.set 2 v).congr ?_⟩
 all_goals
  intro j hj;have:j=0∨j=1∨j=2:=by omega
  rcases this with rfl|rfl|rfl<;>rfl
theorem row4_heap {w:World} {g t:Nat} {a b c d:Value} (h:RowF w g 4 t (cells4 a b c d)):w.heap[g]?=some (.cells #[a,b,c,d] t (0,0)):=by
 obtain ⟨cs,h1,h2,h3⟩:=h;rw [h1];congr 2;apply Array.ext
 ·simp [h2]
 ·intro i hi hi';have h3':=h3 i (by omega);have:i=0∨i=1∨i=2∨i=3:=by omega
  rw [Array.getElem?_eq_getElem hi] at h3';rcases this with rfl|rfl|rfl|rfl<;>simpa [cells4] using h3'
theorem own_empty (w:World) (t k:Nat):(w.alloc (.cells #[] t)).ownsRow w.heap.size t k (.slice (some ⟨w.heap.size,0,none⟩) 0 0) 0 []:=
 ⟨by simp,.inr ⟨w.heap.size,0,#[],rfl,Nat.le_refl _,heap_alloc_new w _,Nat.le_refl _,Nat.zero_le _,by simp,by simp⟩⟩
theorem wpList_append_many {P:Program} (w:World) {ops:Array Oper} {rest:List Oper} {o:Oper} {a:Act} {Q:Exit→Act→World→Prop} (hgd:o.guard=none) (s x:Operand) (t:TypeId)
  (ho:o.op=.call {callee:=.builtin .append,args:=#[s,x],argTypes:=#[t,t]})
  (base:Nat) (e:TypeId) (z:Value) (size bytes:Nat) (ht:P.underlying t=some (.slice e)) (hinfo:(P.info? e).map (fun i=>(i.zero,i.size,i.bytes))=some (some z,size,bytes))
  (hzs:z.cells.size=size) (hsz:0<size) (v:Value) (n:Nat) (xs:List Value) (hs:a.eval s=v) (hown:w.ownsRow base e size v n xs)
  (b off m c:Nat) (f:Nat→Value) (hx:a.eval x=.slice (some ⟨b,off,none⟩) m c) (hc:∀j,j<m*size→w.cell? ⟨b,off+j,none⟩=some (f j)) (h1:∀j,(f j).oneCell'=true)
  (hm:0<m) (h63:n+m≤maxLen) (hbytes:(n+m)*bytes≤140737488355328) (hbase:base≤w.heap.size)
  (h:∀g cap w',w'.ownsRow base e size (.slice (some ⟨g,0,none⟩) (n+m) cap) (n+m) (xs++(List.range (m*size)).map f)→w.grownBy w' v.ownBlock→(v.ownBlock=some g∨g=w.heap.size)→g<w'.heap.size→wpList P ops Q rest (a.put o.dst (.slice (some ⟨g,0,none⟩) (n+m) cap)) w'):wpList P ops Q (o::rest) a w:=by
 obtain ⟨i,h2,h3,h4,h5⟩:=info_parts hinfo;refine wpList_append_lies w hgd s x t ho base e i z size bytes ht h2 h3 h4 h5 hzs hsz v n xs hs hown ⟨b,off,none⟩ m c ((List.range (m*size)).map f) hx (by simp) (fun j u hu=>?_) (fun u hu=>?_) hm h63 hbytes hbase _ rfl h
 ·rw [List.getElem?_map] at hu;obtain ⟨y,hy,rfl⟩:=Option.map_eq_some_iff.1 hu;have hj:j<m*size:=by
   have:=(List.getElem?_eq_some_iff.1 hy).1;simpa using this
  rw [List.getElem?_range hj] at hy;cases hy;have e1:(⟨b,off,none⟩:Addr).add j=⟨b,off+j,none⟩:=by
   unfold Addr.add;split
   ·rename_i h0;simp_all
   ·rfl
  rw [e1];exact hc j hj
 ·obtain ⟨y,_,rfl⟩:=List.mem_map.1 hu;exact h1 y
theorem info_event3:(Try.prog.info? 67).map (fun i=>(i.zero,i.size,i.bytes))=some (some (.agg #[.int .i64 0,.int .i64 0,.int .i64 0]),3,24):=by kernel_rfl
def ClonedO (w:World) (t k n:Nat) (f:Nat→Value) (e:Ending) (w':World):Prop:=
 ∃v,e=.returned v∧Below w.heap.size w w'∧w'.ownsRow w.heap.size t k v n ((List.range (n*k)).map f)
theorem cloneEv_own (p:Option Addr) (n cap:Nat) (z:Nat→Int) (w:World) (hs:Sl w p (n*3) (fun j=>.int .i64 (z j))) (hz:p=none→n=0∧cap=0) (hb:24*n≤140737488355328):
  Calls Try.prog 53 #[.slice p n cap] w (ClonedO w 67 3 n (fun j=>.int .i64 (z j))):=by
 cases p with
 |none=>
  obtain ⟨rfl,rfl⟩:=hz rfl;have heq:=fun W a n c=>Go.Lib.run_eql_slice_nil (P:=Try.prog) W 55 67 a n c 0 0 Try.underlying55
  go_enter Try.func53,Try.ntmps53
  go_wp2_with fail
  go_ret;exact ⟨_,rfl,Below.refl _ _,by simpa using World.ownsRow_nil _ _ _ _⟩
 |some ad=>
  by_cases h0:n=0
  ·subst h0;have heq:=fun W a n c=>Go.Lib.run_eql_slice_nil (P:=Try.prog) W 55 67 a n c 0 0 Try.underlying55
   go_enter Try.func53,Try.ntmps53
   go_wp2_with fail
   go_ret;exact ⟨_,rfl,(Below.refl _ _).alloc (Nat.le_refl _) _,by simpa using own_empty w 67 3⟩
  ·obtain ⟨b,o,e,hc⟩:=hs.at (by omega);obtain rfl:ad=⟨b,o,none⟩:=Option.some.inj e;have heq:=fun W a n c=>Go.Lib.run_eql_slice_nil (P:=Try.prog) W 55 67 a n c 0 0 Try.underlying55;have HC:Hid (∀j,j<n*3→w.cell? ⟨b,o+j,none⟩=some (.int .i64 (z j))):=hc;have HBn:Hid (24*n≤140737488355328):=hb;have HH:Hid (b<w.heap.size):=block_lt_of_cell (hc 0 (by omega));have hn0:0<n:=by omega
   clear hc hs hz e h0 hb
   go_enter Try.func53,Try.ntmps53
   go_wp2_with (at_builtin;refine wpList_append_many _ rfl _ _ 55 rfl w.heap.size 67 _ 3 24 Try.underlying55 info_event3 rfl (by omega) (.slice (some ⟨w.heap.size,0,none⟩) 0 0) 0 [] rfl (by exact own_empty w 67 3) b o n cap (fun j=>.int .i64 (z j)) rfl (fun j hj=>by
    refine (Below.cell ((Below.refl _ w).alloc (Nat.le_refl _) _) HH.out).trans (HC.out j hj)) (fun j=>rfl) hn0 (by simp only [maxLen];have:=HBn.out;omega) (by have:=HBn.out;omega) (by simp) ?_)
   intro g cc w1 hown hg hat hlt;have HF:Hid (ClonedO w 67 3 n (fun j=>.int .i64 (z j)) (.returned (.slice (some ⟨g,0,none⟩) n cc)) w1):=
    ⟨_,rfl,((Below.refl _ w).alloc (Nat.le_refl _) _).grown hg (by simp) (fun j hj=>by simp [Value.ownBlock] at hj;omega),by simpa using hown⟩
   clear hown hg hat hlt;go_wp2_with fail
   go_ret;simpa using HF.out
theorem cloneNum_own (p:Option Addr) (n cap:Nat) (z:Nat→Int) (w:World) (hs:Sl w p (n*1) (fun j=>.int .i64 (z j))) (hz:p=none→n=0∧cap=0) (hb:8*n≤140737488355328):
  Calls Try.prog 66 #[.slice p n cap] w (ClonedO w 2 1 n (fun j=>.int .i64 (z j))):=by
 cases p with
 |none=>
  obtain ⟨rfl,rfl⟩:=hz rfl;have heq:=fun W a n c=>Go.Lib.run_eql_slice_nil (P:=Try.prog) W 56 2 a n c 0 0 Try.underlying56
  go_enter Try.func66,Try.ntmps66
  go_wp2_with fail
  go_ret;exact ⟨_,rfl,Below.refl _ _,by simpa using World.ownsRow_nil _ _ _ _⟩
 |some ad=>
  by_cases h0:n=0
  ·subst h0;have heq:=fun W a n c=>Go.Lib.run_eql_slice_nil (P:=Try.prog) W 56 2 a n c 0 0 Try.underlying56
   go_enter Try.func66,Try.ntmps66
   go_wp2_with fail
   go_ret;exact ⟨_,rfl,(Below.refl _ _).alloc (Nat.le_refl _) _,by simpa using own_empty w 2 1⟩
  ·obtain ⟨b,o,e,hc⟩:=hs.at (by omega);obtain rfl:ad=⟨b,o,none⟩:=Option.some.inj e;have heq:=fun W a n c=>Go.Lib.run_eql_slice_nil (P:=Try.prog) W 56 2 a n c 0 0 Try.underlying56;have HC:Hid (∀j,j<n*1→w.cell? ⟨b,o+j,none⟩=some (.int .i64 (z j))):=hc;have HBn:Hid (8*n≤140737488355328):=hb;have HH:Hid (b<w.heap.size):=block_lt_of_cell (hc 0 (by omega));have hn0:0<n:=by omega
   clear hc hs hz e h0 hb
   go_enter Try.func66,Try.ntmps66
   go_wp2_with (at_builtin;refine wpList_append_many _ rfl _ _ 56 rfl w.heap.size 2 _ 1 8 Try.underlying56 info_numbers rfl (by omega) (.slice (some ⟨w.heap.size,0,none⟩) 0 0) 0 [] rfl (by exact own_empty w 2 1) b o n cap (fun j=>.int .i64 (z j)) rfl (fun j hj=>by
    refine (Below.cell ((Below.refl _ w).alloc (Nat.le_refl _) _) HH.out).trans (HC.out j hj)) (fun j=>rfl) hn0 (by simp only [maxLen];have:=HBn.out;omega) (by have:=HBn.out;omega) (by simp) ?_)
   intro g cc w1 hown hg hat hlt;have HF:Hid (ClonedO w 2 1 n (fun j=>.int .i64 (z j)) (.returned (.slice (some ⟨g,0,none⟩) n cc)) w1):=
    ⟨_,rfl,((Below.refl _ w).alloc (Nat.le_refl _) _).grown hg (by simp) (fun j hj=>by simp [Value.ownBlock] at hj;omega),by simpa using hown⟩
   clear hown hg hat hlt;go_wp2_with fail
   go_ret;simpa using HF.out
end Go.Proofs.Ytdoghgnifkgfdaa
