import Derived.BigQuiet
import Derived.Deep.QuietTactic
import Derived.WalkSmall
import Derived.Test.YtdoghgnifkgfdaaGreatP01
set_option maxRecDepth 100000
set_option maxHeartbeats 4000000
namespace Go.Proofs.YtdoghgnifkgfdaaGreat
open Go.RowKit
structure Cfg where
 cellsN:Bool
 nC:Nat
 lim:Nat→Int
 codeN:Nat→Bool
 nCode:Nat→Nat
 code:Nat→Nat→Int
 imgN:Nat→Bool
 nImg:Nat→Nat
 img:Nat→Nat→Int
 tableN:Bool
 nT:Nat
 rowN:Nat→Bool
 nRow:Nat→Nat
 row:Nat→Nat→Int
 chN:Bool
 nCh:Nat
 ch:Nat→Int
 dvN:Bool
 nD:Nat
 dv:Nat→Int
def sumTo (z:Nat→Int):Nat→Int
 |0=>0
 |m+1=>sumTo z m+z (m*2+1)
def J7 (n:Nat) (z:Nat→Int) (i:Nat):Prop:=0≤z (i*2)∧z (i*2)<n∧1≤z (i*2+1)
def Zt (n m:Nat) (z:Nat→Int):Prop:=m≤6∧(∀i,i<m→J7 n z i)∧sumTo z m≤200
def ChOk (c:Cfg) (i:Nat):Prop:=
 (c.ch (i*3)=1∨c.ch (i*3)=2)∧(0≤c.ch (i*3+1)∧c.ch (i*3+1)<c.nC)∧(0≤c.ch (i*3+2)∧c.ch (i*3+2)<c.nC)∧c.ch (i*3+1)≠c.ch (i*3+2)
def DvOk (c:Cfg) (i:Nat):Prop:=0≤c.dv i∧c.dv i<c.nC
def YA (c:Cfg) (cell:Int) (n kind:Int) (ende:Nat):Prop:=
 0≤n∧n<c.nCh∧c.ch (n.toNat*3)=kind∧c.ch (n.toNat*3+ende)=cell
def Xe (c:Cfg) (cell nCode:Nat) (op r a n:Int):Prop:=
 (0≤op∧op≤16)∧(0≤r∧r<4)∧(0≤a∧a<4)∧
 ((op=8∨op=9)→0≤n∧n<nCode)∧
 (op=10→YA c cell n 1 1)∧(op=11→YA c cell n 2 1)∧((op=12∨op=16)→YA c cell n 1 2)∧(op=13→YA c cell n 2 2)∧
 (op=14→0≤n∧n<c.nD∧c.dv n.toNat=cell)
def XO (c:Cfg) (i k:Nat):Prop:=Xe c i (c.nCode i) (c.code i (k*4)) (c.code i (k*4+1)) (c.code i (k*4+2)) (c.code i (k*4+3))
def X3 (c:Cfg) (i:Nat):Prop:=
 (0≤c.lim i∧c.lim i≤5)∧c.nImg i≤16∧(1≤c.nCode i∧c.nCode i≤48)∧∀k,k<c.nCode i→XO c i k
def Bad1 (P:Nat→Prop) (n i:Nat):Prop:=i<n∧¬P i∧∀j,j<i→P j
def Yb (P:Nat→Prop) (n:Nat):Prop:=∀j,j<n→P j
def YU (c:Cfg) (i:Nat):Prop:=Zt c.nC (c.nRow i) (c.row i)
def NCok (c:Cfg):Prop:=1≤c.nC∧c.nC≤6
def NTok (c:Cfg):Prop:=1≤c.nT∧c.nT≤8
def Y8 (c:Cfg) (e at':Int):Prop:=
 (¬NCok c∧e=1∧at'=0)∨
 (NCok c∧¬NTok c∧e=2∧at'=0)∨
 (NCok c∧NTok c∧∃i:Nat,Bad1 (YU c) c.nT i∧e=2∧at'=i)∨
 (NCok c∧NTok c∧Yb (YU c) c.nT∧¬c.nCh≤8∧e=3∧at'=0)∨
 (NCok c∧NTok c∧Yb (YU c) c.nT∧c.nCh≤8∧∃i:Nat,Bad1 (ChOk c) c.nCh i∧e=3∧at'=i)∨
 (NCok c∧NTok c∧Yb (YU c) c.nT∧c.nCh≤8∧Yb (ChOk c) c.nCh∧¬c.nD≤4∧e=4∧at'=0)∨
 (NCok c∧NTok c∧Yb (YU c) c.nT∧c.nCh≤8∧Yb (ChOk c) c.nCh∧c.nD≤4∧∃i:Nat,Bad1 (DvOk c) c.nD i∧e=4∧at'=i)∨
 (NCok c∧NTok c∧Yb (YU c) c.nT∧c.nCh≤8∧Yb (ChOk c) c.nCh∧c.nD≤4∧Yb (DvOk c) c.nD∧∃i:Nat,Bad1 (X3 c) c.nC i∧e=5∧at'=i)∨
 (NCok c∧NTok c∧Yb (YU c) c.nT∧c.nCh≤8∧Yb (ChOk c) c.nCh∧c.nD≤4∧Yb (DvOk c) c.nD∧Yb (X3 c) c.nC∧e=0∧at'=0)
theorem Bad1.uniq {P:Nat→Prop} {n i j:Nat} (h:Bad1 P n i) (k:Bad1 P n j):i=j:=by
 rcases Nat.lt_trichotomy i j with hl|he|hl
 ·exact absurd (k.2.2 i hl) h.2.1
 ·exact he
 ·exact absurd (h.2.2 j hl) k.2.1
theorem Bad1.not_all {P:Nat→Prop} {n i:Nat} (h:Bad1 P n i) (k:Yb P n):False:=h.2.1 (k i h.1)
theorem Y8.uniq {c:Cfg} {e a e' a':Int} (h:Y8 c e a) (k:Y8 c e' a'):e=e'∧a=a':=by
 unfold Y8 at h k;rcases h with h|h|h|h|h|h|h|h|h<;>rcases k with k|k|k|k|k|k|k|k|k
 all_goals first
  |exact absurd k.1 h.1
  |exact absurd h.1 k.1
  |exact absurd k.2.1 h.2.1
  |exact absurd h.2.1 k.2.1
  |exact ⟨h.2.1.trans k.2.1.symm,h.2.2.trans k.2.2.symm⟩
  |exact ⟨h.2.2.1.trans k.2.2.1.symm,h.2.2.2.trans k.2.2.2.symm⟩
  |(obtain ⟨_,_,i,h1,h2,h3⟩:=h;obtain ⟨_,_,j,k1,k2,k3⟩:=k;have:=h1.uniq k1;subst this;exact ⟨h2.trans k2.symm,h3.trans k3.symm⟩)
  |(obtain ⟨_,_,i,h1,h2,h3⟩:=h;exact absurd k.2.2.1 (fun x=>h1.not_all x))
  |(obtain ⟨_,_,i,h1,h2,h3⟩:=k;exact absurd h.2.2.1 (fun x=>h1.not_all x))
  |exact absurd k.2.2.2.1 h.2.2.2.1
  |exact absurd h.2.2.2.1 k.2.2.2.1
  |exact ⟨h.2.2.2.2.1.trans k.2.2.2.2.1.symm,h.2.2.2.2.2.trans k.2.2.2.2.2.symm⟩
  |(obtain ⟨_,_,_,_,i,h1,h2,h3⟩:=h;obtain ⟨_,_,_,_,j,k1,k2,k3⟩:=k;have:=h1.uniq k1;subst this;exact ⟨h2.trans k2.symm,h3.trans k3.symm⟩)
  |(obtain ⟨_,_,_,_,i,h1,h2,h3⟩:=h;exact absurd k.2.2.2.2.1 (fun x=>h1.not_all x))
  |(obtain ⟨_,_,_,_,i,h1,h2,h3⟩:=k;exact absurd h.2.2.2.2.1 (fun x=>h1.not_all x))
  |exact absurd k.2.2.2.2.2.1 h.2.2.2.2.2.1
  |exact absurd h.2.2.2.2.2.1 k.2.2.2.2.2.1
  |exact ⟨h.2.2.2.2.2.2.1.trans k.2.2.2.2.2.2.1.symm,h.2.2.2.2.2.2.2.trans k.2.2.2.2.2.2.2.symm⟩
  |(obtain ⟨_,_,_,_,_,_,i,h1,h2,h3⟩:=h;obtain ⟨_,_,_,_,_,_,j,k1,k2,k3⟩:=k;have:=h1.uniq k1;subst this;exact ⟨h2.trans k2.symm,h3.trans k3.symm⟩)
  |(obtain ⟨_,_,_,_,_,_,i,h1,h2,h3⟩:=h;exact absurd k.2.2.2.2.2.2.1 (fun x=>h1.not_all x))
  |(obtain ⟨_,_,_,_,_,_,i,h1,h2,h3⟩:=k;exact absurd h.2.2.2.2.2.2.1 (fun x=>h1.not_all x))
  |(obtain ⟨_,_,_,_,_,_,_,i,h1,h2,h3⟩:=h;obtain ⟨_,_,_,_,_,_,_,j,k1,k2,k3⟩:=k;have:=h1.uniq k1;subst this;exact ⟨h2.trans k2.symm,h3.trans k3.symm⟩)
  |(obtain ⟨_,_,_,_,_,_,_,i,h1,h2,h3⟩:=h;exact absurd k.2.2.2.2.2.2.2.1 (fun x=>h1.not_all x))
  |(obtain ⟨_,_,_,_,_,_,_,i,h1,h2,h3⟩:=k;exact absurd h.2.2.2.2.2.2.2.1 (fun x=>h1.not_all x))
  |exact ⟨h.2.2.2.2.2.2.2.2.1.trans k.2.2.2.2.2.2.2.2.1.symm,h.2.2.2.2.2.2.2.2.2.trans k.2.2.2.2.2.2.2.2.2.symm⟩
section
variable {c:Cfg} {i:Nat}
theorem Y8.c1 (h:¬NCok c):Y8 c 1 0:=.inl ⟨h,rfl,rfl⟩
theorem Y8.c2 (a1:NCok c) (h:¬NTok c):Y8 c 2 0:=.inr (.inl ⟨a1,h,rfl,rfl⟩)
theorem Y8.c3 (a1:NCok c) (a2:NTok c) (h:Bad1 (YU c) c.nT i):Y8 c 2 i:=.inr (.inr (.inl ⟨a1,a2,i,h,rfl,rfl⟩))
theorem Y8.c4 (a1:NCok c) (a2:NTok c) (a3:Yb (YU c) c.nT) (h:¬c.nCh≤8):Y8 c 3 0:=.inr (.inr (.inr (.inl ⟨a1,a2,a3,h,rfl,rfl⟩)))
theorem Y8.c5 (a1:NCok c) (a2:NTok c) (a3:Yb (YU c) c.nT) (a4:c.nCh≤8) (h:Bad1 (ChOk c) c.nCh i):Y8 c 3 i:=.inr (.inr (.inr (.inr (.inl ⟨a1,a2,a3,a4,i,h,rfl,rfl⟩))))
theorem Y8.c6 (a1:NCok c) (a2:NTok c) (a3:Yb (YU c) c.nT) (a4:c.nCh≤8) (a5:Yb (ChOk c) c.nCh) (h:¬c.nD≤4):Y8 c 4 0:=.inr (.inr (.inr (.inr (.inr (.inl ⟨a1,a2,a3,a4,a5,h,rfl,rfl⟩)))))
theorem Y8.c7 (a1:NCok c) (a2:NTok c) (a3:Yb (YU c) c.nT) (a4:c.nCh≤8) (a5:Yb (ChOk c) c.nCh) (a6:c.nD≤4) (h:Bad1 (DvOk c) c.nD i):Y8 c 4 i:=.inr (.inr (.inr (.inr (.inr (.inr (.inl ⟨a1,a2,a3,a4,a5,a6,i,h,rfl,rfl⟩))))))
theorem Y8.c8 (a1:NCok c) (a2:NTok c) (a3:Yb (YU c) c.nT) (a4:c.nCh≤8) (a5:Yb (ChOk c) c.nCh) (a6:c.nD≤4) (a7:Yb (DvOk c) c.nD) (h:Bad1 (X3 c) c.nC i):Y8 c 5 i:=.inr (.inr (.inr (.inr (.inr (.inr (.inr (.inl ⟨a1,a2,a3,a4,a5,a6,a7,i,h,rfl,rfl⟩)))))))
theorem Y8.c9 (a1:NCok c) (a2:NTok c) (a3:Yb (YU c) c.nT) (a4:c.nCh≤8) (a5:Yb (ChOk c) c.nCh) (a6:c.nD≤4) (a7:Yb (DvOk c) c.nD) (h:Yb (X3 c) c.nC):Y8 c 0 0:=.inr (.inr (.inr (.inr (.inr (.inr (.inr (.inr ⟨a1,a2,a3,a4,a5,a6,a7,h,rfl,rfl⟩)))))))
end
theorem Yb.step {P:Nat→Prop} {k:Nat} (h:Yb P k) (hk:P k):Yb P (k+1):=by
 intro j hj;rcases Nat.lt_or_ge j k with hl|hl
 ·exact h j hl
 ·obtain rfl:j=k:=by omega
  exact hk
theorem Yb.zero (P:Nat→Prop):Yb P 0:=fun _ h=>absurd h (by omega)
def SlZ (w:World) (v:Value) (nl:Bool) (n k:Nat) (z:Nat→Int) (bn:Nat):Prop:=
 ∃p cap,v=.slice p n cap∧n≤cap∧(p=none↔nl=true)∧(p=none→n=0∧cap=0)∧bn*n≤140737488355328∧Sl w p (n*k) (fun j=>.int .i64 (z j))
def Y0h (w:World) (v:Value) (c:Cfg):Prop:=
 ∃p cap,∃F:Nat→Value,v=.slice p c.nC cap∧c.nC≤cap∧(p=none↔c.cellsN=true)∧(p=none→c.nC=0∧cap=0)∧56*c.nC≤140737488355328∧Sl w p (c.nC*3) F∧
  ∀i,i<c.nC→SlZ w (F (i*3)) (c.codeN i) (c.nCode i) 4 (c.code i) 32∧SlZ w (F (i*3+1)) (c.imgN i) (c.nImg i) 1 (c.img i) 8∧F (i*3+2)=.int .i64 (c.lim i)
def Y0o (w:World) (v:Value) (c:Cfg):Prop:=
 ∃p cap,∃F:Nat→Value,v=.slice p c.nT cap∧c.nT≤cap∧(p=none↔c.tableN=true)∧(p=none→c.nT=0∧cap=0)∧24*c.nT≤140737488355328∧Sl w p c.nT F∧
  ∀i,i<c.nT→SlZ w (F i) (c.rowN i) (c.nRow i) 2 (c.row i) 16
structure CfgR (w:World) (v0 v1 v2 v3:Value) (c:Cfg):Prop where
 cells:Y0h w v0 c
 table:Y0o w v1 c
 chans:SlZ w v2 c.chN c.nCh 3 c.ch 24
 devs:SlZ w v3 c.dvN c.nD 1 c.dv 8
section
variable {w w':World}
theorem SlZ.keep {v:Value} {nl:Bool} {n k:Nat} {z:Nat→Int} {bn:Nat} (h:SlZ w v nl n k z bn) (hk:∀a v,w.cell? a=some v→w'.cell? a=some v):SlZ w' v nl n k z bn:=by
 obtain ⟨p,cap,h1,h2,h3,h4,h5,h6⟩:=h;exact ⟨p,cap,h1,h2,h3,h4,h5,h6.keep hk⟩
theorem Y0h.keep {v:Value} {c:Cfg} (h:Y0h w v c) (hk:∀a v,w.cell? a=some v→w'.cell? a=some v):Y0h w' v c:=by
 obtain ⟨p,cap,F,h1,h2,h3,h4,h5,h6,h7⟩:=h;exact ⟨p,cap,F,h1,h2,h3,h4,h5,h6.keep hk,fun i hi=>⟨(h7 i hi).1.keep hk,(h7 i hi).2.1.keep hk,(h7 i hi).2.2⟩⟩
theorem Y0o.keep {v:Value} {c:Cfg} (h:Y0o w v c) (hk:∀a v,w.cell? a=some v→w'.cell? a=some v):Y0o w' v c:=by
 obtain ⟨p,cap,F,h1,h2,h3,h4,h5,h6,h7⟩:=h;exact ⟨p,cap,F,h1,h2,h3,h4,h5,h6.keep hk,fun i hi=>(h7 i hi).keep hk⟩
theorem CfgR.keep {v0 v1 v2 v3:Value} {c:Cfg} (h:CfgR w v0 v1 v2 v3 c) (hk:∀a v,w.cell? a=some v→w'.cell? a=some v):CfgR w' v0 v1 v2 v3 c:=
 ⟨h.cells.keep hk,h.table.keep hk,h.chans.keep hk,h.devs.keep hk⟩
end
theorem CfgR.below {w w':World} {v0 v1 v2 v3:Value} {c:Cfg} (h:CfgR w v0 v1 v2 v3 c) (hb:Below w.heap.size w w'):CfgR w' v0 v1 v2 v3 c:=h.keep (Zc hb)
theorem Sl.at {w:World} {p:Option Addr} {m:Nat} {f:Nat→Value} (h:Sl w p m f) (hm:0<m):∃b off,p=some ⟨b,off,none⟩∧∀j,j<m→w.cell? ⟨b,off+j,none⟩=some (f j):=by
 rcases h with h0|h
 ·omega
 ·exact h
theorem Y4L (z:Nat→Int) (m:Nat) (h:∀i,i<m→1≤z (i*2+1)∧z (i*2+1)≤200):0≤sumTo z m∧sumTo z m≤200*m:=by
 induction m with
 |zero=>simp [sumTo]
 |succ m ih=>
  have h1:=ih (fun i hi=>h i (by omega));have h2:=h m (by omega);simp only [sumTo];omega
theorem Y27 (z:Nat→Int) (m:Nat) (h:∀i,i<m→1≤z (i*2+1)):(m:Int)≤sumTo z m∧∀i,i<m→z (i*2+1)≤sumTo z m:=by
 induction m with
 |zero=>simp [sumTo]
 |succ m ih=>
  have h1:=ih (fun i hi=>h i (by omega));have h2:=h m (by omega);simp only [sumTo];refine ⟨by omega,fun i hi=>?_⟩;rcases Nat.lt_or_ge i m with hl|hl
  ·have:=h1.2 i hl;omega
  ·have:i=m:=by omega
   subst this;omega
def Ans (P:Prop) (W:World→Prop) (e:Ending) (w':World):Prop:=∃b,e=.returned (.bool b)∧(b=true↔P)∧W w'
theorem Ans.no {P:Prop} {W:World→Prop} {w':World} (h:¬P) (hw:W w'):Ans P W (.returned (.bool false)) w':=⟨false,rfl,by simp [h],hw⟩
theorem Ans.yes {P:Prop} {W:World→Prop} {w':World} (h:P) (hw:W w'):Ans P W (.returned (.bool true)) w':=⟨true,rfl,by simp [h],hw⟩
theorem Ans.of {P:Prop} {W:World→Prop} {w':World} {b:Bool} (h:b=true↔P) (hw:W w'):Ans P W (.returned (.bool b)) w':=⟨b,rfl,h,hw⟩
def Chk (c:Cfg) (w:World) (e:Ending) (w':World):Prop:=∃x y:Int,e=.returned (.tuple #[.int .i64 x,.int .i64 y])∧Y8 c x y∧Below w.heap.size w w'
theorem Chk.mk {c:Cfg} {w w':World} {x y:Int} (h:Y8 c x y) (hb:Below w.heap.size w w'):Chk c w (.returned (.tuple #[.int .i64 x,.int .i64 y])) w':=⟨x,y,rfl,h,hb⟩
theorem box4 {w w':World} {v0 v1 v2 v3:Value} {t:Nat} (h:Below (w.heap.size+1) (w.alloc (.cells #[v0,v1,v2,v3] t)) w'):
  w'.cell? ⟨w.heap.size,0,none⟩=some v0∧w'.cell? ⟨w.heap.size,1,none⟩=some v1∧w'.cell? ⟨w.heap.size,2,none⟩=some v2∧w'.cell? ⟨w.heap.size,3,none⟩=some v3:=by
 have hc:∀j,w'.cell? ⟨w.heap.size,j,none⟩=(#[v0,v1,v2,v3]:Array Value)[j]?:=fun j=>by
  rw [h.cell (p:=⟨w.heap.size,j,none⟩) (by simp)];exact cell_of_row _ _ _ _ _ _ (heap_alloc_new w _)
 exact ⟨hc 0,hc 1,hc 2,hc 3⟩
theorem Yg {w w':World} {o:Obj} (h:Below (w.heap.size+1) (w.alloc o) w'):Below w.heap.size w w':=
 ((Below.refl w.heap.size w).alloc (Nat.le_refl _) o).trans (h.mono (by omega))
theorem Y0l {w wr w':World} {o:Obj} (h:Below (w.heap.size+1) (w.alloc o) wr) (k:Below wr.heap.size wr w'):Below (w.heap.size+1) (w.alloc o) w':=
 h.trans (k.mono (by have:=h.size;simpa using this))
theorem Ans.says {P:Program} {f:FuncId} {args:Array Value} {w:World} {Pr:Prop} {W:World→Prop} (h:Calls P f args w (Ans Pr W)) (hp:Pr):Calls P f args w (fun e w'=>e=.returned (.bool true)∧W w'):=
 h.mono fun e w' ⟨b,h1,h2,h3⟩=>by
  obtain rfl:b=true:=h2.2 hp;exact ⟨h1,h3⟩
theorem Ans.denies {P:Program} {f:FuncId} {args:Array Value} {w:World} {Pr:Prop} {W:World→Prop} (h:Calls P f args w (Ans Pr W)) (hp:¬Pr):Calls P f args w (fun e w'=>e=.returned (.bool false)∧W w'):=
 h.mono fun e w' ⟨b,h1,h2,h3⟩=>by
  obtain rfl:b=false:=by
   cases b
   ·rfl
   ·exact absurd (h2.1 rfl) hp
  exact ⟨h1,h3⟩
theorem Xh {w w':World} {o:Obj} (h:Below (w.alloc o).heap.size (w.alloc o) w'):Below w.heap.size w w':=
 ((Below.refl w.heap.size w).alloc (Nat.le_refl _) o).trans (h.mono (by simp))
theorem Zm {w w':World} {o o':Obj} (h:Below ((w.alloc o).alloc o').heap.size ((w.alloc o).alloc o') w'):Below w.heap.size w w':=Xh (Xh h)
theorem box3 {w w':World} {v0 v1 v2:Value} {t:Nat} (h:Below (w.heap.size+1) (w.alloc (.cells #[v0,v1,v2] t)) w'):
  w'.cell? ⟨w.heap.size,0,none⟩=some v0∧w'.cell? ⟨w.heap.size,1,none⟩=some v1∧w'.cell? ⟨w.heap.size,2,none⟩=some v2:=by
 have hc:∀j,w'.cell? ⟨w.heap.size,j,none⟩=(#[v0,v1,v2]:Array Value)[j]?:=fun j=>by
  rw [h.cell (p:=⟨w.heap.size,j,none⟩) (by simp)];exact cell_of_row _ _ _ _ _ _ (heap_alloc_new w _)
 exact ⟨hc 0,hc 1,hc 2⟩
theorem CfgR.parts {w:World} {v0 v1 v2 v3:Value} {c:Cfg} (h:CfgR w v0 v1 v2 v3 c):
  ∃p0 cap0 F0 p1 cap1 F1 p2 cap2 p3 cap3,v0=.slice p0 c.nC cap0∧v1=.slice p1 c.nT cap1∧v2=.slice p2 c.nCh cap2∧v3=.slice p3 c.nD cap3∧
   Sl w p0 (c.nC*3) F0∧(∀i,i<c.nC→SlZ w (F0 (i*3)) (c.codeN i) (c.nCode i) 4 (c.code i) 32∧SlZ w (F0 (i*3+1)) (c.imgN i) (c.nImg i) 1 (c.img i) 8∧F0 (i*3+2)=.int .i64 (c.lim i))∧
   Sl w p1 c.nT F1∧(∀i,i<c.nT→SlZ w (F1 i) (c.rowN i) (c.nRow i) 2 (c.row i) 16)∧
   Sl w p2 (c.nCh*3) (fun j=>.int .i64 (c.ch j))∧Sl w p3 c.nD (fun j=>.int .i64 (c.dv j))∧
   c.nC≤8796093022208∧c.nT≤8796093022208∧24*c.nCh≤140737488355328∧8*c.nD≤140737488355328:=by
 obtain ⟨⟨p0,cap0,F0,rfl,_,_,_,b0,s0,k0⟩,⟨p1,cap1,F1,rfl,_,_,_,b1,s1,k1⟩,⟨p2,cap2,rfl,_,_,_,b2,s2⟩,⟨p3,cap3,rfl,_,_,_,b3,s3⟩⟩:=h;exact ⟨p0,cap0,F0,p1,cap1,F1,p2,cap2,p3,cap3,rfl,rfl,rfl,rfl,s0,k0,s1,k1,s2,by simpa using s3,by omega,by omega,b2,b3⟩
theorem Y1b {w w':World} {row:Option Nat} (h:w.grownBy w' row) (n:Nat):w.grownBy (w'.drewN n) row:=⟨h.os,h.tape,h.output,h.size,h.block⟩
theorem RowF.drewN {w:World} {g m t:Nat} {f:Nat→Value} (h:RowF w g m t f) (n:Nat):RowF (w.drewN n) g m t f:=h
theorem below_grown {w w':World} (h:Below w.heap.size w w') (row:Option Nat):w.grownBy w' row:=⟨h.os,h.tape,h.output,h.size,fun k hk _=>h.block k hk⟩
def YF (K k:Nat) (f:Nat→Value) (j:Nat):Value:=if j<k*K then .int .i64 (if j % K=0 then -99 else 0) else f j
theorem Y6U (k j:Nat) (f:Nat→Value):(if j=k then Value.int .i64 (-99) else YF 1 k f j)=YF 1 (k+1) f j:=by
 unfold YF;repeat' split
 all_goals first
  |rfl
  |(exfalso;omega)
theorem Y4T (k j:Nat) (f:Nat→Value):(if j=k*2+1 then Value.int .i64 0 else if j=k*2 then Value.int .i64 (-99) else YF 2 k f j)=YF 2 (k+1) f j:=by
 unfold YF;repeat' split
 all_goals first
  |rfl
  |(exfalso;omega)
theorem Y64 (k j:Nat) (f:Nat→Value):(if j=k*4+3 then Value.int .i64 0 else if j=k*4+2 then Value.int .i64 0 else if j=k*4+1 then Value.int .i64 0 else if j=k*4 then Value.int .i64 (-99) else YF 4 k f j)=YF 4 (k+1) f j:=by
 unfold YF;repeat' split
 all_goals first
  |rfl
  |(exfalso;omega)
theorem Y5Y (w:World):Calls Tryz.prog 70 #[.slice none 0 0,.slice none 0 0] w fun e w'=>e=.returned (.bool true)∧w'=w:=by
 have heq:=fun W a n c=>Go.Lib.run_eql_slice_nil (P:=Tryz.prog) W 50 97 a n c 0 0 Tryz.underlying50
 go_enter Tryz.func70,Tryz.ntmps70
 go_wp2_with fail
 go_ret;exact ⟨rfl,rfl⟩
theorem Y99 (g n cap b off ty:Nat) (sp:Option Nat) (z:Nat→Int) (w:World) (hr:RowF w g ((n+2)*4) ty (fun j=>.int .i64 (padZ 4 n z j))) (hs:Sl w (some ⟨b,off,sp⟩) (n*4) (fun j=>.int .i64 (z j))) (hb:32*n≤140737488355328):
  Calls Tryz.prog 70 #[.slice (some ⟨g,0,none⟩) n (n+2:Nat),.slice (some ⟨b,off,sp⟩) n cap] w fun e w'=>e=.returned (.bool true)∧w.grownBy w' (some g):=by
 have hB:n≤17592186044416:=by omega
 have hg:g<w.heap.size:=hr.lt;have HR0:Hid (RowF w g ((n+2)*4) ty (fun j=>.int .i64 (padZ 4 n z j))):=hr;have HS:Hid (Sl w (some ⟨b,off,sp⟩) (n*4) (fun j=>.int .i64 (z j))):=hs;have HN:Hid (32*n≤140737488355328):=hb;clear hr hs hb;have heq:=fun W a n c=>Go.Lib.run_eql_slice_nil (P:=Tryz.prog) W 50 97 a n c 0 0 Tryz.underlying50
 go_enter Tryz.func70,Tryz.ntmps70
 go_wp2_with (go_at_call 63;refine (Y1e (some ⟨b,off,sp⟩) n cap z _ HS.out (by simp) HN.out).mono ?_;rintro e w1 ⟨rfl,hsz1,hbel1,hrow1⟩;have HZ1:Hid (w1.heap.size=w.heap.size+1):=hsz1;have HB1:Hid (Below w.heap.size w w1):=hbel1;have HV1:Hid (RowF w1 w.heap.size ((n+2)*4) 97 (fun j=>.int .i64 (padZ 4 n z j))):=hrow1;clear hsz1 hbel1 hrow1)
 go_loopw [7,8] (fun o i wr=>∃k:Nat,k≤n+2∧i=.int .i64 k∧o=.bool true∧Hid (w.grownBy wr (some g))∧Hid (RowF wr g ((n+2)*4) ty (YF 4 k (fun j=>.int .i64 (padZ 4 n z j))))∧Hid (RowF wr w.heap.size ((n+2)*4) 97 (fun j=>.int .i64 (padZ 4 n z j)))) (fun _ i _=>n+2-(intOf i).toNat)
 case atStart=>exact ⟨0,Nat.zero_le _,rfl,by simp,below_grown HB1.out _,(HR0.out.below HB1.out hg).congr (fun j _=>by simp [YF]),HV1⟩
 case round=>
  obtain ⟨k,hk,rfl,rfl,HG,HR,HV⟩:=hrel;by_cases hlt:k<n+2
  ·have HP:Hid (∀j,_):=fun j=>Y64 k j (fun j=>.int .i64 (padZ 4 n z j));have c0:=HR.out.cell (j:=k*4) (by omega);have d0:=HV.out.cell (j:=k*4) (by omega);have f0:=HR.out.frozen (k*4);have c1:=HR.out.cell (j:=k*4+1) (by omega);have d1:=HV.out.cell (j:=k*4+1) (by omega);have f1:=HR.out.frozen (k*4+1);have c2:=HR.out.cell (j:=k*4+2) (by omega);have d2:=HV.out.cell (j:=k*4+2) (by omega);have f2:=HR.out.frozen (k*4+2);have c3:=HR.out.cell (j:=k*4+3) (by omega);have d3:=HV.out.cell (j:=k*4+3) (by omega);have f3:=HR.out.frozen (k*4+3);have o0:YF 4 k (fun j=>.int .i64 (padZ 4 n z j)) (k*4)=.int .i64 (padZ 4 n z (k*4)):=by unfold YF;rw [if_neg (by omega)]
   rw [o0] at c0;have o1:YF 4 k (fun j=>.int .i64 (padZ 4 n z j)) (k*4+1)=.int .i64 (padZ 4 n z (k*4+1)):=by unfold YF;rw [if_neg (by omega)]
   rw [o1] at c1;have o2:YF 4 k (fun j=>.int .i64 (padZ 4 n z j)) (k*4+2)=.int .i64 (padZ 4 n z (k*4+2)):=by unfold YF;rw [if_neg (by omega)]
   rw [o2] at c2;have o3:YF 4 k (fun j=>.int .i64 (padZ 4 n z j)) (k*4+3)=.int .i64 (padZ 4 n z (k*4+3)):=by unfold YF;rw [if_neg (by omega)]
   rw [o3] at c3;generalize padZ 4 n z (k*4)=x0 at c0 d0;generalize padZ 4 n z (k*4+1)=x1 at c1 d1;generalize padZ 4 n z (k*4+2)=x2 at c2 d2;generalize padZ 4 n z (k*4+3)=x3 at c3 d3;clear o0 o1 o2 o3;go_wp2_with fail
   go_quiet (fail)
   go_wp2_with fail
   exact ⟨⟨k+1,by omega,by go_num,rfl,(grownBy_setCell (grownBy_setCell (grownBy_setCell (grownBy_setCell (Y1b HG.out nq) (k*4) _) (k*4+1) _) (k*4+2) _) (k*4+3) _),(((((HR.out.drewN nq).set (k*4) _).set (k*4+1) _).set (k*4+2) _).set (k*4+3) _).congr (fun j _=>HP.out j),(((((HV.out.drewN nq).other _ _ (by simp;omega)).other _ _ (by simp;omega)).other _ _ (by simp;omega)).other _ _ (by simp;omega))⟩,by simp [intOf];omega⟩
  ·obtain rfl:k=n+2:=by omega
   go_wp2_with fail
   go_ret;exact ⟨rfl,HG.out⟩
theorem Yab (w:World):Calls Tryz.prog 71 #[.slice none 0 0,.slice none 0 0] w fun e w'=>e=.returned (.bool true)∧w'=w:=by
 have heq:=fun W a n c=>Go.Lib.run_eql_slice_nil (P:=Tryz.prog) W 51 2 a n c 0 0 Tryz.underlying51
 go_enter Tryz.func71,Tryz.ntmps71
 go_wp2_with fail
 go_ret;exact ⟨rfl,rfl⟩
theorem Yaw (g n cap b off ty:Nat) (sp:Option Nat) (z:Nat→Int) (w:World) (hr:RowF w g ((n+2)*1) ty (fun j=>.int .i64 (padZ 1 n z j))) (hs:Sl w (some ⟨b,off,sp⟩) (n) (fun j=>.int .i64 (z j))) (hb:8*n≤140737488355328):
  Calls Tryz.prog 71 #[.slice (some ⟨g,0,none⟩) n (n+2:Nat),.slice (some ⟨b,off,sp⟩) n cap] w fun e w'=>e=.returned (.bool true)∧w.grownBy w' (some g):=by
 have hB:n≤17592186044416:=by omega
 have hg:g<w.heap.size:=hr.lt;have HR0:Hid (RowF w g ((n+2)*1) ty (fun j=>.int .i64 (padZ 1 n z j))):=hr;have HS:Hid (Sl w (some ⟨b,off,sp⟩) (n) (fun j=>.int .i64 (z j))):=hs;have HN:Hid (8*n≤140737488355328):=hb;clear hr hs hb;have heq:=fun W a n c=>Go.Lib.run_eql_slice_nil (P:=Tryz.prog) W 51 2 a n c 0 0 Tryz.underlying51
 go_enter Tryz.func71,Tryz.ntmps71
 go_wp2_with (go_at_call 64;refine (Y1n (some ⟨b,off,sp⟩) n cap z _ HS.out (by simp) HN.out).mono ?_;rintro e w1 ⟨rfl,hsz1,hbel1,hrow1⟩;have HZ1:Hid (w1.heap.size=w.heap.size+1):=hsz1;have HB1:Hid (Below w.heap.size w w1):=hbel1;have HV1:Hid (RowF w1 w.heap.size ((n+2)*1) 2 (fun j=>.int .i64 (padZ 1 n z j))):=hrow1;clear hsz1 hbel1 hrow1)
 go_loopw [7,8] (fun o i wr=>∃k:Nat,k≤n+2∧i=.int .i64 k∧o=.bool true∧Hid (w.grownBy wr (some g))∧Hid (RowF wr g ((n+2)*1) ty (YF 1 k (fun j=>.int .i64 (padZ 1 n z j))))∧Hid (RowF wr w.heap.size ((n+2)*1) 2 (fun j=>.int .i64 (padZ 1 n z j)))) (fun _ i _=>n+2-(intOf i).toNat)
 case atStart=>exact ⟨0,Nat.zero_le _,rfl,by simp,below_grown HB1.out _,(HR0.out.below HB1.out hg).congr (fun j _=>by simp [YF]),HV1⟩
 case round=>
  obtain ⟨k,hk,rfl,rfl,HG,HR,HV⟩:=hrel;by_cases hlt:k<n+2
  ·have HP:Hid (∀j,_):=fun j=>Y6U k j (fun j=>.int .i64 (padZ 1 n z j));have c0:=HR.out.cell (j:=k) (by omega);have d0:=HV.out.cell (j:=k) (by omega);have f0:=HR.out.frozen (k);have o0:YF 1 k (fun j=>.int .i64 (padZ 1 n z j)) (k)=.int .i64 (padZ 1 n z (k)):=by unfold YF;rw [if_neg (by omega)]
   rw [o0] at c0;generalize padZ 1 n z (k)=x0 at c0 d0;clear o0;go_wp2_with fail
   go_quiet (fail)
   go_wp2_with fail
   exact ⟨⟨k+1,by omega,by go_num,rfl,(grownBy_setCell (Y1b HG.out nq) (k) _),((HR.out.drewN nq).set (k) _).congr (fun j _=>HP.out j),((HV.out.drewN nq).other _ _ (by simp;omega))⟩,by simp [intOf];omega⟩
  ·obtain rfl:k=n+2:=by omega
   go_wp2_with fail
   go_ret;exact ⟨rfl,HG.out⟩
theorem Y9V (g n cap ty:Nat) (p:Option Addr) (hp:p=none→n=0) (z:Nat→Int) (w:World) (hr:RowF w g ((n+2)*2) ty (fun j=>.int .i64 (padZ 2 n z j))) (hs:Sl w p (n*2) (fun j=>.int .i64 (z j))) (hb:16*n≤140737488355328):
  Calls Tryz.prog 72 #[.slice (some ⟨g,0,none⟩) n (n+2:Nat),.slice p n cap] w fun e w'=>e=.returned (.bool true)∧w.grownBy w' (some g):=by
 have hB:n≤17592186044416:=by omega
 have hg:g<w.heap.size:=hr.lt;have HR0:Hid (RowF w g ((n+2)*2) ty (fun j=>.int .i64 (padZ 2 n z j))):=hr;have HS:Hid (Sl w p (n*2) (fun j=>.int .i64 (z j))):=hs;have HN:Hid (16*n≤140737488355328):=hb;clear hr hs hb
 go_enter Tryz.func72,Tryz.ntmps72
 go_wp2_with (go_at_call 65;refine (Y3L p n cap z _ HS.out hp HN.out).mono ?_;rintro e w1 ⟨rfl,hsz1,hbel1,hrow1⟩;have HZ1:Hid (w1.heap.size=w.heap.size+1):=hsz1;have HB1:Hid (Below w.heap.size w w1):=hbel1;have HV1:Hid (RowF w1 w.heap.size ((n+2)*2) 102 (fun j=>.int .i64 (padZ 2 n z j))):=hrow1;clear hsz1 hbel1 hrow1)
 go_loopw [7,8] (fun o i wr=>∃k:Nat,k≤n+2∧i=.int .i64 k∧o=.bool true∧Hid (w.grownBy wr (some g))∧Hid (RowF wr g ((n+2)*2) ty (YF 2 k (fun j=>.int .i64 (padZ 2 n z j))))∧Hid (RowF wr w.heap.size ((n+2)*2) 102 (fun j=>.int .i64 (padZ 2 n z j)))) (fun _ i _=>n+2-(intOf i).toNat)
 case atStart=>exact ⟨0,Nat.zero_le _,rfl,by simp,below_grown HB1.out _,(HR0.out.below HB1.out hg).congr (fun j _=>by simp [YF]),HV1⟩
 case round=>
  obtain ⟨k,hk,rfl,rfl,HG,HR,HV⟩:=hrel;by_cases hlt:k<n+2
  ·have HP:Hid (∀j,_):=fun j=>Y4T k j (fun j=>.int .i64 (padZ 2 n z j));have c0:=HR.out.cell (j:=k*2) (by omega);have d0:=HV.out.cell (j:=k*2) (by omega);have f0:=HR.out.frozen (k*2);have c1:=HR.out.cell (j:=k*2+1) (by omega);have d1:=HV.out.cell (j:=k*2+1) (by omega);have f1:=HR.out.frozen (k*2+1);have o0:YF 2 k (fun j=>.int .i64 (padZ 2 n z j)) (k*2)=.int .i64 (padZ 2 n z (k*2)):=by unfold YF;rw [if_neg (by omega)]
   rw [o0] at c0;have o1:YF 2 k (fun j=>.int .i64 (padZ 2 n z j)) (k*2+1)=.int .i64 (padZ 2 n z (k*2+1)):=by unfold YF;rw [if_neg (by omega)]
   rw [o1] at c1;generalize padZ 2 n z (k*2)=x0 at c0 d0;generalize padZ 2 n z (k*2+1)=x1 at c1 d1;clear o0 o1;go_wp2_with fail
   go_quiet (fail)
   go_wp2_with fail
   exact ⟨⟨k+1,by omega,by go_num,rfl,(grownBy_setCell (grownBy_setCell (Y1b HG.out nq) (k*2) _) (k*2+1) _),(((HR.out.drewN nq).set (k*2) _).set (k*2+1) _).congr (fun j _=>HP.out j),(((HV.out.drewN nq).other _ _ (by simp;omega)).other _ _ (by simp;omega))⟩,by simp [intOf];omega⟩
  ·obtain rfl:k=n+2:=by omega
   go_wp2_with fail
   go_ret;exact ⟨rfl,HG.out⟩
def Y6 (nl:Bool) (b n:Nat):Value:=if nl then .slice none 0 0 else .slice (some ⟨b,0,none⟩) n (n+2)
def Inn (w:World) (nl:Bool) (b n k:Nat) (z:Nat→Int):Prop:=nl=false→∃ty,RowF w b ((n+2)*k) ty (fun j=>.int .i64 (padZ k n z j))
theorem Inn.keep {w w':World} {nl:Bool} {b n k:Nat} {z:Nat→Int} (h:Inn w nl b n k z) (he:nl=false→w'.heap[b]?=w.heap[b]?):Inn w' nl b n k z:=fun hn=>by
 obtain ⟨ty,hr⟩:=h hn;exact ⟨ty,hr.of_heap (he hn)⟩
structure YJ (w:World) (c:Cfg) (k lo hi:Nat) (cb:Nat→Nat):Prop where
 code:∀i,i<k→Inn w (c.codeN i) (cb i) (c.nCode i) 4 (c.code i)
 img:∀i,i<k→Inn w (c.imgN i) (cb i+1) (c.nImg i) 1 (c.img i)
 lo:∀i,i<k→lo≤cb i∧cb i+2≤hi
 ord:∀i j,i<j→j<k→cb i+2≤cb j
theorem YJ.zero (w:World) (c:Cfg) (lo hi:Nat) (cb:Nat→Nat):YJ w c 0 lo hi cb:=
 ⟨fun i h=>absurd h (by omega),fun i h=>absurd h (by omega),fun i h=>absurd h (by omega),fun i j _ h=>absurd h (by omega)⟩
theorem YJ.keep {w w':World} {c:Cfg} {k lo hi hi':Nat} {cb:Nat→Nat} (h:YJ w c k lo hi cb) (hh:hi≤hi') (he:∀i,i<k→w'.heap[cb i]?=w.heap[cb i]?∧w'.heap[cb i+1]?=w.heap[cb i+1]?):YJ w' c k lo hi' cb:=
 ⟨fun i hi=>(h.code i hi).keep (fun _=>(he i hi).1),fun i hi=>(h.img i hi).keep (fun _=>(he i hi).2),fun i hi=>⟨(h.lo i hi).1,Nat.le_trans (h.lo i hi).2 hh⟩,h.ord⟩
def setAt (cb:Nat→Nat) (k b:Nat) (i:Nat):Nat:=if i<k then cb i else b
theorem YJ.step {w:World} {c:Cfg} {k lo hi hi' b:Nat} {cb:Nat→Nat} (h:YJ w c k lo hi cb) (h1:Inn w (c.codeN k) b (c.nCode k) 4 (c.code k)) (h2:Inn w (c.imgN k) (b+1) (c.nImg k) 1 (c.img k)) (hb:hi≤b) (hlo:lo≤b) (hh:b+2≤hi'):YJ w c (k+1) lo hi' (setAt cb k b):=by
 have e:∀i,i<k→setAt cb k b i=cb i:=fun i hi=>by simp [setAt,hi]
 have e':setAt cb k b k=b:=by simp [setAt]
 refine ⟨fun i hi=>?_,fun i hi=>?_,fun i hi=>?_,fun i j hij hj=>?_⟩
 ·rcases Nat.lt_or_ge i k with hl|hl
  ·rw [e i hl];exact h.code i hl
  ·obtain rfl:i=k:=by omega
   rw [e'];exact h1
 ·rcases Nat.lt_or_ge i k with hl|hl
  ·rw [e i hl];exact h.img i hl
  ·obtain rfl:i=k:=by omega
   rw [e'];exact h2
 ·rcases Nat.lt_or_ge i k with hl|hl
  ·rw [e i hl];have:=h.lo i hl;omega
  ·obtain rfl:i=k:=by omega
   rw [e'];omega
 ·rcases Nat.lt_or_ge j k with hl|hl
  ·rw [e i (by omega),e j hl];exact h.ord i j hij hl
  ·obtain rfl:j=k:=by omega
   rw [e i hij,e'];have:=h.lo i hij;omega
def Yy (c:Cfg) (cb:Nat→Nat) (j:Nat):Value:=
 if j % 3=0 then Y6 (c.codeN (j / 3)) (cb (j / 3)) (c.nCode (j / 3)) else if j % 3=1 then Y6 (c.imgN (j / 3)) (cb (j / 3)+1) (c.nImg (j / 3)) else .int .i64 (c.lim (j / 3))
theorem XP (c:Cfg) (cb:Nat→Nat) (i:Nat):Yy c cb (i*3)=Y6 (c.codeN i) (cb i) (c.nCode i)∧Yy c cb (i*3+1)=Y6 (c.imgN i) (cb i+1) (c.nImg i)∧Yy c cb (i*3+2)=.int .i64 (c.lim i):=by
 have a1:i*3 % 3=0:=by omega
 have a2:i*3 / 3=i:=by omega
 have b1:(i*3+1) % 3=1:=by omega
 have b2:(i*3+1) / 3=i:=by omega
 have c1:(i*3+2) % 3=2:=by omega
 have c2:(i*3+2) / 3=i:=by omega
 exact ⟨by simp [Yy,a1,a2],by simp [Yy,b1,b2],by simp [Yy,c1,c2]⟩
def XG (c:Cfg) (cb:Nat→Nat) (k:Nat):List Value:=(List.range (k*3)).map (Yy c cb)
theorem Y8V (c:Cfg) (cb:Nat→Nat) (k b:Nat):XG c cb k++[Y6 (c.codeN k) b (c.nCode k),Y6 (c.imgN k) (b+1) (c.nImg k),.int .i64 (c.lim k)]=XG c (setAt cb k b) (k+1):=by
 unfold XG;have e:(k+1)*3=k*3+1+1+1:=by omega
 rw [e,List.range_succ,List.range_succ,List.range_succ];simp only [List.map_append,List.map_cons,List.map_nil,List.append_assoc];obtain ⟨g1,g2,g3⟩:=XP c (setAt cb k b) k;have s:setAt cb k b k=b:=by simp [setAt]
 rw [s] at g1 g2;rw [g1,g2,g3];congr 1;apply List.map_congr_left;intro j hj;have hj':j<k*3:=by simpa using hj
 have:j / 3<k:=by omega
 simp [Yy,setAt,this]
theorem Y1s {W w1:World} (hb:Below W.heap.size W w1):(∀b o,b<W.heap.size→w1.cell? ⟨b,o,none⟩=W.cell? ⟨b,o,none⟩)∧(∀b o,b<W.heap.size→w1.frozen? ⟨b,o,none⟩=W.frozen? ⟨b,o,none⟩):=
 ⟨fun b o h=>hb.cell (p:=⟨b,o,none⟩) h,fun b o h=>hb.frozen (p:=⟨b,o,none⟩) h⟩
def Yc (a b c d:Value) (j:Nat):Value:=if j=0 then a else if j=1 then b else if j=2 then c else d
theorem row4 (w:World) (a b c d:Value) (t:Nat):RowF (w.alloc (.cells #[a,b,c,d] t)) w.heap.size 4 t (Yc a b c d):=
 RowF.new w #[a,b,c,d] t _ (fun j hj=>by
  have:j=0∨j=1∨j=2∨j=3:=by simp at hj;omega
  rcases this with rfl|rfl|rfl|rfl<;>rfl)
theorem RowF.at4 {w:World} {g t:Nat} {a b c d:Value} (h:RowF w g 4 t (Yc a b c d)):w.cell? ⟨g,0,none⟩=some a∧w.cell? ⟨g,1,none⟩=some b∧w.cell? ⟨g,2,none⟩=some c∧w.cell? ⟨g,3,none⟩=some d:=
 ⟨h.cell (by omega),h.cell (by omega),h.cell (by omega),h.cell (by omega)⟩
theorem RowF.set4 {w:World} {g t:Nat} {a b c d:Value} (h:RowF w g 4 t (Yc a b c d)) (v:Value):
  RowF (w.setCell ⟨g,0,none⟩ v) g 4 t (Yc v b c d)∧RowF (w.setCell ⟨g,1,none⟩ v) g 4 t (Yc a v c d)∧RowF (w.setCell ⟨g,2,none⟩ v) g 4 t (Yc a b v d)∧RowF (w.setCell ⟨g,3,none⟩ v) g 4 t (Yc a b c v):=by
 refine ⟨(h.set 0 v).congr ?_,(h.set 1 v).congr ?_,(h.set 2 v).congr ?_,(h.set 3 v).congr ?_⟩
 all_goals
  intro j hj;have:j=0∨j=1∨j=2∨j=3:=by omega
  rcases this with rfl|rfl|rfl|rfl<;>rfl
theorem YX {P:Program} (w:World) {ops:Array Oper} {rest:List Oper} {o:Oper} {a:Act} {Q:Exit→Act→World→Prop} (hgd:o.guard=none) (s x:Operand) (t:TypeId)
  (ho:o.op=.call {callee:=.builtin .append,args:=#[s,x],argTypes:=#[t,t]})
  (base:Nat) (e:TypeId) (z:Value) (size bytes:Nat) (ht:P.underlying t=some (.slice e)) (hinfo:(P.info? e).map (fun i=>(i.zero,i.size,i.bytes))=some (some z,size,bytes))
  (hzs:z.cells.size=size) (hsz:0<size) (v:Value) (n:Nat) (xs:List Value) (hs:a.eval s=v) (hown:w.ownsRow base e size v n xs)
  (B:Nat) (news:List Value) (ty:TypeId) (hx:a.eval x=.slice (some ⟨B,0,none⟩) 1 1) (hl:news.length=size) (hrow:w.heap[B]?=some (.cells news.toArray ty (0,0))) (h1:∀u∈news,u.oneCell'=true)
  (h63:n+1≤maxLen) (hbytes:(n+1)*bytes≤140737488355328) (hbase:base≤w.heap.size)
  (h:∀g cap w',w'.ownsRow base e size (.slice (some ⟨g,0,none⟩) (n+1) cap) (n+1) (xs++news)→w.grownBy w' v.ownBlock→(v.ownBlock=some g∨g=w.heap.size)→g<w'.heap.size→wpList P ops Q rest (a.put o.dst (.slice (some ⟨g,0,none⟩) (n+1) cap)) w'):wpList P ops Q (o::rest) a w:=by
 obtain ⟨i,h2,h3,h4,h5⟩:=info_parts hinfo;exact wpList_append_lies w hgd s x t ho base e i z size bytes ht h2 h3 h4 h5 hzs hsz v n xs hs hown ⟨B,0,none⟩ 1 1 news hx (by rw [hl,Nat.one_mul]) (by
  have:=World.news_of_block hrow;simpa using this) h1 (by omega) h63 hbytes hbase _ rfl h
def cells3 (a b c:Value) (j:Nat):Value:=if j=0 then a else if j=1 then b else c
theorem row3 (w:World) (a b c:Value) (t:Nat):RowF (w.alloc (.cells #[a,b,c] t)) w.heap.size 3 t (cells3 a b c):=
 RowF.new w #[a,b,c] t _ (fun j hj=>by
  have:j=0∨j=1∨j=2:=by simp at hj;omega
  rcases this with rfl|rfl|rfl<;>rfl)
theorem RowF.at3 {w:World} {g t:Nat} {a b c:Value} (h:RowF w g 3 t (cells3 a b c)):w.cell? ⟨g,0,none⟩=some a∧w.cell? ⟨g,1,none⟩=some b∧w.cell? ⟨g,2,none⟩=some c:=
 ⟨h.cell (by omega),h.cell (by omega),h.cell (by omega)⟩
theorem RowF.set3 {w:World} {g t:Nat} {a b c:Value} (h:RowF w g 3 t (cells3 a b c)) (v:Value):
  RowF (w.setCell ⟨g,0,none⟩ v) g 3 t (cells3 v b c)∧RowF (w.setCell ⟨g,1,none⟩ v) g 3 t (cells3 a v c)∧RowF (w.setCell ⟨g,2,none⟩ v) g 3 t (cells3 a b v):=by
 refine ⟨(h.set 0 v).congr ?_,(h.set 1 v).congr ?_,(h.set 2 v).congr ?_⟩
 all_goals
  intro j hj;have:j=0∨j=1∨j=2:=by omega
  rcases this with rfl|rfl|rfl<;>rfl
theorem JY {w:World} {g t:Nat} {a b c d:Value} (h:RowF w g 4 t (Yc a b c d)):w.heap[g]?=some (.cells #[a,b,c,d] t (0,0)):=by
 obtain ⟨cs,h1,h2,h3⟩:=h;rw [h1];congr 2;apply Array.ext
 ·simp [h2]
 ·intro i hi hi';have h3':=h3 i (by omega);have:i=0∨i=1∨i=2∨i=3:=by omega
  rw [Array.getElem?_eq_getElem hi] at h3';rcases this with rfl|rfl|rfl|rfl<;>simpa [Yc] using h3'
end Go.Proofs.YtdoghgnifkgfdaaGreat
