import Derived.Test.YtdoghgnifkgfdaaGreatP03
set_option maxRecDepth 100000
set_option maxHeartbeats 4000000
namespace Go.Proofs.YtdoghgnifkgfdaaGreat
open Go.RowKit
def Jj (j:Nat):Value:=if j % 3=2 then .int .i64 0 else .slice none 0 0
theorem Y6S (j:Nat):(Value.agg #[.slice none 0 0,.slice none 0 0,.int .i64 0]).cells[j % (Value.agg #[.slice none 0 0,.slice none 0 0,.int .i64 0]).cells.size]! = Jj j:=by
 have h:(Value.agg #[.slice none 0 0,.slice none 0 0,.int .i64 0]).cells=#[.slice none 0 0,.slice none 0 0,.int .i64 0]:=rfl;rw [h];have:j % 3=0∨j % 3=1∨j % 3=2:=by omega
 unfold Jj;rcases this with e|e|e<;>simp [e]
theorem Y8H (j:Nat):(Value.slice none 0 0).cells[j % (Value.slice none 0 0).cells.size]! = Value.slice none 0 0:=by
 have h:(Value.slice none 0 0).cells=#[.slice none 0 0]:=rfl;rw [h];have:j % 1=0:=by omega
 simp [this]
def outC (n:Nat) (F:Nat→Value) (j:Nat):Value:=if j<n*3 then F j else if j % 3=2 then .int .i64 (-77) else .slice none 0 0
def outT (m:Nat) (G:Nat→Value) (j:Nat):Value:=if j<m then G j else .slice none 0 0
def ZE (n k:Nat) (F:Nat→Value) (j:Nat):Value:=if j<n*3 then F j else if j<k*3 then (if j % 3=2 then .int .i64 (-77) else .slice none 0 0) else Jj j
theorem Y94 (n k j:Nat) (F:Nat→Value) (hk:n≤k):(if j=k*3+2 then Value.int .i64 (-77) else if j=k*3+1 then .slice none 0 0 else if j=k*3 then .slice none 0 0 else ZE n k F j)=ZE n (k+1) F j:=by
 unfold ZE;repeat' split
 all_goals first
  |rfl
  |(exfalso;omega)
theorem Y8c (n m cap0 cap1:Nat) (p0 p1:Option Addr) (F G:Nat→Value) (v2 v3:Value) (w:World) (s0:Sl w p0 (n*3) F) (s1:Sl w p1 m G) (z0:p0=none→n=0) (z1:p1=none→m=0) (o0:∀j,j<n*3→(F j).oneCell'=true) (o1:∀j,j<m→(G j).oneCell'=true)
  (b0:56*n≤140737488355328) (b1:24*m≤140737488355328):
  Calls Tryz.prog 37 #[.agg #[.slice p0 n cap0,.slice p1 m cap1,v2,v3]] w fun e w'=>
   e=.returned (.tuple #[.slice (some ⟨w.heap.size+1,0,none⟩) (n+2:Nat) (n+2:Nat),.slice (some ⟨w.heap.size+1+1,0,none⟩) (m+2:Nat) (m+2:Nat)])∧w'.heap.size=w.heap.size+1+1+1∧Below w.heap.size w w'∧
   RowF w' (w.heap.size+1) ((n+2)*3) 53 (outC n F)∧RowF w' (w.heap.size+1+1) (m+2) 100 (outT m G):=by
 have hb0:n≤2513169434916:=by omega
 have hb1:m≤5864062014805:=by omega
 have S0:Hid (Sl w p0 (n*3) F):=s0;have S1:Hid (Sl w p1 m G):=s1;have Z0:Hid (p0=none→n=0):=z0;have Z1:Hid (p1=none→m=0):=z1;have O0:Hid (∀j,j<n*3→(F j).oneCell'=true):=o0;have O1:Hid (∀j,j<m→(G j).oneCell'=true):=o1;have M0:Hid (56*(n+2)≤281474976710656):=by show _≤_;omega
 have M1:Hid (24*(m+2)≤281474976710656):=by show _≤_;omega
 clear s0 s1 z0 z1 o0 o1 b0 b1
 go_enter Tryz.func37,Tryz.ntmps37
 go_wp2_with (at_make;refine ZG _ rfl _ _ 23 rfl 53 _ 3 56 Tryz.underlying23 Jt _ _ _ _ (n+2) rfl rfl (by omega) (by omega) M0.out (by simp only [maxLen];omega) Jj (fun j _=>Y6S j) ?_)
 intro w1 hrow1 hsz1 hbel1;have R0:=(row4 w (.slice p0 n cap0) (.slice p1 m cap1) v2 v3 28).below hbel1 (by simp);obtain ⟨x0,x1,-,-⟩:=R0.at4;have HB1:Hid (Below (w.heap.size+1) (w.alloc (.cells #[.slice p0 n cap0,.slice p1 m cap1,v2,v3] 28)) w1):=hbel1.mono (by simp);have HZ1:Hid (w1.heap.size=w.heap.size+1+1):=by show _=_;simpa using hsz1
 have HR1:Hid (RowF w1 (w.heap.size+1) ((n+2)*3) 53 Jj):=by show RowF _ _ _ _ _;simpa using hrow1
 clear hrow1 hsz1 hbel1 R0;go_wp2_with (refine ZW rfl _ _ _ _ rfl 53 _ 3 56 Tryz.underlying23 Jt (w.heap.size+1) (n+2) (n+2) p0 n cap0 rfl rfl ((n+2)*3) 53 Jj F (by omega) HR1.out (by omega) (S0.out.below (Yg HB1.out)) O0.out Z0.out ?_)
 intro w2 hrow2 hgr2 hsz2;have y0:=hgr2.cell x0 (by simp);have y1:=hgr2.cell x1 (by simp);have HB2:Hid (Below (w.heap.size+1) (w.alloc (.cells #[.slice p0 n cap0,.slice p1 m cap1,v2,v3] 28)) w2):=HB1.out.grown hgr2 (by have:=HZ1.out;omega) (fun k hk=>by simp at hk;omega);have HZ2:Hid (w2.heap.size=w.heap.size+1+1):=hsz2.trans HZ1.out;have HR2:Hid (RowF w2 (w.heap.size+1) ((n+2)*3) 53 (ZE n n F)):=hrow2.congr (fun j _=>by unfold ZE;by_cases h:j<n*3<;>simp [h]);clear hrow2 hgr2 hsz2 x0 x1 HB1 HZ1 HR1;go_wp2_with fail
 go_loopw [5] (fun i wr=>∃k:Nat,n≤k∧k≤n+2∧i=.int .i64 k∧Hid (wr.heap.size=w.heap.size+1+1)∧Hid (Below (w.heap.size+1) (w.alloc (.cells #[.slice p0 n cap0,.slice p1 m cap1,v2,v3] 28)) wr)∧Hid (RowF wr (w.heap.size+1) ((n+2)*3) 53 (ZE n k F)))
  (fun i _=>n+2-(intOf i).toNat)
 case atStart=>exact ⟨n,Nat.le_refl _,by omega,rfl,HZ2,HB2,HR2⟩
 case round=>
  obtain ⟨k,hk1,hk2,rfl,HZ,HB,HR⟩:=hrel;by_cases hlt:k<n+2
  ·have HP:Hid (∀j,_):=fun j=>Y94 n k j F hk1;have c0:=HR.out.cell (j:=k*3) (by omega);have c1:=HR.out.cell (j:=k*3+1) (by omega);have c2:=HR.out.cell (j:=k*3+2) (by omega);have f0:=HR.out.frozen (k*3);have f1:=HR.out.frozen (k*3+1);have f2:=HR.out.frozen (k*3+2);go_wp2
   go_roundw
   case rel=>exact ⟨k+1,by omega,by omega,by go_num,by show _=_;rw [size_setCell,size_setCell,size_setCell];exact HZ.out,((HB.out.setCell (Nat.le_refl _) _).setCell (Nat.le_refl _) _).setCell (Nat.le_refl _) _,(((HR.out.set (k*3) _).set (k*3+1) _).set (k*3+2) _).congr (fun j _=>HP.out j)⟩
   case measure=>simp [intOf];omega
  ·obtain rfl:k=n+2:=by omega
   clear hlt hk1 hk2;obtain ⟨x0,x1,-,-⟩:=box4 HB.out;have hl0:w.heap.size<wr.heap.size:=block_lt_of_cell x0;go_wp2_with (at_make;refine ZG _ rfl _ _ 24 rfl 100 _ 1 24 Tryz.underlying24 Y17 _ _ _ _ (m+2) rfl rfl (by omega) (by omega) M1.out (by simp only [maxLen];omega) (fun _=>.slice none 0 0) (fun j _=>Y8H j) ?_)
   intro w3 hrow3 hsz3 hbel3;have q1:=(hbel3.cell (p:=⟨w.heap.size,1,none⟩) hl0).trans x1;have HB3:Hid (Below (w.heap.size+1) (w.alloc (.cells #[.slice p0 n cap0,.slice p1 m cap1,v2,v3] 28)) w3):=Y0l HB.out hbel3;have HZ3:Hid (w3.heap.size=w.heap.size+1+1+1):=by show _=_;rw [hsz3,HZ.out]
   have HR3:Hid (RowF w3 wr.heap.size (m+2) 100 (fun _=>.slice none 0 0)):=by show RowF _ _ _ _ _;simpa using hrow3
   have HC3:Hid (RowF w3 (w.heap.size+1) ((n+2)*3) 53 (ZE n (n+2) F)):=HR.out.below hbel3 (by have:=HZ.out;omega);clear hrow3 hsz3 hbel3 x0 x1 HR HB;go_wp2_with (refine ZW rfl _ _ _ _ rfl 100 _ 1 24 Tryz.underlying24 Y17 wr.heap.size (m+2) (m+2) p1 m cap1 rfl rfl (m+2) 100 (fun _=>.slice none 0 0) G (by omega) HR3.out (by omega) (by rw [Nat.mul_one];exact S1.out.below (Yg HB3.out)) (by simpa using O1.out) Z1.out ?_)
   intro w4 hrow4 hgr4 hsz4;have HB4:Hid (Below w.heap.size w w4):=(Yg HB3.out).grown hgr4 (by have:=HZ3.out;omega) (fun k hk=>by simp at hk;have:=HZ.out;omega);have HC4:Hid (RowF w4 (w.heap.size+1) ((n+2)*3) 53 (ZE n (n+2) F)):=HC3.out.of_heap (hgr4.block _ (by have:=HZ3.out;omega) (by have:=HZ.out;simp;omega));have HZ4:Hid (w4.heap.size=w.heap.size+1+1+1):=hsz4.trans HZ3.out;have HR4:Hid (RowF w4 wr.heap.size (m+2) 100 (outT m G)):=hrow4.congr (fun j _=>by unfold outT;by_cases h:j<m<;>simp [h]);clear hrow4 hgr4 hsz4 q1;go_wp2_with fail
   go_ret2
   have hEq:wr.heap.size=w.heap.size+1+1:=HZ.out;rw [←hEq];exact ⟨rfl,HZ4.out.trans (by rw [hEq]),HB4.out,HC4.out.congr (fun j hj=>by unfold ZE outC;by_cases h:j<n*3<;>simp [h,hj]),HR4.out⟩
structure But2 (w w':World) (a b:Nat):Prop where
 os:w'.os=w.os
 tape:w'.tape=w.tape
 output:w'.output=w.output
 size:w.heap.size≤w'.heap.size
 block:∀k,k<w.heap.size→k≠a→k≠b→w'.heap[k]?=w.heap[k]?
theorem But2.set1 {w w':World} {a b:Nat} (h:But2 w w' a b) (j:Nat) (v:Value):But2 w (w'.setCell ⟨a,j,none⟩ v) a b:=
 ⟨h.os,h.tape,h.output,by rw [size_setCell];exact h.size,fun k h1 h2 h3=>by rw [heap_setCell_other _ _ _ _ h2];exact h.block k h1 h2 h3⟩
theorem But2.set2 {w w':World} {a b:Nat} (h:But2 w w' a b) (j:Nat) (v:Value):But2 w (w'.setCell ⟨b,j,none⟩ v) a b:=
 ⟨h.os,h.tape,h.output,by rw [size_setCell];exact h.size,fun k h1 h2 h3=>by rw [heap_setCell_other _ _ _ _ h3];exact h.block k h1 h2 h3⟩
theorem But2.drewN {w w':World} {a b:Nat} (h:But2 w w' a b) (n:Nat):But2 w (w'.drewN n) a b:=⟨h.os,h.tape,h.output,h.size,h.block⟩
theorem But2.below {w0 w w':World} {a b:Nat} (h:But2 w w' a b) (hb:Below w0.heap.size w0 w) (ha:w0.heap.size≤a) (hbb:w0.heap.size≤b):Below w0.heap.size w0 w':=
 hb.trans ⟨h.os,h.tape,h.output,h.size,fun k hk=>h.block k (Nat.lt_of_lt_of_le hk hb.size) (by omega) (by omega)⟩
def Yn (w:World) (g m t k:Nat) (f:Nat→Value):Prop:=∃f',RowF w g m t f'∧∀j,k≤j→j<m→f' j=f j
theorem Yn.of {w:World} {g m t:Nat} {f:Nat→Value} (h:RowF w g m t f) (k:Nat):Yn w g m t k f:=⟨f,h,fun _ _ _=>rfl⟩
theorem Yn.cell {w:World} {g m t k:Nat} {f:Nat→Value} (h:Yn w g m t k f) {j:Nat} (hk:k≤j) (hj:j<m):w.cell? ⟨g,j,none⟩=some (f j):=by
 obtain ⟨f',h1,h2⟩:=h;rw [h1.cell hj,h2 j hk hj]
theorem Yn.frozen {w:World} {g m t k:Nat} {f:Nat→Value} (h:Yn w g m t k f) (j:Nat):w.frozen? ⟨g,j,none⟩=false:=by
 obtain ⟨f',h1,h2⟩:=h;exact h1.frozen j
theorem Yn.set {w:World} {g m t k:Nat} {f:Nat→Value} (h:Yn w g m t k f) (j:Nat) (v:Value) (hj:j<k):Yn (w.setCell ⟨g,j,none⟩ v) g m t k f:=by
 obtain ⟨f',h1,h2⟩:=h;exact ⟨_,h1.set j v,fun i hi him=>by rw [if_neg (by omega)];exact h2 i hi him⟩
theorem Yn.mono {w:World} {g m t k k':Nat} {f:Nat→Value} (h:Yn w g m t k f) (hk:k≤k'):Yn w g m t k' f:=by
 obtain ⟨f',h1,h2⟩:=h;exact ⟨f',h1,fun i hi him=>h2 i (by omega) him⟩
theorem Yn.drewN {w:World} {g m t k:Nat} {f:Nat→Value} (h:Yn w g m t k f) (n:Nat):Yn (w.drewN n) g m t k f:=h
theorem Jn (nl:Bool) (b n:Nat) (h:nl=true→n=0):∃q cap,Y6 nl b n=.slice q n cap:=by
 cases nl
 ·exact ⟨_,_,rfl⟩
 ·obtain rfl:=h rfl;exact ⟨_,_,rfl⟩
theorem Y0X (c:Cfg) (v0 v1 v2 v3:Value) (gC gT:Nat) (cb rb:Nat→Nat) (w0 w:World) (h:CfgR w0 v0 v1 v2 v3 c) (hb:Below w0.heap.size w0 w) (h1:w0.heap.size≤gC) (h2:w0.heap.size≤gT) (hne:gC≠gT)
  (rC:RowF w gC ((c.nC+2)*3) 53 (outC c.nC (Yy c cb))) (rT:RowF w gT (c.nT+2) 100 (outT c.nT (fun i=>Y6 false (rb i) (c.nRow i)))):
  Calls Tryz.prog 39 #[.slice (some ⟨gC,0,none⟩) (c.nC+2:Nat) (c.nC+2:Nat),.slice (some ⟨gT,0,none⟩) (c.nT+2:Nat) (c.nT+2:Nat),.agg #[v0,v1,v2,v3]] w fun e w'=>e=.returned (.bool true)∧But2 w w' gC gT:=by
 obtain ⟨⟨p0,cap0,F0,rfl,-,n0,z0,b0,s0,k0⟩,⟨p1,cap1,F1,rfl,-,n1,z1,b1,s1,k1⟩,-,-⟩:=h;have S0:Hid (Sl w0 p0 (c.nC*3) F0):=s0;have K0:Hid (∀i,i<c.nC→SlZ w0 (F0 (i*3)) (c.codeN i) (c.nCode i) 4 (c.code i) 32∧SlZ w0 (F0 (i*3+1)) (c.imgN i) (c.nImg i) 1 (c.img i) 8∧F0 (i*3+2)=.int .i64 (c.lim i)):=k0;have S1:Hid (Sl w0 p1 c.nT F1):=s1;have K1:Hid (∀i,i<c.nT→SlZ w0 (F1 i) (c.rowN i) (c.nRow i) 2 (c.row i) 16):=k1;have hb0:c.nC≤2513169434916:=by omega
 have hb1:c.nT≤5864062014805:=by omega
 have hgC:=rC.lt;have hgT:=rT.lt;have HBL:Hid (Below w0.heap.size w0 w):=hb;have HRC:Hid (RowF w gC ((c.nC+2)*3) 53 (outC c.nC (Yy c cb))):=rC;have HRT:Hid (RowF w gT (c.nT+2) 100 (outT c.nT (fun i=>Y6 false (rb i) (c.nRow i)))):=rT;have HNE:Hid (gC≠gT):=hne;clear s0 k0 s1 k1 n0 z0 n1 z1 b0 b1 rC rT hb hne
 go_enter Tryz.func39,Tryz.ntmps39
 go_wp2_with fail
 have HA:Hid (∀o,Below w.heap.size w (w.alloc o)):=fun o=>(Below.refl _ _).alloc (Nat.le_refl _) _;go_loopw [7,8] (fun o i wr=>∃k:Nat,k≤c.nC+2∧i=.int .i64 k∧o=.bool true∧Hid (But2 w wr gC gT)∧Hid (RowF wr w.heap.size 4 28 (Yc (.slice p0 c.nC cap0) (.slice p1 c.nT cap1) v2 v3))∧Hid (Yn wr gC ((c.nC+2)*3) 53 (k*3) (outC c.nC (Yy c cb)))∧Hid (RowF wr gT (c.nT+2) 100 (outT c.nT (fun i=>Y6 false (rb i) (c.nRow i))))) (fun _ i _=>c.nC+2-(intOf i).toNat)
 case atStart=>exact ⟨0,Nat.zero_le _,rfl,rfl,⟨rfl,rfl,rfl,by simp,fun j hj _ _=>(HA.out _).block j hj⟩,row4 _ _ _ _ _ _,Yn.of (HRC.out.alloc _) _,HRT.out.alloc _⟩
 case round=>
  obtain ⟨k,hk,rfl,rfl,HB2,HR0,HF,HT⟩:=hrel;obtain ⟨x0,x1,-,-⟩:=HR0.out.at4;have hx:w.heap.size<wr.heap.size:=block_lt_of_cell x0;by_cases hlt:k<c.nC+2
  ·have a0:=HF.out.cell (j:=k*3) (by omega) (by omega);have a1:=HF.out.cell (j:=k*3+1) (by omega) (by omega);have a2:=HF.out.cell (j:=k*3+2) (by omega) (by omega);have f0:=HF.out.frozen (k*3);have f1:=HF.out.frozen (k*3+1);have f2:=HF.out.frozen (k*3+2);by_cases hin:k<c.nC
   ·have HBr:Hid (Below w0.heap.size w0 wr):=HB2.out.below HBL.out h1 h2;obtain ⟨b,off,rfl,hc⟩:=(S0.out.below HBr.out).at (by omega);have c0:=hc (k*3) (by omega);have c1:=hc (k*3+1) (by omega);have c2:=hc (k*3+2) (by omega);rw [←Nat.add_assoc] at c1 c2;clear hc;obtain ⟨⟨pc,capc,hF0,-,nc,zc,bc,-⟩,⟨pi,capi,hF1,-,ni,zi,bi,-⟩,hF2⟩:=K0.out k hin;rw [hF0] at c0;rw [hF1] at c1;rw [hF2] at c2;obtain ⟨e0,e1,e2⟩:=XP c cb k;obtain ⟨q0,t0,l0⟩:=Jn (c.codeN k) (cb k) (c.nCode k) (fun h=>(zc (nc.2 h)).1);obtain ⟨q1,t1,l1⟩:=Jn (c.imgN k) (cb k+1) (c.nImg k) (fun h=>(zi (ni.2 h)).1);have i0:outC c.nC (Yy c cb) (k*3)=.slice q0 (c.nCode k) t0:=by unfold outC;rw [if_pos (by omega),e0,l0]
    have i1:outC c.nC (Yy c cb) (k*3+1)=.slice q1 (c.nImg k) t1:=by unfold outC;rw [if_pos (by omega),e1,l1]
    have i2:outC c.nC (Yy c cb) (k*3+2)=.int .i64 (c.lim k):=by unfold outC;rw [if_pos (by omega),e2]
    rw [i0] at a0;rw [i1] at a1;rw [i2] at a2;have hnc:c.nCode k≤4398046511104:=by omega
    have hni:c.nImg k≤17592186044416:=by omega
    clear hF0 hF1 hF2 nc zc bc ni zi bi e0 e1 e2 l0 l1 i0 i1 i2;go_wp2_with fail
    go_quiet (fail)
    go_wp2_with fail
    exact ⟨⟨k+1,by omega,by go_num,rfl,(((HB2.out.drewN _).set1 _ _).set1 _ _).set1 _ _,(((HR0.out.drewN _).other _ _ (by simp;omega)).other _ _ (by simp;omega)).other _ _ (by simp;omega),
     (((((HF.out.drewN _).mono (by omega)).set _ _ (by omega)).set _ _ (by omega)).set _ _ (by omega):Yn _ _ _ _ ((k+1)*3) _),(((HT.out.drewN _).other _ _ (by simpa using HNE.out)).other _ _ (by simpa using HNE.out)).other _ _ (by simpa using HNE.out)⟩,by simp [intOf];omega⟩
   ·have i0:outC c.nC (Yy c cb) (k*3)=.slice none 0 0:=by unfold outC;rw [if_neg (by omega),if_neg (by omega)]
    have i1:outC c.nC (Yy c cb) (k*3+1)=.slice none 0 0:=by unfold outC;rw [if_neg (by omega),if_neg (by omega)]
    have i2:outC c.nC (Yy c cb) (k*3+2)=.int .i64 (-77):=by unfold outC;rw [if_neg (by omega),if_pos (by omega)]
    rw [i0] at a0;rw [i1] at a1;rw [i2] at a2;clear i0 i1 i2;go_wp2_with fail
    exact ⟨⟨k+1,by omega,by go_num,rfl,((HB2.out.set1 _ _).set1 _ _).set1 _ _,((HR0.out.other _ _ (by simp;omega)).other _ _ (by simp;omega)).other _ _ (by simp;omega),
     ((((HF.out.mono (by omega)).set _ _ (by omega)).set _ _ (by omega)).set _ _ (by omega):Yn _ _ _ _ ((k+1)*3) _),((HT.out.other _ _ (by simpa using HNE.out)).other _ _ (by simpa using HNE.out)).other _ _ (by simpa using HNE.out)⟩,by simp [intOf];omega⟩
  ·obtain rfl:k=c.nC+2:=by omega
   clear hlt hk;have HB20:=HB2;have HR00:=HR0;have HT0:=HT;clear HB2 HR0 HT HF x0 x1 hx;go_wp2_with fail
   go_loopw [7,9] (fun o i wr=>∃k:Nat,k≤c.nT+2∧i=.int .i64 k∧o=.bool true∧Hid (But2 w wr gC gT)∧Hid (RowF wr w.heap.size 4 28 (Yc (.slice p0 c.nC cap0) (.slice p1 c.nT cap1) v2 v3))∧Hid (Yn wr gT (c.nT+2) 100 k (outT c.nT (fun i=>Y6 false (rb i) (c.nRow i))))) (fun _ i _=>c.nT+2-(intOf i).toNat)
   case atStart=>exact ⟨0,Nat.zero_le _,rfl,rfl,HB20,HR00,Yn.of HT0.out _⟩
   case round=>
    obtain ⟨k,hk,rfl,rfl,HB2,HR0,HF⟩:=hrel;obtain ⟨x0,x1,-,-⟩:=HR0.out.at4;have hx:w.heap.size<wr.heap.size:=block_lt_of_cell x0;by_cases hlt:k<c.nT+2
    ·have a0:=HF.out.cell (j:=k) (by omega) (by omega);have f0:=HF.out.frozen k;by_cases hin:k<c.nT
     ·have HBr:Hid (Below w0.heap.size w0 wr):=HB2.out.below HBL.out h1 h2;obtain ⟨b,off,rfl,hc⟩:=(S1.out.below HBr.out).at (by omega);have c0:=hc k (by omega);clear hc;obtain ⟨pr,capr,hF0,-,-,-,br,-⟩:=K1.out k hin;rw [hF0] at c0;have i0:outT c.nT (fun i=>Y6 false (rb i) (c.nRow i)) k=.slice (some ⟨rb k,0,none⟩) (c.nRow k) (c.nRow k+2):=by unfold outT;rw [if_pos hin];rfl
      rw [i0] at a0;have hnr:c.nRow k≤8796093022208:=by omega
      clear hF0 br i0;go_wp2_with fail
      go_quiet (fail)
      go_wp2_with fail
      exact ⟨⟨k+1,by omega,by go_num,rfl,(HB2.out.drewN _).set2 _ _,(HR0.out.drewN _).other _ _ (by simp;omega),(((HF.out.drewN _).mono (by omega)).set _ _ (by omega):Yn _ _ _ _ (k+1) _)⟩,by simp [intOf];omega⟩
     ·have i0:outT c.nT (fun i=>Y6 false (rb i) (c.nRow i)) k=.slice none 0 0:=by unfold outT;rw [if_neg hin]
      rw [i0] at a0;clear i0;go_wp2_with fail
      exact ⟨⟨k+1,by omega,by go_num,rfl,HB2.out.set2 _ _,HR0.out.other _ _ (by simp;omega),((HF.out.mono (by omega)).set _ _ (by omega):Yn _ _ _ _ (k+1) _)⟩,by simp [intOf];omega⟩
    ·obtain rfl:k=c.nT+2:=by omega
     go_wp2_with fail
     go_ret;exact ⟨rfl,HB2.out⟩
end Go.Proofs.YtdoghgnifkgfdaaGreat
