import Derived.Test.YtdoghgnifkgfdaaGreatP06
import Derived.Test.YtdoghgnifkgfdaaGreatP08
import Derived.Test.YtdoghgnifkgfdaaGreatP09
import Derived.Test.YtdoghgnifkgfdaaGreatP10
set_option maxRecDepth 100000
set_option maxHeartbeats 4000000
namespace Go.Proofs.YtdoghgnifkgfdaaGreat
open Go.RowKit Go.Maps
def cells5 (a b c d e:Value) (j:Nat):Value:=if j=0 then a else if j=1 then b else if j=2 then c else if j=3 then d else e
def RZ (bw:Nat) (ks rs:Value) (j:Nat):Prop:=j=bw∨ks.ownBlock=some j∨rs.ownBlock=some j
theorem Y9G:(Tryz.prog.info? 43).map (fun i=>(i.zero,i.size,i.bytes))=some (some (.pointer none),1,8):=by kernel_rfl
theorem Y51:(Tryz.prog.info? 83).map (fun i=>(i.zero,i.size,i.bytes))=some (some (.pointer none),1,8):=by kernel_rfl
theorem Y5t : (Tryz.f36.name == "runtime.NumGoroutine") = false := by kernel_rfl
theorem Y4K:Tryz.f36.body.isNone=false:=by kernel_rfl
theorem Y6e : (Tryz.f42.name == "runtime.NumGoroutine") = false := by kernel_rfl
theorem Y7U:Tryz.f42.body.isNone=false:=by kernel_rfl
theorem Y7x (c:Cfg) (cb:Nat→Nat) (j:Nat):(Yy c cb j).oneCell'=true:=by
 unfold Yy Y6;repeat' split
 all_goals rfl
theorem Y6g (nl:Bool) (b n:Nat):(Y6 nl b n).oneCell'=true:=by
 unfold Y6;split<;>rfl
theorem JU {w:World} {nl:Bool} {b n k bn:Nat} {z:Nat→Int} (h:Inn w nl b n k z) (hz:nl=true→n=0) (hb:bn*n≤140737488355328):SlZ w (Y6 nl b n) nl n k z bn:=by
 cases nl
 ·obtain ⟨ty,hr⟩:=h rfl;exact ⟨some ⟨b,0,none⟩,n+2,rfl,by omega,by simp,by simp,hb,(hr.sl_le (Nat.mul_le_mul_right _ (by omega))).congr (fun j hj=>by simp [padZ,hj])⟩
 ·obtain rfl:=hz rfl;exact ⟨none,0,rfl,by omega,by simp,by simp,hb,.inl (by simp)⟩
def X6 (c:Cfg):Cfg:={c with rowN:=fun _=>false}
theorem Inn.below {w w':World} {nl:Bool} {b n k:Nat} {z:Nat→Int} (h:Inn w nl b n k z) (hb:Below w.heap.size w w'):Inn w' nl b n k z:=fun hn=>by
 obtain ⟨ty,hr⟩:=h hn;exact ⟨ty,hr.below hb hr.lt⟩
theorem YJ.below {w w':World} {c:Cfg} {k lo hi:Nat} {cb:Nat→Nat} (h:YJ w c k lo hi cb) (hb:Below w.heap.size w w'):YJ w' c k lo hi cb:=
 ⟨fun i hi=>(h.code i hi).below hb,fun i hi=>(h.img i hi).below hb,h.lo,h.ord⟩
theorem X5.below {w w':World} {c:Cfg} {B:Nat} {v0 v1 v2 v3:Value} (h:X5 w c B v0 v1 v2 v3) (hb:Below w.heap.size w w'):X5 w' c B v0 v1 v2 v3:=by
 obtain ⟨cb,rb,hbl,dbl,q0,cq0,q1,cq1,hi,hi2,e0,l0,z0,s0,e1,l1,z1,s1,e2,e3,hin,hB1,hB2,hrow,hord,hch,hdv,hh⟩:=h.ex;exact ⟨⟨cb,rb,hbl,dbl,q0,cq0,q1,cq1,hi,hi2,e0,l0,z0,s0.below hb,e1,l1,z1,s1.below hb,e2,e3,hin.below hb,hB1,hB2,fun i hi=>⟨(hrow i hi).1.below hb,(hrow i hi).2⟩,hord,hch.below hb,hdv.below hb,hh⟩,h.lo0,h.lo1⟩
theorem Y0T {c:Cfg} {w0 w:World} {B hi hi2 gC gT hbl dbl:Nat} {cb rb:Nat→Nat} {v0 v1 v2 v3 i0 i1:Value} (h:CfgR w0 v0 v1 v2 v3 c) (hin:YJ w c c.nC B hi cb) (hrow:∀i,i<c.nT→Inn w false (rb i) (c.nRow i) 2 (c.row i)∧hi≤rb i∧rb i<hi2)
  (hch:Inn w c.chN hbl c.nCh 3 c.ch) (hdv:Inn w c.dvN dbl c.nD 1 c.dv) (rC:RowF w gC ((c.nC+2)*3) 53 (outC c.nC (Yy c cb))) (rT:RowF w gT (c.nT+2) 100 (outT c.nT (fun i=>Y6 false (rb i) (c.nRow i))))
  (e0:i0=if c.cellsN then .slice none 0 0 else .slice (some ⟨gC,0,none⟩) c.nC (c.nC+2)) (e1:i1=if c.tableN then .slice none 0 0 else .slice (some ⟨gT,0,none⟩) c.nT (c.nT+2)):
  CfgR w i0 i1 (Y6 c.chN hbl c.nCh) (Y6 c.dvN dbl c.nD) (X6 c):=by
 obtain ⟨⟨p0,cap0,F0,rfl,-,n0,z0,b0,-,k0⟩,⟨p1,cap1,F1,rfl,-,n1,z1,b1,-,k1⟩,⟨p2,cap2,rfl,-,n2,z2,b2,-⟩,⟨p3,cap3,rfl,-,n3,z3,b3,-⟩⟩:=h;refine ⟨?_,?_,JU hch (fun h=>(z2 (n2.2 h)).1) b2,JU hdv (fun h=>(z3 (n3.2 h)).1) b3⟩
 ·have inner:∀i,i<c.nC→SlZ w (Yy c cb (i*3)) (c.codeN i) (c.nCode i) 4 (c.code i) 32∧SlZ w (Yy c cb (i*3+1)) (c.imgN i) (c.nImg i) 1 (c.img i) 8∧Yy c cb (i*3+2)=.int .i64 (c.lim i):=fun i hi=>by
   obtain ⟨a1,a2,a3⟩:=XP c cb i;obtain ⟨⟨pc,capc,_,-,nc,zc,bc,-⟩,⟨pi,capi,_,-,ni,zi,bi,-⟩,-⟩:=k0 i hi;rw [a1,a2,a3];exact ⟨JU (hin.code i hi) (fun h=>(zc (nc.2 h)).1) bc,JU (hin.img i hi) (fun h=>(zi (ni.2 h)).1) bi,rfl⟩
  cases hN:c.cellsN
  ·rw [hN] at e0;refine ⟨some ⟨gC,0,none⟩,c.nC+2,Yy c cb,e0,by show c.nC≤_;omega,by simp [X6,hN],by simp,b0,(rC.sl_le (by show c.nC*3≤_;omega)).congr (fun j hj=>?_),inner⟩;exact if_pos hj
  ·rw [hN] at e0;have hz:=z0 (n0.2 hN);refine ⟨none,0,Yy c cb,by rw [e0];show _=Value.slice none c.nC 0;rw [hz.1];rfl,by show c.nC≤_;omega,by simp [X6,hN],fun _=>⟨hz.1,rfl⟩,b0,.inl (by show c.nC*3=0;omega),inner⟩
 ·have inner:∀i,i<c.nT→SlZ w (Y6 false (rb i) (c.nRow i)) false (c.nRow i) 2 (c.row i) 16:=fun i hi=>by
   obtain ⟨pr,capr,_,-,nr,zr,br,-⟩:=k1 i hi;exact JU (hrow i hi).1 (fun h=>by cases h) br
  cases hN:c.tableN
  ·rw [hN] at e1;refine ⟨some ⟨gT,0,none⟩,c.nT+2,fun i=>Y6 false (rb i) (c.nRow i),e1,by show c.nT≤_;omega,by simp [X6,hN],by simp,b1,(rT.sl_le (by show c.nT≤_;omega)).congr (fun j hj=>?_),inner⟩;exact if_pos hj
  ·rw [hN] at e1;have hz:=z1 (n1.2 hN);refine ⟨none,0,fun i=>Y6 false (rb i) (c.nRow i),by rw [e1];show _=Value.slice none c.nT 0;rw [hz.1];rfl,by show c.nT≤_;omega,by simp [X6,hN],fun _=>⟨hz.1,rfl⟩,b1,.inl (by show c.nT=0;omega),inner⟩
theorem Zg:(Tryz.prog.info? 111).map (fun i=>(i.zero,i.size,i.bytes))=some (some (.agg #[.int .i64 0,.int .i64 0,.int .i64 0]),3,24):=by kernel_rfl
def Jf (w:World) (t k n:Nat) (f:Nat→Value) (e:Ending) (w':World):Prop:=
 ∃v,e=.returned v∧Below w.heap.size w w'∧w'.ownsRow w.heap.size t k v n ((List.range (n*k)).map f)
theorem Y5A (p:Option Addr) (n cap:Nat) (z:Nat→Int) (w:World) (hs:Sl w p (n*3) (fun j=>.int .i64 (z j))) (hz:p=none→n=0∧cap=0) (hb:24*n≤140737488355328):
  Calls Tryz.prog 60 #[.slice p n cap] w (Jf w 111 3 n (fun j=>.int .i64 (z j))):=by
 cases p with
 |none=>
  obtain ⟨rfl,rfl⟩:=hz rfl;have heq:=fun W a n c=>Go.Lib.run_eql_slice_nil (P:=Tryz.prog) W 61 111 a n c 0 0 Tryz.underlying61
  go_enter Tryz.func60,Tryz.ntmps60
  go_wp2_with fail
  go_ret;exact ⟨_,rfl,Below.refl _ _,by simpa using World.ownsRow_nil _ _ _ _⟩
 |some ad=>
  by_cases h0:n=0
  ·subst h0;have heq:=fun W a n c=>Go.Lib.run_eql_slice_nil (P:=Tryz.prog) W 61 111 a n c 0 0 Tryz.underlying61
   go_enter Tryz.func60,Tryz.ntmps60
   go_wp2_with fail
   go_ret;exact ⟨_,rfl,(Below.refl _ _).alloc (Nat.le_refl _) _,by simpa using ZO w 111 3⟩
  ·obtain ⟨b,o,e,hc⟩:=hs.at (by omega);obtain rfl:ad=⟨b,o,none⟩:=Option.some.inj e;have heq:=fun W a n c=>Go.Lib.run_eql_slice_nil (P:=Tryz.prog) W 61 111 a n c 0 0 Tryz.underlying61;have HC:Hid (∀j,j<n*3→w.cell? ⟨b,o+j,none⟩=some (.int .i64 (z j))):=hc;have HBn:Hid (24*n≤140737488355328):=hb;have HH:Hid (b<w.heap.size):=block_lt_of_cell (hc 0 (by omega));have hn0:0<n:=by omega
   clear hc hs hz e h0 hb
   go_enter Tryz.func60,Tryz.ntmps60
   go_wp2_with (at_builtin;refine Y0d _ rfl _ _ 61 rfl w.heap.size 111 _ 3 24 Tryz.underlying61 Zg rfl (by omega) (.slice (some ⟨w.heap.size,0,none⟩) 0 0) 0 [] rfl (by exact ZO w 111 3) b o n cap (fun j=>.int .i64 (z j)) rfl (fun j hj=>by
    refine (Below.cell ((Below.refl _ w).alloc (Nat.le_refl _) _) HH.out).trans (HC.out j hj)) (fun j=>rfl) hn0 (by simp only [maxLen];have:=HBn.out;omega) (by have:=HBn.out;omega) (by simp) ?_)
   intro g cc w1 hown hg hat hlt;have HF:Hid (Jf w 111 3 n (fun j=>.int .i64 (z j)) (.returned (.slice (some ⟨g,0,none⟩) n cc)) w1):=
    ⟨_,rfl,((Below.refl _ w).alloc (Nat.le_refl _) _).grown hg (by simp) (fun j hj=>by simp [Value.ownBlock] at hj;omega),by simpa using hown⟩
   clear hown hg hat hlt;go_wp2_with fail
   go_ret;simpa using HF.out
theorem YaJ (p:Option Addr) (n cap:Nat) (z:Nat→Int) (w:World) (hs:Sl w p (n*1) (fun j=>.int .i64 (z j))) (hz:p=none→n=0∧cap=0) (hb:8*n≤140737488355328):
  Calls Tryz.prog 85 #[.slice p n cap] w (Jf w 2 1 n (fun j=>.int .i64 (z j))):=by
 cases p with
 |none=>
  obtain ⟨rfl,rfl⟩:=hz rfl;have heq:=fun W a n c=>Go.Lib.run_eql_slice_nil (P:=Tryz.prog) W 51 2 a n c 0 0 Tryz.underlying51
  go_enter Tryz.func85,Tryz.ntmps85
  go_wp2_with fail
  go_ret;exact ⟨_,rfl,Below.refl _ _,by simpa using World.ownsRow_nil _ _ _ _⟩
 |some ad=>
  by_cases h0:n=0
  ·subst h0;have heq:=fun W a n c=>Go.Lib.run_eql_slice_nil (P:=Tryz.prog) W 51 2 a n c 0 0 Tryz.underlying51
   go_enter Tryz.func85,Tryz.ntmps85
   go_wp2_with fail
   go_ret;exact ⟨_,rfl,(Below.refl _ _).alloc (Nat.le_refl _) _,by simpa using ZO w 2 1⟩
  ·obtain ⟨b,o,e,hc⟩:=hs.at (by omega);obtain rfl:ad=⟨b,o,none⟩:=Option.some.inj e;have heq:=fun W a n c=>Go.Lib.run_eql_slice_nil (P:=Tryz.prog) W 51 2 a n c 0 0 Tryz.underlying51;have HC:Hid (∀j,j<n*1→w.cell? ⟨b,o+j,none⟩=some (.int .i64 (z j))):=hc;have HBn:Hid (8*n≤140737488355328):=hb;have HH:Hid (b<w.heap.size):=block_lt_of_cell (hc 0 (by omega));have hn0:0<n:=by omega
   clear hc hs hz e h0 hb
   go_enter Tryz.func85,Tryz.ntmps85
   go_wp2_with (at_builtin;refine Y0d _ rfl _ _ 51 rfl w.heap.size 2 _ 1 8 Tryz.underlying51 ZX rfl (by omega) (.slice (some ⟨w.heap.size,0,none⟩) 0 0) 0 [] rfl (by exact ZO w 2 1) b o n cap (fun j=>.int .i64 (z j)) rfl (fun j hj=>by
    refine (Below.cell ((Below.refl _ w).alloc (Nat.le_refl _) _) HH.out).trans (HC.out j hj)) (fun j=>rfl) hn0 (by simp only [maxLen];have:=HBn.out;omega) (by have:=HBn.out;omega) (by simp) ?_)
   intro g cc w1 hown hg hat hlt;have HF:Hid (Jf w 2 1 n (fun j=>.int .i64 (z j)) (.returned (.slice (some ⟨g,0,none⟩) n cc)) w1):=
    ⟨_,rfl,((Below.refl _ w).alloc (Nat.le_refl _) _).grown hg (by simp) (fun j hj=>by simp [Value.ownBlock] at hj;omega),by simpa using hown⟩
   clear hown hg hat hlt;go_wp2_with fail
   go_ret;simpa using HF.out
theorem Ybh (p:Option Addr) (n cap:Nat) (z:Nat→Int) (w:World) (hs:Sl w p (n*4) (fun j=>.int .i64 (z j))) (hz:p=none→n=0∧cap=0) (hb:32*n≤140737488355328):
  Calls Tryz.prog 79 #[.slice p n cap] w (Jf w 97 4 n (fun j=>.int .i64 (z j))):=by
 cases p with
 |none=>
  obtain ⟨rfl,rfl⟩:=hz rfl;have heq:=fun W a n c=>Go.Lib.run_eql_slice_nil (P:=Tryz.prog) W 50 97 a n c 0 0 Tryz.underlying50
  go_enter Tryz.func79,Tryz.ntmps79
  go_wp2_with fail
  go_ret;exact ⟨_,rfl,Below.refl _ _,by simpa using World.ownsRow_nil _ _ _ _⟩
 |some ad=>
  by_cases h0:n=0
  ·subst h0;have heq:=fun W a n c=>Go.Lib.run_eql_slice_nil (P:=Tryz.prog) W 50 97 a n c 0 0 Tryz.underlying50
   go_enter Tryz.func79,Tryz.ntmps79
   go_wp2_with fail
   go_ret;exact ⟨_,rfl,(Below.refl _ _).alloc (Nat.le_refl _) _,by simpa using ZO w 97 4⟩
  ·obtain ⟨b,o,e,hc⟩:=hs.at (by omega);obtain rfl:ad=⟨b,o,none⟩:=Option.some.inj e;have heq:=fun W a n c=>Go.Lib.run_eql_slice_nil (P:=Tryz.prog) W 50 97 a n c 0 0 Tryz.underlying50;have HC:Hid (∀j,j<n*4→w.cell? ⟨b,o+j,none⟩=some (.int .i64 (z j))):=hc;have HBn:Hid (32*n≤140737488355328):=hb;have HH:Hid (b<w.heap.size):=block_lt_of_cell (hc 0 (by omega));have hn0:0<n:=by omega
   clear hc hs hz e h0 hb
   go_enter Tryz.func79,Tryz.ntmps79
   go_wp2_with (at_builtin;refine Y0d _ rfl _ _ 50 rfl w.heap.size 97 _ 4 32 Tryz.underlying50 Y1R rfl (by omega) (.slice (some ⟨w.heap.size,0,none⟩) 0 0) 0 [] rfl (by exact ZO w 97 4) b o n cap (fun j=>.int .i64 (z j)) rfl (fun j hj=>by
    refine (Below.cell ((Below.refl _ w).alloc (Nat.le_refl _) _) HH.out).trans (HC.out j hj)) (fun j=>rfl) hn0 (by simp only [maxLen];have:=HBn.out;omega) (by have:=HBn.out;omega) (by simp) ?_)
   intro g cc w1 hown hg hat hlt;have HF:Hid (Jf w 97 4 n (fun j=>.int .i64 (z j)) (.returned (.slice (some ⟨g,0,none⟩) n cc)) w1):=
    ⟨_,rfl,((Below.refl _ w).alloc (Nat.le_refl _) _).grown hg (by simp) (fun j hj=>by simp [Value.ownBlock] at hj;omega),by simpa using hown⟩
   clear hown hg hat hlt;go_wp2_with fail
   go_ret;simpa using HF.out
theorem Ybk (ad:Addr) (n cap:Nat) (z:Nat→Int) (w:World) (hs:Sl w (some ad) (n*2) (fun j=>.int .i64 (z j))) (hb:16*n≤140737488355328):
  Calls Tryz.prog 52 #[.slice (some ad) n cap] w fun e w'=>∃g cc,e=.returned (.slice (some ⟨g,0,none⟩) n cc)∧Below w.heap.size w w'∧w'.ownsRow w.heap.size 102 2 (.slice (some ⟨g,0,none⟩) n cc) n ((List.range (n*2)).map fun j=>.int .i64 (z j)):=by
 by_cases h0:n=0
 ·subst h0;have heq:=fun W a n c=>Go.Lib.run_eql_slice_nil (P:=Tryz.prog) W 100 102 a n c 0 0 Tryz.underlying100
  go_enter Tryz.func52,Tryz.ntmps52
  go_wp2_with fail
  go_ret;exact ⟨_,_,rfl,(Below.refl _ _).alloc (Nat.le_refl _) _,by simpa using ZO w 102 2⟩
 ·obtain ⟨b,o,e,hc⟩:=hs.at (by omega);obtain rfl:ad=⟨b,o,none⟩:=Option.some.inj e;have heq:=fun W a n c=>Go.Lib.run_eql_slice_nil (P:=Tryz.prog) W 100 102 a n c 0 0 Tryz.underlying100;have HC:Hid (∀j,j<n*2→w.cell? ⟨b,o+j,none⟩=some (.int .i64 (z j))):=hc;have HBn:Hid (16*n≤140737488355328):=hb;have HH:Hid (b<w.heap.size):=block_lt_of_cell (hc 0 (by omega));have hn0:0<n:=by omega
  clear hc hs e h0 hb
  go_enter Tryz.func52,Tryz.ntmps52
  go_wp2_with (at_builtin;refine Y0d _ rfl _ _ 100 rfl w.heap.size 102 _ 2 16 Tryz.underlying100 Y1U rfl (by omega) (.slice (some ⟨w.heap.size,0,none⟩) 0 0) 0 [] rfl (by exact ZO w 102 2) b o n cap (fun j=>.int .i64 (z j)) rfl (fun j hj=>by
   refine (Below.cell ((Below.refl _ w).alloc (Nat.le_refl _) _) HH.out).trans (HC.out j hj)) (fun j=>rfl) hn0 (by simp only [maxLen];have:=HBn.out;omega) (by have:=HBn.out;omega) (by simp) ?_)
  intro g cc w1 hown hg hat hlt;have HF:Hid (Below w.heap.size w w1∧w1.ownsRow w.heap.size 102 2 (.slice (some ⟨g,0,none⟩) n cc) n ((List.range (n*2)).map fun j=>.int .i64 (z j))):=⟨((Below.refl _ w).alloc (Nat.le_refl _) _).grown hg (by simp) (fun j hj=>by simp [Value.ownBlock] at hj;omega),by simpa using hown⟩;clear hown hg hat hlt;go_wp2_with fail
  go_ret;exact ⟨g,cc,by simp,HF.out.1,HF.out.2⟩
def Y0U (w:World) (num:Int) (np:Option Addr) (lim:Int) (m0 m1:Nat) (z0 z1:Nat→Int) (kb:Nat) (w':World):Prop:=
 ∃cv,w.heap.size≤kb∧RowF w' kb 48 186 (cellV num (.pointer np) cv (newZ lim m1 z1))∧w'.ownsRow w.heap.size 97 4 cv m0 ((List.range (m0*4)).map fun j=>.int .i64 (z0 j))
theorem Y1S {w:World} {b b' e size n:Nat} {v:Value} {xs:List Value} (h:w.ownsRow b e size v n xs) (hb:b'≤b):w.ownsRow b' e size v n xs:=by
 rcases h with ⟨hl,h|⟨g,cap,cur,hv,hg,h1⟩⟩
 ·exact ⟨hl,.inl h⟩
 ·exact ⟨hl,.inr ⟨g,cap,cur,hv,Nat.le_trans hb hg,h1⟩⟩
theorem Y9i (num:Int) (np:Option Addr) (v0 v1:Value) (n0 n1:Bool) (m0 m1:Nat) (z0 z1:Nat→Int) (lim:Int) (w:World) (h0:SlZ w v0 n0 m0 4 z0 32) (h1:SlZ w v1 n1 m1 1 z1 8) (h16:m1≤16):
  Calls Tryz.prog 53 #[.int .i64 num,.agg #[v0,v1,.int .i64 lim],.pointer np] w fun e w'=>∃kb,e=.returned (.pointer (some ⟨kb,0,none⟩))∧Below w.heap.size w w'∧Y0U w num np lim m0 m1 z0 z1 kb w':=by
 obtain ⟨p0,cap0,rfl,-,-,y0,b0,s0⟩:=h0;obtain ⟨p1,cap1,rfl,-,-,y1,b1,s1⟩:=h1;have HB:Hid (∀o,Below w.heap.size w (w.alloc o)):=fun o=>(Below.refl _ _).alloc (Nat.le_refl _) _;have HX:Hid (RowF (w.alloc (.cells #[.slice p0 m0 cap0,.slice p1 m1 cap1,.int .i64 lim] 53)) w.heap.size 3 53 (cells3 (.slice p0 m0 cap0) (.slice p1 m1 cap1) (.int .i64 lim))):=row3 w _ _ _ _;have S0:Hid (Sl w p0 (m0*4) (fun j=>.int .i64 (z0 j))):=s0;have S1:Hid (Sl w p1 (m1*1) (fun j=>.int .i64 (z1 j))):=s1;have Y0:Hid (p0=none→m0=0∧cap0=0):=y0;have B0:Hid (32*m0≤140737488355328):=b0;clear s0 s1 y0 b0
 go_enter Tryz.func53,Tryz.ntmps53
 go_wp2_with fail
 go_region_law
  (first
   |(refine Y0V rfl 79 _ _ rfl _ rfl Tryz.f79 Tryz.func79 Y9I YaD (fun r w'=>∃q cc,r=.slice q m0 cc∧Below (w.heap.size+1) (w.alloc (.cells #[.slice p0 m0 cap0,.slice p1 m1 cap1,.int .i64 lim] 53)) w'∧w'.ownsRow w.heap.size 97 4 (.slice q m0 cc) m0 ((List.range (m0*4)).map fun j=>.int .i64 (z0 j))) ?_ ?_
     ·refine (Ybh p0 m0 cap0 z0 (w.alloc (.cells #[.slice p0 m0 cap0,.slice p1 m1 cap1,.int .i64 lim] 53)).drew (S0.out.below (HB.out _).drew) Y0.out B0.out).mono ?_;rintro e w' ⟨v,h1,h2,h3⟩;obtain ⟨q,cc,rfl,-⟩:=Zk h3;exact ⟨_,h1,q,cc,rfl,⟨h2.os,h2.tape,h2.output,by simpa using h2.size,fun j hj=>h2.block j (by simpa using hj)⟩,Y1S h3 (by simp)⟩
     rintro r wl ⟨q,cc,rfl,hbl,hql⟩;have HBl:Hid (Below (w.heap.size+1) (w.alloc (.cells #[.slice p0 m0 cap0,.slice p1 m1 cap1,.int .i64 lim] 53)) wl):=hbl;have HQl:Hid (wl.ownsRow w.heap.size 97 4 (.slice q m0 cc) m0 ((List.range (m0*4)).map fun j=>.int .i64 (z0 j))):=hql;obtain ⟨j0,j1,j2⟩:=(HX.out.below HBl.out (by omega)).at3;clear hbl hql))
 all_goals
  have HC:Hid (RowF (wl.alloc (.cells (List.toArray (.int .i64 num::.pointer np::.slice q m0 cc::.int .i64 lim::.int .i64 0::.int .i64 0::.int .i64 0::.int .i64 0::.int .i64 0::.int .i64 0::.int .i64 0::.int .i64 0::.int .i64 0::.int .i64 0::.int .i64 0::.int .i64 0::.int .i64 0::.int .i64 0::.int .i64 0::.int .i64 0::.int .i64 0::.int .i64 0::.int .i64 0::.int .i64 0::.int .i64 0::.int .i64 0::.int .i64 0::.int .i64 0::.int .i64 0::.int .i64 0::.int .i64 0::.int .i64 0::.int .i64 0::.int .i64 0::.int .i64 0::.int .i64 0::.int .i64 0::.int .i64 0::.int .i64 0::.int .i64 0::.int .i64 0::.int .i64 0::.int .i64 0::.int .i64 0::.int .i64 0::.int .i64 0::.int .i64 0::.int .i64 0::[])) 186)) wl.heap.size 48 186 (fun j=>if j=0 then .int .i64 num else if j=1 then .pointer np else if j=2 then .slice q m0 cc else .int .i64 (if j=3 then lim else 0))):=(Y52 wl _ _ _ _ _).congr fun j _=>by
   by_cases h0:j=0
   ·simp [h0]
   ·by_cases h1:j=1
    ·simp [h1]
    ·by_cases h2:j=2
     ·simp [h2]
     ·by_cases h3:j=3
      ·simp [h3]
      ·simp [h0,h1,h2,h3]
  have HBw:Hid (Below w.heap.size w (wl.alloc (.cells (List.toArray (.int .i64 num::.pointer np::.slice q m0 cc::.int .i64 lim::.int .i64 0::.int .i64 0::.int .i64 0::.int .i64 0::.int .i64 0::.int .i64 0::.int .i64 0::.int .i64 0::.int .i64 0::.int .i64 0::.int .i64 0::.int .i64 0::.int .i64 0::.int .i64 0::.int .i64 0::.int .i64 0::.int .i64 0::.int .i64 0::.int .i64 0::.int .i64 0::.int .i64 0::.int .i64 0::.int .i64 0::.int .i64 0::.int .i64 0::.int .i64 0::.int .i64 0::.int .i64 0::.int .i64 0::.int .i64 0::.int .i64 0::.int .i64 0::.int .i64 0::.int .i64 0::.int .i64 0::.int .i64 0::.int .i64 0::.int .i64 0::.int .i64 0::.int .i64 0::.int .i64 0::.int .i64 0::.int .i64 0::.int .i64 0::[])) 186))):=(((HB.out _).trans (HBl.out.mono (by omega))).alloc (by have:=HBl.out.size;simp at this;omega) _);have HBq:Hid (Below wl.heap.size wl (wl.alloc (.cells (List.toArray (.int .i64 num::.pointer np::.slice q m0 cc::.int .i64 lim::.int .i64 0::.int .i64 0::.int .i64 0::.int .i64 0::.int .i64 0::.int .i64 0::.int .i64 0::.int .i64 0::.int .i64 0::.int .i64 0::.int .i64 0::.int .i64 0::.int .i64 0::.int .i64 0::.int .i64 0::.int .i64 0::.int .i64 0::.int .i64 0::.int .i64 0::.int .i64 0::.int .i64 0::.int .i64 0::.int .i64 0::.int .i64 0::.int .i64 0::.int .i64 0::.int .i64 0::.int .i64 0::.int .i64 0::.int .i64 0::.int .i64 0::.int .i64 0::.int .i64 0::.int .i64 0::.int .i64 0::.int .i64 0::.int .i64 0::.int .i64 0::.int .i64 0::.int .i64 0::.int .i64 0::.int .i64 0::.int .i64 0::.int .i64 0::[])) 186))):=(Below.refl _ _).alloc (Nat.le_refl _) _;have hwl:w.heap.size<wl.heap.size:=by have:=HBl.out.size;simp at this;omega
  have hk1:(wl.alloc (.cells (List.toArray (.int .i64 num::.pointer np::.slice q m0 cc::.int .i64 lim::.int .i64 0::.int .i64 0::.int .i64 0::.int .i64 0::.int .i64 0::.int .i64 0::.int .i64 0::.int .i64 0::.int .i64 0::.int .i64 0::.int .i64 0::.int .i64 0::.int .i64 0::.int .i64 0::.int .i64 0::.int .i64 0::.int .i64 0::.int .i64 0::.int .i64 0::.int .i64 0::.int .i64 0::.int .i64 0::.int .i64 0::.int .i64 0::.int .i64 0::.int .i64 0::.int .i64 0::.int .i64 0::.int .i64 0::.int .i64 0::.int .i64 0::.int .i64 0::.int .i64 0::.int .i64 0::.int .i64 0::.int .i64 0::.int .i64 0::.int .i64 0::.int .i64 0::.int .i64 0::.int .i64 0::.int .i64 0::.int .i64 0::.int .i64 0::[])) 186)).cell? ⟨w.heap.size,1,none⟩=some (.slice p1 m1 cap1):=(((Below.refl _ wl).alloc (Nat.le_refl _) _).cell (p:=⟨w.heap.size,1,none⟩) hwl).trans j1;have hZ:(wl.alloc (.cells (List.toArray (.int .i64 num::.pointer np::.slice q m0 cc::.int .i64 lim::.int .i64 0::.int .i64 0::.int .i64 0::.int .i64 0::.int .i64 0::.int .i64 0::.int .i64 0::.int .i64 0::.int .i64 0::.int .i64 0::.int .i64 0::.int .i64 0::.int .i64 0::.int .i64 0::.int .i64 0::.int .i64 0::.int .i64 0::.int .i64 0::.int .i64 0::.int .i64 0::.int .i64 0::.int .i64 0::.int .i64 0::.int .i64 0::.int .i64 0::.int .i64 0::.int .i64 0::.int .i64 0::.int .i64 0::.int .i64 0::.int .i64 0::.int .i64 0::.int .i64 0::.int .i64 0::.int .i64 0::.int .i64 0::.int .i64 0::.int .i64 0::.int .i64 0::.int .i64 0::.int .i64 0::.int .i64 0::.int .i64 0::.int .i64 0::[])) 186)).heap.size=wl.heap.size+1:=by simp
  clear HBl j0 j1 j2 HX;generalize (wl.alloc (.cells (List.toArray (.int .i64 num::.pointer np::.slice q m0 cc::.int .i64 lim::.int .i64 0::.int .i64 0::.int .i64 0::.int .i64 0::.int .i64 0::.int .i64 0::.int .i64 0::.int .i64 0::.int .i64 0::.int .i64 0::.int .i64 0::.int .i64 0::.int .i64 0::.int .i64 0::.int .i64 0::.int .i64 0::.int .i64 0::.int .i64 0::.int .i64 0::.int .i64 0::.int .i64 0::.int .i64 0::.int .i64 0::.int .i64 0::.int .i64 0::.int .i64 0::.int .i64 0::.int .i64 0::.int .i64 0::.int .i64 0::.int .i64 0::.int .i64 0::.int .i64 0::.int .i64 0::.int .i64 0::.int .i64 0::.int .i64 0::.int .i64 0::.int .i64 0::.int .i64 0::.int .i64 0::.int .i64 0::.int .i64 0::.int .i64 0::[])) 186))=wc at *;generalize (Value.agg (List.toArray (.int .i64 num::.pointer np::.slice q m0 cc::.int .i64 lim::.int .i64 0::.int .i64 0::.int .i64 0::.int .i64 0::.int .i64 0::.int .i64 0::.int .i64 0::.int .i64 0::.int .i64 0::.int .i64 0::.int .i64 0::.int .i64 0::.int .i64 0::.int .i64 0::.int .i64 0::.int .i64 0::.int .i64 0::.int .i64 0::.int .i64 0::.int .i64 0::.int .i64 0::.int .i64 0::.int .i64 0::.int .i64 0::.int .i64 0::.int .i64 0::.int .i64 0::.int .i64 0::.int .i64 0::.int .i64 0::.int .i64 0::.int .i64 0::.int .i64 0::.int .i64 0::.int .i64 0::.int .i64 0::.int .i64 0::.int .i64 0::.int .i64 0::.int .i64 0::.int .i64 0::.int .i64 0::.int .i64 0::.int .i64 0::[])))=V;go_wp2_with fail
  go_region_law
   (refine Ybz rfl _ _ 51 51 rfl 2 _ 1 8 Tryz.underlying51 ZX wl.heap.size 8 16 16 p1 m1 cap1 rfl rfl 48 186 (fun j=>if j=0 then .int .i64 num else if j=1 then .pointer np else if j=2 then .slice q m0 cc else .int .i64 (if j=3 then lim else 0)) (fun j=>.int .i64 (z1 j)) h16 ?_ (by omega) ?_ (fun _ _=>rfl) (fun h=>(y1 h).1) ?_
    ·exact HC.out
    ·exact (S1.out.below HBw.out.drew)
    intro w2 hr2 hg2 hs2;have HG2:Hid (World.grownBy _ w2 (some wl.heap.size)):=hg2;have HE:Hid (RowF w2 wl.heap.size 48 186 (fun j=>if j=0 then .int .i64 num else if j=1 then .pointer np else if j=2 then .slice q m0 cc else .int .i64 (if j=3 then lim else if 8≤j∧j<8+m1*1 then z1 (j-8) else 0))):=hr2.congr (fun j hj=>by
     show (if 8≤j∧j<8+m1*1 then (.int .i64 (z1 (j-8)):Value) else if j=0 then _ else if j=1 then _ else if j=2 then _ else _)=_;by_cases h:8≤j∧j<8+m1*1
     ·rw [if_pos h,if_neg (by omega),if_neg (by omega),if_neg (by omega),if_neg (by omega),if_pos h]
     ·rw [if_neg h];by_cases h3:j=3
      ·simp [h3]
      ·simp only [h3,if_false,h])
    clear hr2 hg2 hs2)
 all_goals
  have HF:Hid (Below w.heap.size w w2):=HBw.out.drew.grown HG2.out (by show w.heap.size≤wc.heap.size;omega) (fun j hj=>by simp at hj;omega);have HFq:Hid (Below wl.heap.size wl w2):=HBq.out.drew.grown HG2.out (by show wl.heap.size≤wc.heap.size;omega) (fun j hj=>by simp at hj;omega);clear HC HG2 hk1 HBq;have hL1:((List.range 21).map (fun j=>Value.int .i64 (if 4+j=3 then lim else if 8≤4+j∧4+j<8+m1*1 then z1 (4+j-8) else 0))).length=21:=by simp
  have hL2:∀v∈(List.range 21).map (fun j=>Value.int .i64 (if 4+j=3 then lim else if 8≤4+j∧4+j<8+m1*1 then z1 (4+j-8) else 0)),v.oneCell'=true:=fun v hv=>by obtain ⟨y,_,rfl⟩:=List.mem_map.1 hv;rfl
  have hL3:=Y5z HE.out;have HEL:Hid (∀j,j<21→((List.range 21).map (fun j=>Value.int .i64 (if 4+j=3 then lim else if 8≤4+j∧4+j<8+m1*1 then z1 (4+j-8) else 0))).getD j undef=.int .i64 (if 4+j=3 then lim else if 8≤4+j∧4+j<8+m1*1 then z1 (4+j-8) else 0)):=fun j hj=>by simp [hj]
  generalize (List.range 21).map (fun j=>Value.int .i64 (if 4+j=3 then lim else if 8≤4+j∧4+j<8+m1*1 then z1 (4+j-8) else 0))=L at *;have HL1:Hid (L.length=21):=hL1;have HL2:Hid (∀v∈L,v.oneCell'=true):=hL2;have HL3:Hid (w2.rangeAt wl.heap.size 4 L):=hL3;have HSZ:Hid (Option.map (fun x=>x.size) (Tryz.prog.info? 184)=some L.length):=by show _=_;rw [hL1];exact Y1K
  clear hL1 hL2 hL3;go_wp2_with (first|(refine wpList_load_mid rfl 184 _ rfl wl.heap.size 4 rfl L _ HL3.out Tryz.underlying184 rfl HSZ.out ?_)|(refine wpList_store_mid rfl 184 _ _ rfl wl.heap.size 25 L.toArray rfl rfl ?_ ?_ ?_ ?_))
  ·exact Y9E HE.out HL1.out
  ·rw [List.size_toArray];exact HSZ.out
  ·exact all_oneCell_toArray HL2.out
  have HF2:Hid (Below w.heap.size w (w2.setCells wl.heap.size 25 L)):=below_setCells HF.out (by omega) _ _;have HF3:Hid (Below wl.heap.size wl (w2.setCells wl.heap.size 25 L)):=below_setCells HFq.out (Nat.le_refl _) _ _;have HN:Hid (Y0U w num np lim m0 m1 z0 z1 wl.heap.size (w2.setCells wl.heap.size 25 L)):=by
   refine ⟨.slice q m0 cc,by omega,(HE.out.setCells L 25).congr fun j _=>?_,own_below HQl.out HF3.out⟩
   ·rw [HL1.out];unfold cellV newZ;by_cases h:25≤j∧j<25+21
    ·rw [if_pos h,HEL.out (j-25) (by omega)];repeat' split
     all_goals first
      |rfl
      |(exfalso;omega)
      |(congr 2;omega)
    ·rw [if_neg h];repeat' split
     all_goals first
      |rfl
      |(exfalso;omega)
      |(congr 2;omega)
  go_wp2_with fail
  go_ret;exact ⟨_,rfl,HF2.out,HN.out⟩
end Go.Proofs.YtdoghgnifkgfdaaGreat
