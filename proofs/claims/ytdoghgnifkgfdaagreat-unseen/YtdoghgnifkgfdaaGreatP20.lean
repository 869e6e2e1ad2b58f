import Derived.Test.YtdoghgnifkgfdaaGreatP17
import Derived.Test.YtdoghgnifkgfdaaGreatP19
set_option maxRecDepth 100000
set_option maxHeartbeats 16000000
namespace Go.Proofs.YtdoghgnifkgfdaaGreat
open Go.RowKit Go.Maps
theorem Y6j (c:Cfg) (v0 v1 v2 v3:Value) (w:World) (h:CfgR w v0 v1 v2 v3 c) (hw:CfgW c):
  Calls Tryz.prog 50 #[.agg #[v0,v1,v2,v3]] w (Chk c w):=by
 obtain ⟨p0,cap0,F0,p1,cap1,F1,p2,cap2,p3,cap3,rfl,rfl,rfl,rfl,s0,k0,s1,k1,s2,s3,b0,b1,b2,b3⟩:=h.parts;have hb2:c.nCh≤8796093022208:=by omega
 have hb3:c.nD≤17592186044416:=by omega
 have HR:Hid (CfgR w (.slice p0 c.nC cap0) (.slice p1 c.nT cap1) (.slice p2 c.nCh cap2) (.slice p3 c.nD cap3) c):=h;have S1:Hid (Sl w p1 c.nT F1):=s1;have K1:Hid (∀i,i<c.nT→SlZ w (F1 i) (c.rowN i) (c.nRow i) 2 (c.row i) 16):=k1;have S2:Hid (Sl w p2 (c.nCh*3) (fun j=>.int .i64 (c.ch j))):=s2;have S3:Hid (Sl w p3 c.nD (fun j=>.int .i64 (c.dv j))):=s3;have HW0:Hid (CfgW c):=hw;clear h s0 k0 s1 k1 s2 s3 b2 b3 hw;have HA:Hid (∀o,Below w.heap.size w (w.alloc o)):=fun o=>(Below.refl _ _).alloc (Nat.le_refl _) _;by_cases n1:NCok c
 case neg=>
  have q:c.nC<1∨6<c.nC:=by unfold NCok at n1;omega
  have C1:Hid (Y8 c 1 0):=Y8.c1 n1;clear n1;rcases q with q|q
  all_goals
   go_enter Tryz.func50,Tryz.ntmps50
   go_wp2_with fail
   go_ret2
   exact Chk.mk C1.out (HA.out _)
 have q1:1≤c.nC:=n1.1;have q1':c.nC≤6:=n1.2;have N1:Hid (NCok c):=n1;clear n1
 go_enter Tryz.func50,Tryz.ntmps50
 go_wp2_with fail
 refine (YbA c p1 cap1 F1 _ (S1.out.below (HA.out _)) (fun i hi=>(K1.out i hi).keep (Zc (HA.out _))) b1).mono ?_;rintro e w1 ⟨x,rfl,hx,hbel⟩;have HB1:Hid (Below (w.heap.size+1) (w.alloc (.cells #[.slice p0 c.nC cap0,.slice p1 c.nT cap1,.slice p2 c.nCh cap2,.slice p3 c.nD cap3] 28)) w1):=hbel.mono (by simp);clear hbel;rcases hx with ⟨hx1,rfl⟩|⟨hx1,rfl,hx2⟩|⟨i,hx1,rfl,hx2⟩
 ·have C2:Hid (Y8 c 2 0):=Y8.c2 N1.out hx1;clear hx1;go_wp2_with fail
  go_ret2
  exact Chk.mk C2.out (Yg HB1.out)
 ·have N2:Hid (NTok c):=hx1;have N3:Hid (Yb (YU c) c.nT):=hx2;clear hx1 hx2;obtain ⟨x0,x1,x2,x3⟩:=box4 HB1.out;go_wp2_with fail
  refine (Y5x c p2 cap2 _ (S2.out.below (Yg HB1.out)) hb2).mono ?_;rintro e w2 ⟨x,rfl,hx,hbel⟩;have HB2:Hid (Below (w.heap.size+1) (w.alloc (.cells #[.slice p0 c.nC cap0,.slice p1 c.nT cap1,.slice p2 c.nCh cap2,.slice p3 c.nD cap3] 28)) w2):=Y0l HB1.out hbel;clear hbel x0 x1 x2 x3;rcases hx with ⟨hx1,rfl⟩|⟨hx1,rfl,hx2⟩|⟨i,hx1,rfl,hx2⟩
  ·have C4:Hid (Y8 c 3 0):=Y8.c4 N1.out N2.out N3.out hx1;clear hx1;go_wp2_with fail
   go_ret2
   exact Chk.mk C4.out (Yg HB2.out)
  ·have N5:Hid (Yb (ChOk c) c.nCh):=hx2;have n4:=hx1;clear hx1 hx2;obtain ⟨x0,x1,x2,x3⟩:=box4 HB2.out;go_wp2_with fail
   refine (Y6Z c p3 cap3 _ (S3.out.below (Yg HB2.out)) hb3).mono ?_;rintro e w3 ⟨x,rfl,hx,hbel⟩;have HB3:Hid (Below (w.heap.size+1) (w.alloc (.cells #[.slice p0 c.nC cap0,.slice p1 c.nT cap1,.slice p2 c.nCh cap2,.slice p3 c.nD cap3] 28)) w3):=Y0l HB2.out hbel;clear hbel x0 x1 x2 x3;rcases hx with ⟨hx1,rfl⟩|⟨hx1,rfl,hx2⟩|⟨i,hx1,rfl,hx2⟩
   ·have C6:Hid (Y8 c 4 0):=Y8.c6 N1.out N2.out N3.out n4 N5.out hx1;clear hx1;go_wp2_with fail
    go_ret2
    exact Chk.mk C6.out (Yg HB3.out)
   ·have N7:Hid (Yb (DvOk c) c.nD):=hx2;have n6:=hx1;clear hx1 hx2;obtain ⟨x0,x1,x2,x3⟩:=box4 HB3.out;go_wp2_with fail
    refine (Y5S c _ _ _ _ _ (HR.out.below (Yg HB3.out)) HW0.out q1' n4 N5.out n6).mono ?_;rintro e w4 ⟨x,rfl,hx,hbel⟩;have HB4:Hid (Below (w.heap.size+1) (w.alloc (.cells #[.slice p0 c.nC cap0,.slice p1 c.nT cap1,.slice p2 c.nCh cap2,.slice p3 c.nD cap3] 28)) w4):=Y0l HB3.out hbel;clear hbel x0 x1 x2 x3;rcases hx with ⟨rfl,hx2⟩|⟨i,rfl,hx2⟩
    ·have C9:Hid (Y8 c 0 0):=Y8.c9 N1.out N2.out N3.out n4 N5.out n6 N7.out hx2;clear hx2;go_wp2_with fail
     go_ret2
     exact Chk.mk C9.out (Yg HB4.out)
    ·have C8:Hid (Y8 c 5 i):=Y8.c8 N1.out N2.out N3.out n4 N5.out n6 N7.out hx2;have hne:((i:Int) != -1)=true:=by simp
     clear hx2;go_wp2_with fail
     go_ret2
     exact Chk.mk C8.out (Yg HB4.out)
   ·have C7:Hid (Y8 c 4 i):=Y8.c7 N1.out N2.out N3.out n4 N5.out hx1 hx2;have hne:((i:Int) != -1)=true:=by simp
    clear hx1 hx2;go_wp2_with fail
    go_ret2
    exact Chk.mk C7.out (Yg HB3.out)
  ·have C5:Hid (Y8 c 3 i):=Y8.c5 N1.out N2.out N3.out hx1 hx2;have hne:((i:Int) != -1)=true:=by simp
   clear hx1 hx2;go_wp2_with fail
   go_ret2
   exact Chk.mk C5.out (Yg HB2.out)
 ·have C3:Hid (Y8 c 2 i):=Y8.c3 N1.out hx1 hx2;have hne:((i:Int) != -1)=true:=by simp
  clear hx1 hx2;go_wp2_with fail
  go_ret2
  exact Chk.mk C3.out (Yg HB1.out)
theorem Y8.place {c:Cfg} {x y:Int} (h:Y8 c x y) (h0:x=0):Y8 c 0 0:=by
 subst h0;unfold Y8 at h;rcases h with h|h|⟨_,_,i,_,h,_⟩|h|⟨_,_,_,_,i,_,h,_⟩|h|⟨_,_,_,_,_,_,i,_,h,_⟩|⟨_,_,_,_,_,_,_,i,_,h,_⟩|h
 ·exact absurd h.2.1 (by omega)
 ·exact absurd h.2.2.1 (by omega)
 ·exact absurd h (by omega)
 ·exact absurd h.2.2.2.2.1 (by omega)
 ·exact absurd h (by omega)
 ·exact absurd h.2.2.2.2.2.2.1 (by omega)
 ·exact absurd h (by omega)
 ·exact absurd h (by omega)
 ·exact Y8.c9 h.1 h.2.1 h.2.2.1 h.2.2.2.1 h.2.2.2.2.1 h.2.2.2.2.2.1 h.2.2.2.2.2.2.1 h.2.2.2.2.2.2.2.1
theorem Yam:(Tryz.prog.info? 61).map (fun i=>(i.zero,i.size,i.bytes))=some (some (.slice none 0 0),1,24):=by kernel_rfl
theorem Y8i:(Tryz.prog.info? 143).map (fun i=>(i.zero,i.size,i.bytes))=some (some (.pointer none),1,8):=by kernel_rfl
theorem Y6B : (Tryz.f52.name == "runtime.NumGoroutine") = false := by kernel_rfl
theorem Y8j:Tryz.f52.body.isNone=false:=by kernel_rfl
theorem Y8C : (Tryz.f53.name == "runtime.NumGoroutine") = false := by kernel_rfl
theorem Y8E:Tryz.f53.body.isNone=false:=by kernel_rfl
theorem Y8.sizes {c:Cfg} (h:Y8 c 0 0):NCok c∧NTok c∧Yb (X3 c) c.nC:=by
 unfold Y8 at h;rcases h with h|h|⟨_,_,i,_,h,_⟩|h|⟨_,_,_,_,i,_,h,_⟩|h|⟨_,_,_,_,_,_,i,_,h,_⟩|⟨_,_,_,_,_,_,_,i,_,h,_⟩|h
 ·exact absurd h.2.1 (by omega)
 ·exact absurd h.2.2.1 (by omega)
 ·exact absurd h (by omega)
 ·exact absurd h.2.2.2.2.1 (by omega)
 ·exact absurd h (by omega)
 ·exact absurd h.2.2.2.2.2.2.1 (by omega)
 ·exact absurd h (by omega)
 ·exact absurd h (by omega)
 ·exact ⟨h.1,h.2.1,h.2.2.2.2.2.2.2.1⟩
def Xo (a b c d e:Value) (j:Nat):Value:=if j=0 then a else if j=1 then b else if j=2 then c else if j=3 then d else e
theorem Y5G (w:World) (a b c d e:Value) (t:Nat):RowF (w.alloc (.cells #[a,b,c,d,e] t)) w.heap.size 5 t (Xo a b c d e):=
 RowF.new w #[a,b,c,d,e] t _ (fun j hj=>by
  have:j=0∨j=1∨j=2∨j=3∨j=4:=by simp at hj;omega
  rcases this with rfl|rfl|rfl|rfl|rfl<;>rfl)
theorem RowF.at5k {w:World} {g t:Nat} {a b c d e:Value} (h:RowF w g 5 t (Xo a b c d e)):w.cell? ⟨g,0,none⟩=some a∧w.cell? ⟨g,1,none⟩=some b∧w.cell? ⟨g,2,none⟩=some c∧w.cell? ⟨g,3,none⟩=some d∧w.cell? ⟨g,4,none⟩=some e:=
 ⟨h.cell (by omega),h.cell (by omega),h.cell (by omega),h.cell (by omega),h.cell (by omega)⟩
theorem RowF.set5k {w:World} {g t:Nat} {a b c d e:Value} (h:RowF w g 5 t (Xo a b c d e)) (v:Value):
  RowF (w.setCell ⟨g,0,none⟩ v) g 5 t (Xo v b c d e)∧RowF (w.setCell ⟨g,1,none⟩ v) g 5 t (Xo a v c d e)∧RowF (w.setCell ⟨g,2,none⟩ v) g 5 t (Xo a b v d e):=by
 refine ⟨(h.set 0 v).congr ?_,(h.set 1 v).congr ?_,(h.set 2 v).congr ?_⟩
 all_goals
  intro j hj;have:j=0∨j=1∨j=2∨j=3∨j=4:=by omega
  rcases this with rfl|rfl|rfl|rfl|rfl<;>rfl
theorem Y9x {P:Program} {ops:Array Oper} {o:Oper} {a:Act} {w:World} {K:Act→World→Prop} {Q:Exit→Act→World→Prop} {E:Prop} (hgd:o.guard=none) (f:FuncId) (s1 s2 s3:Operand) (t1 t2 t3:TypeId)
  (ho:o.op=.call {callee:=.value (.func f),args:=#[s1,s2,s3],argTypes:=#[t1,t2,t3]}) (v1 v2 v3:Value) (hv1:a.eval s1=v1) (hv2:a.eval s2=v2) (hv3:a.eval s3=v3)
  (fn : Func) (hf : P.funcs[f]? = some fn) (hn : (fn.name == "runtime.NumGoroutine") = false) (hb : fn.body.isNone = false) (R : Value → World → Prop)
  (h:Calls P f #[v1,v2,v3] w (fun e w'=>∃r,e=.returned r∧R r w')) (hk:∀r w',R r w'→K (a.put o.dst r) w'):
  if Region.wanted o (yielded ops a.tmps)=true then Oper.wp P o a w K Q else E:=by
 have hw:Region.wanted o (yielded ops a.tmps)=true:=by simp [Region.wanted,hgd]
 rw [if_pos hw];unfold Oper.wp;have hr:(execOp a.eval o).run P w=.ok (.enter f #[v1,v2,v3]) w:=by
  have e:a.eval (.func f)=.func (.func f) #[] #[]:=rfl;have hn' : ¬ fn.name = "runtime.NumGoroutine" := by simpa using hn
  have hb':¬fn.body=none:=by intro e;rw [e] at hb;cases hb
  simp [execOp,ho,resolve,invoke,hv1,hv2,hv3,e,Deferred.ofValue,callFunc,hf,hn',hb']
 rw [hr];refine h.mono ?_;rintro e w' ⟨r,rfl,hR⟩;exact hk r w' hR
theorem Y4s {w wr wg:World} {K i:Nat} {v x:Value} (hb:Below w.heap.size w wr) (hs:wr.heap.size≤wg.heap.size) (hf:wg.os=wr.os∧wg.tape=wr.tape∧wg.output=wr.output)
  (hol:∀j,j<wr.heap.size→v.ownBlock≠some j→wg.heap[j]?=wr.heap[j]?) (hlo:∀j,v.ownBlock=some j→K+1≤j) (hK:w.heap.size<K):Below w.heap.size w (wg.setCell ⟨K,i,none⟩ x):=by
 refine Below.setCell ⟨hf.1.trans hb.os,hf.2.1.trans hb.tape,hf.2.2.trans hb.output,Nat.le_trans hb.size hs,fun j hj=>?_⟩ (by show w.heap.size≤K;omega) _;exact (hol j (Nat.lt_of_lt_of_le hj hb.size) (fun e=>by have:=hlo j e;omega)).trans (hb.block j hj)
theorem Y8.chans {c:Cfg} (h:Y8 c 0 0):c.nCh≤8:=by
 unfold Y8 at h;rcases h with h|h|⟨_,_,i,_,h,_⟩|h|⟨_,_,_,_,i,_,h,_⟩|h|⟨_,_,_,_,_,_,i,_,h,_⟩|⟨_,_,_,_,_,_,_,i,_,h,_⟩|h
 ·exact absurd h.2.1 (by omega)
 ·exact absurd h.2.2.1 (by omega)
 ·exact absurd h (by omega)
 ·exact absurd h.2.2.2.2.1 (by omega)
 ·exact absurd h (by omega)
 ·exact absurd h.2.2.2.2.2.2.1 (by omega)
 ·exact absurd h (by omega)
 ·exact absurd h (by omega)
 ·exact h.2.2.2.1
theorem Y3h {w W w0:World} {K t tc:Nat} {cs:Array Value} {a b c d e:Value} (hB:Below (w.heap.size+1) (w.alloc (.cells cs tc)) W) (hK:K=W.heap.size) (h0:w0=W.alloc (.cells #[a,b,c,d,e] t)):
  Below w.heap.size w w0∧RowF w0 K 5 t (Xo a b c d e)∧K<w0.heap.size∧w.heap.size<K∧Below (w.heap.size+1) (w.alloc (.cells cs tc)) w0:=by
 subst hK h0;have hs:w.heap.size<W.heap.size:=by have:=hB.size;simp at this;omega
 exact ⟨(Yg hB).alloc (by omega) _,Y5G W _ _ _ _ _ _,by simp,hs,hB.alloc (by omega) _⟩
def Y0U (w:World) (num:Int) (np:Option Addr) (lim:Int) (m0 m1:Nat) (z0 z1:Nat→Int) (kb:Nat) (w':World):Prop:=
 ∃cv,w.heap.size≤kb∧RowF w' kb 48 186 (cellV num (.pointer np) cv (newZ lim m1 z1))∧w'.ownsRow w.heap.size 97 4 cv m0 ((List.range (m0*4)).map fun j=>.int .i64 (z0 j))
theorem Y1S {w:World} {b b' e size n:Nat} {v:Value} {xs:List Value} (h:w.ownsRow b e size v n xs) (hb:b'≤b):w.ownsRow b' e size v n xs:=by
 rcases h with ⟨hl,h|⟨g,cap,cur,hv,hg,h1⟩⟩
 ·exact ⟨hl,.inl h⟩
 ·exact ⟨hl,.inr ⟨g,cap,cur,hv,Nat.le_trans hb hg,h1⟩⟩
theorem Y9i (num:Int) (np:Option Addr) (v0 v1:Value) (n0 n1:Bool) (m0 m1:Nat) (z0 z1:Nat→Int) (lim:Int) (w:World) (h0:SlZ w v0 n0 m0 4 z0 32) (h1:SlZ w v1 n1 m1 1 z1 8) (h16:m1≤16):
  Calls Tryz.prog 53 #[.int .i64 num,.agg #[v0,v1,.int .i64 lim],.pointer np] w fun e w'=>∃kb,e=.returned (.pointer (some ⟨kb,0,none⟩))∧Below w.heap.size w w'∧Y0U w num np lim m0 m1 z0 z1 kb w':=by
 obtain ⟨p0,cap0,rfl,-,-,y0,b0,s0⟩:=h0;obtain ⟨p1,cap1,rfl,-,-,y1,b1,s1⟩:=h1;have HB:Hid (∀o,Below w.heap.size w (w.alloc o)):=fun o=>(Below.refl _ _).alloc (Nat.le_refl _) _;have HX:Hid (RowF (w.alloc (.cells #[.slice p0 m0 cap0,.slice p1 m1 cap1,.int .i64 lim] 53)) w.heap.size 3 53 (cells3 (.slice p0 m0 cap0) (.slice p1 m1 cap1) (.int .i64 lim))):=row3 w _ _ _ _;have S0:Hid (Sl w p0 (m0*4) (fun j=>.int .i64 (z0 j))):=s0;have S1:Hid (Sl w p1 (m1*1) (fun j=>.int .i64 (z1 j))):=s1;have Y0:Hid (p0=none→m0=0∧cap0=0):=y0;have B0:Hid (32*m0≤140737488355328):=b0;clear s0 s1 y0 b0
 go_enter Tryz.func53,Tryz.ntmps53
 go_wp2_with fail
 go_region_law
  (first
   |(refine Y0V rfl 79 _ _ rfl _ rfl Tryz.f79 Tryz.func79 Y9I YaD (fun r w'=>∃q cc,r=.slice q m0 cc∧Below (w.heap.size+1) (w.alloc (.cells #[.slice p0 m0 cap0,.slice p1 m1 cap1,.int .i64 lim] 53)) w'∧w'.ownsRow w.heap.size 97 4 (.slice q m0 cc) m0 ((List.range (m0*4)).map fun j=>.int .i64 (z0 j))) ?_ ?_
     ·refine (Ybh p0 m0 cap0 z0 (w.alloc (.cells #[.slice p0 m0 cap0,.slice p1 m1 cap1,.int .i64 lim] 53)).drew (S0.out.below (HB.out _).drew) Y0.out B0.out).mono ?_;rintro e w' ⟨v,h1,h2,h3⟩;obtain ⟨q,cc,rfl,-⟩:=Zk h3;exact ⟨_,h1,q,cc,rfl,⟨h2.os,h2.tape,h2.output,by simpa using h2.size,fun j hj=>h2.block j (by simpa using hj)⟩,Y1S h3 (by simp)⟩
     rintro r wl ⟨q,cc,rfl,hbl,hql⟩;have HBl:Hid (Below (w.heap.size+1) (w.alloc (.cells #[.slice p0 m0 cap0,.slice p1 m1 cap1,.int .i64 lim] 53)) wl):=hbl;have HQl:Hid (wl.ownsRow w.heap.size 97 4 (.slice q m0 cc) m0 ((List.range (m0*4)).map fun j=>.int .i64 (z0 j))):=hql;obtain ⟨j0,j1,j2⟩:=(HX.out.below HBl.out (by omega)).at3;clear hbl hql))
 all_goals
  have HC:Hid (RowF (wl.alloc (.cells (List.toArray (.int .i64 num::.pointer np::.slice q m0 cc::.int .i64 lim::.int .i64 0::.int .i64 0::.int .i64 0::.int .i64 0::.int .i64 0::.int .i64 0::.int .i64 0::.int .i64 0::.int .i64 0::.int .i64 0::.int .i64 0::.int .i64 0::.int .i64 0::.int .i64 0::.int .i64 0::.int .i64 0::.int .i64 0::.int .i64 0::.int .i64 0::.int .i64 0::.int .i64 0::.int .i64 0::.int .i64 0::.int .i64 0::.int .i64 0::.int .i64 0::.int .i64 0::.int .i64 0::.int .i64 0::.int .i64 0::.int .i64 0::.int .i64 0::.int .i64 0::.int .i64 0::.int .i64 0::.int .i64 0::.int .i64 0::.int .i64 0::.int .i64 0::.int .i64 0::.int .i64 0::.int .i64 0::.int .i64 0::.int .i64 0::[])) 186)) wl.heap.size 48 186 (fun j=>if j=0 then .int .i64 num else if j=1 then .pointer np else if j=2 then .slice q m0 cc else .int .i64 (if j=3 then lim else 0))):=(Y52 wl _ _ _ _ _).congr fun j _=>by
   by_cases h0:j=0
   ·simp [h0]
   ·by_cases h1:j=1
    ·simp [h1]
    ·by_cases h2:j=2
     ·simp [h2]
     ·by_cases h3:j=3
      ·simp [h3]
      ·simp [h0,h1,h2,h3]
  have HBw:Hid (Below w.heap.size w (wl.alloc (.cells (List.toArray (.int .i64 num::.pointer np::.slice q m0 cc::.int .i64 lim::.int .i64 0::.int .i64 0::.int .i64 0::.int .i64 0::.int .i64 0::.int .i64 0::.int .i64 0::.int .i64 0::.int .i64 0::.int .i64 0::.int .i64 0::.int .i64 0::.int .i64 0::.int .i64 0::.int .i64 0::.int .i64 0::.int .i64 0::.int .i64 0::.int .i64 0::.int .i64 0::.int .i64 0::.int .i64 0::.int .i64 0::.int .i64 0::.int .i64 0::.int .i64 0::.int .i64 0::.int .i64 0::.int .i64 0::.int .i64 0::.int .i64 0::.int .i64 0::.int .i64 0::.int .i64 0::.int .i64 0::.int .i64 0::.int .i64 0::.int .i64 0::.int .i64 0::.int .i64 0::.int .i64 0::.int .i64 0::.int .i64 0::.int .i64 0::[])) 186))):=(((HB.out _).trans (HBl.out.mono (by omega))).alloc (by have:=HBl.out.size;simp at this;omega) _);have HBq:Hid (Below wl.heap.size wl (wl.alloc (.cells (List.toArray (.int .i64 num::.pointer np::.slice q m0 cc::.int .i64 lim::.int .i64 0::.int .i64 0::.int .i64 0::.int .i64 0::.int .i64 0::.int .i64 0::.int .i64 0::.int .i64 0::.int .i64 0::.int .i64 0::.int .i64 0::.int .i64 0::.int .i64 0::.int .i64 0::.int .i64 0::.int .i64 0::.int .i64 0::.int .i64 0::.int .i64 0::.int .i64 0::.int .i64 0::.int .i64 0::.int .i64 0::.int .i64 0::.int .i64 0::.int .i64 0::.int .i64 0::.int .i64 0::.int .i64 0::.int .i64 0::.int .i64 0::.int .i64 0::.int .i64 0::.int .i64 0::.int .i64 0::.int .i64 0::.int .i64 0::.int .i64 0::.int .i64 0::.int .i64 0::.int .i64 0::.int .i64 0::.int .i64 0::.int .i64 0::[])) 186))):=(Below.refl _ _).alloc (Nat.le_refl _) _;have hwl:w.heap.size<wl.heap.size:=by have:=HBl.out.size;simp at this;omega
  have hk1:(wl.alloc (.cells (List.toArray (.int .i64 num::.pointer np::.slice q m0 cc::.int .i64 lim::.int .i64 0::.int .i64 0::.int .i64 0::.int .i64 0::.int .i64 0::.int .i64 0::.int .i64 0::.int .i64 0::.int .i64 0::.int .i64 0::.int .i64 0::.int .i64 0::.int .i64 0::.int .i64 0::.int .i64 0::.int .i64 0::.int .i64 0::.int .i64 0::.int .i64 0::.int .i64 0::.int .i64 0::.int .i64 0::.int .i64 0::.int .i64 0::.int .i64 0::.int .i64 0::.int .i64 0::.int .i64 0::.int .i64 0::.int .i64 0::.int .i64 0::.int .i64 0::.int .i64 0::.int .i64 0::.int .i64 0::.int .i64 0::.int .i64 0::.int .i64 0::.int .i64 0::.int .i64 0::.int .i64 0::.int .i64 0::.int .i64 0::.int .i64 0::[])) 186)).cell? ⟨w.heap.size,1,none⟩=some (.slice p1 m1 cap1):=(((Below.refl _ wl).alloc (Nat.le_refl _) _).cell (p:=⟨w.heap.size,1,none⟩) hwl).trans j1;have hZ:(wl.alloc (.cells (List.toArray (.int .i64 num::.pointer np::.slice q m0 cc::.int .i64 lim::.int .i64 0::.int .i64 0::.int .i64 0::.int .i64 0::.int .i64 0::.int .i64 0::.int .i64 0::.int .i64 0::.int .i64 0::.int .i64 0::.int .i64 0::.int .i64 0::.int .i64 0::.int .i64 0::.int .i64 0::.int .i64 0::.int .i64 0::.int .i64 0::.int .i64 0::.int .i64 0::.int .i64 0::.int .i64 0::.int .i64 0::.int .i64 0::.int .i64 0::.int .i64 0::.int .i64 0::.int .i64 0::.int .i64 0::.int .i64 0::.int .i64 0::.int .i64 0::.int .i64 0::.int .i64 0::.int .i64 0::.int .i64 0::.int .i64 0::.int .i64 0::.int .i64 0::.int .i64 0::.int .i64 0::.int .i64 0::.int .i64 0::.int .i64 0::[])) 186)).heap.size=wl.heap.size+1:=by simp
  clear HBl j0 j1 j2 HX;generalize (wl.alloc (.cells (List.toArray (.int .i64 num::.pointer np::.slice q m0 cc::.int .i64 lim::.int .i64 0::.int .i64 0::.int .i64 0::.int .i64 0::.int .i64 0::.int .i64 0::.int .i64 0::.int .i64 0::.int .i64 0::.int .i64 0::.int .i64 0::.int .i64 0::.int .i64 0::.int .i64 0::.int .i64 0::.int .i64 0::.int .i64 0::.int .i64 0::.int .i64 0::.int .i64 0::.int .i64 0::.int .i64 0::.int .i64 0::.int .i64 0::.int .i64 0::.int .i64 0::.int .i64 0::.int .i64 0::.int .i64 0::.int .i64 0::.int .i64 0::.int .i64 0::.int .i64 0::.int .i64 0::.int .i64 0::.int .i64 0::.int .i64 0::.int .i64 0::.int .i64 0::.int .i64 0::.int .i64 0::.int .i64 0::.int .i64 0::.int .i64 0::[])) 186))=wc at *;generalize (Value.agg (List.toArray (.int .i64 num::.pointer np::.slice q m0 cc::.int .i64 lim::.int .i64 0::.int .i64 0::.int .i64 0::.int .i64 0::.int .i64 0::.int .i64 0::.int .i64 0::.int .i64 0::.int .i64 0::.int .i64 0::.int .i64 0::.int .i64 0::.int .i64 0::.int .i64 0::.int .i64 0::.int .i64 0::.int .i64 0::.int .i64 0::.int .i64 0::.int .i64 0::.int .i64 0::.int .i64 0::.int .i64 0::.int .i64 0::.int .i64 0::.int .i64 0::.int .i64 0::.int .i64 0::.int .i64 0::.int .i64 0::.int .i64 0::.int .i64 0::.int .i64 0::.int .i64 0::.int .i64 0::.int .i64 0::.int .i64 0::.int .i64 0::.int .i64 0::.int .i64 0::.int .i64 0::.int .i64 0::.int .i64 0::.int .i64 0::[])))=V;go_wp2_with fail
  go_region_law
   (refine Ybz rfl _ _ 51 51 rfl 2 _ 1 8 Tryz.underlying51 ZX wl.heap.size 8 16 16 p1 m1 cap1 rfl rfl 48 186 (fun j=>if j=0 then .int .i64 num else if j=1 then .pointer np else if j=2 then .slice q m0 cc else .int .i64 (if j=3 then lim else 0)) (fun j=>.int .i64 (z1 j)) h16 ?_ (by omega) ?_ (fun _ _=>rfl) (fun h=>(y1 h).1) ?_
    ·exact HC.out
    ·exact (S1.out.below HBw.out.drew)
    intro w2 hr2 hg2 hs2;have HG2:Hid (World.grownBy _ w2 (some wl.heap.size)):=hg2;have HE:Hid (RowF w2 wl.heap.size 48 186 (fun j=>if j=0 then .int .i64 num else if j=1 then .pointer np else if j=2 then .slice q m0 cc else .int .i64 (if j=3 then lim else if 8≤j∧j<8+m1*1 then z1 (j-8) else 0))):=hr2.congr (fun j hj=>by
     show (if 8≤j∧j<8+m1*1 then (.int .i64 (z1 (j-8)):Value) else if j=0 then _ else if j=1 then _ else if j=2 then _ else _)=_;by_cases h:8≤j∧j<8+m1*1
     ·rw [if_pos h,if_neg (by omega),if_neg (by omega),if_neg (by omega),if_neg (by omega),if_pos h]
     ·rw [if_neg h];by_cases h3:j=3
      ·simp [h3]
      ·simp only [h3,if_false,h])
    clear hr2 hg2 hs2)
 all_goals
  have HF:Hid (Below w.heap.size w w2):=HBw.out.drew.grown HG2.out (by show w.heap.size≤wc.heap.size;omega) (fun j hj=>by simp at hj;omega);have HFq:Hid (Below wl.heap.size wl w2):=HBq.out.drew.grown HG2.out (by show wl.heap.size≤wc.heap.size;omega) (fun j hj=>by simp at hj;omega);clear HC HG2 hk1 HBq;have hL1:((List.range 21).map (fun j=>Value.int .i64 (if 4+j=3 then lim else if 8≤4+j∧4+j<8+m1*1 then z1 (4+j-8) else 0))).length=21:=by simp
  have hL2:∀v∈(List.range 21).map (fun j=>Value.int .i64 (if 4+j=3 then lim else if 8≤4+j∧4+j<8+m1*1 then z1 (4+j-8) else 0)),v.oneCell'=true:=fun v hv=>by obtain ⟨y,_,rfl⟩:=List.mem_map.1 hv;rfl
  have hL3:=Y5z HE.out;have HEL:Hid (∀j,j<21→((List.range 21).map (fun j=>Value.int .i64 (if 4+j=3 then lim else if 8≤4+j∧4+j<8+m1*1 then z1 (4+j-8) else 0))).getD j undef=.int .i64 (if 4+j=3 then lim else if 8≤4+j∧4+j<8+m1*1 then z1 (4+j-8) else 0)):=fun j hj=>by simp [hj]
  generalize (List.range 21).map (fun j=>Value.int .i64 (if 4+j=3 then lim else if 8≤4+j∧4+j<8+m1*1 then z1 (4+j-8) else 0))=L at *;have HL1:Hid (L.length=21):=hL1;have HL2:Hid (∀v∈L,v.oneCell'=true):=hL2;have HL3:Hid (w2.rangeAt wl.heap.size 4 L):=hL3;have HSZ:Hid (Option.map (fun x=>x.size) (Tryz.prog.info? 184)=some L.length):=by show _=_;rw [hL1];exact Y1K
  clear hL1 hL2 hL3;go_wp2_with (first|(refine wpList_load_mid rfl 184 _ rfl wl.heap.size 4 rfl L _ HL3.out Tryz.underlying184 rfl HSZ.out ?_)|(refine wpList_store_mid rfl 184 _ _ rfl wl.heap.size 25 L.toArray rfl rfl ?_ ?_ ?_ ?_))
  ·exact Y9E HE.out HL1.out
  ·rw [List.size_toArray];exact HSZ.out
  ·exact all_oneCell_toArray HL2.out
  have HF2:Hid (Below w.heap.size w (w2.setCells wl.heap.size 25 L)):=below_setCells HF.out (by omega) _ _;have HF3:Hid (Below wl.heap.size wl (w2.setCells wl.heap.size 25 L)):=below_setCells HFq.out (Nat.le_refl _) _ _;have HN:Hid (Y0U w num np lim m0 m1 z0 z1 wl.heap.size (w2.setCells wl.heap.size 25 L)):=by
   refine ⟨.slice q m0 cc,by omega,(HE.out.setCells L 25).congr fun j _=>?_,own_below HQl.out HF3.out⟩
   ·rw [HL1.out];unfold cellV newZ;by_cases h:25≤j∧j<25+21
    ·rw [if_pos h,HEL.out (j-25) (by omega)];repeat' split
     all_goals first
      |rfl
      |(exfalso;omega)
      |(congr 2;omega)
    ·rw [if_neg h];repeat' split
     all_goals first
      |rfl
      |(exfalso;omega)
      |(congr 2;omega)
  go_wp2_with fail
  go_ret;exact ⟨_,rfl,HF2.out,HN.out⟩
end Go.Proofs.YtdoghgnifkgfdaaGreat
