import Derived.Test.YtdoghgnifkgfdaaGreatProg
import Derived.BigQuiet
import Derived.Deep.QuietTactic
import Derived.WalkSmall
import Derived.Test.YtdoghgnifkgfdaaGreatP02
import Derived.Test.YtdoghgnifkgfdaaGreatP08
set_option maxRecDepth 100000
set_option maxHeartbeats 4000000
namespace Go.Proofs.YtdoghgnifkgfdaaGreat
open Go.RowKit Go.Maps
theorem Y6j (c:Cfg) (v0 v1 v2 v3:Value) (w:World) (h:CfgR w v0 v1 v2 v3 c) (hw:CfgW c):
  Calls Tryz.prog 50 #[.agg #[v0,v1,v2,v3]] w (Chk c w):=by
 obtain ⟨p0,cap0,F0,p1,cap1,F1,p2,cap2,p3,cap3,rfl,rfl,rfl,rfl,s0,k0,s1,k1,s2,s3,b0,b1,b2,b3⟩:=h.parts;have hb2:c.nCh≤8796093022208:=by omega
 have hb3:c.nD≤17592186044416:=by omega
 have HR:Hid (CfgR w (.slice p0 c.nC cap0) (.slice p1 c.nT cap1) (.slice p2 c.nCh cap2) (.slice p3 c.nD cap3) c):=h;have S1:Hid (Sl w p1 c.nT F1):=s1;have K1:Hid (∀i,i<c.nT→SlZ w (F1 i) (c.rowN i) (c.nRow i) 2 (c.row i) 16):=k1;have S2:Hid (Sl w p2 (c.nCh*3) (fun j=>.int .i64 (c.ch j))):=s2;have S3:Hid (Sl w p3 c.nD (fun j=>.int .i64 (c.dv j))):=s3;have HW0:Hid (CfgW c):=hw;clear h s0 k0 s1 k1 s2 s3 b2 b3 hw;have HA:Hid (∀o,Below w.heap.size w (w.alloc o)):=fun o=>(Below.refl _ _).alloc (Nat.le_refl _) _;by_cases n1:NCok c
 case neg=>
  have q:c.nC<1∨6<c.nC:=by unfold NCok at n1;omega
  have C1:Hid (Y8 c 1 0):=Y8.c1 n1;clear n1;rcases q with q|q
  all_goals
   go_enter Tryz.func50,Tryz.ntmps50
   go_wp2_with fail
   go_ret2
   exact Chk.mk C1.out (HA.out _)
 have q1:1≤c.nC:=n1.1;have q1':c.nC≤6:=n1.2;have N1:Hid (NCok c):=n1;clear n1
 go_enter Tryz.func50,Tryz.ntmps50
 go_wp2_with fail
 refine (YbA c p1 cap1 F1 _ (S1.out.below (HA.out _)) (fun i hi=>(K1.out i hi).keep (Zc (HA.out _))) b1).mono ?_;rintro e w1 ⟨x,rfl,hx,hbel⟩;have HB1:Hid (Below (w.heap.size+1) (w.alloc (.cells #[.slice p0 c.nC cap0,.slice p1 c.nT cap1,.slice p2 c.nCh cap2,.slice p3 c.nD cap3] 28)) w1):=hbel.mono (by simp);clear hbel;rcases hx with ⟨hx1,rfl⟩|⟨hx1,rfl,hx2⟩|⟨i,hx1,rfl,hx2⟩
 ·have C2:Hid (Y8 c 2 0):=Y8.c2 N1.out hx1;clear hx1;go_wp2_with fail
  go_ret2
  exact Chk.mk C2.out (Yg HB1.out)
 ·have N2:Hid (NTok c):=hx1;have N3:Hid (Yb (YU c) c.nT):=hx2;clear hx1 hx2;obtain ⟨x0,x1,x2,x3⟩:=box4 HB1.out;go_wp2_with fail
  refine (Y5x c p2 cap2 _ (S2.out.below (Yg HB1.out)) hb2).mono ?_;rintro e w2 ⟨x,rfl,hx,hbel⟩;have HB2:Hid (Below (w.heap.size+1) (w.alloc (.cells #[.slice p0 c.nC cap0,.slice p1 c.nT cap1,.slice p2 c.nCh cap2,.slice p3 c.nD cap3] 28)) w2):=Y0l HB1.out hbel;clear hbel x0 x1 x2 x3;rcases hx with ⟨hx1,rfl⟩|⟨hx1,rfl,hx2⟩|⟨i,hx1,rfl,hx2⟩
  ·have C4:Hid (Y8 c 3 0):=Y8.c4 N1.out N2.out N3.out hx1;clear hx1;go_wp2_with fail
   go_ret2
   exact Chk.mk C4.out (Yg HB2.out)
  ·have N5:Hid (Yb (ChOk c) c.nCh):=hx2;have n4:=hx1;clear hx1 hx2;obtain ⟨x0,x1,x2,x3⟩:=box4 HB2.out;go_wp2_with fail
   refine (Y6Z c p3 cap3 _ (S3.out.below (Yg HB2.out)) hb3).mono ?_;rintro e w3 ⟨x,rfl,hx,hbel⟩;have HB3:Hid (Below (w.heap.size+1) (w.alloc (.cells #[.slice p0 c.nC cap0,.slice p1 c.nT cap1,.slice p2 c.nCh cap2,.slice p3 c.nD cap3] 28)) w3):=Y0l HB2.out hbel;clear hbel x0 x1 x2 x3;rcases hx with ⟨hx1,rfl⟩|⟨hx1,rfl,hx2⟩|⟨i,hx1,rfl,hx2⟩
   ·have C6:Hid (Y8 c 4 0):=Y8.c6 N1.out N2.out N3.out n4 N5.out hx1;clear hx1;go_wp2_with fail
    go_ret2
    exact Chk.mk C6.out (Yg HB3.out)
   ·have N7:Hid (Yb (DvOk c) c.nD):=hx2;have n6:=hx1;clear hx1 hx2;obtain ⟨x0,x1,x2,x3⟩:=box4 HB3.out;go_wp2_with fail
    refine (Y5S c _ _ _ _ _ (HR.out.below (Yg HB3.out)) HW0.out q1' n4 N5.out n6).mono ?_;rintro e w4 ⟨x,rfl,hx,hbel⟩;have HB4:Hid (Below (w.heap.size+1) (w.alloc (.cells #[.slice p0 c.nC cap0,.slice p1 c.nT cap1,.slice p2 c.nCh cap2,.slice p3 c.nD cap3] 28)) w4):=Y0l HB3.out hbel;clear hbel x0 x1 x2 x3;rcases hx with ⟨rfl,hx2⟩|⟨i,rfl,hx2⟩
    ·have C9:Hid (Y8 c 0 0):=Y8.c9 N1.out N2.out N3.out n4 N5.out n6 N7.out hx2;clear hx2;go_wp2_with fail
     go_ret2
     exact Chk.mk C9.out (Yg HB4.out)
    ·have C8:Hid (Y8 c 5 i):=Y8.c8 N1.out N2.out N3.out n4 N5.out n6 N7.out hx2;have hne:((i:Int) != -1)=true:=by simp
     clear hx2;go_wp2_with fail
     go_ret2
     exact Chk.mk C8.out (Yg HB4.out)
   ·have C7:Hid (Y8 c 4 i):=Y8.c7 N1.out N2.out N3.out n4 N5.out hx1 hx2;have hne:((i:Int) != -1)=true:=by simp
    clear hx1 hx2;go_wp2_with fail
    go_ret2
    exact Chk.mk C7.out (Yg HB3.out)
  ·have C5:Hid (Y8 c 3 i):=Y8.c5 N1.out N2.out N3.out hx1 hx2;have hne:((i:Int) != -1)=true:=by simp
   clear hx1 hx2;go_wp2_with fail
   go_ret2
   exact Chk.mk C5.out (Yg HB2.out)
 ·have C3:Hid (Y8 c 2 i):=Y8.c3 N1.out hx1 hx2;have hne:((i:Int) != -1)=true:=by simp
  clear hx1 hx2;go_wp2_with fail
  go_ret2
  exact Chk.mk C3.out (Yg HB1.out)
theorem Y8.place {c:Cfg} {x y:Int} (h:Y8 c x y) (h0:x=0):Y8 c 0 0:=by
 subst h0;unfold Y8 at h;rcases h with h|h|⟨_,_,i,_,h,_⟩|h|⟨_,_,_,_,i,_,h,_⟩|h|⟨_,_,_,_,_,_,i,_,h,_⟩|⟨_,_,_,_,_,_,_,i,_,h,_⟩|h
 ·exact absurd h.2.1 (by omega)
 ·exact absurd h.2.2.1 (by omega)
 ·exact absurd h (by omega)
 ·exact absurd h.2.2.2.2.1 (by omega)
 ·exact absurd h (by omega)
 ·exact absurd h.2.2.2.2.2.2.1 (by omega)
 ·exact absurd h (by omega)
 ·exact absurd h (by omega)
 ·exact Y8.c9 h.1 h.2.1 h.2.2.1 h.2.2.2.1 h.2.2.2.2.1 h.2.2.2.2.2.1 h.2.2.2.2.2.2.1 h.2.2.2.2.2.2.2.1
theorem Yam:(Tryz.prog.info? 61).map (fun i=>(i.zero,i.size,i.bytes))=some (some (.slice none 0 0),1,24):=by kernel_rfl
theorem Y8i:(Tryz.prog.info? 143).map (fun i=>(i.zero,i.size,i.bytes))=some (some (.pointer none),1,8):=by kernel_rfl
theorem Y6B : (Tryz.f52.name == "runtime.NumGoroutine") = false := by kernel_rfl
theorem Y8j:Tryz.f52.body.isNone=false:=by kernel_rfl
theorem Y8C : (Tryz.f53.name == "runtime.NumGoroutine") = false := by kernel_rfl
theorem Y8E:Tryz.f53.body.isNone=false:=by kernel_rfl
theorem Y8.sizes {c:Cfg} (h:Y8 c 0 0):NCok c∧NTok c∧Yb (X3 c) c.nC:=by
 unfold Y8 at h;rcases h with h|h|⟨_,_,i,_,h,_⟩|h|⟨_,_,_,_,i,_,h,_⟩|h|⟨_,_,_,_,_,_,i,_,h,_⟩|⟨_,_,_,_,_,_,_,i,_,h,_⟩|h
 ·exact absurd h.2.1 (by omega)
 ·exact absurd h.2.2.1 (by omega)
 ·exact absurd h (by omega)
 ·exact absurd h.2.2.2.2.1 (by omega)
 ·exact absurd h (by omega)
 ·exact absurd h.2.2.2.2.2.2.1 (by omega)
 ·exact absurd h (by omega)
 ·exact absurd h (by omega)
 ·exact ⟨h.1,h.2.1,h.2.2.2.2.2.2.2.1⟩
def Xo (a b c d e:Value) (j:Nat):Value:=if j=0 then a else if j=1 then b else if j=2 then c else if j=3 then d else e
theorem Y5G (w:World) (a b c d e:Value) (t:Nat):RowF (w.alloc (.cells #[a,b,c,d,e] t)) w.heap.size 5 t (Xo a b c d e):=
 RowF.new w #[a,b,c,d,e] t _ (fun j hj=>by
  have:j=0∨j=1∨j=2∨j=3∨j=4:=by simp at hj;omega
  rcases this with rfl|rfl|rfl|rfl|rfl<;>rfl)
theorem RowF.at5k {w:World} {g t:Nat} {a b c d e:Value} (h:RowF w g 5 t (Xo a b c d e)):w.cell? ⟨g,0,none⟩=some a∧w.cell? ⟨g,1,none⟩=some b∧w.cell? ⟨g,2,none⟩=some c∧w.cell? ⟨g,3,none⟩=some d∧w.cell? ⟨g,4,none⟩=some e:=
 ⟨h.cell (by omega),h.cell (by omega),h.cell (by omega),h.cell (by omega),h.cell (by omega)⟩
theorem RowF.set5k {w:World} {g t:Nat} {a b c d e:Value} (h:RowF w g 5 t (Xo a b c d e)) (v:Value):
  RowF (w.setCell ⟨g,0,none⟩ v) g 5 t (Xo v b c d e)∧RowF (w.setCell ⟨g,1,none⟩ v) g 5 t (Xo a v c d e)∧RowF (w.setCell ⟨g,2,none⟩ v) g 5 t (Xo a b v d e):=by
 refine ⟨(h.set 0 v).congr ?_,(h.set 1 v).congr ?_,(h.set 2 v).congr ?_⟩
 all_goals
  intro j hj;have:j=0∨j=1∨j=2∨j=3∨j=4:=by omega
  rcases this with rfl|rfl|rfl|rfl|rfl<;>rfl
theorem Y9x {P:Program} {ops:Array Oper} {o:Oper} {a:Act} {w:World} {K:Act→World→Prop} {Q:Exit→Act→World→Prop} {E:Prop} (hgd:o.guard=none) (f:FuncId) (s1 s2 s3:Operand) (t1 t2 t3:TypeId)
  (ho:o.op=.call {callee:=.value (.func f),args:=#[s1,s2,s3],argTypes:=#[t1,t2,t3]}) (v1 v2 v3:Value) (hv1:a.eval s1=v1) (hv2:a.eval s2=v2) (hv3:a.eval s3=v3)
  (fn : Func) (hf : P.funcs[f]? = some fn) (hn : (fn.name == "runtime.NumGoroutine") = false) (hb : fn.body.isNone = false) (R : Value → World → Prop)
  (h:Calls P f #[v1,v2,v3] w (fun e w'=>∃r,e=.returned r∧R r w')) (hk:∀r w',R r w'→K (a.put o.dst r) w'):
  if Region.wanted o (yielded ops a.tmps)=true then Oper.wp P o a w K Q else E:=by
 have hw:Region.wanted o (yielded ops a.tmps)=true:=by simp [Region.wanted,hgd]
 rw [if_pos hw];unfold Oper.wp;have hr:(execOp a.eval o).run P w=.ok (.enter f #[v1,v2,v3]) w:=by
  have e:a.eval (.func f)=.func (.func f) #[] #[]:=rfl;have hn' : ¬ fn.name = "runtime.NumGoroutine" := by simpa using hn
  have hb':¬fn.body=none:=by intro e;rw [e] at hb;cases hb
  simp [execOp,ho,resolve,invoke,hv1,hv2,hv3,e,Deferred.ofValue,callFunc,hf,hn',hb']
 rw [hr];refine h.mono ?_;rintro e w' ⟨r,rfl,hR⟩;exact hk r w' hR
theorem Y4s {w wr wg:World} {K i:Nat} {v x:Value} (hb:Below w.heap.size w wr) (hs:wr.heap.size≤wg.heap.size) (hf:wg.os=wr.os∧wg.tape=wr.tape∧wg.output=wr.output)
  (hol:∀j,j<wr.heap.size→v.ownBlock≠some j→wg.heap[j]?=wr.heap[j]?) (hlo:∀j,v.ownBlock=some j→K+1≤j) (hK:w.heap.size<K):Below w.heap.size w (wg.setCell ⟨K,i,none⟩ x):=by
 refine Below.setCell ⟨hf.1.trans hb.os,hf.2.1.trans hb.tape,hf.2.2.trans hb.output,Nat.le_trans hb.size hs,fun j hj=>?_⟩ (by show w.heap.size≤K;omega) _;exact (hol j (Nat.lt_of_lt_of_le hj hb.size) (fun e=>by have:=hlo j e;omega)).trans (hb.block j hj)
theorem Y8.chans {c:Cfg} (h:Y8 c 0 0):c.nCh≤8:=by
 unfold Y8 at h;rcases h with h|h|⟨_,_,i,_,h,_⟩|h|⟨_,_,_,_,i,_,h,_⟩|h|⟨_,_,_,_,_,_,i,_,h,_⟩|⟨_,_,_,_,_,_,_,i,_,h,_⟩|h
 ·exact absurd h.2.1 (by omega)
 ·exact absurd h.2.2.1 (by omega)
 ·exact absurd h (by omega)
 ·exact absurd h.2.2.2.2.1 (by omega)
 ·exact absurd h (by omega)
 ·exact absurd h.2.2.2.2.2.2.1 (by omega)
 ·exact absurd h (by omega)
 ·exact absurd h (by omega)
 ·exact h.2.2.2.1
theorem Y3h {w W w0:World} {K t tc:Nat} {cs:Array Value} {a b c d e:Value} (hB:Below (w.heap.size+1) (w.alloc (.cells cs tc)) W) (hK:K=W.heap.size) (h0:w0=W.alloc (.cells #[a,b,c,d,e] t)):
  Below w.heap.size w w0∧RowF w0 K 5 t (Xo a b c d e)∧K<w0.heap.size∧w.heap.size<K∧Below (w.heap.size+1) (w.alloc (.cells cs tc)) w0:=by
 subst hK h0;have hs:w.heap.size<W.heap.size:=by have:=hB.size;simp at this;omega
 exact ⟨(Yg hB).alloc (by omega) _,Y5G W _ _ _ _ _ _,by simp,hs,hB.alloc (by omega) _⟩
theorem XM (a:Int) (w:World):
  Calls Tryz.prog 41 #[.int .i64 a] w fun e w'=>e=.returned (.int .i64 a)∧w'=w:=by
 go_enter Tryz.func41,Tryz.ntmps41
 go_wp2
 go_ret;exact ⟨rfl,rfl⟩
theorem Y5W {n m:Nat} {z:Nat→Int} {k:Nat} (hk:k<m)
  (h:z (k*2)<0∨(n:Int)≤z (k*2)∨z (k*2+1)<1∨200<z (k*2+1)):¬Zt n m z:=by
 intro ⟨_,h2,h3⟩;have hw:=h2 k hk;unfold J7 at hw;have:=(Y27 z m (fun i hi=>(h2 i hi).2.2)).2 k hk;omega
theorem Yae (p:Option Addr) (m cap n:Nat) (z:Nat→Int) (w:World) (hs:Sl w p (m*2) (fun j=>.int .i64 (z j))) (hb:16*m≤140737488355328):
  Calls Tryz.prog 68 #[.slice p m cap,.int .i64 n] w (Ans (Zt n m z) (·=w)):=by
 have hB:m≤8796093022208:=by omega
 have HS:Hid (Sl w p (m*2) (fun j=>.int .i64 (z j))):=hs;clear hs hb
 go_enter Tryz.func68,Tryz.ntmps68
 go_wp2
 go_loop [5,6] (fun s i=>∃k:Nat,k≤m∧i=.int .i64 k∧s=.int .i64 (sumTo z k)∧Hid (∀i,i<k→J7 n z i∧z (i*2+1)≤200))
  (fun _ i=>m-(intOf i).toNat)
 case atStart=>exact ⟨0,Nat.zero_le _,rfl,rfl,fun i hi=>absurd hi (by omega)⟩
 case round=>
  obtain ⟨k,hk,rfl,rfl,HI⟩:=hrel;have hsum:=Y4L z k (fun i hi=>⟨(HI.out i hi).1.2.2,(HI.out i hi).2⟩);by_cases hlt:k<m
  ·obtain ⟨b,off,rfl,hc⟩:=HS.out.at (by omega);have c0:=hc (k*2) (by omega);have c1:=hc (k*2+1) (by omega);rw [←Nat.add_assoc] at c1;clear hc;generalize hz0:z (k*2)=x at *;generalize hz1:z (k*2+1)=y at *;have HZ0:Hid (z (k*2)=x):=hz0;have HZ1:Hid (z (k*2+1)=y):=hz1;clear hz0 hz1;go_wp2
   case roundEnd=>
    refine ⟨⟨k+1,by omega,by go_num,by simp only [sumTo];rw [HZ1.out],fun i hi=>?_⟩,by simp [intOf];omega⟩;rcases Nat.lt_or_ge i k with hl|hl
    ·exact HI.out i hl
    ·obtain rfl:i=k:=by omega
     unfold J7;rw [HZ0.out,HZ1.out];omega
   all_goals
    go_ret;exact Ans.no (Y5W hlt (by rw [HZ0.out,HZ1.out];omega)) rfl
  ·obtain rfl:k=m:=by omega
   go_wp2
   ·go_ret;refine Ans.of ?_ rfl;simp only [decide_eq_true_eq];exact ⟨fun h=>⟨by omega,fun i hi=>(HI.out i hi).1,h⟩,fun h=>h.2.2⟩
   ·go_ret;exact Ans.no (fun h=>by have:=h.1;omega) rfl
theorem YbK {c:Cfg} {cell kind x y:Int} {m ende:Nat} (hm:(m:Int)<c.nCh) (hx:c.ch (m*3)=x) (hy:c.ch (m*3+ende)=y) (b:Bool) (hb:b=(decide (x=kind) && decide (y=cell))):b=true↔YA c cell m kind ende:=by
 subst hb;simp only [Bool.and_eq_true,decide_eq_true_eq,YA,Int.toNat_natCast,hx,hy];exact ⟨fun h=>⟨by omega,hm,h.1,h.2⟩,fun h=>⟨h.2.2.1,h.2.2.2⟩⟩
theorem Y3P (c:Cfg) (v0 v1 v3:Value) (p:Option Addr) (cap:Nat) (cell n kind:Int) (w:World) (hs:Sl w p (c.nCh*3) (fun j=>.int .i64 (c.ch j))) (hb:24*c.nCh≤140737488355328):
  Calls Tryz.prog 87 #[.agg #[v0,v1,.slice p c.nCh cap,v3],.int .i64 cell,.int .i64 n,.int .i64 kind,.bool true] w (Ans (YA c cell n kind 1) (Below w.heap.size w)):=by
 have hB:c.nCh≤8796093022208:=by omega
 have HS:Hid (Sl w p (c.nCh*3) (fun j=>.int .i64 (c.ch j))):=hs;clear hs hb;have HB:Hid (∀o,Below w.heap.size w (w.alloc o)):=fun o=>(Below.refl _ _).alloc (Nat.le_refl _) _;by_cases h0:n<0
 ·go_enter Tryz.func87,Tryz.ntmps87
  go_wp2
  go_ret;exact Ans.no (fun h=>by have:=h.1;omega) (HB.out _)
 ·by_cases h1:(c.nCh:Int)≤n
  ·go_enter Tryz.func87,Tryz.ntmps87
   go_wp2
   go_ret;exact Ans.no (fun h=>by have:=h.2.1;omega) (HB.out _)
  ·obtain ⟨m,rfl⟩:=Int.eq_ofNat_of_zero_le (a:=n) (by omega);obtain ⟨b,off,rfl,hc⟩:=HS.out.at (by omega);have c0:=hc (m*3) (by omega);have c1:=hc (m*3+1) (by omega);have hlt:b<w.heap.size:=block_lt_of_cell c0;rw [←Nat.add_assoc] at c1;clear hc;have hm:(m:Int)<c.nCh:=by omega
   have HU1:=fun b h=>@YbK c cell kind _ _ m 1 hm rfl rfl b h;generalize c.ch (m*3)=x at *;generalize c.ch (m*3+1)=y1 at *;have HU:Hid (∀b,b=(decide (x=kind) && decide (y1=cell))→(b=true↔YA c cell m kind 1)):=HU1;clear HU1
   go_enter Tryz.func87,Tryz.ntmps87
   go_wp2
   ·have hx:(x != kind)=true:=by assumption
    go_ret;exact Ans.of (b:=false) (HU.out _ (by simp only [bne_iff_ne,ne_eq] at hx;simp [hx])) (HB.out _)
   ·have hx:(x != kind)=false:=by assumption
    go_ret;exact Ans.of (b:=(y1==cell)) (HU.out _ (by simp only [bne_eq_false_iff_eq] at hx;subst hx;simp;rfl)) (HB.out _)
theorem Y1C (c:Cfg) (v0 v1 v3:Value) (p:Option Addr) (cap:Nat) (cell n kind:Int) (w:World) (hs:Sl w p (c.nCh*3) (fun j=>.int .i64 (c.ch j))) (hb:24*c.nCh≤140737488355328):
  Calls Tryz.prog 87 #[.agg #[v0,v1,.slice p c.nCh cap,v3],.int .i64 cell,.int .i64 n,.int .i64 kind,.bool false] w (Ans (YA c cell n kind 2) (Below w.heap.size w)):=by
 have hB:c.nCh≤8796093022208:=by omega
 have HS:Hid (Sl w p (c.nCh*3) (fun j=>.int .i64 (c.ch j))):=hs;clear hs hb;have HB:Hid (∀o,Below w.heap.size w (w.alloc o)):=fun o=>(Below.refl _ _).alloc (Nat.le_refl _) _;by_cases h0:n<0
 ·go_enter Tryz.func87,Tryz.ntmps87
  go_wp2
  go_ret;exact Ans.no (fun h=>by have:=h.1;omega) (HB.out _)
 ·by_cases h1:(c.nCh:Int)≤n
  ·go_enter Tryz.func87,Tryz.ntmps87
   go_wp2
   go_ret;exact Ans.no (fun h=>by have:=h.2.1;omega) (HB.out _)
  ·obtain ⟨m,rfl⟩:=Int.eq_ofNat_of_zero_le (a:=n) (by omega);obtain ⟨b,off,rfl,hc⟩:=HS.out.at (by omega);have c0:=hc (m*3) (by omega);have c1:=hc (m*3+2) (by omega);have hlt:b<w.heap.size:=block_lt_of_cell c0;rw [←Nat.add_assoc] at c1;clear hc;have hm:(m:Int)<c.nCh:=by omega
   have HU1:=fun b h=>@YbK c cell kind _ _ m 2 hm rfl rfl b h;generalize c.ch (m*3)=x at *;generalize c.ch (m*3+2)=y1 at *;have HU:Hid (∀b,b=(decide (x=kind) && decide (y1=cell))→(b=true↔YA c cell m kind 2)):=HU1;clear HU1
   go_enter Tryz.func87,Tryz.ntmps87
   go_wp2
   ·have hx:(x != kind)=true:=by assumption
    go_ret;exact Ans.of (b:=false) (HU.out _ (by simp only [bne_iff_ne,ne_eq] at hx;simp [hx])) (HB.out _)
   ·have hx:(x != kind)=false:=by assumption
    go_ret;exact Ans.of (b:=(y1==cell)) (HU.out _ (by simp only [bne_eq_false_iff_eq] at hx;subst hx;simp;rfl)) (HB.out _)
theorem Y9F (v0 v1 v2 v3:Value) (cell op r a n:Int) (w:World) (hbad:op<0∨16<op∨r<0∨4≤r∨a<0∨4≤a):
  Calls Tryz.prog 69 #[.agg #[v0,v1,v2,v3],.int .i64 cell,.agg #[.int .i64 op,.int .i64 r,.int .i64 a,.int .i64 n]] w fun e w'=>e=.returned (.bool false)∧Below w.heap.size w w':=by
 have HB:Hid (∀o o',Below w.heap.size w ((w.alloc o).alloc o')):=fun o o'=>((Below.refl _ _).alloc (Nat.le_refl _) _).alloc (by simp) _
 go_enter Tryz.func69,Tryz.ntmps69
 go_wp2_with fail
 all_goals
  go_ret;exact ⟨rfl,HB.out _ _⟩
theorem Y6y (v0 v1 v2 v3:Value) (cell op r a n:Int) (w:World) (h0:0≤op) (h1:op≤16) (h2:0≤r) (h3:r<4) (h4:0≤a) (h5:a<4) (q8:(op==8)=false) (q9:(op==9)=false) (q10:(op==10)=false) (q11:(op==11)=false) (q12:(op==12)=false) (q16:(op==16)=false) (q13:(op==13)=false) (q14:(op==14)=false):
  Calls Tryz.prog 69 #[.agg #[v0,v1,v2,v3],.int .i64 cell,.agg #[.int .i64 op,.int .i64 r,.int .i64 a,.int .i64 n]] w fun e w'=>e=.returned (.bool true)∧Below w.heap.size w w':=by
 have HB:Hid (∀o o',Below w.heap.size w ((w.alloc o).alloc o')):=fun o o'=>((Below.refl _ _).alloc (Nat.le_refl _) _).alloc (by simp) _
 go_enter Tryz.func69,Tryz.ntmps69
 go_wp2_with fail
 all_goals
  go_ret;exact ⟨rfl,HB.out _ _⟩
theorem Y5e (c:Cfg) (v0 v1 v3:Value) (p:Option Addr) (cap:Nat) (cell r a n:Int) (w:World) (h2:0≤r) (h3:r<4) (h4:0≤a) (h5:a<4) (hs:Sl w p (c.nCh*3) (fun j=>.int .i64 (c.ch j))) (hb:24*c.nCh≤140737488355328):
  Calls Tryz.prog 69 #[.agg #[v0,v1,.slice p c.nCh cap,v3],.int .i64 cell,.agg #[.int .i64 10,.int .i64 r,.int .i64 a,.int .i64 n]] w (Ans (YA c cell n 1 1) (Below w.heap.size w)):=by
 have HB:Hid (∀o o',Below w.heap.size w ((w.alloc o).alloc o')):=fun o o'=>((Below.refl _ _).alloc (Nat.le_refl _) _).alloc (by simp) _;have HS:Hid (Sl w p (c.nCh*3) (fun j=>.int .i64 (c.ch j))):=hs;have HN:Hid (24*c.nCh≤140737488355328):=hb;clear hs hb
 go_enter Tryz.func69,Tryz.ntmps69
 go_wp2_with (go_at_call 87;refine (Y3P c _ _ _ p cap _ _ _ _ (by exact HS.out.below (HB.out _ _)) HN.out).mono ?_;rintro e w' ⟨b,rfl,hiff,hbel⟩)
 go_ret;exact Ans.of hiff ((HB.out _ _).trans (hbel.mono (by simp;omega)))
theorem Ybj (c:Cfg) (v0 v1 v3:Value) (p:Option Addr) (cap:Nat) (cell r a n:Int) (w:World) (h2:0≤r) (h3:r<4) (h4:0≤a) (h5:a<4) (hs:Sl w p (c.nCh*3) (fun j=>.int .i64 (c.ch j))) (hb:24*c.nCh≤140737488355328):
  Calls Tryz.prog 69 #[.agg #[v0,v1,.slice p c.nCh cap,v3],.int .i64 cell,.agg #[.int .i64 11,.int .i64 r,.int .i64 a,.int .i64 n]] w (Ans (YA c cell n 2 1) (Below w.heap.size w)):=by
 have HB:Hid (∀o o',Below w.heap.size w ((w.alloc o).alloc o')):=fun o o'=>((Below.refl _ _).alloc (Nat.le_refl _) _).alloc (by simp) _;have HS:Hid (Sl w p (c.nCh*3) (fun j=>.int .i64 (c.ch j))):=hs;have HN:Hid (24*c.nCh≤140737488355328):=hb;clear hs hb
 go_enter Tryz.func69,Tryz.ntmps69
 go_wp2_with (go_at_call 87;refine (Y3P c _ _ _ p cap _ _ _ _ (by exact HS.out.below (HB.out _ _)) HN.out).mono ?_;rintro e w' ⟨b,rfl,hiff,hbel⟩)
 go_ret;exact Ans.of hiff ((HB.out _ _).trans (hbel.mono (by simp;omega)))
theorem Y8Y (c:Cfg) (v0 v1 v3:Value) (p:Option Addr) (cap:Nat) (cell r a n:Int) (w:World) (h2:0≤r) (h3:r<4) (h4:0≤a) (h5:a<4) (hs:Sl w p (c.nCh*3) (fun j=>.int .i64 (c.ch j))) (hb:24*c.nCh≤140737488355328):
  Calls Tryz.prog 69 #[.agg #[v0,v1,.slice p c.nCh cap,v3],.int .i64 cell,.agg #[.int .i64 12,.int .i64 r,.int .i64 a,.int .i64 n]] w (Ans (YA c cell n 1 2) (Below w.heap.size w)):=by
 have HB:Hid (∀o o',Below w.heap.size w ((w.alloc o).alloc o')):=fun o o'=>((Below.refl _ _).alloc (Nat.le_refl _) _).alloc (by simp) _;have HS:Hid (Sl w p (c.nCh*3) (fun j=>.int .i64 (c.ch j))):=hs;have HN:Hid (24*c.nCh≤140737488355328):=hb;clear hs hb
 go_enter Tryz.func69,Tryz.ntmps69
 go_wp2_with (go_at_call 87;refine (Y1C c _ _ _ p cap _ _ _ _ (by exact HS.out.below (HB.out _ _)) HN.out).mono ?_;rintro e w' ⟨b,rfl,hiff,hbel⟩)
 go_ret;exact Ans.of hiff ((HB.out _ _).trans (hbel.mono (by simp;omega)))
theorem Y8k (c:Cfg) (v0 v1 v3:Value) (p:Option Addr) (cap:Nat) (cell r a n:Int) (w:World) (h2:0≤r) (h3:r<4) (h4:0≤a) (h5:a<4) (hs:Sl w p (c.nCh*3) (fun j=>.int .i64 (c.ch j))) (hb:24*c.nCh≤140737488355328):
  Calls Tryz.prog 69 #[.agg #[v0,v1,.slice p c.nCh cap,v3],.int .i64 cell,.agg #[.int .i64 16,.int .i64 r,.int .i64 a,.int .i64 n]] w (Ans (YA c cell n 1 2) (Below w.heap.size w)):=by
 have HB:Hid (∀o o',Below w.heap.size w ((w.alloc o).alloc o')):=fun o o'=>((Below.refl _ _).alloc (Nat.le_refl _) _).alloc (by simp) _;have HS:Hid (Sl w p (c.nCh*3) (fun j=>.int .i64 (c.ch j))):=hs;have HN:Hid (24*c.nCh≤140737488355328):=hb;clear hs hb
 go_enter Tryz.func69,Tryz.ntmps69
 go_wp2_with (go_at_call 87;refine (Y1C c _ _ _ p cap _ _ _ _ (by exact HS.out.below (HB.out _ _)) HN.out).mono ?_;rintro e w' ⟨b,rfl,hiff,hbel⟩)
 go_ret;exact Ans.of hiff ((HB.out _ _).trans (hbel.mono (by simp;omega)))
theorem Y8G (c:Cfg) (v0 v1 v3:Value) (p:Option Addr) (cap:Nat) (cell r a n:Int) (w:World) (h2:0≤r) (h3:r<4) (h4:0≤a) (h5:a<4) (hs:Sl w p (c.nCh*3) (fun j=>.int .i64 (c.ch j))) (hb:24*c.nCh≤140737488355328):
  Calls Tryz.prog 69 #[.agg #[v0,v1,.slice p c.nCh cap,v3],.int .i64 cell,.agg #[.int .i64 13,.int .i64 r,.int .i64 a,.int .i64 n]] w (Ans (YA c cell n 2 2) (Below w.heap.size w)):=by
 have HB:Hid (∀o o',Below w.heap.size w ((w.alloc o).alloc o')):=fun o o'=>((Below.refl _ _).alloc (Nat.le_refl _) _).alloc (by simp) _;have HS:Hid (Sl w p (c.nCh*3) (fun j=>.int .i64 (c.ch j))):=hs;have HN:Hid (24*c.nCh≤140737488355328):=hb;clear hs hb
 go_enter Tryz.func69,Tryz.ntmps69
 go_wp2_with (go_at_call 87;refine (Y1C c _ _ _ p cap _ _ _ _ (by exact HS.out.below (HB.out _ _)) HN.out).mono ?_;rintro e w' ⟨b,rfl,hiff,hbel⟩)
 go_ret;exact Ans.of hiff ((HB.out _ _).trans (hbel.mono (by simp;omega)))
theorem Y5D (v1 v2 v3:Value) (b0 off0 nC cap0 cell nc capc:Nat) (pc:Option Addr) (r a n:Int) (w:World) (h2:0≤r) (h3:r<4) (h4:0≤a) (h5:a<4) (hlt:cell<nC)
  (hc:w.cell? ⟨b0,off0+cell*3,none⟩=some (.slice pc nc capc)):
  Calls Tryz.prog 69 #[.agg #[.slice (some ⟨b0,off0,none⟩) nC cap0,v1,v2,v3],.int .i64 cell,.agg #[.int .i64 8,.int .i64 r,.int .i64 a,.int .i64 n]] w (Ans (0≤n∧n<nc) (Below w.heap.size w)):=by
 have HB:Hid (∀o o',Below w.heap.size w ((w.alloc o).alloc o')):=fun o o'=>((Below.refl _ _).alloc (Nat.le_refl _) _).alloc (by simp) _;have hb0:b0<w.heap.size:=block_lt_of_cell hc;by_cases h0:0≤n
 ·have hd:decide (0≤n)=true:=by simpa using h0
  go_enter Tryz.func69,Tryz.ntmps69
  go_wp2
  go_quiet (fail)
  go_wp2
  go_ret;exact Ans.of (b:=decide (n<(nc:Int))) (by simp only [decide_eq_true_eq];omega) (below_drewN (HB.out _ _) _)
 ·have hd:decide (0≤n)=false:=by simpa using h0
  go_enter Tryz.func69,Tryz.ntmps69
  go_wp2
  go_quiet (fail)
  go_wp2
  go_ret;exact Ans.no (by omega) (below_drewN (HB.out _ _) _)
theorem Y6T (v1 v2 v3:Value) (b0 off0 nC cap0 cell nc capc:Nat) (pc:Option Addr) (r a n:Int) (w:World) (h2:0≤r) (h3:r<4) (h4:0≤a) (h5:a<4) (hlt:cell<nC)
  (hc:w.cell? ⟨b0,off0+cell*3,none⟩=some (.slice pc nc capc)):
  Calls Tryz.prog 69 #[.agg #[.slice (some ⟨b0,off0,none⟩) nC cap0,v1,v2,v3],.int .i64 cell,.agg #[.int .i64 9,.int .i64 r,.int .i64 a,.int .i64 n]] w (Ans (0≤n∧n<nc) (Below w.heap.size w)):=by
 have HB:Hid (∀o o',Below w.heap.size w ((w.alloc o).alloc o')):=fun o o'=>((Below.refl _ _).alloc (Nat.le_refl _) _).alloc (by simp) _;have hb0:b0<w.heap.size:=block_lt_of_cell hc;by_cases h0:0≤n
 ·have hd:decide (0≤n)=true:=by simpa using h0
  go_enter Tryz.func69,Tryz.ntmps69
  go_wp2
  go_quiet (fail)
  go_wp2
  go_ret;exact Ans.of (b:=decide (n<(nc:Int))) (by simp only [decide_eq_true_eq];omega) (below_drewN (HB.out _ _) _)
 ·have hd:decide (0≤n)=false:=by simpa using h0
  go_enter Tryz.func69,Tryz.ntmps69
  go_wp2
  go_quiet (fail)
  go_wp2
  go_ret;exact Ans.no (by omega) (below_drewN (HB.out _ _) _)
theorem Y9m (c:Cfg) (v0 v1 v2:Value) (p:Option Addr) (cap:Nat) (cell r a n:Int) (w:World) (h2:0≤r) (h3:r<4) (h4:0≤a) (h5:a<4) (hs:Sl w p c.nD (fun j=>.int .i64 (c.dv j))) (hb:8*c.nD≤140737488355328):
  Calls Tryz.prog 69 #[.agg #[v0,v1,v2,.slice p c.nD cap],.int .i64 cell,.agg #[.int .i64 14,.int .i64 r,.int .i64 a,.int .i64 n]] w (Ans (0≤n∧n<c.nD∧c.dv n.toNat=cell) (Below w.heap.size w)):=by
 have hB:c.nD≤17592186044416:=by omega
 have HB:Hid (∀o o',Below w.heap.size w ((w.alloc o).alloc o')):=fun o o'=>((Below.refl _ _).alloc (Nat.le_refl _) _).alloc (by simp) _;have HS:Hid (Sl w p c.nD (fun j=>.int .i64 (c.dv j))):=hs;clear hs hb;by_cases h0:n<0
 ·go_enter Tryz.func69,Tryz.ntmps69
  go_wp2
  go_ret;exact Ans.no (by omega) (HB.out _ _)
 ·by_cases h1:(c.nD:Int)≤n
  ·go_enter Tryz.func69,Tryz.ntmps69
   go_wp2
   go_ret;exact Ans.no (by omega) (HB.out _ _)
  ·obtain ⟨m,rfl⟩:=Int.eq_ofNat_of_zero_le (a:=n) (by omega);obtain ⟨b,off,rfl,hc⟩:=HS.out.at (by omega);have c0:=hc m (by omega);have hlt:b<w.heap.size:=block_lt_of_cell c0;clear hc;have hm:(m:Int)<c.nD:=by omega
   rw [Int.toNat_natCast];generalize c.dv m=x at *
   go_enter Tryz.func69,Tryz.ntmps69
   go_wp2
   go_ret;exact Ans.of (b:=(x==cell)) (by simp only [beq_iff_eq]) (HB.out _ _)
theorem Ans.iff {P P':Prop} {W:World→Prop} {e:Ending} {w':World} (h:Ans P W e w') (hp:P↔P'):Ans P' W e w':=by
 obtain ⟨b,h1,h2,h3⟩:=h;exact ⟨b,h1,h2.trans hp,h3⟩
theorem Y3J (c:Cfg) (v1:Value) (b0 off0 cap0 cell capc cap2 cap3:Nat) (pc p2 p3:Option Addr) (op r a n:Int) (w:World) (hlt:cell<c.nC)
  (hc:w.cell? ⟨b0,off0+cell*3,none⟩=some (.slice pc (c.nCode cell) capc)) (hs2:Sl w p2 (c.nCh*3) (fun j=>.int .i64 (c.ch j))) (hb2:24*c.nCh≤140737488355328)
  (hs3:Sl w p3 c.nD (fun j=>.int .i64 (c.dv j))) (hb3:8*c.nD≤140737488355328):
  Calls Tryz.prog 69 #[.agg #[.slice (some ⟨b0,off0,none⟩) c.nC cap0,v1,.slice p2 c.nCh cap2,.slice p3 c.nD cap3],.int .i64 cell,.agg #[.int .i64 op,.int .i64 r,.int .i64 a,.int .i64 n]] w (Ans (Xe c cell (c.nCode cell) op r a n) (Below w.heap.size w)):=by
 by_cases hr:op<0∨16<op∨r<0∨4≤r∨a<0∨4≤a
 ·refine (Y9F _ _ _ _ _ _ _ _ _ _ hr).mono ?_;rintro e w' ⟨rfl,hb⟩;exact Ans.no (fun h=>by unfold Xe at h;omega) hb
 ·have h0:0≤op:=by omega
  have h1:op≤16:=by omega
  have h2:0≤r:=by omega
  have h3:r<4:=by omega
  have h4:0≤a:=by omega
  have h5:a<4:=by omega
  by_cases e8:op=8
  ·subst e8;refine (Y5D _ _ _ b0 off0 c.nC cap0 cell (c.nCode cell) capc pc r a n w h2 h3 h4 h5 hlt hc).mono fun e w' h=>h.iff ?_;unfold Xe;constructor
   ·intro h;exact ⟨by omega,by omega,by omega,fun _=>h,by omega,by omega,by omega,by omega,by omega⟩
   ·intro h;exact h.2.2.2.1 (Or.inl rfl)
  by_cases e9:op=9
  ·subst e9;refine (Y6T _ _ _ b0 off0 c.nC cap0 cell (c.nCode cell) capc pc r a n w h2 h3 h4 h5 hlt hc).mono fun e w' h=>h.iff ?_;unfold Xe;constructor
   ·intro h;exact ⟨by omega,by omega,by omega,fun _=>h,by omega,by omega,by omega,by omega,by omega⟩
   ·intro h;exact h.2.2.2.1 (Or.inr rfl)
  by_cases e10:op=10
  ·subst e10;refine (Y5e c _ _ _ p2 cap2 cell r a n w h2 h3 h4 h5 hs2 hb2).mono fun e w' h=>h.iff ?_;unfold Xe;constructor
   ·intro h;exact ⟨by omega,by omega,by omega,by omega,fun _=>h,by omega,by omega,by omega,by omega⟩
   ·intro h;exact h.2.2.2.2.1 rfl
  by_cases e11:op=11
  ·subst e11;refine (Ybj c _ _ _ p2 cap2 cell r a n w h2 h3 h4 h5 hs2 hb2).mono fun e w' h=>h.iff ?_;unfold Xe;constructor
   ·intro h;exact ⟨by omega,by omega,by omega,by omega,by omega,fun _=>h,by omega,by omega,by omega⟩
   ·intro h;exact h.2.2.2.2.2.1 rfl
  by_cases e12:op=12
  ·subst e12;refine (Y8Y c _ _ _ p2 cap2 cell r a n w h2 h3 h4 h5 hs2 hb2).mono fun e w' h=>h.iff ?_;unfold Xe;constructor
   ·intro h;exact ⟨by omega,by omega,by omega,by omega,by omega,by omega,fun _=>h,by omega,by omega⟩
   ·intro h;exact h.2.2.2.2.2.2.1 (Or.inl rfl)
  by_cases e16:op=16
  ·subst e16;refine (Y8k c _ _ _ p2 cap2 cell r a n w h2 h3 h4 h5 hs2 hb2).mono fun e w' h=>h.iff ?_;unfold Xe;constructor
   ·intro h;exact ⟨by omega,by omega,by omega,by omega,by omega,by omega,fun _=>h,by omega,by omega⟩
   ·intro h;exact h.2.2.2.2.2.2.1 (Or.inr rfl)
  by_cases e13:op=13
  ·subst e13;refine (Y8G c _ _ _ p2 cap2 cell r a n w h2 h3 h4 h5 hs2 hb2).mono fun e w' h=>h.iff ?_;unfold Xe;constructor
   ·intro h;exact ⟨by omega,by omega,by omega,by omega,by omega,by omega,by omega,fun _=>h,by omega⟩
   ·intro h;exact h.2.2.2.2.2.2.2.1 rfl
  by_cases e14:op=14
  ·subst e14;refine (Y9m c _ _ _ p3 cap3 cell r a n w h2 h3 h4 h5 hs3 hb3).mono fun e w' h=>h.iff ?_;unfold Xe;constructor
   ·intro h;exact ⟨by omega,by omega,by omega,by omega,by omega,by omega,by omega,by omega,fun _=>h⟩
   ·intro h;exact h.2.2.2.2.2.2.2.2 rfl
  refine (Y6y _ _ _ _ _ _ _ _ _ _ h0 h1 h2 h3 h4 h5 (by simpa using e8) (by simpa using e9) (by simpa using e10) (by simpa using e11) (by simpa using e12) (by simpa using e16) (by simpa using e13) (by simpa using e14)).mono ?_;rintro e w' ⟨rfl,hb⟩;exact Ans.yes ⟨by omega,by omega,by omega,by omega,by omega,by omega,by omega,by omega,by omega⟩ hb
end Go.Proofs.YtdoghgnifkgfdaaGreat
