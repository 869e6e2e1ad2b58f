import Derived.Deep.RegionLaw
import Derived.Test.YtdoghgnifkgfdaaGreatP12
set_option maxRecDepth 100000
set_option maxHeartbeats 16000000
namespace Go.Proofs.YtdoghgnifkgfdaaGreat
open Go.RowKit
structure Yc4 (w:World) (A:Nat→Option Addr) (P:Pl):Prop where
 code:∀i,i<4→Sl w (A i) (P.nC i*4) (fun j=>.int .i64 (P.code i j))∧Wf (P.nC i*4) (P.code i)∧P.nC i≤100000000000000000
 ways:Sl w (A 4) P.nW (fun j=>.int .i64 (P.ways j))∧Wf P.nW P.ways∧P.nW≤100000000000000000
 devs:Sl w (A 5) P.nD (fun j=>.int .i64 (P.devs j))∧Wf P.nD P.devs∧P.nD≤100000000000000000
 lim:Wf 4 P.lim
def YbT (A:Nat→Option Addr) (K:Nat→Nat) (P:Pl) (j:Nat):Value:=if j<4 then .slice (A j) (P.nC j) (K j) else if j<8 then .int .i64 (P.lim (j-4)) else if j<12 then .int .i64 (P.img (j-8)) else if j=12 then .slice (A 4) P.nW (K 4) else .slice (A 5) P.nD (K 5)
def Yci (A:Nat→Option Addr) (K:Nat→Nat) (P:Pl):Value:=.agg #[.slice (A 0) (P.nC 0) (K 0),.slice (A 1) (P.nC 1) (K 1),.slice (A 2) (P.nC 2) (K 2),.slice (A 3) (P.nC 3) (K 3),.int .i64 (P.lim 0),.int .i64 (P.lim 1),.int .i64 (P.lim 2),.int .i64 (P.lim 3),.int .i64 (P.img 0),.int .i64 (P.img 1),.int .i64 (P.img 2),.int .i64 (P.img 3),.slice (A 4) P.nW (K 4),.slice (A 5) P.nD (K 5)]
def Yc3 (A:Nat→Option Addr) (K:Nat→Nat) (P:Pl):Obj:=.cells #[.slice (A 0) (P.nC 0) (K 0),.slice (A 1) (P.nC 1) (K 1),.slice (A 2) (P.nC 2) (K 2),.slice (A 3) (P.nC 3) (K 3),.int .i64 (P.lim 0),.int .i64 (P.lim 1),.int .i64 (P.lim 2),.int .i64 (P.lim 3),.int .i64 (P.img 0),.int .i64 (P.img 1),.int .i64 (P.img 2),.int .i64 (P.img 3),.slice (A 4) P.nW (K 4),.slice (A 5) P.nD (K 5)] 39
theorem YcI (w:World) (A:Nat→Option Addr) (K:Nat→Nat) (P:Pl):RowF (w.alloc (Yc3 A K P)) w.heap.size 14 39 (YbT A K P):=
 RowF.new w #[.slice (A 0) (P.nC 0) (K 0),.slice (A 1) (P.nC 1) (K 1),.slice (A 2) (P.nC 2) (K 2),.slice (A 3) (P.nC 3) (K 3),.int .i64 (P.lim 0),.int .i64 (P.lim 1),.int .i64 (P.lim 2),.int .i64 (P.lim 3),.int .i64 (P.img 0),.int .i64 (P.img 1),.int .i64 (P.img 2),.int .i64 (P.img 3),.slice (A 4) P.nW (K 4),.slice (A 5) P.nD (K 5)] 39 (YbT A K P) fun j hj=>by
  have:j=0∨j=1∨j=2∨j=3∨j=4∨j=5∨j=6∨j=7∨j=8∨j=9∨j=10∨j=11∨j=12∨j=13:=by simp at hj;omega
  rcases this with rfl|rfl|rfl|rfl|rfl|rfl|rfl|rfl|rfl|rfl|rfl|rfl|rfl|rfl<;>rfl
def twoF (x:Int) (j:Nat):Value:=if j=0 then .int .i64 x else .int .i64 3
theorem YdS (w:World) (x:Int) (t:Nat):RowF (w.alloc (.cells #[.int .i64 x,.int .i64 3] t)) w.heap.size 2 t (twoF x):=
 RowF.new w #[.int .i64 x,.int .i64 3] t _ fun j hj=>by
  have:j=0∨j=1:=by simp at hj;omega
  rcases this with rfl|rfl<;>rfl
structure OneW (w wx:World) (V U:Nat→Value) (B9 BI:Nat) (v:Value) (im lm:Int):Prop where
 bel:Below w.heap.size w wx
 r0:RowF wx w.heap.size 14 39 V
 r1:RowF wx (w.heap.size+1) 4 28 U
 r2:RowF wx (w.heap.size+1+1) 3 53 (cells3 (.slice none 0 0) (.slice none 0 0) (.int .i64 0))
 r9:RowF wx B9 3 53 (cells3 v (.slice (some ⟨BI,0,none⟩) 2 2) (.int .i64 lm))
 ri:RowF wx BI 2 2 (twoF im)
 hb:w.heap.size+3≤B9∧w.heap.size+3≤BI
theorem YbW {w:World} {base e s n B m t:Nat} {v:Value} {xs:List Value} {f:Nat→Value} (h:w.ownsRow base e s v n xs) (hr:RowF w B m t f) (ht:e≠t):v.ownBlock≠some B:=fun hv=>by
 rcases h.2 with ⟨rfl,_⟩|⟨g,cap,cur,rfl,hb,hg,_⟩
 ·cases hv
 ·obtain rfl:g=B:=by simpa [Value.ownBlock] using hv
  obtain ⟨cs,hh,_⟩:=hr;rw [hg] at hh;injection hh with hh
  injection hh with _ hh
  exact ht hh
section
variable {w W wr wg:World} {V U:Nat→Value} {B9 BI x:Nat} {v nv:Value} {im lm:Int} {xs ys:List Value}
theorem OneW.a (hB:Below w.heap.size w W) (r0:RowF W w.heap.size 14 39 V) (r1:RowF W (w.heap.size+1) 4 28 U) (r2:RowF W (w.heap.size+1+1) 3 53 (cells3 (.slice none 0 0) (.slice none 0 0) (.int .i64 0))) (hz:W.heap.size=w.heap.size+1+1+1):
  OneW w ((W.alloc (.cells #[.int .i64 im,.int .i64 3] 2)).alloc (.cells #[.slice none 0 0,.slice (some ⟨w.heap.size+1+1+1,0,none⟩) 2 2,.int .i64 lm] 53)).drew V U (w.heap.size+1+1+1+1) (w.heap.size+1+1+1) (.slice none 0 0) im lm:=by
 have x1:=(YdS W im 2).alloc (.cells #[.slice none 0 0,.slice (some ⟨w.heap.size+1+1+1,0,none⟩) 2 2,.int .i64 lm] 53);have x2:=row3 (W.alloc (.cells #[.int .i64 im,.int .i64 3] 2)) (.slice none 0 0) (.slice (some ⟨w.heap.size+1+1+1,0,none⟩) 2 2) (.int .i64 lm) 53;rw [hz] at x1;rw [World.size_alloc,hz] at x2;exact ⟨((hB.alloc (by omega) _).alloc (by simp;omega) _).drew,((r0.alloc _).alloc _).of_heap rfl,((r1.alloc _).alloc _).of_heap rfl,((r2.alloc _).alloc _).of_heap rfl,x2.of_heap rfl,x1.of_heap rfl,by omega,by omega⟩
theorem OneW.b (hB:Below w.heap.size w W) (r0:RowF W w.heap.size 14 39 V) (r1:RowF W (w.heap.size+1) 4 28 U) (r2:RowF W (w.heap.size+1+1) 3 53 (cells3 (.slice none 0 0) (.slice none 0 0) (.int .i64 0))) (hz:W.heap.size=w.heap.size+1+1+1):
  OneW w ((W.alloc (.cells #[.slice none 0 0,.slice (some ⟨w.heap.size+1+1+1+1,0,none⟩) 2 2,.int .i64 lm] 53)).alloc (.cells #[.int .i64 im,.int .i64 3] 2)).drew V U (w.heap.size+1+1+1) (w.heap.size+1+1+1+1) (.slice none 0 0) im lm:=by
 have x1:=(row3 W (.slice none 0 0) (.slice (some ⟨w.heap.size+1+1+1+1,0,none⟩) 2 2) (.int .i64 lm) 53).alloc (.cells #[.int .i64 im,.int .i64 3] 2);have x2:=YdS (W.alloc (.cells #[.slice none 0 0,.slice (some ⟨w.heap.size+1+1+1+1,0,none⟩) 2 2,.int .i64 lm] 53)) im 2;rw [hz] at x1;rw [World.size_alloc,hz] at x2;exact ⟨((hB.alloc (by omega) _).alloc (by simp;omega) _).drew,((r0.alloc _).alloc _).of_heap rfl,((r1.alloc _).alloc _).of_heap rfl,((r2.alloc _).alloc _).of_heap rfl,x1.of_heap rfl,x2.of_heap rfl,by omega,by omega⟩
theorem OneW.mid (h:OneW w wr V U B9 BI v im lm) (ho:wr.ownsRow (w.heap.size+3) 97 4 v x xs) (hW:Below wr.heap.size wr W) (hg:W.grownBy wg v.ownBlock):RowF wg B9 3 53 (cells3 v (.slice (some ⟨BI,0,none⟩) 2 2) (.int .i64 lm))∧RowF wg (w.heap.size+1+1) 3 53 (cells3 (.slice none 0 0) (.slice none 0 0) (.int .i64 0)):=by
 have old:∀j,j<wr.heap.size→v.ownBlock≠some j→wg.heap[j]?=wr.heap[j]?:=fun j hj hne=>(hg.block j (Nat.lt_of_lt_of_le hj hW.size) (fun e=>hne e.symm)).trans (hW.block j hj);exact ⟨h.r9.of_heap (old _ h.r9.lt (YbW ho h.r9 (by decide))),h.r2.of_heap (old _ h.r2.lt (fun e=>by have:=(ho.lt _ e).1;omega))⟩
theorem OneW.step (h:OneW w wr V U B9 BI v im lm) (ho:wr.ownsRow (w.heap.size+3) 97 4 v x xs) (hW:Below wr.heap.size wr W) (hg:W.grownBy wg v.ownBlock) (ho2:wg.ownsRow (w.heap.size+3) 97 4 nv (x+1) ys):
  OneW w (wg.setCell ⟨B9,0,none⟩ nv) V U B9 BI nv im lm∧(wg.setCell ⟨B9,0,none⟩ nv).ownsRow (w.heap.size+3) 97 4 nv (x+1) ys:=by
 have hlt:∀j,v.ownBlock=some j→w.heap.size+3≤j∧j<wr.heap.size:=ho.lt;have old:∀j,j<wr.heap.size→v.ownBlock≠some j→wg.heap[j]?=wr.heap[j]?:=fun j hj hne=>(hg.block j (Nat.lt_of_lt_of_le hj hW.size) (fun e=>hne e.symm)).trans (hW.block j hj);have low:∀j,j<w.heap.size+3→v.ownBlock≠some j:=fun j hj e=>by have:=(hlt j e).1;omega
 have k0:=h.r0.of_heap (old _ h.r0.lt (low _ (by omega)));have k1:=h.r1.of_heap (old _ h.r1.lt (low _ (by omega)));have k2:=h.r2.of_heap (old _ h.r2.lt (low _ (by omega)));have k9:=h.r9.of_heap (old _ h.r9.lt (YbW ho h.r9 (by decide)));have ki:=h.ri.of_heap (old _ h.ri.lt (YbW ho h.ri (by decide)));have hb:=h.hb;have hbi:BI≠B9:=fun e=>by
  obtain ⟨cs,hh,_⟩:=h.ri;obtain ⟨cs',hh',_⟩:=h.r9;rw [e,hh'] at hh;injection hh with hh
  injection hh with _ hh
  exact absurd hh (by decide)
 have hsz:=h.bel.size;have hB1:Below w.heap.size w wg:=⟨(hg.os.trans hW.os).trans h.bel.os,(hg.tape.trans hW.tape).trans h.bel.tape,(hg.output.trans hW.output).trans h.bel.output,Nat.le_trans hsz (Nat.le_trans hW.size hg.size),fun j hj=>(old j (by omega) (low j (by omega))).trans (h.bel.block j hj)⟩;refine ⟨⟨hB1.setCell (by simp;omega) _,k0.other _ _ (by simp;omega),k1.other _ _ (by simp;omega),k2.other _ _ (by simp;omega),(k9.set 0 _).congr fun j hj=>?_,ki.other _ _ (by simpa using hbi.symm),hb⟩,?_⟩
 ·have:j=0∨j=1∨j=2:=by omega
  rcases this with rfl|rfl|rfl<;>rfl
 ·have hne:=YbW ho2 k9 (by decide);rcases ho2 with ⟨hl,hv|⟨g,cap,cur,rfl,hgb,hgg,r⟩⟩
  ·exact ⟨hl,.inl hv⟩
  ·exact ⟨hl,.inr ⟨g,cap,cur,rfl,hgb,(heap_setCell_other _ _ _ _ (fun e=>hne (by show some g=some B9;rw [show g=B9 from e]))).trans hgg,r⟩⟩
end
theorem Yfi {P:Program} {ops:Array Oper} {o:Oper} {a:Act} {w:World} {K:Act→World→Prop} {Q:Exit→Act→World→Prop} {E:Prop} (hgd:o.guard=none) (f:FuncId) (s0 s1 s2 s3:Operand) (t0 t1 t2 t3:TypeId)
  (ho:o.op=.call {callee:=.value (.func f),args:=#[s0,s1,s2,s3],argTypes:=#[t0,t1,t2,t3]}) (v0 v1 v2 v3:Value) (hv0:a.eval s0=v0) (hv1:a.eval s1=v1) (hv2:a.eval s2=v2) (hv3:a.eval s3=v3)
  (fn : Func) (hf : P.funcs[f]? = some fn) (hn : (fn.name == "runtime.NumGoroutine") = false) (hb : fn.body.isNone = false) (R : Value → World → Prop)
  (h:Calls P f #[v0,v1,v2,v3] w (fun e w'=>∃r,e=.returned r∧R r w')) (hk:∀r w',R r w'→K (a.put o.dst r) w'):
  if Region.wanted o (yielded ops a.tmps)=true then Oper.wp P o a w K Q else E:=by
 have hw:Region.wanted o (yielded ops a.tmps)=true:=by simp [Region.wanted,hgd]
 rw [if_pos hw];unfold Oper.wp;have hr:(execOp a.eval o).run P w=.ok (.enter f #[v0,v1,v2,v3]) w:=by
  have e:a.eval (.func f)=.func (.func f) #[] #[]:=rfl;have hn' : ¬ fn.name = "runtime.NumGoroutine" := by simpa using hn
  have hb':¬fn.body=none:=by intro e;rw [e] at hb;cases hb
  simp [execOp,ho,resolve,invoke,hv0,hv1,hv2,hv3,e,Deferred.ofValue,callFunc,hf,hn',hb']
 rw [hr];refine h.mono ?_;rintro e w' ⟨r,rfl,hR⟩;exact hk r w' hR
theorem Y9x {P:Program} {ops:Array Oper} {o:Oper} {a:Act} {w:World} {K:Act→World→Prop} {Q:Exit→Act→World→Prop} {E:Prop} (hgd:o.guard=none) (f:FuncId) (s0 s1 s2:Operand) (t0 t1 t2:TypeId)
  (ho:o.op=.call {callee:=.value (.func f),args:=#[s0,s1,s2],argTypes:=#[t0,t1,t2]}) (v0 v1 v2:Value) (hv0:a.eval s0=v0) (hv1:a.eval s1=v1) (hv2:a.eval s2=v2)
  (fn : Func) (hf : P.funcs[f]? = some fn) (hn : (fn.name == "runtime.NumGoroutine") = false) (hb : fn.body.isNone = false) (R : Value → World → Prop)
  (h:Calls P f #[v0,v1,v2] w (fun e w'=>∃r,e=.returned r∧R r w')) (hk:∀r w',R r w'→K (a.put o.dst r) w'):
  if Region.wanted o (yielded ops a.tmps)=true then Oper.wp P o a w K Q else E:=by
 have hw:Region.wanted o (yielded ops a.tmps)=true:=by simp [Region.wanted,hgd]
 rw [if_pos hw];unfold Oper.wp;have hr:(execOp a.eval o).run P w=.ok (.enter f #[v0,v1,v2]) w:=by
  have e:a.eval (.func f)=.func (.func f) #[] #[]:=rfl;have hn' : ¬ fn.name = "runtime.NumGoroutine" := by simpa using hn
  have hb':¬fn.body=none:=by intro e;rw [e] at hb;cases hb
  simp [execOp,ho,resolve,invoke,hv0,hv1,hv2,e,Deferred.ofValue,callFunc,hf,hn',hb']
 rw [hr];refine h.mono ?_;rintro e w' ⟨r,rfl,hR⟩;exact hk r w' hR
theorem Ygb {W:World} {B:Nat} {a b c:Value} (h:RowF W B 3 53 (cells3 a b c)) (x0 x1 x2:Value):(((W.setCell ⟨B,0,none⟩ x0).setCell ⟨B,1,none⟩ x1).setCell ⟨B,2,none⟩ x2).heap[B]?=some (.cells #[x0,x1,x2] 53 (0,0)):=by
 have h2:RowF (((W.setCell ⟨B,0,none⟩ x0).setCell ⟨B,1,none⟩ x1).setCell ⟨B,2,none⟩ x2) B 3 53 (cells3 x0 x1 x2):=(((h.set 0 x0).set 1 x1).set 2 x2).congr fun j hj=>by
  have:j=0∨j=1∨j=2:=by omega
  rcases this with rfl|rfl|rfl<;>rfl
 obtain ⟨cs,h1,h3,h4⟩:=h2;rw [h1];congr 2;apply Array.ext
 ·simp [h3]
 ·intro j hj hj';have hj3:j<3:=by omega
  have:=h4 j hj3;rw [Array.getElem?_eq_getElem hj] at this;rw [Option.some.inj this];have:j=0∨j=1∨j=2:=by omega
  rcases this with rfl|rfl|rfl<;>rfl
theorem YeL:(Tryz.prog.info? 53).map (·.size)=some 3:=by kernel_rfl
theorem YcV {w:World} {b b' e size n:Nat} {v:Value} {xs:List Value} (h:w.ownsRow b e size v n xs) (hb:b'≤b):w.ownsRow b' e size v n xs:=by
 rcases h with ⟨hl,hv|⟨g,cap,cur,hv,hg,r⟩⟩
 ·exact ⟨hl,.inl hv⟩
 ·exact ⟨hl,.inr ⟨g,cap,cur,hv,Nat.le_trans hb hg,r⟩⟩
theorem Yc6 {w w':World} {b e s n:Nat} {v:Value} {xs:List Value} (h:w.ownsRow b e s v n xs) (hb:∀g,v.ownBlock=some g→w'.heap[g]?=w.heap[g]?):w'.ownsRow b e s v n xs:=by
 rcases h with ⟨hl,hv|⟨g,cap,cur,rfl,hg,hh,h1⟩⟩
 ·exact ⟨hl,.inl hv⟩
 ·exact ⟨hl,.inr ⟨g,cap,cur,rfl,hg,(hb g rfl).trans hh,h1⟩⟩
theorem YeT : (Tryz.f30.name == "runtime.NumGoroutine") = false := by kernel_rfl
theorem Ygo:Tryz.f30.body.isNone=false:=by kernel_rfl
theorem Yei:(Tryz.prog.info? 97).map (fun i=>(i.zero,i.size,i.bytes))=some (some (.agg #[.int .i64 0,.int .i64 0,.int .i64 0,.int .i64 0]),4,32):=by kernel_rfl
def Yc1 (z:Nat→Int) (m:Nat):List Value:=(List.range (m*4)).map fun j=>.int .i64 (z j)
theorem YdH (z:Nat→Int) (m:Nat):Yc1 z (m+1)=Yc1 z m++[.int .i64 (z (m*4)),.int .i64 (z (m*4+1)),.int .i64 (z (m*4+2)),.int .i64 (z (m*4+3))]:=by
 unfold Yc1;rw [show (m+1)*4=m*4+1+1+1+1 by omega,List.range_succ,List.range_succ,List.range_succ,List.range_succ];simp
theorem Ygr {k nd i x m:Nat} {ch dv:Nat→Int} {P:Pl} (hm:plN P i=m) (hx:x<m) (j:Nat) (hj:j<4):YbV k ch nd dv P i (x*4+j)=insF k ch nd dv i (m+1) (P.code i (x*4)) (P.code i (x*4+1)) (P.code i (x*4+2)) (P.code i (x*4+3)) j:=by
 unfold YbV;rw [hm,show (x*4+j) / 4=x by omega,show (x*4+j) % 4=j by omega,if_pos hx]
theorem Ygj {k nd i m:Nat} {ch dv:Nat→Int} {P:Pl} (hm:plN P i=m) (j:Nat) (hj:j<4):YbV k ch nd dv P i (m*4+j)=if j=0 then 8 else 0:=by
 unfold YbV;rw [hm,show (m*4+j) / 4=m by omega,show (m*4+j) % 4=j by omega,if_neg (by omega)]
theorem one_any (A:Nat→Option Addr) (K:Nat→Nat) (P:Pl) (i:Nat) (hi:i<4) (q0 q1 p2 p3:Option Addr) (m0 c0q m1 c1 k c2 nd c3:Nat) (ch dv:Nat→Int) (w:World) (hP:Yc4 w A P) (hs2:Sl w p2 (k*3) (fun j=>.int .i64 (ch j))) (hs3:Sl w p3 nd (fun j=>.int .i64 (dv j))) (hk:k≤1000) (hnd:nd≤1000):
  Calls Tryz.prog 13 #[Yci A K P,.agg #[.slice q0 m0 c0q,.slice q1 m1 c1,.slice p2 k c2,.slice p3 nd c3],.int .i64 i] w fun e w'=>∃v g,e=.returned (.agg #[v,.slice (some ⟨g,0,none⟩) 2 2,.int .i64 (pk (P.lim i) 6)])∧Below w.heap.size w w'∧w'.ownsRow w.heap.size 97 4 v (plN P i+1) ((List.range ((plN P i+1)*4)).map fun j=>.int .i64 (YbV k ch nd dv P i j))∧RowF w' g 2 2 (twoF (P.img i))∧w.heap.size≤g:=by
 have HP:Hid (Yc4 w A P):=hP;have S2:Hid (Sl w p2 (k*3) (fun j=>.int .i64 (ch j))):=hs2;have S3:Hid (Sl w p3 nd (fun j=>.int .i64 (dv j))):=hs3;have hii:(i:Int)<4:=by omega
 have hlm:=hP.lim i hi;obtain ⟨n,HN⟩:∃n,Hid (P.nC i=n):=⟨_,rfl⟩;have hn:=(hP.code i hi).2.2;rw [HN.out] at hn;clear hP hs2 hs3;have HB0:Hid (Below w.heap.size w (((w.alloc (.cells #[.slice (A 0) (P.nC 0) (K 0),.slice (A 1) (P.nC 1) (K 1),.slice (A 2) (P.nC 2) (K 2),.slice (A 3) (P.nC 3) (K 3),.int .i64 (P.lim 0),.int .i64 (P.lim 1),.int .i64 (P.lim 2),.int .i64 (P.lim 3),.int .i64 (P.img 0),.int .i64 (P.img 1),.int .i64 (P.img 2),.int .i64 (P.img 3),.slice (A 4) P.nW (K 4),.slice (A 5) P.nD (K 5)] 39)).alloc (.cells #[.slice q0 m0 c0q,.slice q1 m1 c1,.slice p2 k c2,.slice p3 nd c3] 28)).alloc (.cells #[.slice none 0 0,.slice none 0 0,.int .i64 0] 53))∧RowF (((w.alloc (.cells #[.slice (A 0) (P.nC 0) (K 0),.slice (A 1) (P.nC 1) (K 1),.slice (A 2) (P.nC 2) (K 2),.slice (A 3) (P.nC 3) (K 3),.int .i64 (P.lim 0),.int .i64 (P.lim 1),.int .i64 (P.lim 2),.int .i64 (P.lim 3),.int .i64 (P.img 0),.int .i64 (P.img 1),.int .i64 (P.img 2),.int .i64 (P.img 3),.slice (A 4) P.nW (K 4),.slice (A 5) P.nD (K 5)] 39)).alloc (.cells #[.slice q0 m0 c0q,.slice q1 m1 c1,.slice p2 k c2,.slice p3 nd c3] 28)).alloc (.cells #[.slice none 0 0,.slice none 0 0,.int .i64 0] 53)) w.heap.size 14 39 (YbT A K P)∧RowF (((w.alloc (.cells #[.slice (A 0) (P.nC 0) (K 0),.slice (A 1) (P.nC 1) (K 1),.slice (A 2) (P.nC 2) (K 2),.slice (A 3) (P.nC 3) (K 3),.int .i64 (P.lim 0),.int .i64 (P.lim 1),.int .i64 (P.lim 2),.int .i64 (P.lim 3),.int .i64 (P.img 0),.int .i64 (P.img 1),.int .i64 (P.img 2),.int .i64 (P.img 3),.slice (A 4) P.nW (K 4),.slice (A 5) P.nD (K 5)] 39)).alloc (.cells #[.slice q0 m0 c0q,.slice q1 m1 c1,.slice p2 k c2,.slice p3 nd c3] 28)).alloc (.cells #[.slice none 0 0,.slice none 0 0,.int .i64 0] 53)) (w.heap.size+1) 4 28 (Yc (.slice q0 m0 c0q) (.slice q1 m1 c1) (.slice p2 k c2) (.slice p3 nd c3))∧RowF (((w.alloc (.cells #[.slice (A 0) (P.nC 0) (K 0),.slice (A 1) (P.nC 1) (K 1),.slice (A 2) (P.nC 2) (K 2),.slice (A 3) (P.nC 3) (K 3),.int .i64 (P.lim 0),.int .i64 (P.lim 1),.int .i64 (P.lim 2),.int .i64 (P.lim 3),.int .i64 (P.img 0),.int .i64 (P.img 1),.int .i64 (P.img 2),.int .i64 (P.img 3),.slice (A 4) P.nW (K 4),.slice (A 5) P.nD (K 5)] 39)).alloc (.cells #[.slice q0 m0 c0q,.slice q1 m1 c1,.slice p2 k c2,.slice p3 nd c3] 28)).alloc (.cells #[.slice none 0 0,.slice none 0 0,.int .i64 0] 53)) (w.heap.size+1+1) 3 53 (cells3 (.slice none 0 0) (.slice none 0 0) (.int .i64 0))∧(((w.alloc (.cells #[.slice (A 0) (P.nC 0) (K 0),.slice (A 1) (P.nC 1) (K 1),.slice (A 2) (P.nC 2) (K 2),.slice (A 3) (P.nC 3) (K 3),.int .i64 (P.lim 0),.int .i64 (P.lim 1),.int .i64 (P.lim 2),.int .i64 (P.lim 3),.int .i64 (P.img 0),.int .i64 (P.img 1),.int .i64 (P.img 2),.int .i64 (P.img 3),.slice (A 4) P.nW (K 4),.slice (A 5) P.nD (K 5)] 39)).alloc (.cells #[.slice q0 m0 c0q,.slice q1 m1 c1,.slice p2 k c2,.slice p3 nd c3] 28)).alloc (.cells #[.slice none 0 0,.slice none 0 0,.int .i64 0] 53)).heap.size=w.heap.size+1+1+1):=by
  have x1:=(row4 (w.alloc (Yc3 A K P)) (.slice q0 m0 c0q) (.slice q1 m1 c1) (.slice p2 k c2) (.slice p3 nd c3) 28).alloc (.cells #[.slice none 0 0,.slice none 0 0,.int .i64 0] 53);have x2:=row3 ((w.alloc (Yc3 A K P)).alloc (.cells #[.slice q0 m0 c0q,.slice q1 m1 c1,.slice p2 k c2,.slice p3 nd c3] 28)) (.slice none 0 0) (.slice none 0 0) (.int .i64 0) 53;simp only [World.size_alloc] at x1 x2;exact ⟨(((Below.refl _ _).alloc (Nat.le_refl _) _).alloc (by simp) _).alloc (by simp;omega) _,((YcI w A K P).alloc _).alloc _,x1,x2,by simp⟩
 unfold Yci
 go_enter Tryz.func13,Tryz.ntmps13
 go_upto_region 1 with fail
 generalize (((w.alloc (.cells #[.slice (A 0) (P.nC 0) (K 0),.slice (A 1) (P.nC 1) (K 1),.slice (A 2) (P.nC 2) (K 2),.slice (A 3) (P.nC 3) (K 3),.int .i64 (P.lim 0),.int .i64 (P.lim 1),.int .i64 (P.lim 2),.int .i64 (P.lim 3),.int .i64 (P.img 0),.int .i64 (P.img 1),.int .i64 (P.img 2),.int .i64 (P.img 3),.slice (A 4) P.nW (K 4),.slice (A 5) P.nD (K 5)] 39)).alloc (.cells #[.slice q0 m0 c0q,.slice q1 m1 c1,.slice p2 k c2,.slice p3 nd c3] 28)).alloc (.cells #[.slice none 0 0,.slice none 0 0,.int .i64 0] 53))=W0 at *;obtain ⟨hB0,r0,r1,r2,hz0⟩:=HB0.out;have g0:W0.cell? ⟨w.heap.size,i,none⟩=some (.slice (A i) n (K i)):=by
  rw [r0.cell (by omega)];unfold YbT;rw [if_pos hi,HN.out]
 have g4:W0.cell? ⟨w.heap.size,4+i,none⟩=some (.int .i64 (P.lim i)):=by
  rw [r0.cell (by omega)];unfold YbT;rw [if_neg (by omega),if_pos (by omega),show 4+i-4=i by omega]
 have g8:W0.cell? ⟨w.heap.size,8+i,none⟩=some (.int .i64 (P.img i)):=by
  rw [r0.cell (by omega)];unfold YbT;rw [if_neg (by omega),if_neg (by omega),if_pos (by omega),show 8+i-8=i by omega]
 clear hB0 r0 r1 r2;obtain ⟨m,HM⟩:∃m,Hid (plN P i=m):=⟨_,rfl⟩;have hm:m≤47∧m≤n:=by rw [←HM.out,←HN.out];unfold plN;omega
 go_upto_if 18 with fail
 go_cut [8] from 10 (fun s8 wx=>s8=.int .i64 m∧wx=W0)
 case first=>
  by_cases h47:47<n
  ·have e:m=47:=by rw [←HM.out];unfold plN;rw [HN.out];omega
   subst e;have h47i:(47:Int)<(n:Int):=by omega
   go_wp2_with fail
   go_meet
   exact ⟨rfl,rfl⟩
  ·have e:m=n:=by rw [←HM.out];unfold plN;rw [HN.out];omega
   subst e;have h47i:¬(47:Int)<(m:Int):=by omega
   go_wp2_with fail
   go_meet
   exact ⟨rfl,rfl⟩
 case rest=>
 obtain ⟨rfl,rfl⟩:=hcut
 go_upto_region 5 with fail
 go_cut [9] from 11 (fun s9 wx=>∃B9 BI,s9=.pointer (some ⟨B9,0,none⟩)∧Hid (OneW w wx (YbT A K P) (Yc (.slice q0 m0 c0q) (.slice q1 m1 c1) (.slice p2 k c2) (.slice p3 nd c3)) B9 BI (.slice none 0 0) (P.img i) (pk (P.lim i) 6)))
 case first=>
  go_region_held3 (fun W=>W.cell? ⟨w.heap.size,4+i,none⟩=some (.int .i64 (P.lim i))∧W.cell? ⟨w.heap.size,8+i,none⟩=some (.int .i64 (P.img i))) (go_keep)
   (first
    |(go_at_call 9
      refine (Ydu _ _ _ (by decide) hlm.1 hlm.2).mono ?_;rintro e w' ⟨rfl,rfl⟩))
  all_goals (go_wp2_with fail;go_meet;first|exact ⟨_,_,rfl,OneW.a HB0.out.1 HB0.out.2.1 HB0.out.2.2.1 HB0.out.2.2.2.1 HB0.out.2.2.2.2⟩|exact ⟨_,_,rfl,OneW.b HB0.out.1 HB0.out.2.1 HB0.out.2.2.1 HB0.out.2.2.2.1 HB0.out.2.2.2.2⟩)
 case rest=>
 obtain ⟨B9,BI,rfl,HW⟩:=hcut;obtain ⟨z,HZ⟩:∃z,Hid (YbV k ch nd dv P i=z):=⟨_,rfl⟩;generalize hlm':pk (P.lim i) 6=lm at *;generalize him':P.img i=im at *;clear g0 g4 g8 hz0 HB0;go_wp2_with fail
 go_loopw [10] (fun j wr=>∃x:Nat,x≤m∧j=.int .i64 x∧Hid (∃v,OneW w wr (YbT A K P) (Yc (.slice q0 m0 c0q) (.slice q1 m1 c1) (.slice p2 k c2) (.slice p3 nd c3)) B9 BI v im lm∧wr.ownsRow (w.heap.size+3) 97 4 v x (Yc1 z x))) (fun j _=>m-(intOf j).toNat)
 case atStart=>exact ⟨0,Nat.zero_le _,rfl,.slice none 0 0,HW.out,World.ownsRow_nil _ _ _ _⟩
 case round=>
  obtain ⟨x,hx,rfl,HR⟩:=hrel;obtain ⟨v,hone,hown⟩:=HR.out;have HO:Hid (OneW w wr (YbT A K P) (Yc (.slice q0 m0 c0q) (.slice q1 m1 c1) (.slice p2 k c2) (.slice p3 nd c3)) B9 BI v im lm):=hone;have HV:Hid (wr.ownsRow (w.heap.size+3) 97 4 v x (Yc1 z x)):=hown;obtain ⟨pv,cv,rfl⟩:∃p cap,v=.slice p x cap:=by
   rcases hown.2 with ⟨h,h0⟩|⟨g,cap,_,h,_⟩
   ·exact ⟨none,0,by rw [h,h0]⟩
   ·exact ⟨_,_,h⟩
  have d0:=hone.r9.cell (j:=0) (by omega);have d0f:=hone.r9.frozen 0;have d1:=hone.r9.cell (j:=1) (by omega);have d2:=hone.r9.cell (j:=2) (by omega);obtain ⟨u0,u1,u2,u3⟩:=hone.r1.at4;have hB9:B9<wr.heap.size:=hone.r9.lt;have hB1:w.heap.size+1<wr.heap.size:=hone.r1.lt;have hs3z:w.heap.size+3≤wr.heap.size:=by have:=hone.hb;omega
  clear hone hown HR;change wr.cell? ⟨B9,0,none⟩=some (.slice pv x cv) at d0;change wr.cell? ⟨B9,1,none⟩=some (.slice (some ⟨BI,0,none⟩) 2 2) at d1;change wr.cell? ⟨B9,2,none⟩=some (.int .i64 lm) at d2;by_cases hlt:x<m
  ·have hli:(x:Int)<(m:Int):=by omega
   have hwm:IntKind.i64.wrap ((m:Int)+1)=(m:Int)+1:=by rw [IntKind.wrap_i64];omega
   have hxn:x<n:=by omega
   have hxni:(x:Int)<(n:Int):=by omega
   obtain ⟨hsl,hwf,-⟩:=HP.out.code i hi;rw [HN.out] at hsl hwf;obtain ⟨b,off,hA,hc⟩:=(hsl.below HO.out.bel).at (by omega);have e0:=hc (x*4) (by omega);have e1:=hc (x*4+1) (by omega);have e2:=hc (x*4+2) (by omega);have e3:=hc (x*4+3) (by omega);rw [←Nat.add_assoc] at e1 e2 e3;have y0b:=hwf (x*4) (by omega);have y1b:=hwf (x*4+1) (by omega);have y2b:=hwf (x*4+2) (by omega);have y3b:=hwf (x*4+3) (by omega);rw [hA];have HZ4:Hid (∀j,j<4→z (x*4+j)=insF k ch nd dv i (m+1) (P.code i (x*4)) (P.code i (x*4+1)) (P.code i (x*4+2)) (P.code i (x*4+3)) j):=fun j hj=>by rw [←HZ.out];exact Ygr HM.out hlt j hj
   clear hc hsl hwf hA;generalize P.code i (x*4)=y0 at *;generalize P.code i (x*4+1)=y1 at *;generalize P.code i (x*4+2)=y2 at *;generalize P.code i (x*4+3)=y3 at *;have HINS:Hid (Calls Tryz.prog 30 #[.agg #[.slice q0 m0 c0q,.slice q1 m1 c1,.slice p2 k c2,.slice p3 nd c3],.int .i64 i,.int .i64 ((m:Int)+1),.agg #[.int .i64 y0,.int .i64 y1,.int .i64 y2,.int .i64 y3]] wr.drew fun e w'=>∃r,e=.returned r∧r=.agg #[.int .i64 (insF k ch nd dv i (m+1) y0 y1 y2 y3 0),.int .i64 (insF k ch nd dv i (m+1) y0 y1 y2 y3 1),.int .i64 (insF k ch nd dv i (m+1) y0 y1 y2 y3 2),.int .i64 (insF k ch nd dv i (m+1) y0 y1 y2 y3 3)]∧Below wr.heap.size wr w'):=
    (Yfv q0 q1 p2 p3 m0 c0q m1 c1 k c2 nd c3 i (m+1) ch dv y0 y1 y2 y3 wr.drew (S2.out.below HO.out.bel.drew) (S3.out.below HO.out.bel.drew) hk hnd ⟨by omega,by omega⟩ y0b y1b y2b y3b).mono (fun e w' ⟨h1,h2⟩=>⟨_,h1,rfl,⟨h2.os,h2.tape,h2.output,h2.size,h2.block⟩⟩)
   go_upto_region 9 with fail
   go_region_law
     (first
      |(refine Yfi rfl 30 _ _ _ _ _ _ _ _ rfl _ _ _ _ rfl rfl rfl rfl Tryz.f30 Tryz.func30 YeT Ygo (fun r w'=>r=.agg #[.int .i64 (insF k ch nd dv i (m+1) y0 y1 y2 y3 0),.int .i64 (insF k ch nd dv i (m+1) y0 y1 y2 y3 1),.int .i64 (insF k ch nd dv i (m+1) y0 y1 y2 y3 2),.int .i64 (insF k ch nd dv i (m+1) y0 y1 y2 y3 3)]∧Below wr.heap.size wr w') ?_ ?_
        ·exact HINS.out
        rintro r wl ⟨rfl,hbl⟩;have HBl:Hid (Below wr.heap.size wr wl):=hbl;have hsl:wr.heap.size≤wl.heap.size:=hbl.size;have qa:=(HBl.out.cell (p:=⟨B9,0,none⟩) hB9).trans d0;have qb:(wl.alloc (.cells #[.int .i64 (insF k ch nd dv i (m+1) y0 y1 y2 y3 0),.int .i64 (insF k ch nd dv i (m+1) y0 y1 y2 y3 1),.int .i64 (insF k ch nd dv i (m+1) y0 y1 y2 y3 2),.int .i64 (insF k ch nd dv i (m+1) y0 y1 y2 y3 3)] 97)).cell? ⟨B9,0,none⟩=some (.slice pv x cv):=((HBl.out.alloc hsl _).cell (p:=⟨B9,0,none⟩) hB9).trans d0;clear hbl)
      |(refine Jk rfl _ _ 50 rfl (w.heap.size+3) 97 _ 4 32 Tryz.underlying50 Yei rfl (by omega) (.slice pv x cv) x (Yc1 z x) rfl (own_below HV.out (HBl.out.alloc hsl _)) wl.heap.size [.int .i64 (insF k ch nd dv i (m+1) y0 y1 y2 y3 0),.int .i64 (insF k ch nd dv i (m+1) y0 y1 y2 y3 1),.int .i64 (insF k ch nd dv i (m+1) y0 y1 y2 y3 2),.int .i64 (insF k ch nd dv i (m+1) y0 y1 y2 y3 3)] 97 rfl rfl (by exact alloc_at rfl) (by intro u hu;simp at hu;rcases hu with rfl|rfl|rfl|rfl<;>rfl) (by simp only [maxLen];omega) (by omega) (by simp;omega) ?_
        intro g cap wg hown1 hgrow1 hat hlt1;have HS:Hid (OneW w (wg.setCell ⟨B9,0,none⟩ (.slice (some ⟨g,0,none⟩) (x+1) cap)) (YbT A K P) (Yc (.slice q0 m0 c0q) (.slice q1 m1 c1) (.slice p2 k c2) (.slice p3 nd c3)) B9 BI (.slice (some ⟨g,0,none⟩) (x+1) cap) im lm∧(wg.setCell ⟨B9,0,none⟩ (.slice (some ⟨g,0,none⟩) (x+1) cap)).ownsRow (w.heap.size+3) 97 4 (.slice (some ⟨g,0,none⟩) (x+1) cap) (x+1) (Yc1 z (x+1))):=HO.out.step HV.out (HBl.out.alloc hsl _) hgrow1 (by rw [YdH,HZ4.out 1 (by omega),HZ4.out 2 (by omega),HZ4.out 3 (by omega),show z (x*4)=z (x*4+0) from rfl,HZ4.out 0 (by omega)];exact hown1);have q9:wg.cell? ⟨B9,0,none⟩=some (.slice pv x cv):=(hgrow1.cell_far ⟨B9,0,none⟩ (by show B9<_;simp;omega) (fun e=>YbW HV.out HO.out.r9 (by decide) e.symm)).trans qb;have q9f:wg.frozen? ⟨B9,0,none⟩=false:=(hgrow1.frozen_far ⟨B9,0,none⟩ (by show B9<_;simp;omega) (fun e=>YbW HV.out HO.out.r9 (by decide) e.symm)).trans (((HO.out.r9.below HBl.out hB9).alloc _).frozen 0);clear hown1 hgrow1 hat hlt1))
   all_goals (go_wp2_with fail;exact ⟨⟨x+1,by omega,by go_num,_,HS.out⟩,by simp [intOf];omega⟩)
  ·obtain rfl:x=m:=by omega
   have hsm:x≤47:=hm.1;have OW:Hid (∀a,(wr.alloc a).ownsRow (w.heap.size+3) 97 4 (.slice pv x cv) x (Yc1 z x)):=fun a=>own_below HV.out ((Below.refl _ _).alloc (Nat.le_refl _) a);have HSz:Hid (∀a,w.heap.size+3≤(wr.alloc a).heap.size):=fun a=>by simp;omega
   go_wp2_with (at_builtin;refine YX _ rfl _ _ 50 rfl (w.heap.size+3) 97 _ 4 32 Tryz.underlying50 Yei rfl (by omega) (.slice pv x cv) x (Yc1 z x) rfl (by exact OW.out _) wr.heap.size [_,_,_,_] 97 rfl rfl (by exact alloc_at rfl) (by intro u hu;simp at hu;rcases hu with rfl|rfl|rfl|rfl<;>rfl) (by simp only [maxLen];omega) (by omega) (by exact HSz.out _) ?_)
   intro g cap wg hown1 hgrow1 _ _;have HMID:=HO.out.mid HV.out ((Below.refl _ _).alloc (Nat.le_refl _) _) hgrow1;have HS:=HO.out.step HV.out ((Below.refl _ _).alloc (Nat.le_refl _) _) hgrow1 (nv:=.slice (some ⟨g,0,none⟩) (x+1) cap) (ys:=Yc1 z (x+1)) (by
    have ze:∀j,j<4→z (x*4+j)=if j=0 then 8 else 0:=fun j hj=>by rw [←HZ.out];exact Ygj HM.out j hj
    rw [YdH,ze 1 (by omega),ze 2 (by omega),ze 3 (by omega),show z (x*4)=z (x*4+0) from rfl,ze 0 (by omega)];exact hown1)
   have f0:wg.cell? ⟨B9,0,none⟩=some (.slice pv x cv):=HMID.1.cell (by omega);have f1:wg.cell? ⟨B9,1,none⟩=some (.slice (some ⟨BI,0,none⟩) 2 2):=HMID.1.cell (by omega);have f2:wg.cell? ⟨B9,2,none⟩=some (.int .i64 lm):=HMID.1.cell (by omega);have f0f:=HMID.1.frozen 0;have h0:wg.cell? ⟨w.heap.size+1+1,0,none⟩=some (.slice none 0 0):=HMID.2.cell (by omega);have h1:wg.cell? ⟨w.heap.size+1+1,1,none⟩=some (.slice none 0 0):=HMID.2.cell (by omega);have h2:wg.cell? ⟨w.heap.size+1+1,2,none⟩=some (.int .i64 0):=HMID.2.cell (by omega);have h0f:=HMID.2.frozen 0;have h1f:=HMID.2.frozen 1;have h2f:=HMID.2.frozen 2;have hb9:w.heap.size+3≤B9:=HO.out.hb.1;have hbne:¬B9=w.heap.size+1+1:=by omega
   have hbne2:¬w.heap.size+1+1=B9:=by omega
   clear HMID hown1 hgrow1 d0 d0f d1 d2;have HSH:Hid (OneW w (wg.setCell ⟨B9,0,none⟩ (.slice (some ⟨g,0,none⟩) (x+1) cap)) (YbT A K P) (Yc (.slice q0 m0 c0q) (.slice q1 m1 c1) (.slice p2 k c2) (.slice p3 nd c3)) B9 BI (.slice (some ⟨g,0,none⟩) (x+1) cap) im lm∧(wg.setCell ⟨B9,0,none⟩ (.slice (some ⟨g,0,none⟩) (x+1) cap)).ownsRow (w.heap.size+3) 97 4 (.slice (some ⟨g,0,none⟩) (x+1) cap) (x+1) (Yc1 z (x+1))):=HS;clear HS;go_wp2_with fail
   refine bodyPost_ret (results_cell_row (P:=Tryz.prog) rfl _ _ (w.heap.size+1+1) 53 #[.slice (some ⟨g,0,none⟩) (x+1) cap,.slice (some ⟨BI,0,none⟩) 2 2,.int .i64 lm] (0,0) _ rfl (Ygb HSH.out.1.r2 (.slice (some ⟨g,0,none⟩) (x+1) cap) (.slice (some ⟨BI,0,none⟩) 2 2) (.int .i64 lm)) Tryz.underlying53 rfl YeL) rfl ?_;have far:∀(W:World) (a b c:Value) (j:Nat),j≠w.heap.size+1+1→(((W.setCell ⟨w.heap.size+1+1,0,none⟩ a).setCell ⟨w.heap.size+1+1,1,none⟩ b).setCell ⟨w.heap.size+1+1,2,none⟩ c).heap[j]?=W.heap[j]?:=fun W a b c j hj=>by rw [heap_setCell_other _ _ _ _ hj,heap_setCell_other _ _ _ _ hj,heap_setCell_other _ _ _ _ hj]
   refine ⟨_,BI,by rw [hlm'],((HSH.out.1.bel.setCell (by simp;omega) _).setCell (by simp;omega) _).setCell (by simp;omega) _,?_,by rw [him'];exact HSH.out.1.ri.of_heap (far _ _ _ _ _ (by have:=HSH.out.1.hb;omega)),by have:=HSH.out.1.hb;omega⟩;have ho2:=YcV HSH.out.2 (show w.heap.size≤w.heap.size+3 by omega);rw [HM.out,HZ.out];refine Yc6 ho2 fun gg hgg=>far _ _ _ _ _ (by have:=(HSH.out.2.lt gg hgg).1;omega)
end Go.Proofs.YtdoghgnifkgfdaaGreat
