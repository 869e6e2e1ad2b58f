import Derived.WalkKit
import Derived.WalkSpells
import Derived.WalkLawsBesides
import Derived.Deep.AppendLies
import Derived.Laws.CopyOwn
import Derived.Test.YtdoghgnifkgfdaaGreatProg
set_option maxRecDepth 100000
set_option maxHeartbeats 4000000
namespace Go.Proofs.YtdoghgnifkgfdaaGreat
open Go.RowKit
def padZ (k n:Nat) (z:Nat→Int) (j:Nat):Int:=if j<n*k then z j else if j % k=0 then -77 else 0
def RowF (w:World) (g m t:Nat) (f:Nat→Value):Prop:=
 ∃cs:Array Value,w.heap[g]?=some (.cells cs t (0,0))∧cs.size=m∧∀j,j<m→cs[j]?=some (f j)
def Sl (w:World) (p:Option Addr) (m:Nat) (f:Nat→Value):Prop:=
 m=0∨∃b off,p=some ⟨b,off,none⟩∧∀j,j<m→w.cell? ⟨b,off+j,none⟩=some (f j)
section
variable {w w':World} {g m t:Nat} {f f':Nat→Value}
theorem RowF.cell (h:RowF w g m t f) {j:Nat} (hj:j<m):w.cell? ⟨g,j,none⟩=some (f j):=by
 obtain ⟨cs,h1,_,h3⟩:=h;rw [cell_of_row w g j cs t (0,0) h1];exact h3 j hj
theorem RowF.frozen (h:RowF w g m t f) (j:Nat):w.frozen? ⟨g,j,none⟩=false:=by
 obtain ⟨cs,h1,_⟩:=h;exact frozen_of_row w g j cs t h1
theorem RowF.lt (h:RowF w g m t f):g<w.heap.size:=by
 obtain ⟨cs,h1,_⟩:=h;exact (Array.getElem?_eq_some_iff.1 h1).1
theorem RowF.congr (h:RowF w g m t f) (hf:∀j,j<m→f j=f' j):RowF w g m t f':=by
 obtain ⟨cs,h1,h2,h3⟩:=h;exact ⟨cs,h1,h2,fun j hj=>by rw [h3 j hj,hf j hj]⟩
theorem RowF.of_heap (h:RowF w g m t f) (e:w'.heap[g]?=w.heap[g]?):RowF w' g m t f:=by
 obtain ⟨cs,h1,h2,h3⟩:=h;exact ⟨cs,by rw [e];exact h1,h2,h3⟩
theorem RowF.set (h:RowF w g m t f) (j:Nat) (v:Value):RowF (w.setCell ⟨g,j,none⟩ v) g m t (fun i=>if i=j then v else f i):=by
 obtain ⟨cs,h1,h2,h3⟩:=h;refine ⟨cs.setIfInBounds j v,heap_setCell_same w g j cs t v h1,by simp [h2],fun i hi=>?_⟩;rw [Array.getElem?_setIfInBounds];by_cases e:j=i
 ·subst e;simp [h2,hi]
 ·have e':¬i=j:=fun x=>e x.symm;simp [e,e',h3 i hi]
theorem RowF.other (h:RowF w g m t f) (a:Addr) (v:Value) (ha:a.block≠g):RowF (w.setCell a v) g m t f:=
 h.of_heap (heap_setCell_other w a g v (fun e=>ha e.symm))
theorem RowF.alloc (h:RowF w g m t f) (o:Obj):RowF (w.alloc o) g m t f:=h.of_heap (heap_alloc_old w o h.lt)
theorem RowF.new (w:World) (cs:Array Value) (t:Nat) (f:Nat→Value) (hf:∀j,j<cs.size→cs[j]?=some (f j)):RowF (w.alloc (.cells cs t)) w.heap.size cs.size t f:=
 ⟨cs,heap_alloc_new w _,rfl,hf⟩
theorem RowF.below {B:Nat} (h:RowF w g m t f) (hb:Below B w w') (hg:g<B):RowF w' g m t f:=h.of_heap (hb.block g hg)
theorem RowF.sl_le (h:RowF w g m t f) {m':Nat} (hm:m'≤m):Sl w (some ⟨g,0,none⟩) m' f:=.inr ⟨g,0,rfl,fun j hj=>by rw [Nat.zero_add];exact h.cell (by omega)⟩
end
theorem Sl.keep {w w':World} {p:Option Addr} {m:Nat} {f:Nat→Value} (h:Sl w p m f) (hk:∀a v,w.cell? a=some v→w'.cell? a=some v):Sl w' p m f:=by
 rcases h with h|⟨b,off,hp,hc⟩
 ·exact .inl h
 ·exact .inr ⟨b,off,hp,fun j hj=>hk _ _ (hc j hj)⟩
theorem Zc {w w':World} (h:Below w.heap.size w w'):∀a v,w.cell? a=some v→w'.cell? a=some v:=by
 intro a v ha;rw [h.cell (block_lt_of_cell ha)];exact ha
theorem Sl.below {w w':World} {p:Option Addr} {m:Nat} {f:Nat→Value} (h:Sl w p m f) (hb:Below w.heap.size w w'):Sl w' p m f:=h.keep (Zc hb)
theorem Sl.congr {w:World} {p:Option Addr} {m:Nat} {f f':Nat→Value} (h:Sl w p m f) (hf:∀j,j<m→f j=f' j):Sl w p m f':=by
 rcases h with h|⟨b,off,hp,hc⟩
 ·exact .inl h
 ·exact .inr ⟨b,off,hp,fun j hj=>by rw [hc j hj,hf j hj]⟩
theorem grownBy_setCell {w0 w:World} {g:Nat} (h:w0.grownBy w (some g)) (j:Nat) (v:Value):w0.grownBy (w.setCell ⟨g,j,none⟩ v) (some g):=
 ⟨h.os,h.tape,h.output,by simpa [World.setCell] using h.size,fun k hk hne=>by
  rw [heap_setCell_other w _ k v (fun e=>hne (by simp [e]))];exact h.block k hk hne⟩
theorem Y7s {P:Program} (w:World) (dT sT ty elem:TypeId) (size g dLen dCap:Nat) (sp:Option Addr) (sLen sCap:Nat) (m t:Nat) (f f':Nat→Value)
  (hu:P.underlying dT=some (.slice elem)) (hs:(P.info? elem).map (·.size)=some size) (hle:sLen≤dLen) (hrow:RowF w g m t f) (hm:dLen*size≤m)
  (hsrc:Sl w sp (sLen*size) f') (h1:∀j,j<sLen*size→(f' j).oneCell'=true) (hnil:sp=none→sLen=0):
  ∃w',(Builtin.copy_ #[dT,sT] ty #[.slice (some ⟨g,0,none⟩) dLen dCap,.slice sp sLen sCap]).run P w=.ok (goInt sLen) w'∧
   RowF w' g m t (fun j=>if j<sLen*size then f' j else f j)∧w.grownBy w' (some g)∧w'.heap.size=w.heap.size:=by
 have hmin:Nat.min sLen dLen=sLen:=Nat.min_eq_left hle;cases hq:P.info? elem with
 |none=>simp [hq] at hs
 |some i=>
  have hi:i.size=size:=by simpa [hq] using hs
  rcases hsrc with hm0|⟨b,off,rfl,hc⟩
  ·refine ⟨w,?_,hrow.congr (fun j _=>by simp [hm0]),World.grownBy.refl _ _,rfl⟩;cases sp with
   |none=>
    have h0:=hnil rfl;subst h0;simp [Builtin.copy_,run_underlying hu,Builtin.lenOf,Builtin.firstCells,sizeOf,typeInfo,hq,storeCells]
   |some q=>
    have hl:(loadCells q 0).run P w=.ok #[] w:=by
     have:=run_loadCells_list (P:=P) w q [] (fun j v hv=>by simp at hv);simpa using this
    simp [Builtin.copy_,run_underlying hu,Builtin.lenOf,Builtin.firstCells,sizeOf,typeInfo,hq,hi,hmin,hm0,hl,storeCells]
  ·obtain ⟨cs,hg,hcs,hf⟩:=hrow;have hl:(loadCells ⟨b,off,none⟩ (sLen*size)).run P w=.ok ((List.range (sLen*size)).map f').toArray w:=by
    have:=run_loadCells_list (P:=P) w ⟨b,off,none⟩ ((List.range (sLen*size)).map f') (fun j v hv=>by
     rw [Addr.add_lit];have hj:j<sLen*size:=by have:=(List.getElem?_eq_some_iff.1 hv).1;simpa using this
     rw [hc j hj];rw [←hv];simp [hj])
    simpa using this
   have hle2:sLen*size≤m:=Nat.le_trans (Nat.mul_le_mul_right _ hle) hm;have hst:=run_storeCells_at P g 0 t ((List.range (sLen*size)).map f') 0 cs w hg (by simp [hcs];omega) (fun v hv=>by
    obtain ⟨j,hj,rfl⟩:=List.mem_map.1 hv;exact h1 j (by simpa using hj))
   have hst':(storeCells ⟨g,0,none⟩ ((List.range (sLen*size)).map f')).run P w=.ok () (w.setRow g ((List.range (sLen*size)).map f'++cs.toList.drop (sLen*size)).toArray):=by
    simpa using hst
   refine ⟨w.setRow g ((List.range (sLen*size)).map f'++cs.toList.drop (sLen*size)).toArray,?_,⟨((List.range (sLen*size)).map f'++cs.toList.drop (sLen*size)).toArray,setRow_heap w g cs _ t _ hg,?_,?_⟩,⟨rfl,rfl,rfl,by simp,fun k _ hk=>setRow_other w g k _ (fun e=>hk (by simp [e]))⟩,by simp⟩
   ·simp [Builtin.copy_,run_underlying hu,Builtin.lenOf,Builtin.firstCells,sizeOf,typeInfo,hq,hi,hmin,hl,hst']
   ·simp [hcs];omega
   ·intro j hj;by_cases hlt:j<sLen*size
    ·simp [hlt,List.getElem?_append]
    ·have:=hf j hj;simp only [hlt,if_false];rw [←this];simp [List.getElem?_append,hlt];congr 1;omega
theorem ZW {P:Program} {w:World} {ops:Array Oper} {rest:List Oper} {o:Oper} {a:Act} {Q:Exit→Act→World→Prop} (hgd:o.guard=none) (d s:Operand) (dT sT:TypeId)
  (ho:o.op=.call {callee:=.builtin .copy,args:=#[d,s],argTypes:=#[dT,sT]}) (elem:TypeId) (zv:Value) (size bytes:Nat) (hu:P.underlying dT=some (.slice elem)) (hinfo:(P.info? elem).map (fun i=>(i.zero,i.size,i.bytes))=some (some zv,size,bytes))
  (g dLen dCap:Nat) (sp:Option Addr) (sLen sCap:Nat) (hd:a.eval d=.slice (some ⟨g,0,none⟩) dLen dCap) (hs:a.eval s=.slice sp sLen sCap)
  (m t:Nat) (f f':Nat→Value) (hle:sLen≤dLen) (hrow:RowF w g m t f) (hm:dLen*size≤m)
  (hsrc:Sl w sp (sLen*size) f') (h1:∀j,j<sLen*size→(f' j).oneCell'=true) (hnil:sp=none→sLen=0)
  (h:∀w',RowF w' g m t (fun j=>if j<sLen*size then f' j else f j)→w.grownBy w' (some g)→w'.heap.size=w.heap.size→wpList P ops Q rest (a.put o.dst (goInt sLen)) w'):
  wpList P ops Q (o::rest) a w:=by
 refine wpList_plain hgd fun K hK=>?_;have hsz:(P.info? elem).map (·.size)=some size:=by
  obtain ⟨i,h2,_,h4,_⟩:=info_parts hinfo;simp [h2,h4]
 obtain ⟨w',hrun,r1,r2,r3⟩:=Y7s (P:=P) w dT sT o.type elem size g dLen dCap sp sLen sCap m t f f' hu hsz hle hrow hm hsrc h1 hnil;unfold Oper.wp;simp [execOp,ho,resolve,invoke,builtin,hd,hs,hrun,Result.andThen];exact hK _ _ (h w' r1 r2 r3)
theorem ZG {P:Program} (w:World) {ops:Array Oper} {rest:List Oper} {o:Oper} {a:Act} {Q:Exit→Act→World→Prop}
  (hg:o.guard=none) (l c:Operand) (t:TypeId) (hop:o.op=Op.makeSlice t l c)
  (e:TypeId) (z:Value) (size bytes:Nat) (ht:P.underlying t=some (.slice e)) (hinfo:(P.info? e).map (fun i=>(i.zero,i.size,i.bytes))=some (some z,size,bytes))
  (kl kc:IntKind) (L C:Int) (n:Nat) (hl:a.eval l=.int kl L) (hc:a.eval c=.int kc C) (hL:L=(n:Int)) (hC:C=(n:Int)) (b2:bytes*n≤281474976710656) (b3:n≤maxLen)
  (f:Nat→Value) (hf:∀j,j<n*size→z.cells[j % z.cells.size]! = f j)
  (hK:∀w',RowF w' w.heap.size (n*size) e f→w'.heap.size=w.heap.size+1→Below w.heap.size w w'→wpList P ops Q rest (a.put o.dst (.slice (some ⟨w.heap.size,0,none⟩) n n)) w'):
  wpList P ops Q (o::rest) a w:=by
 refine wpList_plain hg fun K hK'=>?_;obtain ⟨i,h2,h3,h4,h5⟩:=info_parts hinfo;subst hL;subst hC;subst h4;subst h5;have h63':(n:Int)≤9223372036854775807:=by
  have h:=b3;simp [maxLen] at h;omega
 have hb':(i.bytes:Int)*(n:Int)≤281474976710656:=by
  have h:((i.bytes*n:Nat):Int)≤281474976710656:=by omega
  rwa [Int.natCast_mul] at h
 have hr:=run_make (P:=P) w t e i z ht h2 h3 kl kc n n (by omega) (Int.le_refl _) hb' h63';simp only [Int.toNat_natCast] at hr;unfold Oper.wp;simp [execOp,hop,hl,hc,hr,Result.andThen];refine hK' _ _ (hK _ ?_ (by simp) ((Below.refl _ _).alloc (Nat.le_refl _) _));have:=RowF.new w (madeCells z.cells (n*i.size)) e f (fun j hj=>by
  rw [size_madeCells] at hj;rw [←hf j hj];simp [madeCells,hj])
 rwa [size_madeCells] at this
theorem Y3z (j:Nat):(Value.int .i64 0).cells[j % (Value.int .i64 0).cells.size]! = Value.int .i64 0:=by
 have h:(Value.int .i64 0).cells=#[.int .i64 0]:=rfl;rw [h];have:j % 1=0:=by omega
 simp [this]
theorem Y38 (j:Nat):(Value.agg #[.int .i64 0,.int .i64 0]).cells[j % (Value.agg #[.int .i64 0,.int .i64 0]).cells.size]! = Value.int .i64 0:=by
 have h:(Value.agg #[.int .i64 0,.int .i64 0]).cells=#[.int .i64 0,.int .i64 0]:=rfl;rw [h];have:j % 2=0∨j % 2=1:=by omega
 rcases this with e|e<;>simp [e]
theorem Y8I (j:Nat):(Value.agg #[.int .i64 0,.int .i64 0,.int .i64 0]).cells[j % (Value.agg #[.int .i64 0,.int .i64 0,.int .i64 0]).cells.size]! = Value.int .i64 0:=by
 have h:(Value.agg #[.int .i64 0,.int .i64 0,.int .i64 0]).cells=#[.int .i64 0,.int .i64 0,.int .i64 0]:=rfl;rw [h];have:j % 3=0∨j % 3=1∨j % 3=2:=by omega
 rcases this with e|e|e<;>simp [e]
theorem Y7b (j:Nat):(Value.agg #[.int .i64 0,.int .i64 0,.int .i64 0,.int .i64 0]).cells[j % (Value.agg #[.int .i64 0,.int .i64 0,.int .i64 0,.int .i64 0]).cells.size]! = Value.int .i64 0:=by
 have h:(Value.agg #[.int .i64 0,.int .i64 0,.int .i64 0,.int .i64 0]).cells=#[.int .i64 0,.int .i64 0,.int .i64 0,.int .i64 0]:=rfl;rw [h];have:j % 4=0∨j % 4=1∨j % 4=2∨j % 4=3:=by omega
 rcases this with e|e|e|e<;>simp [e]
theorem Y3D (k n j:Nat) (z:Nat→Int) (hk:n≤k):(if j=k then Value.int .i64 (-77) else Value.int .i64 (if j<n then z j else if j<k then (if j % 1=0 then -77 else 0) else 0))=
  Value.int .i64 (if j<n then z j else if j<k+1 then (if j % 1=0 then -77 else 0) else 0):=by
 repeat' split
 all_goals first
  |rfl
  |(exfalso;omega)
theorem Y4D (k n j:Nat) (z:Nat→Int) (hk:n≤k):(if j=k*2+1 then Value.int .i64 0 else if j=k*2 then Value.int .i64 (-77) else Value.int .i64 (if j<n*2 then z j else if j<k*2 then (if j % 2=0 then -77 else 0) else 0))=
  Value.int .i64 (if j<n*2 then z j else if j<(k+1)*2 then (if j % 2=0 then -77 else 0) else 0):=by
 repeat' split
 all_goals first
  |rfl
  |(exfalso;omega)
theorem YaR (k n j:Nat) (z:Nat→Int) (hk:n≤k):(if j=k*3+2 then Value.int .i64 0 else if j=k*3+1 then Value.int .i64 0 else if j=k*3 then Value.int .i64 (-77) else Value.int .i64 (if j<n*3 then z j else if j<k*3 then (if j % 3=0 then -77 else 0) else 0))=
  Value.int .i64 (if j<n*3 then z j else if j<(k+1)*3 then (if j % 3=0 then -77 else 0) else 0):=by
 repeat' split
 all_goals first
  |rfl
  |(exfalso;omega)
theorem Y7P (k n j:Nat) (z:Nat→Int) (hk:n≤k):(if j=k*4+3 then Value.int .i64 0 else if j=k*4+2 then Value.int .i64 0 else if j=k*4+1 then Value.int .i64 0 else if j=k*4 then Value.int .i64 (-77) else Value.int .i64 (if j<n*4 then z j else if j<k*4 then (if j % 4=0 then -77 else 0) else 0))=
  Value.int .i64 (if j<n*4 then z j else if j<(k+1)*4 then (if j % 4=0 then -77 else 0) else 0):=by
 repeat' split
 all_goals first
  |rfl
  |(exfalso;omega)
theorem size_setCell (w:World) (a:Addr) (v:Value):(w.setCell a v).heap.size=w.heap.size:=by simp [World.setCell]
theorem Y1R:(Tryz.prog.info? 97).map (fun i=>(i.zero,i.size,i.bytes))=some (some (.agg #[.int .i64 0,.int .i64 0,.int .i64 0,.int .i64 0]),4,32):=by kernel_rfl
theorem Y1e (p:Option Addr) (n cap:Nat) (z:Nat→Int) (w:World) (hs:Sl w p (n*4) (fun j=>.int .i64 (z j))) (hn:p=none→n=0) (hb:32*n≤140737488355328):
  Calls Tryz.prog 63 #[.slice p n cap] w fun e w'=>e=.returned (.slice (some ⟨w.heap.size,0,none⟩) (n+2:Nat) (n+2:Nat))∧w'.heap.size=w.heap.size+1∧Below w.heap.size w w'∧
   RowF w' w.heap.size ((n+2)*4) 97 (fun j=>.int .i64 (padZ 4 n z j)):=by
 have hB:n≤17592186044416:=by omega
 have HM:Hid (32*(n+2)≤281474976710656):=by show _≤_;omega
 have HS:Hid (Sl w p (n*4) (fun j=>.int .i64 (z j))):=hs;have HN:Hid (p=none→n=0):=hn;clear hs hn hb
 go_enter Tryz.func63,Tryz.ntmps63
 go_wp2_with (at_make;refine ZG _ rfl _ _ 50 rfl 97 _ 4 32 Tryz.underlying50 Y1R _ _ _ _ (n+2) rfl rfl (by omega) (by omega) HM.out (by simp only [maxLen];omega) (fun _=>.int .i64 0) (fun j _=>Y7b j) ?_)
 intro w1 hrow1 hsz1 hbel1;have HR1:Hid (RowF w1 w.heap.size ((n+2)*4) 97 (fun _=>.int .i64 0)):=hrow1;have HZ1:Hid (w1.heap.size=w.heap.size+1):=hsz1;clear hrow1 hsz1;go_wp2_with (refine ZW rfl _ _ _ _ rfl 97 _ 4 32 Tryz.underlying50 Y1R w.heap.size (n+2) (n+2) p n cap rfl rfl ((n+2)*4) 97 (fun _=>.int .i64 0) (fun j=>.int .i64 (z j)) (by omega) HR1.out (by omega) (HS.out.below hbel1) (fun _ _=>rfl) HN.out ?_)
 intro w2 hrow2 hgr2 hsz2;have HR2:Hid (RowF w2 w.heap.size ((n+2)*4) 97 (fun j=>if j<n*4 then .int .i64 (z j) else .int .i64 0)):=hrow2;have HZ2:Hid (w2.heap.size=w.heap.size+1):=hsz2.trans HZ1.out;have HB2:Hid (Below w.heap.size w w2):=hbel1.grown hgr2 (by rw [HZ1.out];omega) (fun k hk=>by simp at hk;omega);clear hrow2 hsz2 hgr2 hbel1 HR1 HZ1 HS HN HM;go_wp2_with fail
 go_loopw [4] (fun i wr=>∃k:Nat,n≤k∧k≤n+2∧i=.int .i64 k∧Hid (wr.heap.size=w.heap.size+1)∧Hid (Below w.heap.size w wr)∧Hid (RowF wr w.heap.size ((n+2)*4) 97 (fun j=>.int .i64 (if j<n*4 then z j else if j<k*4 then (if j % 4=0 then -77 else 0) else 0))))
  (fun i _=>n+2-(intOf i).toNat)
 case atStart=>exact ⟨n,Nat.le_refl _,by omega,rfl,HZ2,HB2,HR2.out.congr (fun j _=>by by_cases h:j<n*4<;>simp [h])⟩
 case round=>
  obtain ⟨k,hk1,hk2,rfl,HZ,HB,HR⟩:=hrel;by_cases hlt:k<n+2
  ·have HP:Hid (∀j,_):=fun j=>Y7P k n j z hk1;have c0:=HR.out.cell (j:=k*4) (by omega);have c1:=HR.out.cell (j:=k*4+1) (by omega);have c2:=HR.out.cell (j:=k*4+2) (by omega);have c3:=HR.out.cell (j:=k*4+3) (by omega);have f0:=HR.out.frozen (k*4);have f1:=HR.out.frozen (k*4+1);have f2:=HR.out.frozen (k*4+2);have f3:=HR.out.frozen (k*4+3);go_wp2
   go_roundw
   case rel=>exact ⟨k+1,by omega,by omega,by go_num,by show _=_;rw [size_setCell,size_setCell,size_setCell,size_setCell];exact HZ.out,((((HB.out.setCell (Nat.le_refl _) _).setCell (Nat.le_refl _) _).setCell (Nat.le_refl _) _).setCell (Nat.le_refl _) _),((((HR.out.set (k*4) _).set (k*4+1) _).set (k*4+2) _).set (k*4+3) _).congr (fun j _=>HP.out j)⟩
   case measure=>simp [intOf];omega
  ·obtain rfl:k=n+2:=by omega
   go_wp2
   go_ret;exact ⟨rfl,HZ.out,HB.out,HR.out.congr (fun j hj=>by simp [padZ,hj])⟩
theorem ZX:(Tryz.prog.info? 2).map (fun i=>(i.zero,i.size,i.bytes))=some (some (.int .i64 0),1,8):=by kernel_rfl
theorem Y1n (p:Option Addr) (n cap:Nat) (z:Nat→Int) (w:World) (hs:Sl w p (n) (fun j=>.int .i64 (z j))) (hn:p=none→n=0) (hb:8*n≤140737488355328):
  Calls Tryz.prog 64 #[.slice p n cap] w fun e w'=>e=.returned (.slice (some ⟨w.heap.size,0,none⟩) (n+2:Nat) (n+2:Nat))∧w'.heap.size=w.heap.size+1∧Below w.heap.size w w'∧
   RowF w' w.heap.size ((n+2)*1) 2 (fun j=>.int .i64 (padZ 1 n z j)):=by
 have hB:n≤17592186044416:=by omega
 have HM:Hid (8*(n+2)≤281474976710656):=by show _≤_;omega
 have HS:Hid (Sl w p (n) (fun j=>.int .i64 (z j))):=hs;have HN:Hid (p=none→n=0):=hn;clear hs hn hb
 go_enter Tryz.func64,Tryz.ntmps64
 go_wp2_with (at_make;refine ZG _ rfl _ _ 51 rfl 2 _ 1 8 Tryz.underlying51 ZX _ _ _ _ (n+2) rfl rfl (by omega) (by omega) HM.out (by simp only [maxLen];omega) (fun _=>.int .i64 0) (fun j _=>Y3z j) ?_)
 intro w1 hrow1 hsz1 hbel1;have HR1:Hid (RowF w1 w.heap.size (n+2) 2 (fun _=>.int .i64 0)):=hrow1;have HZ1:Hid (w1.heap.size=w.heap.size+1):=hsz1;clear hrow1 hsz1;go_wp2_with (refine ZW rfl _ _ _ _ rfl 2 _ 1 8 Tryz.underlying51 ZX w.heap.size (n+2) (n+2) p n cap rfl rfl (n+2) 2 (fun _=>.int .i64 0) (fun j=>.int .i64 (z j)) (by omega) HR1.out (by omega) (by rw [Nat.mul_one];exact HS.out.below hbel1) (fun _ _=>rfl) HN.out ?_)
 intro w2 hrow2 hgr2 hsz2;have HR2:Hid (RowF w2 w.heap.size (n+2) 2 (fun j=>if j<n then .int .i64 (z j) else .int .i64 0)):=hrow2;have HZ2:Hid (w2.heap.size=w.heap.size+1):=hsz2.trans HZ1.out;have HB2:Hid (Below w.heap.size w w2):=hbel1.grown hgr2 (by rw [HZ1.out];omega) (fun k hk=>by simp at hk;omega);clear hrow2 hsz2 hgr2 hbel1 HR1 HZ1 HS HN HM;go_wp2_with fail
 go_loopw [4] (fun i wr=>∃k:Nat,n≤k∧k≤n+2∧i=.int .i64 k∧Hid (wr.heap.size=w.heap.size+1)∧Hid (Below w.heap.size w wr)∧Hid (RowF wr w.heap.size (n+2) 2 (fun j=>.int .i64 (if j<n then z j else if j<k then (if j % 1=0 then -77 else 0) else 0))))
  (fun i _=>n+2-(intOf i).toNat)
 case atStart=>exact ⟨n,Nat.le_refl _,by omega,rfl,HZ2,HB2,HR2.out.congr (fun j _=>by by_cases h:j<n<;>simp [h])⟩
 case round=>
  obtain ⟨k,hk1,hk2,rfl,HZ,HB,HR⟩:=hrel;by_cases hlt:k<n+2
  ·have HP:Hid (∀j,_):=fun j=>Y3D k n j z hk1;have c0:=HR.out.cell (j:=k) (by omega);have f0:=HR.out.frozen (k);go_wp2
   go_roundw
   case rel=>exact ⟨k+1,by omega,by omega,by go_num,by show _=_;rw [size_setCell];exact HZ.out,(HB.out.setCell (Nat.le_refl _) _),(HR.out.set (k) _).congr (fun j _=>HP.out j)⟩
   case measure=>simp [intOf];omega
  ·obtain rfl:k=n+2:=by omega
   go_wp2
   go_ret;exact ⟨rfl,HZ.out,HB.out,(by rw [Nat.mul_one];exact HR.out.congr (fun j hj=>by simp [padZ,hj]))⟩
theorem Y1U:(Tryz.prog.info? 102).map (fun i=>(i.zero,i.size,i.bytes))=some (some (.agg #[.int .i64 0,.int .i64 0]),2,16):=by kernel_rfl
theorem Y3L (p:Option Addr) (n cap:Nat) (z:Nat→Int) (w:World) (hs:Sl w p (n*2) (fun j=>.int .i64 (z j))) (hn:p=none→n=0) (hb:16*n≤140737488355328):
  Calls Tryz.prog 65 #[.slice p n cap] w fun e w'=>e=.returned (.slice (some ⟨w.heap.size,0,none⟩) (n+2:Nat) (n+2:Nat))∧w'.heap.size=w.heap.size+1∧Below w.heap.size w w'∧
   RowF w' w.heap.size ((n+2)*2) 102 (fun j=>.int .i64 (padZ 2 n z j)):=by
 have hB:n≤17592186044416:=by omega
 have HM:Hid (16*(n+2)≤281474976710656):=by show _≤_;omega
 have HS:Hid (Sl w p (n*2) (fun j=>.int .i64 (z j))):=hs;have HN:Hid (p=none→n=0):=hn;clear hs hn hb
 go_enter Tryz.func65,Tryz.ntmps65
 go_wp2_with (at_make;refine ZG _ rfl _ _ 100 rfl 102 _ 2 16 Tryz.underlying100 Y1U _ _ _ _ (n+2) rfl rfl (by omega) (by omega) HM.out (by simp only [maxLen];omega) (fun _=>.int .i64 0) (fun j _=>Y38 j) ?_)
 intro w1 hrow1 hsz1 hbel1;have HR1:Hid (RowF w1 w.heap.size ((n+2)*2) 102 (fun _=>.int .i64 0)):=hrow1;have HZ1:Hid (w1.heap.size=w.heap.size+1):=hsz1;clear hrow1 hsz1;go_wp2_with (refine ZW rfl _ _ _ _ rfl 102 _ 2 16 Tryz.underlying100 Y1U w.heap.size (n+2) (n+2) p n cap rfl rfl ((n+2)*2) 102 (fun _=>.int .i64 0) (fun j=>.int .i64 (z j)) (by omega) HR1.out (by omega) (HS.out.below hbel1) (fun _ _=>rfl) HN.out ?_)
 intro w2 hrow2 hgr2 hsz2;have HR2:Hid (RowF w2 w.heap.size ((n+2)*2) 102 (fun j=>if j<n*2 then .int .i64 (z j) else .int .i64 0)):=hrow2;have HZ2:Hid (w2.heap.size=w.heap.size+1):=hsz2.trans HZ1.out;have HB2:Hid (Below w.heap.size w w2):=hbel1.grown hgr2 (by rw [HZ1.out];omega) (fun k hk=>by simp at hk;omega);clear hrow2 hsz2 hgr2 hbel1 HR1 HZ1 HS HN HM;go_wp2_with fail
 go_loopw [4] (fun i wr=>∃k:Nat,n≤k∧k≤n+2∧i=.int .i64 k∧Hid (wr.heap.size=w.heap.size+1)∧Hid (Below w.heap.size w wr)∧Hid (RowF wr w.heap.size ((n+2)*2) 102 (fun j=>.int .i64 (if j<n*2 then z j else if j<k*2 then (if j % 2=0 then -77 else 0) else 0))))
  (fun i _=>n+2-(intOf i).toNat)
 case atStart=>exact ⟨n,Nat.le_refl _,by omega,rfl,HZ2,HB2,HR2.out.congr (fun j _=>by by_cases h:j<n*2<;>simp [h])⟩
 case round=>
  obtain ⟨k,hk1,hk2,rfl,HZ,HB,HR⟩:=hrel;by_cases hlt:k<n+2
  ·have HP:Hid (∀j,_):=fun j=>Y4D k n j z hk1;have c0:=HR.out.cell (j:=k*2) (by omega);have c1:=HR.out.cell (j:=k*2+1) (by omega);have f0:=HR.out.frozen (k*2);have f1:=HR.out.frozen (k*2+1);go_wp2
   go_roundw
   case rel=>exact ⟨k+1,by omega,by omega,by go_num,by show _=_;rw [size_setCell,size_setCell];exact HZ.out,((HB.out.setCell (Nat.le_refl _) _).setCell (Nat.le_refl _) _),((HR.out.set (k*2) _).set (k*2+1) _).congr (fun j _=>HP.out j)⟩
   case measure=>simp [intOf];omega
  ·obtain rfl:k=n+2:=by omega
   go_wp2
   go_ret;exact ⟨rfl,HZ.out,HB.out,HR.out.congr (fun j hj=>by simp [padZ,hj])⟩
theorem Y2Z:(Tryz.prog.info? 138).map (fun i=>(i.zero,i.size,i.bytes))=some (some (.agg #[.int .i64 0,.int .i64 0,.int .i64 0]),3,24):=by kernel_rfl
theorem Y1J (p:Option Addr) (n cap:Nat) (z:Nat→Int) (w:World) (hs:Sl w p (n*3) (fun j=>.int .i64 (z j))) (hn:p=none→n=0) (hb:24*n≤140737488355328):
  Calls Tryz.prog 66 #[.slice p n cap] w fun e w'=>e=.returned (.slice (some ⟨w.heap.size,0,none⟩) (n+2:Nat) (n+2:Nat))∧w'.heap.size=w.heap.size+1∧Below w.heap.size w w'∧
   RowF w' w.heap.size ((n+2)*3) 138 (fun j=>.int .i64 (padZ 3 n z j)):=by
 have hB:n≤17592186044416:=by omega
 have HM:Hid (24*(n+2)≤281474976710656):=by show _≤_;omega
 have HS:Hid (Sl w p (n*3) (fun j=>.int .i64 (z j))):=hs;have HN:Hid (p=none→n=0):=hn;clear hs hn hb
 go_enter Tryz.func66,Tryz.ntmps66
 go_wp2_with (at_make;refine ZG _ rfl _ _ 25 rfl 138 _ 3 24 Tryz.underlying25 Y2Z _ _ _ _ (n+2) rfl rfl (by omega) (by omega) HM.out (by simp only [maxLen];omega) (fun _=>.int .i64 0) (fun j _=>Y8I j) ?_)
 intro w1 hrow1 hsz1 hbel1;have HR1:Hid (RowF w1 w.heap.size ((n+2)*3) 138 (fun _=>.int .i64 0)):=hrow1;have HZ1:Hid (w1.heap.size=w.heap.size+1):=hsz1;clear hrow1 hsz1;go_wp2_with (refine ZW rfl _ _ _ _ rfl 138 _ 3 24 Tryz.underlying25 Y2Z w.heap.size (n+2) (n+2) p n cap rfl rfl ((n+2)*3) 138 (fun _=>.int .i64 0) (fun j=>.int .i64 (z j)) (by omega) HR1.out (by omega) (HS.out.below hbel1) (fun _ _=>rfl) HN.out ?_)
 intro w2 hrow2 hgr2 hsz2;have HR2:Hid (RowF w2 w.heap.size ((n+2)*3) 138 (fun j=>if j<n*3 then .int .i64 (z j) else .int .i64 0)):=hrow2;have HZ2:Hid (w2.heap.size=w.heap.size+1):=hsz2.trans HZ1.out;have HB2:Hid (Below w.heap.size w w2):=hbel1.grown hgr2 (by rw [HZ1.out];omega) (fun k hk=>by simp at hk;omega);clear hrow2 hsz2 hgr2 hbel1 HR1 HZ1 HS HN HM;go_wp2_with fail
 go_loopw [4] (fun i wr=>∃k:Nat,n≤k∧k≤n+2∧i=.int .i64 k∧Hid (wr.heap.size=w.heap.size+1)∧Hid (Below w.heap.size w wr)∧Hid (RowF wr w.heap.size ((n+2)*3) 138 (fun j=>.int .i64 (if j<n*3 then z j else if j<k*3 then (if j % 3=0 then -77 else 0) else 0))))
  (fun i _=>n+2-(intOf i).toNat)
 case atStart=>exact ⟨n,Nat.le_refl _,by omega,rfl,HZ2,HB2,HR2.out.congr (fun j _=>by by_cases h:j<n*3<;>simp [h])⟩
 case round=>
  obtain ⟨k,hk1,hk2,rfl,HZ,HB,HR⟩:=hrel;by_cases hlt:k<n+2
  ·have HP:Hid (∀j,_):=fun j=>YaR k n j z hk1;have c0:=HR.out.cell (j:=k*3) (by omega);have c1:=HR.out.cell (j:=k*3+1) (by omega);have c2:=HR.out.cell (j:=k*3+2) (by omega);have f0:=HR.out.frozen (k*3);have f1:=HR.out.frozen (k*3+1);have f2:=HR.out.frozen (k*3+2);go_wp2
   go_roundw
   case rel=>exact ⟨k+1,by omega,by omega,by go_num,by show _=_;rw [size_setCell,size_setCell,size_setCell];exact HZ.out,(((HB.out.setCell (Nat.le_refl _) _).setCell (Nat.le_refl _) _).setCell (Nat.le_refl _) _),(((HR.out.set (k*3) _).set (k*3+1) _).set (k*3+2) _).congr (fun j _=>HP.out j)⟩
   case measure=>simp [intOf];omega
  ·obtain rfl:k=n+2:=by omega
   go_wp2
   go_ret;exact ⟨rfl,HZ.out,HB.out,HR.out.congr (fun j hj=>by simp [padZ,hj])⟩
theorem Y36:(Tryz.prog.info? 3).map (fun i=>(i.zero,i.size,i.bytes))=some (some (.int .i64 0),1,8):=by kernel_rfl
theorem Jq (p:Option Addr) (n cap:Nat) (z:Nat→Int) (w:World) (hs:Sl w p (n) (fun j=>.int .i64 (z j))) (hn:p=none→n=0) (hb:8*n≤140737488355328):
  Calls Tryz.prog 67 #[.slice p n cap] w fun e w'=>e=.returned (.slice (some ⟨w.heap.size,0,none⟩) (n+2:Nat) (n+2:Nat))∧w'.heap.size=w.heap.size+1∧Below w.heap.size w w'∧
   RowF w' w.heap.size ((n+2)*1) 3 (fun j=>.int .i64 (padZ 1 n z j)):=by
 have hB:n≤17592186044416:=by omega
 have HM:Hid (8*(n+2)≤281474976710656):=by show _≤_;omega
 have HS:Hid (Sl w p (n) (fun j=>.int .i64 (z j))):=hs;have HN:Hid (p=none→n=0):=hn;clear hs hn hb
 go_enter Tryz.func67,Tryz.ntmps67
 go_wp2_with (at_make;refine ZG _ rfl _ _ 26 rfl 3 _ 1 8 Tryz.underlying26 Y36 _ _ _ _ (n+2) rfl rfl (by omega) (by omega) HM.out (by simp only [maxLen];omega) (fun _=>.int .i64 0) (fun j _=>Y3z j) ?_)
 intro w1 hrow1 hsz1 hbel1;have HR1:Hid (RowF w1 w.heap.size (n+2) 3 (fun _=>.int .i64 0)):=hrow1;have HZ1:Hid (w1.heap.size=w.heap.size+1):=hsz1;clear hrow1 hsz1;go_wp2_with (refine ZW rfl _ _ _ _ rfl 3 _ 1 8 Tryz.underlying26 Y36 w.heap.size (n+2) (n+2) p n cap rfl rfl (n+2) 3 (fun _=>.int .i64 0) (fun j=>.int .i64 (z j)) (by omega) HR1.out (by omega) (by rw [Nat.mul_one];exact HS.out.below hbel1) (fun _ _=>rfl) HN.out ?_)
 intro w2 hrow2 hgr2 hsz2;have HR2:Hid (RowF w2 w.heap.size (n+2) 3 (fun j=>if j<n then .int .i64 (z j) else .int .i64 0)):=hrow2;have HZ2:Hid (w2.heap.size=w.heap.size+1):=hsz2.trans HZ1.out;have HB2:Hid (Below w.heap.size w w2):=hbel1.grown hgr2 (by rw [HZ1.out];omega) (fun k hk=>by simp at hk;omega);clear hrow2 hsz2 hgr2 hbel1 HR1 HZ1 HS HN HM;go_wp2_with fail
 go_loopw [4] (fun i wr=>∃k:Nat,n≤k∧k≤n+2∧i=.int .i64 k∧Hid (wr.heap.size=w.heap.size+1)∧Hid (Below w.heap.size w wr)∧Hid (RowF wr w.heap.size (n+2) 3 (fun j=>.int .i64 (if j<n then z j else if j<k then (if j % 1=0 then -77 else 0) else 0))))
  (fun i _=>n+2-(intOf i).toNat)
 case atStart=>exact ⟨n,Nat.le_refl _,by omega,rfl,HZ2,HB2,HR2.out.congr (fun j _=>by by_cases h:j<n<;>simp [h])⟩
 case round=>
  obtain ⟨k,hk1,hk2,rfl,HZ,HB,HR⟩:=hrel;by_cases hlt:k<n+2
  ·have HP:Hid (∀j,_):=fun j=>Y3D k n j z hk1;have c0:=HR.out.cell (j:=k) (by omega);have f0:=HR.out.frozen (k);go_wp2
   go_roundw
   case rel=>exact ⟨k+1,by omega,by omega,by go_num,by show _=_;rw [size_setCell];exact HZ.out,(HB.out.setCell (Nat.le_refl _) _),(HR.out.set (k) _).congr (fun j _=>HP.out j)⟩
   case measure=>simp [intOf];omega
  ·obtain rfl:k=n+2:=by omega
   go_wp2
   go_ret;exact ⟨rfl,HZ.out,HB.out,(by rw [Nat.mul_one];exact HR.out.congr (fun j hj=>by simp [padZ,hj]))⟩
end Go.Proofs.YtdoghgnifkgfdaaGreat
