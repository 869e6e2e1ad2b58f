import Derived.Test.YtdoghgnifkgfdaaGreatP00
set_option maxRecDepth 100000
set_option maxHeartbeats 16000000
open Option renaming none->Ai,some->yi
open Go renaming World->ui,Value->ti,undef->ri
open Bool renaming true->ji,false->gi
namespace Go.Proofs.YtdoghgnifkgfdaaGreat
open Tryz Go.RowKit
theorem Gl{p:Prop}(h:p):Hid p:=h
def Pj(k n:Nat)(z:Nat->Int)(j:Nat):Int:=if j<n*k then z j else if j%k=0 then -77 else 0
def Ei(w:ui)(g m t:Nat)(f:Nat->ti):Prop:=
 ∃cs:Array ti,w.heap[g]?=yi (.cells cs t (0,0))/\cs.size=m/\∀j,j<m->cs[j]?=yi (f j)
def Sl(w:ui)(p:Option Addr)(m:Nat)(f:Nat->ti):Prop:=
 m=0\/∃b off,p=yi ⟨b,off,Ai⟩/\∀j,j<m->w.cell? ⟨b,off+j,Ai⟩=yi (f j)
section
variable {w w':ui}{g m t:Nat}{f f':Nat->ti}
theorem Ei.cell(h:Ei w g m t f){j:Nat}(hj:j<m):w.cell? ⟨g,j,Ai⟩=yi (f j):=by
 obtain⟨cs,h1,_,h3⟩:=h;rw[cell_of_row w g j cs t (0,0) h1];exact h3 j hj
theorem Ei.frozen(h:Ei w g m t f)(j:Nat):w.frozen? ⟨g,j,Ai⟩=false:=by
 obtain⟨cs,h1,_⟩:=h;exact frozen_of_row w g j cs t h1
theorem Ei.lt(h:Ei w g m t f):g<w.heap.size:=by
 obtain⟨cs,h1,_⟩:=h;exact(Array.getElem?_eq_some_iff.1 h1).1
theorem Ei.congr(h:Ei w g m t f)(hf:∀j,j<m->f j=f' j):Ei w g m t f':=by
 obtain⟨cs,h1,h2,h3⟩:=h;exact⟨cs,h1,h2,fun j hj=>by rw[h3 j hj,hf j hj]⟩
theorem Ei.of_heap(h:Ei w g m t f)(e:w'.heap[g]?=w.heap[g]?):Ei w' g m t f:=by
 obtain⟨cs,h1,h2,h3⟩:=h;exact⟨cs,by rw[e];exact h1,h2,h3⟩
theorem Ei.set(h:Ei w g m t f)(j:Nat)(v:ti):Ei (w.setCell ⟨g,j,Ai⟩ v) g m t (fun i=>if i=j then v else f i):=by
 obtain⟨cs,h1,h2,h3⟩:=h;refine⟨cs.setIfInBounds j v,heap_setCell_same w g j cs t v h1,by simp[h2],fun i hi=>?_⟩;rw[Array.getElem?_setIfInBounds];by_cases e:j=i
 ·subst e;simp[h2,hi]
 ·have e':¬i=j:=fun x=>e x.symm;simp[e,e',h3 i hi]
theorem Ei.other(h:Ei w g m t f)(a:Addr)(v:ti)(ha:a.block≠g):Ei (w.setCell a v) g m t f:=
 h.of_heap (heap_setCell_other w a g v (fun e=>ha e.symm))
theorem Ei.alloc(h:Ei w g m t f)(o:Obj):Ei (w.alloc o) g m t f:=h.of_heap (heap_alloc_old w o h.lt)
theorem Ei.new(w:ui)(cs:Array ti)(t:Nat)(f:Nat->ti)(hf:∀j,j<cs.size->cs[j]?=yi (f j)):Ei (w.alloc (.cells cs t)) w.heap.size cs.size t f:=
 ⟨cs,heap_alloc_new w _,rfl,hf⟩
theorem Ei.below{B:Nat}(h:Ei w g m t f)(hb:Below B w w')(hg:g<B):Ei w' g m t f:=h.of_heap (hb.block g hg)
theorem Ei.EU(h:Ei w g m t f){m':Nat}(hm:m'<=m):Sl w (yi ⟨g,0,Ai⟩) m' f:=.inr ⟨g,0,rfl,fun j hj=>by rw[Nat.zero_add];exact h.cell E0⟩
end
theorem Sl.keep{w w':ui}{p:Option Addr}{m:Nat}{f:Nat->ti}(h:Sl w p m f)(hk:∀a v,w.cell? a=yi v->w'.cell? a=yi v):Sl w' p m f:=by
 rcases h with h|⟨b,off,hp,hc⟩
 ·exact .inl h
 ·exact .inr ⟨b,off,hp,fun j hj=>hk _ _ (hc j hj)⟩
theorem Yp{w w':ui}(h:Below w.heap.size w w'):∀a v,w.cell? a=yi v->w'.cell? a=yi v:=by
 intro a v ha;rw[h.cell (block_lt_of_cell ha)];exact ha
theorem Sl.below{w w':ui}{p:Option Addr}{m:Nat}{f:Nat->ti}(h:Sl w p m f)(hb:Below w.heap.size w w'):Sl w' p m f:=h.keep (Yp hb)
theorem Sl.congr{w:ui}{p:Option Addr}{m:Nat}{f f':Nat->ti}(h:Sl w p m f)(hf:∀j,j<m->f j=f' j):Sl w p m f':=by
 rcases h with h|⟨b,off,hp,hc⟩
 ·exact .inl h
 ·exact .inr ⟨b,off,hp,fun j hj=>by rw[hc j hj,hf j hj]⟩
theorem grownBy_setCell{w0 w:ui}{g:Nat}(h:w0.grownBy w (yi g))(j:Nat)(v:ti):w0.grownBy (w.setCell ⟨g,j,Ai⟩ v) (yi g):=
 ⟨h.os,h.tape,h.output,by simpa[World.setCell]using h.size,fun k hk Jj=>by
  rw[heap_setCell_other w _ k v (fun e=>Jj (by simp[e]))];exact h.block k hk Jj⟩
theorem hJ{P:Program}(w:ui)(dT sT ty elem:TypeId)(size g Ww mN:Nat)(sp:Option Addr)(Zk QL:Nat)(m t:Nat)(f f':Nat->ti)
  (hu:P.underlying dT=yi (.slice elem))(hs:(P.info? elem).map (·.size)=yi size)(hle:Zk<=Ww)(Nk:Ei w g m t f)(hm:Ww*size<=m)
  (uT:Sl w sp (Zk*size) f')(h1:∀j,j<Zk*size->(f' j).oneCell'=ji)(Ry:sp=Ai->Zk=0):
  ∃w',(Builtin.copy_ #[dT,sT] ty #[.slice (yi ⟨g,0,Ai⟩) Ww mN,.slice sp Zk QL]).run P w=.ok (goInt Zk) w'/\
   Ei w' g m t (fun j=>if j<Zk*size then f' j else f j)/\w.grownBy w' (yi g)/\w'.heap.size=w.heap.size:=by
 have y10:Nat.min Zk Ww=Zk:=Nat.min_eq_left hle;cases hq:P.info? elem with
 |none=>simp[hq]at hs
 |some i=>
  have hi:i.size=size:=by simpa[hq]using hs
  rcases uT with hm0|⟨b,off,rfl,hc⟩
  ·refine⟨w,?_,Nk.congr (fun j _=>by simp[hm0]),World.grownBy.refl _ _,rfl⟩;cases sp with
   |none=>
    have h0:=Ry rfl;subst h0;simp[Builtin.copy_,run_underlying hu,Builtin.lenOf,Builtin.firstCells,sizeOf,typeInfo,hq,storeCells]
   |some q=>
    have hl:(loadCells q 0).run P w=.ok #[] w:=by
     have:=run_loadCells_list (P:=P) w q [] (fun j v hv=>by simp at hv);exact Yc
    simp[Builtin.copy_,run_underlying hu,Builtin.lenOf,Builtin.firstCells,sizeOf,typeInfo,hq,hi,y10,hm0,hl,storeCells]
  ·obtain⟨cs,hg,hcs,hf⟩:=Nk;have hl:(loadCells ⟨b,off,Ai⟩ (Zk*size)).run P w=.ok ((List.range (Zk*size)).map f').toArray w:=by
    have:=run_loadCells_list (P:=P) w ⟨b,off,Ai⟩ ((List.range (Zk*size)).map f') (fun j v hv=>by
     rw[Addr.add_lit];have hj:j<Zk*size:=by have:=(List.getElem?_eq_some_iff.1 hv).1;exact Yc
     rw[hc j hj];rw[<-hv];simp[hj])
    exact Yc
   have Ud0:Zk*size<=m:=Nat.le_trans (Nat.mul_le_mul_right _ hle) hm;have wm:=run_storeCells_at P g 0 t ((List.range (Zk*size)).map f') 0 cs w hg (by simp[hcs];omega) (fun v hv=>by
    obtain⟨j,hj,rfl⟩:=List.mem_map.1 hv;exact h1 j E2)
   have ma0:(storeCells ⟨g,0,Ai⟩ ((List.range (Zk*size)).map f')).run P w=.ok () (w.setRow g ((List.range (Zk*size)).map f'++cs.toList.drop (Zk*size)).toArray):=by
    simpa using wm
   refine⟨w.setRow g ((List.range (Zk*size)).map f'++cs.toList.drop (Zk*size)).toArray,?_,⟨((List.range (Zk*size)).map f'++cs.toList.drop (Zk*size)).toArray,setRow_heap w g cs _ t _ hg,?_,?_⟩,⟨rfl,rfl,rfl,P0,fun k _ hk=>setRow_other w g k _ (fun e=>hk (by simp[e]))⟩,P0⟩
   ·exact Ag
   ·simp[hcs];omega
   ·intro j hj;by_cases Wi:j<Zk*size
    ·simp[Wi,List.getElem?_append]
    ·have:=hf j hj;simp only[Wi,if_false];rw[<-this];simp[List.getElem?_append,Wi];congr 1;omega
theorem Ul{P:Program}{w:ui}{ops:Array Oper}{rest:List Oper}{o:Oper}{a:Act}{Q:Exit->Act->ui->Prop}(UK:o.guard=Ai)(d s:Operand)(dT sT:TypeId)
  (ho:o.op=.call {callee:=.builtin .copy,args:=#[d,s],argTypes:=#[dT,sT]})(elem:TypeId)(zv:ti)(size bytes:Nat)(hu:P.underlying dT=yi (.slice elem))(Xr:(P.info? elem).map (fun i=>(i.zero,i.size,i.bytes))=yi (yi zv,size,bytes))
  (g Ww mN:Nat)(sp:Option Addr)(Zk QL:Nat)(hd:a.eval d=.slice (yi ⟨g,0,Ai⟩) Ww mN)(hs:a.eval s=.slice sp Zk QL)
  (m t:Nat)(f f':Nat->ti)(hle:Zk<=Ww)(Nk:Ei w g m t f)(hm:Ww*size<=m)
  (uT:Sl w sp (Zk*size) f')(h1:∀j,j<Zk*size->(f' j).oneCell'=ji)(Ry:sp=Ai->Zk=0)
  (h:∀w',Ei w' g m t (fun j=>if j<Zk*size then f' j else f j)->w.grownBy w' (yi g)->w'.heap.size=w.heap.size->wpList P ops Q rest (a.put o.dst (goInt Zk)) w'):
  wpList P ops Q (o::rest) a w:=by
 refine wpList_plain UK fun K hK=>?_;have hsz:(P.info? elem).map (·.size)=yi size:=by
  obtain⟨i,h2,_,h4,_⟩:=info_parts Xr;simp[h2,h4]
 obtain⟨w',zu,r1,r2,r3⟩:=hJ (P:=P) w dT sT o.type elem size g Ww mN sp Zk QL m t f f' hu hsz hle Nk hm uT h1 Ry;unfold Oper.wp;simp[execOp,ho,resolve,invoke,builtin,hd,hs,zu,Result.andThen];exact hK _ _ (h w' r1 r2 r3)
theorem Ql{P:Program}(w:ui){ops:Array Oper}{rest:List Oper}{o:Oper}{a:Act}{Q:Exit->Act->ui->Prop}
  (hg:o.guard=Ai)(l c:Operand)(t:TypeId)(hop:o.op=Op.makeSlice t l c)
  (e:TypeId)(z:ti)(size bytes:Nat)(ht:P.underlying t=yi (.slice e))(Xr:(P.info? e).map (fun i=>(i.zero,i.size,i.bytes))=yi (yi z,size,bytes))
  (kl kc:IntKind)(L C:Int)(n:Nat)(hl:a.eval l=.int kl L)(hc:a.eval c=.int kc C)(hL:L=(n:Int))(hC:C=(n:Int))(b2:bytes*n<=281474976710656)(b3:n<=maxLen)
  (f:Nat->ti)(hf:∀j,j<n*size->z.cells[j%z.cells.size]! = f j)
  (hK:∀w',Ei w' w.heap.size (n*size) e f->w'.heap.size=w.heap.size+1->Below w.heap.size w w'->wpList P ops Q rest (a.put o.dst (.slice (yi ⟨w.heap.size,0,Ai⟩) n n)) w'):
  wpList P ops Q (o::rest) a w:=by
 refine wpList_plain hg fun K hK'=>?_;obtain⟨i,h2,h3,h4,h5⟩:=info_parts Xr;subst hL;subst hC;subst h4;subst h5;have xj0:(n:Int)<=9223372036854775807:=by
  have h:=b3;simp[maxLen]at h;omega
 have uk:(i.bytes:Int)*(n:Int)<=281474976710656:=by
  have h:((i.bytes*n:Nat):Int)<=281474976710656:=E0;rwa [Int.natCast_mul]at h
 have hr:=run_make (P:=P) w t e i z ht h2 h3 kl kc n n E0 (Int.le_refl _) uk xj0;simp only[Int.toNat_natCast]at hr;unfold Oper.wp;simp[execOp,hop,hl,hc,hr,Result.andThen];refine hK' _ _ (hK _ ?_ P0 ((Below.refl _ _).alloc (Nat.le_refl _) _));have:=Ei.new w (madeCells z.cells (n*i.size)) e f (fun j hj=>by
  rw[size_madeCells]at hj;rw[<-hf j hj];simp[madeCells,hj])
 rwa [size_madeCells]at this
theorem PE(j:Nat):(Value.int .i64 0).cells[j%(Value.int .i64 0).cells.size]! = Value.int .i64 0:=by
 have h:(Value.int .i64 0).cells=#[.int .i64 0]:=rfl;rw[h];have:j%1=0:=E0;simp[this]
theorem TE(j:Nat):(Value.agg #[.int .i64 0,.int .i64 0]).cells[j%(Value.agg #[.int .i64 0,.int .i64 0]).cells.size]! = Value.int .i64 0:=by
 have h:(Value.agg #[.int .i64 0,.int .i64 0]).cells=#[.int .i64 0,.int .i64 0]:=rfl;rw[h];have:j%2=0\/j%2=1:=E0;rcases this with e|e<;>simp[e]
theorem mO(j:Nat):(Value.agg #[.int .i64 0,.int .i64 0,.int .i64 0]).cells[j%(Value.agg #[.int .i64 0,.int .i64 0,.int .i64 0]).cells.size]! = Value.int .i64 0:=by
 have h:(Value.agg #[.int .i64 0,.int .i64 0,.int .i64 0]).cells=#[.int .i64 0,.int .i64 0,.int .i64 0]:=rfl;rw[h];have:j%3=0\/j%3=1\/j%3=2:=E0;rcases this with e|e|e<;>simp[e]
theorem LN(j:Nat):(Value.agg #[.int .i64 0,.int .i64 0,.int .i64 0,.int .i64 0]).cells[j%(Value.agg #[.int .i64 0,.int .i64 0,.int .i64 0,.int .i64 0]).cells.size]! = Value.int .i64 0:=by
 have h:(Value.agg #[.int .i64 0,.int .i64 0,.int .i64 0,.int .i64 0]).cells=#[.int .i64 0,.int .i64 0,.int .i64 0,.int .i64 0]:=rfl;rw[h];have:j%4=0\/j%4=1\/j%4=2\/j%4=3:=E0;rcases this with e|e|e|e<;>simp[e]
theorem iP(k n j:Nat)(z:Nat->Int)(hk:n<=k):(if j=k then Value.int .i64 (-77)else Value.int .i64 (if j<n then z j else if j<k then (if j%1=0 then -77 else 0)else 0))=
  Value.int .i64 (if j<n then z j else if j<k+1 then (if j%1=0 then -77 else 0)else 0):=by
 repeat' split
 all_goals first
  |rfl
  |(exfalso;omega)
theorem TP(k n j:Nat)(z:Nat->Int)(hk:n<=k):(if j=k*2+1 then Value.int .i64 0 else if j=k*2 then Value.int .i64 (-77)else Value.int .i64 (if j<n*2 then z j else if j<k*2 then (if j%2=0 then -77 else 0)else 0))=
  Value.int .i64 (if j<n*2 then z j else if j<(k+1)*2 then (if j%2=0 then -77 else 0)else 0):=by
 repeat' split
 all_goals first
  |rfl
  |(exfalso;omega)
theorem J10(k n j:Nat)(z:Nat->Int)(hk:n<=k):(if j=k*3+2 then Value.int .i64 0 else if j=k*3+1 then Value.int .i64 0 else if j=k*3 then Value.int .i64 (-77)else Value.int .i64 (if j<n*3 then z j else if j<k*3 then (if j%3=0 then -77 else 0)else 0))=
  Value.int .i64 (if j<n*3 then z j else if j<(k+1)*3 then (if j%3=0 then -77 else 0)else 0):=by
 repeat' split
 all_goals first
  |rfl
  |(exfalso;omega)
theorem d00(k n j:Nat)(z:Nat->Int)(hk:n<=k):(if j=k*4+3 then Value.int .i64 0 else if j=k*4+2 then Value.int .i64 0 else if j=k*4+1 then Value.int .i64 0 else if j=k*4 then Value.int .i64 (-77)else Value.int .i64 (if j<n*4 then z j else if j<k*4 then (if j%4=0 then -77 else 0)else 0))=
  Value.int .i64 (if j<n*4 then z j else if j<(k+1)*4 then (if j%4=0 then -77 else 0)else 0):=by
 repeat' split
 all_goals first
  |rfl
  |(exfalso;omega)
theorem size_setCell(w:ui)(a:Addr)(v:ti):(w.setCell a v).heap.size=w.heap.size:=by simp[World.setCell]
theorem RA:(prog.info? 97).map (fun i=>(i.zero,i.size,i.bytes))=yi (yi (.agg #[.int .i64 0,.int .i64 0,.int .i64 0,.int .i64 0]),4,32):=J0
theorem YD(p:Option Addr)(n cap:Nat)(z:Nat->Int)(w:ui)(hs:Sl w p (n*4) (fun j=>.int .i64 (z j)))(hn:p=Ai->n=0)(hb:32*n<=140737488355328):
  Calls prog 63 #[.slice p n cap] w fun e w'=>e=.returned (.slice (yi ⟨w.heap.size,0,Ai⟩) (n+2:Nat) (n+2:Nat))/\w'.heap.size=w.heap.size+1/\Below w.heap.size w w'/\
   Ei w' w.heap.size ((n+2)*4) 97 (fun j=>.int .i64 (Pj 4 n z j)):=by
 have hB:n<=17592186044416:=E0;have HM:Hid (32*(n+2)<=281474976710656):=by show _<=_;omega
 have HS:=Gl hs;have HN:=Gl hn
 go_enter func63,ntmps63
 go_wp2_with (at_make;refine Ql _ rfl _ _ 50 rfl 97 _ 4 32 underlying50 RA _ _ _ _ (n+2) rfl rfl E0 E0 HM.out Y1 (fun _=>.int .i64 0) (fun j _=>LN j) ?_)
 refine uf fun w1 Pn iw YB=>?_;go_wp2_with (refine Ul rfl _ _ _ _ rfl 97 _ 4 32 underlying50 RA w.heap.size (n+2) (n+2) p n cap rfl rfl ((n+2)*4) 97 (fun _=>.int .i64 0) (fun j=>.int .i64 (z j)) E0 iw.out E0 (HS.out.below Pn) (fun _ _=>rfl) HN.out ?_);intro w2 Kv ez Ks;refine Vb fun pG EW Qv=>?_;go_wp2_with fail;go_loopw [4] (fun i wr=>∃k:Nat,n<=k/\k<=n+2/\i=.int .i64 k/\Hid (wr.heap.size=w.heap.size+1)/\Hid (Below w.heap.size w wr)/\Hid (Ei wr w.heap.size ((n+2)*4) 97 (fun j=>.int .i64 (if j<n*4 then z j else if j<k*4 then (if j%4=0 then -77 else 0)else 0))))
  (fun i _=>n+2-(intOf i).toNat)
 case atStart=>exact⟨n,Nat.le_refl _,E0,rfl,EW,Qv,pG.out.congr (fun j _=>by by_cases h:j<n*4<;>simp[h])⟩
 case round=>
  obtain⟨k,vA,qA,rfl,HZ,HB,HR⟩:=hrel;by_cases Wi:k<n+2
  ·have HP:Hid (∀j,_):=fun j=>d00 k n j z vA;have c0:=HR.out.cell (j:=k*4) E0;have c1:=HR.out.cell (j:=k*4+1) E0;have c2:=HR.out.cell (j:=k*4+2) E0;have c3:=HR.out.cell (j:=k*4+3) E0;have f0:=HR.out.frozen (k*4);have f1:=HR.out.frozen (k*4+1);have f2:=HR.out.frozen (k*4+2);have f3:=HR.out.frozen (k*4+3);go_wp2
   go_roundw
   case rel=>exact⟨k+1,E0,E0,J1,by show _=_;rw[size_setCell,size_setCell,size_setCell,size_setCell];exact HZ.out,((((HB.out.setCell (Nat.le_refl _) _).setCell (Nat.le_refl _) _).setCell (Nat.le_refl _) _).setCell (Nat.le_refl _) _),((((HR.out.set (k*4) _).set (k*4+1) _).set (k*4+2) _).set (k*4+3) _).congr (fun j _=>HP.out j)⟩
   case measure=>simp[intOf];omega
  ·obtain rfl:k=n+2:=by omega
   exact yd
theorem Dm:(prog.info? 2).map (fun i=>(i.zero,i.size,i.bytes))=yi (yi (.int .i64 0),1,8):=J0
theorem Bz(p:Option Addr)(n cap:Nat)(z:Nat->Int)(w:ui)(hs:Sl w p (n) (fun j=>.int .i64 (z j)))(hn:p=Ai->n=0)(hb:8*n<=140737488355328):
  Calls prog 64 #[.slice p n cap] w fun e w'=>e=.returned (.slice (yi ⟨w.heap.size,0,Ai⟩) (n+2:Nat) (n+2:Nat))/\w'.heap.size=w.heap.size+1/\Below w.heap.size w w'/\
   Ei w' w.heap.size ((n+2)*1) 2 (fun j=>.int .i64 (Pj 1 n z j)):=by
 have hB:n<=17592186044416:=E0;have HM:Hid (8*(n+2)<=281474976710656):=by show _<=_;omega
 have HS:=Gl hs;have HN:=Gl hn
 go_enter func64,ntmps64
 go_wp2_with (at_make;refine Ql _ rfl _ _ 51 rfl 2 _ 1 8 underlying51 Dm _ _ _ _ (n+2) rfl rfl E0 E0 HM.out Y1 (fun _=>.int .i64 0) (fun j _=>PE j) ?_)
 refine uf fun w1 Pn iw YB=>?_;go_wp2_with (refine Ul rfl _ _ _ _ rfl 2 _ 1 8 underlying51 Dm w.heap.size (n+2) (n+2) p n cap rfl rfl (n+2) 2 (fun _=>.int .i64 0) (fun j=>.int .i64 (z j)) E0 iw.out E0 (by rw[Nat.mul_one];exact HS.out.below Pn) (fun _ _=>rfl) HN.out ?_);intro w2 Kv ez Ks;refine Vb fun pG EW Qv=>?_;go_wp2_with fail;go_loopw [4] (fun i wr=>∃k:Nat,n<=k/\k<=n+2/\i=.int .i64 k/\Hid (wr.heap.size=w.heap.size+1)/\Hid (Below w.heap.size w wr)/\Hid (Ei wr w.heap.size (n+2) 2 (fun j=>.int .i64 (if j<n then z j else if j<k then (if j%1=0 then -77 else 0)else 0))))
  (fun i _=>n+2-(intOf i).toNat)
 case atStart=>exact⟨n,Nat.le_refl _,E0,rfl,EW,Qv,pG.out.congr (fun j _=>by by_cases h:j<n<;>simp[h])⟩
 case round=>
  obtain⟨k,vA,qA,rfl,HZ,HB,HR⟩:=hrel;by_cases Wi:k<n+2
  ·have HP:Hid (∀j,_):=fun j=>iP k n j z vA;have c0:=HR.out.cell (j:=k) E0;have f0:=HR.out.frozen (k);go_wp2
   go_roundw
   case rel=>exact⟨k+1,E0,E0,J1,by show _=_;rw[size_setCell];exact HZ.out,(HB.out.setCell (Nat.le_refl _) _),(HR.out.set (k) _).congr (fun j _=>HP.out j)⟩
   case measure=>simp[intOf];omega
  ·obtain rfl:k=n+2:=by omega
   exact Wg
theorem Rx:(prog.info? 102).map (fun i=>(i.zero,i.size,i.bytes))=yi (yi (.agg #[.int .i64 0,.int .i64 0]),2,16):=J0
theorem WE(p:Option Addr)(n cap:Nat)(z:Nat->Int)(w:ui)(hs:Sl w p (n*2) (fun j=>.int .i64 (z j)))(hn:p=Ai->n=0)(hb:16*n<=140737488355328):
  Calls prog 65 #[.slice p n cap] w fun e w'=>e=.returned (.slice (yi ⟨w.heap.size,0,Ai⟩) (n+2:Nat) (n+2:Nat))/\w'.heap.size=w.heap.size+1/\Below w.heap.size w w'/\
   Ei w' w.heap.size ((n+2)*2) 102 (fun j=>.int .i64 (Pj 2 n z j)):=by
 have hB:n<=17592186044416:=E0;have HM:Hid (16*(n+2)<=281474976710656):=by show _<=_;omega
 have HS:=Gl hs;have HN:=Gl hn
 go_enter func65,ntmps65
 go_wp2_with (at_make;refine Ql _ rfl _ _ 100 rfl 102 _ 2 16 underlying100 Rx _ _ _ _ (n+2) rfl rfl E0 E0 HM.out Y1 (fun _=>.int .i64 0) (fun j _=>TE j) ?_)
 refine uf fun w1 Pn iw YB=>?_;go_wp2_with (refine Ul rfl _ _ _ _ rfl 102 _ 2 16 underlying100 Rx w.heap.size (n+2) (n+2) p n cap rfl rfl ((n+2)*2) 102 (fun _=>.int .i64 0) (fun j=>.int .i64 (z j)) E0 iw.out E0 (HS.out.below Pn) (fun _ _=>rfl) HN.out ?_);intro w2 Kv ez Ks;refine Vb fun pG EW Qv=>?_;go_wp2_with fail;go_loopw [4] (fun i wr=>∃k:Nat,n<=k/\k<=n+2/\i=.int .i64 k/\Hid (wr.heap.size=w.heap.size+1)/\Hid (Below w.heap.size w wr)/\Hid (Ei wr w.heap.size ((n+2)*2) 102 (fun j=>.int .i64 (if j<n*2 then z j else if j<k*2 then (if j%2=0 then -77 else 0)else 0))))
  (fun i _=>n+2-(intOf i).toNat)
 case atStart=>exact⟨n,Nat.le_refl _,E0,rfl,EW,Qv,pG.out.congr (fun j _=>by by_cases h:j<n*2<;>simp[h])⟩
 case round=>
  obtain⟨k,vA,qA,rfl,HZ,HB,HR⟩:=hrel;by_cases Wi:k<n+2
  ·have HP:Hid (∀j,_):=fun j=>TP k n j z vA;have c0:=HR.out.cell (j:=k*2) E0;have c1:=HR.out.cell (j:=k*2+1) E0;have f0:=HR.out.frozen (k*2);have f1:=HR.out.frozen (k*2+1);go_wp2
   go_roundw
   case rel=>exact⟨k+1,E0,E0,J1,s7,((HB.out.setCell (Nat.le_refl _) _).setCell (Nat.le_refl _) _),((HR.out.set (k*2) _).set (k*2+1) _).congr (fun j _=>HP.out j)⟩
   case measure=>simp[intOf];omega
  ·obtain rfl:k=n+2:=by omega
   exact yd
theorem JH:(prog.info? 138).map (fun i=>(i.zero,i.size,i.bytes))=yi (yi (.agg #[.int .i64 0,.int .i64 0,.int .i64 0]),3,24):=J0
theorem MK(p:Option Addr)(n cap:Nat)(z:Nat->Int)(w:ui)(hs:Sl w p (n*3) (fun j=>.int .i64 (z j)))(hn:p=Ai->n=0)(hb:24*n<=140737488355328):
  Calls prog 66 #[.slice p n cap] w fun e w'=>e=.returned (.slice (yi ⟨w.heap.size,0,Ai⟩) (n+2:Nat) (n+2:Nat))/\w'.heap.size=w.heap.size+1/\Below w.heap.size w w'/\
   Ei w' w.heap.size ((n+2)*3) 138 (fun j=>.int .i64 (Pj 3 n z j)):=by
 have hB:n<=17592186044416:=E0;have HM:Hid (24*(n+2)<=281474976710656):=by show _<=_;omega
 have HS:=Gl hs;have HN:=Gl hn
 go_enter func66,ntmps66
 go_wp2_with (at_make;refine Ql _ rfl _ _ 25 rfl 138 _ 3 24 underlying25 JH _ _ _ _ (n+2) rfl rfl E0 E0 HM.out Y1 (fun _=>.int .i64 0) (fun j _=>mO j) ?_)
 refine uf fun w1 Pn iw YB=>?_;go_wp2_with (refine Ul rfl _ _ _ _ rfl 138 _ 3 24 underlying25 JH w.heap.size (n+2) (n+2) p n cap rfl rfl ((n+2)*3) 138 (fun _=>.int .i64 0) (fun j=>.int .i64 (z j)) E0 iw.out E0 (HS.out.below Pn) (fun _ _=>rfl) HN.out ?_);intro w2 Kv ez Ks;refine Vb fun pG EW Qv=>?_;go_wp2_with fail;go_loopw [4] (fun i wr=>∃k:Nat,n<=k/\k<=n+2/\i=.int .i64 k/\Hid (wr.heap.size=w.heap.size+1)/\Hid (Below w.heap.size w wr)/\Hid (Ei wr w.heap.size ((n+2)*3) 138 (fun j=>.int .i64 (if j<n*3 then z j else if j<k*3 then (if j%3=0 then -77 else 0)else 0))))
  (fun i _=>n+2-(intOf i).toNat)
 case atStart=>exact⟨n,Nat.le_refl _,E0,rfl,EW,Qv,pG.out.congr (fun j _=>by by_cases h:j<n*3<;>simp[h])⟩
 case round=>
  obtain⟨k,vA,qA,rfl,HZ,HB,HR⟩:=hrel;by_cases Wi:k<n+2
  ·have HP:Hid (∀j,_):=fun j=>J10 k n j z vA;refine yh fun c0 c1 c2 f0 f1 f2=>?_;go_wp2
   go_roundw
   case rel=>exact⟨k+1,E0,E0,J1,t7,(((HB.out.setCell (Nat.le_refl _) _).setCell (Nat.le_refl _) _).setCell (Nat.le_refl _) _),(((HR.out.set (k*3) _).set (k*3+1) _).set (k*3+2) _).congr (fun j _=>HP.out j)⟩
   case measure=>simp[intOf];omega
  ·obtain rfl:k=n+2:=by omega
   exact yd
theorem dK:(prog.info? 3).map (fun i=>(i.zero,i.size,i.bytes))=yi (yi (.int .i64 0),1,8):=J0
theorem dC(p:Option Addr)(n cap:Nat)(z:Nat->Int)(w:ui)(hs:Sl w p (n) (fun j=>.int .i64 (z j)))(hn:p=Ai->n=0)(hb:8*n<=140737488355328):
  Calls prog 67 #[.slice p n cap] w fun e w'=>e=.returned (.slice (yi ⟨w.heap.size,0,Ai⟩) (n+2:Nat) (n+2:Nat))/\w'.heap.size=w.heap.size+1/\Below w.heap.size w w'/\
   Ei w' w.heap.size ((n+2)*1) 3 (fun j=>.int .i64 (Pj 1 n z j)):=by
 have hB:n<=17592186044416:=E0;have HM:Hid (8*(n+2)<=281474976710656):=by show _<=_;omega
 have HS:=Gl hs;have HN:=Gl hn
 go_enter func67,ntmps67
 go_wp2_with (at_make;refine Ql _ rfl _ _ 26 rfl 3 _ 1 8 underlying26 dK _ _ _ _ (n+2) rfl rfl E0 E0 HM.out Y1 (fun _=>.int .i64 0) (fun j _=>PE j) ?_)
 refine uf fun w1 Pn iw YB=>?_;go_wp2_with (refine Ul rfl _ _ _ _ rfl 3 _ 1 8 underlying26 dK w.heap.size (n+2) (n+2) p n cap rfl rfl (n+2) 3 (fun _=>.int .i64 0) (fun j=>.int .i64 (z j)) E0 iw.out E0 (by rw[Nat.mul_one];exact HS.out.below Pn) (fun _ _=>rfl) HN.out ?_);intro w2 Kv ez Ks;refine Vb fun pG EW Qv=>?_;go_wp2_with fail;go_loopw [4] (fun i wr=>∃k:Nat,n<=k/\k<=n+2/\i=.int .i64 k/\Hid (wr.heap.size=w.heap.size+1)/\Hid (Below w.heap.size w wr)/\Hid (Ei wr w.heap.size (n+2) 3 (fun j=>.int .i64 (if j<n then z j else if j<k then (if j%1=0 then -77 else 0)else 0))))
  (fun i _=>n+2-(intOf i).toNat)
 case atStart=>exact⟨n,Nat.le_refl _,E0,rfl,EW,Qv,pG.out.congr (fun j _=>by by_cases h:j<n<;>simp[h])⟩
 case round=>
  obtain⟨k,vA,qA,rfl,HZ,HB,HR⟩:=hrel;by_cases Wi:k<n+2
  ·have HP:Hid (∀j,_):=fun j=>iP k n j z vA;have c0:=HR.out.cell (j:=k) E0;have f0:=HR.out.frozen (k);go_wp2
   go_roundw
   case rel=>exact⟨k+1,E0,E0,J1,by show _=_;rw[size_setCell];exact HZ.out,(HB.out.setCell (Nat.le_refl _) _),(HR.out.set (k) _).congr (fun j _=>HP.out j)⟩
   case measure=>simp[intOf];omega
  ·obtain rfl:k=n+2:=by omega
   exact Wg
structure vl where
 kE:Bool
 nC:Nat
 lim:Nat->Int
 Xl:Nat->Bool
 Zi:Nat->Nat
 code:Nat->Nat->Int
 Yl:Nat->Bool
 Vj:Nat->Nat
 img:Nat->Nat->Int
 kD:Bool
 nT:Nat
 jC:Nat->Bool
 nRow:Nat->Nat
 row:Nat->Nat->Int
 Jt:Bool
 qj:Nat
 ch:Nat->Int
 Ws:Bool
 nD:Nat
 dv:Nat->Int
def sumTo(z:Nat->Int):Nat->Int
 |0=>0
 |m+1=>sumTo z m+z (m*2+1)
def xG(n:Nat)(z:Nat->Int)(i:Nat):Prop:=0<=z (i*2)/\z (i*2)<n/\1<=z (i*2+1)
def DC(n m:Nat)(z:Nat->Int):Prop:=m<=6/\(∀i,i<m->xG n z i)/\sumTo z m<=200
def bu(c:vl)(i:Nat):Prop:=
 (c.ch (i*3)=1\/c.ch (i*3)=2)/\(0<=c.ch (i*3+1)/\c.ch (i*3+1)<c.nC)/\(0<=c.ch (i*3+2)/\c.ch (i*3+2)<c.nC)/\c.ch (i*3+1)≠c.ch (i*3+2)
def lB(c:vl)(i:Nat):Prop:=0<=c.dv i/\c.dv i<c.nC
def Vn(c:vl)(cell:Int)(n kind:Int)(jB:Nat):Prop:=
 0<=n/\n<c.qj/\c.ch (n.toNat*3)=kind/\c.ch (n.toNat*3+jB)=cell
def Rr(c:vl)(cell Zi:Nat)(op r a n:Int):Prop:=
 (0<=op/\op<=16)/\(0<=r/\r<4)/\(0<=a/\a<4)/\
 ((op=8\/op=9)->0<=n/\n<Zi)/\
 (op=10->Vn c cell n 1 1)/\(op=11->Vn c cell n 2 1)/\((op=12\/op=16)->Vn c cell n 1 2)/\(op=13->Vn c cell n 2 2)/\
 (op=14->0<=n/\n<c.nD/\c.dv n.toNat=cell)
def gy(c:vl)(i k:Nat):Prop:=Rr c i (c.Zi i) (c.code i (k*4)) (c.code i (k*4+1)) (c.code i (k*4+2)) (c.code i (k*4+3))
def Wn(c:vl)(i:Nat):Prop:=
 (0<=c.lim i/\c.lim i<=5)/\c.Vj i<=16/\(1<=c.Zi i/\c.Zi i<=48)/\∀k,k<c.Zi i->gy c i k
def Ky(P:Nat->Prop)(n i:Nat):Prop:=i<n/\¬P i/\∀j,j<i->P j
def Hj(P:Nat->Prop)(n:Nat):Prop:=∀j,j<n->P j
def Xp(c:vl)(i:Nat):Prop:=DC c.nC (c.nRow i) (c.row i)
def Ss(c:vl):Prop:=1<=c.nC/\c.nC<=6
def Ns(c:vl):Prop:=1<=c.nT/\c.nT<=8
def Ui(c:vl)(e at':Int):Prop:=
 (¬Ss c/\e=1/\at'=0)\/
 (Ss c/\¬Ns c/\e=2/\at'=0)\/
 (Ss c/\Ns c/\∃i:Nat,Ky (Xp c) c.nT i/\e=2/\at'=i)\/
 (Ss c/\Ns c/\Hj (Xp c) c.nT/\¬c.qj<=8/\e=3/\at'=0)\/
 (Ss c/\Ns c/\Hj (Xp c) c.nT/\c.qj<=8/\∃i:Nat,Ky (bu c) c.qj i/\e=3/\at'=i)\/
 (Ss c/\Ns c/\Hj (Xp c) c.nT/\c.qj<=8/\Hj (bu c) c.qj/\¬c.nD<=4/\e=4/\at'=0)\/
 (Ss c/\Ns c/\Hj (Xp c) c.nT/\c.qj<=8/\Hj (bu c) c.qj/\c.nD<=4/\∃i:Nat,Ky (lB c) c.nD i/\e=4/\at'=i)\/
 (Ss c/\Ns c/\Hj (Xp c) c.nT/\c.qj<=8/\Hj (bu c) c.qj/\c.nD<=4/\Hj (lB c) c.nD/\∃i:Nat,Ky (Wn c) c.nC i/\e=5/\at'=i)\/
 (Ss c/\Ns c/\Hj (Xp c) c.nT/\c.qj<=8/\Hj (bu c) c.qj/\c.nD<=4/\Hj (lB c) c.nD/\Hj (Wn c) c.nC/\e=0/\at'=0)
theorem Ky.uniq{P:Nat->Prop}{n i j:Nat}(h:Ky P n i)(k:Ky P n j):i=j:=by
 rcases Nat.lt_trichotomy i j with hl|he|hl
 ·exact absurd (k.2.2 i hl) h.2.1
 ·exact he
 ·exact absurd (h.2.2 j hl) k.2.1
theorem Ky.Ku{P:Nat->Prop}{n i:Nat}(h:Ky P n i)(k:Hj P n):False:=h.2.1 (k i h.1)
theorem Ui.uniq{c:vl}{e a e' a':Int}(h:Ui c e a)(k:Ui c e' a'):e=e'/\a=a':=by
 unfold Ui at h k;rcases h with h|h|h|h|h|h|h|h|h<;>rcases k with k|k|k|k|k|k|k|k|k
 all_goals first
  |exact absurd k.1 h.1
  |exact absurd h.1 k.1
  |exact absurd k.2.1 h.2.1
  |exact absurd h.2.1 k.2.1
  |exact⟨h.2.1.trans k.2.1.symm,h.2.2.trans k.2.2.symm⟩
  |exact⟨h.2.2.1.trans k.2.2.1.symm,h.2.2.2.trans k.2.2.2.symm⟩
  |(obtain⟨_,_,i,h1,h2,h3⟩:=h;obtain⟨_,_,j,k1,k2,k3⟩:=k;have:=h1.uniq k1;subst this;exact⟨h2.trans k2.symm,h3.trans k3.symm⟩)
  |(obtain⟨_,_,i,h1,h2,h3⟩:=h;exact absurd k.2.2.1 (fun x=>h1.Ku x))
  |(obtain⟨_,_,i,h1,h2,h3⟩:=k;exact absurd h.2.2.1 (fun x=>h1.Ku x))
  |exact absurd k.2.2.2.1 h.2.2.2.1
  |exact absurd h.2.2.2.1 k.2.2.2.1
  |exact⟨h.2.2.2.2.1.trans k.2.2.2.2.1.symm,h.2.2.2.2.2.trans k.2.2.2.2.2.symm⟩
  |(obtain⟨_,_,_,_,i,h1,h2,h3⟩:=h;obtain⟨_,_,_,_,j,k1,k2,k3⟩:=k;have:=h1.uniq k1;subst this;exact⟨h2.trans k2.symm,h3.trans k3.symm⟩)
  |(obtain⟨_,_,_,_,i,h1,h2,h3⟩:=h;exact absurd k.2.2.2.2.1 (fun x=>h1.Ku x))
  |(obtain⟨_,_,_,_,i,h1,h2,h3⟩:=k;exact absurd h.2.2.2.2.1 (fun x=>h1.Ku x))
  |exact absurd k.2.2.2.2.2.1 h.2.2.2.2.2.1
  |exact absurd h.2.2.2.2.2.1 k.2.2.2.2.2.1
  |exact⟨h.2.2.2.2.2.2.1.trans k.2.2.2.2.2.2.1.symm,h.2.2.2.2.2.2.2.trans k.2.2.2.2.2.2.2.symm⟩
  |(obtain⟨_,_,_,_,_,_,i,h1,h2,h3⟩:=h;obtain⟨_,_,_,_,_,_,j,k1,k2,k3⟩:=k;have:=h1.uniq k1;subst this;exact⟨h2.trans k2.symm,h3.trans k3.symm⟩)
  |(obtain⟨_,_,_,_,_,_,i,h1,h2,h3⟩:=h;exact absurd k.2.2.2.2.2.2.1 (fun x=>h1.Ku x))
  |(obtain⟨_,_,_,_,_,_,i,h1,h2,h3⟩:=k;exact absurd h.2.2.2.2.2.2.1 (fun x=>h1.Ku x))
  |(obtain⟨_,_,_,_,_,_,_,i,h1,h2,h3⟩:=h;obtain⟨_,_,_,_,_,_,_,j,k1,k2,k3⟩:=k;have:=h1.uniq k1;subst this;exact⟨h2.trans k2.symm,h3.trans k3.symm⟩)
  |(obtain⟨_,_,_,_,_,_,_,i,h1,h2,h3⟩:=h;exact absurd k.2.2.2.2.2.2.2.1 (fun x=>h1.Ku x))
  |(obtain⟨_,_,_,_,_,_,_,i,h1,h2,h3⟩:=k;exact absurd h.2.2.2.2.2.2.2.1 (fun x=>h1.Ku x))
  |exact⟨h.2.2.2.2.2.2.2.2.1.trans k.2.2.2.2.2.2.2.2.1.symm,h.2.2.2.2.2.2.2.2.2.trans k.2.2.2.2.2.2.2.2.2.symm⟩
section
variable {c:vl}{i:Nat}
theorem Ui.c1(h:¬Ss c):Ui c 1 0:=.inl ⟨h,rfl,rfl⟩
theorem Ui.c2(a1:Ss c)(h:¬Ns c):Ui c 2 0:=.inr (.inl ⟨a1,h,rfl,rfl⟩)
theorem Ui.c3(a1:Ss c)(a2:Ns c)(h:Ky (Xp c) c.nT i):Ui c 2 i:=.inr (.inr (.inl ⟨a1,a2,i,h,rfl,rfl⟩))
theorem Ui.c4(a1:Ss c)(a2:Ns c)(a3:Hj (Xp c) c.nT)(h:¬c.qj<=8):Ui c 3 0:=.inr (.inr (.inr (.inl ⟨a1,a2,a3,h,rfl,rfl⟩)))
theorem Ui.c5(a1:Ss c)(a2:Ns c)(a3:Hj (Xp c) c.nT)(a4:c.qj<=8)(h:Ky (bu c) c.qj i):Ui c 3 i:=.inr (.inr (.inr (.inr (.inl ⟨a1,a2,a3,a4,i,h,rfl,rfl⟩))))
theorem Ui.c6(a1:Ss c)(a2:Ns c)(a3:Hj (Xp c) c.nT)(a4:c.qj<=8)(a5:Hj (bu c) c.qj)(h:¬c.nD<=4):Ui c 4 0:=.inr (.inr (.inr (.inr (.inr (.inl ⟨a1,a2,a3,a4,a5,h,rfl,rfl⟩)))))
theorem Ui.c7(a1:Ss c)(a2:Ns c)(a3:Hj (Xp c) c.nT)(a4:c.qj<=8)(a5:Hj (bu c) c.qj)(a6:c.nD<=4)(h:Ky (lB c) c.nD i):Ui c 4 i:=.inr (.inr (.inr (.inr (.inr (.inr (.inl ⟨a1,a2,a3,a4,a5,a6,i,h,rfl,rfl⟩))))))
theorem Ui.c8(a1:Ss c)(a2:Ns c)(a3:Hj (Xp c) c.nT)(a4:c.qj<=8)(a5:Hj (bu c) c.qj)(a6:c.nD<=4)(a7:Hj (lB c) c.nD)(h:Ky (Wn c) c.nC i):Ui c 5 i:=.inr (.inr (.inr (.inr (.inr (.inr (.inr (.inl ⟨a1,a2,a3,a4,a5,a6,a7,i,h,rfl,rfl⟩)))))))
theorem Ui.c9(a1:Ss c)(a2:Ns c)(a3:Hj (Xp c) c.nT)(a4:c.qj<=8)(a5:Hj (bu c) c.qj)(a6:c.nD<=4)(a7:Hj (lB c) c.nD)(h:Hj (Wn c) c.nC):Ui c 0 0:=.inr (.inr (.inr (.inr (.inr (.inr (.inr (.inr ⟨a1,a2,a3,a4,a5,a6,a7,h,rfl,rfl⟩)))))))
end
theorem Hj.step{P:Nat->Prop}{k:Nat}(h:Hj P k)(hk:P k):Hj P (k+1):=by
 intro j hj;rcases Nat.lt_or_ge j k with hl|hl
 ·exact h j hl
 ·obtain rfl:j=k:=by omega
  exact hk
theorem Hj.zero(P:Nat->Prop):Hj P 0:=fun _ h=>absurd h E0
def Hu(w:ui)(v:ti)(nl:Bool)(n k:Nat)(z:Nat->Int)(bn:Nat):Prop:=
 ∃p cap,v=.slice p n cap/\n<=cap/\(p=Ai↔nl=ji)/\(p=Ai->n=0/\cap=0)/\bn*n<=140737488355328/\Sl w p (n*k) (fun j=>.int .i64 (z j))
def aN(w:ui)(v:ti)(c:vl):Prop:=
 ∃p cap,∃F:Nat->ti,v=.slice p c.nC cap/\c.nC<=cap/\(p=Ai↔c.kE=ji)/\(p=Ai->c.nC=0/\cap=0)/\56*c.nC<=140737488355328/\Sl w p (c.nC*3) F/\
  ∀i,i<c.nC->Hu w (F (i*3)) (c.Xl i) (c.Zi i) 4 (c.code i) 32/\Hu w (F (i*3+1)) (c.Yl i) (c.Vj i) 1 (c.img i) 8/\F (i*3+2)=.int .i64 (c.lim i)
def uL(w:ui)(v:ti)(c:vl):Prop:=
 ∃p cap,∃F:Nat->ti,v=.slice p c.nT cap/\c.nT<=cap/\(p=Ai↔c.kD=ji)/\(p=Ai->c.nT=0/\cap=0)/\24*c.nT<=140737488355328/\Sl w p c.nT F/\
  ∀i,i<c.nT->Hu w (F i) (c.jC i) (c.nRow i) 2 (c.row i) 16
structure Bq(w:ui)(v0 v1 v2 v3:ti)(c:vl):Prop where
 cells:aN w v0 c
 table:uL w v1 c
 gV:Hu w v2 c.Jt c.qj 3 c.ch 24
 zd0:Hu w v3 c.Ws c.nD 1 c.dv 8
section
variable {w w':ui}
theorem Hu.keep{v:ti}{nl:Bool}{n k:Nat}{z:Nat->Int}{bn:Nat}(h:Hu w v nl n k z bn)(hk:∀a v,w.cell? a=yi v->w'.cell? a=yi v):Hu w' v nl n k z bn:=by
 obtain⟨p,cap,h1,h2,h3,h4,h5,h6⟩:=h;exact⟨p,cap,h1,h2,h3,h4,h5,h6.keep hk⟩
theorem aN.keep{v:ti}{c:vl}(h:aN w v c)(hk:∀a v,w.cell? a=yi v->w'.cell? a=yi v):aN w' v c:=by
 obtain⟨p,cap,F,h1,h2,h3,h4,h5,h6,h7⟩:=h;exact⟨p,cap,F,h1,h2,h3,h4,h5,h6.keep hk,fun i hi=>⟨(h7 i hi).1.keep hk,(h7 i hi).2.1.keep hk,(h7 i hi).2.2⟩⟩
theorem uL.keep{v:ti}{c:vl}(h:uL w v c)(hk:∀a v,w.cell? a=yi v->w'.cell? a=yi v):uL w' v c:=by
 obtain⟨p,cap,F,h1,h2,h3,h4,h5,h6,h7⟩:=h;exact⟨p,cap,F,h1,h2,h3,h4,h5,h6.keep hk,fun i hi=>(h7 i hi).keep hk⟩
theorem Bq.keep{v0 v1 v2 v3:ti}{c:vl}(h:Bq w v0 v1 v2 v3 c)(hk:∀a v,w.cell? a=yi v->w'.cell? a=yi v):Bq w' v0 v1 v2 v3 c:=
 ⟨h.cells.keep hk,h.table.keep hk,h.gV.keep hk,h.zd0.keep hk⟩
end
theorem Bq.below{w w':ui}{v0 v1 v2 v3:ti}{c:vl}(h:Bq w v0 v1 v2 v3 c)(hb:Below w.heap.size w w'):Bq w' v0 v1 v2 v3 c:=h.keep (Yp hb)
theorem Sl.at{w:ui}{p:Option Addr}{m:Nat}{f:Nat->ti}(h:Sl w p m f)(hm:0<m):∃b off,p=yi ⟨b,off,Ai⟩/\∀j,j<m->w.cell? ⟨b,off+j,Ai⟩=yi (f j):=by
 rcases h with h0|h
 ·omega
 ·exact h
theorem gQ(z:Nat->Int)(m:Nat)(h:∀i,i<m->1<=z (i*2+1)/\z (i*2+1)<=200):0<=sumTo z m/\sumTo z m<=200*m:=by
 induction m with
 |zero=>simp[sumTo]
 |succ m ih=>
  have h1:=ih (fun i hi=>h i E0);have h2:=h m E0;simp only[sumTo];omega
theorem FG(z:Nat->Int)(m:Nat)(h:∀i,i<m->1<=z (i*2+1)):(m:Int)<=sumTo z m/\∀i,i<m->z (i*2+1)<=sumTo z m:=by
 induction m with
 |zero=>simp[sumTo]
 |succ m ih=>
  have h1:=ih (fun i hi=>h i E0);have h2:=h m E0;simp only[sumTo];refine⟨E0,fun i hi=>?_⟩;rcases Nat.lt_or_ge i m with hl|hl
  ·have:=h1.2 i hl;omega
  ·have:i=m:=by omega
   subst this;omega
def sk(P:Prop)(W:ui->Prop)(e:Ending)(w':ui):Prop:=∃b,e=.returned (.bool b)/\(b=ji↔P)/\W w'
theorem sk.no{P:Prop}{W:ui->Prop}{w':ui}(h:¬P)(hw:W w'):sk P W (.returned (.bool gi)) w':=⟨gi,rfl,by simp[h],hw⟩
theorem sk.yes{P:Prop}{W:ui->Prop}{w':ui}(h:P)(hw:W w'):sk P W (.returned (.bool ji)) w':=⟨ji,rfl,by simp[h],hw⟩
theorem sk.of{P:Prop}{W:ui->Prop}{w':ui}{b:Bool}(h:b=ji↔P)(hw:W w'):sk P W (.returned (.bool b)) w':=⟨b,rfl,h,hw⟩
def vD(c:vl)(w:ui)(e:Ending)(w':ui):Prop:=∃x y:Int,e=.returned (.tuple #[.int .i64 x,.int .i64 y])/\Ui c x y/\Below w.heap.size w w'
theorem vD.mk{c:vl}{w w':ui}{x y:Int}(h:Ui c x y)(hb:Below w.heap.size w w'):vD c w (.returned (.tuple #[.int .i64 x,.int .i64 y])) w':=⟨x,y,rfl,h,hb⟩
theorem OA{w w':ui}{v0 v1 v2 v3:ti}{t:Nat}(h:Below (w.heap.size+1) (w.alloc (.cells #[v0,v1,v2,v3] t)) w'):
  w'.cell? ⟨w.heap.size,0,Ai⟩=yi v0/\w'.cell? ⟨w.heap.size,1,Ai⟩=yi v1/\w'.cell? ⟨w.heap.size,2,Ai⟩=yi v2/\w'.cell? ⟨w.heap.size,3,Ai⟩=yi v3:=by
 have hc:∀j,w'.cell? ⟨w.heap.size,j,Ai⟩=(#[v0,v1,v2,v3]:Array ti)[j]?:=fun j=>by
  exact dh
 exact⟨hc 0,hc 1,hc 2,hc 3⟩
theorem ij{w w':ui}{o:Obj}(h:Below (w.heap.size+1) (w.alloc o) w'):Below w.heap.size w w':=
 ((Below.refl w.heap.size w).alloc (Nat.le_refl _) o).trans (h.mono E0)
theorem VB{w wr w':ui}{o:Obj}(h:Below (w.heap.size+1) (w.alloc o) wr)(k:Below wr.heap.size wr w'):Below (w.heap.size+1) (w.alloc o) w':=
 h.trans (k.mono (by have:=h.size;simpa using this))
theorem sk.says{P:Program}{f:FuncId}{args:Array ti}{w:ui}{Pr:Prop}{W:ui->Prop}(h:Calls P f args w (sk Pr W))(hp:Pr):Calls P f args w (fun e w'=>e=.returned (.bool ji)/\W w'):=
 h.mono fun e w' ⟨b,h1,h2,h3⟩=>by
  obtain rfl:b=true:=h2.2 hp;exact⟨h1,h3⟩
theorem sk.Lp{P:Program}{f:FuncId}{args:Array ti}{w:ui}{Pr:Prop}{W:ui->Prop}(h:Calls P f args w (sk Pr W))(hp:¬Pr):Calls P f args w (fun e w'=>e=.returned (.bool gi)/\W w'):=
 h.mono fun e w' ⟨b,h1,h2,h3⟩=>by
  obtain rfl:b=false:=by
   cases b
   ·rfl
   ·exact absurd (h2.1 rfl) hp
  exact⟨h1,h3⟩
theorem Yr{w w':ui}{o:Obj}(h:Below (w.alloc o).heap.size (w.alloc o) w'):Below w.heap.size w w':=
 ((Below.refl w.heap.size w).alloc (Nat.le_refl _) o).trans (h.mono P0)
theorem below2{w w':ui}{o o':Obj}(h:Below ((w.alloc o).alloc o').heap.size ((w.alloc o).alloc o') w'):Below w.heap.size w w':=Yr (Yr h)
theorem tc0{w w':ui}{v0 v1 v2:ti}{t:Nat}(h:Below (w.heap.size+1) (w.alloc (.cells #[v0,v1,v2] t)) w'):
  w'.cell? ⟨w.heap.size,0,Ai⟩=yi v0/\w'.cell? ⟨w.heap.size,1,Ai⟩=yi v1/\w'.cell? ⟨w.heap.size,2,Ai⟩=yi v2:=by
 have hc:∀j,w'.cell? ⟨w.heap.size,j,Ai⟩=(#[v0,v1,v2]:Array ti)[j]?:=fun j=>by
  exact dh
 exact⟨hc 0,hc 1,hc 2⟩
theorem Bq.parts{w:ui}{v0 v1 v2 v3:ti}{c:vl}(h:Bq w v0 v1 v2 v3 c):
  ∃p0 yj F0 p1 wj F1 p2 cap2 p3 nk,v0=.slice p0 c.nC yj/\v1=.slice p1 c.nT wj/\v2=.slice p2 c.qj cap2/\v3=.slice p3 c.nD nk/\
   Sl w p0 (c.nC*3) F0/\(∀i,i<c.nC->Hu w (F0 (i*3)) (c.Xl i) (c.Zi i) 4 (c.code i) 32/\Hu w (F0 (i*3+1)) (c.Yl i) (c.Vj i) 1 (c.img i) 8/\F0 (i*3+2)=.int .i64 (c.lim i))/\
   Sl w p1 c.nT F1/\(∀i,i<c.nT->Hu w (F1 i) (c.jC i) (c.nRow i) 2 (c.row i) 16)/\
   Sl w p2 (c.qj*3) (fun j=>.int .i64 (c.ch j))/\Sl w p3 c.nD (fun j=>.int .i64 (c.dv j))/\
   c.nC<=8796093022208/\c.nT<=8796093022208/\24*c.qj<=140737488355328/\8*c.nD<=140737488355328:=by
 obtain⟨⟨p0,yj,F0,rfl,_,_,_,b0,s0,k0⟩,⟨p1,wj,F1,rfl,_,_,_,b1,s1,k1⟩,⟨p2,cap2,rfl,_,_,_,b2,s2⟩,⟨p3,nk,rfl,_,_,_,b3,s3⟩⟩:=h;exact⟨p0,yj,F0,p1,wj,F1,p2,cap2,p3,nk,rfl,rfl,rfl,rfl,s0,k0,s1,k1,s2,by simpa using s3,E0,E0,b2,b3⟩
end Go.Proofs.YtdoghgnifkgfdaaGreat
