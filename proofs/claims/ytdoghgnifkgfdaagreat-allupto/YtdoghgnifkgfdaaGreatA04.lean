import Derived.Test.YtdoghgnifkgfdaaGreatA00
set_option maxRecDepth 100000
set_option maxHeartbeats 16000000
open Option renaming none->Hn,some->Gn
open Go renaming World->En,Value->Dn,heap_setCell_other->yn,Calls->Zm,Program->Ym,block_lt_of_cell->Wm,Addr->Vm
open Bool renaming true->Um,false->Tm
open Go.RowKit renaming Below->Sm
open Nat renaming le_trans->Qm,zero_le->Pm,le_refl->Om
open List renaming range->Hm
open Array renaming getElem?_eq_getElem->Bm
namespace Go.Proofs.YtdoghgnifkgfdaaGreat
open Tryz Go.RowKit
theorem Qp{p:Prop}(h:p):Hid p:=h
def uq(k n:Nat)(z:Nat->Int)(j:Nat):Int:=if j<n*k then z j else if j%k=0 then -77 else 0
def Tn(w:En)(g m t:Nat)(f:Nat->Dn):Prop:=
 ∃cs:Array Dn,w.heap[g]?=Gn (.cells cs t (0,0))/\cs.size=m/\∀j,j<m->cs[j]?=Gn (f j)
def Sl(w:En)(p:Option Vm)(m:Nat)(f:Nat->Dn):Prop:=
 m=0\/∃b off,p=Gn ⟨b,off,Hn⟩/\∀j,j<m->w.cell? ⟨b,off+j,Hn⟩=Gn (f j)
section
variable {w w':En}{g m t:Nat}{f f':Nat->Dn}
theorem Tn.cell(h:Tn w g m t f){j:Nat}(hj:j<m):w.cell? ⟨g,j,Hn⟩=Gn (f j):=by
 obtain⟨cs,h1,_,h3⟩:=h;rw[cell_of_row w g j cs t (0,0) h1];exact h3 j hj
theorem Tn.frozen(h:Tn w g m t f)(j:Nat):w.frozen? ⟨g,j,Hn⟩=false:=by
 obtain⟨cs,h1,_⟩:=h;exact frozen_of_row w g j cs t h1
section
variable (h:Tn w g m t f)
include h
theorem Tn.lt:g<w.heap.size:=by
 obtain⟨cs,h1,_⟩:=h;exact(Array.getElem?_eq_some_iff.1 h1).1
theorem Tn.congr(hf:∀j,j<m->f j=f' j):Tn w g m t f':=by
 obtain⟨cs,h1,h2,h3⟩:=h;exact⟨cs,h1,h2,fun j hj=>by rw[h3 j hj,hf j hj]⟩
theorem Tn.of_heap(e:w'.heap[g]?=w.heap[g]?):Tn w' g m t f:=by
 obtain⟨cs,h1,h2,h3⟩:=h;exact⟨cs,by rw[e];exact h1,h2,h3⟩
theorem Tn.set(j:Nat)(v:Dn):Tn (w.setCell ⟨g,j,Hn⟩ v) g m t (fun i=>if i=j then v else f i):=by
 obtain⟨cs,h1,h2,h3⟩:=h;refine⟨cs.setIfInBounds j v,heap_setCell_same w g j cs t v h1,by simp[h2],fun i hi=>?_⟩;rw[Array.getElem?_setIfInBounds];by_cases e:j=i
 ·subst e;simp[h2,hi]
 ·have e':¬i=j:=fun x=>e x.symm;simp[e,e',h3 i hi]
theorem Tn.other(a:Vm)(v:Dn)(ha:a.block≠g):Tn (w.setCell a v) g m t f:=
 h.of_heap (yn w a g v (fun e=>ha e.symm))
end
theorem Tn.alloc(h:Tn w g m t f)(o:Obj):Tn (w.alloc o) g m t f:=h.of_heap (heap_alloc_old w o h.lt)
theorem Tn.new(w:En)(cs:Array Dn)(t:Nat)(f:Nat->Dn)(hf:∀j,j<cs.size->cs[j]?=Gn (f j)):Tn (w.alloc (.cells cs t)) w.heap.size cs.size t f:=
 ⟨cs,heap_alloc_new w _,rfl,hf⟩
theorem Tn.below{B:Nat}(h:Tn w g m t f)(hb:Sm B w w')(hg:g<B):Tn w' g m t f:=h.of_heap (hb.block g hg)
theorem Tn.C00(h:Tn w g m t f){m':Nat}(hm:m'<=m):Sl w (Gn ⟨g,0,Hn⟩) m' f:=.inr ⟨g,0,rfl,fun j hj=>by rw[Nat.zero_add];exact h.cell E0⟩
end
theorem Sl.keep{w w':En}{p:Option Vm}{m:Nat}{f:Nat->Dn}(h:Sl w p m f)(hk:∀a v,w.cell? a=Gn v->w'.cell? a=Gn v):Sl w' p m f:=by
 rcases h with h|⟨b,off,hp,hc⟩
 ·exact .inl h
 ·exact .inr ⟨b,off,hp,fun j hj=>hk _ _ (hc j hj)⟩
theorem Ju{w w':En}(h:Sm w.heap.size w w'):∀a v,w.cell? a=Gn v->w'.cell? a=Gn v:=by
 intro a v ha;rw[h.cell (Wm ha)];exact ha
theorem Sl.below{w w':En}{p:Option Vm}{m:Nat}{f:Nat->Dn}(h:Sl w p m f)(hb:Sm w.heap.size w w'):Sl w' p m f:=h.keep (Ju hb)
theorem Sl.congr{w:En}{p:Option Vm}{m:Nat}{f f':Nat->Dn}(h:Sl w p m f)(hf:∀j,j<m->f j=f' j):Sl w p m f':=by
 rcases h with h|⟨b,off,hp,hc⟩
 ·exact .inl h
 ·exact .inr ⟨b,off,hp,fun j hj=>by rw[hc j hj,hf j hj]⟩
theorem Wq{w0 w:En}{g:Nat}(h:w0.grownBy w (Gn g))(j:Nat)(v:Dn):w0.grownBy (w.setCell ⟨g,j,Hn⟩ v) (Gn g):=
 ⟨h.os,h.tape,h.output,by simpa[World.setCell]using h.size,fun k hk Yp=>by
  rw[yn w _ k v (fun e=>Yp (by simp[e]))];exact h.block k hk Yp⟩
theorem AP{P:Ym}(w:En)(dT sT ty UE:TypeId)(size g OC xR:Nat)(sp:Option Vm)(Ds VT:Nat)(m t:Nat)(f f':Nat->Dn)
  (hu:P.underlying dT=Gn (.slice UE))(hs:(P.info? UE).map (·.size)=Gn size)(sX:Ds<=OC)(Ir:Tn w g m t f)(hm:OC*size<=m)
  (OY:Sl w sp (Ds*size) f')(h1:∀j,j<Ds*size->(f' j).oneCell'=Um)(lF:sp=Hn->Ds=0):
  ∃w',(Builtin.copy_ #[dT,sT] ty #[.slice (Gn ⟨g,0,Hn⟩) OC xR,.slice sp Ds VT]).run P w=.ok (goInt Ds) w'/\
   Tn w' g m t (fun j=>if j<Ds*size then f' j else f j)/\w.grownBy w' (Gn g)/\w'.heap.size=w.heap.size:=by
 have r80:Nat.min Ds OC=Ds:=Nat.min_eq_left sX;cases hq:P.info? UE with
 |none=>simp[hq]at hs
 |some i=>
  have hi:i.size=size:=by simpa[hq]using hs
  rcases OY with hm0|⟨b,off,rfl,hc⟩
  ·refine⟨w,?_,Ir.congr (fun j _=>by simp[hm0]),World.grownBy.refl _ _,rfl⟩;cases sp with
   |none=>
    have h0:=lF rfl;subst h0;simp[Builtin.copy_,run_underlying hu,Builtin.lenOf,Builtin.firstCells,sizeOf,typeInfo,hq,storeCells]
   |some q=>
    have hl:(loadCells q 0).run P w=.ok #[] w:=by
     have:=run_loadCells_list (P:=P) w q [] (fun j v hv=>by simp at hv);exact Vd
    simp[Builtin.copy_,run_underlying hu,Builtin.lenOf,Builtin.firstCells,sizeOf,typeInfo,hq,hi,r80,hm0,hl,storeCells]
  ·obtain⟨cs,hg,hcs,hf⟩:=Ir;have hl:(loadCells ⟨b,off,Hn⟩ (Ds*size)).run P w=.ok ((Hm (Ds*size)).map f').toArray w:=by
    have:=run_loadCells_list (P:=P) w ⟨b,off,Hn⟩ ((Hm (Ds*size)).map f') (fun j v hv=>by
     rw[Addr.add_lit];have hj:j<Ds*size:=by have:=(List.getElem?_eq_some_iff.1 hv).1;exact Vd
     rw[hc j hj];rw[<-hv];simp[hj])
    exact Vd
   have ck0:Ds*size<=m:=Qm (Nat.mul_le_mul_right _ sX) hm;have Ht:=run_storeCells_at P g 0 t ((Hm (Ds*size)).map f') 0 cs w hg (by simp[hcs];omega) (fun v hv=>by
    obtain⟨j,hj,rfl⟩:=List.mem_map.1 hv;exact h1 j E2)
   have Of0:(storeCells ⟨g,0,Hn⟩ ((Hm (Ds*size)).map f')).run P w=.ok () (w.setRow g ((Hm (Ds*size)).map f'++cs.toList.drop (Ds*size)).toArray):=by
    simpa using Ht
   refine⟨w.setRow g ((Hm (Ds*size)).map f'++cs.toList.drop (Ds*size)).toArray,?_,⟨((Hm (Ds*size)).map f'++cs.toList.drop (Ds*size)).toArray,setRow_heap w g cs _ t _ hg,?_,?_⟩,⟨rfl,rfl,rfl,P0,fun k _ hk=>setRow_other w g k _ (fun e=>hk (by simp[e]))⟩,P0⟩
   ·exact xh
   ·simp[hcs];omega
   ·intro j hj;by_cases yo:j<Ds*size
    ·simp[yo,List.getElem?_append]
    ·have:=hf j hj;simp only[yo,if_false];rw[<-this];simp[List.getElem?_append,yo];congr 1;omega
theorem kt{P:Ym}{w:En}{ops:Array Oper}{rest:List Oper}{o:Oper}{a:Act}{Q:Exit->Act->En->Prop}(lS:o.guard=Hn)(d s:Operand)(dT sT:TypeId)
  (ho:o.op=.call {callee:=.builtin .copy,args:=#[d,s],argTypes:=#[dT,sT]})(UE:TypeId)(zv:Dn)(size bytes:Nat)(hu:P.underlying dT=Gn (.slice UE))(Ny:(P.info? UE).map (fun i=>(i.zero,i.size,i.bytes))=Gn (Gn zv,size,bytes))
  (g OC xR:Nat)(sp:Option Vm)(Ds VT:Nat)(hd:a.eval d=.slice (Gn ⟨g,0,Hn⟩) OC xR)(hs:a.eval s=.slice sp Ds VT)
  (m t:Nat)(f f':Nat->Dn)(sX:Ds<=OC)(Ir:Tn w g m t f)(hm:OC*size<=m)
  (OY:Sl w sp (Ds*size) f')(h1:∀j,j<Ds*size->(f' j).oneCell'=Um)(lF:sp=Hn->Ds=0)
  (h:∀w',Tn w' g m t (fun j=>if j<Ds*size then f' j else f j)->w.grownBy w' (Gn g)->w'.heap.size=w.heap.size->wpList P ops Q rest (a.put o.dst (goInt Ds)) w'):
  wpList P ops Q (o::rest) a w:=by
 refine wpList_plain lS fun K hK=>?_;have ju:(P.info? UE).map (·.size)=Gn size:=by
  obtain⟨i,h2,_,h4,_⟩:=info_parts Ny;simp[h2,h4]
 obtain⟨w',JA,r1,r2,r3⟩:=AP (P:=P) w dT sT o.type UE size g OC xR sp Ds VT m t f f' hu ju sX Ir hm OY h1 lF;unfold Oper.wp;simp[execOp,ho,resolve,invoke,builtin,hd,hs,JA,Result.andThen];exact hK _ _ (h w' r1 r2 r3)
theorem ot{P:Ym}(w:En){ops:Array Oper}{rest:List Oper}{o:Oper}{a:Act}{Q:Exit->Act->En->Prop}
  (hg:o.guard=Hn)(l c:Operand)(t:TypeId)(ep:o.op=Op.makeSlice t l c)
  (e:TypeId)(z:Dn)(size bytes:Nat)(ht:P.underlying t=Gn (.slice e))(Ny:(P.info? e).map (fun i=>(i.zero,i.size,i.bytes))=Gn (Gn z,size,bytes))
  (kl kc:IntKind)(L C:Int)(n:Nat)(hl:a.eval l=.int kl L)(hc:a.eval c=.int kc C)(hL:L=(n:Int))(hC:C=(n:Int))(b2:bytes*n<=281474976710656)(b3:n<=maxLen)
  (f:Nat->Dn)(hf:∀j,j<n*size->z.cells[j%z.cells.size]! = f j)
  (hK:∀w',Tn w' w.heap.size (n*size) e f->w'.heap.size=w.heap.size+1->Sm w.heap.size w w'->wpList P ops Q rest (a.put o.dst (.slice (Gn ⟨w.heap.size,0,Hn⟩) n n)) w'):
  wpList P ops Q (o::rest) a w:=by
 refine wpList_plain hg fun K hK'=>?_;obtain⟨i,h2,h3,h4,h5⟩:=info_parts Ny;subst hL;subst hC;subst h4;subst h5;have Io0:(n:Int)<=9223372036854775807:=by
  have h:=b3;simp[maxLen]at h;omega
 have Xq:(i.bytes:Int)*(n:Int)<=281474976710656:=by
  have h:((i.bytes*n:Nat):Int)<=281474976710656:=E0;rwa [Int.natCast_mul]at h
 have hr:=run_make (P:=P) w t e i z ht h2 h3 kl kc n n E0 (Int.le_refl _) Xq Io0;simp only[Int.toNat_natCast]at hr;unfold Oper.wp;simp[execOp,ep,hl,hc,hr,Result.andThen];refine hK' _ _ (hK _ ?_ P0 P8);have:=Tn.new w (madeCells z.cells (n*i.size)) e f (fun j hj=>by
  rw[size_madeCells]at hj;rw[<-hf j hj];simp[madeCells,hj])
 rwa [size_madeCells]at this
theorem MK(j:Nat):(Value.int .i64 0).cells[j%(Value.int .i64 0).cells.size]! = Value.int .i64 0:=by
 have h:(Value.int .i64 0).cells=#[.int .i64 0]:=rfl;rw[h];have:j%1=0:=E0;simp[this]
theorem NK(j:Nat):(Value.agg #[.int .i64 0,.int .i64 0]).cells[j%(Value.agg #[.int .i64 0,.int .i64 0]).cells.size]! = Value.int .i64 0:=by
 have h:(Value.agg #[.int .i64 0,.int .i64 0]).cells=#[.int .i64 0,.int .i64 0]:=rfl;rw[h];have:j%2=0\/j%2=1:=E0;rcases this with e|e<;>simp[e]
theorem bX(j:Nat):(Value.agg #[.int .i64 0,.int .i64 0,.int .i64 0]).cells[j%(Value.agg #[.int .i64 0,.int .i64 0,.int .i64 0]).cells.size]! = Value.int .i64 0:=by
 have h:(Value.agg #[.int .i64 0,.int .i64 0,.int .i64 0]).cells=#[.int .i64 0,.int .i64 0,.int .i64 0]:=rfl;rw[h];have:j%3=0\/j%3=1\/j%3=2:=E0;rcases this with e|e|e<;>simp[e]
theorem cX(j:Nat):(Value.agg #[.int .i64 0,.int .i64 0,.int .i64 0,.int .i64 0]).cells[j%(Value.agg #[.int .i64 0,.int .i64 0,.int .i64 0,.int .i64 0]).cells.size]! = Value.int .i64 0:=by
 have h:(Value.agg #[.int .i64 0,.int .i64 0,.int .i64 0,.int .i64 0]).cells=#[.int .i64 0,.int .i64 0,.int .i64 0,.int .i64 0]:=rfl;rw[h];have:j%4=0\/j%4=1\/j%4=2\/j%4=3:=E0;rcases this with e|e|e|e<;>simp[e]
section
variable (k n j:Nat)(z:Nat->Int)(hk:n<=k)
include k n j z hk
theorem RV:(if j=k then Value.int .i64 (-77)else Value.int .i64 (if j<n then z j else if j<k then (if j%1=0 then -77 else 0)else 0))=
  Value.int .i64 (if j<n then z j else if j<k+1 then (if j%1=0 then -77 else 0)else 0):=by
 repeat' split
 all_goals first
  |rfl
  |(exfalso;omega)
theorem SV:(if j=k*2+1 then Value.int .i64 0 else if j=k*2 then Value.int .i64 (-77)else Value.int .i64 (if j<n*2 then z j else if j<k*2 then (if j%2=0 then -77 else 0)else 0))=
  Value.int .i64 (if j<n*2 then z j else if j<(k+1)*2 then (if j%2=0 then -77 else 0)else 0):=by
 repeat' split
 all_goals first
  |rfl
  |(exfalso;omega)
theorem j90:(if j=k*3+2 then Value.int .i64 0 else if j=k*3+1 then Value.int .i64 0 else if j=k*3 then Value.int .i64 (-77)else Value.int .i64 (if j<n*3 then z j else if j<k*3 then (if j%3=0 then -77 else 0)else 0))=
  Value.int .i64 (if j<n*3 then z j else if j<(k+1)*3 then (if j%3=0 then -77 else 0)else 0):=by
 repeat' split
 all_goals first
  |rfl
  |(exfalso;omega)
theorem k90:(if j=k*4+3 then Value.int .i64 0 else if j=k*4+2 then Value.int .i64 0 else if j=k*4+1 then Value.int .i64 0 else if j=k*4 then Value.int .i64 (-77)else Value.int .i64 (if j<n*4 then z j else if j<k*4 then (if j%4=0 then -77 else 0)else 0))=
  Value.int .i64 (if j<n*4 then z j else if j<(k+1)*4 then (if j%4=0 then -77 else 0)else 0):=by
 repeat' split
 all_goals first
  |rfl
  |(exfalso;omega)
end
theorem size_setCell(w:En)(a:Vm)(v:Dn):(w.setCell a v).heap.size=w.heap.size:=by simp[World.setCell]
theorem WG:(prog.info? 97).map (fun i=>(i.zero,i.size,i.bytes))=Gn (Gn (.agg #[.int .i64 0,.int .i64 0,.int .i64 0,.int .i64 0]),4,32):=J0
theorem ZI(p:Option Vm)(n cap:Nat)(z:Nat->Int)(w:En)(hs:Sl w p (n*4) (fun j=>.int .i64 (z j)))(hn:p=Hn->n=0)(hb:32*n<=140737488355328):
  Zm prog 63 #[.slice p n cap] w fun e w'=>e=.returned (.slice (Gn ⟨w.heap.size,0,Hn⟩) (n+2:Nat) (n+2:Nat))/\w'.heap.size=w.heap.size+1/\Sm w.heap.size w w'/\
   Tn w' w.heap.size ((n+2)*4) 97 (fun j=>.int .i64 (uq 4 n z j)):=by
 have hB:n<=17592186044416:=E0;have HM:Hid (32*(n+2)<=281474976710656):=by show _<=_;omega
 have HS:=Qp hs;have HN:=Qp hn
 go_enter func63,ntmps63
 go_wp2_with (at_make;refine ot _ rfl _ _ 50 rfl 97 _ 4 32 underlying50 WG _ _ _ _ (n+2) rfl rfl E0 E0 HM.out Y1 (fun _=>.int .i64 0) (fun j _=>cX j) ?_)
 refine qg fun w1 Lu FB vH=>?_;go_wp2_with (refine kt rfl _ _ _ _ rfl 97 _ 4 32 underlying50 WG w.heap.size (n+2) (n+2) p n cap rfl rfl ((n+2)*4) 97 (fun _=>.int .i64 0) (fun j=>.int .i64 (z j)) E0 FB.out E0 (HS.out.below Lu) (fun _ _=>rfl) HN.out ?_);intro w2 eB jF uy;refine Qc fun AL HZ2 Pz=>?_;go_wp2_with fail;go_loopw [4] (fun i wr=>∃k:Nat,n<=k/\k<=n+2/\i=.int .i64 k/\Hid (wr.heap.size=w.heap.size+1)/\Hid (Sm w.heap.size w wr)/\Hid (Tn wr w.heap.size ((n+2)*4) 97 (fun j=>.int .i64 (if j<n*4 then z j else if j<k*4 then (if j%4=0 then -77 else 0)else 0))))
  (fun i _=>n+2-(intOf i).toNat)
 case atStart=>exact⟨n,Om _,E0,rfl,HZ2,Pz,AL.out.congr (fun j _=>by by_cases h:j<n*4<;>simp[h])⟩
 case round=>
  obtain⟨k,xG,jG,rfl,HZ,HB,HR⟩:=hrel;by_cases yo:k<n+2
  ·have HP:Hid (∀j,_):=fun j=>k90 k n j z xG;have c0:=HR.out.cell (j:=k*4) E0;have c1:=HR.out.cell (j:=k*4+1) E0;have c2:=HR.out.cell (j:=k*4+2) E0;have c3:=HR.out.cell (j:=k*4+3) E0;have f0:=HR.out.frozen (k*4);have f1:=HR.out.frozen (k*4+1);have f2:=HR.out.frozen (k*4+2);have f3:=HR.out.frozen (k*4+3);go_wp2
   go_roundw
   case rel=>exact⟨k+1,E0,E0,E1,by show _=_;rw[size_setCell,size_setCell,size_setCell,size_setCell];exact HZ.out,((((HB.out.setCell N8 _).setCell N8 _).setCell N8 _).setCell N8 _),((((HR.out.set (k*4) _).set (k*4+1) _).set (k*4+2) _).set (k*4+3) _).congr (fun j _=>HP.out j)⟩
   case measure=>simp[intOf];omega
  ·obtain rfl:k=n+2:=by omega
   exact qe
theorem Zt:(prog.info? 2).map (fun i=>(i.zero,i.size,i.bytes))=Gn (Gn (.int .i64 0),1,8):=J0
theorem uF(p:Option Vm)(n cap:Nat)(z:Nat->Int)(w:En)(hs:Sl w p (n) (fun j=>.int .i64 (z j)))(hn:p=Hn->n=0)(hb:8*n<=140737488355328):
  Zm prog 64 #[.slice p n cap] w fun e w'=>e=.returned (.slice (Gn ⟨w.heap.size,0,Hn⟩) (n+2:Nat) (n+2:Nat))/\w'.heap.size=w.heap.size+1/\Sm w.heap.size w w'/\
   Tn w' w.heap.size ((n+2)*1) 2 (fun j=>.int .i64 (uq 1 n z j)):=by
 have hB:n<=17592186044416:=E0;have HM:Hid (8*(n+2)<=281474976710656):=by show _<=_;omega
 have HS:=Qp hs;have HN:=Qp hn
 go_enter func64,ntmps64
 go_wp2_with (at_make;refine ot _ rfl _ _ 51 rfl 2 _ 1 8 underlying51 Zt _ _ _ _ (n+2) rfl rfl E0 E0 HM.out Y1 (fun _=>.int .i64 0) (fun j _=>MK j) ?_)
 refine qg fun w1 Lu FB vH=>?_;go_wp2_with (refine kt rfl _ _ _ _ rfl 2 _ 1 8 underlying51 Zt w.heap.size (n+2) (n+2) p n cap rfl rfl (n+2) 2 (fun _=>.int .i64 0) (fun j=>.int .i64 (z j)) E0 FB.out E0 (by rw[Nat.mul_one];exact HS.out.below Lu) (fun _ _=>rfl) HN.out ?_);intro w2 eB jF uy;refine Qc fun AL HZ2 Pz=>?_;go_wp2_with fail;go_loopw [4] (fun i wr=>∃k:Nat,n<=k/\k<=n+2/\i=.int .i64 k/\Hid (wr.heap.size=w.heap.size+1)/\Hid (Sm w.heap.size w wr)/\Hid (Tn wr w.heap.size (n+2) 2 (fun j=>.int .i64 (if j<n then z j else if j<k then (if j%1=0 then -77 else 0)else 0))))
  (fun i _=>n+2-(intOf i).toNat)
 case atStart=>exact⟨n,Om _,E0,rfl,HZ2,Pz,AL.out.congr (fun j _=>by by_cases h:j<n<;>simp[h])⟩
 case round=>
  obtain⟨k,xG,jG,rfl,HZ,HB,HR⟩:=hrel;by_cases yo:k<n+2
  ·have HP:Hid (∀j,_):=fun j=>RV k n j z xG;have c0:=HR.out.cell (j:=k) E0;have f0:=HR.out.frozen (k);go_wp2
   go_roundw
   case rel=>exact⟨k+1,E0,E0,E1,by show _=_;rw[size_setCell];exact HZ.out,(HB.out.setCell N8 _),(HR.out.set (k) _).congr (fun j _=>HP.out j)⟩
   case measure=>simp[intOf];omega
  ·obtain rfl:k=n+2:=by omega
   exact Nh
theorem vD:(prog.info? 102).map (fun i=>(i.zero,i.size,i.bytes))=Gn (Gn (.agg #[.int .i64 0,.int .i64 0]),2,16):=J0
theorem LK(p:Option Vm)(n cap:Nat)(z:Nat->Int)(w:En)(hs:Sl w p (n*2) (fun j=>.int .i64 (z j)))(hn:p=Hn->n=0)(hb:16*n<=140737488355328):
  Zm prog 65 #[.slice p n cap] w fun e w'=>e=.returned (.slice (Gn ⟨w.heap.size,0,Hn⟩) (n+2:Nat) (n+2:Nat))/\w'.heap.size=w.heap.size+1/\Sm w.heap.size w w'/\
   Tn w' w.heap.size ((n+2)*2) 102 (fun j=>.int .i64 (uq 2 n z j)):=by
 have hB:n<=17592186044416:=E0;have HM:Hid (16*(n+2)<=281474976710656):=by show _<=_;omega
 have HS:=Qp hs;have HN:=Qp hn
 go_enter func65,ntmps65
 go_wp2_with (at_make;refine ot _ rfl _ _ 100 rfl 102 _ 2 16 underlying100 vD _ _ _ _ (n+2) rfl rfl E0 E0 HM.out Y1 (fun _=>.int .i64 0) (fun j _=>NK j) ?_)
 refine qg fun w1 Lu FB vH=>?_;go_wp2_with (refine kt rfl _ _ _ _ rfl 102 _ 2 16 underlying100 vD w.heap.size (n+2) (n+2) p n cap rfl rfl ((n+2)*2) 102 (fun _=>.int .i64 0) (fun j=>.int .i64 (z j)) E0 FB.out E0 (HS.out.below Lu) (fun _ _=>rfl) HN.out ?_);intro w2 eB jF uy;refine Qc fun AL HZ2 Pz=>?_;go_wp2_with fail;go_loopw [4] (fun i wr=>∃k:Nat,n<=k/\k<=n+2/\i=.int .i64 k/\Hid (wr.heap.size=w.heap.size+1)/\Hid (Sm w.heap.size w wr)/\Hid (Tn wr w.heap.size ((n+2)*2) 102 (fun j=>.int .i64 (if j<n*2 then z j else if j<k*2 then (if j%2=0 then -77 else 0)else 0))))
  (fun i _=>n+2-(intOf i).toNat)
 case atStart=>exact⟨n,Om _,E0,rfl,HZ2,Pz,AL.out.congr (fun j _=>by by_cases h:j<n*2<;>simp[h])⟩
 case round=>
  obtain⟨k,xG,jG,rfl,HZ,HB,HR⟩:=hrel;by_cases yo:k<n+2
  ·refine Qj fun HP c0 c1 f0 f1=>?_;go_wp2
   go_roundw
   case rel=>exact⟨k+1,E0,E0,E1,G7,((HB.out.setCell N8 _).setCell N8 _),((HR.out.set (k*2) _).set (k*2+1) _).congr (fun j _=>HP.out j)⟩
   case measure=>simp[intOf];omega
  ·obtain rfl:k=n+2:=by omega
   exact qe
theorem dN:(prog.info? 138).map (fun i=>(i.zero,i.size,i.bytes))=Gn (Gn (.agg #[.int .i64 0,.int .i64 0,.int .i64 0]),3,24):=J0
theorem bQ(p:Option Vm)(n cap:Nat)(z:Nat->Int)(w:En)(hs:Sl w p (n*3) (fun j=>.int .i64 (z j)))(hn:p=Hn->n=0)(hb:24*n<=140737488355328):
  Zm prog 66 #[.slice p n cap] w fun e w'=>e=.returned (.slice (Gn ⟨w.heap.size,0,Hn⟩) (n+2:Nat) (n+2:Nat))/\w'.heap.size=w.heap.size+1/\Sm w.heap.size w w'/\
   Tn w' w.heap.size ((n+2)*3) 138 (fun j=>.int .i64 (uq 3 n z j)):=by
 have hB:n<=17592186044416:=E0;have HM:Hid (24*(n+2)<=281474976710656):=by show _<=_;omega
 have HS:=Qp hs;have HN:=Qp hn
 go_enter func66,ntmps66
 go_wp2_with (at_make;refine ot _ rfl _ _ 25 rfl 138 _ 3 24 underlying25 dN _ _ _ _ (n+2) rfl rfl E0 E0 HM.out Y1 (fun _=>.int .i64 0) (fun j _=>bX j) ?_)
 refine qg fun w1 Lu FB vH=>?_;go_wp2_with (refine kt rfl _ _ _ _ rfl 138 _ 3 24 underlying25 dN w.heap.size (n+2) (n+2) p n cap rfl rfl ((n+2)*3) 138 (fun _=>.int .i64 0) (fun j=>.int .i64 (z j)) E0 FB.out E0 (HS.out.below Lu) (fun _ _=>rfl) HN.out ?_);intro w2 eB jF uy;refine Qc fun AL HZ2 Pz=>?_;go_wp2_with fail;go_loopw [4] (fun i wr=>∃k:Nat,n<=k/\k<=n+2/\i=.int .i64 k/\Hid (wr.heap.size=w.heap.size+1)/\Hid (Sm w.heap.size w wr)/\Hid (Tn wr w.heap.size ((n+2)*3) 138 (fun j=>.int .i64 (if j<n*3 then z j else if j<k*3 then (if j%3=0 then -77 else 0)else 0))))
  (fun i _=>n+2-(intOf i).toNat)
 case atStart=>exact⟨n,Om _,E0,rfl,HZ2,Pz,AL.out.congr (fun j _=>by by_cases h:j<n*3<;>simp[h])⟩
 case round=>
  obtain⟨k,xG,jG,rfl,HZ,HB,HR⟩:=hrel;by_cases yo:k<n+2
  ·have HP:Hid (∀j,_):=fun j=>j90 k n j z xG;refine ei fun c0 c1 c2 f0 f1 f2=>?_;go_wp2
   go_roundw
   case rel=>exact⟨k+1,E0,E0,E1,H7,(((HB.out.setCell N8 _).setCell N8 _).setCell N8 _),(((HR.out.set (k*3) _).set (k*3+1) _).set (k*3+2) _).congr (fun j _=>HP.out j)⟩
   case measure=>simp[intOf];omega
  ·obtain rfl:k=n+2:=by omega
   exact qe
theorem oQ:(prog.info? 3).map (fun i=>(i.zero,i.size,i.bytes))=Gn (Gn (.int .i64 0),1,8):=J0
theorem KH(p:Option Vm)(n cap:Nat)(z:Nat->Int)(w:En)(hs:Sl w p (n) (fun j=>.int .i64 (z j)))(hn:p=Hn->n=0)(hb:8*n<=140737488355328):
  Zm prog 67 #[.slice p n cap] w fun e w'=>e=.returned (.slice (Gn ⟨w.heap.size,0,Hn⟩) (n+2:Nat) (n+2:Nat))/\w'.heap.size=w.heap.size+1/\Sm w.heap.size w w'/\
   Tn w' w.heap.size ((n+2)*1) 3 (fun j=>.int .i64 (uq 1 n z j)):=by
 have hB:n<=17592186044416:=E0;have HM:Hid (8*(n+2)<=281474976710656):=by show _<=_;omega
 have HS:=Qp hs;have HN:=Qp hn
 go_enter func67,ntmps67
 go_wp2_with (at_make;refine ot _ rfl _ _ 26 rfl 3 _ 1 8 underlying26 oQ _ _ _ _ (n+2) rfl rfl E0 E0 HM.out Y1 (fun _=>.int .i64 0) (fun j _=>MK j) ?_)
 refine qg fun w1 Lu FB vH=>?_;go_wp2_with (refine kt rfl _ _ _ _ rfl 3 _ 1 8 underlying26 oQ w.heap.size (n+2) (n+2) p n cap rfl rfl (n+2) 3 (fun _=>.int .i64 0) (fun j=>.int .i64 (z j)) E0 FB.out E0 (by rw[Nat.mul_one];exact HS.out.below Lu) (fun _ _=>rfl) HN.out ?_);intro w2 eB jF uy;refine Qc fun AL HZ2 Pz=>?_;go_wp2_with fail;go_loopw [4] (fun i wr=>∃k:Nat,n<=k/\k<=n+2/\i=.int .i64 k/\Hid (wr.heap.size=w.heap.size+1)/\Hid (Sm w.heap.size w wr)/\Hid (Tn wr w.heap.size (n+2) 3 (fun j=>.int .i64 (if j<n then z j else if j<k then (if j%1=0 then -77 else 0)else 0))))
  (fun i _=>n+2-(intOf i).toNat)
 case atStart=>exact⟨n,Om _,E0,rfl,HZ2,Pz,AL.out.congr (fun j _=>by by_cases h:j<n<;>simp[h])⟩
 case round=>
  obtain⟨k,xG,jG,rfl,HZ,HB,HR⟩:=hrel;by_cases yo:k<n+2
  ·have HP:Hid (∀j,_):=fun j=>RV k n j z xG;have c0:=HR.out.cell (j:=k) E0;have f0:=HR.out.frozen (k);go_wp2
   go_roundw
   case rel=>exact⟨k+1,E0,E0,E1,by show _=_;rw[size_setCell];exact HZ.out,(HB.out.setCell N8 _),(HR.out.set (k) _).congr (fun j _=>HP.out j)⟩
   case measure=>simp[intOf];omega
  ·obtain rfl:k=n+2:=by omega
   exact Nh
structure Ur where
 YI:Bool
 nC:Nat
 lim:Nat->Int
 Jt:Nat->Bool
 Ho:Nat->Nat
 code:Nat->Nat->Int
 Vt:Nat->Bool
 Hq:Nat->Nat
 img:Nat->Nat->Int
 RJ:Bool
 nT:Nat
 EJ:Nat->Bool
 nRow:Nat->Nat
 row:Nat->Nat->Int
 aA:Bool
 Zo:Nat
 ch:Nat->Int
 Vz:Bool
 nD:Nat
 dv:Nat->Int
def sumTo(z:Nat->Int):Nat->Int
 |0=>0
 |m+1=>sumTo z m+z (m*2+1)
def aM(n:Nat)(z:Nat->Int)(i:Nat):Prop:=0<=z (i*2)/\z (i*2)<n/\1<=z (i*2+1)
def CH(n m:Nat)(z:Nat->Int):Prop:=m<=6/\(∀i,i<m->aM n z i)/\sumTo z m<=200
def Xz(c:Ur)(i:Nat):Prop:=
 (c.ch (i*3)=1\/c.ch (i*3)=2)/\(0<=c.ch (i*3+1)/\c.ch (i*3+1)<c.nC)/\(0<=c.ch (i*3+2)/\c.ch (i*3+2)<c.nC)/\c.ch (i*3+1)≠c.ch (i*3+2)
def FG(c:Ur)(i:Nat):Prop:=0<=c.dv i/\c.dv i<c.nC
def Vu(c:Ur)(cell:Int)(n kind:Int)(QG:Nat):Prop:=
 0<=n/\n<c.Zo/\c.ch (n.toNat*3)=kind/\c.ch (n.toNat*3+QG)=cell
def Dy(c:Ur)(cell Ho:Nat)(op r a n:Int):Prop:=
 (0<=op/\op<=16)/\(0<=r/\r<4)/\(0<=a/\a<4)/\
 ((op=8\/op=9)->0<=n/\n<Ho)/\
 (op=10->Vu c cell n 1 1)/\(op=11->Vu c cell n 2 1)/\((op=12\/op=16)->Vu c cell n 1 2)/\(op=13->Vu c cell n 2 2)/\
 (op=14->0<=n/\n<c.nD/\c.dv n.toNat=cell)
def VD(c:Ur)(i k:Nat):Prop:=Dy c i (c.Ho i) (c.code i (k*4)) (c.code i (k*4+1)) (c.code i (k*4+2)) (c.code i (k*4+3))
def Xu(c:Ur)(i:Nat):Prop:=
 (0<=c.lim i/\c.lim i<=5)/\c.Hq i<=16/\(1<=c.Ho i/\c.Ho i<=48)/\∀k,k<c.Ho i->VD c i k
def IE(P:Nat->Prop)(n i:Nat):Prop:=i<n/\¬P i/\∀j,j<i->P j
def Lp(P:Nat->Prop)(n:Nat):Prop:=∀j,j<n->P j
def Qw(c:Ur)(i:Nat):Prop:=CH c.nC (c.nRow i) (c.row i)
def Yy(c:Ur):Prop:=1<=c.nC/\c.nC<=6
def Zy(c:Ur):Prop:=1<=c.nT/\c.nT<=8
def vo(c:Ur)(e at':Int):Prop:=
 (¬Yy c/\e=1/\at'=0)\/
 (Yy c/\¬Zy c/\e=2/\at'=0)\/
 (Yy c/\Zy c/\∃i:Nat,IE (Qw c) c.nT i/\e=2/\at'=i)\/
 (Yy c/\Zy c/\Lp (Qw c) c.nT/\¬c.Zo<=8/\e=3/\at'=0)\/
 (Yy c/\Zy c/\Lp (Qw c) c.nT/\c.Zo<=8/\∃i:Nat,IE (Xz c) c.Zo i/\e=3/\at'=i)\/
 (Yy c/\Zy c/\Lp (Qw c) c.nT/\c.Zo<=8/\Lp (Xz c) c.Zo/\¬c.nD<=4/\e=4/\at'=0)\/
 (Yy c/\Zy c/\Lp (Qw c) c.nT/\c.Zo<=8/\Lp (Xz c) c.Zo/\c.nD<=4/\∃i:Nat,IE (FG c) c.nD i/\e=4/\at'=i)\/
 (Yy c/\Zy c/\Lp (Qw c) c.nT/\c.Zo<=8/\Lp (Xz c) c.Zo/\c.nD<=4/\Lp (FG c) c.nD/\∃i:Nat,IE (Xu c) c.nC i/\e=5/\at'=i)\/
 (Yy c/\Zy c/\Lp (Qw c) c.nT/\c.Zo<=8/\Lp (Xz c) c.Zo/\c.nD<=4/\Lp (FG c) c.nD/\Lp (Xu c) c.nC/\e=0/\at'=0)
theorem IE.uniq{P:Nat->Prop}{n i j:Nat}(h:IE P n i)(k:IE P n j):i=j:=by
 rcases Nat.lt_trichotomy i j with hl|he|hl
 ·exact absurd (k.2.2 i hl) h.2.1
 ·exact he
 ·exact absurd (h.2.2 j hl) k.2.1
theorem IE.KA{P:Nat->Prop}{n i:Nat}(h:IE P n i)(k:Lp P n):False:=h.2.1 (k i h.1)
theorem vo.uniq{c:Ur}{e a e' a':Int}(h:vo c e a)(k:vo c e' a'):e=e'/\a=a':=by
 unfold vo at h k;rcases h with h|h|h|h|h|h|h|h|h<;>rcases k with k|k|k|k|k|k|k|k|k
 all_goals first
  |exact absurd k.1 h.1
  |exact absurd h.1 k.1
  |exact absurd k.2.1 h.2.1
  |exact absurd h.2.1 k.2.1
  |exact⟨h.2.1.trans k.2.1.symm,h.2.2.trans k.2.2.symm⟩
  |exact⟨h.2.2.1.trans k.2.2.1.symm,h.2.2.2.trans k.2.2.2.symm⟩
  |(obtain⟨_,_,i,h1,h2,h3⟩:=h;obtain⟨_,_,j,k1,k2,k3⟩:=k;have:=h1.uniq k1;subst this;exact⟨h2.trans k2.symm,h3.trans k3.symm⟩)
  |(obtain⟨_,_,i,h1,h2,h3⟩:=h;exact absurd k.2.2.1 (fun x=>h1.KA x))
  |(obtain⟨_,_,i,h1,h2,h3⟩:=k;exact absurd h.2.2.1 (fun x=>h1.KA x))
  |exact absurd k.2.2.2.1 h.2.2.2.1
  |exact absurd h.2.2.2.1 k.2.2.2.1
  |exact⟨h.2.2.2.2.1.trans k.2.2.2.2.1.symm,h.2.2.2.2.2.trans k.2.2.2.2.2.symm⟩
  |(obtain⟨_,_,_,_,i,h1,h2,h3⟩:=h;obtain⟨_,_,_,_,j,k1,k2,k3⟩:=k;have:=h1.uniq k1;subst this;exact⟨h2.trans k2.symm,h3.trans k3.symm⟩)
  |(obtain⟨_,_,_,_,i,h1,h2,h3⟩:=h;exact absurd k.2.2.2.2.1 (fun x=>h1.KA x))
  |(obtain⟨_,_,_,_,i,h1,h2,h3⟩:=k;exact absurd h.2.2.2.2.1 (fun x=>h1.KA x))
  |exact absurd k.2.2.2.2.2.1 h.2.2.2.2.2.1
  |exact absurd h.2.2.2.2.2.1 k.2.2.2.2.2.1
  |exact⟨h.2.2.2.2.2.2.1.trans k.2.2.2.2.2.2.1.symm,h.2.2.2.2.2.2.2.trans k.2.2.2.2.2.2.2.symm⟩
  |(obtain⟨_,_,_,_,_,_,i,h1,h2,h3⟩:=h;obtain⟨_,_,_,_,_,_,j,k1,k2,k3⟩:=k;have:=h1.uniq k1;subst this;exact⟨h2.trans k2.symm,h3.trans k3.symm⟩)
  |(obtain⟨_,_,_,_,_,_,i,h1,h2,h3⟩:=h;exact absurd k.2.2.2.2.2.2.1 (fun x=>h1.KA x))
  |(obtain⟨_,_,_,_,_,_,i,h1,h2,h3⟩:=k;exact absurd h.2.2.2.2.2.2.1 (fun x=>h1.KA x))
  |(obtain⟨_,_,_,_,_,_,_,i,h1,h2,h3⟩:=h;obtain⟨_,_,_,_,_,_,_,j,k1,k2,k3⟩:=k;have:=h1.uniq k1;subst this;exact⟨h2.trans k2.symm,h3.trans k3.symm⟩)
  |(obtain⟨_,_,_,_,_,_,_,i,h1,h2,h3⟩:=h;exact absurd k.2.2.2.2.2.2.2.1 (fun x=>h1.KA x))
  |(obtain⟨_,_,_,_,_,_,_,i,h1,h2,h3⟩:=k;exact absurd h.2.2.2.2.2.2.2.1 (fun x=>h1.KA x))
  |exact⟨h.2.2.2.2.2.2.2.2.1.trans k.2.2.2.2.2.2.2.2.1.symm,h.2.2.2.2.2.2.2.2.2.trans k.2.2.2.2.2.2.2.2.2.symm⟩
section
variable {c:Ur}{i:Nat}
theorem vo.c1(h:¬Yy c):vo c 1 0:=.inl ⟨h,rfl,rfl⟩
section
variable (a1:Yy c)
include a1
theorem vo.c2(h:¬Zy c):vo c 2 0:=.inr (.inl ⟨a1,h,rfl,rfl⟩)
theorem vo.c3(a2:Zy c)(h:IE (Qw c) c.nT i):vo c 2 i:=.inr (.inr (.inl ⟨a1,a2,i,h,rfl,rfl⟩))
theorem vo.c4(a2:Zy c)(a3:Lp (Qw c) c.nT)(h:¬c.Zo<=8):vo c 3 0:=.inr (.inr (.inr (.inl ⟨a1,a2,a3,h,rfl,rfl⟩)))
theorem vo.c5(a2:Zy c)(a3:Lp (Qw c) c.nT)(a4:c.Zo<=8)(h:IE (Xz c) c.Zo i):vo c 3 i:=.inr (.inr (.inr (.inr (.inl ⟨a1,a2,a3,a4,i,h,rfl,rfl⟩))))
theorem vo.c6(a2:Zy c)(a3:Lp (Qw c) c.nT)(a4:c.Zo<=8)(a5:Lp (Xz c) c.Zo)(h:¬c.nD<=4):vo c 4 0:=.inr (.inr (.inr (.inr (.inr (.inl ⟨a1,a2,a3,a4,a5,h,rfl,rfl⟩)))))
theorem vo.c7(a2:Zy c)(a3:Lp (Qw c) c.nT)(a4:c.Zo<=8)(a5:Lp (Xz c) c.Zo)(a6:c.nD<=4)(h:IE (FG c) c.nD i):vo c 4 i:=.inr (.inr (.inr (.inr (.inr (.inr (.inl ⟨a1,a2,a3,a4,a5,a6,i,h,rfl,rfl⟩))))))
theorem vo.c8(a2:Zy c)(a3:Lp (Qw c) c.nT)(a4:c.Zo<=8)(a5:Lp (Xz c) c.Zo)(a6:c.nD<=4)(a7:Lp (FG c) c.nD)(h:IE (Xu c) c.nC i):vo c 5 i:=.inr (.inr (.inr (.inr (.inr (.inr (.inr (.inl ⟨a1,a2,a3,a4,a5,a6,a7,i,h,rfl,rfl⟩)))))))
theorem vo.c9(a2:Zy c)(a3:Lp (Qw c) c.nT)(a4:c.Zo<=8)(a5:Lp (Xz c) c.Zo)(a6:c.nD<=4)(a7:Lp (FG c) c.nD)(h:Lp (Xu c) c.nC):vo c 0 0:=.inr (.inr (.inr (.inr (.inr (.inr (.inr (.inr ⟨a1,a2,a3,a4,a5,a6,a7,h,rfl,rfl⟩)))))))
end
end
theorem Lp.step{P:Nat->Prop}{k:Nat}(h:Lp P k)(hk:P k):Lp P (k+1):=by
 intro j hj;rcases Nat.lt_or_ge j k with hl|hl
 ·exact h j hl
 ·obtain rfl:j=k:=by omega
  exact hk
theorem Lp.zero(P:Nat->Prop):Lp P 0:=fun _ h=>absurd h E0
def FC(w:En)(v:Dn)(nl:Bool)(n k:Nat)(z:Nat->Int)(bn:Nat):Prop:=
 ∃p cap,v=.slice p n cap/\n<=cap/\(p=Hn↔nl=Um)/\(p=Hn->n=0/\cap=0)/\bn*n<=140737488355328/\Sl w p (n*k) (fun j=>.int .i64 (z j))
def UQ(w:En)(v:Dn)(c:Ur):Prop:=
 ∃p cap,∃F:Nat->Dn,v=.slice p c.nC cap/\c.nC<=cap/\(p=Hn↔c.YI=Um)/\(p=Hn->c.nC=0/\cap=0)/\56*c.nC<=140737488355328/\Sl w p (c.nC*3) F/\
  ∀i,i<c.nC->FC w (F (i*3)) (c.Jt i) (c.Ho i) 4 (c.code i) 32/\FC w (F (i*3+1)) (c.Vt i) (c.Hq i) 1 (c.img i) 8/\F (i*3+2)=.int .i64 (c.lim i)
def dR(w:En)(v:Dn)(c:Ur):Prop:=
 ∃p cap,∃F:Nat->Dn,v=.slice p c.nT cap/\c.nT<=cap/\(p=Hn↔c.RJ=Um)/\(p=Hn->c.nT=0/\cap=0)/\24*c.nT<=140737488355328/\Sl w p c.nT F/\
  ∀i,i<c.nT->FC w (F i) (c.EJ i) (c.nRow i) 2 (c.row i) 16
structure Zx(w:En)(v0 v1 v2 v3:Dn)(c:Ur):Prop where
 cells:UQ w v0 c
 table:dR w v1 c
 D_:FC w v2 c.aA c.Zo 3 c.ch 24
 Ui0:FC w v3 c.Vz c.nD 1 c.dv 8
section
variable {w w':En}
theorem FC.keep{v:Dn}{nl:Bool}{n k:Nat}{z:Nat->Int}{bn:Nat}(h:FC w v nl n k z bn)(hk:∀a v,w.cell? a=Gn v->w'.cell? a=Gn v):FC w' v nl n k z bn:=by
 obtain⟨p,cap,h1,h2,h3,h4,h5,h6⟩:=h;exact⟨p,cap,h1,h2,h3,h4,h5,h6.keep hk⟩
theorem UQ.keep{v:Dn}{c:Ur}(h:UQ w v c)(hk:∀a v,w.cell? a=Gn v->w'.cell? a=Gn v):UQ w' v c:=by
 obtain⟨p,cap,F,h1,h2,h3,h4,h5,h6,h7⟩:=h;exact⟨p,cap,F,h1,h2,h3,h4,h5,h6.keep hk,fun i hi=>⟨(h7 i hi).1.keep hk,(h7 i hi).2.1.keep hk,(h7 i hi).2.2⟩⟩
theorem dR.keep{v:Dn}{c:Ur}(h:dR w v c)(hk:∀a v,w.cell? a=Gn v->w'.cell? a=Gn v):dR w' v c:=by
 obtain⟨p,cap,F,h1,h2,h3,h4,h5,h6,h7⟩:=h;exact⟨p,cap,F,h1,h2,h3,h4,h5,h6.keep hk,fun i hi=>(h7 i hi).keep hk⟩
theorem Zx.keep{v0 v1 v2 v3:Dn}{c:Ur}(h:Zx w v0 v1 v2 v3 c)(hk:∀a v,w.cell? a=Gn v->w'.cell? a=Gn v):Zx w' v0 v1 v2 v3 c:=
 ⟨h.cells.keep hk,h.table.keep hk,h.D_.keep hk,h.Ui0.keep hk⟩
end
theorem Zx.below{w w':En}{v0 v1 v2 v3:Dn}{c:Ur}(h:Zx w v0 v1 v2 v3 c)(hb:Sm w.heap.size w w'):Zx w' v0 v1 v2 v3 c:=h.keep (Ju hb)
theorem Sl.at{w:En}{p:Option Vm}{m:Nat}{f:Nat->Dn}(h:Sl w p m f)(hm:0<m):∃b off,p=Gn ⟨b,off,Hn⟩/\∀j,j<m->w.cell? ⟨b,off+j,Hn⟩=Gn (f j):=by
 rcases h with h0|h
 ·omega
 ·exact h
theorem TW(z:Nat->Int)(m:Nat)(h:∀i,i<m->1<=z (i*2+1)/\z (i*2+1)<=200):0<=sumTo z m/\sumTo z m<=200*m:=by
 induction m with
 |zero=>simp[sumTo]
 |succ m ih=>
  have h1:=ih (fun i hi=>h i E0);have h2:=h m E0;simp only[sumTo];omega
theorem VN(z:Nat->Int)(m:Nat)(h:∀i,i<m->1<=z (i*2+1)):(m:Int)<=sumTo z m/\∀i,i<m->z (i*2+1)<=sumTo z m:=by
 induction m with
 |zero=>simp[sumTo]
 |succ m ih=>
  have h1:=ih (fun i hi=>h i E0);have h2:=h m E0;simp only[sumTo];refine⟨E0,fun i hi=>?_⟩;rcases Nat.lt_or_ge i m with hl|hl
  ·have:=h1.2 i hl;omega
  ·have:i=m:=by omega
   subst this;omega
def Vq(P:Prop)(W:En->Prop)(e:Ending)(w':En):Prop:=∃b,e=.returned (.bool b)/\(b=Um↔P)/\W w'
theorem Vq.no{P:Prop}{W:En->Prop}{w':En}(h:¬P)(hw:W w'):Vq P W (.returned (.bool Tm)) w':=⟨Tm,rfl,by simp[h],hw⟩
theorem Vq.yes{P:Prop}{W:En->Prop}{w':En}(h:P)(hw:W w'):Vq P W (.returned (.bool Um)) w':=⟨Um,rfl,by simp[h],hw⟩
theorem Vq.of{P:Prop}{W:En->Prop}{w':En}{b:Bool}(h:b=Um↔P)(hw:W w'):Vq P W (.returned (.bool b)) w':=⟨b,rfl,h,hw⟩
def PI(c:Ur)(w:En)(e:Ending)(w':En):Prop:=∃x y:Int,e=.returned (.tuple #[.int .i64 x,.int .i64 y])/\vo c x y/\Sm w.heap.size w w'
theorem PI.mk{c:Ur}{w w':En}{x y:Int}(h:vo c x y)(hb:Sm w.heap.size w w'):PI c w (.returned (.tuple #[.int .i64 x,.int .i64 y])) w':=⟨x,y,rfl,h,hb⟩
theorem NG{w w':En}{v0 v1 v2 v3:Dn}{t:Nat}(h:Sm (w.heap.size+1) (w.alloc (.cells #[v0,v1,v2,v3] t)) w'):
  w'.cell? ⟨w.heap.size,0,Hn⟩=Gn v0/\w'.cell? ⟨w.heap.size,1,Hn⟩=Gn v1/\w'.cell? ⟨w.heap.size,2,Hn⟩=Gn v2/\w'.cell? ⟨w.heap.size,3,Hn⟩=Gn v3:=by
 have hc:∀j,w'.cell? ⟨w.heap.size,j,Hn⟩=(#[v0,v1,v2,v3]:Array Dn)[j]?:=fun j=>by
  exact Xh
 exact⟨hc 0,hc 1,hc 2,hc 3⟩
theorem Vo{w w':En}{o:Obj}(h:Sm (w.heap.size+1) (w.alloc o) w'):Sm w.heap.size w w':=
 ((Below.refl w.heap.size w).alloc N8 o).trans (h.mono E0)
theorem FH{w wr w':En}{o:Obj}(h:Sm (w.heap.size+1) (w.alloc o) wr)(k:Sm wr.heap.size wr w'):Sm (w.heap.size+1) (w.alloc o) w':=
 h.trans (k.mono (by have:=h.size;simpa using this))
theorem Vq.says{P:Ym}{f:FuncId}{args:Array Dn}{w:En}{Pr:Prop}{W:En->Prop}(h:Zm P f args w (Vq Pr W))(hp:Pr):Zm P f args w (fun e w'=>e=.returned (.bool Um)/\W w'):=
 h.mono fun e w' ⟨b,h1,h2,h3⟩=>by
  obtain rfl:b=true:=h2.2 hp;exact⟨h1,h3⟩
theorem Vq.Vw{P:Ym}{f:FuncId}{args:Array Dn}{w:En}{Pr:Prop}{W:En->Prop}(h:Zm P f args w (Vq Pr W))(hp:¬Pr):Zm P f args w (fun e w'=>e=.returned (.bool Tm)/\W w'):=
 h.mono fun e w' ⟨b,h1,h2,h3⟩=>by
  obtain rfl:b=false:=by
   cases b
   ·rfl
   ·exact absurd (h2.1 rfl) hp
  exact⟨h1,h3⟩
theorem Gy{w w':En}{o:Obj}(h:Sm (w.alloc o).heap.size (w.alloc o) w'):Sm w.heap.size w w':=
 ((Below.refl w.heap.size w).alloc N8 o).trans (h.mono P0)
theorem kM{w w':En}{o o':Obj}(h:Sm ((w.alloc o).alloc o').heap.size ((w.alloc o).alloc o') w'):Sm w.heap.size w w':=Gy (Gy h)
theorem Hi0{w w':En}{v0 v1 v2:Dn}{t:Nat}(h:Sm (w.heap.size+1) (w.alloc (.cells #[v0,v1,v2] t)) w'):
  w'.cell? ⟨w.heap.size,0,Hn⟩=Gn v0/\w'.cell? ⟨w.heap.size,1,Hn⟩=Gn v1/\w'.cell? ⟨w.heap.size,2,Hn⟩=Gn v2:=by
 have hc:∀j,w'.cell? ⟨w.heap.size,j,Hn⟩=(#[v0,v1,v2]:Array Dn)[j]?:=fun j=>by
  exact Xh
 exact⟨hc 0,hc 1,hc 2⟩
theorem Zx.parts{w:En}{v0 v1 v2 v3:Dn}{c:Ur}(h:Zx w v0 v1 v2 v3 c):
  ∃p0 yp F0 p1 gp F1 p2 dq p3 Lq,v0=.slice p0 c.nC yp/\v1=.slice p1 c.nT gp/\v2=.slice p2 c.Zo dq/\v3=.slice p3 c.nD Lq/\
   Sl w p0 (c.nC*3) F0/\(∀i,i<c.nC->FC w (F0 (i*3)) (c.Jt i) (c.Ho i) 4 (c.code i) 32/\FC w (F0 (i*3+1)) (c.Vt i) (c.Hq i) 1 (c.img i) 8/\F0 (i*3+2)=.int .i64 (c.lim i))/\
   Sl w p1 c.nT F1/\(∀i,i<c.nT->FC w (F1 i) (c.EJ i) (c.nRow i) 2 (c.row i) 16)/\
   Sl w p2 (c.Zo*3) (fun j=>.int .i64 (c.ch j))/\Sl w p3 c.nD (fun j=>.int .i64 (c.dv j))/\
   c.nC<=8796093022208/\c.nT<=8796093022208/\24*c.Zo<=140737488355328/\8*c.nD<=140737488355328:=by
 obtain⟨⟨p0,yp,F0,rfl,_,_,_,b0,s0,k0⟩,⟨p1,gp,F1,rfl,_,_,_,b1,s1,k1⟩,⟨p2,dq,rfl,_,_,_,b2,s2⟩,⟨p3,Lq,rfl,_,_,_,b3,s3⟩⟩:=h;exact⟨p0,yp,F0,p1,gp,F1,p2,dq,p3,Lq,rfl,rfl,rfl,rfl,s0,k0,s1,k1,s2,by simpa using s3,E0,E0,b2,b3⟩
theorem aC{w w':En}{row:Option Nat}(h:w.grownBy w' row)(n:Nat):w.grownBy (w'.drewN n) row:=⟨h.os,h.tape,h.output,h.size,h.block⟩
theorem Tn.drewN{w:En}{g m t:Nat}{f:Nat->Dn}(h:Tn w g m t f)(n:Nat):Tn (w.drewN n) g m t f:=h
theorem RE{w w':En}(h:Sm w.heap.size w w')(row:Option Nat):w.grownBy w' row:=⟨h.os,h.tape,h.output,h.size,fun k hk _=>h.block k hk⟩
def Dv(K k:Nat)(f:Nat->Dn)(j:Nat):Value:=if j<k*K then .int .i64 (if j%K=0 then -99 else 0)else f j
theorem T20(k j:Nat)(f:Nat->Dn):(if j=k then Value.int .i64 (-99)else Dv 1 k f j)=Dv 1 (k+1) f j:=by
 unfold Dv;repeat' split
 all_goals first
  |rfl
  |(exfalso;omega)
theorem U20(k j:Nat)(f:Nat->Dn):(if j=k*2+1 then Value.int .i64 0 else if j=k*2 then Value.int .i64 (-99)else Dv 2 k f j)=Dv 2 (k+1) f j:=by
 unfold Dv;repeat' split
 all_goals first
  |rfl
  |(exfalso;omega)
theorem V20(k j:Nat)(f:Nat->Dn):(if j=k*4+3 then Value.int .i64 0 else if j=k*4+2 then Value.int .i64 0 else if j=k*4+1 then Value.int .i64 0 else if j=k*4 then Value.int .i64 (-99)else Dv 4 k f j)=Dv 4 (k+1) f j:=by
 unfold Dv;repeat' split
 all_goals first
  |rfl
  |(exfalso;omega)
theorem QP(w:En):Zm prog 70 #[.slice Hn 0 0,.slice Hn 0 0] w fun e w'=>e=.returned (.bool Um)/\w'=w:=by
 refine Dc fun Vv=>?_
 go_enter func70,ntmps70
 exact Td
theorem OP(g n cap b off ty:Nat)(sp:Option Nat)(z:Nat->Int)(w:En)(hr:Tn w g ((n+2)*4) ty (fun j=>.int .i64 (uq 4 n z j)))(hs:Sl w (Gn ⟨b,off,sp⟩) (n*4) (fun j=>.int .i64 (z j)))(hb:32*n<=140737488355328):
  Zm prog 70 #[.slice (Gn ⟨g,0,Hn⟩) n (n+2:Nat),.slice (Gn ⟨b,off,sp⟩) n cap] w fun e w'=>e=.returned (.bool Um)/\w.grownBy w' (Gn g):=by
 have hB:n<=17592186044416:=E0;have hg:g<w.heap.size:=hr.lt;have DX:Hid (Tn w g ((n+2)*4) ty (fun j=>.int .i64 (uq 4 n z j))):=hr;have HS:Hid (Sl w (Gn ⟨b,off,sp⟩) (n*4) (fun j=>.int .i64 (z j))):=hs;have HN:Hid (32*n<=140737488355328):=hb;clear hr hs hb;refine Dc fun Vv=>?_
 go_enter func70,ntmps70
 go_wp2_with (go_at_call 63;refine(ZI (Gn ⟨b,off,sp⟩) n cap z _ HS.out P0 HN.out).mono ?_;rintro e w1 ⟨rfl,Jx,Lu,Bv⟩;have vH:Hid (w1.heap.size=w.heap.size+1):=Jx;have Ax:Hid (Sm w.heap.size w w1):=Lu;have HV1:Hid (Tn w1 w.heap.size ((n+2)*4) 97 (fun j=>.int .i64 (uq 4 n z j))):=Bv;clear Jx Lu Bv)
 go_loopw [7,8] (fun o i wr=>∃k:Nat,k<=n+2/\i=.int .i64 k/\o=.bool Um/\Hid (w.grownBy wr (Gn g))/\Hid (Tn wr g ((n+2)*4) ty (Dv 4 k (fun j=>.int .i64 (uq 4 n z j))))/\Hid (Tn wr w.heap.size ((n+2)*4) 97 (fun j=>.int .i64 (uq 4 n z j)))) (fun _ i _=>n+2-(intOf i).toNat)
 case atStart=>exact⟨0,Pm _,rfl,P0,RE Ax.out _,(DX.out.below Ax.out hg).congr (fun j _=>by simp[Dv]),HV1⟩
 case round=>
  obtain⟨k,hk,rfl,rfl,HG,HR,HV⟩:=hrel;by_cases yo:k<n+2
  ·have HP:Hid (∀j,_):=fun j=>V20 k j (fun j=>.int .i64 (uq 4 n z j));have c0:=HR.out.cell (j:=k*4) E0;have d0:=HV.out.cell (j:=k*4) E0;have f0:=HR.out.frozen (k*4);have c1:=HR.out.cell (j:=k*4+1) E0;have d1:=HV.out.cell (j:=k*4+1) E0;have f1:=HR.out.frozen (k*4+1);have c2:=HR.out.cell (j:=k*4+2) E0;have d2:=HV.out.cell (j:=k*4+2) E0;have f2:=HR.out.frozen (k*4+2);have c3:=HR.out.cell (j:=k*4+3) E0;have d3:=HV.out.cell (j:=k*4+3) E0;have f3:=HR.out.frozen (k*4+3);have o0:Dv 4 k (fun j=>.int .i64 (uq 4 n z j)) (k*4)=.int .i64 (uq 4 n z (k*4)):=by unfold Dv;exact qk
   rw[o0]at c0;have o1:Dv 4 k (fun j=>.int .i64 (uq 4 n z j)) (k*4+1)=.int .i64 (uq 4 n z (k*4+1)):=by unfold Dv;exact qk
   rw[o1]at c1;have o2:Dv 4 k (fun j=>.int .i64 (uq 4 n z j)) (k*4+2)=.int .i64 (uq 4 n z (k*4+2)):=by unfold Dv;exact qk
   rw[o2]at c2;have o3:Dv 4 k (fun j=>.int .i64 (uq 4 n z j)) (k*4+3)=.int .i64 (uq 4 n z (k*4+3)):=by unfold Dv;exact qk
   rw[o3]at c3;generalize uq 4 n z (k*4)=x0 at c0 d0;generalize uq 4 n z (k*4+1)=x1 at c1 d1;generalize uq 4 n z (k*4+2)=x2 at c2 d2;generalize uq 4 n z (k*4+3)=x3 at c3 d3;clear o0 o1 o2 o3;go_wp2_with fail;go_quiet (fail);go_wp2_with fail;exact⟨⟨k+1,E0,E1,rfl,(Wq (Wq (Wq (Wq (aC HG.out nq) (k*4) _) (k*4+1) _) (k*4+2) _) (k*4+3) _),(((((HR.out.drewN nq).set (k*4) _).set (k*4+1) _).set (k*4+2) _).set (k*4+3) _).congr (fun j _=>HP.out j),(((((HV.out.drewN nq).other _ _ A1).other _ _ A1).other _ _ A1).other _ _ A1)⟩,U1⟩
  ·obtain rfl:k=n+2:=by omega
   exact Ui
theorem aO(w:En):Zm prog 71 #[.slice Hn 0 0,.slice Hn 0 0] w fun e w'=>e=.returned (.bool Um)/\w'=w:=by
 refine Ic fun Vv=>?_
 go_enter func71,ntmps71
 exact Td
theorem ZN(g n cap b off ty:Nat)(sp:Option Nat)(z:Nat->Int)(w:En)(hr:Tn w g ((n+2)*1) ty (fun j=>.int .i64 (uq 1 n z j)))(hs:Sl w (Gn ⟨b,off,sp⟩) (n) (fun j=>.int .i64 (z j)))(hb:8*n<=140737488355328):
  Zm prog 71 #[.slice (Gn ⟨g,0,Hn⟩) n (n+2:Nat),.slice (Gn ⟨b,off,sp⟩) n cap] w fun e w'=>e=.returned (.bool Um)/\w.grownBy w' (Gn g):=by
 have hB:n<=17592186044416:=E0;have hg:g<w.heap.size:=hr.lt;have DX:Hid (Tn w g ((n+2)*1) ty (fun j=>.int .i64 (uq 1 n z j))):=hr;have HS:Hid (Sl w (Gn ⟨b,off,sp⟩) (n) (fun j=>.int .i64 (z j))):=hs;have HN:Hid (8*n<=140737488355328):=hb;clear hr hs hb;refine Ic fun Vv=>?_
 go_enter func71,ntmps71
 go_wp2_with (go_at_call 64;refine(uF (Gn ⟨b,off,sp⟩) n cap z _ HS.out P0 HN.out).mono ?_;rintro e w1 ⟨rfl,Jx,Lu,Bv⟩;have vH:Hid (w1.heap.size=w.heap.size+1):=Jx;have Ax:Hid (Sm w.heap.size w w1):=Lu;have HV1:Hid (Tn w1 w.heap.size ((n+2)*1) 2 (fun j=>.int .i64 (uq 1 n z j))):=Bv;clear Jx Lu Bv)
 go_loopw [7,8] (fun o i wr=>∃k:Nat,k<=n+2/\i=.int .i64 k/\o=.bool Um/\Hid (w.grownBy wr (Gn g))/\Hid (Tn wr g ((n+2)*1) ty (Dv 1 k (fun j=>.int .i64 (uq 1 n z j))))/\Hid (Tn wr w.heap.size ((n+2)*1) 2 (fun j=>.int .i64 (uq 1 n z j)))) (fun _ i _=>n+2-(intOf i).toNat)
 case atStart=>exact⟨0,Pm _,rfl,P0,RE Ax.out _,(DX.out.below Ax.out hg).congr (fun j _=>by simp[Dv]),HV1⟩
 case round=>
  obtain⟨k,hk,rfl,rfl,HG,HR,HV⟩:=hrel;by_cases yo:k<n+2
  ·have HP:Hid (∀j,_):=fun j=>T20 k j (fun j=>.int .i64 (uq 1 n z j));have c0:=HR.out.cell (j:=k) E0;have d0:=HV.out.cell (j:=k) E0;have f0:=HR.out.frozen (k);have o0:Dv 1 k (fun j=>.int .i64 (uq 1 n z j)) (k)=.int .i64 (uq 1 n z (k)):=by unfold Dv;exact qk
   rw[o0]at c0;generalize uq 1 n z (k)=x0 at c0 d0;clear o0;go_wp2_with fail;go_quiet (fail);go_wp2_with fail;exact⟨⟨k+1,E0,E1,rfl,(Wq (aC HG.out nq) (k) _),((HR.out.drewN nq).set (k) _).congr (fun j _=>HP.out j),((HV.out.drewN nq).other _ _ A1)⟩,U1⟩
  ·obtain rfl:k=n+2:=by omega
   exact Ui
theorem hU(g n cap ty:Nat)(p:Option Vm)(hp:p=Hn->n=0)(z:Nat->Int)(w:En)(hr:Tn w g ((n+2)*2) ty (fun j=>.int .i64 (uq 2 n z j)))(hs:Sl w p (n*2) (fun j=>.int .i64 (z j)))(hb:16*n<=140737488355328):
  Zm prog 72 #[.slice (Gn ⟨g,0,Hn⟩) n (n+2:Nat),.slice p n cap] w fun e w'=>e=.returned (.bool Um)/\w.grownBy w' (Gn g):=by
 have hB:n<=17592186044416:=E0;have hg:g<w.heap.size:=hr.lt;have DX:Hid (Tn w g ((n+2)*2) ty (fun j=>.int .i64 (uq 2 n z j))):=hr;have HS:Hid (Sl w p (n*2) (fun j=>.int .i64 (z j))):=hs;have HN:Hid (16*n<=140737488355328):=hb;clear hr hs hb
 go_enter func72,ntmps72
 go_wp2_with (go_at_call 65;refine(LK p n cap z _ HS.out hp HN.out).mono ?_;rintro e w1 ⟨rfl,Jx,Lu,Bv⟩;have vH:Hid (w1.heap.size=w.heap.size+1):=Jx;have Ax:Hid (Sm w.heap.size w w1):=Lu;have HV1:Hid (Tn w1 w.heap.size ((n+2)*2) 102 (fun j=>.int .i64 (uq 2 n z j))):=Bv;clear Jx Lu Bv)
 go_loopw [7,8] (fun o i wr=>∃k:Nat,k<=n+2/\i=.int .i64 k/\o=.bool Um/\Hid (w.grownBy wr (Gn g))/\Hid (Tn wr g ((n+2)*2) ty (Dv 2 k (fun j=>.int .i64 (uq 2 n z j))))/\Hid (Tn wr w.heap.size ((n+2)*2) 102 (fun j=>.int .i64 (uq 2 n z j)))) (fun _ i _=>n+2-(intOf i).toNat)
 case atStart=>exact⟨0,Pm _,rfl,P0,RE Ax.out _,(DX.out.below Ax.out hg).congr (fun j _=>by simp[Dv]),HV1⟩
 case round=>
  obtain⟨k,hk,rfl,rfl,HG,HR,HV⟩:=hrel;by_cases yo:k<n+2
  ·have HP:Hid (∀j,_):=fun j=>U20 k j (fun j=>.int .i64 (uq 2 n z j));have c0:=HR.out.cell (j:=k*2) E0;have d0:=HV.out.cell (j:=k*2) E0;have f0:=HR.out.frozen (k*2);have c1:=HR.out.cell (j:=k*2+1) E0;have d1:=HV.out.cell (j:=k*2+1) E0;have f1:=HR.out.frozen (k*2+1);have o0:Dv 2 k (fun j=>.int .i64 (uq 2 n z j)) (k*2)=.int .i64 (uq 2 n z (k*2)):=by unfold Dv;exact qk
   rw[o0]at c0;have o1:Dv 2 k (fun j=>.int .i64 (uq 2 n z j)) (k*2+1)=.int .i64 (uq 2 n z (k*2+1)):=by unfold Dv;exact qk
   rw[o1]at c1;generalize uq 2 n z (k*2)=x0 at c0 d0;generalize uq 2 n z (k*2+1)=x1 at c1 d1;clear o0 o1;go_wp2_with fail;go_quiet (fail);go_wp2_with fail;exact⟨⟨k+1,E0,E1,rfl,(Wq (Wq (aC HG.out nq) (k*2) _) (k*2+1) _),(((HR.out.drewN nq).set (k*2) _).set (k*2+1) _).congr (fun j _=>HP.out j),(((HV.out.drewN nq).other _ _ A1).other _ _ A1)⟩,U1⟩
  ·obtain rfl:k=n+2:=by omega
   exact Ui
def Gp(nl:Bool)(b n:Nat):Value:=if nl then .slice Hn 0 0 else .slice (Gn ⟨b,0,Hn⟩) n (n+2)
def xC(w:En)(nl:Bool)(b n k:Nat)(z:Nat->Int):Prop:=nl=Tm->∃ty,Tn w b ((n+2)*k) ty (fun j=>.int .i64 (uq k n z j))
theorem xC.keep{w w':En}{nl:Bool}{b n k:Nat}{z:Nat->Int}(h:xC w nl b n k z)(he:nl=Tm->w'.heap[b]?=w.heap[b]?):xC w' nl b n k z:=fun hn=>by
 obtain⟨ty,hr⟩:=h hn;exact⟨ty,hr.of_heap (he hn)⟩
structure Sr(w:En)(c:Ur)(k lo hi:Nat)(cb:Nat->Nat):Prop where
 code:∀i,i<k->xC w (c.Jt i) (cb i) (c.Ho i) 4 (c.code i)
 img:∀i,i<k->xC w (c.Vt i) (cb i+1) (c.Hq i) 1 (c.img i)
 lo:∀i,i<k->lo<=cb i/\cb i+2<=hi
 ord:∀i j,i<j->j<k->cb i+2<=cb j
theorem Sr.zero(w:En)(c:Ur)(lo hi:Nat)(cb:Nat->Nat):Sr w c 0 lo hi cb:=
 ⟨fun i h=>absurd h E0,fun i h=>absurd h E0,fun i h=>absurd h E0,fun i j _ h=>absurd h E0⟩
theorem Sr.keep{w w':En}{c:Ur}{k lo hi jO:Nat}{cb:Nat->Nat}(h:Sr w c k lo hi cb)(hh:hi<=jO)(he:∀i,i<k->w'.heap[cb i]?=w.heap[cb i]?/\w'.heap[cb i+1]?=w.heap[cb i+1]?):Sr w' c k lo jO cb:=
 ⟨fun i hi=>(h.code i hi).keep (fun _=>(he i hi).1),fun i hi=>(h.img i hi).keep (fun _=>(he i hi).2),fun i hi=>⟨(h.lo i hi).1,Qm (h.lo i hi).2 hh⟩,h.ord⟩
def gx(cb:Nat->Nat)(k b:Nat)(i:Nat):Nat:=if i<k then cb i else b
theorem Sr.step{w:En}{c:Ur}{k lo hi jO b:Nat}{cb:Nat->Nat}(h:Sr w c k lo hi cb)(h1:xC w (c.Jt k) b (c.Ho k) 4 (c.code k))(h2:xC w (c.Vt k) (b+1) (c.Hq k) 1 (c.img k))(hb:hi<=b)(hlo:lo<=b)(hh:b+2<=jO):Sr w c (k+1) lo jO (gx cb k b):=by
 have e:∀i,i<k->gx cb k b i=cb i:=fun i hi=>by simp[gx,hi]
 have e':gx cb k b k=b:=by simp[gx]
 refine⟨fun i hi=>?_,fun i hi=>?_,fun i hi=>?_,fun i j hij hj=>?_⟩
 ·rcases Nat.lt_or_ge i k with hl|hl
  ·rw[e i hl];exact h.code i hl
  ·obtain rfl:i=k:=by omega
   rw[e'];exact h1
 ·rcases Nat.lt_or_ge i k with hl|hl
  ·rw[e i hl];exact h.img i hl
  ·obtain rfl:i=k:=by omega
   rw[e'];exact h2
 ·rcases Nat.lt_or_ge i k with hl|hl
  ·rw[e i hl];have:=h.lo i hl;omega
  ·obtain rfl:i=k:=by omega
   rw[e'];omega
 ·rcases Nat.lt_or_ge j k with hl|hl
  ·rw[e i E0,e j hl];exact h.ord i j hij hl
  ·obtain rfl:j=k:=by omega
   rw[e i hij,e'];have:=h.lo i hij;omega
def Du(c:Ur)(cb:Nat->Nat)(j:Nat):Value:=
 if j%3=0 then Gp (c.Jt (j/3)) (cb (j/3)) (c.Ho (j/3))else if j%3=1 then Gp (c.Vt (j/3)) (cb (j/3)+1) (c.Hq (j/3))else .int .i64 (c.lim (j/3))
theorem Qx(c:Ur)(cb:Nat->Nat)(i:Nat):Du c cb (i*3)=Gp (c.Jt i) (cb i) (c.Ho i)/\Du c cb (i*3+1)=Gp (c.Vt i) (cb i+1) (c.Hq i)/\Du c cb (i*3+2)=.int .i64 (c.lim i):=by
 have a1:i*3%3=0:=E0;have a2:i*3/3=i:=E0;have b1:(i*3+1)%3=1:=E0;have b2:(i*3+1)/3=i:=E0;have c1:(i*3+2)%3=2:=E0;have c2:(i*3+2)/3=i:=E0;exact⟨by simp[Du,a1,a2],by simp[Du,b1,b2],by simp[Du,c1,c2]⟩
def Iy(c:Ur)(cb:Nat->Nat)(k:Nat):List Value:=(Hm (k*3)).map (Du c cb)
theorem CU(c:Ur)(cb:Nat->Nat)(k b:Nat):Iy c cb k++[Gp (c.Jt k) b (c.Ho k),Gp (c.Vt k) (b+1) (c.Hq k),.int .i64 (c.lim k)]=Iy c (gx cb k b) (k+1):=by
 unfold Iy;have e:(k+1)*3=k*3+1+1+1:=E0;rw[e,List.range_succ,List.range_succ,List.range_succ];simp only[List.map_append,List.map_cons,List.map_nil,List.append_assoc];obtain⟨g1,g2,g3⟩:=Qx c (gx cb k b) k;have s:gx cb k b k=b:=by simp[gx]
 rw[s]at g1 g2;rw[g1,g2,g3];congr 1;apply List.map_congr_left;intro j hj;have kz:j<k*3:=E2;have:j/3<k:=E0;simp[Du,gx,this]
theorem X60{W w1:En}(hb:Sm W.heap.size W w1):(∀b o,b<W.heap.size->w1.cell? ⟨b,o,Hn⟩=W.cell? ⟨b,o,Hn⟩)/\(∀b o,b<W.heap.size->w1.frozen? ⟨b,o,Hn⟩=W.frozen? ⟨b,o,Hn⟩):=
 ⟨fun b o h=>hb.cell (p:=⟨b,o,Hn⟩) h,fun b o h=>hb.frozen (p:=⟨b,o,Hn⟩) h⟩
def cells4(a b c d:Dn)(j:Nat):Value:=if j=0 then a else if j=1 then b else if j=2 then c else d
theorem row4(w:En)(a b c d:Dn)(t:Nat):Tn (w.alloc (.cells #[a,b,c,d] t)) w.heap.size 4 t (cells4 a b c d):=
 Tn.new w #[a,b,c,d] t _ (fun j hj=>by
  have:j=0\/j=1\/j=2\/j=3:=by simp at hj;omega
  rcases this with rfl|rfl|rfl|rfl<;>rfl)
section
variable {w:En}{g t:Nat}{a b c d:Dn}(h:Tn w g 4 t (cells4 a b c d))
include w g t a b c d h
theorem Tn.at4:w.cell? ⟨g,0,Hn⟩=Gn a/\w.cell? ⟨g,1,Hn⟩=Gn b/\w.cell? ⟨g,2,Hn⟩=Gn c/\w.cell? ⟨g,3,Hn⟩=Gn d:=
 ⟨h.cell E0,h.cell E0,h.cell E0,h.cell E0⟩
theorem Tn.AB(v:Dn):
  Tn (w.setCell ⟨g,0,Hn⟩ v) g 4 t (cells4 v b c d)/\Tn (w.setCell ⟨g,1,Hn⟩ v) g 4 t (cells4 a v c d)/\Tn (w.setCell ⟨g,2,Hn⟩ v) g 4 t (cells4 a b v d)/\Tn (w.setCell ⟨g,3,Hn⟩ v) g 4 t (cells4 a b c v):=by
 refine⟨(h.set 0 v).congr ?_,(h.set 1 v).congr ?_,(h.set 2 v).congr ?_,(h.set 3 v).congr ?_⟩
 all_goals
  intro j hj;have:j=0\/j=1\/j=2\/j=3:=E0;rcases this with rfl|rfl|rfl|rfl<;>rfl
end
theorem Eo{P:Ym}(w:En){ops:Array Oper}{rest:List Oper}{o:Oper}{a:Act}{Q:Exit->Act->En->Prop}(lS:o.guard=Hn)(s x:Operand)(t:TypeId)
  (ho:o.op=.call {callee:=.builtin .append,args:=#[s,x],argTypes:=#[t,t]})
  (base:Nat)(e:TypeId)(z:Dn)(size bytes:Nat)(ht:P.underlying t=Gn (.slice e))(Ny:(P.info? e).map (fun i=>(i.zero,i.size,i.bytes))=Gn (Gn z,size,bytes))
  (hzs:z.cells.size=size)(ju:0<size)(v:Dn)(n:Nat)(xs:List Dn)(hs:a.eval s=v)(Io:w.ownsRow base e size v n xs)
  (B:Nat)(Wv:List Dn)(ty:TypeId)(hx:a.eval x=.slice (Gn ⟨B,0,Hn⟩) 1 1)(hl:Wv.length=size)(Ir:w.heap[B]?=Gn (.cells Wv.toArray ty (0,0)))(h1:∀u∈Wv,u.oneCell'=Um)
  (Q_:n+1<=maxLen)(dA:(n+1)*bytes<=140737488355328)(ZD:base<=w.heap.size)
  (h:∀g cap w',w'.ownsRow base e size (.slice (Gn ⟨g,0,Hn⟩) (n+1) cap) (n+1) (xs++Wv)->w.grownBy w' v.ownBlock->(v.ownBlock=Gn g\/g=w.heap.size)->g<w'.heap.size->wpList P ops Q rest (a.put o.dst (.slice (Gn ⟨g,0,Hn⟩) (n+1) cap)) w'):wpList P ops Q (o::rest) a w:=by
 obtain⟨i,h2,h3,h4,h5⟩:=info_parts Ny;exact wpList_append_lies w lS s x t ho base e i z size bytes ht h2 h3 h4 h5 hzs ju v n xs hs Io ⟨B,0,Hn⟩ 1 1 Wv hx (by rw[hl,Nat.one_mul]) (by
  have:=World.news_of_block Ir;simpa using this) h1 E0 Q_ dA ZD _ rfl h
def cells3(a b c:Dn)(j:Nat):Value:=if j=0 then a else if j=1 then b else c
theorem row3(w:En)(a b c:Dn)(t:Nat):Tn (w.alloc (.cells #[a,b,c] t)) w.heap.size 3 t (cells3 a b c):=
 Tn.new w #[a,b,c] t _ (fun j hj=>by
  have:j=0\/j=1\/j=2:=by simp at hj;omega
  rcases this with rfl|rfl|rfl<;>rfl)
theorem Tn.at3{w:En}{g t:Nat}{a b c:Dn}(h:Tn w g 3 t (cells3 a b c)):w.cell? ⟨g,0,Hn⟩=Gn a/\w.cell? ⟨g,1,Hn⟩=Gn b/\w.cell? ⟨g,2,Hn⟩=Gn c:=
 ⟨h.cell E0,h.cell E0,h.cell E0⟩
theorem Tn.UZ{w:En}{g t:Nat}{a b c:Dn}(h:Tn w g 3 t (cells3 a b c))(v:Dn):
  Tn (w.setCell ⟨g,0,Hn⟩ v) g 3 t (cells3 v b c)/\Tn (w.setCell ⟨g,1,Hn⟩ v) g 3 t (cells3 a v c)/\Tn (w.setCell ⟨g,2,Hn⟩ v) g 3 t (cells3 a b v):=by
 refine⟨(h.set 0 v).congr ?_,(h.set 1 v).congr ?_,(h.set 2 v).congr ?_⟩
 all_goals
  intro j hj;have:j=0\/j=1\/j=2:=E0;rcases this with rfl|rfl|rfl<;>rfl
theorem iD{w:En}{g t:Nat}{a b c d:Dn}(h:Tn w g 4 t (cells4 a b c d)):w.heap[g]?=Gn (.cells #[a,b,c,d] t (0,0)):=by
 obtain⟨cs,h1,h2,h3⟩:=h;rw[h1];congr 2;apply Array.ext
 ·simp[h2]
 ·intro i hi jO;have yY:=h3 i E0;have:i=0\/i=1\/i=2\/i=3:=by omega
  rw[Bm hi]at yY;rcases this with rfl|rfl|rfl|rfl<;>simpa[cells4]using yY
end Go.Proofs.YtdoghgnifkgfdaaGreat
