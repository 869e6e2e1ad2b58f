import Derived.Test.YtdoghgnifkgfdaaGreatP00
import Derived.Test.YtdoghgnifkgfdaaGreatP05
import Derived.Test.YtdoghgnifkgfdaaGreatP07
import Derived.Test.YtdoghgnifkgfdaaGreatP10
set_option maxRecDepth 100000
set_option maxHeartbeats 16000000
open Option renaming none->Ai,some->yi
open Go renaming World->ui,Value->ti,undef->ri
open Bool renaming true->ji,false->gi
namespace Go.Proofs.YtdoghgnifkgfdaaGreat.Mute
open Tryz Go Go.Conc Go.RowKit
structure Calm(L:km)(other:Nat->Obj->Prop)(w:ui)(g:Nat):Prop where
 there:∃o,w.heap[g]?=yi o
 nc:g≠L.c
 no:∀o,w.heap[g]?=yi o->¬other g o
def Mine(mine:Nat->Obj->Prop)(w:ui)(g:Nat):Prop:=∀o,w.heap[g]?=yi o->mine g o
section
variable {L:km}{mine other:Nat->Obj->Prop}{w w':ui}{g g' m m' t t':Nat}{f f':Nat->ti}
theorem Calm.stands(h:Calm L other w g)(r:Turn L other w w'):w'.heap[g]?=w.heap[g]?:=by
 obtain⟨o,ho⟩:=h.there;rw[ho,r.keep ho h.nc (h.no o ho)]
theorem Calm.rely(h:Calm L other w g)(r:Turn L other w w'):Calm L other w' g:=by
 have e:=h.stands r;exact⟨by rw[e];exact h.there,h.nc,by rw[e];exact h.no⟩
theorem Mine.rely(hm:Mine mine w g)(h:Calm L other w g)(r:Turn L other w w'):Mine mine w' g:=by
 unfold Mine;rw[h.stands r];exact hm
theorem Calm.turn(to:vr L other)(h:Calm L other w g)(r:Turn L mine w w'):Calm L other w' g:=by
 obtain⟨o,ho⟩:=h.there;obtain⟨o',h1,h2,_⟩:=r.at_ g o ho;refine⟨⟨o',h1⟩,h.nc,fun x hx py=>h.no o ho (to g x o (fun hc=>?_) py)⟩;rw[h1]at hx;cases hx;exact(h2 hc).symm
theorem Mine.turn(tm:vr L mine){who:Nat->Obj->Prop}(hm:Mine mine w g)(ht:∃o,w.heap[g]?=yi o)(r:Turn L who w w'):Mine mine w' g:=by
 obtain⟨o,ho⟩:=ht;obtain⟨o',h1,h2,_⟩:=r.at_ g o ho;intro x hx;rw[h1]at hx;cases hx;exact tm g o o' h2 (hm o ho)
structure Rw(L:km)(other:Nat->Obj->Prop)(w:ui)(g m t:Nat)(f:Nat->ti):Prop where
 row:Ei w g m t f
 calm:Calm L other w g
theorem Rw.rely(h:Rw L other w g m t f)(r:Turn L other w w'):Rw L other w' g m t f:=⟨h.row.of_heap (h.calm.stands r),h.calm.rely r⟩
theorem Rw.cell(h:Rw L other w g m t f){j:Nat}(hj:j<m):w.cell? ⟨g,j,Ai⟩=yi (f j):=h.row.cell hj
theorem Rw.look(h:Rw L other w g m t f)(j:Nat):Av L mine other w ⟨.cell ⟨g,j,Ai⟩,gi,gi⟩:=by
 obtain⟨o,ho⟩:=h.calm.there;exact Av.read (a:=⟨g,j,Ai⟩) ho (h.calm.no o ho)
structure Ow(L:km)(mine other:Nat->Obj->Prop)(w:ui)(g m t:Nat)(f:Nat->ti):Prop where
 rw:Rw L other w g m t f
 own:Mine mine w g
theorem Ow.rely(h:Ow L mine other w g m t f)(r:Turn L other w w'):Ow L mine other w' g m t f:=⟨h.rw.rely r,h.own.rely h.rw.calm r⟩
theorem Ow.cell(h:Ow L mine other w g m t f){j:Nat}(hj:j<m):w.cell? ⟨g,j,Ai⟩=yi (f j):=h.rw.cell hj
theorem Ow.frozen(h:Ow L mine other w g m t f)(j:Nat):w.frozen? ⟨g,j,Ai⟩=false:=h.rw.row.frozen j
theorem Ow.look(h:Ow L mine other w g m t f)(j:Nat):Av L mine other w ⟨.cell ⟨g,j,Ai⟩,gi,gi⟩:=h.rw.look j
theorem Ow.Hl(h:Ow L mine other w g m t f)(j:Nat)(v:ti):Turn L mine w (w.setCell ⟨g,j,Ai⟩ v):=by
 obtain⟨o,ho⟩:=h.rw.calm.there;exact .set w _ v o ho (h.own o ho)
theorem Ow.does(tm:vr L mine)(to:vr L other)(h:Ow L mine other w g m t f)(j:Nat)(v:ti){es:Array Event}(zn:∀e∈es,e=⟨.cell ⟨g,j,Ai⟩,ji,gi⟩):Does L mine other w (w.setCell ⟨g,j,Ai⟩ v) es:=by
 obtain⟨o,ho⟩:=h.rw.calm.there;exact .set tm to ho h.rw.calm.nc (h.own o ho) fun e he=>by rw[zn e he];exact Av.write (a:=⟨g,j,Ai⟩) ho (h.rw.calm.no o ho) (h.own o ho)
theorem Ow.set(tm:vr L mine)(to:vr L other)(h:Ow L mine other w g m t f)(j:Nat)(v:ti):Ow L mine other (w.setCell ⟨g,j,Ai⟩ v) g m t (fun i=>if i=j then v else f i):=
 ⟨⟨h.rw.row.set j v,h.rw.calm.turn to (h.Hl j v)⟩,h.own.turn tm h.rw.calm.there (h.Hl j v)⟩
theorem Ow.congr(h:Ow L mine other w g m t f)(hf:∀j,j<m->f j=f' j):Ow L mine other w g m t f':=⟨⟨h.rw.row.congr hf,h.rw.calm⟩,h.own⟩
theorem rows_apart(h:Ei w g m t f)(h':Ei w g' m' t' f')(ht:t≠t'):g≠g':=fun e=>by
 subst e;obtain⟨cs,h1,_⟩:=h;obtain⟨cs',h1',_⟩:=h';rw[h1]at h1';cases h1';exact ht rfl
theorem Rw.apart(to:vr L other)(h':Rw L other w g' m' t' f')(h:Ow L mine other w g m t f)(j:Nat)(v:ti)(ht:t≠t'):Rw L other (w.setCell ⟨g,j,Ai⟩ v) g' m' t' f':=
 ⟨h'.row.other _ _ (rows_apart h.rw.row h'.row ht),h'.calm.turn to (h.Hl j v)⟩
theorem Ow.apart(tm:vr L mine)(to:vr L other)(h':Ow L mine other w g' m' t' f')(h:Ow L mine other w g m t f)(j:Nat)(v:ti)(ht:t≠t'):Ow L mine other (w.setCell ⟨g,j,Ai⟩ v) g' m' t' f':=
 ⟨h'.rw.apart to h j v ht,h'.own.turn tm h'.rw.calm.there (h.Hl j v)⟩
theorem Rw.alloc(to:vr L other)(h:Rw L other w g m t f)(o:Obj):Rw L other (w.alloc o) g m t f:=⟨h.row.alloc o,h.calm.turn (mine:=fun _ _=>True) to (.alloc w o)⟩
theorem Ow.alloc(tm:vr L mine)(to:vr L other)(h:Ow L mine other w g m t f)(o:Obj):Ow L mine other (w.alloc o) g m t f:=⟨h.rw.alloc to o,h.own.turn tm h.rw.calm.there (.alloc (mine:=mine) w o)⟩
end
section
variable {L:km}{w:ui}
theorem L80(hB:L.B<=w.heap.size)(hc:L.c<w.heap.size)(cs:Array ti)(t:Nat)(f:Nat->ti)(ht:(t==L.ev)=gi)(hf:∀j,j<cs.size->cs[j]?=yi (f j)):Ow L L.send L.main (w.alloc (.cells cs t)) w.heap.size cs.size t f:=by
 have hn:(w.alloc (.cells cs t)).heap[w.heap.size]?=yi (.cells cs t (0,0)):=heap_alloc_new w _;refine⟨⟨.new w cs t f hf,⟨_,hn⟩,E0,fun o ho hm=>?_⟩,fun o ho=>?_⟩
 ·rw[hn]at ho;cases ho;rcases hm.2 with⟨h,_⟩|⟨_,h⟩
  ·omega
  ·simp[gG,ht]at h
 ·rw[hn]at ho;cases ho;exact⟨E0,.inr ⟨hB,by simpa[gG]using ht⟩⟩
end
structure Row where
 g:Nat
 m:Nat
 t:Nat
 f:Nat->ti
def upd(f:Nat->ti)(j:Nat)(v:ti)(i:Nat):Value:=if i=j then v else f i
theorem upd_same(f:Nat->ti)(j:Nat)(v:ti):upd f j v j=v:=if_pos rfl
theorem upd_ne(f:Nat->ti){i j:Nat}(v:ti)(h:i≠j):upd f j v i=f i:=if_neg h
def Row.put(r:Row)(j:Nat)(v:ti):Row:={r with f:=upd r.f j v}
def km.both(L:km)(b:Nat)(o:Obj):Prop:=L.main b o\/L.send b o
theorem Turn.mono{L:km}{who who':Nat->Obj->Prop}{w w':ui}(h:Turn L who w w')(hm:∀b o,who b o->who' b o):Turn L who' w w':=
 ⟨h.os,h.out,h.tape,h.size,fun b o ho=>by
  obtain⟨o',h1,h2,h3⟩:=h.at_ b o ho;exact⟨o',h1,h2,fun hc hn=>h3 hc fun hw=>hn (hm b o hw)⟩⟩
structure Kn(L:km)(w0:ui)(rows:List Row)(w:ui):Prop where
 ph:Turn L L.both w0 w
 row:∀(i:Nat)(r:Row),rows[i]?=yi r->Ow L L.send L.main w r.g r.m r.t r.f
 pw:∀(i j:Nat)(r s:Row),rows[i]?=yi r->rows[j]?=yi s->i≠j->r.g≠s.g
 hB:L.B<=w.heap.size
 hc:L.c<w.heap.size
structure Still(L:km)(w:ui)(b:Nat):Prop where
 there:∃o,w.heap[b]?=yi o
 nc:b≠L.c
 no:∀o,w.heap[b]?=yi o->¬L.both b o
section
variable {L:km}{w0 w w':ui}{rows:List Row}{i j:Nat}{r:Row}
theorem Kn.rely(h:Kn L w0 rows w)(hr:L.R1 w w'):Kn L w0 rows w':=
 ⟨h.ph.trans (hr.mono fun _ _ x=>.inl x),fun i r hi=>(h.row i r hi).rely hr,h.pw,Nat.le_trans h.hB hr.size,Nat.lt_of_lt_of_le h.hc hr.size⟩
theorem Kn.cell(h:Kn L w0 rows w)(hi:rows[i]?=yi r)(hj:j<r.m):w.cell? ⟨r.g,j,Ai⟩=yi (r.f j):=(h.row i r hi).cell hj
theorem Kn.frozen(h:Kn L w0 rows w)(hi:rows[i]?=yi r)(j:Nat):w.frozen? ⟨r.g,j,Ai⟩=false:=(h.row i r hi).frozen j
theorem Kn.look(h:Kn L w0 rows w)(hi:rows[i]?=yi r)(j:Nat):Av L L.send L.main w ⟨.cell ⟨r.g,j,Ai⟩,gi,gi⟩:=(h.row i r hi).look j
theorem Kn.looks(h:Kn L w0 rows w)(hi:rows[i]?=yi r){es:Array Event}(zn:∀e∈es,∃j,e=⟨.cell ⟨r.g,j,Ai⟩,gi,gi⟩):L.D1 w w es:=
 .look w fun e he=>by obtain⟨j,rfl⟩:=zn e he;exact h.look hi j
theorem Kn.still(h:Kn L w0 rows w){b:Nat}(hs:Still L w0 b):w.heap[b]?=w0.heap[b]?:=by
 exact Af
theorem Kn.nj(h:Kn L w0 rows w){a:Addr}(hs:Still L w0 a.block):w.cell? a=w0.cell? a:=by
 unfold World.cell?;rw[h.still hs]
theorem Kn.Aj(h:Kn L w0 rows w){b:Nat}(hs:Still L w0 b){es:Array Event}(zn:∀e∈es,∃j,e=⟨.cell ⟨b,j,Ai⟩,gi,gi⟩):L.D1 w w es:=
 .look w fun e he=>by
  obtain⟨o,ho⟩:=hs.there;obtain⟨j,rfl⟩:=zn e he;exact Av.read (a:=⟨b,j,Ai⟩) (by rw[h.still hs];exact ho) fun hm=>hs.no o ho (.inl hm)
theorem Kn.does(h:Kn L w0 rows w)(hi:rows[i]?=yi r)(j:Nat)(v:ti){es:Array Event}(zn:∀e∈es,e=⟨.cell ⟨r.g,j,Ai⟩,ji,gi⟩):L.D1 w (w.setCell ⟨r.g,j,Ai⟩ v) es:=
 (h.row i r hi).does L.Bj L.Cj j v zn
theorem Qi(hi:rows[i]?=yi r)(r':Row):(rows.set i r')[i]?=yi r':=by
 have:=(List.getElem?_eq_some_iff.1 hi).1;simp[this]
theorem Yi{k:Nat}(hk:k≠i)(r':Row):(rows.set i r')[k]?=rows[k]?:=by
 rw[List.getElem?_set_ne (Ne.symm hk)]
theorem Kn.set(h:Kn L w0 rows w)(hi:rows[i]?=yi r)(j:Nat)(v:ti):Kn L w0 (rows.set i (r.put j v)) (w.setCell ⟨r.g,j,Ai⟩ v):=by
 have ho:=h.row i r hi;have ht:=ho.Hl j v;refine⟨h.ph.trans (ht.mono fun _ _ x=>.inr x),fun k s hk=>?_,fun a b x y ha hb pR=>?_,L6,M6⟩
 ·by_cases WS:k=i
  ·subst WS;rw[Qi hi]at hk;cases hk;exact ho.set L.Bj L.Cj j v
  ·rw[Yi WS]at hk;have hs:=h.row k s hk;exact⟨⟨hs.rw.row.other _ _ (h.pw i k r s hi hk (Ne.symm WS)),hs.rw.calm.turn L.Cj ht⟩,hs.own.turn L.Bj hs.rw.calm.there ht⟩
 ·have key:∀(c:Nat)(x:Row),(rows.set i (r.put j v))[c]?=yi x->∃x':Row,rows[c]?=yi x'/\x'.g=x.g:=fun c x hx=>by
   by_cases hci:c=i
   ·subst hci;rw[Qi hi]at hx;cases hx;exact⟨r,hi,rfl⟩
   ·rw[Yi hci]at hx;exact⟨x,hx,rfl⟩
  exact Oc
theorem Kn.congr(h:Kn L w0 (rows.set i r) w){r':Row}{q:Row}(hi:rows[i]?=yi q)(hg:r'.g=r.g)(hm:r'.m=r.m)(ht:r'.t=r.t)(hf:∀j,j<r.m->r.f j=r'.f j):Kn L w0 (rows.set i r') w:=by
 refine⟨h.ph,fun k s hk=>?_,fun a b x y ha hb pR=>?_,h.hB,h.hc⟩
 ·by_cases WS:k=i
  ·subst WS;rw[Qi hi]at hk;cases hk;have:=h.row k r (Qi hi r);rw[hg,hm,ht];exact this.congr hf
  ·rw[Yi WS]at hk;exact h.row k s (by rw[Yi WS];exact hk)
 ·have key:∀(c:Nat)(x:Row),(rows.set i r')[c]?=yi x->∃x':Row,(rows.set i r)[c]?=yi x'/\x'.g=x.g:=fun c x hx=>by
   by_cases hci:c=i
   ·subst hci;rw[Qi hi]at hx;cases hx;exact⟨r,Qi hi r,hg.symm⟩
   ·rw[Yi hci]at hx;exact⟨x,by rw[Yi hci];exact hx,rfl⟩
  exact Oc
theorem Kn.alloc(h:Kn L w0 rows w)(cs:Array ti)(t:Nat)(f:Nat->ti)(ht:(t==L.ev)=gi)(hf:∀j,j<cs.size->cs[j]?=yi (f j)):Kn L w0 (rows++[⟨w.heap.size,cs.size,t,f⟩]) (w.alloc (.cells cs t)):=by
 have Wi:∀(k:Nat)(s:Row),rows[k]?=yi s->s.g<w.heap.size:=fun k s hk=>(h.row k s hk).rw.row.lt;have key:∀(k:Nat)(s:Row),(rows++[⟨w.heap.size,cs.size,t,f⟩])[k]?=yi s->rows[k]?=yi s\/(k=rows.length/\s=⟨w.heap.size,cs.size,t,f⟩):=fun k s hk=>by
  rcases Nat.lt_trichotomy k rows.length with hl|rfl|hl
  ·rw[List.getElem?_append_left hl]at hk;exact .inl hk
  ·rw[List.getElem?_append_right (Nat.le_refl _)]at hk;simp at hk;exact .inr ⟨rfl,hk.symm⟩
  ·rw[List.getElem?_eq_none A1]at hk;cases hk
 refine⟨h.ph.trans (.alloc w _),fun k s hk=>?_,fun a b x y ha hb pR=>?_,by simp;have:=h.hB;omega,by simp;have:=h.hc;omega⟩
 ·rcases key k s hk with hk|⟨_,rfl⟩
  ·exact(h.row k s hk).alloc L.Bj L.Cj _
  ·exact L80 h.hB h.hc cs t f ht hf
 ·rcases key a x ha with ha|⟨ea,rfl⟩<;>rcases key b y hb with hb|⟨eb,rfl⟩
  ·exact h.pw a b x y ha hb pR
  ·have:=Wi a x ha;show x.g≠w.heap.size;omega
  ·have:=Wi b y hb;show w.heap.size≠y.g;omega
  ·omega
theorem Kn.ym(h:Kn L w0 rows w)(o:Obj){es:Array Event}(zn:∀e∈es,False):L.D1 w (w.alloc o) es:=
 .alloc L.Bj L.Cj h.hc fun e he=>(zn e he).elim
theorem Kn.drop{ex:List Row}(h:Kn L w0 (rows++ex) w):Kn L w0 rows w:=by
 have key:∀(k:Nat)(s:Row),rows[k]?=yi s->(rows++ex)[k]?=yi s:=fun k s hk=>by
  have:=(List.getElem?_eq_some_iff.1 hk).1;rw[List.getElem?_append_left this];exact hk
 exact⟨h.ph,fun k s hk=>h.row k s (key k s hk),fun a b x y ha hb=>h.pw a b x y (key a x ha) (key b y hb),h.hB,h.hc⟩
theorem Uj{ex:List Row}(hi:rows[i]?=yi r):(rows++ex)[i]?=yi r:=by
 have:=(List.getElem?_eq_some_iff.1 hi).1;rw[List.getElem?_append_left this];exact hi
theorem Kn.tM(h:Kn L w0 rows w)(hi:rows[i]?=yi r)(ht:Turn L L.send w w')(yB:w'.heap[L.c]?=w.heap[L.c]?){es:Array Event}(zn:∀e∈es,∃j wr,e=⟨.cell ⟨r.g,j,Ai⟩,wr,gi⟩):L.D1 w w' es:=by
 have ho:=h.row i r hi;obtain⟨o,hg⟩:=ho.rw.calm.there;refine⟨ht,yB,fun e he=>?_⟩;obtain⟨j,wr,rfl⟩:=zn e he;obtain⟨o',h1,h2,_⟩:=ht.at_ r.g o hg;have hn:¬L.main r.g o':=fun hm=>ho.rw.calm.no o hg (L.Cj r.g o' o (fun hc=>(h2 hc).symm) hm);cases wr with
 |false=>exact Av.read (a:=⟨r.g,j,Ai⟩) h1 hn
 |true=>exact Av.write (a:=⟨r.g,j,Ai⟩) h1 hn (L.Bj r.g o o' h2 (ho.own o hg))
theorem Kn.Hl(h:Kn L w0 rows w)(hi:rows[i]?=yi r)(j:Nat)(v:ti):Turn L L.send w (w.setCell ⟨r.g,j,Ai⟩ v):=(h.row i r hi).Hl j v
theorem Kn.Oq(h:Kn L w0 rows w)(hi:rows[i]?=yi r)(j:Nat)(v:ti):(w.setCell ⟨r.g,j,Ai⟩ v).heap[L.c]?=w.heap[L.c]?:=by
 have:=(h.row i r hi).rw.calm.nc;simp only[World.setCell,Array.getElem?_modify,if_neg this]
theorem kq(x:Row):(rows++[x])[rows.length]?=yi x:=P0
end
section
variable {P:Program}{main:Bool}{R:ui->ui->Prop}{D:ui->ui->Array Event->Prop}{b:Frame}{a:Act}{k:List Item}{cs:List Frame}{w:ui}
theorem zH{fn:Func}{todo:List Item}{c:Frame}{v:ti}(hn:b.kind=.normal)(hd:a.defers=[])(hf:P.funcs[b.fn]?=yi fn)(hr:(results fn a.tmps).run P w=.ok v w):
  stepG P main (G {b.at a todo with mode:=.returning} (c::cs)) w=.go (G (c.finish v) cs) w (seen P b.fn ((results fn a.tmps).events P w #[])):=by
 simp[G,stepG,unwind,doReturn,Frame.at,hn,hd,hf,hr,GStep.after]
def qp(P:Program)(R:ui->ui->Prop)(D:ui->ui->Array Event->Prop)(f:FuncId)(fn:Func)(tmps:Array ti)(w:ui)(v:ti):Prop:=
 ∀w₁,R w w₁->(results fn tmps).run P w₁=.ok v w₁/\D w₁ w₁ (seen P f ((results fn tmps).events P w₁ #[]))
end
section
variable (P:Program)(main:Bool)(R:ui->ui->Prop)(D:ui->ui->Array Event->Prop)
def Xi(f:FuncId)(args:Array ti)(w:ui)(Post:ti->ui->Prop)(Die:List PanicEntry->ui->Prop):Prop:=
 ∀(c:Frame)(cs:List Frame)(Stop:Goroutine->ui->Prop),(∀v w',Post v w'->Ci P main R D Stop (G (c.finish v) cs) w')->(∀ch w',Die ch w'->Ci P main R D Stop (G (c.raise ch) cs) w')->Ci P main R D Stop (G (Frame.enter P f args .normal) (c::cs)) w
def Down(md:Region.Mode)(ops:Array Oper)(listed:Array Bool):Prop:=∀(k:Nat)(o:Oper),ops[k]?=yi o->listed.getD k gi=ji->∀e∈o.after,Region.binds md e=ji->listed.getD e.on gi=ji
def CP(md:Region.Mode)(ops:Array Oper)(listed:Array Bool):Bool:=(List.range ops.size).all fun k=>!listed.getD k gi || (ops.getD k default).after.all fun e=>!Region.binds md e || listed.getD e.on gi
def Jv(md:Region.Mode)(ops:Array Oper)(j:Nat):Prop:=∀(listed:Array Bool)(k:Nat),Down md ops listed->j∈Region.ready md ops listed->k≠j->k<ops.size->listed.getD k ji=ji
def cO(fn:FuncId)(md:Region.Mode)(ops:Array Oper)(Die:List PanicEntry->ui->Prop)(Tail:Nat->Act->ui->Prop)(i:Nat)(K:Act->ui->Prop)(a:Act)(w:ui):Prop:=
 match ops[i]? with
 |none=>False
 |some o=>if Region.wanted o (yielded ops a.tmps) then
   (∀w₁,R w w₁->uponK o a (fun a' w'=>D w₁ w' (listed P fn a o w₁)/\K a' w') ((execOp a.eval o).run P w₁))\/
   (∃ f args qG LM c, o.op = .call { callee := .value (.func f), args, argTypes := qG } /\ P.funcs[f]? = yi LM /\ (LM.name == "runtime.NumGoroutine") = gi /\ LM.body = yi c /\
    Xi P main R D f (args.map a.eval) w (fun v w'=>K (a.put o.dst v) w') Die)\/
   (Jv md ops i/\Tail i a w)
  else K (a.put o.dst ri) w
def Gs(fn:FuncId)(md:Region.Mode)(ops:Array Oper)(Q:Act->ui->Prop)(Die:List PanicEntry->ui->Prop)(Tail:Nat->Act->ui->Prop)(S:ui->Prop):Nat->Array Bool->Act->ui->Prop
 |0,listed,a,w=>Region.ready md ops listed=[]/\Q a w
 |fuel+1,listed,a,w=>(Region.ready md ops listed=[]->Q a w)/\
  ∀i∈Region.ready md ops listed,cO P main R D fn md ops Die Tail i (fun a' w'=>(S w'\/Jv md ops i)/\Gs fn md ops Q Die Tail S fuel (listed.setIfInBounds i ji) a' w') a w
end
section
variable {P:Program}{main:Bool}{R:ui->ui->Prop}{D:ui->ui->Array Event->Prop}{fn:FuncId}{md:Region.Mode}{ops:Array Oper}{Q:Act->ui->Prop}{Die:List PanicEntry->ui->Prop}{Tail:Nat->Act->ui->Prop}{S:ui->Prop}
theorem Xi.rely(T:Terms R D){f:FuncId}{args:Array ti}{w w₁:ui}{Post:ti->ui->Prop}(h:Xi P main R D f args w Post Die)(r:R w w₁):Xi P main R D f args w₁ Post Die:=fun c cs Stop h1 h2=>(h c cs Stop h1 h2).rely T.trans r
theorem Xi.mono{f:FuncId}{args:Array ti}{w:ui}{Post YE:ti->ui->Prop}{Q_:List PanicEntry->ui->Prop}(h:Xi P main R D f args w Post Die)(hp:∀v w',Post v w'->YE v w')(hd:∀c w',Die c w'->Q_ c w'):Xi P main R D f args w YE Q_:=
 fun c cs Stop h1 h2=>h c cs Stop (fun v w' x=>h1 v w' (hp v w' x)) fun ch w' x=>h2 ch w' (hd ch w' x)
theorem r00{i:Nat}{a:Act}{w:ui}{K K':Act->ui->Prop}(h:∀a w,K a w->K' a w)(hh:cO P main R D fn md ops Die Tail i K a w):cO P main R D fn md ops Die Tail i K' a w:=by
 unfold cO at *;cases ho:ops[i]? with
 |none=>rw[ho]at hh;exact hh
 |some o=>
  rw[ho]at hh;by_cases hw:Region.wanted o (yielded ops a.tmps)=ji
  ·simp only[hw,if_true]at hh ⊢;rcases hh with hh|⟨f,args,qG,LM,c,h1,h2,h3,h4,h5⟩|hh
   ·exact .inl fun w₁ r=>uponK_mono (fun a' w' x=>⟨x.1,h _ _ x.2⟩) (hh w₁ r)
   ·exact .inr (.inl ⟨f,args,qG,LM,c,h1,h2,h3,h4,h5.mono (fun v w' x=>h _ _ x) fun _ _ x=>x⟩)
   ·exact .inr (.inr hh)
  ·simp only[hw]at hh ⊢;exact h _ _ hh
theorem b00(T:Terms R D)(hTR:∀i a x y,Tail i a x->R x y->Tail i a y){i:Nat}{a:Act}{w w₁:ui}{K:Act->ui->Prop}(hK:∀a x y,K a x->R x y->K a y)(hh:cO P main R D fn md ops Die Tail i K a w)(r:R w w₁):cO P main R D fn md ops Die Tail i K a w₁:=by
 unfold cO at *;cases ho:ops[i]? with
 |none=>rw[ho]at hh;exact hh
 |some o=>
  rw[ho]at hh;by_cases hw:Region.wanted o (yielded ops a.tmps)=ji
  ·simp only[hw,if_true]at hh ⊢;rcases hh with hh|⟨f,args,qG,LM,c,h1,h2,h3,h4,h5⟩|hh
   ·exact .inl fun w₂ r'=>hh w₂ (T.trans _ _ _ r r')
   ·exact .inr (.inl ⟨f,args,qG,LM,c,h1,h2,h3,h4,h5.rely T r⟩)
   ·exact .inr (.inr ⟨hh.1,hTR _ _ _ _ hh.2 r⟩)
  ·simp only[hw]at hh ⊢;exact hK _ _ _ hh r
theorem Gs.rely(T:Terms R D)(hTR:∀i a x y,Tail i a x->R x y->Tail i a y)(GQ:∀x y,S x->R x y->S y)(hQR:∀a x y,Q a x->R x y->Q a y):∀(fuel:Nat)(listed:Array Bool)(a:Act)(w w₁:ui),Gs P main R D fn md ops Q Die Tail S fuel listed a w->R w w₁->Gs P main R D fn md ops Q Die Tail S fuel listed a w₁
 |0,_,_,_,_,h,r=>⟨h.1,hQR _ _ _ h.2 r⟩
 |fuel+1,_,_,_,_,h,r=>⟨fun e=>hQR _ _ _ (h.1 e) r,fun i hi=>b00 T hTR (fun a x y hx r'=>⟨hx.1.imp (fun h=>GQ _ _ h r') id,Gs.rely T hTR GQ hQR fuel _ a x y hx.2 r'⟩) (h.2 i hi) r⟩
theorem b50{listed:Array Bool}(h:CP md ops listed=ji):Down md ops listed:=fun k o ho hk e he hb=>by
 unfold CP at h;rw[List.all_eq_true]at h;have Wi:=(Array.getElem?_eq_some_iff.1 ho).1;have h1:=h k (List.mem_range.2 Wi);have eo:ops.getD k default=o:=G7;rw[eo,hk,Bool.not_true,Bool.false_or,Array.all_eq_true_iff_forall_mem]at h1;have:=h1 e he;rw[hb,Bool.not_true,Bool.false_or]at this;exact nh
theorem Ly{listed:Array Bool}{j k:Nat}(h:listed.getD k gi=ji):(listed.setIfInBounds j ji).getD k gi=true:=by
 by_cases pA:j=k
 ·subst pA;rcases Nat.lt_or_ge j listed.size with h'|h'
  ·simp[h']
  ·simp[Array.getElem?_eq_none h']at h
 ·rw[getD_set_ne gi pA];exact h
theorem Down.set{listed:Array Bool}{j:Nat}(h:Down md ops listed)(hj:j∈Region.ready md ops listed):Down md ops (listed.setIfInBounds j ji):=fun k o ho hk e he hb=>by
 by_cases hkj:k=j
 ·subst hkj;obtain⟨_,o',FB,Wq⟩:=mem_ready.1 hj;rw[ho]at FB;cases FB;exact Ly (Wq e he hb)
 ·rw[getD_set_ne gi (Ne.symm hkj)]at hk;exact Ly (h k o ho hk e he hb)
theorem WZ(n:Nat):Down md ops (Array.replicate n gi):=fun k o _ hk=>by
 rcases Nat.lt_or_ge k n with h'|h'
 ·simp[h']at hk
 ·simp[h']at hk
theorem put_defers(a:Act)(d:Option Tmp)(v:ti):(a.put d v).defers=a.defers:=by cases d<;>rfl
theorem LG{listed:Array Bool}(h:Region.ready md ops listed=[]):∀(fuel t:Nat),Region.linearise.go md ops fuel t listed []=[]
 |0,t=>by simp[Region.linearise.go]
 |fuel+1,t=>by
  simp only[Region.linearise.go];change (match (Region.ready md ops listed)[t%(Region.ready md ops listed).length]? with
   |some i=>Region.linearise.go md ops fuel (t/(Region.ready md ops listed).length) (listed.setIfInBounds i ji) [i]
   |none=>[].reverse)=[]
  rw[h];rfl
theorem BS(T:Terms R D){b:Frame}{k:List Item}{cs:List Frame}{Stop:Goroutine->ui->Prop}(hb:b.fn=fn)(hk:b.kind≠.early)(ds:List Deferred)
  (hQ:∀a w,a.defers=ds->Q a w->Ci P main R D Stop (G (b.at a k) cs) w)(hD:∀ch w fr,Die ch w->fr.fn=b.fn->fr.kind=b.kind->fr.defers=ds->fr.mode=.panicking ch->Ci P main R D Stop (G fr cs) w)
  (hTl:∀i a w,a.defers=ds->Tail i a w->Ci P main R D Stop (G (b.at a (.inRegion ops [i]::k)) cs) w):
  ∀(fuel t:Nat)(listed:Array Bool)(a:Act)(w:ui),Down md ops listed->a.defers=ds->Gs P main R D fn md ops Q Die Tail S fuel listed a w->Ci P main R D Stop (G (b.at a (.inRegion ops (Region.linearise.go md ops fuel t listed [])::k)) cs) w:=by
 intro fuel;induction fuel with
 |zero=>intro t listed a w _ hd h;simpa[Region.linearise.go]using Ci.regionEnd T (hQ a w hd h.2)
 |succ fuel ih=>
  intro t listed a w FT hd ⟨h₀,h₁⟩;simp only[Region.linearise.go];change Ci P main R D Stop (G (b.at a (.inRegion ops (match (Region.ready md ops listed)[t%(Region.ready md ops listed).length]? with
   |some i=>Region.linearise.go md ops fuel (t/(Region.ready md ops listed).length) (listed.setIfInBounds i ji) [i]
   |none=>[].reverse)::k)) cs) w
  cases hi:(Region.ready md ops listed)[t%(Region.ready md ops listed).length]? with
  |none=>
   have Ry:Region.ready md ops listed=[]:=by
    cases hr:Region.ready md ops listed with
    |nil=>rfl
    |cons x xs=>
     rw[hr]at hi;have Wi:t%(x::xs).length<(x::xs).length:=Nat.mod_lt _ P0;rw[List.getElem?_eq_none_iff]at hi;omega
   exact Ci.regionEnd T (hQ a w hd (h₀ Ry))
  |some i=>
   simp only[];rw[linearise_go_acc,List.reverse_singleton,List.singleton_append];have hop:=h₁ i (List.mem_of_getElem? hi);unfold cO at hop;cases ho:ops[i]? with
   |none=>rw[ho]at hop;exact hop.elim
   |some o=>
    rw[ho]at hop;by_cases hw:Region.wanted o (yielded ops a.tmps)=ji
    ·simp only[hw,if_true]at hop;rcases hop with hop|⟨f,args,qG,LM,c,h1,h2,h3,h4,h5⟩|⟨pf0,p_⟩
     ·refine Ci.op ho hw hk fun w₁ r K hK=>uponK_mono hK ?_;have hx:=hop w₁ r;revert hx;cases (execOp a.eval o).run P w₁ with
      |ok n w'=>cases n<;>first|exact id|exact fun x=>⟨hb▸x.1,ih _ _ _ w' (FT.set (List.mem_of_getElem? hi)) ((put_defers _ _ _).trans hd) x.2.2⟩
      |halt _ _=>exact id
     ·refine Ci.enter T ho hw hk h1 h2 h3 h4 ?_;rw[<-enter_at _ h2 h4];refine h5 _ cs Stop (fun v w' x=>?_) fun ch w' x=>?_
      ·rw[Frame.finish_at,ho];exact ih _ _ _ w' (FT.set (List.mem_of_getElem? hi)) ((put_defers _ _ _).trans hd) x.2
      ·exact hD ch w' _ x N6 N6 (by simp[Frame.raise,Frame.at,hd]) N6
     ·have zG:=List.mem_of_getElem? hi;have Ry:Region.ready md ops (listed.setIfInBounds i ji)=[]:=by
       apply List.eq_nil_iff_forall_not_mem.2;intro k sF;obtain⟨h1,ok,gl,_⟩:=mem_ready.1 sF;by_cases WS:k=i
       ·subst WS;rcases Nat.lt_or_ge k listed.size with h'|h'
        ·simp[h']at h1
        ·simp[h']at h1
       ·rw[getD_set_ne ji (Ne.symm WS)]at h1;have:=pf0 listed k FT zG WS (Array.getElem?_eq_some_iff.1 gl).1;rw[h1]at this;cases this
      rw[LG Ry];exact hTl i a w hd p_
    ·simp only[hw]at hop;exact Ci.unwanted T ho (by simpa using hw) (ih _ _ _ w (FT.set (List.mem_of_getElem? hi)) ((put_defers _ _ _).trans hd) hop.2)
theorem EH(GQ:∀x y,S x->R x y->S y){i:Nat}{o:Oper}{v:ti}{a:Act}(hi:ops[i]?=yi o)(hy:YieldsIfC P D fn ops S o v a){K:Act->ui->Prop}(hK:∀a x y,K a x->R x y->K a y){w:ui}(hS:S w)(h:K (a.put o.dst v) w):
  cO P main R D fn md ops Die Tail i K a w:=by
 unfold cO;simp only[hi];rcases hy with⟨hw,hv⟩|⟨hw,rfl⟩
 ·simp only[hw,if_true];exact .inl fun w₁ h₁=>by
   rw[(hv w₁ (GQ _ _ hS h₁)).1];exact⟨(hv w₁ (GQ _ _ hS h₁)).2,hK _ _ _ h h₁⟩
 ·simp only[hw,Bool.false_eq_true,if_false];exact h
theorem XY{j:Nat}{oi oj:Oper}{v:ti}(hnl:¬Jv md ops j)(hj:ops[j]?=yi oj)(AV:oi.apart ops oj=ji)(hsi:∀cs b,oi.op≠.select cs b)(hsj:∀cs b,oj.op≠.select cs b){K:Act->ui->Prop}{a:Act}{w:ui}
  (hy:YieldsIfC P D fn ops S oi v a)(h:cO P main R D fn md ops Die Tail j K (a.put oi.dst v) w):cO P main R D fn md ops Die Tail j (fun a' w'=>YieldsIfC P D fn ops S oi v a'/\K (a'.put oi.dst v) w') a w:=by
 obtain⟨h1,h2,h3⟩:=Oper.apart_spec AV;have keep:∀u,YieldsIfC P D fn ops S oi v (a.put oj.dst u):=fun u=>hy.of_same (execOp_put oi hsi a oj.dst u h3) (wanted_put oi a oj.dst u h3);unfold cO at *;simp only[hj]at *;rw[wanted_put oj a oi.dst v h1]at h;by_cases hw:Region.wanted oj (yielded ops a.tmps)=ji
 ·simp only[hw,if_true]at h ⊢;rcases h with h|⟨f,args,qG,LM,c,e1,e2,e3,e4,h5⟩|h
  ·refine .inl fun w₁ r=>?_;have hx:=h w₁ r;unfold listed at *;rw[execOp_put oj hsj a oi.dst v h1]at hx;generalize (execOp a.eval oj).run P w₁=q at *;cases q with
   |ok n w'=>
    cases n<;>simp only[uponK]at hx ⊢
    case value u=>exact⟨hx.1,keep u,by rw[<-Act.put_comm a v u h2];exact hx.2⟩
    case skip=>exact⟨hx.1,keep _,by rw[<-Act.put_comm a v ri h2];exact hx.2⟩
   |halt x w'=>simp only[uponK]at hx
  ·have ea:args.map (a.put oi.dst v).eval=args.map a.eval:=by
    apply Array.map_congr_left;intro x hx;refine Act.eval_put fun d hd hxd=>h1 d hd ?_;subst hxd;refine List.mem_append_left _ (List.mem_filterMap.2 ⟨.tmp d,?_,rfl⟩);rw[e1];simpa[Op.operands,Call.operands]using hx
   rw[ea]at h5;exact .inr (.inl ⟨f,args,qG,LM,c,e1,e2,e3,e4,h5.mono (fun u w' x=>⟨keep u,by rw[<-Act.put_comm a v u h2];exact x⟩) fun _ _ x=>x⟩)
  ·exact absurd h.1 hnl
 ·simp only[hw]at h ⊢;exact⟨keep _,by rw[<-Act.put_comm a v ri h2];exact h⟩
theorem sU(T:Terms R D)(hTR:∀i a x y,Tail i a x->R x y->Tail i a y)(GQ:∀x y,S x->R x y->S y)(hQR:∀a x y,Q a x->R x y->Q a y){i:Nat}{oi:Oper}{v:ti}(hi:ops[i]?=yi oi)(Be0:∀(j:Nat)(o:Oper) cs b,ops[j]?=yi o->o.op≠.select cs b):
  ∀(fuel:Nat)(listed:Array Bool)(a:Act)(w:ui),
   (∀j oj,ops[j]?=yi oj->j≠i->listed.getD j ji=gi->(∀e∈oj.after,Region.binds md e=ji->e.on≠i)->oi.apart ops oj=ji)->
   Down md ops listed->i∈Region.ready md ops listed->YieldsIfC P D fn ops S oi v a->S w->Gs P main R D fn md ops Q Die Tail S fuel (listed.setIfInBounds i ji) (a.put oi.dst v) w->Gs P main R D fn md ops Q Die Tail S (fuel+1) listed a w:=by
 have hK:∀j fuel listed,∀a x y,((S x\/Jv md ops j)/\Gs P main R D fn md ops Q Die Tail S fuel listed a x)->R x y->((S y\/Jv md ops j)/\Gs P main R D fn md ops Q Die Tail S fuel listed a y):=fun j fuel listed a x y h r=>⟨h.1.imp (fun h=>GQ _ _ h r) id,Gs.rely T hTR GQ hQR fuel listed a x y h.2 r⟩;intro fuel;induction fuel with
 |zero=>
  intro listed a w _ _ hr hy hS H;refine⟨fun h=>(by rw[h]at hr;cases hr),fun j hj=>?_⟩;by_cases Yq:j=i
  ·subst Yq;exact EH GQ hi hy (hK _ _ _) hS ⟨.inl hS,H⟩
  ·have:=ready_mono hj Yq;rw[H.1]at this;cases this
 |succ fuel ih=>
  intro listed a w G60 FT hr hy hS H;refine⟨fun h=>(by rw[h]at hr;cases hr),fun j hj=>?_⟩;by_cases Yq:j=i
  ·subst Yq;exact EH GQ hi hy (hK _ _ _) hS ⟨.inl hS,H⟩
  ·have h1:=H.2 j (ready_mono hj Yq);obtain⟨Kd0,oj,hoj,Wq⟩:=mem_ready.1 hj;have ki0:∀e∈oj.after,Region.binds md e=ji->e.on≠i:=fun e he hb heq=>by
    have h1:=Wq e he hb;have h0:=(mem_ready.1 hr).1;rw[heq]at h1;rcases Nat.lt_or_ge i listed.size with h'|h'
    ·simp[h']at h0 h1;rw[h0]at h1;cases h1
    ·simp[Array.getElem?_eq_none h']at h1
   have hnl:¬Jv md ops j:=fun hl=>by
    have h0:=(mem_ready.1 hr).1;have h1:=hl listed i FT hj (Ne.symm Yq) (Array.getElem?_eq_some_iff.1 hi).1;rw[h0]at h1;cases h1
   have hSj:∀x,S x\/Jv md ops j->S x:=fun x hx=>hx.elim id fun hl=>absurd hl hnl;have h2:=XY hnl hoj (G60 j oj hoj Yq Kd0 ki0) (fun cs b=>Be0 i oi cs b hi) (fun cs b=>Be0 j oj cs b hoj) hy h1;refine r00 (fun a' w' h3=>⟨h3.2.1,ih (listed.setIfInBounds j ji) a' w' (fun k ok hk WS hun qB=>G60 k ok hk WS ?_ qB) (FT.set hj) (ready_mono hr (Ne.symm Yq)) h3.1 (hSj _ h3.2.1) ?_⟩) h2
   ·by_cases pA:j=k
    ·subst pA;exact Kd0
    ·rw[getD_set_ne ji pA]at hun;exact hun
   ·rw[Array.setIfInBounds_comm _ _ Yq];exact h3.2.2
theorem sj(T:Terms R D)(hTR:∀i a x y,Tail i a x->R x y->Tail i a y)(GQ:∀x y,S x->R x y->S y)(hQR:∀a x y,Q a x->R x y->Q a y){i:Nat}{oi:Oper}{v:ti}{fuel:Nat}{listed:Array Bool}{a:Act}{w:ui}(hi:ops[i]?=yi oi)
  (hs:Region.noSelect ops=ji)(FT:CP md ops listed=ji)(hf:Region.free md ops listed i=ji)(hr:(Region.ready md ops listed).contains i=ji)
  (hy:YieldsIfC P D fn ops S oi v a)(hS:S w)(h:Gs P main R D fn md ops Q Die Tail S fuel (listed.setIfInBounds i ji) (a.put oi.dst v) w):Gs P main R D fn md ops Q Die Tail S (fuel+1) listed a w:=
 sU T hTR GQ hQR hi (Region.noSelect_spec hs) fuel listed a w (Region.free_spec hi hf) (b50 FT) (by simpa using hr) hy hS h
theorem Zm{i:Nat}{o:Oper}{fuel:Nat}{listed:Array Bool}{a:Act}{w:ui}(hr:Region.ready md ops listed=[i])(ho:ops[i]?=yi o)(hw:Region.wanted o (yielded ops a.tmps)=ji)
  (h:∀w₁,R w w₁->∀K:Act->ui->Prop,(∀a' w',D w₁ w' (Go.Conc.listed P fn a o w₁)/\(S w'\/Jv md ops i)/\Gs P main R D fn md ops Q Die Tail S fuel (listed.setIfInBounds i ji) a' w'->K a' w')->uponK o a K ((execOp a.eval o).run P w₁)):Gs P main R D fn md ops Q Die Tail S (fuel+1) listed a w:=by
 refine⟨fun h0=>absurd (hr.symm.trans h0) P0,fun j hj=>?_⟩;rw[hr]at hj;obtain rfl:j=i:=E2;unfold cO;simp only[ho,hw,if_true];exact .inl fun w₁ r=>h w₁ r _ fun _ _ x=>x
def AE(md:Region.Mode)(ops:Array Oper)(k:Nat):List Nat:=((ops.getD k default).after.toList.filter (Region.binds md)).map (·.on)
def waits(md:Region.Mode)(ops:Array Oper)(j:Nat):List Nat:=(List.range ops.size).reverse.foldl (fun m k=>if m.contains k then m++AE md ops k else m) (AE md ops j)
theorem VO{k x:Nat}{o:Oper}(ho:ops[k]?=yi o)(hx:x∈AE md ops k):∃e∈o.after,Region.binds md e=ji/\e.on=x:=by
 unfold AE at hx;have Wi:=(Array.getElem?_eq_some_iff.1 ho).1;have eo:ops.getD k default=o:=G7;rw[eo]at hx;obtain⟨e,he,rfl⟩:=List.mem_map.1 hx;obtain⟨h1,h2⟩:=List.mem_filter.1 he;exact⟨e,I5,h2,rfl⟩
theorem zl{j:Nat}{o:Oper}(ho:ops[j]?=yi o)(h:(List.range ops.size).all (fun k=>k==j || (waits md ops j).contains k)=ji):Jv md ops j:=fun listed k FT hj hk Wi=>by
 obtain⟨_,o',FB,Wq⟩:=mem_ready.1 hj;rw[ho]at FB;cases FB;have key:∀(l:List Nat)(m:List Nat),(∀x∈l,x<ops.size)->(∀x∈m,listed.getD x gi=ji)->∀x∈l.foldl (fun m k=>if m.contains k then m++AE md ops k else m) m,listed.getD x gi=true:=by
  intro l;induction l with
  |nil=>exact fun m _ hm=>hm
  |cons q l ih=>
   intro m hl hm;refine ih _ (fun x hx=>hl x (List.mem_cons_of_mem _ hx)) ?_;show ∀x∈(if m.contains q then m++AE md ops q else m),listed.getD x gi=ji;by_cases hq:m.contains q=ji
   ·rw[if_pos hq];intro x hx;rcases List.mem_append.1 hx with hx|hx
    ·exact hm x hx
    ·have hlq:=hl q List.mem_cons_self;obtain⟨e,he,hb,rfl⟩:=VO (Array.getElem?_eq_getElem hlq) hx;exact FT q _ (Array.getElem?_eq_getElem hlq) (hm q (by simpa using hq)) e he hb
   ·rw[if_neg hq];exact hm
 rw[List.all_eq_true]at h;have h1:=h k (List.mem_range.2 Wi);have h2:k∈waits md ops j:=by
  have hkj:(k==j)=false:=by simpa using hk
  rw[hkj,Bool.false_or]at h1;simpa using h1
 have h3:=key _ _ (fun x hx=>by simpa using hx) (fun x hx=>by
  obtain⟨e,he,hb,rfl⟩:=VO ho hx;exact Wq e he hb) k h2
 rcases Nat.lt_or_ge k listed.size with h'|h'
 ·simp[h']at h3 ⊢;exact h3
 ·simp[h']
theorem Rl{i:Nat}{o:Oper}{fuel:Nat}{listed:Array Bool}{a:Act}{w:ui}(hr:Region.ready md ops listed=[i])(ho:ops[i]?=yi o)(hw:Region.wanted o (yielded ops a.tmps)=ji)
  {f : FuncId} {args : Array Operand} {qG : Array TypeId} {LM : Func} {c : Code} (hop : o.op = .call { callee := .value (.func f), args, argTypes := qG }) (hf : P.funcs[f]? = yi LM) (hn : (LM.name == "runtime.NumGoroutine") = gi) (hb : LM.body = yi c) {Post : ti -> ui -> Prop} (vs : Array ti) (hv : args.map a.eval = vs)
  (hc:Xi P main R D f vs w Post Die)(h:∀v w',Post v w'->(S w'\/Jv md ops i)/\Gs P main R D fn md ops Q Die Tail S fuel (listed.setIfInBounds i ji) (a.put o.dst v) w'):Gs P main R D fn md ops Q Die Tail S (fuel+1) listed a w:=by
 refine⟨fun h0=>absurd (hr.symm.trans h0) P0,fun j hj=>?_⟩;rw[hr]at hj;obtain rfl:j=i:=E2;unfold cO;simp only[ho,hw,if_true];exact .inr (.inl ⟨f,args,qG,LM,c,hop,hf,hn,hb,by rw[hv];exact hc.mono h fun _ _ x=>x⟩)
theorem aE{i:Nat}{o:Oper}{fuel:Nat}{listed:Array Bool}{a:Act}{w:ui}(hr:Region.ready md ops listed=[i])(ho:ops[i]?=yi o)(hw:Region.wanted o (yielded ops a.tmps)=ji)(hl:Jv md ops i)(h:Tail i a w):Gs P main R D fn md ops Q Die Tail S (fuel+1) listed a w:=by
 refine⟨fun h0=>absurd (hr.symm.trans h0) P0,fun j hj=>?_⟩;rw[hr]at hj;obtain rfl:j=i:=E2;unfold cO;simp only[ho,hw,if_true];exact .inr (.inr ⟨hl,h⟩)
theorem Xj{listed:Array Bool}{a:Act}{w:ui}(hr:Region.ready md ops listed=[])(h:Q a w):∀fuel,Gs P main R D fn md ops Q Die Tail S fuel listed a w
 |0=>⟨hr,h⟩
 |_+1=>⟨fun _=>h,fun i hi=>by rw[hr]at hi;cases hi⟩
theorem Ci.drawn(T:Terms R D)(hd:LetsDraw D){b:Frame}{k:List Item}{cs:List Frame}{Stop:Goroutine->ui->Prop}{id:Nat}{a:Act}{w:ui}(hk:b.kind≠.early)(hm:P.follows .mixedOrders=ji)
  (hQ:∀a' w',a'.defers=a.defers->Q a' w'->Ci P main R D Stop (G (b.at a' k) cs) w')(hD:∀ch w' fr,Die ch w'->fr.fn=b.fn->fr.kind=b.kind->fr.defers=a.defers->fr.mode=.panicking ch->Ci P main R D Stop (G fr cs) w')
  (hTl:∀i a' w',a'.defers=a.defers->Tail i a' w'->Ci P main R D Stop (G (b.at a' (.inRegion ops [i]::k)) cs) w')
  (h:∀w₁,R w w₁->Gs P main R D b.fn .any ops Q Die Tail S ops.size (Array.replicate ops.size gi) a {w₁ with drawn:=w₁.drawn+1}):Ci P main R D Stop (G (b.at a (.code (.region id ops ji)::k)) cs) w:=
 .one rfl fun w₁ r=>⟨_,_,_,stepG_region_draw,hd _,by
  simp only[Region.schedule,hm,Bool.true_or,if_true];exact BS T rfl hk a.defers hQ hD hTl ops.size _ _ a _ (WZ _) rfl (h w₁ r)⟩
end
theorem Turn.drew{L:km}{mine:Nat->Obj->Prop}(w:ui):Turn L mine w {w with drawn:=w.drawn+1}:=.draw w _
section
variable {P:Program}{main:Bool}{R:ui->ui->Prop}{D:ui->ui->Array Event->Prop}{Stop:Goroutine->ui->Prop}
theorem A10{fr c:Frame}{cs:List Frame}{ch:List PanicEntry}{w:ui}{fn:Func}(hm:fr.mode=.panicking ch)(hd:fr.defers=[])(hf:P.funcs[fr.fn]?=yi fn):stepG P main (G fr (c::cs)) w=.go (G (c.raise ch) cs) w:=by
 have hc:fr.catches P=false:=by simp[Frame.catches,hf]
 rw[Zl (by rw[hm];simp)];unfold unwind;simp only[hd,hm,hc];rfl
theorem Ci.Gi(T:Terms R D){b:Frame}{a:Act}{k:List Item}{cs:List Frame}{w:ui}{id:Nat}{ops:Array Oper}(l:List Nat)(hl:List.range ops.size=l)(h:Ci P main R D Stop (G (b.at a (.inRegion ops l::k)) cs) w):Ci P main R D Stop (G (b.at a (.code (.region id ops gi)::k)) cs) w:=.region T (by rw[hl];exact h)
theorem Ci.zk(T:Terms R D){b:Frame}{a:Act}{k:List Item}{cs:List Frame}{w:ui}{c:Operand}{x y:Code}(e:a.eval c=.bool ji)(h:Ci P main R D Stop (G (b.at a (.code x::k)) cs) w):Ci P main R D Stop (G (b.at a (.code (.cond c x y)::k)) cs) w:=.cond T e h
theorem Ci.xk(T:Terms R D){b:Frame}{a:Act}{k:List Item}{cs:List Frame}{w:ui}{c:Operand}{x y:Code}(e:a.eval c=.bool gi)(h:Ci P main R D Stop (G (b.at a (.code y::k)) cs) w):Ci P main R D Stop (G (b.at a (.code (.cond c x y)::k)) cs) w:=.cond T e h
theorem Ci.Ym(T:Terms R D)(hd:LetsDraw D){b:Frame}{k:List Item}{cs:List Frame}{id:Nat}{a:Act}{w:ui}{ops:Array Oper}{Q:Act->ui->Prop}{Die:List PanicEntry->ui->Prop}{S:ui->Prop}(n:Nat)(hn:ops.size=n)(hk:b.kind≠.early)(hm:P.follows .mixedOrders=ji)
  (hQ:∀a' w',a'.defers=a.defers->Q a' w'->Ci P main R D Stop (G (b.at a' k) cs) w')(hD:∀ch w' fr,Die ch w'->fr.fn=b.fn->fr.kind=b.kind->fr.defers=a.defers->fr.mode=.panicking ch->Ci P main R D Stop (G fr cs) w')
  (h:∀w₁,R w w₁->Gs P main R D b.fn .any ops Q Die (fun _ _ _=>False) S n (Array.replicate n gi) a {w₁ with drawn:=w₁.drawn+1}):Ci P main R D Stop (G (b.at a (.code (.region id ops ji)::k)) cs) w:=
 .drawn (Tail:=fun _ _ _=>False) T hd hk hm hQ hD (fun _ _ _ _ h=>h.elim) (by rw[hn];exact h)
theorem Ci.eR(T:Terms R D)(hd:LetsDraw D){b:Frame}{k:List Item}{cs:List Frame}{id:Nat}{a:Act}{w:ui}{ops:Array Oper}{S:ui->Prop}(n:Nat)(hn:ops.size=n)(hk:b.kind≠.early)(hm:P.follows .mixedOrders=ji)
  (h:∀w₁,R w w₁->Gs P main R D b.fn .any ops (fun a' w'=>Ci P main R D Stop (G (b.at a' k) cs) w') (fun _ _=>False) (fun i a' w'=>a'.defers=a.defers/\Ci P main R D Stop (G (b.at a' (.inRegion ops [i]::k)) cs) w') S n (Array.replicate n gi) a {w₁ with drawn:=w₁.drawn+1}):Ci P main R D Stop (G (b.at a (.code (.region id ops ji)::k)) cs) w:=
 .drawn (Die:=fun _ _=>False) (Tail:=fun i a' w'=>a'.defers=a.defers/\Ci P main R D Stop (G (b.at a' (.inRegion ops [i]::k)) cs) w') T hd hk hm (fun _ _ _ h=>h) (fun _ _ _ h=>h.elim) (fun _ _ _ _ h=>h.2) (by rw[hn];exact h)
theorem Ci.leave(T:Terms R D){f:FuncId}{fn:Func}{a:Act}{todo:List Item}{c:Frame}{cs:List Frame}{w:ui}{v:ti}(hf:P.funcs[f]?=yi fn)(hd:a.defers=[])(hr:qp P R D f fn a.tmps w v)(h:Ci P main R D Stop (G (c.finish v) cs) w):
  Ci P main R D Stop (G {(base f).at a todo with mode:=.returning} (c::cs)) w:=
 .one rfl fun w₁ h₁=>⟨_,_,_,zH (b:=base f) rfl hd hf (hr w₁ h₁).1,(hr w₁ h₁).2,h.rely T.trans h₁⟩
theorem Ci.up(T:Terms R D){fr c:Frame}{cs:List Frame}{ch:List PanicEntry}{w:ui}{fn:Func}(hm:fr.mode=.panicking ch)(hd:fr.defers=[])(hf:P.funcs[fr.fn]?=yi fn)(h:Ci P main R D Stop (G (c.raise ch) cs) w):Ci P main R D Stop (G fr (c::cs)) w:=
 .ctl T rfl (fun _=>A10 hm hd hf) h
theorem Xi.intro(T:Terms R D){f:FuncId}{fn:Func}{c:Code}{args:Array ti}{w:ui}(tmps:Array ti){Post:ti->ui->Prop}{Die:List PanicEntry->ui->Prop}(hf:P.funcs[f]?=yi fn)(hb:fn.body=yi c)(ht:args++Array.replicate (fn.ntmps-args.size) ri=tmps)
  (h:∀(cl:Frame)(cs:List Frame)(Stop:Goroutine->ui->Prop),
   (∀a todo w' v,a.defers=[]->qp P R D f fn a.tmps w' v->Post v w'->Ci P main R D Stop (G {(base f).at a todo with mode:=.returning} (cl::cs)) w')->
   (∀fr ch w',fr.fn=f->fr.defers=[]->fr.mode=.panicking ch->Die ch w'->Ci P main R D Stop (G fr (cl::cs)) w')->
   Ci P main R D Stop (G ((base f).at {tmps:=tmps,defers:=[]} [.code c]) (cl::cs)) w):Xi P main R D f args w Post Die:=fun cl cs Stop hp hd=>by
 rw[enter_at args hf hb,ht];exact h cl cs Stop (fun a todo w' v h1 h2 h3=>.leave T hf h1 h2 (hp v w' h3)) fun fr ch w' h1 h2 h3 h4=>.up T h3 h2 (by rw[h1];exact hf) (hd ch w' h4)
theorem Ej(T:Terms R D){f:FuncId}{fn:Func}{t:Tmp}{w:ui}(h:fn.results=#[.tmp t])(tmps:Array ti):qp P R D f fn tmps w (tmps.getD t ri):=fun w₁ _=>by
 obtain⟨h1,h2⟩:=resultsC_tmp (P:=P) h tmps w₁;rw[h2,seen_none];exact⟨h1,T.idle _⟩
theorem Dj(T:Terms R D){f:FuncId}{fn:Func}{w:ui}(h:fn.results=#[])(tmps:Array ti):qp P R D f fn tmps w (.tuple #[]):=fun w₁ _=>by
 obtain⟨h1,h2⟩:=resultsC_none (P:=P) h tmps w₁;rw[h2,seen_none];exact⟨h1,T.idle _⟩
theorem Ci.Bv(T:Terms R D){b:Frame}{a:Act}{k:List Item}{cs:List Frame}{w:ui}{ops:Array Oper}{i:Nat}{rest:List Nat}{o:Oper}{f:FuncId}{fn:Func}{c:Code}{args:Array Operand}{qG:Array TypeId}{Post:ti->ui->Prop}{Die:List PanicEntry->ui->Prop}
  (ho:ops[i]?=yi o)(hw:Region.wanted o (yielded ops a.tmps)=ji)(hk:b.kind≠.early)(hop:o.op=.call {callee:=.value (.func f),args,argTypes:=qG})
  (hf : P.funcs[f]? = yi fn) (Xw : (fn.name == "runtime.NumGoroutine") = gi) (hb : fn.body = yi c) (vs : Array ti) (hv : args.map a.eval = vs) (hc : Xi P main R D f vs w Post Die)
  (h:∀v w',Post v w'->Ci P main R D Stop (G (b.at (a.put o.dst v) (.inRegion ops rest::k)) cs) w')
  (hd:∀ch w' fr,Die ch w'->fr.fn=b.fn->fr.kind=b.kind->fr.defers=a.defers->fr.mode=.panicking ch->Ci P main R D Stop (G fr cs) w'):
  Ci P main R D Stop (G (b.at a (.inRegion ops (i::rest)::k)) cs) w:=by
 refine Ci.enter T ho hw hk hop hf Xw hb ?_;rw[<-enter_at _ hf hb,hv];exact bg
theorem Ci.panic{b:Frame}{a:Act}{k:List Item}{cs:List Frame}{w:ui}{ops:Array Oper}{i:Nat}{rest:List Nat}{o:Oper}{v:ti}(T:Terms R D)(ho:ops[i]?=yi o)(hw:Region.wanted o (yielded ops a.tmps)=ji)(hk:b.kind≠.early)
  (hr:∀w,(execOp a.eval o).run P w=.halt (.panic v) w)(he:∀w,(execOp a.eval o).events P w #[]=#[])
  (h:∀fr,fr.fn=b.fn->fr.kind=b.kind->fr.defers=a.defers->fr.mode=.panicking [{v,recovered:=gi}]->Ci P main R D Stop (G fr cs) w):Ci P main R D Stop (G (b.at a (.inRegion ops (i::rest)::k)) cs) w:=by
 have sF:(b.kind==CallKind.early)=false:=by simpa using hk
 refine .ctl T rfl (g':=G ((b.at a (.inRegion ops (i::rest)::k)).raise [{v,recovered:=gi}]) cs) (fun w₁=>?_) (h _ rfl rfl rfl rfl);rw[stepG_oper ho hw];simp[stepG.apply,hr,he,G,Frame.at,Frame.raise,sF,GStep.after,seen_none]
end
def Ji(z:Nat->Int)(j:Nat)(v:Int)(i:Nat):Int:=if i=j then v else z i
theorem jo(z:Nat->Int)(j:Nat)(v:Int):Ji z j v j=v:=if_pos rfl
theorem Qk(z:Nat->Int){i j:Nat}(v:Int)(h:i≠j):Ji z j v i=z i:=if_neg h
theorem tY(num:Int)(net code:ti)(z:Nat->Int){j:Nat}(hj:3<=j)(v:Int)(i:Nat):upd (cellV num net code z) j (.int .i64 v) i=cellV num net code (Ji z j v) i:=by
 unfold upd cellV Ji;by_cases h:i=j
 ·subst h;rw[if_pos rfl,if_neg E0,if_neg E0,if_neg E0,if_pos rfl]
 ·rw[if_neg h,if_neg h]
theorem P00(num:Int)(net code:ti)(z:Nat->Int){j:Nat}(hj:3<=j):cellV num net code z j=.int .i64 (z j):=by
 unfold cellV;exact af
abbrev Ri(g:Nat)(num:Int)(net code:ti)(z:Nat->Int):Row:=⟨g,48,186,cellV num net code z⟩
section
variable {L:km}{w0 w:ui}{rows:List Row}{ic g:Nat}{num:Int}{net code:ti}{z:Nat->Int}
theorem Kn.gp(h:Kn L w0 rows w)(hi:rows[ic]?=yi (Ri g num net code z)){j:Nat}(h3:3<=j)(hj:j<48):w.cell? ⟨g,j,Ai⟩=yi (.int .i64 (z j)):=by
 have:=h.cell hi (j:=j) hj;rw[this];exact congrArg yi (P00 num net code z h3)
theorem Kn.w50(h:Kn L w0 rows w)(hi:rows[ic]?=yi (Ri g num net code z)){j:Nat}(h3:3<=j)(v:Int):Kn L w0 (rows.set ic (Ri g num net code (Ji z j v))) (w.setCell ⟨g,j,Ai⟩ (.int .i64 v)):=
 (h.set hi j (.int .i64 v)).congr hi rfl rfl rfl fun i _=>tY num net code z h3 v i
end
end Go.Proofs.YtdoghgnifkgfdaaGreat.Mute
