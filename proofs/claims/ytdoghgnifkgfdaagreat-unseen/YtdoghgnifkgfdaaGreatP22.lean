import Derived.Test.YtdoghgnifkgfdaaGreatP06
import Derived.Test.YtdoghgnifkgfdaaGreatP09
import Derived.Test.YtdoghgnifkgfdaaGreatP17
set_option maxRecDepth 100000
set_option maxHeartbeats 16000000
namespace Go.Proofs.YtdoghgnifkgfdaaGreat
open Go.RowKit
section
variable {w:World} {base e size n cap g:Nat} {xs:List Value}
theorem XC (h:w.ownsRow base e size (.slice (some ⟨g,0,none⟩) n cap) n xs) {j:Nat} {u:Value} (hx:xs[j]?=some u):w.cell? ⟨g,j,none⟩=some u:=by
 have:=h.cells (g:=g) rfl j u hx;rwa [Addr.add_lit,Nat.zero_add] at this
end
end Go.Proofs.YtdoghgnifkgfdaaGreat
namespace Go.Proofs.YtdoghgnifkgfdaaGreat.Mute
open Go Go.Conc Go.RowKit
structure Calm (L:Lot) (other:Nat→Obj→Prop) (w:World) (g:Nat):Prop where
 there:∃o,w.heap[g]?=some o
 nc:g≠L.c
 no:∀o,w.heap[g]?=some o→¬other g o
def Mine (mine:Nat→Obj→Prop) (w:World) (g:Nat):Prop:=∀o,w.heap[g]?=some o→mine g o
section
variable {L:Lot} {mine other:Nat→Obj→Prop} {w w':World} {g g' m m' t t':Nat} {f f':Nat→Value}
theorem Calm.stands (h:Calm L other w g) (r:Turn L other w w'):w'.heap[g]?=w.heap[g]?:=by
 obtain ⟨o,ho⟩:=h.there;rw [ho,r.keep ho h.nc (h.no o ho)]
theorem Calm.rely (h:Calm L other w g) (r:Turn L other w w'):Calm L other w' g:=by
 have e:=h.stands r;exact ⟨by rw [e];exact h.there,h.nc,by rw [e];exact h.no⟩
theorem Mine.rely (hm:Mine mine w g) (h:Calm L other w g) (r:Turn L other w w'):Mine mine w' g:=by
 unfold Mine;rw [h.stands r];exact hm
theorem Calm.turn (to:X7 L other) (h:Calm L other w g) (r:Turn L mine w w'):Calm L other w' g:=by
 obtain ⟨o,ho⟩:=h.there;obtain ⟨o',h1,h2,_⟩:=r.at_ g o ho;refine ⟨⟨o',h1⟩,h.nc,fun x hx hx'=>h.no o ho (to g x o (fun hc=>?_) hx')⟩;rw [h1] at hx;cases hx;exact (h2 hc).symm
theorem Mine.turn (tm:X7 L mine) {who:Nat→Obj→Prop} (hm:Mine mine w g) (ht:∃o,w.heap[g]?=some o) (r:Turn L who w w'):Mine mine w' g:=by
 obtain ⟨o,ho⟩:=ht;obtain ⟨o',h1,h2,_⟩:=r.at_ g o ho;intro x hx;rw [h1] at hx;cases hx;exact tm g o o' h2 (hm o ho)
structure Rw (L:Lot) (other:Nat→Obj→Prop) (w:World) (g m t:Nat) (f:Nat→Value):Prop where
 row:RowF w g m t f
 calm:Calm L other w g
theorem Rw.rely (h:Rw L other w g m t f) (r:Turn L other w w'):Rw L other w' g m t f:=⟨h.row.of_heap (h.calm.stands r),h.calm.rely r⟩
theorem Rw.cell (h:Rw L other w g m t f) {j:Nat} (hj:j<m):w.cell? ⟨g,j,none⟩=some (f j):=h.row.cell hj
theorem Rw.look (h:Rw L other w g m t f) (j:Nat):EvBy L mine other w ⟨.cell ⟨g,j,none⟩,false,false⟩:=by
 obtain ⟨o,ho⟩:=h.calm.there;exact EvBy.read (a:=⟨g,j,none⟩) ho (h.calm.no o ho)
structure Ow (L:Lot) (mine other:Nat→Obj→Prop) (w:World) (g m t:Nat) (f:Nat→Value):Prop where
 rw:Rw L other w g m t f
 own:Mine mine w g
theorem Ow.rely (h:Ow L mine other w g m t f) (r:Turn L other w w'):Ow L mine other w' g m t f:=⟨h.rw.rely r,h.own.rely h.rw.calm r⟩
theorem Ow.cell (h:Ow L mine other w g m t f) {j:Nat} (hj:j<m):w.cell? ⟨g,j,none⟩=some (f j):=h.rw.cell hj
theorem Ow.frozen (h:Ow L mine other w g m t f) (j:Nat):w.frozen? ⟨g,j,none⟩=false:=h.rw.row.frozen j
theorem Ow.look (h:Ow L mine other w g m t f) (j:Nat):EvBy L mine other w ⟨.cell ⟨g,j,none⟩,false,false⟩:=h.rw.look j
theorem Ow.turnSet (h:Ow L mine other w g m t f) (j:Nat) (v:Value):Turn L mine w (w.setCell ⟨g,j,none⟩ v):=by
 obtain ⟨o,ho⟩:=h.rw.calm.there;exact .set w _ v o ho (h.own o ho)
theorem Ow.does (tm:X7 L mine) (to:X7 L other) (h:Ow L mine other w g m t f) (j:Nat) (v:Value) {es:Array Event} (hes:∀e∈es,e=⟨.cell ⟨g,j,none⟩,true,false⟩):Does L mine other w (w.setCell ⟨g,j,none⟩ v) es:=by
 obtain ⟨o,ho⟩:=h.rw.calm.there;exact .set tm to ho h.rw.calm.nc (h.own o ho) fun e he=>by rw [hes e he];exact EvBy.write (a:=⟨g,j,none⟩) ho (h.rw.calm.no o ho) (h.own o ho)
theorem Ow.set (tm:X7 L mine) (to:X7 L other) (h:Ow L mine other w g m t f) (j:Nat) (v:Value):Ow L mine other (w.setCell ⟨g,j,none⟩ v) g m t (fun i=>if i=j then v else f i):=
 ⟨⟨h.rw.row.set j v,h.rw.calm.turn to (h.turnSet j v)⟩,h.own.turn tm h.rw.calm.there (h.turnSet j v)⟩
theorem Ow.congr (h:Ow L mine other w g m t f) (hf:∀j,j<m→f j=f' j):Ow L mine other w g m t f':=⟨⟨h.rw.row.congr hf,h.rw.calm⟩,h.own⟩
theorem Y0w (h:RowF w g m t f) (h':RowF w g' m' t' f') (ht:t≠t'):g≠g':=fun e=>by
 subst e;obtain ⟨cs,h1,_⟩:=h;obtain ⟨cs',h1',_⟩:=h';rw [h1] at h1';cases h1';exact ht rfl
theorem Rw.apart (to:X7 L other) (h':Rw L other w g' m' t' f') (h:Ow L mine other w g m t f) (j:Nat) (v:Value) (ht:t≠t'):Rw L other (w.setCell ⟨g,j,none⟩ v) g' m' t' f':=
 ⟨h'.row.other _ _ (Y0w h.rw.row h'.row ht),h'.calm.turn to (h.turnSet j v)⟩
theorem Ow.apart (tm:X7 L mine) (to:X7 L other) (h':Ow L mine other w g' m' t' f') (h:Ow L mine other w g m t f) (j:Nat) (v:Value) (ht:t≠t'):Ow L mine other (w.setCell ⟨g,j,none⟩ v) g' m' t' f':=
 ⟨h'.rw.apart to h j v ht,h'.own.turn tm h'.rw.calm.there (h.turnSet j v)⟩
theorem Rw.alloc (to:X7 L other) (h:Rw L other w g m t f) (o:Obj):Rw L other (w.alloc o) g m t f:=⟨h.row.alloc o,h.calm.turn (mine:=fun _ _=>True) to (.alloc w o)⟩
theorem Ow.alloc (tm:X7 L mine) (to:X7 L other) (h:Ow L mine other w g m t f) (o:Obj):Ow L mine other (w.alloc o) g m t f:=⟨h.rw.alloc to o,h.own.turn tm h.rw.calm.there (.alloc (mine:=mine) w o)⟩
end
section
variable {L:Lot} {w:World}
theorem Y4I (hB:L.B≤w.heap.size) (hc:L.c<w.heap.size) (cs:Array Value) (t:Nat) (f:Nat→Value) (ht:(t==L.ev)=false) (hf:∀j,j<cs.size→cs[j]?=some (f j)):Ow L L.send L.main (w.alloc (.cells cs t)) w.heap.size cs.size t f:=by
 have hn:(w.alloc (.cells cs t)).heap[w.heap.size]?=some (.cells cs t (0,0)):=heap_alloc_new w _;refine ⟨⟨.new w cs t f hf,⟨_,hn⟩,by omega,fun o ho hm=>?_⟩,fun o ho=>?_⟩
 ·rw [hn] at ho;cases ho;rcases hm.2 with ⟨h,_⟩|⟨_,h⟩
  ·omega
  ·simp [isEv,ht] at h
 ·rw [hn] at ho;cases ho;exact ⟨by omega,.inr ⟨hB,by simpa [isEv] using ht⟩⟩
end
structure Row where
 g:Nat
 m:Nat
 t:Nat
 f:Nat→Value
def upd (f:Nat→Value) (j:Nat) (v:Value) (i:Nat):Value:=if i=j then v else f i
theorem upd_same (f:Nat→Value) (j:Nat) (v:Value):upd f j v j=v:=if_pos rfl
theorem upd_ne (f:Nat→Value) {i j:Nat} (v:Value) (h:i≠j):upd f j v i=f i:=if_neg h
def Row.put (r:Row) (j:Nat) (v:Value):Row:={r with f:=upd r.f j v}
def Lot.both (L:Lot) (b:Nat) (o:Obj):Prop:=L.main b o∨L.send b o
theorem Turn.mono {L:Lot} {who who':Nat→Obj→Prop} {w w':World} (h:Turn L who w w') (hm:∀b o,who b o→who' b o):Turn L who' w w':=
 ⟨h.os,h.out,h.tape,h.size,fun b o ho=>by
  obtain ⟨o',h1,h2,h3⟩:=h.at_ b o ho;exact ⟨o',h1,h2,fun hc hn=>h3 hc fun hw=>hn (hm b o hw)⟩⟩
structure Kn (L:Lot) (w0:World) (rows:List Row) (w:World):Prop where
 ph:Turn L L.both w0 w
 row:∀(i:Nat) (r:Row),rows[i]?=some r→Ow L L.send L.main w r.g r.m r.t r.f
 pw:∀(i j:Nat) (r s:Row),rows[i]?=some r→rows[j]?=some s→i≠j→r.g≠s.g
 hB:L.B≤w.heap.size
 hc:L.c<w.heap.size
structure Still (L:Lot) (w:World) (b:Nat):Prop where
 there:∃o,w.heap[b]?=some o
 nc:b≠L.c
 no:∀o,w.heap[b]?=some o→¬L.both b o
section
variable {L:Lot} {w0 w w':World} {rows:List Row} {i j:Nat} {r:Row}
theorem Kn.rely (h:Kn L w0 rows w) (hr:L.R1 w w'):Kn L w0 rows w':=
 ⟨h.ph.trans (hr.mono fun _ _ x=>.inl x),fun i r hi=>(h.row i r hi).rely hr,h.pw,Nat.le_trans h.hB hr.size,Nat.lt_of_lt_of_le h.hc hr.size⟩
theorem Kn.cell (h:Kn L w0 rows w) (hi:rows[i]?=some r) (hj:j<r.m):w.cell? ⟨r.g,j,none⟩=some (r.f j):=(h.row i r hi).cell hj
theorem Kn.frozen (h:Kn L w0 rows w) (hi:rows[i]?=some r) (j:Nat):w.frozen? ⟨r.g,j,none⟩=false:=(h.row i r hi).frozen j
theorem Kn.look (h:Kn L w0 rows w) (hi:rows[i]?=some r) (j:Nat):EvBy L L.send L.main w ⟨.cell ⟨r.g,j,none⟩,false,false⟩:=(h.row i r hi).look j
theorem Kn.looks (h:Kn L w0 rows w) (hi:rows[i]?=some r) {es:Array Event} (hes:∀e∈es,∃j,e=⟨.cell ⟨r.g,j,none⟩,false,false⟩):L.D1 w w es:=
 .look w fun e he=>by obtain ⟨j,rfl⟩:=hes e he;exact h.look hi j
theorem Kn.still (h:Kn L w0 rows w) {b:Nat} (hs:Still L w0 b):w.heap[b]?=w0.heap[b]?:=by
 obtain ⟨o,ho⟩:=hs.there;rw [ho,h.ph.keep ho hs.nc (hs.no o ho)]
theorem Kn.stillCell (h:Kn L w0 rows w) {a:Addr} (hs:Still L w0 a.block):w.cell? a=w0.cell? a:=by
 unfold World.cell?;rw [h.still hs]
theorem Kn.stillLooks (h:Kn L w0 rows w) {b:Nat} (hs:Still L w0 b) {es:Array Event} (hes:∀e∈es,∃j,e=⟨.cell ⟨b,j,none⟩,false,false⟩):L.D1 w w es:=
 .look w fun e he=>by
  obtain ⟨o,ho⟩:=hs.there;obtain ⟨j,rfl⟩:=hes e he;exact EvBy.read (a:=⟨b,j,none⟩) (by rw [h.still hs];exact ho) fun hm=>hs.no o ho (.inl hm)
theorem Kn.does (h:Kn L w0 rows w) (hi:rows[i]?=some r) (j:Nat) (v:Value) {es:Array Event} (hes:∀e∈es,e=⟨.cell ⟨r.g,j,none⟩,true,false⟩):L.D1 w (w.setCell ⟨r.g,j,none⟩ v) es:=
 (h.row i r hi).does L.tells_send L.tells_main j v hes
theorem YN (hi:rows[i]?=some r) (r':Row):(rows.set i r')[i]?=some r':=by
 have:=(List.getElem?_eq_some_iff.1 hi).1;simp [this]
theorem ZZ {k:Nat} (hk:k≠i) (r':Row):(rows.set i r')[k]?=rows[k]?:=by
 rw [List.getElem?_set_ne (Ne.symm hk)]
theorem Kn.set (h:Kn L w0 rows w) (hi:rows[i]?=some r) (j:Nat) (v:Value):Kn L w0 (rows.set i (r.put j v)) (w.setCell ⟨r.g,j,none⟩ v):=by
 have ho:=h.row i r hi;have ht:=ho.turnSet j v;refine ⟨h.ph.trans (ht.mono fun _ _ x=>.inr x),fun k s hk=>?_,fun a b x y ha hb hab=>?_,by simpa [World.setCell] using h.hB,by simpa [World.setCell] using h.hc⟩
 ·by_cases hki:k=i
  ·subst hki;rw [YN hi] at hk;cases hk;exact ho.set L.tells_send L.tells_main j v
  ·rw [ZZ hki] at hk;have hs:=h.row k s hk;exact ⟨⟨hs.rw.row.other _ _ (h.pw i k r s hi hk (Ne.symm hki)),hs.rw.calm.turn L.tells_main ht⟩,hs.own.turn L.tells_send hs.rw.calm.there ht⟩
 ·have key:∀(c:Nat) (x:Row),(rows.set i (r.put j v))[c]?=some x→∃x':Row,rows[c]?=some x'∧x'.g=x.g:=fun c x hx=>by
   by_cases hci:c=i
   ·subst hci;rw [YN hi] at hx;cases hx;exact ⟨r,hi,rfl⟩
   ·rw [ZZ hci] at hx;exact ⟨x,hx,rfl⟩
  obtain ⟨x',hx',ex⟩:=key a x ha;obtain ⟨y',hy',ey⟩:=key b y hb;rw [←ex,←ey];exact h.pw a b x' y' hx' hy' hab
theorem Kn.congr (h:Kn L w0 (rows.set i r) w) {r':Row} {q:Row} (hi:rows[i]?=some q) (hg:r'.g=r.g) (hm:r'.m=r.m) (ht:r'.t=r.t) (hf:∀j,j<r.m→r.f j=r'.f j):Kn L w0 (rows.set i r') w:=by
 refine ⟨h.ph,fun k s hk=>?_,fun a b x y ha hb hab=>?_,h.hB,h.hc⟩
 ·by_cases hki:k=i
  ·subst hki;rw [YN hi] at hk;cases hk;have:=h.row k r (YN hi r);rw [hg,hm,ht];exact this.congr hf
  ·rw [ZZ hki] at hk;exact h.row k s (by rw [ZZ hki];exact hk)
 ·have key:∀(c:Nat) (x:Row),(rows.set i r')[c]?=some x→∃x':Row,(rows.set i r)[c]?=some x'∧x'.g=x.g:=fun c x hx=>by
   by_cases hci:c=i
   ·subst hci;rw [YN hi] at hx;cases hx;exact ⟨r,YN hi r,hg.symm⟩
   ·rw [ZZ hci] at hx;exact ⟨x,by rw [ZZ hci];exact hx,rfl⟩
  obtain ⟨x',hx',ex⟩:=key a x ha;obtain ⟨y',hy',ey⟩:=key b y hb;rw [←ex,←ey];exact h.pw a b x' y' hx' hy' hab
theorem Kn.alloc (h:Kn L w0 rows w) (cs:Array Value) (t:Nat) (f:Nat→Value) (ht:(t==L.ev)=false) (hf:∀j,j<cs.size→cs[j]?=some (f j)):Kn L w0 (rows++[⟨w.heap.size,cs.size,t,f⟩]) (w.alloc (.cells cs t)):=by
 have hlt:∀(k:Nat) (s:Row),rows[k]?=some s→s.g<w.heap.size:=fun k s hk=>(h.row k s hk).rw.row.lt;have key:∀(k:Nat) (s:Row),(rows++[⟨w.heap.size,cs.size,t,f⟩])[k]?=some s→rows[k]?=some s∨(k=rows.length∧s=⟨w.heap.size,cs.size,t,f⟩):=fun k s hk=>by
  rcases Nat.lt_trichotomy k rows.length with hl|rfl|hl
  ·rw [List.getElem?_append_left hl] at hk;exact .inl hk
  ·rw [List.getElem?_append_right (Nat.le_refl _)] at hk;simp at hk;exact .inr ⟨rfl,hk.symm⟩
  ·rw [List.getElem?_eq_none (by simp;omega)] at hk;cases hk
 refine ⟨h.ph.trans (.alloc w _),fun k s hk=>?_,fun a b x y ha hb hab=>?_,by simp;have:=h.hB;omega,by simp;have:=h.hc;omega⟩
 ·rcases key k s hk with hk|⟨_,rfl⟩
  ·exact (h.row k s hk).alloc L.tells_send L.tells_main _
  ·exact Y4I h.hB h.hc cs t f ht hf
 ·rcases key a x ha with ha|⟨ea,rfl⟩<;>rcases key b y hb with hb|⟨eb,rfl⟩
  ·exact h.pw a b x y ha hb hab
  ·have:=hlt a x ha;show x.g≠w.heap.size;omega
  ·have:=hlt b y hb;show w.heap.size≠y.g;omega
  ·omega
theorem Kn.doesAlloc (h:Kn L w0 rows w) (o:Obj) {es:Array Event} (hes:∀e∈es,False):L.D1 w (w.alloc o) es:=
 .alloc L.tells_send L.tells_main h.hc fun e he=>(hes e he).elim
theorem Kn.drop {ex:List Row} (h:Kn L w0 (rows++ex) w):Kn L w0 rows w:=by
 have key:∀(k:Nat) (s:Row),rows[k]?=some s→(rows++ex)[k]?=some s:=fun k s hk=>by
  have:=(List.getElem?_eq_some_iff.1 hk).1;rw [List.getElem?_append_left this];exact hk
 exact ⟨h.ph,fun k s hk=>h.row k s (key k s hk),fun a b x y ha hb=>h.pw a b x y (key a x ha) (key b y hb),h.hB,h.hc⟩
theorem J2 {ex:List Row} (hi:rows[i]?=some r):(rows++ex)[i]?=some r:=by
 have:=(List.getElem?_eq_some_iff.1 hi).1;rw [List.getElem?_append_left this];exact hi
theorem Kn.doesAll (h:Kn L w0 rows w) (hi:rows[i]?=some r) (ht:Turn L L.send w w') (hch:w'.heap[L.c]?=w.heap[L.c]?) {es:Array Event} (hes:∀e∈es,∃j wr,e=⟨.cell ⟨r.g,j,none⟩,wr,false⟩):L.D1 w w' es:=by
 have ho:=h.row i r hi;obtain ⟨o,hg⟩:=ho.rw.calm.there;refine ⟨ht,hch,fun e he=>?_⟩;obtain ⟨j,wr,rfl⟩:=hes e he;obtain ⟨o',h1,h2,_⟩:=ht.at_ r.g o hg;have hn:¬L.main r.g o':=fun hm=>ho.rw.calm.no o hg (L.tells_main r.g o' o (fun hc=>(h2 hc).symm) hm);cases wr with
 |false=>exact EvBy.read (a:=⟨r.g,j,none⟩) h1 hn
 |true=>exact EvBy.write (a:=⟨r.g,j,none⟩) h1 hn (L.tells_send r.g o o' h2 (ho.own o hg))
theorem Kn.turnSet (h:Kn L w0 rows w) (hi:rows[i]?=some r) (j:Nat) (v:Value):Turn L L.send w (w.setCell ⟨r.g,j,none⟩ v):=(h.row i r hi).turnSet j v
theorem Kn.chanSet (h:Kn L w0 rows w) (hi:rows[i]?=some r) (j:Nat) (v:Value):(w.setCell ⟨r.g,j,none⟩ v).heap[L.c]?=w.heap[L.c]?:=by
 have:=(h.row i r hi).rw.calm.nc;simp only [World.setCell,Array.getElem?_modify,if_neg this]
theorem YcA (x:Row):(rows++[x])[rows.length]?=some x:=by simp
end
section
variable {P:Program} {main:Bool} {R:World→World→Prop} {D:World→World→Array Event→Prop} {b:Frame} {a:Act} {k:List Item} {cs:List Frame} {w:World}
theorem Y6m {fn:Func} {todo:List Item} {c:Frame} {v:Value} (hn:b.kind=.normal) (hd:a.defers=[]) (hf:P.funcs[b.fn]?=some fn) (hr:(results fn a.tmps).run P w=.ok v w):
  stepG P main (G {b.at a todo with mode:=.returning} (c::cs)) w=.go (G (c.finish v) cs) w (seen P b.fn ((results fn a.tmps).events P w #[])):=by
 simp [G,stepG,unwind,doReturn,Frame.at,hn,hd,hf,hr,GStep.after]
def ZK (P:Program) (R:World→World→Prop) (D:World→World→Array Event→Prop) (f:FuncId) (fn:Func) (tmps:Array Value) (w:World) (v:Value):Prop:=
 ∀w₁,R w w₁→(results fn tmps).run P w₁=.ok v w₁∧D w₁ w₁ (seen P f ((results fn tmps).events P w₁ #[]))
end
section
variable (P:Program) (main:Bool) (R:World→World→Prop) (D:World→World→Array Event→Prop)
def Yl (f:FuncId) (args:Array Value) (w:World) (Post:Value→World→Prop) (Die:List PanicEntry→World→Prop):Prop:=
 ∀(c:Frame) (cs:List Frame) (Stop:Goroutine→World→Prop),(∀v w',Post v w'→Y1 P main R D Stop (G (c.finish v) cs) w')→(∀ch w',Die ch w'→Y1 P main R D Stop (G (c.raise ch) cs) w')→Y1 P main R D Stop (G (Frame.enter P f args .normal) (c::cs)) w
def Down (md:Region.Mode) (ops:Array Oper) (listed:Array Bool):Prop:=∀(k:Nat) (o:Oper),ops[k]?=some o→listed.getD k false=true→∀e∈o.after,Region.binds md e=true→listed.getD e.on false=true
def Y05 (md:Region.Mode) (ops:Array Oper) (listed:Array Bool):Bool:=(List.range ops.size).all fun k=>!listed.getD k false || (ops.getD k default).after.all fun e=>!Region.binds md e || listed.getD e.on false
def Z9 (md:Region.Mode) (ops:Array Oper) (j:Nat):Prop:=∀(listed:Array Bool) (k:Nat),Down md ops listed→j∈Region.ready md ops listed→k≠j→k<ops.size→listed.getD k true=true
def OpD (fn:FuncId) (md:Region.Mode) (ops:Array Oper) (Die:List PanicEntry→World→Prop) (Tail:Nat→Act→World→Prop) (i:Nat) (K:Act→World→Prop) (a:Act) (w:World):Prop:=
 match ops[i]? with
 |none=>False
 |some o=>if Region.wanted o (yielded ops a.tmps) then
   (∀w₁,R w w₁→uponK o a (fun a' w'=>D w₁ w' (listed P fn a o w₁)∧K a' w') ((execOp a.eval o).run P w₁))∨
   (∃ f args ats fn' c, o.op = .call { callee := .value (.func f), args, argTypes := ats } ∧ P.funcs[f]? = some fn' ∧ (fn'.name == "runtime.NumGoroutine") = false ∧ fn'.body = some c ∧
    Yl P main R D f (args.map a.eval) w (fun v w'=>K (a.put o.dst v) w') Die)∨
   (Z9 md ops i∧Tail i a w)
  else K (a.put o.dst undef) w
def AnyD (fn:FuncId) (md:Region.Mode) (ops:Array Oper) (Q:Act→World→Prop) (Die:List PanicEntry→World→Prop) (Tail:Nat→Act→World→Prop) (S:World→Prop):Nat→Array Bool→Act→World→Prop
 |0,listed,a,w=>Region.ready md ops listed=[]∧Q a w
 |fuel+1,listed,a,w=>(Region.ready md ops listed=[]→Q a w)∧
  ∀i∈Region.ready md ops listed,OpD P main R D fn md ops Die Tail i (fun a' w'=>(S w'∨Z9 md ops i)∧AnyD fn md ops Q Die Tail S fuel (listed.setIfInBounds i true) a' w') a w
end
section
variable {P:Program} {main:Bool} {R:World→World→Prop} {D:World→World→Array Event→Prop} {fn:FuncId} {md:Region.Mode} {ops:Array Oper} {Q:Act→World→Prop} {Die:List PanicEntry→World→Prop} {Tail:Nat→Act→World→Prop} {S:World→Prop}
theorem Yl.rely (T:Terms R D) {f:FuncId} {args:Array Value} {w w₁:World} {Post:Value→World→Prop} (h:Yl P main R D f args w Post Die) (r:R w w₁):Yl P main R D f args w₁ Post Die:=fun c cs Stop h1 h2=>(h c cs Stop h1 h2).rely T.trans r
theorem Yl.mono {f:FuncId} {args:Array Value} {w:World} {Post Post':Value→World→Prop} {Die':List PanicEntry→World→Prop} (h:Yl P main R D f args w Post Die) (hp:∀v w',Post v w'→Post' v w') (hd:∀c w',Die c w'→Die' c w'):Yl P main R D f args w Post' Die':=
 fun c cs Stop h1 h2=>h c cs Stop (fun v w' x=>h1 v w' (hp v w' x)) fun ch w' x=>h2 ch w' (hd ch w' x)
theorem Y9W {i:Nat} {a:Act} {w:World} {K K':Act→World→Prop} (h:∀a w,K a w→K' a w) (hh:OpD P main R D fn md ops Die Tail i K a w):OpD P main R D fn md ops Die Tail i K' a w:=by
 unfold OpD at *;cases ho:ops[i]? with
 |none=>rw [ho] at hh;exact hh
 |some o=>
  rw [ho] at hh;by_cases hw:Region.wanted o (yielded ops a.tmps)=true
  ·simp only [hw,if_true] at hh ⊢;rcases hh with hh|⟨f,args,ats,fn',c,h1,h2,h3,h4,h5⟩|hh
   ·exact .inl fun w₁ r=>uponK_mono (fun a' w' x=>⟨x.1,h _ _ x.2⟩) (hh w₁ r)
   ·exact .inr (.inl ⟨f,args,ats,fn',c,h1,h2,h3,h4,h5.mono (fun v w' x=>h _ _ x) fun _ _ x=>x⟩)
   ·exact .inr (.inr hh)
  ·simp only [hw] at hh ⊢;exact h _ _ hh
theorem Y5k (T:Terms R D) (hTR:∀i a x y,Tail i a x→R x y→Tail i a y) {i:Nat} {a:Act} {w w₁:World} {K:Act→World→Prop} (hK:∀a x y,K a x→R x y→K a y) (hh:OpD P main R D fn md ops Die Tail i K a w) (r:R w w₁):OpD P main R D fn md ops Die Tail i K a w₁:=by
 unfold OpD at *;cases ho:ops[i]? with
 |none=>rw [ho] at hh;exact hh
 |some o=>
  rw [ho] at hh;by_cases hw:Region.wanted o (yielded ops a.tmps)=true
  ·simp only [hw,if_true] at hh ⊢;rcases hh with hh|⟨f,args,ats,fn',c,h1,h2,h3,h4,h5⟩|hh
   ·exact .inl fun w₂ r'=>hh w₂ (T.trans _ _ _ r r')
   ·exact .inr (.inl ⟨f,args,ats,fn',c,h1,h2,h3,h4,h5.rely T r⟩)
   ·exact .inr (.inr ⟨hh.1,hTR _ _ _ _ hh.2 r⟩)
  ·simp only [hw] at hh ⊢;exact hK _ _ _ hh r
theorem AnyD.rely (T:Terms R D) (hTR:∀i a x y,Tail i a x→R x y→Tail i a y) (hSR:∀x y,S x→R x y→S y) (hQR:∀a x y,Q a x→R x y→Q a y):∀(fuel:Nat) (listed:Array Bool) (a:Act) (w w₁:World),AnyD P main R D fn md ops Q Die Tail S fuel listed a w→R w w₁→AnyD P main R D fn md ops Q Die Tail S fuel listed a w₁
 |0,_,_,_,_,h,r=>⟨h.1,hQR _ _ _ h.2 r⟩
 |fuel+1,_,_,_,_,h,r=>⟨fun e=>hQR _ _ _ (h.1 e) r,fun i hi=>Y5k T hTR (fun a x y hx r'=>⟨hx.1.imp (fun h=>hSR _ _ h r') id,AnyD.rely T hTR hSR hQR fuel _ a x y hx.2 r'⟩) (h.2 i hi) r⟩
theorem Y6s {listed:Array Bool} (h:Y05 md ops listed=true):Down md ops listed:=fun k o ho hk e he hb=>by
 unfold Y05 at h;rw [List.all_eq_true] at h;have hlt:=(Array.getElem?_eq_some_iff.1 ho).1;have h1:=h k (List.mem_range.2 hlt);have eo:ops.getD k default=o:=by simp [Array.getD,hlt,(Array.getElem?_eq_some_iff.1 ho).2]
 rw [eo,hk,Bool.not_true,Bool.false_or,Array.all_eq_true_iff_forall_mem] at h1;have:=h1 e he;rw [hb,Bool.not_true,Bool.false_or] at this;exact this
theorem Y3w {listed:Array Bool} {j k:Nat} (h:listed.getD k false=true):(listed.setIfInBounds j true).getD k false=true:=by
 by_cases hjk:j=k
 ·subst hjk;rcases Nat.lt_or_ge j listed.size with h'|h'
  ·simp [h']
  ·simp [Array.getElem?_eq_none h'] at h
 ·rw [getD_set_ne false hjk];exact h
theorem Down.set {listed:Array Bool} {j:Nat} (h:Down md ops listed) (hj:j∈Region.ready md ops listed):Down md ops (listed.setIfInBounds j true):=fun k o ho hk e he hb=>by
 by_cases hkj:k=j
 ·subst hkj;obtain ⟨_,o',ho',hall⟩:=mem_ready.1 hj;rw [ho] at ho';cases ho';exact Y3w (hall e he hb)
 ·rw [getD_set_ne false (Ne.symm hkj)] at hk;exact Y3w (h k o ho hk e he hb)
theorem Y8P (n:Nat):Down md ops (Array.replicate n false):=fun k o _ hk=>by
 rcases Nat.lt_or_ge k n with h'|h'
 ·simp [h'] at hk
 ·simp [h'] at hk
theorem put_defers (a:Act) (d:Option Tmp) (v:Value):(a.put d v).defers=a.defers:=by cases d<;>rfl
theorem Y5J {listed:Array Bool} (h:Region.ready md ops listed=[]):∀(fuel t:Nat),Region.linearise.go md ops fuel t listed []=[]
 |0,t=>by simp [Region.linearise.go]
 |fuel+1,t=>by
  simp only [Region.linearise.go];change (match (Region.ready md ops listed)[t % (Region.ready md ops listed).length]? with
   |some i=>Region.linearise.go md ops fuel (t / (Region.ready md ops listed).length) (listed.setIfInBounds i true) [i]
   |none=>[].reverse)=[]
  rw [h];rfl
theorem Y7W (T:Terms R D) {b:Frame} {k:List Item} {cs:List Frame} {Stop:Goroutine→World→Prop} (hb:b.fn=fn) (hk:b.kind≠.early) (ds:List Deferred)
  (hQ:∀a w,a.defers=ds→Q a w→Y1 P main R D Stop (G (b.at a k) cs) w) (hD:∀ch w fr,Die ch w→fr.fn=b.fn→fr.kind=b.kind→fr.defers=ds→fr.mode=.panicking ch→Y1 P main R D Stop (G fr cs) w)
  (hTl:∀i a w,a.defers=ds→Tail i a w→Y1 P main R D Stop (G (b.at a (.inRegion ops [i]::k)) cs) w):
  ∀(fuel t:Nat) (listed:Array Bool) (a:Act) (w:World),Down md ops listed→a.defers=ds→AnyD P main R D fn md ops Q Die Tail S fuel listed a w→Y1 P main R D Stop (G (b.at a (.inRegion ops (Region.linearise.go md ops fuel t listed [])::k)) cs) w:=by
 intro fuel;induction fuel with
 |zero=>intro t listed a w _ hd h;simpa [Region.linearise.go] using Y1.regionEnd T (hQ a w hd h.2)
 |succ fuel ih=>
  intro t listed a w hdn hd ⟨h₀,h₁⟩;simp only [Region.linearise.go];change Y1 P main R D Stop (G (b.at a (.inRegion ops (match (Region.ready md ops listed)[t % (Region.ready md ops listed).length]? with
   |some i=>Region.linearise.go md ops fuel (t / (Region.ready md ops listed).length) (listed.setIfInBounds i true) [i]
   |none=>[].reverse)::k)) cs) w
  cases hi:(Region.ready md ops listed)[t % (Region.ready md ops listed).length]? with
  |none=>
   have hnil:Region.ready md ops listed=[]:=by
    cases hr:Region.ready md ops listed with
    |nil=>rfl
    |cons x xs=>
     rw [hr] at hi;have hlt:t % (x::xs).length<(x::xs).length:=Nat.mod_lt _ (by simp);rw [List.getElem?_eq_none_iff] at hi;omega
   exact Y1.regionEnd T (hQ a w hd (h₀ hnil))
  |some i=>
   simp only [];rw [linearise_go_acc,List.reverse_singleton,List.singleton_append];have hop:=h₁ i (List.mem_of_getElem? hi);unfold OpD at hop;cases ho:ops[i]? with
   |none=>rw [ho] at hop;exact hop.elim
   |some o=>
    rw [ho] at hop;by_cases hw:Region.wanted o (yielded ops a.tmps)=true
    ·simp only [hw,if_true] at hop;rcases hop with hop|⟨f,args,ats,fn',c,h1,h2,h3,h4,h5⟩|⟨hlast,htl⟩
     ·refine Y1.op ho hw hk fun w₁ r K hK=>uponK_mono hK ?_;have hx:=hop w₁ r;revert hx;cases (execOp a.eval o).run P w₁ with
      |ok n w'=>cases n<;>first|exact id|exact fun x=>⟨hb▸x.1,ih _ _ _ w' (hdn.set (List.mem_of_getElem? hi)) ((put_defers _ _ _).trans hd) x.2.2⟩
      |halt _ _=>exact id
     ·refine Y1.enter T ho hw hk h1 h2 h3 h4 ?_;rw [←enter_at _ h2 h4];refine h5 _ cs Stop (fun v w' x=>?_) fun ch w' x=>?_
      ·rw [Frame.finish_at,ho];exact ih _ _ _ w' (hdn.set (List.mem_of_getElem? hi)) ((put_defers _ _ _).trans hd) x.2
      ·exact hD ch w' _ x (by simp [Frame.raise,Frame.at]) (by simp [Frame.raise,Frame.at]) (by simp [Frame.raise,Frame.at,hd]) (by simp [Frame.raise,Frame.at])
     ·have hmem:=List.mem_of_getElem? hi;have hnil:Region.ready md ops (listed.setIfInBounds i true)=[]:=by
       apply List.eq_nil_iff_forall_not_mem.2;intro k hk';obtain ⟨h1,ok,hok,_⟩:=mem_ready.1 hk';by_cases hki:k=i
       ·subst hki;rcases Nat.lt_or_ge k listed.size with h'|h'
        ·simp [h'] at h1
        ·simp [h'] at h1
       ·rw [getD_set_ne true (Ne.symm hki)] at h1;have:=hlast listed k hdn hmem hki (Array.getElem?_eq_some_iff.1 hok).1;rw [h1] at this;cases this
      rw [Y5J hnil];exact hTl i a w hd htl
    ·simp only [hw] at hop;exact Y1.unwanted T ho (by simpa using hw) (ih _ _ _ w (hdn.set (List.mem_of_getElem? hi)) ((put_defers _ _ _).trans hd) hop.2)
theorem Y4k (hSR:∀x y,S x→R x y→S y) {i:Nat} {o:Oper} {v:Value} {a:Act} (hi:ops[i]?=some o) (hy:YieldsIfC P D fn ops S o v a) {K:Act→World→Prop} (hK:∀a x y,K a x→R x y→K a y) {w:World} (hS:S w) (h:K (a.put o.dst v) w):
  OpD P main R D fn md ops Die Tail i K a w:=by
 unfold OpD;simp only [hi];rcases hy with ⟨hw,hv⟩|⟨hw,rfl⟩
 ·simp only [hw,if_true];exact .inl fun w₁ h₁=>by
   rw [(hv w₁ (hSR _ _ hS h₁)).1];exact ⟨(hv w₁ (hSR _ _ hS h₁)).2,hK _ _ _ h h₁⟩
 ·simp only [hw,Bool.false_eq_true,if_false];exact h
theorem Y7v {j:Nat} {oi oj:Oper} {v:Value} (hnl:¬Z9 md ops j) (hj:ops[j]?=some oj) (hap:oi.apart ops oj=true) (hsi:∀cs b,oi.op≠.select cs b) (hsj:∀cs b,oj.op≠.select cs b) {K:Act→World→Prop} {a:Act} {w:World}
  (hy:YieldsIfC P D fn ops S oi v a) (h:OpD P main R D fn md ops Die Tail j K (a.put oi.dst v) w):OpD P main R D fn md ops Die Tail j (fun a' w'=>YieldsIfC P D fn ops S oi v a'∧K (a'.put oi.dst v) w') a w:=by
 obtain ⟨h1,h2,h3⟩:=Oper.apart_spec hap;have keep:∀u,YieldsIfC P D fn ops S oi v (a.put oj.dst u):=fun u=>hy.of_same (execOp_put oi hsi a oj.dst u h3) (wanted_put oi a oj.dst u h3);unfold OpD at *;simp only [hj] at *;rw [wanted_put oj a oi.dst v h1] at h;by_cases hw:Region.wanted oj (yielded ops a.tmps)=true
 ·simp only [hw,if_true] at h ⊢;rcases h with h|⟨f,args,ats,fn',c,e1,e2,e3,e4,h5⟩|h
  ·refine .inl fun w₁ r=>?_;have hx:=h w₁ r;unfold listed at *;rw [execOp_put oj hsj a oi.dst v h1] at hx;generalize (execOp a.eval oj).run P w₁=q at *;cases q with
   |ok n w'=>
    cases n<;>simp only [uponK] at hx ⊢
    case value u=>exact ⟨hx.1,keep u,by rw [←Act.put_comm a v u h2];exact hx.2⟩
    case skip=>exact ⟨hx.1,keep _,by rw [←Act.put_comm a v undef h2];exact hx.2⟩
   |halt x w'=>simp only [uponK] at hx
  ·have ea:args.map (a.put oi.dst v).eval=args.map a.eval:=by
    apply Array.map_congr_left;intro x hx;refine Act.eval_put fun d hd hxd=>h1 d hd ?_;subst hxd;refine List.mem_append_left _ (List.mem_filterMap.2 ⟨.tmp d,?_,rfl⟩);rw [e1];simpa [Op.operands,Call.operands] using hx
   rw [ea] at h5;exact .inr (.inl ⟨f,args,ats,fn',c,e1,e2,e3,e4,h5.mono (fun u w' x=>⟨keep u,by rw [←Act.put_comm a v u h2];exact x⟩) fun _ _ x=>x⟩)
  ·exact absurd h.1 hnl
 ·simp only [hw] at h ⊢;exact ⟨keep _,by rw [←Act.put_comm a v undef h2];exact h⟩
theorem Y9U (T:Terms R D) (hTR:∀i a x y,Tail i a x→R x y→Tail i a y) (hSR:∀x y,S x→R x y→S y) (hQR:∀a x y,Q a x→R x y→Q a y) {i:Nat} {oi:Oper} {v:Value} (hi:ops[i]?=some oi) (hsel:∀(j:Nat) (o:Oper) cs b,ops[j]?=some o→o.op≠.select cs b):
  ∀(fuel:Nat) (listed:Array Bool) (a:Act) (w:World),
   (∀j oj,ops[j]?=some oj→j≠i→listed.getD j true=false→(∀e∈oj.after,Region.binds md e=true→e.on≠i)→oi.apart ops oj=true)→
   Down md ops listed→i∈Region.ready md ops listed→YieldsIfC P D fn ops S oi v a→S w→AnyD P main R D fn md ops Q Die Tail S fuel (listed.setIfInBounds i true) (a.put oi.dst v) w→AnyD P main R D fn md ops Q Die Tail S (fuel+1) listed a w:=by
 have hK:∀j fuel listed,∀a x y,((S x∨Z9 md ops j)∧AnyD P main R D fn md ops Q Die Tail S fuel listed a x)→R x y→((S y∨Z9 md ops j)∧AnyD P main R D fn md ops Q Die Tail S fuel listed a y):=fun j fuel listed a x y h r=>⟨h.1.imp (fun h=>hSR _ _ h r) id,AnyD.rely T hTR hSR hQR fuel listed a x y h.2 r⟩;intro fuel;induction fuel with
 |zero=>
  intro listed a w _ _ hr hy hS H;refine ⟨fun h=>(by rw [h] at hr;cases hr),fun j hj=>?_⟩;by_cases hji:j=i
  ·subst hji;exact Y4k hSR hi hy (hK _ _ _) hS ⟨.inl hS,H⟩
  ·have:=ready_mono hj hji;rw [H.1] at this;cases this
 |succ fuel ih=>
  intro listed a w hfree hdn hr hy hS H;refine ⟨fun h=>(by rw [h] at hr;cases hr),fun j hj=>?_⟩;by_cases hji:j=i
  ·subst hji;exact Y4k hSR hi hy (hK _ _ _) hS ⟨.inl hS,H⟩
  ·have h1:=H.2 j (ready_mono hj hji);obtain ⟨hjun,oj,hoj,hall⟩:=mem_ready.1 hj;have hnot:∀e∈oj.after,Region.binds md e=true→e.on≠i:=fun e he hb heq=>by
    have h1:=hall e he hb;have h0:=(mem_ready.1 hr).1;rw [heq] at h1;rcases Nat.lt_or_ge i listed.size with h'|h'
    ·simp [h'] at h0 h1;rw [h0] at h1;cases h1
    ·simp [Array.getElem?_eq_none h'] at h1
   have hnl:¬Z9 md ops j:=fun hl=>by
    have h0:=(mem_ready.1 hr).1;have h1:=hl listed i hdn hj (Ne.symm hji) (Array.getElem?_eq_some_iff.1 hi).1;rw [h0] at h1;cases h1
   have hSj:∀x,S x∨Z9 md ops j→S x:=fun x hx=>hx.elim id fun hl=>absurd hl hnl;have h2:=Y7v hnl hoj (hfree j oj hoj hji hjun hnot) (fun cs b=>hsel i oi cs b hi) (fun cs b=>hsel j oj cs b hoj) hy h1;refine Y9W (fun a' w' h3=>⟨h3.2.1,ih (listed.setIfInBounds j true) a' w' (fun k ok hk hki hun hno=>hfree k ok hk hki ?_ hno) (hdn.set hj) (ready_mono hr (Ne.symm hji)) h3.1 (hSj _ h3.2.1) ?_⟩) h2
   ·by_cases hjk:j=k
    ·subst hjk;exact hjun
    ·rw [getD_set_ne true hjk] at hun;exact hun
   ·rw [Array.setIfInBounds_comm _ _ hji];exact h3.2.2
theorem Yq (T:Terms R D) (hTR:∀i a x y,Tail i a x→R x y→Tail i a y) (hSR:∀x y,S x→R x y→S y) (hQR:∀a x y,Q a x→R x y→Q a y) {i:Nat} {oi:Oper} {v:Value} {fuel:Nat} {listed:Array Bool} {a:Act} {w:World} (hi:ops[i]?=some oi)
  (hs:Region.noSelect ops=true) (hdn:Y05 md ops listed=true) (hf:Region.free md ops listed i=true) (hr:(Region.ready md ops listed).contains i=true)
  (hy:YieldsIfC P D fn ops S oi v a) (hS:S w) (h:AnyD P main R D fn md ops Q Die Tail S fuel (listed.setIfInBounds i true) (a.put oi.dst v) w):AnyD P main R D fn md ops Q Die Tail S (fuel+1) listed a w:=
 Y9U T hTR hSR hQR hi (Region.noSelect_spec hs) fuel listed a w (Region.free_spec hi hf) (Y6s hdn) (by simpa using hr) hy hS h
theorem XZ {i:Nat} {o:Oper} {fuel:Nat} {listed:Array Bool} {a:Act} {w:World} (hr:Region.ready md ops listed=[i]) (ho:ops[i]?=some o) (hw:Region.wanted o (yielded ops a.tmps)=true)
  (h:∀w₁,R w w₁→∀K:Act→World→Prop,(∀a' w',D w₁ w' (Go.Conc.listed P fn a o w₁)∧(S w'∨Z9 md ops i)∧AnyD P main R D fn md ops Q Die Tail S fuel (listed.setIfInBounds i true) a' w'→K a' w')→uponK o a K ((execOp a.eval o).run P w₁)):AnyD P main R D fn md ops Q Die Tail S (fuel+1) listed a w:=by
 refine ⟨fun h0=>absurd (hr.symm.trans h0) (by simp),fun j hj=>?_⟩;rw [hr] at hj;obtain rfl:j=i:=by simpa using hj
 unfold OpD;simp only [ho,hw,if_true];exact .inl fun w₁ r=>h w₁ r _ fun _ _ x=>x
def Jw (md:Region.Mode) (ops:Array Oper) (k:Nat):List Nat:=((ops.getD k default).after.toList.filter (Region.binds md)).map (·.on)
def waits (md:Region.Mode) (ops:Array Oper) (j:Nat):List Nat:=(List.range ops.size).reverse.foldl (fun m k=>if m.contains k then m++Jw md ops k else m) (Jw md ops j)
theorem Y3o {k x:Nat} {o:Oper} (ho:ops[k]?=some o) (hx:x∈Jw md ops k):∃e∈o.after,Region.binds md e=true∧e.on=x:=by
 unfold Jw at hx;have hlt:=(Array.getElem?_eq_some_iff.1 ho).1;have eo:ops.getD k default=o:=by simp [Array.getD,hlt,(Array.getElem?_eq_some_iff.1 ho).2]
 rw [eo] at hx;obtain ⟨e,he,rfl⟩:=List.mem_map.1 hx;obtain ⟨h1,h2⟩:=List.mem_filter.1 he;exact ⟨e,by simpa using h1,h2,rfl⟩
theorem Z8 {j:Nat} {o:Oper} (ho:ops[j]?=some o) (h:(List.range ops.size).all (fun k=>k==j || (waits md ops j).contains k)=true):Z9 md ops j:=fun listed k hdn hj hk hlt=>by
 obtain ⟨_,o',ho',hall⟩:=mem_ready.1 hj;rw [ho] at ho';cases ho';have key:∀(l:List Nat) (m:List Nat),(∀x∈l,x<ops.size)→(∀x∈m,listed.getD x false=true)→∀x∈l.foldl (fun m k=>if m.contains k then m++Jw md ops k else m) m,listed.getD x false=true:=by
  intro l;induction l with
  |nil=>exact fun m _ hm=>hm
  |cons q l ih=>
   intro m hl hm;refine ih _ (fun x hx=>hl x (List.mem_cons_of_mem _ hx)) ?_;show ∀x∈(if m.contains q then m++Jw md ops q else m),listed.getD x false=true;by_cases hq:m.contains q=true
   ·rw [if_pos hq];intro x hx;rcases List.mem_append.1 hx with hx|hx
    ·exact hm x hx
    ·have hlq:=hl q List.mem_cons_self;obtain ⟨e,he,hb,rfl⟩:=Y3o (Array.getElem?_eq_getElem hlq) hx;exact hdn q _ (Array.getElem?_eq_getElem hlq) (hm q (by simpa using hq)) e he hb
   ·rw [if_neg hq];exact hm
 rw [List.all_eq_true] at h;have h1:=h k (List.mem_range.2 hlt);have h2:k∈waits md ops j:=by
  have hkj:(k==j)=false:=by simpa using hk
  rw [hkj,Bool.false_or] at h1;simpa using h1
 have h3:=key _ _ (fun x hx=>by simpa using hx) (fun x hx=>by
  obtain ⟨e,he,hb,rfl⟩:=Y3o ho hx;exact hall e he hb) k h2
 rcases Nat.lt_or_ge k listed.size with h'|h'
 ·simp [h'] at h3 ⊢;exact h3
 ·simp [h']
theorem JS {i:Nat} {o:Oper} {fuel:Nat} {listed:Array Bool} {a:Act} {w:World} (hr:Region.ready md ops listed=[i]) (ho:ops[i]?=some o) (hw:Region.wanted o (yielded ops a.tmps)=true)
  {f : FuncId} {args : Array Operand} {ats : Array TypeId} {fn' : Func} {c : Code} (hop : o.op = .call { callee := .value (.func f), args, argTypes := ats }) (hf : P.funcs[f]? = some fn') (hn : (fn'.name == "runtime.NumGoroutine") = false) (hb : fn'.body = some c) {Post : Value → World → Prop} (vs : Array Value) (hv : args.map a.eval = vs)
  (hc:Yl P main R D f vs w Post Die) (h:∀v w',Post v w'→(S w'∨Z9 md ops i)∧AnyD P main R D fn md ops Q Die Tail S fuel (listed.setIfInBounds i true) (a.put o.dst v) w'):AnyD P main R D fn md ops Q Die Tail S (fuel+1) listed a w:=by
 refine ⟨fun h0=>absurd (hr.symm.trans h0) (by simp),fun j hj=>?_⟩;rw [hr] at hj;obtain rfl:j=i:=by simpa using hj
 unfold OpD;simp only [ho,hw,if_true];exact .inr (.inl ⟨f,args,ats,fn',c,hop,hf,hn,hb,by rw [hv];exact hc.mono h fun _ _ x=>x⟩)
theorem Y1P {i:Nat} {o:Oper} {fuel:Nat} {listed:Array Bool} {a:Act} {w:World} (hr:Region.ready md ops listed=[i]) (ho:ops[i]?=some o) (hw:Region.wanted o (yielded ops a.tmps)=true) (hl:Z9 md ops i) (h:Tail i a w):AnyD P main R D fn md ops Q Die Tail S (fuel+1) listed a w:=by
 refine ⟨fun h0=>absurd (hr.symm.trans h0) (by simp),fun j hj=>?_⟩;rw [hr] at hj;obtain rfl:j=i:=by simpa using hj
 unfold OpD;simp only [ho,hw,if_true];exact .inr (.inr ⟨hl,h⟩)
theorem Xi {listed:Array Bool} {a:Act} {w:World} (hr:Region.ready md ops listed=[]) (h:Q a w):∀fuel,AnyD P main R D fn md ops Q Die Tail S fuel listed a w
 |0=>⟨hr,h⟩
 |_+1=>⟨fun _=>h,fun i hi=>by rw [hr] at hi;cases hi⟩
theorem Y1.drawn (T:Terms R D) (hd:LetsDraw D) {b:Frame} {k:List Item} {cs:List Frame} {Stop:Goroutine→World→Prop} {id:Nat} {a:Act} {w:World} (hk:b.kind≠.early) (hm:P.follows .mixedOrders=true)
  (hQ:∀a' w',a'.defers=a.defers→Q a' w'→Y1 P main R D Stop (G (b.at a' k) cs) w') (hD:∀ch w' fr,Die ch w'→fr.fn=b.fn→fr.kind=b.kind→fr.defers=a.defers→fr.mode=.panicking ch→Y1 P main R D Stop (G fr cs) w')
  (hTl:∀i a' w',a'.defers=a.defers→Tail i a' w'→Y1 P main R D Stop (G (b.at a' (.inRegion ops [i]::k)) cs) w')
  (h:∀w₁,R w w₁→AnyD P main R D b.fn .any ops Q Die Tail S ops.size (Array.replicate ops.size false) a {w₁ with drawn:=w₁.drawn+1}):Y1 P main R D Stop (G (b.at a (.code (.region id ops true)::k)) cs) w:=
 .one rfl fun w₁ r=>⟨_,_,_,stepG_region_draw,hd _,by
  simp only [Region.schedule,hm,Bool.true_or,if_true];exact Y7W T rfl hk a.defers hQ hD hTl ops.size _ _ a _ (Y8P _) rfl (h w₁ r)⟩
end
end Go.Proofs.YtdoghgnifkgfdaaGreat.Mute
