import Derived.Conc.CompanyMem
import Derived.Conc.Own3
import Derived.Conc.Own4
import Derived.Conc.Own5
import Derived.Test.YtdoghgnifkgfdaaP06
import Derived.Test.YtdoghgnifkgfdaaP07
set_option maxRecDepth 100000
set_option maxHeartbeats 16000000
namespace Go.Proofs.Ytdoghgnifkgfdaa
open Go.RowKit
section
variable {w:World} {base e size n cap g:Nat} {xs:List Value}
theorem own_cellAt (h:w.ownsRow base e size (.slice (some ⟨g,0,none⟩) n cap) n xs) {j:Nat} {u:Value} (hx:xs[j]?=some u):w.cell? ⟨g,j,none⟩=some u:=by
 have:=h.cells (g:=g) rfl j u hx;rwa [Addr.add_lit,Nat.zero_add] at this
end
end Go.Proofs.Ytdoghgnifkgfdaa
namespace Go.Proofs.Ytdoghgnifkgfdaa.Mute
open Go Go.Conc
structure Lot where
 B:Nat
 c:Nat
 ev:TypeId
 S:Nat→Prop
 M:Nat→Prop
def isEv (t:TypeId):Obj→Bool
 |.cells _ e _=>e==t
 |_=>false
def Lot.send (L:Lot) (b:Nat) (o:Obj):Prop:=b≠L.c∧((b<L.B∧L.S b)∨(L.B≤b∧isEv L.ev o=false))
def Lot.main (L:Lot) (b:Nat) (o:Obj):Prop:=b≠L.c∧((b<L.B∧L.M b)∨(L.B≤b∧isEv L.ev o=true))
structure Turn (L:Lot) (mine:Nat→Obj→Prop) (w w':World):Prop where
 os:w'.os=w.os
 out:w'.output=w.output
 tape:w'.tape=w.tape
 size:w.heap.size≤w'.heap.size
 at_:∀b o,w.heap[b]?=some o→∃o',w'.heap[b]?=some o'∧(b≠L.c→isEv L.ev o'=isEv L.ev o)∧(b≠L.c→¬mine b o→o'=o)
def Tells (L:Lot) (mine:Nat→Obj→Prop):Prop:=∀b o o',(b≠L.c→isEv L.ev o'=isEv L.ev o)→mine b o→mine b o'
theorem Lot.tells_send (L:Lot):Tells L L.send:=fun b o o' e h=>⟨h.1,h.2.imp id fun x=>⟨x.1,by rw [e h.1];exact x.2⟩⟩
theorem Lot.tells_main (L:Lot):Tells L L.main:=fun b o o' e h=>⟨h.1,h.2.imp id fun x=>⟨x.1,by rw [e h.1];exact x.2⟩⟩
section
variable {L:Lot} {mine:Nat→Obj→Prop} {w w' w'':World}
theorem Turn.refl (w:World):Turn L mine w w:=⟨rfl,rfl,rfl,Nat.le_refl _,fun _ o h=>⟨o,h,fun _=>rfl,fun _ _=>rfl⟩⟩
theorem Turn.trans (h:Turn L mine w w') (h':Turn L mine w' w''):Turn L mine w w'':=
 ⟨h'.os.trans h.os,h'.out.trans h.out,h'.tape.trans h.tape,Nat.le_trans h.size h'.size,fun b o ho=>by
  obtain ⟨o1,h1,e1,k1⟩:=h.at_ b o ho;obtain ⟨o2,h2,e2,k2⟩:=h'.at_ b o1 h1;refine ⟨o2,h2,fun hc=>(e2 hc).trans (e1 hc),fun hc hm=>?_⟩;have:o1=o:=k1 hc hm;subst this;exact k2 hc hm⟩
theorem Turn.at (w:World) (d:Nat):Turn L mine w (w.at d):=⟨rfl,rfl,rfl,Nat.le_refl _,fun _ o h=>⟨o,h,fun _=>rfl,fun _ _=>rfl⟩⟩
theorem Turn.draw (w:World) (d:Nat):Turn L mine w {w with drawn:=d}:=⟨rfl,rfl,rfl,Nat.le_refl _,fun _ o h=>⟨o,h,fun _=>rfl,fun _ _=>rfl⟩⟩
theorem Turn.keep (h:Turn L mine w w') {b:Nat} {o:Obj} (ho:w.heap[b]?=some o) (hc:b≠L.c) (hm:¬mine b o):w'.heap[b]?=some o:=by
 obtain ⟨o',h1,_,h2⟩:=h.at_ b o ho;rw [h1,h2 hc hm]
theorem Turn.chan (w:World) (cl:Bool) (s r:Nat) (tm:Bool):Turn L mine w (w.setChan L.c 0 #[] cl s r tm):=by
 refine ⟨rfl,rfl,rfl,by simp [World.setChan],fun b o ho=>?_⟩;by_cases hc:b=L.c
 ·subst hc;have hlt:=(Array.getElem?_eq_some_iff.1 ho).1;exact ⟨.chan 0 #[] cl s r tm,by simp [World.setChan,hlt],fun x=>absurd rfl x,fun x=>absurd rfl x⟩
 ·exact ⟨o,by simpa [World.setChan,Array.getElem?_setIfInBounds_ne (Ne.symm hc)] using ho,fun _=>rfl,fun _ _=>rfl⟩
theorem Turn.set (w:World) (a:Addr) (v:Value) (o:Obj) (ho:w.heap[a.block]?=some o) (hm:mine a.block o):Turn L mine w (w.setCell a v):=by
 refine ⟨rfl,rfl,rfl,by simp [World.setCell],fun b o' ho'=>?_⟩;by_cases hb:b=a.block
 ·subst hb;obtain rfl:o=o':=by rw [ho] at ho';exact Option.some.inj ho'
  refine ⟨_,by simp only [World.setCell,Array.getElem?_modify,if_true,ho',Option.map_some];rfl,fun _=>?_,fun _ x=>absurd hm x⟩;cases o<;>rfl
 ·refine ⟨o',?_,fun _=>rfl,fun _ _=>rfl⟩;simp only [World.setCell,Array.getElem?_modify,if_neg (Ne.symm hb)];exact ho'
theorem Turn.alloc (w:World) (o:Obj):Turn L mine w (w.alloc o):=by
 refine ⟨rfl,rfl,rfl,by show w.heap.size≤(w.heap.push o).size;simp,fun b o' ho'=>?_⟩;have hlt:=(Array.getElem?_eq_some_iff.1 ho').1;exact ⟨o',by show (w.heap.push o)[b]?=some o';simp [Array.getElem?_push,Nat.ne_of_lt hlt,ho'],fun _=>rfl,fun _ _=>rfl⟩
end
def Allowed (L:Lot) (mine other:Nat→Obj→Prop) (w:World) (x:Touch):Prop:=
 match x.loc with
 |.cell a=>∃o,w.heap[a.block]?=some o∧¬other a.block o∧(x.write=true→mine a.block o)
 |.obj r=>r=L.c∧x.write=false
 |_=>x.write=false
theorem Allowed.turn {L:Lot} {mine other who:Nat→Obj→Prop} {w w':World} {x:Touch} (tm:Tells L mine) (to:Tells L other) (h:Turn L who w w') (ha:Allowed L mine other w x):Allowed L mine other w' x:=by
 unfold Allowed at ha ⊢;cases hx:x.loc with
 |cell a=>
  rw [hx] at ha;obtain ⟨o,h1,h2,h3⟩:=ha;obtain ⟨o',k1,k2,_⟩:=h.at_ _ _ h1;exact ⟨o',k1,fun hh=>h2 (to _ _ _ (fun x=>(k2 x).symm) hh),fun hw=>tm _ _ _ k2 (h3 hw)⟩
 |obj r=>rw [hx] at ha;exact ha
 |output=>rw [hx] at ha;exact ha
 |goroutines=>rw [hx] at ha;exact ha
 |mark m=>rw [hx] at ha;exact ha
def EvBy (L:Lot) (mine other:Nat→Obj→Prop) (w:World) (e:Event):Prop:=EvOk e∧∀x,(MemAct.ofEvent e).touch?=some x→x.loc.isMemory=true→Allowed L mine other w x
structure Does (L:Lot) (mine other:Nat→Obj→Prop) (w w':World) (es:Array Event):Prop where
 turn:Turn L mine w w'
 chan:w'.heap[L.c]?=w.heap[L.c]?
 evs:∀e∈es,EvBy L mine other w' e
section
variable {L:Lot} {mine other:Nat→Obj→Prop} {w w':World}
theorem Does.idle (w:World):Does L mine other w w #[]:=⟨.refl w,rfl,by simp⟩
theorem Does.look (w:World) {es:Array Event} (h:∀e∈es,EvBy L mine other w e):Does L mine other w w es:=⟨.refl w,rfl,h⟩
theorem EvBy.read {a:Addr} {o:Obj} (ho:w.heap[a.block]?=some o) (hn:¬other a.block o):EvBy L mine other w ⟨.cell a,false,false⟩:=
 ⟨evOk_cell _ _ _,fun x hx _=>by
  simp only [MemAct.ofEvent,MemAct.touch?,Option.some.injEq] at hx;subst hx;exact ⟨o,ho,hn,fun h=>by cases h⟩⟩
theorem EvBy.write {a:Addr} {o:Obj} (ho:w.heap[a.block]?=some o) (hn:¬other a.block o) (hm:mine a.block o):EvBy L mine other w ⟨.cell a,true,false⟩:=
 ⟨evOk_cell _ _ _,fun x hx _=>by
  simp only [MemAct.ofEvent,MemAct.touch?,Option.some.injEq] at hx;subst hx;exact ⟨o,ho,hn,fun _=>hm⟩⟩
theorem Does.set {a:Addr} {v:Value} {o:Obj} {es:Array Event} (tm:Tells L mine) (to:Tells L other) (ho:w.heap[a.block]?=some o) (hc:a.block≠L.c) (hm:mine a.block o) (hes:∀e∈es,EvBy L mine other w e):Does L mine other w (w.setCell a v) es:=by
 have ht:=Turn.set (L:=L) w a v o ho hm;refine ⟨ht,?_,fun e he=>⟨(hes e he).1,fun x hx hmem=>((hes e he).2 x hx hmem).turn tm to ht⟩⟩;simp only [World.setCell,Array.getElem?_modify,if_neg hc]
theorem Does.alloc {o:Obj} {es:Array Event} (tm:Tells L mine) (to:Tells L other) (hc:L.c<w.heap.size) (hes:∀e∈es,EvBy L mine other w e):Does L mine other w (w.alloc o) es:=by
 have ht:=Turn.alloc (L:=L) (mine:=mine) w o;refine ⟨ht,?_,fun e he=>⟨(hes e he).1,fun x hx hmem=>((hes e he).2 x hx hmem).turn tm to ht⟩⟩;show (w.heap.push o)[L.c]?=_;simp [Array.getElem?_push,Nat.ne_of_lt hc]
end
abbrev Lot.R0 (L:Lot):=Turn L L.send
abbrev Lot.R1 (L:Lot):=Turn L L.main
abbrev Lot.D0 (L:Lot):=Does L L.main L.send
abbrev Lot.D1 (L:Lot):=Does L L.send L.main
abbrev Lot.SL (L:Lot):=Allowed L L.send L.main
abbrev Lot.ML (L:Lot):=Allowed L L.main L.send
theorem Lot.terms0 (L:Lot):Terms L.R0 L.D0:=⟨fun _ _ _=>Turn.trans,fun w=>.idle w⟩
theorem Lot.terms1 (L:Lot):Terms L.R1 L.D1:=⟨fun _ _ _=>Turn.trans,fun w=>.idle w⟩
theorem Lot.draws0 (L:Lot):LetsDraw L.D0:=fun w=>⟨.draw w _,rfl,by simp⟩
theorem Lot.draws1 (L:Lot):LetsDraw L.D1:=fun w=>⟨.draw w _,rfl,by simp⟩
theorem Lot.rules (L:Lot) (FS:World→Prop) (hf:∀w w',L.R1 w w'→FS w→FS w'):Rules L.c L.R0 L.R1 L.D0 L.D1 L.SL L.ML FS where
 t0:=L.terms0.trans
 t1:=L.terms1.trans
 at0:=fun w d=>.at w d
 at1:=fun w d=>.at w d
 ch0:=fun w cl s r tm=>.chan w cl s r tm
 ch1:=fun w cl s r tm=>.chan w cl s r tm
 d01:=fun _ _ _ h=>h.turn
 d10:=fun _ _ _ h=>h.turn
 c0:=fun _ _ _ h=>h.chan
 c1:=fun _ _ _ h=>h.chan
 e0:=fun _ _ _ h=>h.evs
 e1:=fun _ _ _ h=>h.evs
 s0:=fun _ _ _ r a=>a.turn L.tells_send L.tells_main r
 s1:=fun _ _ _ r a=>a.turn L.tells_send L.tells_main r
 m0:=fun _ _ _ r a=>a.turn L.tells_main L.tells_send r
 m1:=fun _ _ _ r a=>a.turn L.tells_main L.tells_send r
 ap:=fun w a b ha hb e=>by
  unfold Lot.SL Allowed at ha;unfold Lot.ML Allowed at hb;cases hx:a.loc with
  |cell x=>
   rw [hx] at ha e;rw [←e] at hb;obtain ⟨o,h1,h2,h3⟩:=ha;obtain ⟨o',k1,k2,k3⟩:=hb;obtain rfl:o=o':=by rw [h1] at k1;exact Option.some.inj k1
   exact ⟨by cases hw:a.write<;>simp_all,by cases hw:b.write<;>simp_all⟩
  |obj r=>
   rw [hx] at ha e;rw [←e] at hb;exact ⟨ha.2,hb.2⟩
  |output=>rw [hx] at ha e;rw [←e] at hb;exact ⟨ha,hb⟩
  |goroutines=>rw [hx] at ha e;rw [←e] at hb;exact ⟨ha,hb⟩
  |mark m=>rw [hx] at ha e;rw [←e] at hb;exact ⟨ha,hb⟩
 sc:=fun w=>⟨rfl,rfl⟩
 f1:=hf
section
variable {P:Program} {main:Bool} {R:World→World→Prop} {D:World→World→Array Event→Prop} {Stop:Goroutine→World→Prop}
variable {b:Frame} {a:Act} {k:List Item} {cs:List Frame} {w:World}
theorem GoesW.ctl (T:Terms R D) {g g':Goroutine} (hs:g.status=.running) (h:∀w,stepG P main g w=.go g' w) (hg:GoesW P main R D Stop g' w):GoesW P main R D Stop g w:=
 .one hs fun w₁ hr=>⟨g',w₁,#[],h w₁,T.idle _,hg.rely T.trans hr⟩
theorem GoesW.skip (T:Terms R D) (h:GoesW P main R D Stop (G (b.at a k) cs) w):GoesW P main R D Stop (G (b.at a (.code .skip::k)) cs) w:=.ctl T rfl (fun _=>stepG_skip) h
theorem GoesW.inBlock (T:Terms R D) {id:Nat} (h:GoesW P main R D Stop (G (b.at a k) cs) w):GoesW P main R D Stop (G (b.at a (.inBlock id::k)) cs) w:=.ctl T rfl (fun _=>stepG_inBlock) h
theorem GoesW.seq (T:Terms R D) {x y:Code} (h:GoesW P main R D Stop (G (b.at a (.code x::.code y::k)) cs) w):GoesW P main R D Stop (G (b.at a (.code (.seq x y)::k)) cs) w:=.ctl T rfl (fun _=>stepG_seq) h
theorem GoesW.cond (T:Terms R D) {c:Operand} {x y:Code} {t:Bool} (e:a.eval c=.bool t) (h:GoesW P main R D Stop (G (b.at a (.code (if t then x else y)::k)) cs) w):GoesW P main R D Stop (G (b.at a (.code (.cond c x y)::k)) cs) w:=.ctl T rfl (fun _=>stepG_cond e) h
theorem GoesW.block (T:Terms R D) {id:Nat} {c:Code} (h:GoesW P main R D Stop (G (b.at a (.code c::.inBlock id::k)) cs) w):GoesW P main R D Stop (G (b.at a (.code (.block id c)::k)) cs) w:=.ctl T rfl (fun _=>stepG_block) h
theorem GoesW.loop (T:Terms R D) {c:Code} (h:GoesW P main R D Stop (G (b.at a (.code c::.inLoop c::k)) cs) w):GoesW P main R D Stop (G (b.at a (.code (.loop c)::k)) cs) w:=.ctl T rfl (fun _=>stepG_loop) h
theorem GoesW.inLoop (T:Terms R D) {c:Code} (h:GoesW P main R D Stop (G (b.at a (.code c::.inLoop c::k)) cs) w):GoesW P main R D Stop (G (b.at a (.inLoop c::k)) cs) w:=.ctl T rfl (fun _=>stepG_inLoop) h
theorem GoesW.exit (T:Terms R D) {id:Nat} {k':List Item} (e:exitTo id k=some k') (h:GoesW P main R D Stop (G (b.at a k') cs) w):GoesW P main R D Stop (G (b.at a (.code (.exit id)::k)) cs) w:=.ctl T rfl (fun _=>stepG_exit e) h
theorem GoesW.region (T:Terms R D) {id:Nat} {ops:Array Oper} (h:GoesW P main R D Stop (G (b.at a (.inRegion ops (List.range ops.size)::k)) cs) w):GoesW P main R D Stop (G (b.at a (.code (.region id ops false)::k)) cs) w:=.ctl T rfl (fun _=>stepG_region) h
theorem GoesW.regionEnd (T:Terms R D) {ops:Array Oper} (h:GoesW P main R D Stop (G (b.at a k) cs) w):GoesW P main R D Stop (G (b.at a (.inRegion ops []::k)) cs) w:=.ctl T rfl (fun _=>stepG_region_end) h
theorem GoesW.ret (T:Terms R D) (h:∀todo,GoesW P main R D Stop (G {b.at a todo with mode:=.returning} cs) w):GoesW P main R D Stop (G (b.at a (.code .ret::k)) cs) w:=.ctl T rfl (fun _=>stepG_ret') (h _)
theorem GoesW.fin (T:Terms R D) (h:GoesW P main R D Stop (G {b.at a [] with mode:=.returning} cs) w):GoesW P main R D Stop (G (b.at a []) cs) w:=.ctl T rfl (fun _=>stepG_end) h
theorem GoesW.unwanted (T:Terms R D) {ops:Array Oper} {i:Nat} {rest:List Nat} {o:Oper} (ho:ops[i]?=some o) (hw:Region.wanted o (yielded ops a.tmps)=false)
  (h:GoesW P main R D Stop (G (b.at (a.put o.dst undef) (.inRegion ops rest::k)) cs) w):GoesW P main R D Stop (G (b.at a (.inRegion ops (i::rest)::k)) cs) w:=.ctl T rfl (fun _=>stepG_unwanted ho hw) h
theorem GoesW.op {ops:Array Oper} {i:Nat} {rest:List Nat} {o:Oper} (ho:ops[i]?=some o) (hw:Region.wanted o (yielded ops a.tmps)=true) (hk:b.kind≠.early)
  (h:∀w₁,R w w₁→∀K:Act→World→Prop,(∀a' w',D w₁ w' (listed P b.fn a o w₁)∧GoesW P main R D Stop (G (b.at a' (.inRegion ops rest::k)) cs) w'→K a' w')→uponK o a K ((execOp a.eval o).run P w₁)):
  GoesW P main R D Stop (G (b.at a (.inRegion ops (i::rest)::k)) cs) w:=by
 refine .one rfl fun w₁ hr=>?_;have:=h w₁ hr _ fun _ _ x=>x;generalize hx:(execOp a.eval o).run P w₁=r at this
 match r,this with
 |.ok (.value v) w',h=>exact ⟨_,_,_,stepG_value ho hw hk hx,h.1,h.2⟩
 |.ok .skip w',h=>exact ⟨_,_,_,stepG_none ho hw hk hx,h.1,h.2⟩
theorem GoesW.enter (T:Terms R D) {ops:Array Oper} {i:Nat} {rest:List Nat} {o:Oper} {f:FuncId} {fn:Func} {c:Code} {args:Array Operand} {ats:Array TypeId}
  (ho:ops[i]?=some o) (hw:Region.wanted o (yielded ops a.tmps)=true) (hk:b.kind≠.early) (hop:o.op=.call {callee:=.value (.func f),args,argTypes:=ats})
  (hf : P.funcs[f]? = some fn) (hname : (fn.name == "runtime.NumGoroutine") = false) (hb : fn.body = some c)
  (h:GoesW P main R D Stop (G ((base f).at {tmps:=args.map a.eval++Array.replicate (fn.ntmps-(args.map a.eval).size) undef,defers:=[]} [.code c]) (b.at a (.inRegion ops (i::rest)::k)::cs)) w):
  GoesW P main R D Stop (G (b.at a (.inRegion ops (i::rest)::k)) cs) w:=
 .one rfl fun w₁ hr=>by
  have:=goes_call (P:=P) (main:=main) (b:=b) (a:=a) (k:=k) (cs:=cs) (w:=w₁) (K:=fun g' w' es=>g'=G ((base f).at {tmps:=args.map a.eval++Array.replicate (fn.ntmps-(args.map a.eval).size) undef,defers:=[]} [.code c]) (b.at a (.inRegion ops (i::rest)::k)::cs)∧w'=w₁∧es=#[]) ho hw hk hop hf hname hb ⟨rfl,rfl,rfl⟩;revert this;cases hst:stepG P main (G (b.at a (.inRegion ops (i::rest)::k)) cs) w₁<;>simp only [GStep.goes]<;>try exact False.elim
  rintro ⟨rfl,rfl,rfl⟩;exact ⟨_,_,_,rfl,T.idle _,h.rely T.trans hr⟩
end
open Go.RowKit
structure Calm (L:Lot) (other:Nat→Obj→Prop) (w:World) (g:Nat):Prop where
 there:∃o,w.heap[g]?=some o
 nc:g≠L.c
 no:∀o,w.heap[g]?=some o→¬other g o
def Mine (mine:Nat→Obj→Prop) (w:World) (g:Nat):Prop:=∀o,w.heap[g]?=some o→mine g o
section
variable {L:Lot} {mine other:Nat→Obj→Prop} {w w':World} {g g' m m' t t':Nat} {f f':Nat→Value}
theorem Calm.stands (h:Calm L other w g) (r:Turn L other w w'):w'.heap[g]?=w.heap[g]?:=by
 obtain ⟨o,ho⟩:=h.there;rw [ho,r.keep ho h.nc (h.no o ho)]
theorem Calm.rely (h:Calm L other w g) (r:Turn L other w w'):Calm L other w' g:=by
 have e:=h.stands r;exact ⟨by rw [e];exact h.there,h.nc,by rw [e];exact h.no⟩
theorem Mine.rely (hm:Mine mine w g) (h:Calm L other w g) (r:Turn L other w w'):Mine mine w' g:=by
 unfold Mine;rw [h.stands r];exact hm
theorem Calm.turn (to:Tells L other) (h:Calm L other w g) (r:Turn L mine w w'):Calm L other w' g:=by
 obtain ⟨o,ho⟩:=h.there;obtain ⟨o',h1,h2,_⟩:=r.at_ g o ho;refine ⟨⟨o',h1⟩,h.nc,fun x hx hx'=>h.no o ho (to g x o (fun hc=>?_) hx')⟩;rw [h1] at hx;cases hx;exact (h2 hc).symm
theorem Mine.turn (tm:Tells L mine) {who:Nat→Obj→Prop} (hm:Mine mine w g) (ht:∃o,w.heap[g]?=some o) (r:Turn L who w w'):Mine mine w' g:=by
 obtain ⟨o,ho⟩:=ht;obtain ⟨o',h1,h2,_⟩:=r.at_ g o ho;intro x hx;rw [h1] at hx;cases hx;exact tm g o o' h2 (hm o ho)
structure Rw (L:Lot) (other:Nat→Obj→Prop) (w:World) (g m t:Nat) (f:Nat→Value):Prop where
 row:RowF w g m t f
 calm:Calm L other w g
theorem Rw.rely (h:Rw L other w g m t f) (r:Turn L other w w'):Rw L other w' g m t f:=⟨h.row.of_heap (h.calm.stands r),h.calm.rely r⟩
theorem Rw.cell (h:Rw L other w g m t f) {j:Nat} (hj:j<m):w.cell? ⟨g,j,none⟩=some (f j):=h.row.cell hj
theorem Rw.look (h:Rw L other w g m t f) (j:Nat):EvBy L mine other w ⟨.cell ⟨g,j,none⟩,false,false⟩:=by
 obtain ⟨o,ho⟩:=h.calm.there;exact EvBy.read (a:=⟨g,j,none⟩) ho (h.calm.no o ho)
structure Ow (L:Lot) (mine other:Nat→Obj→Prop) (w:World) (g m t:Nat) (f:Nat→Value):Prop where
 rw:Rw L other w g m t f
 own:Mine mine w g
theorem Ow.rely (h:Ow L mine other w g m t f) (r:Turn L other w w'):Ow L mine other w' g m t f:=⟨h.rw.rely r,h.own.rely h.rw.calm r⟩
theorem Ow.cell (h:Ow L mine other w g m t f) {j:Nat} (hj:j<m):w.cell? ⟨g,j,none⟩=some (f j):=h.rw.cell hj
theorem Ow.frozen (h:Ow L mine other w g m t f) (j:Nat):w.frozen? ⟨g,j,none⟩=false:=h.rw.row.frozen j
theorem Ow.look (h:Ow L mine other w g m t f) (j:Nat):EvBy L mine other w ⟨.cell ⟨g,j,none⟩,false,false⟩:=h.rw.look j
theorem Ow.turnSet (h:Ow L mine other w g m t f) (j:Nat) (v:Value):Turn L mine w (w.setCell ⟨g,j,none⟩ v):=by
 obtain ⟨o,ho⟩:=h.rw.calm.there;exact .set w _ v o ho (h.own o ho)
theorem Ow.does (tm:Tells L mine) (to:Tells L other) (h:Ow L mine other w g m t f) (j:Nat) (v:Value) {es:Array Event} (hes:∀e∈es,e=⟨.cell ⟨g,j,none⟩,true,false⟩):Does L mine other w (w.setCell ⟨g,j,none⟩ v) es:=by
 obtain ⟨o,ho⟩:=h.rw.calm.there;exact .set tm to ho h.rw.calm.nc (h.own o ho) fun e he=>by rw [hes e he];exact EvBy.write (a:=⟨g,j,none⟩) ho (h.rw.calm.no o ho) (h.own o ho)
theorem Ow.set (tm:Tells L mine) (to:Tells L other) (h:Ow L mine other w g m t f) (j:Nat) (v:Value):Ow L mine other (w.setCell ⟨g,j,none⟩ v) g m t (fun i=>if i=j then v else f i):=
 ⟨⟨h.rw.row.set j v,h.rw.calm.turn to (h.turnSet j v)⟩,h.own.turn tm h.rw.calm.there (h.turnSet j v)⟩
theorem Ow.congr (h:Ow L mine other w g m t f) (hf:∀j,j<m→f j=f' j):Ow L mine other w g m t f':=⟨⟨h.rw.row.congr hf,h.rw.calm⟩,h.own⟩
theorem rows_apart (h:RowF w g m t f) (h':RowF w g' m' t' f') (ht:t≠t'):g≠g':=fun e=>by
 subst e;obtain ⟨cs,h1,_⟩:=h;obtain ⟨cs',h1',_⟩:=h';rw [h1] at h1';cases h1';exact ht rfl
theorem Rw.apart (to:Tells L other) (h':Rw L other w g' m' t' f') (h:Ow L mine other w g m t f) (j:Nat) (v:Value) (ht:t≠t'):Rw L other (w.setCell ⟨g,j,none⟩ v) g' m' t' f':=
 ⟨h'.row.other _ _ (rows_apart h.rw.row h'.row ht),h'.calm.turn to (h.turnSet j v)⟩
theorem Ow.apart (tm:Tells L mine) (to:Tells L other) (h':Ow L mine other w g' m' t' f') (h:Ow L mine other w g m t f) (j:Nat) (v:Value) (ht:t≠t'):Ow L mine other (w.setCell ⟨g,j,none⟩ v) g' m' t' f':=
 ⟨h'.rw.apart to h j v ht,h'.own.turn tm h'.rw.calm.there (h.turnSet j v)⟩
theorem Rw.alloc (to:Tells L other) (h:Rw L other w g m t f) (o:Obj):Rw L other (w.alloc o) g m t f:=⟨h.row.alloc o,h.calm.turn (mine:=fun _ _=>True) to (.alloc w o)⟩
theorem Ow.alloc (tm:Tells L mine) (to:Tells L other) (h:Ow L mine other w g m t f) (o:Obj):Ow L mine other (w.alloc o) g m t f:=⟨h.rw.alloc to o,h.own.turn tm h.rw.calm.there (.alloc (mine:=mine) w o)⟩
end
section
variable {L:Lot} {w:World}
theorem ow_new (hB:L.B≤w.heap.size) (hc:L.c<w.heap.size) (cs:Array Value) (t:Nat) (f:Nat→Value) (ht:(t==L.ev)=false) (hf:∀j,j<cs.size→cs[j]?=some (f j)):Ow L L.send L.main (w.alloc (.cells cs t)) w.heap.size cs.size t f:=by
 have hn:(w.alloc (.cells cs t)).heap[w.heap.size]?=some (.cells cs t (0,0)):=heap_alloc_new w _;refine ⟨⟨.new w cs t f hf,⟨_,hn⟩,by omega,fun o ho hm=>?_⟩,fun o ho=>?_⟩
 ·rw [hn] at ho;cases ho;rcases hm.2 with ⟨h,_⟩|⟨_,h⟩
  ·omega
  ·simp [isEv,ht] at h
 ·rw [hn] at ho;cases ho;exact ⟨by omega,.inr ⟨hB,by simpa [isEv] using ht⟩⟩
end
structure Row where
 g:Nat
 m:Nat
 t:Nat
 f:Nat→Value
def upd (f:Nat→Value) (j:Nat) (v:Value) (i:Nat):Value:=if i=j then v else f i
theorem upd_same (f:Nat→Value) (j:Nat) (v:Value):upd f j v j=v:=if_pos rfl
theorem upd_ne (f:Nat→Value) {i j:Nat} (v:Value) (h:i≠j):upd f j v i=f i:=if_neg h
def Row.put (r:Row) (j:Nat) (v:Value):Row:={r with f:=upd r.f j v}
def Lot.both (L:Lot) (b:Nat) (o:Obj):Prop:=L.main b o∨L.send b o
theorem Turn.mono {L:Lot} {who who':Nat→Obj→Prop} {w w':World} (h:Turn L who w w') (hm:∀b o,who b o→who' b o):Turn L who' w w':=
 ⟨h.os,h.out,h.tape,h.size,fun b o ho=>by
  obtain ⟨o',h1,h2,h3⟩:=h.at_ b o ho;exact ⟨o',h1,h2,fun hc hn=>h3 hc fun hw=>hn (hm b o hw)⟩⟩
structure Kn (L:Lot) (w0:World) (rows:List Row) (w:World):Prop where
 ph:Turn L L.both w0 w
 row:∀(i:Nat) (r:Row),rows[i]?=some r→Ow L L.send L.main w r.g r.m r.t r.f
 pw:∀(i j:Nat) (r s:Row),rows[i]?=some r→rows[j]?=some s→i≠j→r.g≠s.g
 hB:L.B≤w.heap.size
 hc:L.c<w.heap.size
structure Still (L:Lot) (w:World) (b:Nat):Prop where
 there:∃o,w.heap[b]?=some o
 nc:b≠L.c
 no:∀o,w.heap[b]?=some o→¬L.both b o
section
variable {L:Lot} {w0 w w':World} {rows:List Row} {i j:Nat} {r:Row}
theorem Kn.rely (h:Kn L w0 rows w) (hr:L.R1 w w'):Kn L w0 rows w':=
 ⟨h.ph.trans (hr.mono fun _ _ x=>.inl x),fun i r hi=>(h.row i r hi).rely hr,h.pw,Nat.le_trans h.hB hr.size,Nat.lt_of_lt_of_le h.hc hr.size⟩
theorem Kn.cell (h:Kn L w0 rows w) (hi:rows[i]?=some r) (hj:j<r.m):w.cell? ⟨r.g,j,none⟩=some (r.f j):=(h.row i r hi).cell hj
theorem Kn.frozen (h:Kn L w0 rows w) (hi:rows[i]?=some r) (j:Nat):w.frozen? ⟨r.g,j,none⟩=false:=(h.row i r hi).frozen j
theorem Kn.look (h:Kn L w0 rows w) (hi:rows[i]?=some r) (j:Nat):EvBy L L.send L.main w ⟨.cell ⟨r.g,j,none⟩,false,false⟩:=(h.row i r hi).look j
theorem Kn.looks (h:Kn L w0 rows w) (hi:rows[i]?=some r) {es:Array Event} (hes:∀e∈es,∃j,e=⟨.cell ⟨r.g,j,none⟩,false,false⟩):L.D1 w w es:=
 .look w fun e he=>by obtain ⟨j,rfl⟩:=hes e he;exact h.look hi j
theorem Kn.still (h:Kn L w0 rows w) {b:Nat} (hs:Still L w0 b):w.heap[b]?=w0.heap[b]?:=by
 obtain ⟨o,ho⟩:=hs.there;rw [ho,h.ph.keep ho hs.nc (hs.no o ho)]
theorem Kn.stillCell (h:Kn L w0 rows w) {a:Addr} (hs:Still L w0 a.block):w.cell? a=w0.cell? a:=by
 unfold World.cell?;rw [h.still hs]
theorem Kn.stillLooks (h:Kn L w0 rows w) {b:Nat} (hs:Still L w0 b) {es:Array Event} (hes:∀e∈es,∃j,e=⟨.cell ⟨b,j,none⟩,false,false⟩):L.D1 w w es:=
 .look w fun e he=>by
  obtain ⟨o,ho⟩:=hs.there;obtain ⟨j,rfl⟩:=hes e he;exact EvBy.read (a:=⟨b,j,none⟩) (by rw [h.still hs];exact ho) fun hm=>hs.no o ho (.inl hm)
theorem Kn.does (h:Kn L w0 rows w) (hi:rows[i]?=some r) (j:Nat) (v:Value) {es:Array Event} (hes:∀e∈es,e=⟨.cell ⟨r.g,j,none⟩,true,false⟩):L.D1 w (w.setCell ⟨r.g,j,none⟩ v) es:=
 (h.row i r hi).does L.tells_send L.tells_main j v hes
theorem rows_set_get (hi:rows[i]?=some r) (r':Row):(rows.set i r')[i]?=some r':=by
 have:=(List.getElem?_eq_some_iff.1 hi).1;simp [this]
theorem rows_set_ne {k:Nat} (hk:k≠i) (r':Row):(rows.set i r')[k]?=rows[k]?:=by
 rw [List.getElem?_set_ne (Ne.symm hk)]
theorem Kn.set (h:Kn L w0 rows w) (hi:rows[i]?=some r) (j:Nat) (v:Value):Kn L w0 (rows.set i (r.put j v)) (w.setCell ⟨r.g,j,none⟩ v):=by
 have ho:=h.row i r hi;have ht:=ho.turnSet j v;refine ⟨h.ph.trans (ht.mono fun _ _ x=>.inr x),fun k s hk=>?_,fun a b x y ha hb hab=>?_,by simpa [World.setCell] using h.hB,by simpa [World.setCell] using h.hc⟩
 ·by_cases hki:k=i
  ·subst hki;rw [rows_set_get hi] at hk;cases hk;exact ho.set L.tells_send L.tells_main j v
  ·rw [rows_set_ne hki] at hk;have hs:=h.row k s hk;exact ⟨⟨hs.rw.row.other _ _ (h.pw i k r s hi hk (Ne.symm hki)),hs.rw.calm.turn L.tells_main ht⟩,hs.own.turn L.tells_send hs.rw.calm.there ht⟩
 ·have key:∀(c:Nat) (x:Row),(rows.set i (r.put j v))[c]?=some x→∃x':Row,rows[c]?=some x'∧x'.g=x.g:=fun c x hx=>by
   by_cases hci:c=i
   ·subst hci;rw [rows_set_get hi] at hx;cases hx;exact ⟨r,hi,rfl⟩
   ·rw [rows_set_ne hci] at hx;exact ⟨x,hx,rfl⟩
  obtain ⟨x',hx',ex⟩:=key a x ha;obtain ⟨y',hy',ey⟩:=key b y hb;rw [←ex,←ey];exact h.pw a b x' y' hx' hy' hab
theorem Kn.congr (h:Kn L w0 (rows.set i r) w) {r':Row} {q:Row} (hi:rows[i]?=some q) (hg:r'.g=r.g) (hm:r'.m=r.m) (ht:r'.t=r.t) (hf:∀j,j<r.m→r.f j=r'.f j):Kn L w0 (rows.set i r') w:=by
 refine ⟨h.ph,fun k s hk=>?_,fun a b x y ha hb hab=>?_,h.hB,h.hc⟩
 ·by_cases hki:k=i
  ·subst hki;rw [rows_set_get hi] at hk;cases hk;have:=h.row k r (rows_set_get hi r);rw [hg,hm,ht];exact this.congr hf
  ·rw [rows_set_ne hki] at hk;exact h.row k s (by rw [rows_set_ne hki];exact hk)
 ·have key:∀(c:Nat) (x:Row),(rows.set i r')[c]?=some x→∃x':Row,(rows.set i r)[c]?=some x'∧x'.g=x.g:=fun c x hx=>by
   by_cases hci:c=i
   ·subst hci;rw [rows_set_get hi] at hx;cases hx;exact ⟨r,rows_set_get hi r,hg.symm⟩
   ·rw [rows_set_ne hci] at hx;exact ⟨x,by rw [rows_set_ne hci];exact hx,rfl⟩
  obtain ⟨x',hx',ex⟩:=key a x ha;obtain ⟨y',hy',ey⟩:=key b y hb;rw [←ex,←ey];exact h.pw a b x' y' hx' hy' hab
theorem Kn.alloc (h:Kn L w0 rows w) (cs:Array Value) (t:Nat) (f:Nat→Value) (ht:(t==L.ev)=false) (hf:∀j,j<cs.size→cs[j]?=some (f j)):Kn L w0 (rows++[⟨w.heap.size,cs.size,t,f⟩]) (w.alloc (.cells cs t)):=by
 have hlt:∀(k:Nat) (s:Row),rows[k]?=some s→s.g<w.heap.size:=fun k s hk=>(h.row k s hk).rw.row.lt;have key:∀(k:Nat) (s:Row),(rows++[⟨w.heap.size,cs.size,t,f⟩])[k]?=some s→rows[k]?=some s∨(k=rows.length∧s=⟨w.heap.size,cs.size,t,f⟩):=fun k s hk=>by
  rcases Nat.lt_trichotomy k rows.length with hl|rfl|hl
  ·rw [List.getElem?_append_left hl] at hk;exact .inl hk
  ·rw [List.getElem?_append_right (Nat.le_refl _)] at hk;simp at hk;exact .inr ⟨rfl,hk.symm⟩
  ·rw [List.getElem?_eq_none (by simp;omega)] at hk;cases hk
 refine ⟨h.ph.trans (.alloc w _),fun k s hk=>?_,fun a b x y ha hb hab=>?_,by simp;have:=h.hB;omega,by simp;have:=h.hc;omega⟩
 ·rcases key k s hk with hk|⟨_,rfl⟩
  ·exact (h.row k s hk).alloc L.tells_send L.tells_main _
  ·exact ow_new h.hB h.hc cs t f ht hf
 ·rcases key a x ha with ha|⟨ea,rfl⟩<;>rcases key b y hb with hb|⟨eb,rfl⟩
  ·exact h.pw a b x y ha hb hab
  ·have:=hlt a x ha;show x.g≠w.heap.size;omega
  ·have:=hlt b y hb;show w.heap.size≠y.g;omega
  ·omega
theorem Kn.doesAlloc (h:Kn L w0 rows w) (o:Obj) {es:Array Event} (hes:∀e∈es,False):L.D1 w (w.alloc o) es:=
 .alloc L.tells_send L.tells_main h.hc fun e he=>(hes e he).elim
theorem Kn.drop {ex:List Row} (h:Kn L w0 (rows++ex) w):Kn L w0 rows w:=by
 have key:∀(k:Nat) (s:Row),rows[k]?=some s→(rows++ex)[k]?=some s:=fun k s hk=>by
  have:=(List.getElem?_eq_some_iff.1 hk).1;rw [List.getElem?_append_left this];exact hk
 exact ⟨h.ph,fun k s hk=>h.row k s (key k s hk),fun a b x y ha hb=>h.pw a b x y (key a x ha) (key b y hb),h.hB,h.hc⟩
theorem rows_app_get {ex:List Row} (hi:rows[i]?=some r):(rows++ex)[i]?=some r:=by
 have:=(List.getElem?_eq_some_iff.1 hi).1;rw [List.getElem?_append_left this];exact hi
theorem Kn.doesAll (h:Kn L w0 rows w) (hi:rows[i]?=some r) (ht:Turn L L.send w w') (hch:w'.heap[L.c]?=w.heap[L.c]?) {es:Array Event} (hes:∀e∈es,∃j wr,e=⟨.cell ⟨r.g,j,none⟩,wr,false⟩):L.D1 w w' es:=by
 have ho:=h.row i r hi;obtain ⟨o,hg⟩:=ho.rw.calm.there;refine ⟨ht,hch,fun e he=>?_⟩;obtain ⟨j,wr,rfl⟩:=hes e he;obtain ⟨o',h1,h2,_⟩:=ht.at_ r.g o hg;have hn:¬L.main r.g o':=fun hm=>ho.rw.calm.no o hg (L.tells_main r.g o' o (fun hc=>(h2 hc).symm) hm);cases wr with
 |false=>exact EvBy.read (a:=⟨r.g,j,none⟩) h1 hn
 |true=>exact EvBy.write (a:=⟨r.g,j,none⟩) h1 hn (L.tells_send r.g o o' h2 (ho.own o hg))
theorem Kn.turnSet (h:Kn L w0 rows w) (hi:rows[i]?=some r) (j:Nat) (v:Value):Turn L L.send w (w.setCell ⟨r.g,j,none⟩ v):=(h.row i r hi).turnSet j v
theorem Kn.chanSet (h:Kn L w0 rows w) (hi:rows[i]?=some r) (j:Nat) (v:Value):(w.setCell ⟨r.g,j,none⟩ v).heap[L.c]?=w.heap[L.c]?:=by
 have:=(h.row i r hi).rw.calm.nc;simp only [World.setCell,Array.getElem?_modify,if_neg this]
theorem rows_app_new (x:Row):(rows++[x])[rows.length]?=some x:=by simp
end
end Go.Proofs.Ytdoghgnifkgfdaa.Mute
