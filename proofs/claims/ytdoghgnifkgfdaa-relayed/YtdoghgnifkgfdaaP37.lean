import Derived.Deep.RegionHeld3
import Derived.Test.YtdoghgnifkgfdaaP07
import Derived.Test.YtdoghgnifkgfdaaP36
set_option maxRecDepth 100000
set_option maxHeartbeats 16000000
namespace Go.Proofs.Ytdoghgnifkgfdaa.Mute
open Go Go.Conc Go.RowKit
theorem enterNew (x:Value):EnterOk Try.prog plan 21 #[x]:=⟨by kernel_rfl,slots_noSlots plain Try.func21 (by kernel_rfl) _⟩
theorem enterTrace (x y:Value):EnterOk Try.prog plan 31 #[x,y]:=⟨by kernel_rfl,slots_noSlots plain Try.func31 (by kernel_rfl) _⟩
theorem enterMemory (x y:Value):EnterOk Try.prog plan 32 #[x,y]:=⟨by kernel_rfl,slots_noSlots plain Try.func32 (by kernel_rfl) _⟩
theorem enterStats (x y:Value):EnterOk Try.prog plan 33 #[x,y]:=⟨by kernel_rfl,slots_noSlots plain Try.func33 (by kernel_rfl) _⟩
structure Of (c:Cfg) (k:Ker) (N:NetK) (t:Tab):Prop where
 nC:k.nC=c.nC
 n:k.n=c.nCode
 ci:k.ci=c.code
 num:∀i,k.num i=i
 nk:N.k=c.nCh
 fr:∀i,N.fr i=c.ch (i*3+1)
 to_:∀i,N.to_ i=c.ch (i*3+2)
 nT:t.nT=c.nT
 nw:t.nw=c.nRow
 wn:t.wn=wnOf c
theorem new_calls {c:Cfg} {v0 v1 v2 v3:Value} {w:World} (h:CfgR w v0 v1 v2 v3 c) (hw:CfgW c) (hrn:∀i,i<c.nT→c.rowN i=false) (hck:CheckIs c 0 0):
  CallsR Try.prog 21 #[.agg #[v0,v1,v2,v3]] w (fun v w'=>Below w.heap.size w w'∧∃k N t f,v=.tuple #[.pointer (some ⟨k.kb,0,none⟩),.int .i64 0,.int .i64 0]∧Of c k N t∧KFullQ w' k N t (sq0 c) f (fun _=>none) 0 (fun b=>w.heap.size≤b∧b<w'.heap.size)):=by
 refine (CallsR.ofBelow (enterNew _) (fun v w'=>∃K nb vt tr,v=.tuple #[.pointer (some ⟨K,0,none⟩),.int .i64 0,.int .i64 0]∧w.heap.size<K∧KM2 c w.heap.size K nb vt tr w') (fun τ=>(new_exact c v0 v1 v2 v3 (reW w τ 0) (h.keep fun a v hv=>hv) hw hrn).mono ?_) ?_).mono ?_
 ·rintro e w' ⟨k,x,y,rfl,hc,hb,hk⟩;obtain ⟨rfl,rfl⟩:=hc.uniq hck;rcases hk with hk|⟨_,K,nb,v,tr,rfl,hK,u,xs,_,h4⟩
  ·exact absurd rfl hk.1
  ·exact ⟨_,rfl,hb,K,nb,v,tr,rfl,hK,u,xs,h4⟩
 ·rintro v w₁ τ d d' h;exact h
 ·rintro v w' ⟨hb,K,nb,vt,tr,rfl,hK,hm⟩;refine ⟨hb,?_⟩;obtain ⟨k,N,t,f,h1,rfl,h2,h3,h4,h5,h6,h7,h8,h9,h10,h11⟩:=kfullQ_of hm (by omega) hck;exact ⟨k,N,t,f,rfl,⟨h2,h3,h4,h5,h6,h7,h8,h9,h10,h11⟩,h1⟩
section
variable {w:World} {k:Ker} {K:NetK} {t:Tab} {s:KSq} {f:Nat→Value} {lr:Nat→Option Row} {r:Nat} {S:Nat→Prop} {cell:Nat}
theorem KFullQ.trace (h:KFullQ w k K t s f lr r S) (hc:cell<k.nC) {tz:Nat→Int} (hx:s.xs cell=(List.range (s.m cell*3)).map fun j=>.int .i64 (tz j)) (hm:s.m cell≤1000000000):
  CallsR Try.prog 31 #[.pointer (some ⟨k.kb,0,none⟩),.int .i64 cell] w (fun v w'=>Below w.heap.size w w'∧∃u,v=.tuple #[u,.int .i64 0]∧w'.ownsRow w.heap.size 67 3 u (s.m cell) ((List.range (s.m cell*3)).map fun j=>.int .i64 (tz j))):=by
 have ho:=h.dyn.own cell hc;rw [hx] at ho;refine CallsR.ofBelow (enterTrace _ _) (fun v w'=>∃u,v=.tuple #[u,.int .i64 0]∧w'.ownsRow w.heap.size 67 3 u (s.m cell) ((List.range (s.m cell*3)).map fun j=>.int .i64 (tz j))) (fun τ=>(trace_yes k.kb k.T k.nC k.nC k.cC cell (s.m cell) _ (f cell) tz (reW w τ 0) h.sta.k2 h.sta.k4 (h.dyn.tr.cell hc) ho hc (by omega)).mono ?_) fun v w₁ τ d d' h=>h;rintro e w' ⟨u,rfl,h1,h2⟩;exact ⟨_,rfl,h1,u,rfl,h2⟩
theorem KFullQ.memory (h:KFullQ w k K t s f lr r S) (hc:cell<k.nC):
  CallsR Try.prog 32 #[.pointer (some ⟨k.kb,0,none⟩),.int .i64 cell] w (fun v w'=>Below w.heap.size w w'∧∃u,v=.tuple #[u,.int .i64 0]∧w'.ownsRow w.heap.size 2 1 u 16 ((List.range 16).map fun j=>.int .i64 (s.z cell (29+j)))):=by
 refine CallsR.ofBelow (enterMemory _ _) (fun v w'=>∃u,v=.tuple #[u,.int .i64 0]∧w'.ownsRow w.heap.size 2 1 u 16 ((List.range 16).map fun j=>.int .i64 (s.z cell (29+j)))) (fun τ=>(memory_yes k.kb k.C (k.g cell) k.nC k.cC cell _ _ _ (s.z cell) (reW w τ 0) h.sta.k2 (h.sta.cl cell hc) (h.dyn.row cell hc) hc).mono ?_) fun v w₁ τ d d' h=>h;rintro e w' ⟨u,rfl,h1,h2⟩;exact ⟨_,rfl,h1,u,rfl,h2⟩
theorem KFullQ.stats (h:KFullQ w k K t s f lr r S) (hc:cell<k.nC):
  CallsR Try.prog 33 #[.pointer (some ⟨k.kb,0,none⟩),.int .i64 cell] w (fun v w'=>Below w.heap.size w w'∧v=.tuple #[.agg #[.int .i64 (s.z cell 46),.int .i64 (s.z cell 47),.bool (decide (s.z cell 3<s.z cell 47))],.int .i64 0]):=by
 refine CallsR.ofBelow (enterStats _ _) (fun v _=>v=.tuple #[.agg #[.int .i64 (s.z cell 46),.int .i64 (s.z cell 47),.bool (decide (s.z cell 3<s.z cell 47))],.int .i64 0]) (fun τ=>(stats_yes k.kb k.C (k.g cell) k.nC k.cC cell _ _ _ (s.z cell) (reW w τ 0) h.sta.k2 (h.sta.cl cell hc) (h.dyn.row cell hc) hc).mono ?_) fun v w₁ τ d d' h=>h;rintro e w' ⟨rfl,h1⟩;exact ⟨_,rfl,h1,rfl⟩
end
def prgC (c:Cfg) (ins:List (Int×Int)) (i:Nat):Prg:=⟨c.nCode i,c.code i,i,fun j=>c.ch (j*3+1),ins⟩
def winC (c:Cfg) (ins:List (Int×Int)) (p:Nat×Nat) (s:KSq):KSq:=
 ⟨updN s.z p.1 (windowQ (prgC c ins p.1) p.2 (s.z p.1) s.D).2.1,updN s.m p.1 (s.m p.1+(windowQ (prgC c ins p.1) p.2 (s.z p.1) s.D).1.length),updN s.xs p.1 (s.xs p.1++(windowQ (prgC c ins p.1) p.2 (s.z p.1) s.D).1.flatMap evCells),(windowQ (prgC c ins p.1) p.2 (s.z p.1) s.D).2.2⟩
def rowC (c:Cfg) (ins:List (Int×Int)) (wn:Nat→Nat×Nat):Nat→Nat→KSq→KSq
 |0,_,s=>s
 |rem+1,j,s=>rowC c ins wn rem (j+1) (winC c ins (wn j) s)
def frameC (c:Cfg) (r:Nat) (ins:List (Int×Int)) (s:KSq):KSq:=
 {rowC c ins (wnOf c r) (c.nRow r) 0 s with D:=endC c.nCh (rowC c ins (wnOf c r) (c.nRow r) 0 s).D}
section
variable {c:Cfg} {k:Ker} {N:NetK} {t:Tab} {ins:List (Int×Int)}
theorem Of.prg (h:Of c k N t) (i:Nat):prgOf k N ins i=prgC c ins i:=by
 unfold prgOf prgC;rw [h.n,h.ci,h.num,show N.fr=fun j=>c.ch (j*3+1) from funext h.fr]
theorem Of.row (h:Of c k N t) (wn:Nat→Nat×Nat):∀(rem j:Nat) (s:KSq),rowQs k N ins wn rem j s=rowC c ins wn rem j s
 |0,_,_=>rfl
 |rem+1,j,s=>by
  show rowQs k N ins wn rem (j+1) (winQ k N ins (wn j) s)=rowC c ins wn rem (j+1) (winC c ins (wn j) s);have e:winQ k N ins (wn j) s=winC c ins (wn j) s:=by unfold winQ winC;rw [h.prg]
  rw [e,h.row wn rem (j+1)]
theorem Of.frame (h:Of c k N t) (r:Nat) (s:KSq):frameQ k N (t.wn r) (t.nw r) ins s=frameC c r ins s:=by
 unfold frameQ frameC;rw [h.row,h.wn,h.nw,h.nk]
end
def cfg2 (L0 L1:List Int) (n0 n1:Nat) (lm:Int) (rw:List Int) (dvn:Bool) (dv:List Int):Cfg where
 cellsN:=false
 nC:=2
 lim:=fun i=>if i=0 then lm else 0
 codeN:=fun _=>false
 nCode:=fun i=>if i=0 then n0 else n1
 code:=fun i j=>(if i=0 then L0 else L1).getD j 0
 imgN:=fun _=>true
 nImg:=fun _=>0
 img:=fun _ _=>0
 tableN:=false
 nT:=1
 rowN:=fun _=>false
 nRow:=fun _=>2
 row:=fun _ j=>rw.getD j 0
 chN:=false
 nCh:=1
 ch:=fun j=>[1,0,1].getD j 0
 dvN:=dvn
 nD:=dv.length
 dv:=fun j=>dv.getD j 0
def intsF (L:List Int) (j:Nat):Value:=.int .i64 (L.getD j 0)
theorem ints_row (w:World) (L:List Int) (t:Nat):RowF (w.alloc (.cells (L.map (Value.int .i64 ·)).toArray t)) w.heap.size L.length t (intsF L):=by
 have h:=RowF.new w (L.map (Value.int .i64 ·)).toArray t (intsF L) (fun j hj=>by
  have hj:j<L.length:=by simpa using hj
  unfold intsF;simp [hj])
 simpa using h
def cellsF (b0 n0 c0 b1 n1 c1:Nat) (lm:Int) (j:Nat):Value:=if j=0 then .slice (some ⟨b0,0,none⟩) n0 c0 else if j=1 then .slice none 0 0 else if j=2 then .int .i64 lm else if j=3 then .slice (some ⟨b1,0,none⟩) n1 c1 else if j=4 then .slice none 0 0 else .int .i64 0
theorem cells_row (w:World) (b0 n0 c0 b1 n1 c1:Nat) (lm:Int) (t:Nat):RowF (w.alloc (.cells #[.slice (some ⟨b0,0,none⟩) n0 c0,.slice none 0 0,.int .i64 lm,.slice (some ⟨b1,0,none⟩) n1 c1,.slice none 0 0,.int .i64 0] t)) w.heap.size 6 t (cellsF b0 n0 c0 b1 n1 c1 lm):=
 RowF.new w #[.slice (some ⟨b0,0,none⟩) n0 c0,.slice none 0 0,.int .i64 lm,.slice (some ⟨b1,0,none⟩) n1 c1,.slice none 0 0,.int .i64 0] t _ fun j hj=>by
  have:j=0∨j=1∨j=2∨j=3∨j=4∨j=5:=by simp at hj;omega
  rcases this with rfl|rfl|rfl|rfl|rfl|rfl<;>rfl
theorem one_row (w:World) (v:Value) (t:Nat):RowF (w.alloc (.cells #[v] t)) w.heap.size 1 t (fun _=>v):=
 RowF.new w #[v] t _ fun j hj=>by
  have:j=0:=by simpa using hj
  subst this;rfl
section
variable {w:World} {L0 L1 rw dv:List Int} {n0 n1 c0 c1 b0 b1 bc bw bt bh m0 m1 t0 t1 t2 t3 t4 t5:Nat} {lm:Int}
theorem slz_of {w:World} {L:List Int} {b n c k m t bn:Nat} {nl:Bool} (h:RowF w b m t (intsF L)) (hm:n*k≤m) (hc:n≤c) (hb:bn*n≤140737488355328) (hnl:nl=false):SlZ w (.slice (some ⟨b,0,none⟩) n c) nl n k (fun j=>L.getD j 0) bn:=
 ⟨_,c,rfl,hc,by rw [hnl];simp,fun h=>(by cases h),hb,.inr ⟨b,0,rfl,fun j hj=>by rw [Nat.zero_add];exact h.cell (by omega)⟩⟩
theorem cfg2_R {v3:Value} {dvn:Bool} (h0:RowF w b0 m0 t0 (intsF L0)) (hm0:n0*4≤m0) (hc0:n0≤c0) (h1:RowF w b1 m1 t1 (intsF L1)) (hm1:n1*4≤m1) (hc1:n1≤c1) (hn:n0≤1000∧n1≤1000) (hc:RowF w bc 6 t2 (cellsF b0 n0 c0 b1 n1 c1 lm)) (hw:RowF w bw 4 t3 (intsF rw)) (ht:RowF w bt 1 t4 (fun _=>.slice (some ⟨bw,0,none⟩) 2 2)) (hh:RowF w bh 3 t5 (intsF [1,0,1])) (hd:SlZ w v3 dvn dv.length 1 (fun j=>dv.getD j 0) 8):
  CfgR w (.slice (some ⟨bc,0,none⟩) 2 2) (.slice (some ⟨bt,0,none⟩) 1 1) (.slice (some ⟨bh,0,none⟩) 1 1) v3 (cfg2 L0 L1 n0 n1 lm rw dvn dv):=by
 refine ⟨⟨_,2,cellsF b0 n0 c0 b1 n1 c1 lm,rfl,Nat.le_refl _,by simp [cfg2],fun h=>(by cases h),by show 56*2≤140737488355328;omega,.inr ⟨bc,0,rfl,fun j hj=>?_⟩,fun i hi=>?_⟩,⟨_,1,fun _=>.slice (some ⟨bw,0,none⟩) 2 2,rfl,Nat.le_refl _,by simp [cfg2],fun h=>(by cases h),by show 24*1≤140737488355328;omega,.inr ⟨bt,0,rfl,fun j hj=>?_⟩,fun i hi=>?_⟩,slz_of hh (by decide) (Nat.le_refl _) (by decide) rfl,hd⟩
 ·rw [Nat.zero_add];exact hc.cell hj
 ·have hi:i<2:=hi;have:i=0∨i=1:=by omega
  have nl:SlZ w (.slice none 0 0) true 0 1 (fun _=>0) 8:=⟨none,0,rfl,Nat.le_refl _,by simp,fun _=>⟨rfl,rfl⟩,by decide,.inl rfl⟩;rcases this with rfl|rfl
  ·exact ⟨slz_of h0 hm0 hc0 (by show 32*n0≤_;omega) rfl,nl,rfl⟩
  ·exact ⟨slz_of h1 hm1 hc1 (by show 32*n1≤_;omega) rfl,nl,rfl⟩
 ·rw [Nat.zero_add];exact ht.cell hj
 ·exact slz_of hw (by show 2*2≤4;omega) (Nat.le_refl _) (by decide) rfl
end
theorem box4_set {W:World} {g t:Nat} {a b c d a' b' c' d':Value} (h:RowF W g 4 t (cells4 a b c d)):
  RowF ((((W.setCell ⟨g,0,none⟩ a').setCell ⟨g,1,none⟩ b').setCell ⟨g,2,none⟩ c').setCell ⟨g,3,none⟩ d') g 4 t (cells4 a' b' c' d')∧(∀x,x≠g→((((W.setCell ⟨g,0,none⟩ a').setCell ⟨g,1,none⟩ b').setCell ⟨g,2,none⟩ c').setCell ⟨g,3,none⟩ d').heap[x]?=W.heap[x]?)∧((((W.setCell ⟨g,0,none⟩ a').setCell ⟨g,1,none⟩ b').setCell ⟨g,2,none⟩ c').setCell ⟨g,3,none⟩ d').heap.size=W.heap.size:=by
 refine ⟨((((h.set 0 a').set 1 b').set 2 c').set 3 d').congr fun j hj=>?_,fun x hx=>?_,?_⟩
 ·have:j=0∨j=1∨j=2∨j=3:=by omega
  rcases this with rfl|rfl|rfl|rfl<;>rfl
 ·rw [heap_setCell_other _ _ _ _ hx,heap_setCell_other _ _ _ _ hx,heap_setCell_other _ _ _ _ hx,heap_setCell_other _ _ _ _ hx]
 ·rw [size_setCell,size_setCell,size_setCell,size_setCell]
theorem cfgW_of {c:Cfg} (h:∀i,i<c.nC→∃L:List Int,c.code i=(fun j=>L.getD j 0)∧∀x∈L,-9223372036854775808≤x∧x≤9223372036854775807):CfgW c:=fun i hi j _=>by
 obtain ⟨L,e,hL⟩:=h i hi;rw [e];show -9223372036854775808≤L.getD j 0∧L.getD j 0≤9223372036854775807;by_cases hj:j<L.length
 ·have:L.getD j 0=L[j]:=by simp [hj]
  rw [this];exact hL _ (List.getElem_mem hj)
 ·have:L.getD j 0=0:=by simp [Nat.not_lt.1 hj]
  rw [this];omega
theorem in_nil {w:World} {F:Nat→Prop}:InW w (.slice none (0:Nat) (0:Nat)) [] F:=⟨none,0,rfl,fun j x h=>by simp at h⟩
theorem but_below {S:Nat→Prop} {n:Nat} {w a b:World} (h:Below n w a) (hb:But S a b) (hs:∀x,S x→n≤x) (hn:n≤a.heap.size):Below n w b:=
 ⟨hb.os.trans h.os,hb.tape.trans h.tape,hb.output.trans h.output,Nat.le_trans h.size hb.size,fun x hx=>(hb.block x (by omega) fun e=>by have:=hs x e;omega).trans (h.block x hx)⟩
theorem check_of {c:Cfg} (h1:NCok c) (h2:NTok c) (h3:AllOk (RowAt c) c.nT) (h4:c.nCh≤8) (h5:AllOk (ChOk c) c.nCh) (h6:c.nD≤4) (h7:AllOk (DvOk c) c.nD) (h8:AllOk (CellOk c) c.nC):CheckIs c 0 0:=by
 unfold CheckIs;exact .inr (.inr (.inr (.inr (.inr (.inr (.inr (.inr ⟨h1,h2,h3,h4,h5,h6,h7,h8,rfl,rfl⟩)))))))
def cK (C:Nat→Chn) (wl sl:List Int) (l sh ag wr:Int) (an:Bool) (j:Nat):Chn:=if j=0 then ⟨wl,sl,l,sh,ag,wr,an⟩ else C j
theorem cK_eq {C:Nat→Chn} {wl sl:List Int} (h1:(C 0).wait=wl) (h2:(C 0).sent=sl):C=cK C wl sl (C 0).lost (C 0).shown (C 0).age (C 0).writ (C 0).anew:=funext fun j=>by
 unfold cK;split
 ·subst j;rw [←h1,←h2]
 ·rfl
def evs (E:List (Int×Int×Int)):List Value:=E.flatMap fun e=>[.int .i64 e.1,.int .i64 e.2.1,.int .i64 e.2.2]
def evT (e:Int×Int×Int):Value:=.agg #[.int .i64 e.1,.int .i64 e.2.1,.int .i64 e.2.2]
theorem evs_append (E F:List (Int×Int×Int)):evs (E++F)=evs E++evs F:=by simp [evs]
theorem evs_of (E:List (Int×Int×Int)):(E.map evT).flatMap evCells=evs E:=by
 induction E with
 |nil=>rfl
 |cons e E ih=>
  rw [List.map_cons,List.flatMap_cons,ih];rfl
theorem evs_at:∀(E:List (Int×Int×Int)) (j:Nat),j<E.length*3→(evs E)[j]?=some (.int .i64 (if j % 3=0 then (E.getD (j / 3) (0,0,0)).1 else if j % 3=1 then (E.getD (j / 3) (0,0,0)).2.1 else (E.getD (j / 3) (0,0,0)).2.2))
 | [],j,h=>absurd h (by simp)
 |e::E,j,h=>by
  have hc:evs (e::E)=.int .i64 e.1::.int .i64 e.2.1::.int .i64 e.2.2::evs E:=rfl;rw [hc]
  match j,h with
  |0,_=>rfl
  |1,_=>rfl
  |2,_=>rfl
  |j+3,h=>
   have h':j<E.length*3:=by simp at h;omega
   have:=evs_at E j h';have e1:(j+3) % 3=j % 3:=by omega
   have e2:(j+3) / 3=j / 3+1:=by omega
   rw [e1,e2];simpa using this
theorem evs_len (E:List (Int×Int×Int)):(evs E).length=E.length*3:=by
 induction E with
 |nil=>rfl
 |cons e E ih=>simp [evs] at ih ⊢;omega
theorem evs_range (E:List (Int×Int×Int)):evs E=(List.range (E.length*3)).map fun j=>.int .i64 (if j % 3=0 then (E.getD (j / 3) (0,0,0)).1 else if j % 3=1 then (E.getD (j / 3) (0,0,0)).2.1 else (E.getD (j / 3) (0,0,0)).2.2):=by
 apply List.ext_getElem?;intro j;by_cases h:j<E.length*3
 ·rw [evs_at E j h];simp [h]
 ·rw [List.getElem?_eq_none (by rw [evs_len];omega),List.getElem?_eq_none (by simp;omega)]
def saids (E:List (Int×Int×Int)):List Int:=E.filterMap fun e=>if e.1=1 then some e.2.1 else none
theorem saids_append (E F:List (Int×Int×Int)):saids (E++F)=saids E++saids F:=by simp [saids]
end Go.Proofs.Ytdoghgnifkgfdaa.Mute
namespace Go.Proofs.Ytdoghgnifkgfdaa
open Go.RowKit
theorem pickK_any (c:Int) (n:Nat) (w:World) (hn:0<n) (hn':n≤1000000) (h1:-9223372036854775808≤c) (h2:c≤9223372036854775807):
  Calls Try.prog 11 #[.int .i64 c,.int .i64 n] w fun e w'=>(∃r:Nat,r<n∧e=.returned (.int .i64 r))∧w'=w:=by
 have hz:¬((n:Int)=0):=by omega
 by_cases h:c<0
 ·have e1:IntKind.i64.wrap (c+1)=c+1:=by rw [IntKind.wrap_i64];omega
  have e2:IntKind.i64.wrap (-(c+1))=-(c+1):=by rw [IntKind.wrap_i64];omega
  have e3:(((-(c+1)) % (n:Int)).toNat:Int)=(-(c+1)).tmod n:=by
   rw [Int.toNat_of_nonneg (Int.emod_nonneg _ hz),Int.tmod_eq_emod_of_nonneg (by omega)]
  have e4:((-(c+1)) % (n:Int)).toNat<n:=by
   have h1:=Int.emod_nonneg (-(c+1)) hz;have h2:=Int.emod_lt_of_pos (-(c+1)) (show (0:Int)<n by omega);omega
  go_enter Try.func11,Try.ntmps11
  go_wp2_with fail
  go_ret;exact ⟨⟨_,e4,by rw [e3,Int.neg_tmod];rfl⟩,rfl⟩
 ·have e3:((c % (n:Int)).toNat:Int)=c % n:=by
   rw [Int.toNat_of_nonneg (Int.emod_nonneg _ hz)]
  have e4:(c % (n:Int)).toNat<n:=by
   have h1:=Int.emod_nonneg c hz;have h2:=Int.emod_lt_of_pos c (show (0:Int)<n by omega);omega
  go_enter Try.func11,Try.ntmps11
  go_wp2_with fail
  go_ret;exact ⟨⟨_,e4,by rw [e3];rfl⟩,rfl⟩
namespace Mute
open Go Go.Conc
theorem enterPickK (x y:Value):EnterOk Try.prog plan 11 #[x,y]:=⟨by kernel_rfl,slots_noSlots plain Try.func11 (by kernel_rfl) _⟩
theorem pickK_calls (c:Int) (n:Nat) (w:World) (hn:0<n) (hn':n≤1000000) (h1:-9223372036854775808≤c) (h2:c≤9223372036854775807):
  CallsR Try.prog 11 #[.int .i64 c,.int .i64 n] w (fun v w'=>Below w.heap.size w w'∧∃r:Nat,r<n∧v=.int .i64 r):=by
 refine CallsR.ofBelow (enterPickK _ _) (fun v _=>∃r:Nat,r<n∧v=.int .i64 r) (fun τ=>(pickK_any c n (reW w τ 0) hn hn' h1 h2).mono ?_) fun v w₁ τ d d' h=>h;rintro e w' ⟨⟨r,hr,rfl⟩,rfl⟩;exact ⟨_,rfl,Below.refl _ _,r,hr,rfl⟩
end Mute
end Go.Proofs.Ytdoghgnifkgfdaa
