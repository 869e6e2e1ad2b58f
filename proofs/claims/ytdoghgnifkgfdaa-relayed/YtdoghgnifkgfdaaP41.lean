import Derived.Deep.AppendSrc
import Derived.Test.YtdoghgnifkgfdaaP40
set_option maxRecDepth 100000
set_option maxHeartbeats 16000000
namespace Go.Proofs.Ytdoghgnifkgfdaa.Mute
open Go Go.Conc Go.RowKit
def WtL (w:World) (base:Nat) (p:Option Addr) (c:Nat) (xs:List Int):Prop:=
 xs.length≤c∧((p=none∧c=0)∨∃g o m f,p=some ⟨g,o,none⟩∧base≤g∧RowF w g m 2 f∧o+c≤m∧∀j,j<xs.length→f (o+j)=.int .i64 (xs.getD j 0))
def pblk (p:Option Addr):Option Nat:=p.map (·.block)
section
variable {w w':World} {base c:Nat} {p:Option Addr} {xs:List Int} {x:Int}
theorem WtL.of_heap (h:WtL w base p c xs) (e:∀g,pblk p=some g→w'.heap[g]?=w.heap[g]?):WtL w' base p c xs:=by
 obtain ⟨hl,h|⟨g,o,m,f,rfl,hb,hr,h1,h2⟩⟩:=h
 ·exact ⟨hl,.inl h⟩
 ·exact ⟨hl,.inr ⟨g,o,m,f,rfl,hb,hr.of_heap (e g rfl),h1,h2⟩⟩
theorem WtL.lt (h:WtL w base p c xs) {g:Nat} (hg:pblk p=some g):base≤g∧g<w.heap.size:=by
 obtain ⟨hl,⟨rfl,_⟩|⟨g',o,m,f,rfl,hb,hr,h1,h2⟩⟩:=h
 ·cases hg
 ·cases hg;exact ⟨hb,hr.lt⟩
theorem WtL.nil (w:World) (base:Nat):WtL w base none 0 []:=⟨Nat.le_refl _,.inl ⟨rfl,rfl⟩⟩
theorem WtL.head (h:WtL w base p c (x::xs)):∃g o,p=some ⟨g,o,none⟩∧w.cell? ⟨g,o,none⟩=some (.int .i64 x)∧0<c:=by
 obtain ⟨hl,⟨rfl,hc⟩|⟨g,o,m,f,rfl,hb,hr,h1,h2⟩⟩:=h
 ·simp at hl;omega
 ·simp at hl;have e:=h2 0 (by simp);refine ⟨g,o,rfl,?_,by omega⟩;rw [hr.cell (by omega)];rw [Nat.add_zero] at e;rw [e];rfl
theorem WtL.tail (h:WtL w base p c (x::xs)):WtL w base (if c=1 then p else p.map (·.add 1)) (c-1) xs∧∀g,pblk (if c=1 then p else p.map (·.add 1))=some g→pblk p=some g:=by
 obtain ⟨hl,⟨rfl,hc⟩|⟨g,o,m,f,rfl,hb,hr,h1,h2⟩⟩:=h
 ·simp at hl;omega
 ·simp at hl;by_cases e:c=1
  ·rw [if_pos e];exact ⟨⟨by omega,.inr ⟨g,o,m,f,rfl,hb,hr,by omega,fun j hj=>by omega⟩⟩,fun _ h=>h⟩
  ·rw [if_neg e];refine ⟨⟨by omega,.inr ⟨g,o+1,m,f,rfl,hb,hr,by omega,fun j hj=>?_⟩⟩,fun _ h=>h⟩;have:=h2 (j+1) (by simp;omega);rw [show o+1+j=o+(j+1) by omega,this];rfl
theorem getD_map_int (L:List Int) (j:Nat) (h:j<L.length):(L.map (Value.int .i64 ·))[j]?=some (.int .i64 (L.getD j 0)):=by simp [h]
theorem zeroCells1 (n:Nat) {q:Nat} (h:q<n):(Builtin.zeroCells (Value.int .i64 0).cells n)[q]?=some (.int .i64 0):=by
 have h1c:(Value.int .i64 0).cells=#[.int .i64 0]:=rfl;rw [h1c];simp [Builtin.zeroCells,h,Nat.mod_one]
theorem WtL.append (h:WtL w base p c xs) (hx:xs.length≤1000) {b:Nat} (hr:RowF w b 1 2 (intsF [x])) (hne:∀g,pblk p=some g→g≠b) (hbase:base≤w.heap.size) (ty:TypeId):
  ∃p' c' w',(Builtin.append_ #[56,56] ty #[.slice p xs.length c,.slice (some ⟨b,0,none⟩) 1 1]).run Try.prog w=.ok (.slice p' (xs.length+1) c') w'∧WtL w' base p' c' (xs++[x])∧w.grownBy w' (pblk p)∧(pblk p'=pblk p∨pblk p'=some w.heap.size):=by
 obtain ⟨i,hi,hz,hsz,hby⟩:=info_parts info_i64;have hsrc:Src Try.prog i.size 56 (.slice (some ⟨b,0,none⟩) 1 1) 1 [.int .i64 x] w:=Src.ofSlice w (e':=2) Try.underlying56 ⟨b,0,none⟩ 1 1 [.int .i64 x] (by rw [hsz];rfl) (fun j u hu=>by
  have hj:j=0:=by have:=(List.getElem?_eq_some_iff.1 hu).1;simp at this;exact this
  subst hj;rw [Addr.add_lit,hr.cell (by omega)];simp at hu;rw [←hu];rfl) (fun u hu=>by simp at hu;subst hu;rfl)
 obtain ⟨hl,hh⟩:=h;by_cases hroom:xs.length+1≤c
 ·rcases hh with ⟨rfl,hc⟩|⟨g,o,m,f,rfl,hb,hrg,h1,h2⟩
  ·omega
  have hrun:=run_append_room_src w 56 56 ty 2 i Try.underlying56 hi g o xs.length c _ 1 [.int .i64 x] hsrc hroom (fun j hj=>by
   have hj:j=0:=by simpa using hj
   subst hj;rw [hsz,hrg.cell (by omega)];rfl) (fun j hj=>hrg.frozen _)
  rw [hsz,Nat.mul_one] at hrun;have hset:w.setCells g (o+xs.length) [.int .i64 x]=w.setCell ⟨g,o+xs.length,none⟩ (.int .i64 x):=rfl;rw [hset] at hrun;refine ⟨_,_,_,hrun,⟨by simpa using hroom,.inr ⟨g,o,m,_,rfl,hb,hrg.set (o+xs.length) _,h1,fun j hj=>?_⟩⟩,⟨rfl,rfl,rfl,by rw [size_setCell];exact Nat.le_refl _,fun k hk hn=>heap_setCell_other _ _ _ _ (fun e=>hn (by rw [e];rfl))⟩,.inl rfl⟩;simp at hj;by_cases e:j=xs.length
  ·subst e;rw [if_pos rfl];simp
  ·rw [if_neg (by omega),h2 j (by omega)];have hj2:j<xs.length:=by omega
   have e3:(xs++[x]).getD j 0=xs.getD j 0:=by simp only [List.getD,List.getElem?_append_left hj2]
   rw [e3]
 ·have hc:xs.length=c:=by omega
  have hold:(Builtin.firstCells i.size xs.length (.slice p xs.length c)).run Try.prog w.drew=.ok (xs.map (Value.int .i64 ·)).toArray w.drew:=by
   rcases hh with ⟨rfl,h0⟩|⟨g,o,m,f,rfl,hb,hrg,h1,h2⟩
   ·have:xs=[]:=List.eq_nil_of_length_eq_zero (by omega);subst this;exact run_firstCells_none w.drew i.size 0 0 c
   ·refine run_firstCells_some w.drew i.size xs.length _ xs.length c _ (by rw [hsz];simp) fun j u hu=>?_;have hj:j<xs.length:=by have:=(List.getElem?_eq_some_iff.1 hu).1;simpa using this
    have ha:(⟨g,o,none⟩:Addr).add j=⟨g,o+j,none⟩:=Addr.add_lit _ _ _;rw [ha];show w.cell? _=_;rw [hrg.cell (by omega),h2 j hj,←getD_map_int xs j hj];exact hu
  have hrun:=run_append_grow_src w 56 56 ty 2 i (.int .i64 0) Try.underlying56 hi hz p xs.length c _ hold _ 1 [.int .i64 x] hsrc (by omega) (by omega) (growslice_fits (by omega) (by rw [hby];omega));have hg:=grownCap_ge w (xs.length+1) c 2;refine ⟨_,_,_,hrun,⟨by simpa using hg,.inr ⟨w.heap.size,0,_,_,rfl,hbase,RowF.new w.drew _ 2 (fun j=>if j<xs.length+1 then .int .i64 ((xs++[x]).getD j 0) else .int .i64 0) (fun j hj=>?_),?_,fun j hj=>?_⟩⟩,⟨rfl,rfl,rfl,by simp,fun k hk _=>?_⟩,.inr rfl⟩
  ·have e1:(List.map (Value.int .i64 ·) xs++[Value.int .i64 x])=(xs++[x]).map (Value.int .i64 ·):=by simp
   rw [e1];by_cases hlt:j<xs.length+1
   ·rw [if_pos hlt,Array.getElem?_append_left (by simpa using hlt)];rw [List.getElem?_toArray];exact getD_map_int _ _ (by simpa using hlt)
   ·rw [if_neg hlt,Array.getElem?_append_right (by simp;omega)];have h1c:(Value.int .i64 0).cells.size=1:=rfl;have hj':j-(List.map (Value.int .i64 ·) (xs++[x])).toArray.size<grownCap w (xs.length+1) c 2-(xs.length+1):=by
     simp [size_zeroCells,h1c] at hj ⊢;omega
    generalize j-(List.map (Value.int .i64 ·) (xs++[x])).toArray.size=q at *;rw [zeroCells1 _ hj']
  ·show 0+_≤(_++_:Array Value).size;simp [size_zeroCells,show (Value.int .i64 0).cells.size=1 from rfl];omega
  ·rw [Nat.zero_add,if_pos (by simpa using hj)]
  ·exact heap_alloc_old w.drew _ hk
end
structure TwoL (w:World) (base:Nat) (p:Option Addr) (c:Nat) (xs:List Int) (v:Value) (ys:List Int):Prop where
 wt:WtL w base p c xs
 wa:w.ownsRow base 2 1 v ys.length (ys.map (Value.int .i64 ·))
 ne:∀g,pblk p=some g→v.ownBlock≠some g
section
variable {w w':World} {base c:Nat} {p:Option Addr} {xs ys:List Int} {v:Value} {x:Int}
theorem TwoL.keep (h:TwoL w base p c xs v ys) (e:∀g,base≤g→g<w.heap.size→w'.heap[g]?=w.heap[g]?):TwoL w' base p c xs v ys:=
 ⟨h.wt.of_heap fun g hg=>e g (h.wt.lt hg).1 (h.wt.lt hg).2,own_eq h.wa fun g hg=>e g (h.wa.lt g hg).1 (h.wa.lt g hg).2,h.ne⟩
theorem TwoL.alloc (h:TwoL w base p c xs v ys) (o:Obj):TwoL (w.alloc o) base p c xs v ys:=h.keep fun _ _ hg=>heap_alloc_old w o hg
theorem TwoL.tail (h:TwoL w base p c (x::xs) v ys):TwoL w base (if c=1 then p else p.map (·.add 1)) (c-1) xs v ys:=
 ⟨h.wt.tail.1,h.wa,fun g hg=>h.ne g (h.wt.tail.2 g hg)⟩
theorem TwoL.more (h:TwoL w base p c xs v ys) (L:List Int) {b m:Nat} (hm:L.length=m) (hr:RowF w b m 2 (intsF L)) (hb:ys.length+m≤1000) (hbase:base≤w.heap.size) (ty:TypeId):
  ∃p' c' w',(Builtin.append_ #[56,56] ty #[v,.slice (some ⟨b,0,none⟩) m m]).run Try.prog w=.ok (.slice p' (ys.length+m) c') w'∧TwoL w' base p c xs (.slice p' (ys.length+m) c') (ys++L)∧w.grownBy w' v.ownBlock∧((Value.slice p' (ys.length+m) c').ownBlock=v.ownBlock∨(Value.slice p' (ys.length+m) c').ownBlock=some w.heap.size):=by
 obtain ⟨i,hi,hz,hsz,hby⟩:=info_parts info_i64;obtain ⟨v',w',h1,h2,h3,_,h5⟩:=run_append_own_at (P:=Try.prog) w base 56 ty 2 i (.int .i64 0) 1 8 Try.underlying56 hi hz hsz hby rfl (by omega) v ys.length _ h.wa ⟨b,0,none⟩ m m (L.map (Value.int .i64 ·)) (by simp [hm]) (fun j u hu=>by
  have hj:j<m:=by have:=(List.getElem?_eq_some_iff.1 hu).1;simpa [hm] using this
  rw [Addr.add_lit,Nat.zero_add,hr.cell hj];unfold intsF;have hj':j<L.length:=by omega
  simp [hj'] at hu ⊢;exact hu) (fun u hu=>by
  obtain ⟨y,_,rfl⟩:=List.mem_map.1 hu;rfl) (by simp only [maxLen];omega) (by omega) hbase
 obtain ⟨p',c',rfl⟩:=own_form h2;refine ⟨p',c',w',h1,⟨h.wt.of_heap fun g hg=>h3.block g (h.wt.lt hg).2 (fun e=>h.ne g hg e.symm),?_,fun g hg=>?_⟩,h3,h5⟩
 ·rw [List.length_append,hm,List.map_append];exact h2
 ·rcases h5 with h5|h5
  ·rw [h5];exact h.ne g hg
  ·rw [h5];intro e;have:=(h.wt.lt hg).2;have:=Option.some.inj e;omega
theorem TwoL.push (h:TwoL w base p c xs v ys) (hx:xs.length≤1000) {b:Nat} (hr:RowF w b 1 2 (intsF [x])) (hne:∀g,pblk p=some g→g≠b) (hbase:base≤w.heap.size) (ty:TypeId):
  ∃p' c' w',(Builtin.append_ #[56,56] ty #[.slice p xs.length c,.slice (some ⟨b,0,none⟩) 1 1]).run Try.prog w=.ok (.slice p' (xs.length+1) c') w'∧TwoL w' base p' c' (xs++[x]) v ys∧w.grownBy w' (pblk p)∧(pblk p'=pblk p∨pblk p'=some w.heap.size):=by
 obtain ⟨p',c',w',h1,h2,h3,h4⟩:=h.wt.append hx hr hne hbase ty;refine ⟨p',c',w',h1,⟨h2,own_eq h.wa fun g hg=>h3.block g (h.wa.lt g hg).2 (fun e=>h.ne g e.symm hg),fun g hg e=>?_⟩,h3,h4⟩;rcases h4 with h4|h4
 ·rw [h4] at hg;exact h.ne g hg e
 ·rw [h4] at hg;have:=(h.wa.lt g e).2;have:=Option.some.inj hg;omega
end
structure MI (W0:World) (k:Ker) (N:NetK) (t:Tab) (st:KSq) (p:Option Addr) (c:Nat) (xs:List Int) (v:Value) (ys:List Int) (w:World):Prop where
 ker:∃fT lr S,KFullQ w k N t st fT lr 0 S∧(∀b,S b→W0.heap.size≤b)∧∀g,pblk p=some g∨v.ownBlock=some g→¬S g
 two:TwoL w W0.heap.size p c xs v ys
 bel:Below W0.heap.size W0 w
section
variable {W0 w w':World} {k:Ker} {N:NetK} {t:Tab} {st:KSq} {p:Option Addr} {c:Nat} {xs ys:List Int} {v:Value} {x:Int}
theorem MI.at (h:MI W0 k N t st p c xs v ys w) (d:Nat):MI W0 k N t st p c xs v ys (w.at d):=by
 obtain ⟨⟨fT,lr,S,h1,h2,h3⟩,h4,h5⟩:=h;exact ⟨⟨fT,lr,S,h1.keep (w':=w.at d) (fun _ _=>rfl) (Nat.le_refl _),h2,h3⟩,h4.keep (w':=w.at d) fun _ _ _=>rfl,⟨h5.os,h5.tape,h5.output,h5.size,h5.block⟩⟩
theorem MI.alloc (h:MI W0 k N t st p c xs v ys w) (o:Obj):MI W0 k N t st p c xs v ys (w.alloc o):=by
 obtain ⟨⟨fT,lr,S,h1,h2,h3⟩,h4,h5⟩:=h;exact ⟨⟨fT,lr,S,h1.keep (w':=w.alloc o) (fun b hb=>heap_alloc_old w o (h1.sz b hb)) (by simp),h2,h3⟩,h4.alloc o,h5.alloc h5.size o⟩
theorem MI.tail (h:MI W0 k N t st p c (x::xs) v ys w):MI W0 k N t st (if c=1 then p else p.map (·.add 1)) (c-1) xs v ys w:=by
 obtain ⟨⟨fT,lr,S,h1,h2,h3⟩,h4,h5⟩:=h;exact ⟨⟨fT,lr,S,h1,h2,fun g hg=>h3 g (hg.imp (h4.wt.tail.2 g) id)⟩,h4.tail,h5⟩
theorem MI.lower (h:MI W0 k N t st p c xs v ys w):∃fT lr S,KFullQ w k N t st fT lr 0 S∧∀b,S b→W0.heap.size≤b:=by
 obtain ⟨fT,lr,S,h1,h2,h3⟩:=h.ker;exact ⟨fT,lr,S,h1,h2⟩
theorem MI.more (h:MI W0 k N t st p c xs v ys w) (L:List Int) {m:Nat} (hm:L.length=m) (hb:ys.length+m≤1000) (ty:TypeId) (d:Nat):
  ∃p' c' w',(Builtin.append_ #[56,56] ty #[v,.slice (some ⟨w.heap.size,0,none⟩) m m]).run Try.prog ((w.alloc (.cells (L.map (Value.int .i64 ·)).toArray 2)).at d)=.ok (.slice p' (ys.length+m) c') w'∧MI W0 k N t st p c xs (.slice p' (ys.length+m) c') (ys++L) w':=by
 obtain ⟨⟨fT,lr,S,h1,h2,h3⟩,h4,h5⟩:=(h.alloc (.cells (L.map (Value.int .i64 ·)).toArray 2)).at d;have hr:=ints_row w L 2;rw [hm] at hr;obtain ⟨p',c',w',q1,q2,q3,q4⟩:=h4.more L hm (RowF.of_heap (w':=(w.alloc (.cells (L.map (Value.int .i64 ·)).toArray 2)).at d) hr rfl) hb h5.size ty;refine ⟨p',c',w',q1,⟨⟨fT,lr,S,h1.keep (fun b hb=>q3.block b (h1.sz b hb) fun e=>h3 b (.inr e.symm) hb) q3.size,h2,fun g hg hs=>?_⟩,q2,grown_below h5 h4.wa q3 (Nat.le_refl _) h5.size⟩⟩;rcases hg with hg|hg
 ·exact h3 g (.inl hg) hs
 ·rcases q4 with q4|q4
  ·rw [q4] at hg;exact h3 g (.inr hg) hs
  ·rw [q4] at hg;have:=h1.sz g hs;have:=Option.some.inj hg;omega
theorem MI.push (h:MI W0 k N t st p c xs v ys w) (hx:xs.length≤1000) (ty:TypeId) (d:Nat):
  ∃p' c' w',(Builtin.append_ #[56,56] ty #[.slice p xs.length c,.slice (some ⟨w.heap.size,0,none⟩) 1 1]).run Try.prog ((w.alloc (.cells (([x]:List Int).map (Value.int .i64 ·)).toArray 2)).at d)=.ok (.slice p' (xs.length+1) c') w'∧MI W0 k N t st p' c' (xs++[x]) v ys w':=by
 obtain ⟨⟨fT,lr,S,h1,h2,h3⟩,h4,h5⟩:=(h.alloc (.cells (([x]:List Int).map (Value.int .i64 ·)).toArray 2)).at d;have hr:=ints_row w [x] 2;obtain ⟨p',c',w',q1,q2,q3,q4⟩:=h4.push (b:=w.heap.size) hx (RowF.of_heap (w':=(w.alloc (.cells (([x]:List Int).map (Value.int .i64 ·)).toArray 2)).at d) hr rfl) (fun g hg=>by have:=(h.two.wt.lt hg).2;omega) h5.size ty;refine ⟨p',c',w',q1,⟨⟨fT,lr,S,h1.keep (fun b hb=>q3.block b (h1.sz b hb) fun e=>h3 b (.inl e.symm) hb) q3.size,h2,fun g hg hs=>?_⟩,q2,?_⟩⟩
 ·rcases hg with hg|hg
  ·rcases q4 with q4|q4
   ·rw [q4] at hg;exact h3 g (.inl hg) hs
   ·rw [q4] at hg;have:=h1.sz g hs;have:=Option.some.inj hg;omega
  ·exact h3 g (.inr hg) hs
 ·exact ⟨q3.os.trans h5.os,q3.tape.trans h5.tape,q3.output.trans h5.output,Nat.le_trans h5.size q3.size,fun b hb=>(q3.block b (Nat.lt_of_lt_of_le hb h5.size) fun e=>by have:=(h4.wt.lt e.symm).1;omega).trans (h5.block b hb)⟩
theorem MI.frame (h:MI W0 k N t st p c xs v ys w) {cf:Cfg} (hO:Of cf k N t) (h1:cf.nT=1) (hm:∀i,st.m i+1300≤1000000000) {ip:Option Addr} {il ic:Nat} {ins:List (Int×Int)} (hin:InW w (.slice ip il ic) ins (StatQ w)) (hil:il≤4):
  CallsR Try.prog 15 #[.pointer (some ⟨k.kb,0,none⟩),.slice ip il ic] w (fun r w'=>r=.int .i64 0∧MI W0 k N t (frameC cf 0 ins st) p c xs v ys w'):=by
 obtain ⟨⟨fT,lr,S,g1,g2,g3⟩,g4,g5⟩:=h;refine (g1.frame hm hin hil).mono ?_;rintro r w' ⟨rfl,f',lr',q1,q2⟩;rw [hO.frame,show (0+1) % t.nT=0 by rw [hO.nT,h1]] at q1;refine ⟨rfl,⟨⟨f',lr',_,q1,fun b hb=>hb.elim (g2 b) fun hb=>Nat.le_trans g5.size hb.1,fun g hg hs=>?_⟩,⟨g4.wt.of_heap fun g hg=>q2.block g (g4.wt.lt hg).2 (g3 g (.inl hg)),own_eq g4.wa fun g hg=>q2.block g (g4.wa.lt g hg).2 (g3 g (.inr hg)),g4.ne⟩,but_below g5 q2 g2 g5.size⟩⟩;rcases hs with hs|hs
 ·exact g3 g hg hs
 ·rcases hg with hg|hg
  ·have:=(g4.wt.lt hg).2;omega
  ·have:=(g4.wa.lt g hg).2;omega
end
theorem own_appendI {w:World} {base n b m:Nat} {v:Value} {xs:List Value} (h:w.ownsRow base 73 4 v n xs) (L:List Int) (hm:L.length=m*4) (hr:RowF w b L.length 73 (intsF L)) (hb:n+m≤1000) (hbase:base≤w.heap.size) (ty:TypeId):
  ∃v' w',(Builtin.append_ #[68,68] ty #[v,.slice (some ⟨b,0,none⟩) m m]).run Try.prog w=.ok v' w'∧w'.ownsRow base 73 4 v' (n+m) (xs++L.map (Value.int .i64 ·))∧w.grownBy w' v.ownBlock:=by
 have hinf:(Try.prog.info? 73).map (fun i=>(i.zero,i.size,i.bytes))=some (some (.agg #[.int .i64 0,.int .i64 0,.int .i64 0,.int .i64 0]),4,32):=by kernel_rfl
 obtain ⟨i,hi,hz,hsz,hby⟩:=info_parts hinf;obtain ⟨v',w',h1,h2,h3,_⟩:=run_append_own (P:=Try.prog) (w:=w) base 68 ty 73 i (.agg #[.int .i64 0,.int .i64 0,.int .i64 0,.int .i64 0]) 4 32 Try.underlying68 hi hz hsz hby rfl (by omega) v n xs h ⟨b,0,none⟩ m m (L.map (Value.int .i64 ·)) (by simp [hm]) (fun j u hu=>by
  have hj:j<L.length:=by have:=(List.getElem?_eq_some_iff.1 hu).1;simpa using this
  rw [Addr.add_lit,Nat.zero_add,hr.cell hj];unfold intsF;simp [hj] at hu ⊢;exact hu) (fun u hu=>by
  obtain ⟨y,_,rfl⟩:=List.mem_map.1 hu;rfl) (by simp only [maxLen];omega) (by omega) hbase
 exact ⟨v',w',h1,h2,h3⟩
theorem slz_own {w:World} {base n:Nat} {v:Value} {L:List Int} (h:w.ownsRow base 73 4 v n (L.map (Value.int .i64 ·))) (hn:0<n) (hn2:n≤1000):∃g c,v=.slice (some ⟨g,0,none⟩) n c∧n≤c∧g<w.heap.size∧SlZ w (.slice (some ⟨g,0,none⟩) n c) false n 4 (fun j=>L.getD j 0) 32:=by
 have hl:=h.1;rcases h.2 with ⟨_,h0⟩|⟨g,cap,cur,hv,hb,hg,h1,h2,h3,h4⟩
 ·omega
 ·subst hv;have hc:n≤cap:=by omega
  refine ⟨g,cap,rfl,hc,(Array.getElem?_eq_some_iff.1 hg).1,⟨_,cap,rfl,hc,by simp,fun h=>(by cases h),by omega,.inr ⟨g,0,rfl,fun j hj=>?_⟩⟩⟩;rw [Nat.zero_add];have hj':j<L.length:=by simp at hl;omega
  exact own_cellAt h (by simp [hj'])
theorem slz_own2 {w:World} {base n g c:Nat} {L:List Int} (h:w.ownsRow base 73 4 (.slice (some ⟨g,0,none⟩) n c) n (L.map (Value.int .i64 ·))) (hn:0<n) (hn2:n≤1000):SlZ w (.slice (some ⟨g,0,none⟩) n c) false n 4 (fun j=>L.getD j 0) 32:=by
 obtain ⟨g',c',e,_,_,h2⟩:=slz_own h hn hn2;injection e with e1 _ e3
 injection e1 with e1
 injection e1 with e1
 subst e1 e3;exact h2
theorem rl_slL {w:World} {b e m c:Nat} {p:Option Addr} {L:List Int} (h:w.ownsRow b e 1 (.slice p m c) m (L.map (Value.int .i64 ·))) (hm:m=L.length):Sl w p m (fun j=>.int .i64 (L.getD j 0)):=by
 subst hm;rcases h with ⟨hl,⟨hv,h0⟩|⟨g0,cap,cur,hv,hb,hh,h1⟩⟩
 ·exact .inl h0
 ·injection hv with hv _ hc
  subst hv hc;have ho:w.ownsRow b e 1 (.slice (some ⟨g0,0,none⟩) L.length c) L.length (L.map (Value.int .i64 ·)):=⟨hl,.inr ⟨g0,c,cur,rfl,hb,hh,h1⟩⟩;exact .inr ⟨g0,0,rfl,fun j hj=>by rw [Nat.zero_add];exact own_cellAt ho (by simp [hj])⟩
theorem sl_ownE {w:World} {b e s n c:Nat} {p:Option Addr} {g:Nat→Value} (h:w.ownsRow b e s (.slice p n c) n ((List.range (n*s)).map g)):Sl w p (n*s) g:=by
 rcases h with ⟨hl,⟨hv,h0⟩|⟨g0,cap,cur,hv,hb,hh,h1⟩⟩
 ·subst h0;exact .inl (by simp)
 ·injection hv with hv _ hc
  subst hv hc;have ho:w.ownsRow b e s (.slice (some ⟨g0,0,none⟩) n c) n ((List.range (n*s)).map g):=⟨hl,.inr ⟨g0,c,cur,rfl,hb,hh,h1⟩⟩;exact .inr ⟨g0,0,rfl,fun j hj=>by rw [Nat.zero_add];exact own_cellAt ho (by simp [hj])⟩
theorem cfg2_RS {w:World} {L0 L1 rw dv:List Int} {n0 n1 c0 c1 b0 b1 bc bw bt bh t2 t3 t4 t5:Nat} {lm:Int} {v3:Value} {dvn:Bool} (h0:SlZ w (.slice (some ⟨b0,0,none⟩) n0 c0) false n0 4 (fun j=>L0.getD j 0) 32) (h1:SlZ w (.slice (some ⟨b1,0,none⟩) n1 c1) false n1 4 (fun j=>L1.getD j 0) 32) (hc:RowF w bc 6 t2 (cellsF b0 n0 c0 b1 n1 c1 lm)) (hw:RowF w bw 4 t3 (intsF rw)) (ht:RowF w bt 1 t4 (fun _=>.slice (some ⟨bw,0,none⟩) 2 2)) (hh:RowF w bh 3 t5 (intsF [1,0,1])) (hd:SlZ w v3 dvn dv.length 1 (fun j=>dv.getD j 0) 8):
  CfgR w (.slice (some ⟨bc,0,none⟩) 2 2) (.slice (some ⟨bt,0,none⟩) 1 1) (.slice (some ⟨bh,0,none⟩) 1 1) v3 (cfg2 L0 L1 n0 n1 lm rw dvn dv):=by
 refine ⟨⟨_,2,cellsF b0 n0 c0 b1 n1 c1 lm,rfl,Nat.le_refl _,by simp [cfg2],fun h=>(by cases h),by show 56*2≤140737488355328;omega,.inr ⟨bc,0,rfl,fun j hj=>?_⟩,fun i hi=>?_⟩,⟨_,1,fun _=>.slice (some ⟨bw,0,none⟩) 2 2,rfl,Nat.le_refl _,by simp [cfg2],fun h=>(by cases h),by show 24*1≤140737488355328;omega,.inr ⟨bt,0,rfl,fun j hj=>?_⟩,fun i hi=>?_⟩,slz_of hh (by decide) (Nat.le_refl _) (by decide) rfl,hd⟩
 ·rw [Nat.zero_add];exact hc.cell hj
 ·have hi:i<2:=hi;have:i=0∨i=1:=by omega
  have nl:SlZ w (.slice none 0 0) true 0 1 (fun _=>0) 8:=⟨none,0,rfl,Nat.le_refl _,by simp,fun _=>⟨rfl,rfl⟩,by decide,.inl rfl⟩;rcases this with rfl|rfl
  ·exact ⟨h0,nl,rfl⟩
  ·exact ⟨h1,nl,rfl⟩
 ·rw [Nat.zero_add];exact ht.cell hj
 ·exact slz_of hw (by show 2*2≤4;omega) (Nat.le_refl _) (by decide) rfl
theorem in_one {w:World} {b:Nat} {x:Int} (h:RowF w b 2 79 (intsF [0,x])):InW w (.slice (some ⟨b,0,none⟩) (1:Nat) (1:Nat)) [(0,x)] (StatQ w):=by
 refine ⟨some ⟨b,0,none⟩,1,rfl,fun j y hj=>?_⟩;have hj0:j=0:=by have:=(List.getElem?_eq_some_iff.1 hj).1;simpa using this
 subst hj0;obtain rfl:(0,x)=y:=by simpa using hj
 have h1:=h.cell (j:=0) (by omega);have h2:=h.cell (j:=1) (by omega);obtain ⟨cs,hh,_⟩:=h;exact ⟨b,0,rfl,⟨cs,_,_,hh,by decide,by decide,by decide,by decide,by decide,by decide⟩,h1,h2⟩
theorem run_tail {ρ:Operand→Value} {o:Oper} {x:Operand} {p:Option Addr} {n c:Nat} (w:World) (ho:o.op=.slice 56 x (some (.const (.int .i64 1))) none none) (h1:ρ (.const (.int .i64 1))=.int .i64 1) (hx:ρ x=.slice p n c) (hn:0<n) (_hc:n≤c):
  (execOp ρ o).run Try.prog w=.ok (.value (.slice (if c=1 then p else p.map (·.add 1)) (n-1:Nat) (c-1:Nat))) w∧(execOp ρ o).events Try.prog w #[]=#[]:=by
 obtain ⟨i,hi,hz,hsz,hby⟩:=info_parts info_i64;have h01:(1:Int)≤(n:Int):=by omega
 unfold execOp;simp only [ho];constructor
 ·simp [Instr.slice,Instr.sliceAt,Instr.sliceBounds,Instr.sliceBound,h1,hx,run_underlying Try.underlying56,sizeOf,typeInfo,hi,hsz,h01,go_sem]
 ·simp [h1,hx,go_sem,ev_sliceL Try.underlying56 p n c (show (0:Int)≤1 by omega) h01]
theorem rel_ok {s t:Nat} (hs:s≤6) (ht:t≤6):CheckIs (relC s t) 0 0:=by
 have h0:∀k,k<s+3→InsAt (relC s t) 0 k:=fun k hk=>by
  have h7:s=0∨s=1∨s=2∨s=3∨s=4∨s=5∨s=6:=by omega
  have h9:k=0∨k=1∨k=2∨k=3∨k=4∨k=5∨k=6∨k=7∨k=8:=by omega
  unfold InsAt InsOk UseOk;rcases h7 with rfl|rfl|rfl|rfl|rfl|rfl|rfl<;>rcases h9 with rfl|rfl|rfl|rfl|rfl|rfl|rfl|rfl|rfl<;>first|omega|simp [relC,cfg2,relL0,List.replicate]
 have h1:∀k,k<3*t+4→InsAt (relC s t) 1 k:=fun k hk=>by
  have hcode:∀j,(relC s t).code 1 j=(relL1 t).getD j 0:=fun _=>rfl;have key:((relL1 t).getD (k*4) 0=12∧(relL1 t).getD (k*4+1) 0=0∧(relL1 t).getD (k*4+2) 0=1∧(relL1 t).getD (k*4+3) 0=0)∨((relL1 t).getD (k*4) 0=15∧(relL1 t).getD (k*4+1) 0∈[(0:Int),1,2]∧(relL1 t).getD (k*4+2) 0=0∧(relL1 t).getD (k*4+3) 0=0)∨((relL1 t).getD (k*4) 0=16∧(relL1 t).getD (k*4+1) 0=2∧(relL1 t).getD (k*4+2) 0=0∧(relL1 t).getD (k*4+3) 0=0)∨((relL1 t).getD (k*4) 0∈[(0:Int),8]∧(relL1 t).getD (k*4+1) 0=0∧(relL1 t).getD (k*4+2) 0=0∧(relL1 t).getD (k*4+3) 0=0):=by
   have hd:∀t∈List.range 7,∀k∈List.range (3*t+4),(((relL1 t).getD (k*4) 0=12∧(relL1 t).getD (k*4+1) 0=0∧(relL1 t).getD (k*4+2) 0=1∧(relL1 t).getD (k*4+3) 0=0)∨((relL1 t).getD (k*4) 0=15∧(relL1 t).getD (k*4+1) 0∈[(0:Int),1,2]∧(relL1 t).getD (k*4+2) 0=0∧(relL1 t).getD (k*4+3) 0=0)∨((relL1 t).getD (k*4) 0=16∧(relL1 t).getD (k*4+1) 0=2∧(relL1 t).getD (k*4+2) 0=0∧(relL1 t).getD (k*4+3) 0=0)∨((relL1 t).getD (k*4) 0∈[(0:Int),8]∧(relL1 t).getD (k*4+1) 0=0∧(relL1 t).getD (k*4+2) 0=0∧(relL1 t).getD (k*4+3) 0=0)):=by decide +kernel
   exact hd t (List.mem_range.2 (by omega)) k (List.mem_range.2 hk)
  unfold InsAt;simp only [hcode];rcases key with ⟨e0,e1,e2,e3⟩|⟨e0,e1,e2,e3⟩|⟨e0,e1,e2,e3⟩|⟨e0,e1,e2,e3⟩
  ·rw [e0,e1,e2,e3];unfold InsOk UseOk;simp [relC,cfg2]
  ·rw [e0,e2,e3];simp only [List.mem_cons,List.not_mem_nil,or_false] at e1;unfold InsOk UseOk;rcases e1 with e1|e1|e1<;>rw [e1]<;>simp [relC,cfg2]
  ·rw [e0,e1,e2,e3];unfold InsOk UseOk;simp [relC,cfg2]
  ·rw [e1,e2,e3];simp only [List.mem_cons,List.not_mem_nil,or_false] at e0;unfold InsOk UseOk;rcases e0 with e0|e0<;>rw [e0]<;>simp [relC,cfg2]<;>omega
 refine cfg2_ok ⟨by omega,by omega⟩ ⟨by omega,by omega⟩ ⟨by omega,by omega⟩ ⟨by omega,fun j hj=>?_,by decide⟩ (by decide) (fun j hj=>?_) h0 h1
 ·have:j=0∨j=1:=by omega
  rcases this with rfl|rfl
  ·exact ⟨by decide,by decide,by decide⟩
  ·exact ⟨by decide,by decide,by decide⟩
 ·have hj:j<1:=hj;obtain rfl:j=0:=by omega
  exact ⟨by decide,by decide⟩
theorem rel_cfgW (s t:Nat):CfgW (relC s t):=cfgW_of fun i hi=>by
 have hi:i<2:=hi;have fl:∀(n:Nat) (B T:List Int),(∀x∈B,-9223372036854775808≤x∧x≤9223372036854775807)→(∀x∈T,-9223372036854775808≤x∧x≤9223372036854775807)→∀x∈(List.replicate n B).flatten++T,-9223372036854775808≤x∧x≤9223372036854775807:=fun n B T h1 h2 x hx=>by
  rcases List.mem_append.1 hx with hx|hx
  ·obtain ⟨l,hl,hx⟩:=List.mem_flatten.1 hx;rw [(List.mem_replicate.1 hl).2] at hx;exact h1 x hx
  ·exact h2 x hx
 have:i=0∨i=1:=by omega
 rcases this with rfl|rfl
 ·refine ⟨relL0 s,rfl,fun x hx=>?_⟩;rcases List.mem_append.1 hx with hx|hx
  ·simp only [List.mem_cons,List.not_mem_nil,or_false] at hx;omega
  ·exact fl s _ _ (by decide) (by decide) x hx
 ·exact ⟨relL1 t,rfl,fl t _ _ (by decide) (by decide)⟩
end Go.Proofs.Ytdoghgnifkgfdaa.Mute
