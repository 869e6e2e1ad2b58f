import Derived.Test.YtdoghgnifkgfdaaP38
set_option maxRecDepth 100000
set_option maxHeartbeats 16000000
namespace Go.Proofs.Ytdoghgnifkgfdaa.Mute
open Go Go.Conc Go.RowKit
def cfg2 (L0 L1:List Int) (n0 n1:Nat) (lm:Int) (rw:List Int) (dvn:Bool) (dv:List Int):Cfg where
 cellsN:=false
 nC:=2
 lim:=fun i=>if i=0 then lm else 0
 codeN:=fun _=>false
 nCode:=fun i=>if i=0 then n0 else n1
 code:=fun i j=>(if i=0 then L0 else L1).getD j 0
 imgN:=fun _=>true
 nImg:=fun _=>0
 img:=fun _ _=>0
 tableN:=false
 nT:=1
 rowN:=fun _=>false
 nRow:=fun _=>2
 row:=fun _ j=>rw.getD j 0
 chN:=false
 nCh:=1
 ch:=fun j=>[1,0,1].getD j 0
 dvN:=dvn
 nD:=dv.length
 dv:=fun j=>dv.getD j 0
def intsF (L:List Int) (j:Nat):Value:=.int .i64 (L.getD j 0)
theorem ints_row (w:World) (L:List Int) (t:Nat):RowF (w.alloc (.cells (L.map (Value.int .i64 ·)).toArray t)) w.heap.size L.length t (intsF L):=by
 have h:=RowF.new w (L.map (Value.int .i64 ·)).toArray t (intsF L) (fun j hj=>by
  have hj:j<L.length:=by simpa using hj
  unfold intsF;simp [hj])
 simpa using h
def cellsF (b0 n0 c0 b1 n1 c1:Nat) (lm:Int) (j:Nat):Value:=if j=0 then .slice (some ⟨b0,0,none⟩) n0 c0 else if j=1 then .slice none 0 0 else if j=2 then .int .i64 lm else if j=3 then .slice (some ⟨b1,0,none⟩) n1 c1 else if j=4 then .slice none 0 0 else .int .i64 0
theorem cells_row (w:World) (b0 n0 c0 b1 n1 c1:Nat) (lm:Int) (t:Nat):RowF (w.alloc (.cells #[.slice (some ⟨b0,0,none⟩) n0 c0,.slice none 0 0,.int .i64 lm,.slice (some ⟨b1,0,none⟩) n1 c1,.slice none 0 0,.int .i64 0] t)) w.heap.size 6 t (cellsF b0 n0 c0 b1 n1 c1 lm):=
 RowF.new w #[.slice (some ⟨b0,0,none⟩) n0 c0,.slice none 0 0,.int .i64 lm,.slice (some ⟨b1,0,none⟩) n1 c1,.slice none 0 0,.int .i64 0] t _ fun j hj=>by
  have:j=0∨j=1∨j=2∨j=3∨j=4∨j=5:=by simp at hj;omega
  rcases this with rfl|rfl|rfl|rfl|rfl|rfl<;>rfl
theorem one_row (w:World) (v:Value) (t:Nat):RowF (w.alloc (.cells #[v] t)) w.heap.size 1 t (fun _=>v):=
 RowF.new w #[v] t _ fun j hj=>by
  have:j=0:=by simpa using hj
  subst this;rfl
section
variable {w:World} {L0 L1 rw dv:List Int} {n0 n1 c0 c1 b0 b1 bc bw bt bh m0 m1 t0 t1 t2 t3 t4 t5:Nat} {lm:Int}
theorem slz_of {w:World} {L:List Int} {b n c k m t bn:Nat} {nl:Bool} (h:RowF w b m t (intsF L)) (hm:n*k≤m) (hc:n≤c) (hb:bn*n≤140737488355328) (hnl:nl=false):SlZ w (.slice (some ⟨b,0,none⟩) n c) nl n k (fun j=>L.getD j 0) bn:=
 ⟨_,c,rfl,hc,by rw [hnl];simp,fun h=>(by cases h),hb,.inr ⟨b,0,rfl,fun j hj=>by rw [Nat.zero_add];exact h.cell (by omega)⟩⟩
theorem cfg2_R {v3:Value} {dvn:Bool} (h0:RowF w b0 m0 t0 (intsF L0)) (hm0:n0*4≤m0) (hc0:n0≤c0) (h1:RowF w b1 m1 t1 (intsF L1)) (hm1:n1*4≤m1) (hc1:n1≤c1) (hn:n0≤1000∧n1≤1000) (hc:RowF w bc 6 t2 (cellsF b0 n0 c0 b1 n1 c1 lm)) (hw:RowF w bw 4 t3 (intsF rw)) (ht:RowF w bt 1 t4 (fun _=>.slice (some ⟨bw,0,none⟩) 2 2)) (hh:RowF w bh 3 t5 (intsF [1,0,1])) (hd:SlZ w v3 dvn dv.length 1 (fun j=>dv.getD j 0) 8):
  CfgR w (.slice (some ⟨bc,0,none⟩) 2 2) (.slice (some ⟨bt,0,none⟩) 1 1) (.slice (some ⟨bh,0,none⟩) 1 1) v3 (cfg2 L0 L1 n0 n1 lm rw dvn dv):=by
 refine ⟨⟨_,2,cellsF b0 n0 c0 b1 n1 c1 lm,rfl,Nat.le_refl _,by simp [cfg2],fun h=>(by cases h),by show 56*2≤140737488355328;omega,.inr ⟨bc,0,rfl,fun j hj=>?_⟩,fun i hi=>?_⟩,⟨_,1,fun _=>.slice (some ⟨bw,0,none⟩) 2 2,rfl,Nat.le_refl _,by simp [cfg2],fun h=>(by cases h),by show 24*1≤140737488355328;omega,.inr ⟨bt,0,rfl,fun j hj=>?_⟩,fun i hi=>?_⟩,slz_of hh (by decide) (Nat.le_refl _) (by decide) rfl,hd⟩
 ·rw [Nat.zero_add];exact hc.cell hj
 ·have hi:i<2:=hi;have:i=0∨i=1:=by omega
  have nl:SlZ w (.slice none 0 0) true 0 1 (fun _=>0) 8:=⟨none,0,rfl,Nat.le_refl _,by simp,fun _=>⟨rfl,rfl⟩,by decide,.inl rfl⟩;rcases this with rfl|rfl
  ·exact ⟨slz_of h0 hm0 hc0 (by show 32*n0≤_;omega) rfl,nl,rfl⟩
  ·exact ⟨slz_of h1 hm1 hc1 (by show 32*n1≤_;omega) rfl,nl,rfl⟩
 ·rw [Nat.zero_add];exact ht.cell hj
 ·exact slz_of hw (by show 2*2≤4;omega) (Nat.le_refl _) (by decide) rfl
end
theorem box4_set {W:World} {g t:Nat} {a b c d a' b' c' d':Value} (h:RowF W g 4 t (cells4 a b c d)):
  RowF ((((W.setCell ⟨g,0,none⟩ a').setCell ⟨g,1,none⟩ b').setCell ⟨g,2,none⟩ c').setCell ⟨g,3,none⟩ d') g 4 t (cells4 a' b' c' d')∧(∀x,x≠g→((((W.setCell ⟨g,0,none⟩ a').setCell ⟨g,1,none⟩ b').setCell ⟨g,2,none⟩ c').setCell ⟨g,3,none⟩ d').heap[x]?=W.heap[x]?)∧((((W.setCell ⟨g,0,none⟩ a').setCell ⟨g,1,none⟩ b').setCell ⟨g,2,none⟩ c').setCell ⟨g,3,none⟩ d').heap.size=W.heap.size:=by
 refine ⟨((((h.set 0 a').set 1 b').set 2 c').set 3 d').congr fun j hj=>?_,fun x hx=>?_,?_⟩
 ·have:j=0∨j=1∨j=2∨j=3:=by omega
  rcases this with rfl|rfl|rfl|rfl<;>rfl
 ·rw [heap_setCell_other _ _ _ _ hx,heap_setCell_other _ _ _ _ hx,heap_setCell_other _ _ _ _ hx,heap_setCell_other _ _ _ _ hx]
 ·rw [size_setCell,size_setCell,size_setCell,size_setCell]
theorem cfgW_of {c:Cfg} (h:∀i,i<c.nC→∃L:List Int,c.code i=(fun j=>L.getD j 0)∧∀x∈L,-9223372036854775808≤x∧x≤9223372036854775807):CfgW c:=fun i hi j _=>by
 obtain ⟨L,e,hL⟩:=h i hi;rw [e];show -9223372036854775808≤L.getD j 0∧L.getD j 0≤9223372036854775807;by_cases hj:j<L.length
 ·have:L.getD j 0=L[j]:=by simp [hj]
  rw [this];exact hL _ (List.getElem_mem hj)
 ·have:L.getD j 0=0:=by simp [Nat.not_lt.1 hj]
  rw [this];omega
theorem in_nil {w:World} {F:Nat→Prop}:InW w (.slice none (0:Nat) (0:Nat)) [] F:=⟨none,0,rfl,fun j x h=>by simp at h⟩
theorem but_below {S:Nat→Prop} {n:Nat} {w a b:World} (h:Below n w a) (hb:But S a b) (hs:∀x,S x→n≤x) (hn:n≤a.heap.size):Below n w b:=
 ⟨hb.os.trans h.os,hb.tape.trans h.tape,hb.output.trans h.output,Nat.le_trans h.size hb.size,fun x hx=>(hb.block x (by omega) fun e=>by have:=hs x e;omega).trans (h.block x hx)⟩
theorem check_of {c:Cfg} (h1:NCok c) (h2:NTok c) (h3:AllOk (RowAt c) c.nT) (h4:c.nCh≤8) (h5:AllOk (ChOk c) c.nCh) (h6:c.nD≤4) (h7:AllOk (DvOk c) c.nD) (h8:AllOk (CellOk c) c.nC):CheckIs c 0 0:=by
 unfold CheckIs;exact .inr (.inr (.inr (.inr (.inr (.inr (.inr (.inr ⟨h1,h2,h3,h4,h5,h6,h7,h8,rfl,rfl⟩)))))))
def cK (C:Nat→Chn) (wl sl:List Int) (l sh ag wr:Int) (an:Bool) (j:Nat):Chn:=if j=0 then ⟨wl,sl,l,sh,ag,wr,an⟩ else C j
def evs (E:List (Int×Int×Int)):List Value:=E.flatMap fun e=>[.int .i64 e.1,.int .i64 e.2.1,.int .i64 e.2.2]
def evT (e:Int×Int×Int):Value:=.agg #[.int .i64 e.1,.int .i64 e.2.1,.int .i64 e.2.2]
theorem evs_append (E F:List (Int×Int×Int)):evs (E++F)=evs E++evs F:=by simp [evs]
theorem evs_of (E:List (Int×Int×Int)):(E.map evT).flatMap evCells=evs E:=by
 induction E with
 |nil=>rfl
 |cons e E ih=>
  rw [List.map_cons,List.flatMap_cons,ih];rfl
theorem evs_at:∀(E:List (Int×Int×Int)) (j:Nat),j<E.length*3→(evs E)[j]?=some (.int .i64 (if j % 3=0 then (E.getD (j / 3) (0,0,0)).1 else if j % 3=1 then (E.getD (j / 3) (0,0,0)).2.1 else (E.getD (j / 3) (0,0,0)).2.2))
 | [],j,h=>absurd h (by simp)
 |e::E,j,h=>by
  have hc:evs (e::E)=.int .i64 e.1::.int .i64 e.2.1::.int .i64 e.2.2::evs E:=rfl;rw [hc]
  match j,h with
  |0,_=>rfl
  |1,_=>rfl
  |2,_=>rfl
  |j+3,h=>
   have h':j<E.length*3:=by simp at h;omega
   have:=evs_at E j h';have e1:(j+3) % 3=j % 3:=by omega
   have e2:(j+3) / 3=j / 3+1:=by omega
   rw [e1,e2];simpa using this
theorem evs_len (E:List (Int×Int×Int)):(evs E).length=E.length*3:=by
 induction E with
 |nil=>rfl
 |cons e E ih=>simp [evs] at ih ⊢;omega
theorem evs_range (E:List (Int×Int×Int)):evs E=(List.range (E.length*3)).map fun j=>.int .i64 (if j % 3=0 then (E.getD (j / 3) (0,0,0)).1 else if j % 3=1 then (E.getD (j / 3) (0,0,0)).2.1 else (E.getD (j / 3) (0,0,0)).2.2):=by
 apply List.ext_getElem?;intro j;by_cases h:j<E.length*3
 ·rw [evs_at E j h];simp [h]
 ·rw [List.getElem?_eq_none (by rw [evs_len];omega),List.getElem?_eq_none (by simp;omega)]
def saids (E:List (Int×Int×Int)):List Int:=E.filterMap fun e=>if e.1=1 then some e.2.1 else none
def TrIs (xs:List Value) (m:Nat) (i:Nat) (L:List Int):Prop:=∃E,xs=evs E∧m=E.length∧E.length≤3*i∧saids E=L
def saidA (r x:Nat):Nat→List Int
 |0=>[]
 |i+1=>saidA r x i++(if i<r*(x+1) then [((i % r:Nat):Int)+1] else [])
def waitA (r x:Nat):Nat→List Int
 |0=>[]
 |i+1=>if i<r*(x+1)∧i % r+1≠r then [((i % r:Nat):Int)+1] else []
def heardA (r x:Nat):Nat→List Int
 |0=>[]
 |i+1=>heardA r x i++(if waitA r x i=[] then [0,0] else [(waitA r x i).headD 0,1])
structure SA (r x i:Nat) (s:KSq):Prop where
 z45:s.z 0 45=if i % r=0∨r*(x+1)≤i then 0 else 11
 z29:s.z 0 29=if r*(x+1)≤i then 0 else ((i % r:Nat):Int)
 z47:s.z 0 47=if r*(x+1)≤i then (x:Int)+1 else ((i / r:Nat):Int)
 z3:s.z 0 3=x
 z24:s.z 0 24=0
 z8:s.z 0 8=0
 y45:s.z 1 45=if i=0 then 0 else 4
 y47:s.z 1 47=0
 y3:s.z 1 3=0
 y24:s.z 1 24=0
 y8:s.z 1 8=0
 sent:(s.D 0).sent=[]
 wait:(s.D 0).wait=waitA r x i
 e0:TrIs (s.xs 0) (s.m 0) i (saidA r x i)
 e1:TrIs (s.xs 1) (s.m 1) i (heardA r x i)
 mO:∀j,2≤j→s.m j=0
structure RuS where
 steps:Int
 broken:Int
 last:Bool
 at_:Nat
def OkE (lim:Int) (B:List Int) (s:RuS) (e:Int×Int×Int) (s':RuS):Prop:=
 (e.1=1∧s.last=false∧s.broken≤lim∧s'=s)∨
 (e.1=2∧s.last=false∧e.2.2=s.broken+1∧1≤e.2.1∧e.2.1≤3∧s.broken≤lim∧s'=⟨s.steps,s.broken+1,true,s.at_⟩)∨
 (e.1=3∧s.at_<B.length∧s'=⟨s.steps+e.2.1,s.broken,false,s.at_+1⟩∧
  ((s.last=false∧lim<s.broken∧e.2.1=0∧e.2.2=4)∨
   (s.last=true∧e.2.2=3∧1≤e.2.1∧e.2.1≤B.getD s.at_ 0)∨
   (s.last=false∧s.broken≤lim∧e.2.2=1∧1≤e.2.1∧e.2.1≤B.getD s.at_ 0)∨
   (s.last=false∧s.broken≤lim∧e.2.2=2∧1≤e.2.1∧e.2.1=B.getD s.at_ 0)))
inductive Rd (lim:Int) (B:List Int):RuS→List (Int×Int×Int)→RuS→Prop
 |nil (s:RuS):Rd lim B s [] s
 |cons {s s1 s2:RuS} {e:Int×Int×Int} {E:List (Int×Int×Int)}:OkE lim B s e s1→Rd lim B s1 E s2→Rd lim B s (e::E) s2
section
variable {lim:Int} {B C:List Int} {s s1 s2 s':RuS} {e:Int×Int×Int} {E F:List (Int×Int×Int)}
theorem Rd.append (h:Rd lim B s E s1) (k:Rd lim B s1 F s2):Rd lim B s (E++F) s2:=by
 induction h with
 |nil=>exact k
 |cons h1 _ ih=>exact .cons h1 (ih k)
theorem OkE.more (h:OkE lim B s e s'):OkE lim (B++C) s e s':=by
 rcases h with h|h|⟨h1,h2,h3,h4⟩
 ·exact .inl h
 ·exact .inr (.inl h)
 ·have e:(B++C).getD s.at_ 0=B.getD s.at_ 0:=by simp only [List.getD,List.getElem?_append_left h2]
  refine .inr (.inr ⟨h1,by rw [List.length_append];omega,h3,?_⟩);rw [e];exact h4
theorem Rd.more (h:Rd lim B s E s'):Rd lim (B++C) s E s':=by
 induction h with
 |nil=>exact .nil _
 |cons h1 _ ih=>exact .cons h1.more ih
theorem Rd.said (hE:∀e∈E,e.1=1) (h1:s.last=false) (h2:s.broken≤lim):Rd lim B s E s:=by
 induction E with
 |nil=>exact .nil _
 |cons e E ih=>exact .cons (.inl ⟨hE e (List.mem_cons_self ..),h1,h2,rfl⟩) (ih fun x hx=>hE x (List.mem_cons_of_mem _ hx))
theorem OkE.le (h:OkE lim B s e s'):s.steps≤s'.steps∧s.broken≤s'.broken∧s.at_≤s'.at_:=by
 rcases h with ⟨_,_,_,rfl⟩|⟨_,_,_,_,_,_,rfl⟩|⟨_,_,rfl,h4⟩
 ·exact ⟨Int.le_refl _,Int.le_refl _,Nat.le_refl _⟩
 ·exact ⟨Int.le_refl _,by show s.broken≤s.broken+1;omega,Nat.le_refl _⟩
 ·have:0≤e.2.1:=by omega
  exact ⟨by show s.steps≤s.steps+e.2.1;omega,Int.le_refl _,Nat.le_succ _⟩
theorem Rd.fn (h:Rd lim B s E s'):∃st:Nat→RuS,st 0=s∧st E.length=s'∧(∀k,k<E.length→OkE lim B (st k) (E.getD k (0,0,0)) (st (k+1)))∧∀k,k≤E.length→(s.steps≤(st k).steps∧s.broken≤(st k).broken)∧(st k).steps≤s'.steps∧(st k).broken≤s'.broken∧(st k).at_≤s'.at_:=by
 induction h with
 |nil s=>exact ⟨fun _=>s,rfl,rfl,fun k hk=>absurd hk (by simp),fun k _=>⟨⟨Int.le_refl _,Int.le_refl _⟩,Int.le_refl _,Int.le_refl _,Nat.le_refl _⟩⟩
 | @cons s s1 s2 e E h1 _ ih=>
  obtain ⟨st,g1,g2,g3,g4⟩:=ih;have hle:=h1.le;have b0:=g4 0 (Nat.zero_le _);rw [g1] at b0;refine ⟨fun k=>if k=0 then s else st (k-1),rfl,?_,fun k hk=>?_,fun k hk=>?_⟩
  ·show (if E.length+1=0 then s else st (E.length+1-1))=s2;rw [if_neg (by omega)];exact g2
  ·have hk:k<E.length+1:=hk;cases k with
   |zero=>
    show OkE lim B s e (if 0+1=0 then s else st (0+1-1));rw [if_neg (by omega)];show OkE lim B s e (st 0);rw [g1];exact h1
   |succ k=>
    show OkE lim B (if k+1=0 then s else st (k+1-1)) (E.getD k (0,0,0)) (if k+1+1=0 then s else st (k+1+1-1));rw [if_neg (by omega),if_neg (by omega)];exact g3 k (by omega)
  ·have hk:k≤E.length+1:=hk;cases k with
   |zero=>
    show (s.steps≤s.steps∧s.broken≤s.broken)∧s.steps≤s2.steps∧s.broken≤s2.broken∧s.at_≤s2.at_;omega
   |succ k=>
    show (s.steps≤(if k+1=0 then s else st (k+1-1)).steps∧s.broken≤(if k+1=0 then s else st (k+1-1)).broken)∧(if k+1=0 then s else st (k+1-1)).steps≤s2.steps∧(if k+1=0 then s else st (k+1-1)).broken≤s2.broken∧(if k+1=0 then s else st (k+1-1)).at_≤s2.at_;rw [if_neg (by omega)];have:=g4 k (by omega);show (s.steps≤(st k).steps∧s.broken≤(st k).broken)∧(st k).steps≤s2.steps∧(st k).broken≤s2.broken∧(st k).at_≤s2.at_;omega
end
def Cnt (z z':Nat→Int):Prop:=z' 3=z 3∧z' 46=z 46+1∧z' 47=z 47
theorem Cnt.set {z y:Nat→Int} (h:Cnt z y) {j:Nat} (v:Int) (hj:25≤j∧j≤45):Cnt z (zset y j v):=by
 unfold Cnt;rw [zset_ne _ _ (by omega),zset_ne _ _ (by omega),zset_ne _ _ (by omega)];exact h
theorem cnt_fetched {z:Nat→Int} (h:0≤z 46∧z 46≤1000000000):Cnt z (fetchedZ z):=by
 unfold Cnt fetchedZ;have e:IntKind.i64.wrap (z 46+1)=z 46+1:=by rw [IntKind.wrap_i64];omega
 refine ⟨rfl,?_,rfl⟩;show IntKind.i64.wrap (z 46+1)=z 46+1;exact e
def CntO (z:Nat→Int):Out→Prop
 |.on _ _ z'=>Cnt z z'
 |.broke y z'=>(1≤y∧y≤3)∧Cnt z z'
theorem stepF_cnt {n k:Nat} {ci z:Nat→Int} (hok:CodeQ n k ci) (hz:Zok n z) (h:0≤z 46∧z 46≤1000000000):CntO z (stepF n ci z):=by
 have h1:=hz.lo;have h2:=hz.hi;have hf:=cnt_fetched h;unfold stepF;by_cases he:z 45=n
 ·rw [if_pos he];have e:IntKind.i64.wrap (z 46+1)=z 46+1:=by rw [IntKind.wrap_i64];omega
  refine ⟨⟨by omega,by omega⟩,rfl,?_,rfl⟩;show IntKind.i64.wrap (z 46+1)=z 46+1;exact e
 ·obtain ⟨_,hR,hA,_,hN⟩:=hok (z 45).toNat (by omega);rw [if_neg he];dsimp only;have r:∀op v,CntO z (.on op none (zset (fetchedZ z) (25+(ci ((z 45).toNat*4+1)).toNat) v)):=fun op v=>hf.set v (by omega);have br:∀y:Int,1≤y∧y≤3→CntO z (.broke y (fetchedZ z)):=fun y hy=>⟨hy,hf⟩;by_cases e1:ci ((z 45).toNat*4)=1
  ·rw [if_pos e1];exact r _ _
  rw [if_neg e1];by_cases e2:ci ((z 45).toNat*4)=2
  ·rw [if_pos e2];exact r _ _
  rw [if_neg e2];by_cases e3:ci ((z 45).toNat*4)=3
  ·rw [if_pos e3];exact r _ _
  rw [if_neg e3];by_cases e4:ci ((z 45).toNat*4)=4
  ·rw [if_pos e4];exact r _ _
  rw [if_neg e4];by_cases e5:ci ((z 45).toNat*4)=5
  ·rw [if_pos e5];by_cases f5:fetchedZ z (25+(ci ((z 45).toNat*4+2)).toNat)=0
   ·rw [if_pos f5];exact br _ (by omega)
   ·rw [if_neg f5];exact r _ _
  rw [if_neg e5];by_cases e6:ci ((z 45).toNat*4)=6
  ·rw [if_pos e6];by_cases f6:fetchedZ z (25+(ci ((z 45).toNat*4+2)).toNat)<0∨16≤fetchedZ z (25+(ci ((z 45).toNat*4+2)).toNat)
   ·rw [if_pos f6];exact br _ (by omega)
   ·rw [if_neg f6];exact r _ _
  rw [if_neg e6];by_cases e7:ci ((z 45).toNat*4)=7
  ·rw [if_pos e7];by_cases f7:fetchedZ z (25+(ci ((z 45).toNat*4+2)).toNat)<0∨16≤fetchedZ z (25+(ci ((z 45).toNat*4+2)).toNat)
   ·rw [if_pos f7];exact br _ (by omega)
   ·rw [if_neg f7];exact hf.set _ (by omega)
  rw [if_neg e7];by_cases e8:ci ((z 45).toNat*4)=8
  ·rw [if_pos e8];exact hf.set _ (by omega)
  rw [if_neg e8];by_cases e9:ci ((z 45).toNat*4)=9
  ·rw [if_pos e9];by_cases f9:fetchedZ z (25+(ci ((z 45).toNat*4+1)).toNat)=0
   ·rw [if_pos f9];exact hf.set _ (by omega)
   ·rw [if_neg f9];exact hf
  rw [if_neg e9];by_cases e15:ci ((z 45).toNat*4)=15
  ·rw [if_pos e15];exact hf
  rw [if_neg e15];exact hf
theorem stepQ_cnt {n k:Nat} {ci z:Nat→Int} {ins:List (Int×Int)} {C:Nat→Chn} (hok:CodeQ n k ci) (hz:Zok n z) (h:0≤z 46∧z 46≤1000000000):match stepQ n ci ins z C with
  |.on _ _ z' _=>Cnt z z'
  |.broke y z'=>(1≤y∧y≤3)∧Cnt z z':=by
 have h1:=hz.lo;have h2:=hz.hi;have hf:=cnt_fetched h;unfold stepQ;by_cases hx:z 45≠n∧isEx (ci ((z 45).toNat*4))
 ·obtain ⟨_,hR,hA,_,hN⟩:=hok (z 45).toNat (by omega);rw [if_pos hx];show Cnt z (exF ins _ _ _ _ (fetchedZ z) C).1;unfold exF;simp only [];have r:∀v,Cnt z (zset (fetchedZ z) (25+(ci ((z 45).toNat*4+1)).toNat) v):=fun v=>hf.set v (by omega);have ra:∀v u,Cnt z (zset (zset (fetchedZ z) (25+(ci ((z 45).toNat*4+1)).toNat) v) (25+(ci ((z 45).toNat*4+2)).toNat) u):=fun v u=>(r v).set u (by omega);split
  ·exact hf
  ·split
   ·exact hf
   ·split
    ·split
     ·exact ra _ _
     ·exact ra _ _
    ·split
     ·exact ra _ _
     ·split
      ·exact ra _ _
      ·exact r _
 ·rw [if_neg hx];have hc:=stepF_cnt hok hz h;revert hc;cases stepF n ci z with
  |on op e z'=>exact fun hc=>hc
  |broke y z'=>exact fun hc=>hc
theorem runQ_rd {p:Prg} {kc:Nat} (hok:CodeQ p.n kc p.ci):∀(k:Nat) (z:Nat→Int) (C:Nat→Chn),Zok p.n z→0≤z 46→z 46+k≤1000000000→0≤z 47∧z 47≤1000→
  ∃S:List (Int×Int×Int),(∀e∈S,e.1=1)∧(runQ p k z C).2.2.1 3=z 3∧z 46≤(runQ p k z C).2.2.1 46∧(runQ p k z C).2.2.1 46≤z 46+k∧
   (((runQ p k z C).1=S.map evT∧(runQ p k z C).2.2.1 47=z 47∧(((runQ p k z C).2.1=2∧(runQ p k z C).2.2.1 46=z 46+k)∨((runQ p k z C).2.1=1∧z 46+1≤(runQ p k z C).2.2.1 46)))∨
    ∃y:Int,1≤y∧y≤3∧(runQ p k z C).1=(S++[(2,y,z 47+1)]).map evT∧(runQ p k z C).2.1=3∧(runQ p k z C).2.2.1 47=z 47+1∧z 46+1≤(runQ p k z C).2.2.1 46)
 |0,z,C,_,_,_,_=>⟨[],fun _ h=>absurd h (by simp),rfl,Int.le_refl _,by show z 46≤z 46+((0:Nat):Int);omega,.inl ⟨rfl,rfl,.inl ⟨rfl,by show z 46=z 46+((0:Nat):Int);omega⟩⟩⟩
 |k+1,z,C,hz,h1,h2,h3=>by
  have hk1:((k+1:Nat):Int)=(k:Int)+1:=by omega
  rw [hk1] at h2 ⊢;have hc:=stepQ_cnt (ins:=p.ins) (C:=C) hok hz ⟨h1,by omega⟩;obtain ⟨b,hb⟩:=lenQ_ex kc C;have ho:=stepQ_ok (ins:=p.ins) hok hz hb;have sent:∀(op:Int) (e:Option Int) (z':Nat→Int) (C':Nat→Chn),∃S:List (Int×Int×Int),(∀x∈S,x.1=1)∧(OutQ.on op e z' C').sent=S.map evT:=fun op e z' C'=>by
   cases e with
   |none=>exact ⟨[],fun _ h=>absurd h (by simp),rfl⟩
   |some x=>exact ⟨[(1,x,0)],fun y hy=>by simp at hy;subst hy;rfl,rfl⟩
  simp only [runQ];revert hc ho;cases stepQ p.n p.ci p.ins z C with
  |on op e z' C'=>
   rintro ⟨c3,c46,c47⟩ ⟨hz',_⟩;obtain ⟨S,hS,eS⟩:=sent op e z' C';by_cases h0:op=0
   ·simp only [h0,if_true];rw [h0] at eS;exact ⟨S,hS,c3,by show z 46≤z' 46;omega,by show z' 46≤z 46+(k+1);omega,.inl ⟨eS,c47,.inr ⟨by first|rfl|trivial,by show z 46+1≤z' 46;omega⟩⟩⟩
   ·simp only [h0,if_false];obtain ⟨T,hT,d3,d46,d46',hd⟩:=runQ_rd hok k z' C' hz' (by omega) (by omega) (by omega);have hST:∀x∈S++T,x.1=1:=fun x hx=>by
     rcases List.mem_append.1 hx with hx|hx
     ·exact hS x hx
     ·exact hT x hx
    refine ⟨S++T,hST,by show (runQ p k z' C').2.2.1 3=z 3;omega,by show z 46≤(runQ p k z' C').2.2.1 46;omega,by show (runQ p k z' C').2.2.1 46≤z 46+(k+1);omega,?_⟩;rcases hd with ⟨e1,e2,e3⟩|⟨y,y1,y2,e1,e2,e3,e4⟩
    ·refine .inl ⟨by show (OutQ.on op e z' C').sent++(runQ p k z' C').1=_;rw [eS,e1,List.map_append],by show (runQ p k z' C').2.2.1 47=z 47;omega,?_⟩;rcases e3 with ⟨e3,e4⟩|⟨e3,e4⟩
     ·exact .inl ⟨e3,by show (runQ p k z' C').2.2.1 46=z 46+(k+1);omega⟩
     ·exact .inr ⟨e3,by show z 46+1≤(runQ p k z' C').2.2.1 46;omega⟩
    ·refine .inr ⟨y,y1,y2,?_,e2,by show (runQ p k z' C').2.2.1 47=z 47+1;omega,by show z 46+1≤(runQ p k z' C').2.2.1 46;omega⟩;show (OutQ.on op e z' C').sent++(runQ p k z' C').1=_;rw [eS,e1,c47,List.append_assoc,List.map_append (l₁:=S)]
  |broke y z'=>
   rintro ⟨⟨y1,y2⟩,c3,c46,c47⟩ _;have e47:anewZ z' 47=z 47+1:=by
    show (if (47:Nat)=47 then IntKind.i64.wrap (z' 47+1) else _)=_;rw [if_pos rfl,IntKind.wrap_i64];omega
   have e3:anewZ z' 3=z 3:=by
    show (if (3:Nat)=47 then _ else if 25≤3∧3<46 then _ else z' 3)=_;rw [if_neg (by omega),if_neg (by omega)];exact c3
   have e46:anewZ z' 46=z 46+1:=by
    show (if (46:Nat)=47 then _ else if 25≤46∧46<46 then _ else z' 46)=_;rw [if_neg (by omega),if_neg (by omega)];exact c46
   refine ⟨[],fun _ h=>absurd h (by simp),e3,by show z 46≤anewZ z' 46;omega,by show anewZ z' 46≤z 46+(k+1);omega,.inr ⟨y,y1,y2,?_,by first|rfl|trivial,e47,by show z 46+1≤anewZ z' 46;omega⟩⟩;show [brokeE y (anewZ z' 47)]=_;rw [e47];rfl
theorem windowQ_rd {p:Prg} {kc b:Nat} (hok:CodeQ p.n kc p.ci) (hb:1≤b∧b≤200) {z:Nat→Int} {C:Nat→Chn} (hz:Zok p.n z) (h46:0≤z 46∧z 46≤100000000) (h47:0≤z 47∧z 47≤1000) {B:List Int} {at_:Nat} (hat:at_<B.length) (hB:B.getD at_ 0=b):
  ∃E:List (Int×Int×Int),(windowQ p b z C).1=E.map evT∧Rd (z 3) B ⟨z 46,z 47,false,at_⟩ E ⟨(windowQ p b z C).2.1 46,(windowQ p b z C).2.1 47,false,at_+1⟩∧(windowQ p b z C).2.1 3=z 3∧z 46≤(windowQ p b z C).2.1 46∧(windowQ p b z C).2.1 46≤z 46+200∧z 47≤(windowQ p b z C).2.1 47∧((windowQ p b z C).2.1 47≤z 47∨(windowQ p b z C).2.1 47≤z 3+1):=by
 unfold windowQ goQ;by_cases hs:z 3<z 47
 ·simp only [if_pos hs];refine ⟨[(3,0,4)],?_,?_,by first|rfl|trivial,Int.le_refl _,by omega,Int.le_refl _,.inl (Int.le_refl _)⟩
  ·show [closedE (IntKind.i64.wrap (z 46-z 46)) 4]=_;rw [Int.sub_self];rfl
  ·refine .cons (.inr (.inr ⟨rfl,hat,?_,.inl ⟨rfl,hs,rfl,rfl⟩⟩)) (.nil _);show (⟨z 46,z 47,false,at_+1⟩:RuS)=⟨z 46+0,z 47,false,at_+1⟩;rw [Int.add_zero]
 ·simp only [if_neg hs];obtain ⟨S,hS,d3,d46,d46',hd⟩:=runQ_rd hok b z C hz h46.1 (by omega) h47;have ew:IntKind.i64.wrap ((runQ p b z C).2.2.1 46-z 46)=(runQ p b z C).2.2.1 46-z 46:=by rw [IntKind.wrap_i64];omega
  have es:(⟨(runQ p b z C).2.2.1 46,z 47,false,at_+1⟩:RuS)=⟨z 46+((runQ p b z C).2.2.1 46-z 46),z 47,false,at_+1⟩:=by congr 1;omega
  have es2:(⟨(runQ p b z C).2.2.1 46,z 47+1,false,at_+1⟩:RuS)=⟨z 46+((runQ p b z C).2.2.1 46-z 46),z 47+1,false,at_+1⟩:=by congr 1;omega
  rw [ew];rcases hd with ⟨e1,e2,e3⟩|⟨y,y1,y2,e1,e2,e3,e4⟩
  ·refine ⟨S++[(3,(runQ p b z C).2.2.1 46-z 46,(runQ p b z C).2.1)],?_,?_,d3,d46,by omega,by omega,.inl (by omega)⟩
   ·rw [e1,List.map_append];rfl
   ·rw [e2,es];refine Rd.append (Rd.said hS rfl (by show z 47≤z 3;omega)) (.cons (.inr (.inr ⟨rfl,hat,rfl,?_⟩)) (.nil _));rcases e3 with ⟨e3,e4⟩|⟨e3,e4⟩
    ·exact .inr (.inr (.inr ⟨rfl,by show z 47≤z 3;omega,e3,by show 1≤(runQ p b z C).2.2.1 46-z 46;omega,by show (runQ p b z C).2.2.1 46-z 46=B.getD at_ 0;rw [hB];omega⟩))
    ·exact .inr (.inr (.inl ⟨rfl,by show z 47≤z 3;omega,e3,by show 1≤(runQ p b z C).2.2.1 46-z 46;omega,by show (runQ p b z C).2.2.1 46-z 46≤B.getD at_ 0;rw [hB];omega⟩))
  ·refine ⟨S++[(2,y,z 47+1),(3,(runQ p b z C).2.2.1 46-z 46,(runQ p b z C).2.1)],?_,?_,d3,d46,by omega,by omega,.inr (by omega)⟩
   ·rw [e1,List.map_append,List.map_append,List.append_assoc];rfl
   ·rw [e3,es2];refine Rd.append (Rd.said hS rfl (by show z 47≤z 3;omega)) (.cons (.inr (.inl ⟨rfl,rfl,rfl,y1,y2,by show z 47≤z 3;omega,rfl⟩)) (.cons (.inr (.inr ⟨rfl,hat,rfl,.inr (.inl ⟨rfl,e2,by show 1≤(runQ p b z C).2.2.1 46-z 46;omega,by show (runQ p b z C).2.2.1 46-z 46≤B.getD at_ 0;rw [hB];omega⟩)⟩)) (.nil _)))
def budR (c:Cfg) (cell r:Nat):Nat→List Int
 |0=>[]
 |x+1=>budR c cell r x++(if c.row r (x*2)=cell then [c.row r (x*2+1)] else [])
def budF (c:Cfg) (cell:Nat):Nat→List Int
 |0=>[]
 |i+1=>budF c cell i++budR c cell (i % c.nT) (c.nRow (i % c.nT))
structure RInv (c:Cfg) (cell:Nat) (lim:Int) (B:List Int) (u:Int) (s:KSq):Prop where
 tr:∃E:List (Int×Int×Int),s.xs cell=evs E∧s.m cell=E.length∧Rd lim B ⟨0,0,false,0⟩ E ⟨s.z cell 46,s.z cell 47,false,B.length⟩
 z3:s.z cell 3=lim
 z46:0≤s.z cell 46∧s.z cell 46≤u
 z47:0≤s.z cell 47∧s.z cell 47≤lim+1
 zok:Zok (c.nCode cell) (s.z cell)
def TabR (c:Cfg):Prop:=0<c.nT∧∀r,r<c.nT→c.nRow r≤6∧∀j,j<c.nRow r→0≤c.row r (j*2)∧1≤c.row r (j*2+1)∧c.row r (j*2+1)≤200
section
variable {c:Cfg} {cell:Nat} {lim u:Int} {B:List Int} {s:KSq} {ins:List (Int×Int)}
theorem RInv.other (h:RInv c cell lim B u s) {p:Nat×Nat} (hp:p.1≠cell):RInv c cell lim B u (winC c ins p s):=by
 have hne:cell≠p.1:=fun e=>hp e.symm;have ex:(winC c ins p s).xs cell=s.xs cell:=updN_ne _ _ hne;have em:(winC c ins p s).m cell=s.m cell:=updN_ne _ _ hne;have ez:(winC c ins p s).z cell=s.z cell:=updN_ne _ _ hne;exact ⟨by rw [ex,em,ez];exact h.tr,by rw [ez];exact h.z3,by rw [ez];exact h.z46,by rw [ez];exact h.z47,by rw [ez];exact h.zok⟩
theorem RInv.own (h:RInv c cell lim B u s) (hok:CodeQ (c.nCode cell) c.nCh (c.code cell)) (hlim:lim≤5) {b:Nat} (hb:1≤b∧b≤200) (hu:u≤100000000):RInv c cell lim (B++[(b:Int)]) (u+200) (winC c ins (cell,b) s):=by
 have ex:(winC c ins (cell,b) s).xs cell=s.xs cell++(windowQ (prgC c ins cell) b (s.z cell) s.D).1.flatMap evCells:=updN_same _ _ _;have em:(winC c ins (cell,b) s).m cell=s.m cell+(windowQ (prgC c ins cell) b (s.z cell) s.D).1.length:=updN_same _ _ _;have ez:(winC c ins (cell,b) s).z cell=(windowQ (prgC c ins cell) b (s.z cell) s.D).2.1:=updN_same _ _ _;obtain ⟨E,e1,e2,e3⟩:=h.tr;have h46:=h.z46;have h47:=h.z47;have h3:=h.z3;obtain ⟨F,f1,f2,f3,f4,f5,f6,f7⟩:=windowQ_rd (p:=prgC c ins cell) (kc:=c.nCh) (C:=s.D) (B:=B++[(b:Int)]) (at_:=B.length) hok hb h.zok ⟨h46.1,by omega⟩ ⟨h47.1,by omega⟩ (by simp) (by simp);obtain ⟨bl,hbl⟩:=lenQ_ex c.nCh s.D;have hzz:=(windowQ_ok (p:=prgC c ins cell) (kc:=c.nCh) hok b h.zok hbl).1;refine ⟨⟨E++F,by rw [ex,e1,f1,evs_of,evs_append],by rw [em,e2,f1,List.length_append,List.length_map],?_⟩,by rw [ez,f3];exact h3,by rw [ez];omega,by rw [ez];rw [h3] at f7;omega,by rw [ez];exact hzz⟩;rw [ez,List.length_append];rw [h3] at f2;exact e3.more.append f2
theorem RInv.row (hok:CodeQ (c.nCode cell) c.nCh (c.code cell)) (hlim:lim≤5) {r:Nat} (hT:∀j,j<c.nRow r→0≤c.row r (j*2)∧1≤c.row r (j*2+1)∧c.row r (j*2+1)≤200) (hn:c.nRow r≤6) (hu:0≤u∧u≤90000000):∀(rem j:Nat) (s:KSq),j+rem=c.nRow r→RInv c cell lim (B++budR c cell r j) (u+200*j) s→RInv c cell lim (B++budR c cell r (c.nRow r)) (u+200*(c.nRow r:Nat)) (rowC c ins (wnOf c r) rem j s)
 |0,j,s,hj,h=>by
  obtain rfl:j=c.nRow r:=by omega
  exact h
 |rem+1,j,s,hj,h=>by
  obtain ⟨t1,t2,t3⟩:=hT j (by omega);refine RInv.row hok hlim hT hn hu rem (j+1) (winC c ins (wnOf c r j) s) (by omega) ?_;by_cases he:c.row r (j*2)=cell
  ·have e1:wnOf c r j=(cell,(c.row r (j*2+1)).toNat):=by unfold wnOf;rw [he];rfl
   have e2:budR c cell r (j+1)=budR c cell r j++[(((c.row r (j*2+1)).toNat:Nat):Int)]:=by
    show budR c cell r j++(if c.row r (j*2)=cell then [c.row r (j*2+1)] else [])=_;rw [if_pos he];congr 2;omega
   rw [e1,e2,←List.append_assoc,show u+200*((j+1:Nat):Int)=u+200*(j:Int)+200 by omega];exact h.own hok hlim (by omega) (by omega)
  ·have e2:budR c cell r (j+1)=budR c cell r j:=by
    show budR c cell r j++(if c.row r (j*2)=cell then [c.row r (j*2+1)] else [])=_;rw [if_neg he,List.append_nil]
   rw [e2];have h2:=h.other (ins:=ins) (p:=wnOf c r j) (by show (c.row r (j*2)).toNat≠cell;omega);exact ⟨h2.tr,h2.z3,⟨h2.z46.1,by have:=h2.z46.2;omega⟩,h2.z47,h2.zok⟩
end
theorem frS_rd {c:Cfg} {cell:Nat} (I:Nat→List (Int×Int)) (hok:CellOk c cell) (hT:TabR c):∀i,i≤40→RInv c cell (c.lim cell) (budF c cell i) (1200*(i:Int)) (frS c I i)
 |0,_=>by
  have hm:=hok.2.1;have hz:=zok_new (c.lim cell) (c.nImg cell) (c.img cell) (c.nCode cell) hm;have hl:=hok.1;have e46:(sq0 c).z cell 46=0:=by
   show newZ (c.lim cell) (c.nImg cell) (c.img cell) 46=0;unfold newZ;rw [if_neg (by omega),if_neg (by omega),if_neg (by omega)]
  have e47:(sq0 c).z cell 47=0:=by
   show newZ (c.lim cell) (c.nImg cell) (c.img cell) 47=0;unfold newZ;rw [if_neg (by omega),if_neg (by omega),if_neg (by omega)]
  show RInv c cell (c.lim cell) [] (1200*((0:Nat):Int)) (sq0 c);exact ⟨⟨[],rfl,rfl,by rw [e46,e47];exact .nil _⟩,rfl,by rw [e46];omega,by rw [e47];omega,hz.1⟩
 |i+1,hi=>by
  have h:=frS_rd I hok hT i (by omega);obtain ⟨h2,h3⟩:=hT.2 (i % c.nT) (Nat.mod_lt _ hT.1);have hl:=hok.1;have h4:=RInv.row (c:=c) (cell:=cell) (B:=budF c cell i) (u:=1200*(i:Int)) (ins:=I i) (codeQ_of hok) hl.2 h3 h2 ⟨by omega,by omega⟩ (c.nRow (i % c.nT)) 0 (frS c I i) (by omega) (by
   show RInv c cell (c.lim cell) (budF c cell i++[]) (1200*(i:Int)+200*((0:Nat):Int)) (frS c I i);rw [List.append_nil,show 1200*(i:Int)+200*((0:Nat):Int)=1200*(i:Int) by omega];exact h)
  exact ⟨h4.tr,h4.z3,⟨h4.z46.1,by have:=h4.z46.2;show (rowC c (I i) (wnOf c (i % c.nT)) (c.nRow (i % c.nT)) 0 (frS c I i)).z cell 46≤_;omega⟩,h4.z47,h4.zok⟩
theorem tab_R (P:Pl) (Q:Nat→Pl):TabR (cfgP P Q):=by
 refine ⟨by show 0<3;omega,fun r hr=>?_⟩;have hr:r<3:=hr;have:r=0∨r=1∨r=2:=by omega
 rcases this with rfl|rfl|rfl
 ·refine ⟨by show 4≤6;omega,fun j hj=>?_⟩;have hj:j<4:=hj;show 0≤(tabL 0).getD (j*2) 0∧1≤(tabL 0).getD (j*2+1) 0∧(tabL 0).getD (j*2+1) 0≤200;have:j=0∨j=1∨j=2∨j=3:=by omega
  rcases this with rfl|rfl|rfl|rfl<;>decide
 ·refine ⟨by show 3≤6;omega,fun j hj=>?_⟩;have hj:j<3:=hj;show 0≤(tabL 1).getD (j*2) 0∧1≤(tabL 1).getD (j*2+1) 0∧(tabL 1).getD (j*2+1) 0≤200;have:j=0∨j=1∨j=2:=by omega
  rcases this with rfl|rfl|rfl<;>decide
 ·refine ⟨by show 4≤6;omega,fun j hj=>?_⟩;have hj:j<4:=hj;show 0≤(tabL 2).getD (j*2) 0∧1≤(tabL 2).getD (j*2+1) 0∧(tabL 2).getD (j*2+1) 0≤200;have:j=0∨j=1∨j=2∨j=3:=by omega
  rcases this with rfl|rfl|rfl|rfl<;>decide
end Go.Proofs.Ytdoghgnifkgfdaa.Mute
