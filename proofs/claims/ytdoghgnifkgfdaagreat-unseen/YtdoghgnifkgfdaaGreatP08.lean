import Derived.Orders
import Derived.Conc.Own3
import Derived.Conc.Own4
import Derived.Conc.LeavingOf
import Derived.Test.YtdoghgnifkgfdaaGreatP07
set_option maxRecDepth 100000
set_option maxHeartbeats 16000000
namespace Go.Proofs.YtdoghgnifkgfdaaGreat.Mute
open Go Go.Conc
section
variable {m:Region.Mode} {ops:Array Oper}
def XL (m:Region.Mode) (ops:Array Oper) (L:Array Bool) (i:Nat):Bool:=
 !L.getD i true && ((ops[i]?).map (·.after.all fun e=>!Region.binds m e || L.getD e.on false)).getD false
def rdy (m:Region.Mode) (ops:Array Oper) (L:Array Bool):List Nat:=(List.range ops.size).filter (XL m ops L)
theorem Y1N (fuel t:Nat) (L:Array Bool) (acc:List Nat):Region.linearise.go m ops (fuel+1) t L acc=match (rdy m ops L)[t % (rdy m ops L).length]? with
  |some i=>Region.linearise.go m ops fuel (t / (rdy m ops L).length) (L.setIfInBounds i true) (i::acc)
  |none=>acc.reverse:=rfl
def hangs (m:Region.Mode) (ops:Array Oper) (n:Nat):Bool:=
 ((List.range n).all fun i=>((ops.getD i default).after.all fun e=>decide (e.on<i)) && (List.range (n+1)).any fun j=>decide (i<j) && (ops.getD j default).after.toList.any fun e=>Region.binds m e && e.on==i) &&
 (List.range ops.size).all fun i=>decide (i<n) || (((ops.getD i default).after.all fun e=>decide (e.on<i)) && (decide (i=n) || (ops.getD i default).after.toList.any fun e=>Region.binds m e && e.on+1==i))
theorem filter_one {p:Nat→Bool} {x:Nat}:∀{N:Nat},x<N→p x=true→(∀i,i<N→i≠x→p i=false)→(List.range N).filter p=[x]
 |0,h,_,_=>absurd h (by omega)
 |N+1,h,hp,ho=>by
  rw [List.range_succ,List.filter_append];by_cases e:x=N
  ·subst e;have:(List.range x).filter p=[]:=List.filter_eq_nil_iff.2 fun i hi=>by
    have:=List.mem_range.1 hi;rw [ho i (by omega) (by omega)];simp
   rw [this];simp [hp]
  ·rw [filter_one (by omega) hp fun i hi hne=>ho i (by omega) hne];simp [ho N (by omega) (by omega)]
theorem J8 {L:Array Bool} {i:Nat}:XL m ops L i=true↔L.getD i true=false∧∃o,ops[i]?=some o∧∀e∈o.after,Region.binds m e=true→L.getD e.on false=true:=by
 unfold XL;cases h:ops[i]? with
 |none=>simp
 |some o=>
  simp only [Option.map_some,Option.getD_some,Bool.and_eq_true,Bool.not_eq_true',Option.some.injEq];constructor
  ·rintro ⟨h1,h2⟩;refine ⟨h1,o,rfl,fun e he hb=>?_⟩;rw [Array.all_eq_true_iff_forall_mem] at h2;have:=h2 e he;simpa [hb] using this
  ·rintro ⟨h1,o',rfl,h2⟩;refine ⟨h1,?_⟩;rw [Array.all_eq_true_iff_forall_mem];intro e he;cases hb:Region.binds m e with
   |false=>rfl
   |true=>simp [h2 e he hb]
theorem Zr {L:Array Bool} {i:Nat} (hi:i<L.size) (j:Nat) (d:Bool):(L.setIfInBounds i true).getD j d=if i=j then true else L.getD j d:=by
 rw [Array.getD_eq_getD_getElem?,Array.getD_eq_getD_getElem?];by_cases e:i=j
 ·subst e;simp [hi]
 ·rw [Array.getElem?_setIfInBounds_ne e,if_neg e]
theorem Jl {L:Array Bool} {i:Nat} (hi:i<L.size):L.getD i true=L.getD i false:=by
 simp [Array.getD,hi]
theorem Y82 {n:Nat} (h3:∀i,n≤i→i<ops.size→∀e∈(ops.getD i default).after,e.on<i) (h4:∀i,n<i→i<ops.size→∃e∈(ops.getD i default).after,Region.binds m e=true∧e.on+1=i):
  ∀(r k t:Nat) (L:Array Bool),n+k+r=ops.size→L.size=ops.size→(∀i,i<n+k→L.getD i false=true)→(∀i,n+k≤i→L.getD i false=false)→Region.linearise.go m ops r t L []=(List.range r).map (n+k+·):=by
 intro r;induction r with
 |zero=>intro k t L _ _ _ _;simp [Region.linearise.go]
 |succ r ih=>
  intro k t L hs hL ht hf;have hx:n+k<ops.size:=by omega
  have at?:∀i,i<ops.size→ops[i]?=some (ops.getD i default):=fun i hi=>by simp [Array.getD,hi]
  have hr:rdy m ops L=[n+k]:=by
   refine filter_one hx (J8.2 ⟨by rw [Jl (by omega)];exact hf _ (Nat.le_refl _),_,at? _ hx,fun e he _=>ht _ (h3 _ (by omega) hx e he)⟩) fun i hi hne=>?_;cases hb:XL m ops L i with
   |false=>rfl
   |true=>
    exfalso;obtain ⟨b1,o,b2,b3⟩:=J8.1 hb;rw [at? i hi] at b2;cases b2;rw [Jl (by omega)] at b1;by_cases hlt:i<n+k
    ·rw [ht i hlt] at b1;cases b1
    ·obtain ⟨e,he,hb,hon⟩:=h4 i (by omega) hi;have:=b3 e he hb;rw [hf e.on (by omega)] at this;cases this
  rw [Y1N,hr];simp only [List.length_singleton,Nat.mod_one,Nat.div_one,List.getElem?_cons_zero];rw [linearise_go_acc,ih (k+1) t (L.setIfInBounds (n+k) true) (by omega) (by simpa using hL) (fun i hi=>by
    rw [Zr (by omega)];split
    ·rfl
    ·exact ht i (by omega)) (fun i hi=>by
    rw [Zr (by omega),if_neg (by omega)];exact hf i (by omega))]
  rw [List.range_succ_eq_map];simp only [List.reverse_singleton,List.singleton_append,List.map_cons,List.map_map,Nat.add_zero,List.cons.injEq,true_and];apply List.map_congr_left;intro a _;simp only [Function.comp];omega
def cnt:Nat→Array Bool→Nat
 |0,_=>0
 |n+1,L=>cnt n L+(if L.getD n false then 0 else 1)
theorem Y3v {L:Array Bool}:∀{n:Nat},(∀i,i<n→L.getD i false=true)→cnt n L=0
 |0,_=>rfl
 |n+1,h=>by
  unfold cnt;rw [Y3v fun i hi=>h i (by omega),h n (by omega)];rfl
theorem Y3Z {L:Array Bool}:∀{n:Nat},cnt n L=0→∀i,i<n→L.getD i false=true
 |0,_,i,hi=>absurd hi (by omega)
 |n+1,h,i,hi=>by
  unfold cnt at h;cases hb:L.getD n false with
  |false=>simp [hb] at h
  |true=>
   rw [hb] at h;by_cases e:i=n
   ·rw [e];exact hb
   ·exact Y3Z (by simpa using h) i (by omega)
theorem Y2j {L:Array Bool}:∀{n:Nat},(∀i,i<n→L.getD i false=false)→cnt n L=n
 |0,_=>rfl
 |n+1,h=>by
  unfold cnt;rw [Y2j fun i hi=>h i (by omega),h n (by omega)];rfl
theorem Y2W {L:Array Bool} {i:Nat} (hL:i<L.size):∀{n:Nat},n≤i→cnt n (L.setIfInBounds i true)=cnt n L
 |0,_=>rfl
 |n+1,h=>by
  unfold cnt;have e:(L.setIfInBounds i true).getD n false=L.getD n false:=by rw [Zr hL,if_neg (by omega)]
  rw [Y2W hL (by omega),e]
theorem Y31 {L:Array Bool} {i:Nat} (hL:i<L.size) (hf:L.getD i false=false):∀{n:Nat},i<n→cnt n (L.setIfInBounds i true)+1=cnt n L
 |0,h=>absurd h (by omega)
 |n+1,h=>by
  unfold cnt;by_cases e:i=n
  ·subst e;have e1:(L.setIfInBounds i true).getD i false=true:=by rw [Zr hL,if_pos rfl]
   rw [Y2W hL (Nat.le_refl _),e1,hf];rfl
  ·have e1:(L.setIfInBounds i true).getD n false=L.getD n false:=by rw [Zr hL,if_neg e]
   rw [e1,←Y31 hL hf (n:=n) (by omega)];omega
theorem Y9d {n:Nat} (hn:n<ops.size) (h1:∀i,i<n→∀e∈(ops.getD i default).after,e.on<i) (h2:∀i,i<n→∃j,i<j∧j≤n∧∃e∈(ops.getD j default).after,Region.binds m e=true∧e.on=i)
  (h3:∀i,n≤i→i<ops.size→∀e∈(ops.getD i default).after,e.on<i) (h4:∀i,n<i→i<ops.size→∃e∈(ops.getD i default).after,Region.binds m e=true∧e.on+1=i):
  ∀(fuel t:Nat) (LA LB:Array Bool),LA.size=n→LB.size=ops.size→(∀i,i<n→LB.getD i false=LA.getD i false)→(∀i,n≤i→LB.getD i false=false)→
   (∀i,i<n→LA.getD i false=true→∀e∈(ops.getD i default).after,Region.binds m e=true→LA.getD e.on false=true)→cnt n LA=fuel→
   Region.linearise.go m ops (fuel+(ops.size-n)) t LB []=Region.linearise.go m (ops.extract 0 n) fuel t LA []++(List.range (ops.size-n)).map (n+·):=by
 have at?:∀i,i<ops.size→ops[i]?=some (ops.getD i default):=fun i hi=>by simp [Array.getD,hi]
 have atA:∀i,i<n→(ops.extract 0 n)[i]?=some (ops.getD i default):=fun i hi=>by
  rw [←at? i (by omega)];simp [Array.getElem?_extract];omega
 have sizeA:(ops.extract 0 n).size=n:=by simp;omega
 intro fuel;induction fuel with
 |zero=>
  intro t LA LB hA hB hab hhi hcl hc;have hall:=Y3Z hc;have:=Y82 (m:=m) h3 h4 (ops.size-n) 0 t LB (by omega) hB (fun i hi=>by rw [hab i (by omega)];exact hall i (by omega)) (fun i hi=>hhi i (by omega));rw [Nat.zero_add,this];simp [Region.linearise.go]
 |succ fuel ih=>
  intro t LA LB hA hB hab hhi hcl hc;obtain ⟨x,hx,hxf,hxl⟩:∃x,x<n∧LA.getD x false=false∧∀i,i<x→LA.getD i false=true:=by
   rcases Y1d (fun i=>LA.getD i false=true) n with h|⟨j,hj,hjf,hjl⟩
   ·rw [Y3v h] at hc;omega
   ·exact ⟨j,hj,by simpa using hjf,hjl⟩
  have hA_iff:∀i,i<n→XL m ops LB i=XL m (ops.extract 0 n) LA i:=fun i hi=>by
   have e:XL m ops LB i=true↔XL m (ops.extract 0 n) LA i=true:=by
    rw [J8,J8,at? i (by omega),atA i hi,Jl (by omega),Jl (by omega),hab i hi];constructor
    ·rintro ⟨a,o,ho,b⟩;cases ho;exact ⟨a,_,rfl,fun e he hb=>by rw [←hab _ (by have:=h1 i hi e he;omega)];exact b e he hb⟩
    ·rintro ⟨a,o,ho,b⟩;cases ho;exact ⟨a,_,rfl,fun e he hb=>by rw [hab _ (by have:=h1 i hi e he;omega)];exact b e he hb⟩
   cases p:XL m ops LB i<;>cases q:XL m (ops.extract 0 n) LA i<;>simp_all
  have hhigh:∀i,n≤i→i<ops.size→XL m ops LB i=false:=fun i hi his=>by
   cases hb:XL m ops LB i with
   |false=>rfl
   |true=>
    exfalso;obtain ⟨b1,o,b2,b3⟩:=J8.1 hb;rw [at? i his] at b2;cases b2;by_cases e:i=n
    ·subst e;have hall:∀d y,y<i→i-y≤d→LA.getD y false=true:=by
      intro d;induction d with
      |zero=>intro y hy hd;omega
      |succ d ihd=>
       intro y hy hd;obtain ⟨j,hj1,hj2,e,he,hbe,hon⟩:=h2 y hy;by_cases ej:j=i
       ·subst ej;have:=b3 e he hbe;rw [hon,hab y hy] at this;exact this
       ·have:=hcl j (by omega) (ihd j (by omega) (by omega)) e he hbe;rw [hon] at this;exact this
     rw [hall (i-x) x hx (Nat.le_refl _)] at hxf;cases hxf
    ·obtain ⟨e,he,hbe,hon⟩:=h4 i (by omega) his;have:=b3 e he hbe;rw [hhi e.on (by omega)] at this;cases this
  have hr:rdy m ops LB=rdy m (ops.extract 0 n) LA:=by
   unfold rdy;rw [sizeA,show ops.size=n+(ops.size-n) by omega,List.range_add,List.filter_append];have e2:((List.range (ops.size-n)).map (n+·)).filter (XL m ops LB)=[]:=List.filter_eq_nil_iff.2 fun i hi=>by
    obtain ⟨y,hy,rfl⟩:=List.mem_map.1 hi;have:=List.mem_range.1 hy;rw [hhigh (n+y) (by omega) (by omega)];simp
   rw [e2,List.append_nil];exact List.filter_congr fun i hi=>hA_iff i (List.mem_range.1 hi)
  have hxr:x∈rdy m (ops.extract 0 n) LA:=List.mem_filter.2 ⟨List.mem_range.2 (by omega),J8.2 ⟨by rw [Jl (by omega)];exact hxf,_,atA x hx,fun e he _=>hxl _ (h1 x hx e he)⟩⟩;have hpos:0<(rdy m (ops.extract 0 n) LA).length:=List.length_pos_of_mem hxr;obtain ⟨i,hi⟩:∃i,(rdy m (ops.extract 0 n) LA)[t % (rdy m (ops.extract 0 n) LA).length]?=some i:=⟨_,List.getElem?_eq_getElem (Nat.mod_lt _ hpos)⟩;have him:=List.mem_filter.1 (List.mem_of_getElem? hi);have hin:i<n:=by have:=List.mem_range.1 him.1;omega
  obtain ⟨i1,o,i2,i3⟩:=J8.1 him.2;rw [atA i hin] at i2;cases i2;rw [Jl (by omega)] at i1;rw [show fuel+1+(ops.size-n)=(fuel+(ops.size-n))+1 by omega,Y1N,Y1N,hr,hi];simp only [];rw [linearise_go_acc,linearise_go_acc m (ops.extract 0 n),ih _ (LA.setIfInBounds i true) (LB.setIfInBounds i true) (by simpa using hA) (by simpa using hB)
   (fun j hj=>by rw [Zr (by omega),Zr (by omega),hab j hj]) (fun j hj=>by rw [Zr (by omega),if_neg (by omega)];exact hhi j hj)
   (fun j hj hjt e he hb=>by
    rw [Zr (by omega)] at hjt ⊢;split
    ·rfl
    ·by_cases ej:i=j
     ·subst ej;exact i3 e he hb
     ·rw [if_neg ej] at hjt;exact hcl j hj hjt e he hb)
   (by have:=Y31 (L:=LA) (i:=i) (by omega) i1 (n:=n) hin;omega)]
  simp
theorem Y8b {n:Nat} (hn:n<ops.size) (hh:hangs .any ops n=true) (t:Nat):Region.schedule true ops t=Region.schedule true (ops.extract 0 n) t++(List.range (ops.size-n)).map (n+·):=by
 have sizeA:(ops.extract 0 n).size=n:=by simp;omega
 unfold hangs at hh;simp only [Bool.and_eq_true,List.all_eq_true,List.any_eq_true,List.mem_range,Bool.or_eq_true,decide_eq_true_eq,Array.all_eq_true_iff_forall_mem,Array.mem_toList_iff,beq_iff_eq] at hh;obtain ⟨ha,hb⟩:=hh;have key:=Y9d (m:=.any) hn (fun i hi e he=>(ha i hi).1 e he) (fun i hi=>by
   obtain ⟨j,hj,hij,e,he,hb,hon⟩:=(ha i hi).2;exact ⟨j,hij,by omega,e,he,hb,hon⟩)
  (fun i hi his e he=>by
   rcases hb i his with h|h
   ·omega
   ·exact h.1 e he)
  (fun i hi his=>by
   rcases hb i his with h|h
   ·omega
   ·rcases h.2 with h|⟨e,he,hb,hon⟩
    ·omega
    ·exact ⟨e,he,hb,hon⟩)
  n t (Array.replicate n false) (Array.replicate ops.size false) (by simp) (by simp) (fun i hi=>by simp [Array.getD]) (fun i hi=>by simp [Array.getD]) (fun i hi h=>by simp [Array.getD] at h) (Y2j fun i hi=>by simp [Array.getD])
 unfold Region.schedule;simp only [Bool.true_or,if_true];unfold Region.linearise;rw [sizeA,←key,show n+(ops.size-n)=ops.size by omega]
def guarded (ops:Array Oper) (n:Nat):Bool:=(List.range n).all fun i=>match (ops.getD i default).guard with
 |none=>true
 |some (g,_)=>decide (g<n)
theorem Y4U {n:Nat} (hn:n<ops.size) (hg:guarded ops n=true):Alike (ops.extract 0 n) ops:=fun i o ho=>by
 have hi:i<n:=by
  have:=(Array.getElem?_eq_some_iff.1 ho).1;simp at this;omega
 have hat:∀j,j<n→(ops.extract 0 n)[j]?=ops[j]?:=fun j hj=>by simp [Array.getElem?_extract];omega
 rw [hat i hi] at ho;refine ⟨ho,fun tmps=>?_⟩;unfold guarded at hg;have hgi:=(List.all_eq_true.1 hg) i (List.mem_range.2 hi);have:ops.getD i default=o:=by
  rw [Array.getD_eq_getD_getElem?,ho];rfl
 rw [this] at hgi;unfold Region.wanted;cases hgd:o.guard with
 |none=>rfl
 |some x=>
  obtain ⟨g,b⟩:=x;rw [hgd] at hgi;have hlt:g<n:=by simpa using hgi
  unfold yielded;simp only [hat g hlt]
end
section
variable {P:Program} {A:Plan} {Post:Goroutine→World→Prop} {b:Frame} {a:Act} {k:List Item} {cs:List Frame} {w:World}
theorem Y6F {α:Type} (s:Sem α) (w:World):s.events P w #[]=(s.runT P w #[]).2:=by rw [Sem.runT_eq]
theorem Yw (H:X4 P A) {o:Oper} (hs:Xv A b.fn (fun t=>a.tmps.getD t undef)) (hp:Yk P A b.fn o=true) (w:World):∀e∈listed P b.fn a o w,EvOk e:=by
 have ho:=Y1V (ρ:=a.eval) H hs (fun _=>rfl) hp;obtain ⟨_,s2⟩:=J4 P _ w #[] ho (by simp);unfold listed;rw [Y6F];exact Xw s2
def CallsR (P:Program) (f:FuncId) (args:Array Value) (w:World) (R:Value→World→Prop):Prop:=
 ∀(cs:List Frame) (Post:Goroutine→World→Prop),(∀fr v w',fr.fn=f→(∀d,fr.leaving P (w'.at d) (.returned v))→R v w'→Y3 P Post (G fr cs) w')→Y3 P Post (G (Frame.enter P f args .normal) cs) w
theorem CallsR.mono {f:FuncId} {args:Array Value} {R R':Value→World→Prop} (h:CallsR P f args w R) (hm:∀v w',R v w'→R' v w'):CallsR P f args w R':=fun cs Post hp=>h cs Post fun fr v w' a b c=>hp fr v w' a b (hm v w' c)
theorem CallsR.of_calls (H:X4 P A) (hstep:∀g,P.stepOf g=none) {f:FuncId} {args:Array Value} (hen:Xn P A f args) (R:Value→World→Prop)
  (hc:∀τ,Calls P f args (reW w τ 0) (fun e w'=>∃v,e=.returned v∧R v w')):CallsR P f args w (fun v w'=>∃w₁ τ d d',R v (reW w₁ τ d)∧w'=reW w₁ w.tape d'):=fun cs Post hp=>by
 refine Y3.of_callsB cs (Y8B H hstep hen (fun _ e w'=>∃v,e=.returned v∧R v w') hc (fun _ _ ⟨v,e,_⟩=>by cases e)) fun fr e w' d' hf hl ⟨τ,d,v,e1,hR⟩=>?_;subst e1;exact hp fr v (reW w' w.tape d') hf (fun d=>hl w.tape d) ⟨w',τ,d,d',hR,rfl⟩
theorem Y3.leave {fr c:Frame} {v:Value} (hl:∀d,fr.leaving P (w.at d) (.returned v)) (h:Y3 P Post (G (c.finish v) cs) w):Y3 P Post (G fr (c::cs)) w:=by
 refine .step rfl fun d=>?_;obtain ⟨hm,hd,hk,fn,hf,hr⟩:=hl d;have ho:=Y0c (P:=P) fn fr.tmps;obtain ⟨_,s2⟩:=J4 P _ (w.at d) #[] ho (by simp);refine ⟨G (c.finish v) cs,w.at d,seen P fr.fn ((results fn fr.tmps).runT P (w.at d) #[]).2,?_,Xw s2,h.at d⟩;rw [Z6 (by rw [hm];simp)];have hr':((results fn fr.tmps).runT P (w.at d) #[]).1=.ok v (w.at d):=by rw [Sem.runT_fst];exact hr
 unfold unwind;cases hx:(results fn fr.tmps).runT P (w.at d) #[] with
 |mk r es=>
  rw [hx] at hr';simp only at hr';subst hr';simp only [hd,hm,hf,hx,doReturn,hk,GStep.after];simp [G]
theorem Y3.call {ops:Array Oper} {i:Nat} {rest:List Nat} {o:Oper} {f:FuncId} {args:Array Value} {R:Value→World→Prop} (ho:ops[i]?=some o) (hw:Region.wanted o (yielded ops a.tmps)=true) (hk:b.kind≠.early)
  (hr:∀d,(execOp a.eval o).run P (w.at d)=.ok (.enter f args) (w.at d)) (he:∀d,∀e∈listed P b.fn a o (w.at d),EvOk e) (hc:CallsR P f args w R)
  (h:∀v w',R v w'→Y3 P Post (G (b.at (a.put o.dst v) (.inRegion ops rest::k)) cs) w'):Y3 P Post (G (b.at a (.inRegion ops (i::rest)::k)) cs) w:=by
 refine .step rfl fun d=>⟨_,_,_,stepG_enter ho hw hk (hr d),he d,Y3.at (hc _ _ fun fr v w' _ hl hR=>?_) d⟩;refine Y3.leave hl ?_;have hfin:(b.at a (.inRegion ops (i::rest)::k)).finish v=b.at (a.put o.dst v) (.inRegion ops rest::k):=by rw [Frame.finish_at,ho];rfl
 rw [hfin];exact h v w' hR
theorem CallsR.intro {f:FuncId} {args:Array Value} {R:Value→World→Prop} {fn:Func} {c:Code} (hf:P.funcs[f]?=some fn) (hb:fn.body=some c)
  (h:∀(cs:List Frame) (Post:Goroutine→World→Prop),(∀(a:Act) (todo:List Item) (v:Value) (w':World),a.defers=[]→(∀d,(results fn a.tmps).run P (w'.at d)=.ok v (w'.at d))→R v w'→Y3 P Post (G {(base f).at a todo with mode:=.returning} cs) w')→
   Y3 P Post (G ((base f).at {tmps:=args++Array.replicate (fn.ntmps-args.size) undef,defers:=[]} [.code c]) cs) w):CallsR P f args w R:=fun cs Post hp=>by
 rw [enter_at args hf hb];exact h cs Post fun a todo v w' hd hr hR=>hp _ v w' rfl (fun d=>⟨rfl,hd,rfl,fn,hf,hr d⟩) hR
end
section
variable {P:Program}
theorem Y9Q {fr:Frame} {v:Value} {w:World} (hl:fr.leaving P w (.returned v)) (hi:P.inits.idxOf? fr.fn=none):∃es,stepG P true (G fr []) w=.ended (.done v) w es∧∀e∈es,EvOk e:=by
 obtain ⟨hm,hd,hk,fn,hf,hr⟩:=hl;have ho:=Y0c (P:=P) fn fr.tmps;obtain ⟨_,s2⟩:=J4 P _ w #[] ho (by simp);refine ⟨seen P fr.fn ((results fn fr.tmps).runT P w #[]).2,?_,Xw s2⟩;rw [Z6 (by rw [hm];simp)];have hr':((results fn fr.tmps).runT P w #[]).1=.ok v w:=by rw [Sem.runT_fst];exact hr
 unfold unwind;cases hx:(results fn fr.tmps).runT P w #[] with
 |mk r es=>
  rw [hx] at hr';simp only at hr';subst hr';simp only [hd,hm,hf,hx,doReturn,hk,hi,GStep.after];simp
theorem Y3V:∀{N:Nat} {m:Machine} {t t':Trace} {m':Machine},runNT P N m t=(.next m',t')→runN P N m=.next m'
 |0,m,t,t',m',h=>by
  simp only [runNT] at h;cases h;rfl
 |N+1,m,t,t',m',h=>by
  simp only [runNT] at h;simp only [runN];split at h
  ·rename_i mm ops hs
   have:step P m=.next mm:=by unfold step;rw [hs]
   rw [this];exact Y3V h
  ·rename_i hx _
   simp only [Prod.mk.injEq] at h;exact absurd h.1 (hx _)
theorem Y7A {N:Nat} {m mm:Machine} {t ops:Trace} (h:stepT P m=(.next mm,ops)):runNT P (N+1) m t=runNT P N mm (t++ops):=by simp only [runNT,h]
theorem Y6a {N:Nat} {m m':Machine} {t t' ops:Trace} {o:Outcome} {w':World} (h:runNT P N m t=(.next m',t')) (hs:stepT P m'=(.ended o w',ops)):runNT P (N+1) m t=(.ended o w',t'++ops):=by
 induction N generalizing m t with
 |zero=>
  simp only [runNT] at h;cases h;simp only [runNT,hs]
 |succ N ih=>
  cases hm:stepT P m with
  |mk s ops'=>
   cases s with
   |next mm=>
    rw [Y7A hm] at h ⊢;exact ih h
   |ended o w=>
    simp only [runNT,hm] at h;cases h
theorem Y7X {Post:Value→World→Prop} {fr:Frame} {v:Value} {w:World} (hl:∀d,fr.leaving P (w.at d) (.returned v)) (hi:P.inits.idxOf? fr.fn=none) (hp:∀d,Post v (w.at d)):
  ∀(gs:Array Goroutine) (sl:Option (Nat×Nat)) (t:Trace) (q:Nat→Nat) (d:Nat),gs[0]?=some (G fr [])→Leavers P t gs q→YL t→
   ∃N last t₁ o w' ops,runNT P N (crowd gs (w.at d) sl) t=(.next last,t₁)∧stepT P last=(.ended o w',ops)∧Go.Conc.Good P Post last o w' (t₁++ops):=by
 intro gs sl t q;generalize hM:Go.ConcN.sumTo gs.size q=M;induction M using Nat.strongRecOn generalizing gs sl t q with
 |_ M ihM=>
  intro d h0 hL hP;obtain ⟨i,g,d',sl',hi',hg,hst⟩:=crowd_pick (P:=P) (w:=w.at d) (sl:=sl) (Y3s hL h0 rfl) ⟨0,_,h0,rfl⟩;by_cases hi0:i=0
  ·subst hi0;obtain rfl:g=G fr []:=by rw [h0] at hi';exact (Option.some.inj hi').symm
   obtain ⟨es,hend,hes⟩:=Y9Q (hl d') hi;have hrunT:=runT_many_ended (P:=P) (sl:=sl') (i:=0) h0 (show stepG P (0==0) (G fr []) ((w.at d).at d')=_ from hend);have hP':=hP.own (fn:=(G fr []).frame.fn) (pos:=(G fr []).frame.place) hes;refine ⟨0,_,t,_,_,_,rfl,hst.trans hrunT,v,rfl,hp d',hP'.clean,hP'.over,⟨fun x hx=>?_,rfl⟩,fun j x hx hj=>?_⟩
   ·obtain ⟨j,hj⟩:=List.mem_iff_getElem?.1 hx;rw [List.getElem?_drop] at hj;exact ⟨_,(hL.old (1+j) x (by omega) (by simpa [crowd] using hj)).leaves⟩
   ·have hq:=hL.old j x (by omega) hx;refine ⟨q j,?_⟩;have e:(t++MemOp.ofEvents 0 (G fr []).frame.fn (G fr []).frame.place es).deaf j (t++MemOp.ofEvents 0 (G fr []).frame.fn (G fr []).frame.place es).size=Deaf t j:=
     Deaf_other t (g:=j) (g':=0) (by omega) _ ofEvents_g
    rw [e];exact hq.hears _
  ·obtain ⟨gs',ops,q',e1,e2,e3,e4,e5,e6⟩:=Y4E (w:=(w.at d).at d') (sl:=sl') hL hP h0 rfl hi' hg (by omega);obtain ⟨N,last,t₁,o,w',ops',k1,k2,k3⟩:=ihM _ (by omega) gs' sl' (t++ops) q' rfl d' e3 e4 e5;exact ⟨N+1,last,t₁,o,w',ops',by simp only [runNT,hst,e1];exact k1,k2,k3⟩
theorem CallsR.good {f:FuncId} {args:Array Value} {W:World} {R:Value→World→Prop} {Post:Value→World→Prop} (h:CallsR P f args W R) (hi:P.inits.idxOf? f=none) (hp:∀v w' d,R v w'→Post v (w'.at d)):
  ∃M last o w' t',runNT P (M+1) (solo (G (Frame.enter P f args .normal) []) W) #[]=(.ended o w',t')∧runN P M (solo (G (Frame.enter P f args .normal) []) W)=.next last∧step P last=.ended o w'∧Go.Conc.Good P Post last o w' t':=by
 have hrun:=h [] (fun g w'=>∃fr v w₀ d,w'=World.at w₀ d∧g=G fr []∧fr.fn=f∧(∀d,fr.leaving P (w₀.at d) (.returned v))∧R v w₀) fun fr v w' hf hl hR=>.done fun d=>⟨fr,v,w',d,rfl,rfl,hf,hl,hR⟩;obtain ⟨N,gs',a',w',sl',t',q',h1,_,h3,⟨fr,v,w₀,d,rfl,rfl,hf,hl,hR⟩,h5,h6⟩:=hrun #[G (Frame.enter P f args .normal) []] Option.none #[] (fun _=>0) W.drawn rfl (leavers_one _ _) Ybe;obtain ⟨M,last,t₁,o,w',ops,k1,k2,k3⟩:=Y7X (Post:=Post) hl (by rw [hf];exact hi) (fun d=>hp v w₀ d hR) gs' sl' t' q' d h3 h5 h6;have hall:=Y0i h1 k1;refine ⟨N+M,last,o,w',t₁++ops,Y6a hall k2,Y3V hall,by unfold step;rw [k2],k3⟩
end
end Go.Proofs.YtdoghgnifkgfdaaGreat.Mute
