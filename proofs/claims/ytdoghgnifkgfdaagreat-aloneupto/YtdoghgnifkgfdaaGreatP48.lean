import Derived.Orders
import Derived.Test.YtdoghgnifkgfdaaGreatP21
import Derived.Test.YtdoghgnifkgfdaaGreatP47
set_option maxRecDepth 100000
set_option maxHeartbeats 4000000
namespace Go.Proofs.YtdoghgnifkgfdaaGreat.Mute
open Go Go.Conc
section
variable {m:Region.Mode} {ops:Array Oper}
def XL (m:Region.Mode) (ops:Array Oper) (L:Array Bool) (i:Nat):Bool:=
 !L.getD i true && ((ops[i]?).map (·.after.all fun e=>!Region.binds m e || L.getD e.on false)).getD false
def rdy (m:Region.Mode) (ops:Array Oper) (L:Array Bool):List Nat:=(List.range ops.size).filter (XL m ops L)
theorem Y1N (fuel t:Nat) (L:Array Bool) (acc:List Nat):Region.linearise.go m ops (fuel+1) t L acc=match (rdy m ops L)[t % (rdy m ops L).length]? with
  |some i=>Region.linearise.go m ops fuel (t / (rdy m ops L).length) (L.setIfInBounds i true) (i::acc)
  |none=>acc.reverse:=rfl
def hangs (m:Region.Mode) (ops:Array Oper) (n:Nat):Bool:=
 ((List.range n).all fun i=>((ops.getD i default).after.all fun e=>decide (e.on<i)) && (List.range (n+1)).any fun j=>decide (i<j) && (ops.getD j default).after.toList.any fun e=>Region.binds m e && e.on==i) &&
 (List.range ops.size).all fun i=>decide (i<n) || (((ops.getD i default).after.all fun e=>decide (e.on<i)) && (decide (i=n) || (ops.getD i default).after.toList.any fun e=>Region.binds m e && e.on+1==i))
theorem filter_one {p:Nat→Bool} {x:Nat}:∀{N:Nat},x<N→p x=true→(∀i,i<N→i≠x→p i=false)→(List.range N).filter p=[x]
 |0,h,_,_=>absurd h (by omega)
 |N+1,h,hp,ho=>by
  rw [List.range_succ,List.filter_append];by_cases e:x=N
  ·subst e;have:(List.range x).filter p=[]:=List.filter_eq_nil_iff.2 fun i hi=>by
    have:=List.mem_range.1 hi;rw [ho i (by omega) (by omega)];simp
   rw [this];simp [hp]
  ·rw [filter_one (by omega) hp fun i hi hne=>ho i (by omega) hne];simp [ho N (by omega) (by omega)]
theorem J8 {L:Array Bool} {i:Nat}:XL m ops L i=true↔L.getD i true=false∧∃o,ops[i]?=some o∧∀e∈o.after,Region.binds m e=true→L.getD e.on false=true:=by
 unfold XL;cases h:ops[i]? with
 |none=>simp
 |some o=>
  simp only [Option.map_some,Option.getD_some,Bool.and_eq_true,Bool.not_eq_true',Option.some.injEq];constructor
  ·rintro ⟨h1,h2⟩;refine ⟨h1,o,rfl,fun e he hb=>?_⟩;rw [Array.all_eq_true_iff_forall_mem] at h2;have:=h2 e he;simpa [hb] using this
  ·rintro ⟨h1,o',rfl,h2⟩;refine ⟨h1,?_⟩;rw [Array.all_eq_true_iff_forall_mem];intro e he;cases hb:Region.binds m e with
   |false=>rfl
   |true=>simp [h2 e he hb]
theorem Zr {L:Array Bool} {i:Nat} (hi:i<L.size) (j:Nat) (d:Bool):(L.setIfInBounds i true).getD j d=if i=j then true else L.getD j d:=by
 rw [Array.getD_eq_getD_getElem?,Array.getD_eq_getD_getElem?];by_cases e:i=j
 ·subst e;simp [hi]
 ·rw [Array.getElem?_setIfInBounds_ne e,if_neg e]
theorem Jl {L:Array Bool} {i:Nat} (hi:i<L.size):L.getD i true=L.getD i false:=by
 simp [Array.getD,hi]
theorem Y82 {n:Nat} (h3:∀i,n≤i→i<ops.size→∀e∈(ops.getD i default).after,e.on<i) (h4:∀i,n<i→i<ops.size→∃e∈(ops.getD i default).after,Region.binds m e=true∧e.on+1=i):
  ∀(r k t:Nat) (L:Array Bool),n+k+r=ops.size→L.size=ops.size→(∀i,i<n+k→L.getD i false=true)→(∀i,n+k≤i→L.getD i false=false)→Region.linearise.go m ops r t L []=(List.range r).map (n+k+·):=by
 intro r;induction r with
 |zero=>intro k t L _ _ _ _;simp [Region.linearise.go]
 |succ r ih=>
  intro k t L hs hL ht hf;have hx:n+k<ops.size:=by omega
  have at?:∀i,i<ops.size→ops[i]?=some (ops.getD i default):=fun i hi=>by simp [Array.getD,hi]
  have hr:rdy m ops L=[n+k]:=by
   refine filter_one hx (J8.2 ⟨by rw [Jl (by omega)];exact hf _ (Nat.le_refl _),_,at? _ hx,fun e he _=>ht _ (h3 _ (by omega) hx e he)⟩) fun i hi hne=>?_;cases hb:XL m ops L i with
   |false=>rfl
   |true=>
    exfalso;obtain ⟨b1,o,b2,b3⟩:=J8.1 hb;rw [at? i hi] at b2;cases b2;rw [Jl (by omega)] at b1;by_cases hlt:i<n+k
    ·rw [ht i hlt] at b1;cases b1
    ·obtain ⟨e,he,hb,hon⟩:=h4 i (by omega) hi;have:=b3 e he hb;rw [hf e.on (by omega)] at this;cases this
  rw [Y1N,hr];simp only [List.length_singleton,Nat.mod_one,Nat.div_one,List.getElem?_cons_zero];rw [linearise_go_acc,ih (k+1) t (L.setIfInBounds (n+k) true) (by omega) (by simpa using hL) (fun i hi=>by
    rw [Zr (by omega)];split
    ·rfl
    ·exact ht i (by omega)) (fun i hi=>by
    rw [Zr (by omega),if_neg (by omega)];exact hf i (by omega))]
  rw [List.range_succ_eq_map];simp only [List.reverse_singleton,List.singleton_append,List.map_cons,List.map_map,Nat.add_zero,List.cons.injEq,true_and];apply List.map_congr_left;intro a _;simp only [Function.comp];omega
def cnt:Nat→Array Bool→Nat
 |0,_=>0
 |n+1,L=>cnt n L+(if L.getD n false then 0 else 1)
theorem Y3v {L:Array Bool}:∀{n:Nat},(∀i,i<n→L.getD i false=true)→cnt n L=0
 |0,_=>rfl
 |n+1,h=>by
  unfold cnt;rw [Y3v fun i hi=>h i (by omega),h n (by omega)];rfl
theorem Y3Z {L:Array Bool}:∀{n:Nat},cnt n L=0→∀i,i<n→L.getD i false=true
 |0,_,i,hi=>absurd hi (by omega)
 |n+1,h,i,hi=>by
  unfold cnt at h;cases hb:L.getD n false with
  |false=>simp [hb] at h
  |true=>
   rw [hb] at h;by_cases e:i=n
   ·rw [e];exact hb
   ·exact Y3Z (by simpa using h) i (by omega)
theorem Y2j {L:Array Bool}:∀{n:Nat},(∀i,i<n→L.getD i false=false)→cnt n L=n
 |0,_=>rfl
 |n+1,h=>by
  unfold cnt;rw [Y2j fun i hi=>h i (by omega),h n (by omega)];rfl
theorem Y2W {L:Array Bool} {i:Nat} (hL:i<L.size):∀{n:Nat},n≤i→cnt n (L.setIfInBounds i true)=cnt n L
 |0,_=>rfl
 |n+1,h=>by
  unfold cnt;have e:(L.setIfInBounds i true).getD n false=L.getD n false:=by rw [Zr hL,if_neg (by omega)]
  rw [Y2W hL (by omega),e]
theorem Y31 {L:Array Bool} {i:Nat} (hL:i<L.size) (hf:L.getD i false=false):∀{n:Nat},i<n→cnt n (L.setIfInBounds i true)+1=cnt n L
 |0,h=>absurd h (by omega)
 |n+1,h=>by
  unfold cnt;by_cases e:i=n
  ·subst e;have e1:(L.setIfInBounds i true).getD i false=true:=by rw [Zr hL,if_pos rfl]
   rw [Y2W hL (Nat.le_refl _),e1,hf];rfl
  ·have e1:(L.setIfInBounds i true).getD n false=L.getD n false:=by rw [Zr hL,if_neg e]
   rw [e1,←Y31 hL hf (n:=n) (by omega)];omega
theorem Y9d {n:Nat} (hn:n<ops.size) (h1:∀i,i<n→∀e∈(ops.getD i default).after,e.on<i) (h2:∀i,i<n→∃j,i<j∧j≤n∧∃e∈(ops.getD j default).after,Region.binds m e=true∧e.on=i)
  (h3:∀i,n≤i→i<ops.size→∀e∈(ops.getD i default).after,e.on<i) (h4:∀i,n<i→i<ops.size→∃e∈(ops.getD i default).after,Region.binds m e=true∧e.on+1=i):
  ∀(fuel t:Nat) (LA LB:Array Bool),LA.size=n→LB.size=ops.size→(∀i,i<n→LB.getD i false=LA.getD i false)→(∀i,n≤i→LB.getD i false=false)→
   (∀i,i<n→LA.getD i false=true→∀e∈(ops.getD i default).after,Region.binds m e=true→LA.getD e.on false=true)→cnt n LA=fuel→
   Region.linearise.go m ops (fuel+(ops.size-n)) t LB []=Region.linearise.go m (ops.extract 0 n) fuel t LA []++(List.range (ops.size-n)).map (n+·):=by
 have at?:∀i,i<ops.size→ops[i]?=some (ops.getD i default):=fun i hi=>by simp [Array.getD,hi]
 have atA:∀i,i<n→(ops.extract 0 n)[i]?=some (ops.getD i default):=fun i hi=>by
  rw [←at? i (by omega)];simp [Array.getElem?_extract];omega
 have sizeA:(ops.extract 0 n).size=n:=by simp;omega
 intro fuel;induction fuel with
 |zero=>
  intro t LA LB hA hB hab hhi hcl hc;have hall:=Y3Z hc;have:=Y82 (m:=m) h3 h4 (ops.size-n) 0 t LB (by omega) hB (fun i hi=>by rw [hab i (by omega)];exact hall i (by omega)) (fun i hi=>hhi i (by omega));rw [Nat.zero_add,this];simp [Region.linearise.go]
 |succ fuel ih=>
  intro t LA LB hA hB hab hhi hcl hc;obtain ⟨x,hx,hxf,hxl⟩:∃x,x<n∧LA.getD x false=false∧∀i,i<x→LA.getD i false=true:=by
   rcases Y1d (fun i=>LA.getD i false=true) n with h|⟨j,hj,hjf,hjl⟩
   ·rw [Y3v h] at hc;omega
   ·exact ⟨j,hj,by simpa using hjf,hjl⟩
  have hA_iff:∀i,i<n→XL m ops LB i=XL m (ops.extract 0 n) LA i:=fun i hi=>by
   have e:XL m ops LB i=true↔XL m (ops.extract 0 n) LA i=true:=by
    rw [J8,J8,at? i (by omega),atA i hi,Jl (by omega),Jl (by omega),hab i hi];constructor
    ·rintro ⟨a,o,ho,b⟩;cases ho;exact ⟨a,_,rfl,fun e he hb=>by rw [←hab _ (by have:=h1 i hi e he;omega)];exact b e he hb⟩
    ·rintro ⟨a,o,ho,b⟩;cases ho;exact ⟨a,_,rfl,fun e he hb=>by rw [hab _ (by have:=h1 i hi e he;omega)];exact b e he hb⟩
   cases p:XL m ops LB i<;>cases q:XL m (ops.extract 0 n) LA i<;>simp_all
  have hhigh:∀i,n≤i→i<ops.size→XL m ops LB i=false:=fun i hi his=>by
   cases hb:XL m ops LB i with
   |false=>rfl
   |true=>
    exfalso;obtain ⟨b1,o,b2,b3⟩:=J8.1 hb;rw [at? i his] at b2;cases b2;by_cases e:i=n
    ·subst e;have hall:∀d y,y<i→i-y≤d→LA.getD y false=true:=by
      intro d;induction d with
      |zero=>intro y hy hd;omega
      |succ d ihd=>
       intro y hy hd;obtain ⟨j,hj1,hj2,e,he,hbe,hon⟩:=h2 y hy;by_cases ej:j=i
       ·subst ej;have:=b3 e he hbe;rw [hon,hab y hy] at this;exact this
       ·have:=hcl j (by omega) (ihd j (by omega) (by omega)) e he hbe;rw [hon] at this;exact this
     rw [hall (i-x) x hx (Nat.le_refl _)] at hxf;cases hxf
    ·obtain ⟨e,he,hbe,hon⟩:=h4 i (by omega) his;have:=b3 e he hbe;rw [hhi e.on (by omega)] at this;cases this
  have hr:rdy m ops LB=rdy m (ops.extract 0 n) LA:=by
   unfold rdy;rw [sizeA,show ops.size=n+(ops.size-n) by omega,List.range_add,List.filter_append];have e2:((List.range (ops.size-n)).map (n+·)).filter (XL m ops LB)=[]:=List.filter_eq_nil_iff.2 fun i hi=>by
    obtain ⟨y,hy,rfl⟩:=List.mem_map.1 hi;have:=List.mem_range.1 hy;rw [hhigh (n+y) (by omega) (by omega)];simp
   rw [e2,List.append_nil];exact List.filter_congr fun i hi=>hA_iff i (List.mem_range.1 hi)
  have hxr:x∈rdy m (ops.extract 0 n) LA:=List.mem_filter.2 ⟨List.mem_range.2 (by omega),J8.2 ⟨by rw [Jl (by omega)];exact hxf,_,atA x hx,fun e he _=>hxl _ (h1 x hx e he)⟩⟩;have hpos:0<(rdy m (ops.extract 0 n) LA).length:=List.length_pos_of_mem hxr;obtain ⟨i,hi⟩:∃i,(rdy m (ops.extract 0 n) LA)[t % (rdy m (ops.extract 0 n) LA).length]?=some i:=⟨_,List.getElem?_eq_getElem (Nat.mod_lt _ hpos)⟩;have him:=List.mem_filter.1 (List.mem_of_getElem? hi);have hin:i<n:=by have:=List.mem_range.1 him.1;omega
  obtain ⟨i1,o,i2,i3⟩:=J8.1 him.2;rw [atA i hin] at i2;cases i2;rw [Jl (by omega)] at i1;rw [show fuel+1+(ops.size-n)=(fuel+(ops.size-n))+1 by omega,Y1N,Y1N,hr,hi];simp only [];rw [linearise_go_acc,linearise_go_acc m (ops.extract 0 n),ih _ (LA.setIfInBounds i true) (LB.setIfInBounds i true) (by simpa using hA) (by simpa using hB)
   (fun j hj=>by rw [Zr (by omega),Zr (by omega),hab j hj]) (fun j hj=>by rw [Zr (by omega),if_neg (by omega)];exact hhi j hj)
   (fun j hj hjt e he hb=>by
    rw [Zr (by omega)] at hjt ⊢;split
    ·rfl
    ·by_cases ej:i=j
     ·subst ej;exact i3 e he hb
     ·rw [if_neg ej] at hjt;exact hcl j hj hjt e he hb)
   (by have:=Y31 (L:=LA) (i:=i) (by omega) i1 (n:=n) hin;omega)]
  simp
theorem Y8b {n:Nat} (hn:n<ops.size) (hh:hangs .any ops n=true) (t:Nat):Region.schedule true ops t=Region.schedule true (ops.extract 0 n) t++(List.range (ops.size-n)).map (n+·):=by
 have sizeA:(ops.extract 0 n).size=n:=by simp;omega
 unfold hangs at hh;simp only [Bool.and_eq_true,List.all_eq_true,List.any_eq_true,List.mem_range,Bool.or_eq_true,decide_eq_true_eq,Array.all_eq_true_iff_forall_mem,Array.mem_toList_iff,beq_iff_eq] at hh;obtain ⟨ha,hb⟩:=hh;have key:=Y9d (m:=.any) hn (fun i hi e he=>(ha i hi).1 e he) (fun i hi=>by
   obtain ⟨j,hj,hij,e,he,hb,hon⟩:=(ha i hi).2;exact ⟨j,hij,by omega,e,he,hb,hon⟩)
  (fun i hi his e he=>by
   rcases hb i his with h|h
   ·omega
   ·exact h.1 e he)
  (fun i hi his=>by
   rcases hb i his with h|h
   ·omega
   ·rcases h.2 with h|⟨e,he,hb,hon⟩
    ·omega
    ·exact ⟨e,he,hb,hon⟩)
  n t (Array.replicate n false) (Array.replicate ops.size false) (by simp) (by simp) (fun i hi=>by simp [Array.getD]) (fun i hi=>by simp [Array.getD]) (fun i hi h=>by simp [Array.getD] at h) (Y2j fun i hi=>by simp [Array.getD])
 unfold Region.schedule;simp only [Bool.true_or,if_true];unfold Region.linearise;rw [sizeA,←key,show n+(ops.size-n)=ops.size by omega]
def guarded (ops:Array Oper) (n:Nat):Bool:=(List.range n).all fun i=>match (ops.getD i default).guard with
 |none=>true
 |some (g,_)=>decide (g<n)
theorem Y4U {n:Nat} (hn:n<ops.size) (hg:guarded ops n=true):Alike (ops.extract 0 n) ops:=fun i o ho=>by
 have hi:i<n:=by
  have:=(Array.getElem?_eq_some_iff.1 ho).1;simp at this;omega
 have hat:∀j,j<n→(ops.extract 0 n)[j]?=ops[j]?:=fun j hj=>by simp [Array.getElem?_extract];omega
 rw [hat i hi] at ho;refine ⟨ho,fun tmps=>?_⟩;unfold guarded at hg;have hgi:=(List.all_eq_true.1 hg) i (List.mem_range.2 hi);have:ops.getD i default=o:=by
  rw [Array.getD_eq_getD_getElem?,ho];rfl
 rw [this] at hgi;unfold Region.wanted;cases hgd:o.guard with
 |none=>rfl
 |some x=>
  obtain ⟨g,b⟩:=x;rw [hgd] at hgi;have hlt:g<n:=by simpa using hgi
  unfold yielded;simp only [hat g hlt]
end
open Go.RowKit
section
variable {P:Program} {main:Bool} {R:World→World→Prop} {D:World→World→Array Event→Prop} {fn:FuncId} {md:Region.Mode} {ops opsB:Array Oper} {Q:Act→World→Prop} {S:World→Prop}
theorem Y7Q (T:Terms R D) {b:Frame} {k:List Item} {cs:List Frame} {Stop:Goroutine→World→Prop} (hal:Alike ops opsB) (tail:List Nat) (hb:b.fn=fn) (hk:b.kind≠.early) (ds:List Deferred)
  (hQ:∀a w,a.defers=ds→Q a w→Y1 P main R D Stop (G (b.at a (.inRegion opsB tail::k)) cs) w):
  ∀(fuel t:Nat) (listed:Array Bool) (a:Act) (w:World),a.defers=ds→AnyD P main R D fn md ops Q (fun _ _=>False) (fun _ _ _=>False) S fuel listed a w→Y1 P main R D Stop (G (b.at a (.inRegion opsB (Region.linearise.go md ops fuel t listed []++tail)::k)) cs) w:=by
 intro fuel;induction fuel with
 |zero=>intro t listed a w hd h;simpa [Region.linearise.go] using hQ a w hd h.2
 |succ fuel ih=>
  intro t listed a w hd ⟨h₀,h₁⟩;simp only [Region.linearise.go];change Y1 P main R D Stop (G (b.at a (.inRegion opsB ((match (Region.ready md ops listed)[t % (Region.ready md ops listed).length]? with
   |some i=>Region.linearise.go md ops fuel (t / (Region.ready md ops listed).length) (listed.setIfInBounds i true) [i]
   |none=>[].reverse)++tail)::k)) cs) w
  cases hi:(Region.ready md ops listed)[t % (Region.ready md ops listed).length]? with
  |none=>
   have hnil:Region.ready md ops listed=[]:=by
    cases hr:Region.ready md ops listed with
    |nil=>rfl
    |cons x xs=>
     rw [hr] at hi;have hlt:t % (x::xs).length<(x::xs).length:=Nat.mod_lt _ (by simp);rw [List.getElem?_eq_none_iff] at hi;omega
   exact hQ a w hd (h₀ hnil)
  |some i=>
   simp only [];rw [linearise_go_acc,List.reverse_singleton,List.singleton_append,List.cons_append];have hop:=h₁ i (List.mem_of_getElem? hi);unfold OpD at hop;cases ho:ops[i]? with
   |none=>rw [ho] at hop;exact hop.elim
   |some o=>
    rw [ho] at hop;obtain ⟨hoB,hwB⟩:=hal i o ho;by_cases hw:Region.wanted o (yielded ops a.tmps)=true
    ·simp only [hw,if_true] at hop;rcases hop with hop|⟨f,args,ats,fn',c,h1,h2,h3,h4,h5⟩|⟨-,htl⟩
     ·refine Y1.op hoB ((hwB _).trans hw) hk fun w₁ r K hK=>uponK_mono hK ?_;have hx:=hop w₁ r;revert hx;cases (execOp a.eval o).run P w₁ with
      |ok n w'=>cases n<;>first|exact id|exact fun x=>⟨hb▸x.1,ih _ _ _ w' ((put_defers _ _ _).trans hd) x.2.2⟩
      |halt _ _=>exact id
     ·refine Y1.enter T hoB ((hwB _).trans hw) hk h1 h2 h3 h4 ?_;rw [←enter_at _ h2 h4];refine h5 _ cs Stop (fun v w' x=>?_) fun ch w' x=>x.elim;rw [Frame.finish_at,hoB];exact ih _ _ _ w' ((put_defers _ _ _).trans hd) x.2
     ·exact htl.elim
    ·simp only [hw] at hop;exact Y1.unwanted T hoB ((hwB _).trans (by simpa using hw)) (ih _ _ _ w ((put_defers _ _ _).trans hd) hop.2)
theorem Y1O {α:Type} (l:List α) (n:Nat):l.toArray.extract 0 n=(l.take n).toArray:=by simp
theorem Y1.drawnCut (T:Terms R D) (hd:LetsDraw D) {b:Frame} {k:List Item} {cs:List Frame} {Stop:Goroutine→World→Prop} {id:Nat} {a:Act} {w:World} (n:Nat) (hn:n<opsB.size) (hh:hangs .any opsB n=true) (hg:guarded opsB n=true) (tl:List Nat) (htl:(List.range (opsB.size-n)).map (n+·)=tl) (hk:b.kind≠.early) (hm:P.follows .mixedOrders=true)
  (hA:opsB.extract 0 n=ops) (h:∀w₁,R w w₁→AnyD P main R D b.fn .any ops (fun a' w'=>Y1 P main R D Stop (G (b.at a' (.inRegion opsB tl::k)) cs) w') (fun _ _=>False) (fun _ _ _=>False) S n (Array.replicate n false) a {w₁ with drawn:=w₁.drawn+1}):Y1 P main R D Stop (G (b.at a (.code (.region id opsB true)::k)) cs) w:=
 .one rfl fun w₁ r=>⟨_,_,_,stepG_region_draw,hd _,by
  subst hA;rw [hm,Y8b hn hh,htl];have hsz:(opsB.extract 0 n).size=n:=by simp;omega
  simp only [Region.schedule,Bool.true_or,if_true];unfold Region.linearise;rw [hsz];exact Y7Q T (Y4U hn hg) tl rfl hk a.defers (fun _ _ _ h=>h) n _ _ a _ rfl (h w₁ r)⟩
end
noncomputable def ZU:Code:=match Tryz.f7.body with
 |some (.seq _ (.seq _ (.seq _ (.seq (.seq _ (.block _ (.loop c))) _))))=>c
 |_=>.skip
noncomputable def Y0M:Code:=match Tryz.f7.body with
 |some (.seq _ (.seq _ (.seq _ (.seq _ c))))=>c
 |_=>.skip
noncomputable def Y2d:Code:=match ZU with
 |.seq _ (.seq (.block _ (.seq _ (.seq _ c))) _)=>c
 |_=>.skip
noncomputable def Y2e:Code:=match ZU with
 |.seq _ (.seq _ c)=>c
 |_=>.skip
section
variable {w0 w:World} {bw n mm ff N:Nat}
theorem Yr.stillC (h:Yr w0 bw n mm ff N w) (hN:N≤1000000000000):CallsR Tryz.prog 23 #[.pointer (some ⟨bw,2,none⟩)] w (fun v w'=>v=.bool true∧Is w w'):=by
 obtain ⟨nE,nW,ks,rs,ve,vw,qc,cc,K,Kb,S,S',xsE,xsW,h,hE,hW⟩:=h;exact h.stillC (by omega) (by omega)
theorem Yr.madeC (h:Yr w0 bw n mm ff N w) {c:Cfg} {v0 v1 v2 v3:Value} (hcf:∀w':World,(∀b,b<w0.heap.size→w'.heap[b]?=w0.heap[b]?)→CfgR w' v0 v1 v2 v3 c) (hcw:CfgW c) (hch:c.nCh=0) (hd:c.nD=0) (hn:n≤8796093022208):
  CallsR Tryz.prog 18 #[.pointer (some ⟨bw,0,none⟩),.agg #[v0,v1,v2,v3]] w (fun v w'=>v=.bool true∧∃n',n≤n'∧n'≤n+1∧Yr w0 bw n' mm ff N w'):=by
 obtain ⟨nE,nW,ks,rs,ve,vw,qc,cc,K,Kb,S,S',xsE,xsW,h,hE,hW⟩:=h;refine (h.madeC hE hW (c:=c) (fun w' hb=>hcf w' fun b hl=>h.agree hb hl) hcw hch hd hn).mono ?_;rintro v w' ⟨h1,⟨-,h2⟩|⟨-,h2⟩⟩
 ·exact ⟨h1,n+1,by omega,by omega,h2⟩
 ·exact ⟨h1,n,by omega,by omega,h2⟩
theorem Yr.kern (h:Yr w0 bw n mm ff N w) (hn:0<n) (hN:N≤1000000000) (hmm:mm+1600≤1000000000) (hff:ff≤1000000000000):
  ∃(gk ck gr cr:Nat) (K Kb:Nat→Nat),w.cell? ⟨bw,0,none⟩=some (.slice (some ⟨gk,0,none⟩) n ck)∧w.cell? ⟨bw,1,none⟩=some (.slice (some ⟨gr,0,none⟩) n cr)∧
   (∀j,j<n→w.cell? ⟨gk,j,none⟩=some (.pointer (some ⟨K j,0,none⟩))∧w.cell? ⟨gr,j,none⟩=some (.pointer (some ⟨Kb j,0,none⟩)))∧
   (∀(d j:Nat) (ip:Option Addr) (il ic:Nat) (zi:Nat→Int),j<n→Sl w ip (il*2) (fun j=>.int .i64 (zi j))→((ip=none∧il=0)∨∃ad,ip=some ad∧(il=0∨ad.block<w0.heap.size))→16*il≤140737488351232→
    CallsR Tryz.prog 21 #[.pointer (some ⟨K j,0,none⟩),.pointer (some ⟨Kb j,0,none⟩),.slice ip il ic] (w.at d) (fun v w'=>v=.bool true∧Yr w0 bw n (mm+206) (ff+1) N w'))∧
   (∀(d j:Nat) (kd a q:Int) (p0 p1 p2 p3 p4:Option Addr) (l0 l1 l2 l3 l4 c0 c1 c2 c3 c4:Nat),j<n→(kd=3∨kd=4∨kd=5)→
    CallsR Tryz.prog 22 #[.pointer (some ⟨bw,0,none⟩),.pointer (some ⟨K j,0,none⟩),.pointer (some ⟨Kb j,0,none⟩),.agg #[.int .i64 kd,.int .i64 a,.int .i64 q,.slice p0 l0 c0,.slice p1 l1 c1,.slice p2 l2 c2,.slice p3 l3 c3,.slice p4 l4 c4]] (w.at d) (fun v w'=>v=.bool true∧Yr w0 bw n mm ff (N+4) w')):=by
 obtain ⟨nE,nW,ks,rs,ve,vw,qc,cc,K,Kb,S,S',xsE,xsW,h,hE,hW⟩:=h;obtain ⟨gk,ck,gr,cr,rfl,rfl,k1,k2,k3⟩:=h.kern hn;have hat:∀d,Yp w0 (w.at d) bw n mm ff nE nW (.slice (some ⟨gk,0,none⟩) n ck) (.slice (some ⟨gr,0,none⟩) n cr) ve vw qc cc K Kb S S' xsE xsW:=fun d=>⟨⟨h.win.row,h.win.k,h.win.r,h.win.ne⟩,fun i hi=>(h.pr i hi).keep (fun _ _=>rfl) (Nat.le_refl _),h.ap,h.oE,h.oW,h.hE,h.hW,h.e4,h.w4,h.sp,h.us,h.lo,⟨h.ph.os,h.ph.tape,h.ph.output,h.ph.size,h.ph.block⟩⟩;exact ⟨gk,ck,gr,cr,K,Kb,k1,k2,k3,fun d j ip il ic zi hj hin hp hb=>(hat d).frameC hE hW hj hin hp hb hmm hff,fun d j kd a q p0 p1 p2 p3 p4 l0 l1 l2 l3 l4 c0 c1 c2 c3 c4 hj hkd=>(hat d).asksC hE hW hN (by omega) hj hkd a q p0 p1 p2 p3 p4 l0 l1 l2 l3 l4 c0 c1 c2 c3 c4⟩
end
theorem Ya6 {Post:Goroutine→World→Prop} {w0:World} {bw:Nat} {lp:Option Addr} {len cap:Nat} (cs:List Frame) (i n mm ff N:Nat) (w:World) (u2 u3 u8 u9 u10 u11 u12 u13 u14 u15 u16 u17 u18 u19 u20 u21 u22 u23 u24 u25 u26 u27 u28 u29 u30 u31 u32 u33 u34 u35 u36 u37 u38 u39 u40 u41 u42 u43 u44 u45 u46 u47 u48 u49 u50 u51 u52 u53 u54 u55 u56 u57 u58 u59 u60 u61 u62 u63 u64 u65 u66 u67 u68 u69 u70 u71 u72 u73 u74 u75 u76 u77 u78 u79 u80 u81 u82 u83 u84 u85 u86 u87 u88 u89 u90 u91 u92 u93 u94 u95 u96 u97 u98 u99 u100:Value) (hi:i≤1048576) (hN:N≤1000000000000) (hI:Yr w0 bw n mm ff N w)
  (hnx:∀(w':World) (u2 u3 u8 u9 u10 u11 u12 u13 u14 u15 u16 u17 u18 u19 u20 u21 u22 u23 u24 u25 u26 u27 u28 u29 u30 u31 u32 u33 u34 u35 u36 u37 u38 u39 u40 u41 u42 u43 u44 u45 u46 u47 u48 u49 u50 u51 u52 u53 u54 u55 u56 u57 u58 u59 u60 u61 u62 u63 u64 u65 u66 u67 u68 u69 u70 u71 u72 u73 u74 u75 u76 u77 u78 u79 u80 u81 u82 u83 u84 u85 u86 u87 u88 u89 u90 u91 u92 u93 u94 u95 u96 u97 u98 u99 u100:Value),Yr w0 bw n mm ff N w'→Y3 Tryz.prog Post (G ((base 7).at {tmps:=(List.toArray ((.slice lp len cap)::(.int .i64 5)::(u2)::(u3)::(.bool false)::(.pointer (some ⟨bw,0,none⟩))::(.bool true)::(.int .i64 ((i+1:Nat):Int))::(u8)::(u9)::(u10)::(u11)::(u12)::(u13)::(u14)::(u15)::(u16)::(u17)::(u18)::(u19)::(u20)::(u21)::(u22)::(u23)::(u24)::(u25)::(u26)::(u27)::(u28)::(u29)::(u30)::(u31)::(u32)::(u33)::(u34)::(u35)::(u36)::(u37)::(u38)::(u39)::(u40)::(u41)::(u42)::(u43)::(u44)::(u45)::(u46)::(u47)::(u48)::(u49)::(u50)::(u51)::(u52)::(u53)::(u54)::(u55)::(u56)::(u57)::(u58)::(u59)::(u60)::(u61)::(u62)::(u63)::(u64)::(u65)::(u66)::(u67)::(u68)::(u69)::(u70)::(u71)::(u72)::(u73)::(u74)::(u75)::(u76)::(u77)::(u78)::(u79)::(u80)::(u81)::(u82)::(u83)::(u84)::(u85)::(u86)::(u87)::(u88)::(u89)::(u90)::(u91)::(u92)::(u93)::(u94)::(u95)::(u96)::(u97)::(u98)::(u99)::(u100)::[])),defers:=[]} [.code ZU,.inLoop ZU,.inBlock 0,.code Y0M]) cs) w'):
  Y3 Tryz.prog Post (G ((base 7).at {tmps:=(List.toArray ((.slice lp len cap)::(.int .i64 5)::(u2)::(u3)::(.bool false)::(.pointer (some ⟨bw,0,none⟩))::(.bool true)::(.int .i64 i)::(u8)::(u9)::(u10)::(u11)::(u12)::(u13)::(u14)::(u15)::(u16)::(u17)::(u18)::(u19)::(u20)::(u21)::(u22)::(u23)::(u24)::(u25)::(u26)::(u27)::(u28)::(u29)::(u30)::(u31)::(u32)::(u33)::(u34)::(u35)::(u36)::(u37)::(u38)::(u39)::(u40)::(u41)::(u42)::(u43)::(u44)::(u45)::(u46)::(u47)::(u48)::(u49)::(u50)::(u51)::(u52)::(u53)::(u54)::(u55)::(u56)::(u57)::(u58)::(u59)::(u60)::(u61)::(u62)::(u63)::(u64)::(u65)::(u66)::(u67)::(u68)::(u69)::(u70)::(u71)::(u72)::(u73)::(u74)::(u75)::(u76)::(u77)::(u78)::(u79)::(u80)::(u81)::(u82)::(u83)::(u84)::(u85)::(u86)::(u87)::(u88)::(u89)::(u90)::(u91)::(u92)::(u93)::(u94)::(u95)::(u96)::(u97)::(u98)::(u99)::(u100)::[])),defers:=[]} [.code Y2d,.inBlock 1,.code Y2e,.inLoop ZU,.inBlock 0,.code Y0M]) cs) w:=by
 have hk:(base 7).kind≠.early:=by simp [base]
 have hwr:IntKind.i64.wrap ((i:Int)+1)=((i+1:Nat):Int):=by rw [IntKind.wrap_i64];omega
 refine Y3.of_goes ?_;have hF:=Is.self w;repeat refine .c1 Y2 rfl ?_
 refine .regionL Y2 [0,1,2,3,4] (by rfl) ?_;iterate 3 (refine .opV Y2 rfl (by rfl) hk ?_;try walk_nrm)
 refine .stop rfl fun w4 hR=>?_;obtain ⟨d4,rfl⟩:=hF.rely hR;clear hF hR;refine Y3.call rfl (by rfl) hk (fun d=>?run1) (fun d=>?evs1) ((hI.is (w':=w.at d4) ⟨d4,rfl⟩).stillC hN) (fun v wS hv=>?_)
 case run1=>kernel_rfl
 case evs1=>
  rw [listed_nil (by kernel_rfl)];simp
 obtain ⟨rfl,hIs⟩:=hv;refine Y3.of_goes ?_;have hF:=Is.self wS;try walk_nrm
 obtain ⟨d5,rfl⟩:=hIs;replace hF:Is w ((w.at d4).at d5):=⟨d5,rfl⟩;refine .opV Y2 rfl (by rfl) hk ?_;try walk_nrm
 repeat refine .c1 Y2 rfl ?_
 refine .regionL Y2 [0,1,2,3,4] (by rfl) ?_;iterate 5 (refine .opV Y2 rfl (by rfl) hk ?_;try walk_nrm)
 repeat refine .c1 Y2 rfl ?_
 refine .regionL Y2 [0,1,2] (by rfl) ?_;iterate 3 (refine .opV Y2 rfl (by rfl) hk ?_;try walk_nrm)
 repeat refine .c1 Y2 rfl ?_
 refine Y1.inLoop Y2 ?_;refine .stop rfl fun w9 hR=>?_;have hI9:=hI.is (hF.rely hR);exact hnx _ _ _ _ _ _ _ _ _ _ _ _ _ _ _ _ _ _ _ _ _ _ _ _ _ _ _ _ _ _ _ _ _ _ _ _ _ _ _ _ _ _ _ _ _ _ _ _ _ _ _ _ _ _ _ _ _ _ _ _ _ _ _ _ _ _ _ _ _ _ _ _ _ _ _ _ _ _ _ _ _ _ _ _ _ _ _ _ _ _ _ _ _ _ _ _ hI9
end Go.Proofs.YtdoghgnifkgfdaaGreat.Mute
