import Derived.Shelf.SortM.Plain
import Derived.Test.YtdoghgnifkgfdaaGreatP15
set_option maxRecDepth 100000
set_option maxHeartbeats 16000000
namespace Go.Proofs
open Go.Shelf
def Tryz.sortInts_ren:Ren:=⟨fun|5=>55|8=>82|7=>81|19=>109|20=>110|10=>100|11=>101|12=>102|13=>103|14=>104|15=>105|16=>106|17=>107|18=>108|30=>119|31=>120|32=>121|33=>122|34=>123|35=>124|40=>134|n=>n,fun|23=>26|25=>3|32=>189|22=>26|44=>218|46=>220|36=>211|35=>210|41=>215|53=>234|57=>238|63=>249|64=>115|n=>n,fun n=>n⟩
theorem Tryz.sortInts:SlLaysM.n5 Tryz.prog Tryz.sortInts_ren:=by
 have h:=fun{f B}a b=>show Bears Tryz.prog f B from⟨(Tryz.prog.funcs[f]?.getD Tryz.f0).name,a,b⟩
 constructor
 all_goals first|kernel_rfl|(intro _;kernel_rfl)|exact h (by kernel_rfl) (by kernel_rfl)
end Go.Proofs
namespace Go.Proofs.YtdoghgnifkgfdaaGreat
open Go.RowKit Go.Sort
theorem YgO:Yd7 Tryz.prog 55:=by
 intro base g c n L w hn hpos hb hbase hown;have hsl:=Ye7 hown hn;have hg:g<w.heap.size∧base≤g:=by have:=hown.lt g rfl;omega
 have hfr:∀a:Nat,w.frozen? ⟨g,a,none⟩=false:=fun a=>by
  rcases hown.2 with ⟨e,_⟩|⟨g',cap,cur,e,_,hh,_⟩
  ·cases e
  ·injection e with e1
   injection e1 with e1
   injection e1 with e1
   subst e1;unfold World.frozen?;rw [hh];simp
 have hcell:∀j,j<n→w.cell? ⟨g,0+j,none⟩=some (.int .i64 (L.getD j 0)):=fun j hj=>by
  obtain ⟨b,o,e,hc⟩:=hsl.at hpos;have e2:=Option.some.inj e;injection e2 with e3 e4
  subst e3 e4;exact hc j hj
 have hH:Holds (Value.int .i64) w g 0 L.toArray:=fun j hj=>by
  have hj:j<L.length:=by simpa using hj
  refine ⟨?_,hfr _⟩;rw [hcell j (by omega)];simp [hj]
 have hC:=AnyM.slices_Sort_int Tryz.sortInts g 0 c L w hH hg.1 (by omega);rw [hn] at hC;refine Calls.mono hC ?_;rintro e w' ⟨rfl,k,os,rfl⟩;have hperm:(L.mergeSort fun x y=>decide (x≤y)).Perm L:=List.mergeSort_perm ..;have hlen:(L.mergeSort fun x y=>decide (x≤y)).length=n:=by rw [hperm.length_eq,hn]
 have hsz:(putRow (Value.int .i64) (Sort.ahead w k) g 0 (L.mergeSort fun x y=>decide (x≤y)).toArray).heap.size=w.heap.size:=by
  unfold putRow mapBlock;simp [Sort.ahead]
 have hold:∀b,b<w.heap.size→b≠g→(putRow (Value.int .i64) (Sort.ahead w k) g 0 (L.mergeSort fun x y=>decide (x≤y)).toArray).heap[b]?=w.heap[b]?:=fun b _ hne=>by
  unfold putRow mapBlock;simp only [Sort.ahead,Array.getElem?_modify];rw [if_neg (fun e=>hne e.symm)]
 refine ⟨rfl,⟨rfl,rfl,rfl,?_,fun b hb2=>?_⟩,_,hlen,fun x=>hperm.mem_iff,?_⟩
 ·unfold grow;simp [hsz]
 ·rw [heap_grow_old _ os (by rw [hsz];omega)];exact hold b (by omega) (by omega)
 ·have h1:=holds_putRow (Value.int .i64) (Sort.ahead w k) g 0 L.toArray (L.mergeSort fun x y=>decide (x≤y)).toArray (holds_ahead _ _ _ _ _ _ hH) (by simp);have h2:=holds_grow (Value.int .i64) _ os g 0 _ (by rw [hsz];exact hg.1) h1;refine .inr ⟨g,0,rfl,fun j hj=>?_⟩;have:=(h2 j (by simp;omega)).1;rw [this];simp [hlen,hj]
end Go.Proofs.YtdoghgnifkgfdaaGreat
