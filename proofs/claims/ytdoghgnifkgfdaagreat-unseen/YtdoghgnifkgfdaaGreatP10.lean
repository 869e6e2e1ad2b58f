import Derived.BigQuiet
import Derived.Deep.QuietTactic
import Derived.WalkSmall
import Derived.Test.YtdoghgnifkgfdaaGreatP09
set_option maxRecDepth 100000
set_option maxHeartbeats 16000000
namespace Go.Proofs.YtdoghgnifkgfdaaGreat
open Go.RowKit
def setAt (cb:Nat→Nat) (k b:Nat) (i:Nat):Nat:=if i<k then cb i else b
def Yc (a b c d:Value) (j:Nat):Value:=if j=0 then a else if j=1 then b else if j=2 then c else d
theorem row4 (w:World) (a b c d:Value) (t:Nat):RowF (w.alloc (.cells #[a,b,c,d] t)) w.heap.size 4 t (Yc a b c d):=
 RowF.new w #[a,b,c,d] t _ (fun j hj=>by
  have:j=0∨j=1∨j=2∨j=3:=by simp at hj;omega
  rcases this with rfl|rfl|rfl|rfl<;>rfl)
theorem RowF.at4 {w:World} {g t:Nat} {a b c d:Value} (h:RowF w g 4 t (Yc a b c d)):w.cell? ⟨g,0,none⟩=some a∧w.cell? ⟨g,1,none⟩=some b∧w.cell? ⟨g,2,none⟩=some c∧w.cell? ⟨g,3,none⟩=some d:=
 ⟨h.cell (by omega),h.cell (by omega),h.cell (by omega),h.cell (by omega)⟩
theorem YX {P:Program} (w:World) {ops:Array Oper} {rest:List Oper} {o:Oper} {a:Act} {Q:Exit→Act→World→Prop} (hgd:o.guard=none) (s x:Operand) (t:TypeId)
  (ho:o.op=.call {callee:=.builtin .append,args:=#[s,x],argTypes:=#[t,t]})
  (base:Nat) (e:TypeId) (z:Value) (size bytes:Nat) (ht:P.underlying t=some (.slice e)) (hinfo:(P.info? e).map (fun i=>(i.zero,i.size,i.bytes))=some (some z,size,bytes))
  (hzs:z.cells.size=size) (hsz:0<size) (v:Value) (n:Nat) (xs:List Value) (hs:a.eval s=v) (hown:w.ownsRow base e size v n xs)
  (B:Nat) (news:List Value) (ty:TypeId) (hx:a.eval x=.slice (some ⟨B,0,none⟩) 1 1) (hl:news.length=size) (hrow:w.heap[B]?=some (.cells news.toArray ty (0,0))) (h1:∀u∈news,u.oneCell'=true)
  (h63:n+1≤maxLen) (hbytes:(n+1)*bytes≤140737488355328) (hbase:base≤w.heap.size)
  (h:∀g cap w',w'.ownsRow base e size (.slice (some ⟨g,0,none⟩) (n+1) cap) (n+1) (xs++news)→w.grownBy w' v.ownBlock→(v.ownBlock=some g∨g=w.heap.size)→g<w'.heap.size→wpList P ops Q rest (a.put o.dst (.slice (some ⟨g,0,none⟩) (n+1) cap)) w'):wpList P ops Q (o::rest) a w:=by
 obtain ⟨i,h2,h3,h4,h5⟩:=info_parts hinfo;exact wpList_append_lies w hgd s x t ho base e i z size bytes ht h2 h3 h4 h5 hzs hsz v n xs hs hown ⟨B,0,none⟩ 1 1 news hx (by rw [hl,Nat.one_mul]) (by
  have:=World.news_of_block hrow;simpa using this) h1 (by omega) h63 hbytes hbase _ rfl h
def cells3 (a b c:Value) (j:Nat):Value:=if j=0 then a else if j=1 then b else c
theorem row3 (w:World) (a b c:Value) (t:Nat):RowF (w.alloc (.cells #[a,b,c] t)) w.heap.size 3 t (cells3 a b c):=
 RowF.new w #[a,b,c] t _ (fun j hj=>by
  have:j=0∨j=1∨j=2:=by simp at hj;omega
  rcases this with rfl|rfl|rfl<;>rfl)
theorem RowF.at3 {w:World} {g t:Nat} {a b c:Value} (h:RowF w g 3 t (cells3 a b c)):w.cell? ⟨g,0,none⟩=some a∧w.cell? ⟨g,1,none⟩=some b∧w.cell? ⟨g,2,none⟩=some c:=
 ⟨h.cell (by omega),h.cell (by omega),h.cell (by omega)⟩
theorem RowF.set3 {w:World} {g t:Nat} {a b c:Value} (h:RowF w g 3 t (cells3 a b c)) (v:Value):
  RowF (w.setCell ⟨g,0,none⟩ v) g 3 t (cells3 v b c)∧RowF (w.setCell ⟨g,1,none⟩ v) g 3 t (cells3 a v c)∧RowF (w.setCell ⟨g,2,none⟩ v) g 3 t (cells3 a b v):=by
 refine ⟨(h.set 0 v).congr ?_,(h.set 1 v).congr ?_,(h.set 2 v).congr ?_⟩
 all_goals
  intro j hj;have:j=0∨j=1∨j=2:=by omega
  rcases this with rfl|rfl|rfl<;>rfl
theorem JY {w:World} {g t:Nat} {a b c d:Value} (h:RowF w g 4 t (Yc a b c d)):w.heap[g]?=some (.cells #[a,b,c,d] t (0,0)):=by
 obtain ⟨cs,h1,h2,h3⟩:=h;rw [h1];congr 2;apply Array.ext
 ·simp [h2]
 ·intro i hi hi';have h3':=h3 i (by omega);have:i=0∨i=1∨i=2∨i=3:=by omega
  rw [Array.getElem?_eq_getElem hi] at h3';rcases this with rfl|rfl|rfl|rfl<;>simpa [Yc] using h3'
end Go.Proofs.YtdoghgnifkgfdaaGreat
