import Derived.Deep.RegionLaw
import Derived.Test.YtdoghgnifkgfdaaGreatP10
set_option maxRecDepth 100000
set_option maxHeartbeats 16000000
namespace Go.Proofs.YtdoghgnifkgfdaaGreat
open Go.RowKit
theorem Jt:(Tryz.prog.info? 53).map (fun i=>(i.zero,i.size,i.bytes))=some (some (.agg #[.slice none 0 0,.slice none 0 0,.int .i64 0]),3,56):=by kernel_rfl
theorem Y17:(Tryz.prog.info? 100).map (fun i=>(i.zero,i.size,i.bytes))=some (some (.slice none 0 0),1,24):=by kernel_rfl
theorem Y1x {w:World} {base e size n:Nat} {v:Value} {xs:List Value} (h:w.ownsRow base e size v n xs) {j:Nat} (hj:j<base):some j≠v.ownBlock:=fun e=>by
 have:=(h.lt j e.symm).1;omega
theorem own_below {w w':World} {base e size n:Nat} {v:Value} {xs:List Value} (h:w.ownsRow base e size v n xs) (hb:Below w.heap.size w w'):w'.ownsRow base e size v n xs:=
 h.kept (row:=none) ⟨hb.os,hb.tape,hb.output,hb.size,fun k hk _=>hb.block k hk⟩ (by cases v.ownBlock<;>simp)
theorem alloc_at {A:World} {o:Obj} {B:Nat} (h:A.heap.size=B):(A.alloc o).heap[B]?=some o:=by subst h;exact heap_alloc_new A o
theorem Jk {P:Program} {w:World} {ops:Array Oper} {o:Oper} {a:Act} {K:Act→World→Prop} {Q:Exit→Act→World→Prop} {E:Prop} (hgd:o.guard=none) (s x:Operand) (t:TypeId)
  (ho:o.op=.call {callee:=.builtin .append,args:=#[s,x],argTypes:=#[t,t]})
  (base:Nat) (e:TypeId) (z:Value) (size bytes:Nat) (ht:P.underlying t=some (.slice e)) (hinfo:(P.info? e).map (fun i=>(i.zero,i.size,i.bytes))=some (some z,size,bytes))
  (hzs:z.cells.size=size) (hsz:0<size) (v:Value) (n:Nat) (xs:List Value) (hs:a.eval s=v) (hown:w.ownsRow base e size v n xs)
  (B:Nat) (news:List Value) (ty:TypeId) (hx:a.eval x=.slice (some ⟨B,0,none⟩) 1 1) (hl:news.length=size) (hrow:w.heap[B]?=some (.cells news.toArray ty (0,0))) (h1:∀u∈news,u.oneCell'=true)
  (h63:n+1≤maxLen) (hbytes:(n+1)*bytes≤140737488355328) (hbase:base≤w.heap.size)
  (h:∀g cap w',w'.ownsRow base e size (.slice (some ⟨g,0,none⟩) (n+1) cap) (n+1) (xs++news)→w.grownBy w' v.ownBlock→(v.ownBlock=some g∨g=w.heap.size)→g<w'.heap.size→K (a.put o.dst (.slice (some ⟨g,0,none⟩) (n+1) cap)) w'):
  if Region.wanted o (yielded ops a.tmps)=true then Oper.wp P o a w K Q else E:=by
 obtain ⟨i,h2,h3,h4,h5⟩:=info_parts hinfo;exact step_append_lies w hgd s x t ho base e i z size bytes ht h2 h3 h4 h5 hzs hsz v n xs hs hown ⟨B,0,none⟩ 1 1 news hx (by rw [hl,Nat.one_mul]) (by
  have:=World.news_of_block hrow;simpa using this) h1 (by omega) h63 hbytes hbase _ rfl h
theorem Zk {w:World} {base e size n:Nat} {v:Value} {F:Nat→Value} (h:w.ownsRow base e size v n ((List.range (n*size)).map F)):
  ∃p cap,v=.slice p n cap∧n≤cap∧(p=none→n=0∧cap=0)∧Sl w p (n*size) F:=by
 rcases h.2 with ⟨rfl,rfl⟩|⟨g,cap,cur,rfl,hb,hg,hn,_,_,htake⟩
 ·exact ⟨none,0,rfl,Nat.le_refl _,fun _=>⟨rfl,rfl⟩,.inl (by simp)⟩
 ·refine ⟨some ⟨g,0,none⟩,cap,rfl,hn,fun h=>(by cases h),.inr ⟨g,0,rfl,fun j hj=>?_⟩⟩;have:=h.cells (g:=g) rfl j (F j) (by simp [hj]);rw [Addr.add_lit] at this;exact this
theorem ZT {w:World} {base e size n:Nat} {v:Value} {xs:List Value} (h:w.ownsRow base e size v n xs):∃p m cap,v=.slice p m cap:=by
 rcases h.2 with ⟨h,_⟩|⟨g,cap,_,h,_⟩
 ·exact ⟨_,_,_,h⟩
 ·exact ⟨_,_,_,h⟩
theorem Y0W (w:World) (g:Nat) (a b c d:Value) (j:Nat) (hj:j≠g):((((w.setCell ⟨g,0,none⟩ a).setCell ⟨g,1,none⟩ b).setCell ⟨g,2,none⟩ c).setCell ⟨g,3,none⟩ d).heap[j]?=w.heap[j]?:=by
 rw [heap_setCell_other _ _ _ _ (by simpa using hj),heap_setCell_other _ _ _ _ (by simpa using hj),heap_setCell_other _ _ _ _ (by simpa using hj),heap_setCell_other _ _ _ _ (by simpa using hj)]
theorem Y0b {B:Nat} {w0 w:World} (h:Below B w0 w) {g:Nat} (hg:B≤g) (a b c d:Value):Below B w0 ((((w.setCell ⟨g,0,none⟩ a).setCell ⟨g,1,none⟩ b).setCell ⟨g,2,none⟩ c).setCell ⟨g,3,none⟩ d):=
 (((h.setCell hg _).setCell hg _).setCell hg _).setCell hg _
theorem Y03:(Tryz.prog.info? 28).map (·.size)=some 4:=by kernel_rfl
end Go.Proofs.YtdoghgnifkgfdaaGreat
