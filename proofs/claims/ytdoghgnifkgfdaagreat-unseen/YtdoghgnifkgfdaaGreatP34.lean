import Derived.Conc.AppendWalk
import Derived.Deep.AppendLies
import Derived.Test.YtdoghgnifkgfdaaGreatP33
set_option maxRecDepth 100000
set_option maxHeartbeats 16000000
namespace Go.Proofs.YtdoghgnifkgfdaaGreat.Mute
open Go Go.Conc Go.RowKit
section
variable {L:Lot} {w w':World}
theorem Y2Y (hB:L.B≤w.heap.size) (hc:L.c<w.heap.size) (cs:Array Value) (f:Nat→Value) (hf:∀j,j<cs.size→cs[j]?=some (f j)):Ow L L.main L.send (w.alloc (.cells cs L.ev)) w.heap.size cs.size L.ev f:=by
 have hn:(w.alloc (.cells cs L.ev)).heap[w.heap.size]?=some (.cells cs L.ev (0,0)):=heap_alloc_new w _;refine ⟨⟨.new w cs L.ev f hf,⟨_,hn⟩,by omega,fun o ho hm=>?_⟩,fun o ho=>?_⟩
 ·rw [hn] at ho;cases ho;rcases hm.2 with ⟨h,_⟩|⟨_,h⟩
  ·omega
  ·simp [isEv] at h
 ·rw [hn] at ho;cases ho;exact ⟨by omega,.inr ⟨hB,by simp [isEv]⟩⟩
theorem Turn.setRow {mine:Nat→Obj→Prop} (w:World) (g:Nat) (arr cur:Array Value) (t:Nat) (hg:w.heap[g]?=some (.cells cur t (0,0))) (hm:mine g (.cells cur t (0,0))):Turn L mine w (w.setRow g arr):=by
 refine ⟨rfl,rfl,rfl,by simp,fun b o ho=>?_⟩;by_cases hb:b=g
 ·subst hb;rw [hg] at ho;cases ho;exact ⟨_,setRow_heap w b cur arr t (0,0) hg,fun _=>rfl,fun _ x=>absurd hm x⟩
 ·exact ⟨o,by rw [setRow_other w g b arr (by exact hb)];exact ho,fun _=>rfl,fun _ _=>rfl⟩
def ev3 (k a b:Int) (j:Nat):Value:=.int .i64 (if j=0 then k else if j=1 then a else b)
def evV (k a b:Int):Value:=.agg #[.int .i64 k,.int .i64 a,.int .i64 b]
structure Mt (L:Lot) (w0:World) (T nC:Nat) (f:Nat→Value) (E:Nat) (e:Nat→Value) (w:World):Prop where
 ph:Turn L L.both w0 w
 row:Ow L L.main L.send w T nC 61 f
 ebox:Ow L L.main L.send w E 3 L.ev e
 hB:L.B≤w.heap.size
 hc:L.c<w.heap.size
structure Mo (L:Lot) (E:Nat) (v:Value) (m:Nat) (xs:List Value) (w:World):Prop where
 own:w.ownsRow 0 L.ev 3 v m xs
 blk:∀b,v.ownBlock=some b→Calm L L.send w b∧Mine L.main w b
 ne:∀b,v.ownBlock=some b→b≠E
variable {w0:World} {T nC E m:Nat} {f e:Nat→Value} {v:Value} {xs:List Value}
theorem Mt.rely (h:Mt L w0 T nC f E e w) (r:L.R0 w w'):Mt L w0 T nC f E e w':=
 ⟨h.ph.trans (r.mono fun _ _ x=>.inr x),h.row.rely r,h.ebox.rely r,Nat.le_trans h.hB r.size,Nat.lt_of_lt_of_le h.hc r.size⟩
theorem Xd {w w':World} (h:w.ownsRow 0 L.ev 3 v m xs) (hb:∀b,v.ownBlock=some b→w'.heap[b]?=w.heap[b]?):w'.ownsRow 0 L.ev 3 v m xs:=by
 refine ⟨h.1,?_⟩;rcases h.2 with h|⟨g,cap,cur,rfl,h1,h2,h3⟩
 ·exact .inl h
 ·exact .inr ⟨g,cap,cur,rfl,h1,by rw [hb g rfl];exact h2,h3⟩
theorem Mo.rely (h:Mo L E v m xs w) (r:L.R0 w w'):Mo L E v m xs w':=
 ⟨Xd h.own fun b hb=>(h.blk b hb).1.stands r,fun b hb=>⟨(h.blk b hb).1.rely r,(h.blk b hb).2.rely (h.blk b hb).1 r⟩,h.ne⟩
theorem Mt.still (h:Mt L w0 T nC f E e w) {b:Nat} (hs:Still L w0 b):w.heap[b]?=w0.heap[b]?:=by
 obtain ⟨o,ho⟩:=hs.there;rw [ho,h.ph.keep ho hs.nc (hs.no o ho)]
theorem Mt.stillCell (h:Mt L w0 T nC f E e w) {a:Addr} (hs:Still L w0 a.block):w.cell? a=w0.cell? a:=by
 unfold World.cell?;rw [h.still hs]
theorem Mt.stillLooks (h:Mt L w0 T nC f E e w) {b:Nat} (hs:Still L w0 b) {es:Array Event} (hes:∀e∈es,∃j,e=⟨.cell ⟨b,j,none⟩,false,false⟩):L.D0 w w es:=
 .look w fun e he=>by
  obtain ⟨o,ho⟩:=hs.there;obtain ⟨j,rfl⟩:=hes e he;exact EvBy.read (a:=⟨b,j,none⟩) (by rw [h.still hs];exact ho) fun hm=>hs.no o ho (.inr hm)
theorem Ow.looksM {g m t:Nat} {f:Nat→Value} (h:Ow L L.main L.send w g m t f) {es:Array Event} (hes:∀e∈es,∃j,e=⟨.cell ⟨g,j,none⟩,false,false⟩):L.D0 w w es:=
 .look w fun e he=>by obtain ⟨j,rfl⟩:=hes e he;exact h.look j
theorem Mt.turn (h:Mt L w0 T nC f E e w) (ht:L.R1 w w') (h1:w'.heap[T]?=w.heap[T]?) (h2:w'.heap[E]?=w.heap[E]?):Mt L w0 T nC f E e w':=
 ⟨h.ph.trans (ht.mono fun _ _ x=>.inl x),⟨⟨h.row.rw.row.of_heap h1,h.row.rw.calm.turn L.tells_send ht⟩,h.row.own.turn L.tells_main h.row.rw.calm.there ht⟩,
  ⟨⟨h.ebox.rw.row.of_heap h2,h.ebox.rw.calm.turn L.tells_send ht⟩,h.ebox.own.turn L.tells_main h.ebox.rw.calm.there ht⟩,Nat.le_trans h.hB ht.size,Nat.lt_of_lt_of_le h.hc ht.size⟩
theorem Mo.turn (h:Mo L E v m xs w) (ht:L.R1 w w') (hb:∀b,v.ownBlock=some b→w'.heap[b]?=w.heap[b]?):Mo L E v m xs w':=
 ⟨Xd h.own hb,fun b hv=>⟨(h.blk b hv).1.turn L.tells_send ht,(h.blk b hv).2.turn L.tells_main (h.blk b hv).1.there ht⟩,h.ne⟩
theorem Mo.lt (h:Mo L E v m xs w) {b:Nat} (hb:v.ownBlock=some b):b<w.heap.size:=by
 obtain ⟨o,ho⟩:=(h.blk b hb).1.there;exact (Array.getElem?_eq_some_iff.1 ho).1
theorem Y4z (w:World) (o:Obj) {b:Nat} (hb:b<w.heap.size):(w.alloc o).heap[b]?=w.heap[b]?:=heap_alloc_old w o hb
theorem Y6D {P:Program} {i:TypeInfo} (hev:P.info? L.ev=some i) (hz:i.zero=some (.agg #[.int .i64 0,.int .i64 0,.int .i64 0])) (hsz:i.size=3) (hby:i.bytes=24) {t ty:TypeId} (ht:P.underlying t=some (.slice L.ev)) (ho:Mo L E v m xs w) (S:Nat) (k a b:Int) (hS:w.heap[S]?=some (.cells #[.int .i64 k,.int .i64 a,.int .i64 b] L.ev (0,0)))
  (hm:m≤1000000000):∃g cap w',(Builtin.append_ #[t,t] ty #[v,.slice (some ⟨S,0,none⟩) 1 1]).run P w=.ok (.slice (some ⟨g,0,none⟩) (m+1) cap) w'∧w'.ownsRow 0 L.ev 3 (.slice (some ⟨g,0,none⟩) (m+1) cap) (m+1) (xs++[.int .i64 k,.int .i64 a,.int .i64 b])∧L.R1 w w'∧
   (∀x,x<w.heap.size→v.ownBlock≠some x→w'.heap[x]?=w.heap[x]?)∧(v.ownBlock=some g∨g=w.heap.size)∧g<w'.heap.size:=by
 have hnews:∀(j:Nat) (u:Value),[Value.int .i64 k,.int .i64 a,.int .i64 b][j]?=some u→w.cell? ((⟨S,0,none⟩:Addr).add j)=some u:=by
  have:=World.news_of_block hS;simpa using this
 have h1:∀u∈[Value.int .i64 k,.int .i64 a,.int .i64 b],u.oneCell'=true:=by simp [Value.oneCell']
 have h63:m+1≤maxLen:=by simp only [maxLen];omega
 obtain ⟨g,cap,w',hr,h2,h3,h4,h5⟩:=run_append_lies (P:=P) w t ty 0 L.ev i _ 3 24 ht hev hz hsz hby rfl (by omega) v m xs ho.own ⟨S,0,none⟩ 1 1 [.int .i64 k,.int .i64 a,.int .i64 b] rfl hnews h1 (by omega) h63 (by omega) (Nat.zero_le _) w.heap.size rfl;refine ⟨g,cap,w',hr,h2,?_,fun x hx hne=>h3.block x hx (fun e=>hne e.symm),h4,h5⟩;have hl:[Value.int .i64 k,.int .i64 a,.int .i64 b].length=1*i.size:=by rw [hsz];rfl
 rcases ho.own.2 with ⟨rfl,rfl⟩|⟨g0,cap0,cur,rfl,_,hg,hnc,_,hcs,_⟩
 ·have hr2:=run_append_nil (P:=P) w t ty L.ev i _ ht hev hz ⟨S,0,none⟩ 1 1 _ hl hnews (by omega) (by omega) (by rw [hby];omega);rw [hr] at hr2;injection hr2 with _ e
  subst e;exact (Turn.drew w).trans (.alloc w.drew _)
 ·by_cases hroom:m+1≤cap0
  ·have hfit:m*i.size+[Value.int .i64 k,.int .i64 a,.int .i64 b].length≤cur.size:=by
    rw [hsz,hcs];show m*3+3≤cap0*3;omega
   have hr2:=run_append_room (P:=P) w t ty L.ev i ht hev g0 m cap0 cur hg ⟨S,0,none⟩ 1 1 _ hl hnews h1 hroom hfit;rw [hr] at hr2;injection hr2 with _ e
   subst e;exact Turn.setRow w g0 _ cur L.ev hg ((ho.blk g0 rfl).2 _ hg)
  ·have holds:∀(j:Nat) (u:Value),xs[j]?=some u→w.cell? ((⟨g0,0,none⟩:Addr).add j)=some u:=ho.own.cells (g:=g0) rfl;have hr2:=run_append_grow (P:=P) w t ty L.ev i _ ht hev hz ⟨g0,0,none⟩ m cap0 xs (by rw [hsz];exact ho.own.1) holds ⟨S,0,none⟩ 1 1 _ hl hnews (by omega) (by omega) (growslice_fits (by omega) (by rw [hby];omega));rw [hr] at hr2;injection hr2 with _ e
   subst e;exact (Turn.drew w).trans (.alloc w.drew _)
theorem Y7Z {P:Program} {i:TypeInfo} (hev:P.info? L.ev=some i) (hz:i.zero=some (.agg #[.int .i64 0,.int .i64 0,.int .i64 0])) (hsz:i.size=3) (hby:i.bytes=24) {t:TypeId} (ht:P.underlying t=some (.slice L.ev)) (ho:Mo L E v m xs w) (S:Nat) (k a b:Int) (hS:Ow L L.main L.send w S 3 L.ev (ev3 k a b))
  (hm:m≤1000000000) (hturn:L.R1 w w') (hch:w'.heap[L.c]?=w.heap[L.c]?) {fn:FuncId} {A:Act} {o:Oper} (x y:Operand) (hop:o.op=.call {callee:=.builtin .append,args:=#[x,y],argTypes:=#[t,t]}) (hx:A.eval x=v) (hy:A.eval y=.slice (some ⟨S,0,none⟩) 1 1):L.D0 w w' (listed P fn A o w):=by
 refine ⟨hturn,hch,fun e he=>?_⟩;have he:=mem_listed he;rw [events_append_op x y t hop hx hy] at he;have hnews:∀(j:Nat) (u:Value),[Value.int .i64 k,.int .i64 a,.int .i64 b][j]?=some u→w.cell? ((⟨S,0,none⟩:Addr).add j)=some u:=fun j u hu=>by
  have hj:j<3:=by
   have:=(List.getElem?_eq_some_iff.1 hu).1;simpa using this
  rw [Addr.add_mid,Nat.zero_add,hS.cell hj];have:j=0∨j=1∨j=2:=by omega
  rcases this with rfl|rfl|rfl<;>exact hu
 have hcalm:∀c,Calm L L.send w c→Mine L.main w c→∀wr sy ad,ad.block=c→EvBy L L.main L.send w' ⟨.cell ad,wr,sy⟩:=fun c h1 h2 wr sy ad hc=>by
  obtain ⟨q,hq⟩:=h1.there;obtain ⟨q',g1,g2,_⟩:=hturn.at_ c q hq;refine ⟨YR _ _ _,fun z hz _=>?_⟩;have:z=⟨.cell ad,wr,if sy then .atomic else .plain⟩:=by
   cases wr<;>cases sy<;>simp [MemAct.ofEvent,MemAct.touch?] at hz<;>exact hz.symm
  subst this;exact ⟨q',by rw [hc];exact g1,by rw [hc];exact fun hm=>h1.no q hq (L.tells_send c q' q (fun x=>(g2 x).symm) hm),fun _=>by rw [hc];exact L.tells_main c q q' g2 (h2 q hq)⟩
 rcases events_append_where (P:=P) w 0 t o.type L.ev i _ 3 24 ht hev hz hsz hby v m xs ho.own ⟨S,0,none⟩ 1 1 [.int .i64 k,.int .i64 a,.int .i64 b] rfl hnews (by simp [Value.oneCell']) (by simp only [maxLen];omega) (by omega) e he with ⟨ad,h1,h2⟩|⟨q,rfl,hq⟩
 ·obtain ⟨loc,wr,sy⟩:=e;simp only at h1;subst h1;rcases h2 with ⟨_,h2⟩|h2
  ·exact hcalm S hS.rw.calm hS.own _ _ ad h2
  ·exact hcalm ad.block (ho.blk _ h2.symm).1 (ho.blk _ h2.symm).2 _ _ ad rfl
 ·refine ⟨⟨fun h=>?_,fun h=>?_⟩,fun z hz=>?_⟩
  ·cases h;exact absurd hq (by simp [Neutral])
  ·cases h;exact absurd hq (by simp [Neutral])
  ·rw [show MemAct.ofEvent ⟨.mark q,false,true⟩=.mark q from rfl,hq.touch] at hz;cases hz
end
noncomputable def JA:Code:=match Tryz.f31.body with
 |some (.seq _ (.seq _ (.block _ (.loop c))))=>c
 |_=>.skip
noncomputable def Y4b:Array Oper:=match JA with
 |.seq (.region _ ops _) _=>ops
 |_=>#[]
noncomputable def Y3N:Code:=match JA with
 |.seq _ c=>c
 |_=>.skip
def JP:Value:=.agg #[.int .i64 0,.int .i64 0,.int .i64 0]
def Yv:Value→List Value
 |.agg cs=>cs.toList
 |_=>[]
def Jo (v:Value):Prop:=∃k a b,v=evV k a b
section
variable {P:Program} {L:Lot} {Fin:Goroutine→World→Prop} {z:Value} {b:Frame} {a:Act} {k:List Item} {cs:List Frame} {w:World} {ops:Array Oper} {i:Nat} {rest:List Nat} {o:Oper}
theorem Y2r (ho:ops[i]?=some o) (hw:Region.wanted o (yielded ops a.tmps)=true) (hk:b.kind≠.early) (hr:∀w,(execOp a.eval o).run P w=.ok (.comm #[rcase L.c z] true (.recv true)) w) (he:∀w,(execOp a.eval o).events P w #[]=#[]) (w₁:World):
  stepG P true (G (b.at a (.inRegion ops (i::rest)::k)) cs) w₁=.comm (core (G (b.at a (.inRegion ops (i::rest)::k)) cs)) #[rcase L.c z] true (.recv true) w₁ #[]:=by
 rw [stepG_comm ho hw hk (hr w₁),listed_nil (he w₁)];rfl
theorem Y3n (ho:ops[i]?=some o) (v:Value):Go.Conc.served (core (G (b.at a (.inRegion ops (i::rest)::k)) cs)) v=G (b.at (a.put o.dst v) (.inRegion ops rest::k)) cs:=by
 rw [core_G,served_G];simp [ho]
theorem Y1.recvNil (ho:ops[i]?=some o) (hw:Region.wanted o (yielded ops a.tmps)=true) (hk:b.kind≠.early) (hr:∀w,(execOp a.eval o).run P w=.ok (.comm #[rcase L.c z] true (.recv true)) w) (he:∀w,(execOp a.eval o).events P w #[]=#[])
  (h:∀w₂,L.R0 w w₂→Fin (G (b.at (a.put o.dst (.tuple #[z,.bool false])) (.inRegion ops rest::k)) cs) w₂):Y1 P true L.R0 L.D0 (StopA P L.c z L.R0 L.D0 L.ML Fin []) (G (b.at a (.inRegion ops (i::rest)::k)) cs) w:=
 .stop rfl fun w₁ r=>⟨#[],Y2r ho hw hk hr he w₁,by simp,fun w₂ r₂=>by
  show Fin (Go.Conc.served (core _) _) _;rw [Y3n ho];exact h w₂ (r.trans r₂)⟩
theorem Y1.recvCons {v:Value} {vs:List Value} (ho:ops[i]?=some o) (hw:Region.wanted o (yielded ops a.tmps)=true) (hk:b.kind≠.early) (hr:∀w,(execOp a.eval o).run P w=.ok (.comm #[rcase L.c z] true (.recv true)) w) (he:∀w,(execOp a.eval o).events P w #[]=#[])
  (h:Y1 P true L.R0 L.D0 (StopA P L.c z L.R0 L.D0 L.ML Fin vs) (G (b.at (a.put o.dst (.tuple #[v,.bool true])) (.inRegion ops rest::k)) cs) w):Y1 P true L.R0 L.D0 (StopA P L.c z L.R0 L.D0 L.ML Fin (v::vs)) (G (b.at a (.inRegion ops (i::rest)::k)) cs) w:=
 .stop rfl fun w₁ r=>⟨#[],Y2r ho hw hk hr he w₁,by simp,fun w₂ r₂=>by
  show Y1 _ _ _ _ _ (Go.Conc.served (core _) _) _;rw [Y3n ho];exact (h.rely L.terms0.trans r).rely L.terms0.trans r₂⟩
end
theorem Y1Z:∃i,Tryz.prog.info? 111=some i∧i.zero=some (.agg #[.int .i64 0,.int .i64 0,.int .i64 0])∧i.size=3∧i.bytes=24:=by
 have h:(Tryz.prog.info? 111).map (fun i=>(i.zero,i.size,i.bytes))=some (some (.agg #[.int .i64 0,.int .i64 0,.int .i64 0]),3,24):=by kernel_rfl
 cases hi:Tryz.prog.info? 111 with
 |none=>rw [hi] at h;cases h
 |some i=>
  rw [hi] at h;simp at h;exact ⟨i,rfl,h.1,h.2.1,h.2.2⟩
section
variable {L:Lot} {w0:World} {kb wb T nC cell:Nat}
theorem Mt.wrote {f:Nat→Value} {E:Nat} {e:Nat→Value} {w:World} (hne:L.ev≠61) (h:Mt L w0 T nC f E e w) (j:Nat) (v:Value):Mt L w0 T nC f E (fun i=>if i=j then v else e i) (w.setCell ⟨E,j,none⟩ v):=by
 have ht:=h.ebox.turnSet j v;exact ⟨h.ph.trans (ht.mono fun _ _ x=>.inl x),h.row.apart L.tells_main L.tells_send h.ebox j v hne,h.ebox.set L.tells_main L.tells_send j v,by simpa [World.setCell] using h.hB,by simpa [World.setCell] using h.hc⟩
theorem Mo.wrote {f:Nat→Value} {E m:Nat} {e:Nat→Value} {v:Value} {xs:List Value} {w:World} (h:Mt L w0 T nC f E e w) (ho:Mo L E v m xs w) (j:Nat) (x:Value):Mo L E v m xs (w.setCell ⟨E,j,none⟩ x):=
 ho.turn (h.ebox.turnSet j x) fun b hb=>heap_setCell_other w _ b x (ho.ne b hb)
theorem Mt.wrote3 {f:Nat→Value} {E m:Nat} {v:Value} {xs:List Value} {w:World} (hne:L.ev≠61) (h:Mt L w0 T nC f E (ev3 0 0 0) w) (ho:Mo L E v m xs w) (k a b:Int):
  Mt L w0 T nC f E (ev3 k a b) (((w.setCell ⟨E,0,none⟩ (.int .i64 k)).setCell ⟨E,1,none⟩ (.int .i64 a)).setCell ⟨E,2,none⟩ (.int .i64 b))∧Mo L E v m xs (((w.setCell ⟨E,0,none⟩ (.int .i64 k)).setCell ⟨E,1,none⟩ (.int .i64 a)).setCell ⟨E,2,none⟩ (.int .i64 b))∧
   L.R1 w (((w.setCell ⟨E,0,none⟩ (.int .i64 k)).setCell ⟨E,1,none⟩ (.int .i64 a)).setCell ⟨E,2,none⟩ (.int .i64 b))∧(((w.setCell ⟨E,0,none⟩ (.int .i64 k)).setCell ⟨E,1,none⟩ (.int .i64 a)).setCell ⟨E,2,none⟩ (.int .i64 b)).heap[L.c]?=w.heap[L.c]?:=by
 have h1:=h.wrote hne 0 (.int .i64 k);have h2:=h1.wrote hne 1 (.int .i64 a);have h3:=h2.wrote hne 2 (.int .i64 b);have o1:=Mo.wrote h ho 0 (.int .i64 k);have o2:=Mo.wrote h1 o1 1 (.int .i64 a);have o3:=Mo.wrote h2 o2 2 (.int .i64 b);refine ⟨⟨h3.ph,h3.row,h3.ebox.congr fun j hj=>?_,h3.hB,h3.hc⟩,o3,((h.ebox.turnSet 0 _).trans (h1.ebox.turnSet 1 _)).trans (h2.ebox.turnSet 2 _),?_⟩
 ·have:j=0∨j=1∨j=2:=by omega
  rcases this with rfl|rfl|rfl<;>rfl
 ·have hn:=h.ebox.rw.calm.nc;simp only [World.setCell,Array.getElem?_modify,if_neg hn]
theorem Mt.ev {f:Nat→Value} {E:Nat} {k a b:Int} {w:World} (h:Mt L w0 T nC f E (ev3 k a b) w):w.cell? ⟨E,0,none⟩=some (.int .i64 k)∧w.cell? ⟨E,1,none⟩=some (.int .i64 a)∧w.cell? ⟨E,2,none⟩=some (.int .i64 b):=⟨h.ebox.cell (by omega),h.ebox.cell (by omega),h.ebox.cell (by omega)⟩
theorem Mt.evFz {f:Nat→Value} {E:Nat} {e:Nat→Value} {w:World} (h:Mt L w0 T nC f E e w):w.frozen? ⟨E,0,none⟩=false∧w.frozen? ⟨E,1,none⟩=false∧w.frozen? ⟨E,2,none⟩=false:=⟨h.ebox.frozen 0,h.ebox.frozen 1,h.ebox.frozen 2⟩
theorem Ow.doesM {w w':World} {g m t:Nat} {f:Nat→Value} (ho:Ow L L.main L.send w g m t f) (ht:L.R1 w w') (hch:w'.heap[L.c]?=w.heap[L.c]?) {es:Array Event} (hes:∀e∈es,∃j wr,e=⟨.cell ⟨g,j,none⟩,wr,false⟩):L.D0 w w' es:=by
 obtain ⟨o,hg⟩:=ho.rw.calm.there;refine ⟨ht,hch,fun e he=>?_⟩;obtain ⟨j,wr,rfl⟩:=hes e he;obtain ⟨o',h1,h2,_⟩:=ht.at_ g o hg;have hn:¬L.send g o':=fun hm=>ho.rw.calm.no o hg (L.tells_send g o' o (fun hc=>(h2 hc).symm) hm);cases wr with
 |false=>exact EvBy.read (a:=⟨g,j,none⟩) h1 hn
 |true=>exact EvBy.write (a:=⟨g,j,none⟩) h1 hn (L.tells_main g o o' h2 (ho.own o hg))
structure Ms (L:Lot) (w0:World) (T nC:Nat) (f:Nat→Value) (cell m:Nat) (xs:List Value) (w:World):Prop where
 ph:Turn L L.both w0 w
 row:Ow L L.main L.send w T nC 61 f
 hB:L.B≤w.heap.size
 hc:L.c<w.heap.size
 own:w.ownsRow 0 L.ev 3 (f cell) m xs
 blk:∀b,(f cell).ownBlock=some b→Calm L L.send w b∧Mine L.main w b
theorem Ms.rely {f:Nat→Value} {m:Nat} {xs:List Value} {w w':World} (h:Ms L w0 T nC f cell m xs w) (r:L.R0 w w'):Ms L w0 T nC f cell m xs w':=
 ⟨h.ph.trans (r.mono fun _ _ x=>.inr x),h.row.rely r,Nat.le_trans h.hB r.size,Nat.lt_of_lt_of_le h.hc r.size,Xd h.own fun b hb=>(h.blk b hb).1.stands r,fun b hb=>⟨(h.blk b hb).1.rely r,(h.blk b hb).2.rely (h.blk b hb).1 r⟩⟩
theorem Ms.new {f:Nat→Value} {m:Nat} {xs:List Value} {w:World} (h:Ms L w0 T nC f cell m xs w) (k a b:Int):Mt L w0 T nC f w.heap.size (ev3 k a b) (w.alloc (.cells #[.int .i64 k,.int .i64 a,.int .i64 b] L.ev))∧Mo L w.heap.size (f cell) m xs (w.alloc (.cells #[.int .i64 k,.int .i64 a,.int .i64 b] L.ev)):=by
 have ht:Turn L L.main w (w.alloc (.cells #[.int .i64 k,.int .i64 a,.int .i64 b] L.ev)):=.alloc w _;have hlt:∀b',(f cell).ownBlock=some b'→b'<w.heap.size:=fun b' hb'=>by
  obtain ⟨o,ho⟩:=(h.blk b' hb').1.there;exact (Array.getElem?_eq_some_iff.1 ho).1
 refine ⟨⟨h.ph.trans (ht.mono fun _ _ x=>.inl x),h.row.alloc L.tells_main L.tells_send _,Y2Y h.hB h.hc _ _ fun j hj=>?_,by simp;have:=h.hB;omega,by simp;have:=h.hc;omega⟩,
  ⟨Xd h.own fun b' hb'=>Y4z w _ (hlt b' hb'),fun b' hb'=>⟨(h.blk b' hb').1.turn L.tells_send ht,(h.blk b' hb').2.turn L.tells_main (h.blk b' hb').1.there ht⟩,fun b' hb'=>by have:=hlt b' hb';omega⟩⟩
 have:j=0∨j=1∨j=2:=by simp at hj;omega
 rcases this with rfl|rfl|rfl<;>rfl
theorem Mt.src {f:Nat→Value} {E m:Nat} {e:Nat→Value} {v:Value} {xs:List Value} {w:World} (h:Mt L w0 T nC f E e w) (ho:Mo L E v m xs w) (k a b:Int):
  Mt L w0 T nC f E e (w.alloc (.cells #[.int .i64 k,.int .i64 a,.int .i64 b] L.ev))∧Mo L E v m xs (w.alloc (.cells #[.int .i64 k,.int .i64 a,.int .i64 b] L.ev))∧Ow L L.main L.send (w.alloc (.cells #[.int .i64 k,.int .i64 a,.int .i64 b] L.ev)) w.heap.size 3 L.ev (ev3 k a b):=by
 have ht:Turn L L.main w (w.alloc (.cells #[.int .i64 k,.int .i64 a,.int .i64 b] L.ev)):=.alloc w _;refine ⟨⟨h.ph.trans (ht.mono fun _ _ x=>.inl x),h.row.alloc L.tells_main L.tells_send _,h.ebox.alloc L.tells_main L.tells_send _,by simp;have:=h.hB;omega,by simp;have:=h.hc;omega⟩,ho.turn ht fun b' hb'=>Y4z w _ (ho.lt hb'),Y2Y h.hB h.hc _ _ fun j hj=>?_⟩;have:j=0∨j=1∨j=2:=by simp at hj;omega
 rcases this with rfl|rfl|rfl<;>rfl
theorem Ow.heap3 {w:World} {S:Nat} {k a b:Int} (h:Ow L L.main L.send w S 3 L.ev (ev3 k a b)):w.heap[S]?=some (.cells #[.int .i64 k,.int .i64 a,.int .i64 b] L.ev (0,0)):=by
 obtain ⟨cs,h1,h2,h3⟩:=h.rw.row;rw [h1];congr 2;refine Array.ext (by simpa using h2) fun j hj hj'=>?_;have:=h3 j (by omega);rw [Array.getElem?_eq_getElem hj] at this;injection this with this
 rw [this];have:j=0∨j=1∨j=2:=by simp at hj';omega
 rcases this with rfl|rfl|rfl<;>rfl
theorem Mo.neT {f:Nat→Value} {E m:Nat} {e:Nat→Value} {v:Value} {xs:List Value} {w:World} (hne:L.ev≠61) (h:Mt L w0 T nC f E e w) (ho:Mo L E v m xs w) {b:Nat} (hb:v.ownBlock=some b):b≠T:=fun e0=>by
 subst e0;obtain ⟨cs,h1,_⟩:=h.row.rw.row;rcases ho.own.2 with ⟨rfl,_⟩|⟨g0,cap0,cur,rfl,_,hg,_⟩
 ·simp [Value.ownBlock] at hb
 ·have:g0=b:=by simpa [Value.ownBlock] using hb
  subst this;rw [h1] at hg;injection hg with hg
  injection hg with _ hg
  exact hne hg.symm
theorem Mt.appended {f:Nat→Value} {E m:Nat} {e:Nat→Value} {v:Value} {xs ys:List Value} {w w':World} {g cap:Nat} (hne:L.ev≠61) (h:Mt L w0 T nC f E e w) (ho:Mo L E v m xs w) (ht:L.R1 w w') (hown:w'.ownsRow 0 L.ev 3 (.slice (some ⟨g,0,none⟩) (m+1) cap) (m+1) ys)
  (hoth:∀x,x<w.heap.size→v.ownBlock≠some x→w'.heap[x]?=w.heap[x]?) (hg:v.ownBlock=some g∨g=w.heap.size) (hlt:g<w'.heap.size):
  Mt L w0 T nC f E e w'∧Mo L E (.slice (some ⟨g,0,none⟩) (m+1) cap) (m+1) ys w'∧w'.heap[L.c]?=w.heap[L.c]?:=by
 have hT:T<w.heap.size:=by
  obtain ⟨o,ho'⟩:=h.row.rw.calm.there;exact (Array.getElem?_eq_some_iff.1 ho').1
 have hE:E<w.heap.size:=by
  obtain ⟨o,ho'⟩:=h.ebox.rw.calm.there;exact (Array.getElem?_eq_some_iff.1 ho').1
 have hgE:w'.heap[g]?≠none∧(∀o,w'.heap[g]?=some o→isEv L.ev o=true):=by
  rcases hown.2 with ⟨hx,_⟩|⟨g0,cap0,cur,hx,_,hh,_⟩
  ·simp at hx
  ·have:g=g0:=by simp at hx;exact hx.1
   subst this;exact ⟨by rw [hh];simp,fun o ho'=>by rw [hh] at ho';cases ho';simp [isEv]⟩
 have hgC:v.ownBlock=some g∨(L.B≤g∧g≠L.c∧g≠E):=by
  rcases hg with hg|hg
  ·exact .inl hg
  ·subst hg;exact .inr ⟨h.hB,by have:=h.hc;omega,by omega⟩
 refine ⟨h.turn ht (hoth T hT fun hb=>Mo.neT hne h ho hb rfl) (hoth E hE fun hb=>ho.ne E hb rfl),⟨hown,fun b hb=>?_,fun b hb=>?_⟩,hoth L.c h.hc fun hb=>(ho.blk _ hb).1.nc rfl⟩
 ·have:g=b:=by simpa [Value.ownBlock] using hb
  subst this;rcases hgC with hg|⟨g1,g2,g3⟩
  ·exact ⟨(ho.blk g hg).1.turn L.tells_send ht,(ho.blk g hg).2.turn L.tells_main (ho.blk g hg).1.there ht⟩
  ·refine ⟨⟨Option.ne_none_iff_exists'.1 hgE.1,g2,fun o ho' hs=>?_⟩,fun o ho'=>⟨g2,.inr ⟨g1,hgE.2 o ho'⟩⟩⟩;rcases hs.2 with ⟨hs,_⟩|⟨_,hs⟩
   ·omega
   ·rw [hgE.2 o ho'] at hs;cases hs
 ·have:g=b:=by simpa [Value.ownBlock] using hb
  subst this;rcases hgC with hg|⟨g1,g2,g3⟩
  ·exact ho.ne g hg
  ·exact g3
theorem Mt.put {f:Nat→Value} {E m:Nat} {e:Nat→Value} {v:Value} {xs:List Value} {w:World} (hne:L.ev≠61) (h:Mt L w0 T nC f E e w) (ho:Mo L E v m xs w) (cell:Nat):Ms L w0 T nC (fun i=>if i=cell then v else f i) cell m xs (w.setCell ⟨T,cell,none⟩ v):=by
 have ht:=h.row.turnSet cell v;have ho':=ho.turn ht fun b hb=>heap_setCell_other w _ b v (Mo.neT hne h ho hb);exact ⟨h.ph.trans (ht.mono fun _ _ x=>.inl x),h.row.set L.tells_main L.tells_send cell v,by simpa [World.setCell] using h.hB,by simpa [World.setCell] using h.hc,by simpa using ho'.own,by simpa using ho'.blk⟩
end
@[go_sem] theorem YbL (P:Program) (w:World) (es:Array Event) (a:Addr) (m:Mode) (b:Option Addr) (l c:Nat):(store a (.slice b l c) m).events P w es=storedEv P w es a (.slice b l c) m:=events_store P w es a _ m rfl
section
variable {L:Lot} {w0:World} {kb wb T nC cell:Nat}
def FinW (L:Lot) (w0:World) (kb wb T nC cell m:Nat) (f0:Nat→Value) (xs:List Value) (x1 x2 x3 x5 x7 x8 x9 x10 x11 x12 x13 x14 x15 x16 x17:Value) (cs:List Frame) (g:Goroutine) (w:World):Prop:=
 ∃(u6 u20 u21 u22 u23 u24 u25 u26 u27 u28 u29 u30 u31 u32 u33 u34 u35 u36 u37 u38 u39:Value) (f:Nat→Value),g=G ((base 31).at {tmps:=#[.pointer (some ⟨kb,0,none⟩),x1,x2,x3,.pointer (some ⟨wb,0,none⟩),x5,u6,x7,x8,x9,x10,x11,x12,x13,x14,x15,x16,x17,.chan (some L.c),(.tuple #[JP,.bool false]),u20,u21,u22,u23,u24,u25,u26,u27,u28,u29,u30,u31,u32,u33,u34,u35,u36,u37,u38,u39],defers:=[]} [.inRegion Y4b [1],.code Y3N,.inLoop JA,.inBlock 0]) cs∧(∀j,j≠cell→f j=f0 j)∧Ms L w0 T nC f cell m xs w
theorem Ybo (hevT:L.ev=111) (sK:Still L w0 kb) (sW:Still L w0 wb) (cK:w0.cell? ⟨kb,4,none⟩=some (.slice (some ⟨T,0,none⟩) nC nC)) (cW:w0.cell? ⟨wb,0,none⟩=some (.int .i64 cell)) (hcell:cell<nC) (x1 x2 x3 x5 x7 x8 x9 x10 x11 x12 x13 x14 x15 x16 x17:Value) (cs:List Frame) (f0:Nat→Value):
  ∀(vs:List Value) (f:Nat→Value) (m:Nat) (xs:List Value) (w:World) (u6 u19 u20 u21 u22 u23 u24 u25 u26 u27 u28 u29 u30 u31 u32 u33 u34 u35 u36 u37 u38 u39:Value),(∀v∈vs,Jo v)→m+vs.length≤1000000000→(∀j,j≠cell→f j=f0 j)→Ms L w0 T nC f cell m xs w→
   Y1 Tryz.prog true L.R0 L.D0 (StopA Tryz.prog L.c JP L.R0 L.D0 L.ML (FinW L w0 kb wb T nC cell (m+vs.length) f0 (xs++vs.flatMap Yv) x1 x2 x3 x5 x7 x8 x9 x10 x11 x12 x13 x14 x15 x16 x17 cs) vs) (G ((base 31).at {tmps:=#[.pointer (some ⟨kb,0,none⟩),x1,x2,x3,.pointer (some ⟨wb,0,none⟩),x5,u6,x7,x8,x9,x10,x11,x12,x13,x14,x15,x16,x17,.chan (some L.c),u19,u20,u21,u22,u23,u24,u25,u26,u27,u28,u29,u30,u31,u32,u33,u34,u35,u36,u37,u38,u39],defers:=[]} [.code JA,.inLoop JA,.inBlock 0]) cs) w:=by
 have hk:(base 31).kind≠.early:=by simp [base]
 intro vs;induction vs with
 |nil=>
  intro f m xs w u6 u19 u20 u21 u22 u23 u24 u25 u26 u27 u28 u29 u30 u31 u32 u33 u34 u35 u36 u37 u38 u39 _ _ hf0 hF;refine Y1.seq L.terms0 ?_;refine Y1.regionL L.terms0 [0,1] (by rfl) ?_;refine Y1.recvNil rfl (by rfl) hk (fun w=>by kernel_rfl) (fun w=>by kernel_rfl) fun w2 hR=>?_;exact ⟨u6,u20,u21,u22,u23,u24,u25,u26,u27,u28,u29,u30,u31,u32,u33,u34,u35,u36,u37,u38,u39,f,rfl,hf0,by simpa using hF.rely hR⟩
 |cons v vs ih=>
  intro f m xs w u6 u19 u20 u21 u22 u23 u24 u25 u26 u27 u28 u29 u30 u31 u32 u33 u34 u35 u36 u37 u38 u39 hv hm hf0 hF;obtain ⟨k,a,b,rfl⟩:=hv v List.mem_cons_self;have hne:L.ev≠61:=by rw [hevT];decide
  unfold evV;refine Y1.seq L.terms0 ?_;refine Y1.regionL L.terms0 [0,1] (by rfl) ?_;refine Y1.recvCons rfl (by rfl) hk (fun w=>by kernel_rfl) (fun w=>by kernel_rfl) ?_;try walk_nrm
  refine .opV L.terms0 rfl (by rfl) hk ?_;try walk_nrm
  repeat refine .c1 L.terms0 rfl ?_
  refine Y1.condT L.terms0 (by rfl) ?_;repeat refine .c1 L.terms0 rfl ?_
  refine .regionL L.terms0 [0,1,2] (by rfl) ?_;refine .opV L.terms0 rfl (by rfl) hk ?_;try walk_nrm
  refine .op rfl (by rfl) hk fun w1 hR K hK=>?_;replace hF:=hF.rely hR;clear hR;go_simp;try (unfold stored;go_simp)
  refine hK _ _ ⟨?_,?_⟩
  ·refine Does.alloc L.tells_main L.tells_send hF.hc ?_;(intro e he;have hm:=mem_listed he;simp [go_sem, *] at hm)
  clear hK K;obtain ⟨hF',hO⟩:=hF.new 0 0 0;rw [hevT] at hF' hO;replace hF:=hF';clear hF';generalize hE:w1.heap.size=E at *;generalize hW:(w1.alloc (.cells #[.int .i64 0,.int .i64 0,.int .i64 0] 111))=w2 at *;clear hW hE w1;try walk_nrm
  refine .op rfl (by rfl) hk fun w1 hR K hK=>?_;replace hF:=hF.rely hR;replace hO:=hO.rely hR;clear hR;obtain ⟨a0,a1,a2⟩:=hF.ev;obtain ⟨z0,z1,z2⟩:=hF.evFz;obtain ⟨hF3,hO3,ht3,hc3⟩:=hF.wrote3 hne hO k a b;go_simp;try (unfold stored;go_simp)
  refine hK _ _ ⟨?_,?_⟩
  ·refine hF.ebox.doesM ht3 hc3 ?_;(intro e he;have hm:=mem_listed he;simp [go_sem, *] at hm;rcases hm with rfl|rfl|rfl<;>exact ⟨_,_,rfl⟩)
  clear hK K;clear a0 a1 a2 z0 z1 z2 ht3 hc3;replace hF:=hF3;replace hO:=hO3;clear hF3 hO3;try walk_nrm
  repeat refine .c1 L.terms0 rfl ?_
  have hci:(cell:Int)<(nC:Int):=by omega
  refine Y1.drawnN (S:=Mt L w0 T nC f E (ev3 k a b)) (Die:=fun _ _=>False) L.terms0 L.draws0 19 (by rfl) hk (by kernel_rfl) (fun _ _ _ h=>h) (fun _ _ _ h=>h.elim) fun w1 hR=>?_;replace hF:=(hF.rely hR).rely (Turn.drew _);replace hO:=(hO.rely hR).rely (Turn.drew _);clear hR;refine Y4 L.terms0 0 (fun _ _ h r=>Mt.rely h r) hF ?_;try walk_nrm
  refine Y4 L.terms0 1 (fun _ _ h r=>Mt.rely h r) hF ?_;try walk_nrm
  refine Y4 L.terms0 2 (fun _ _ h r=>Mt.rely h r) hF ?_;try walk_nrm
  refine Ye L.terms0 3 rfl (fun _ _ h r=>Mt.rely h r) hF ?_ fun _ hw=>⟨run_eq_of (by
   intro K hK;have hc:World.cell? _ ⟨kb,4,none⟩=some (.slice (some ⟨T,0,none⟩) nC nC):=(hw.stillCell (a:=⟨kb,4,none⟩) sK).trans cK;go_simp;exact hK),by
   have hc:World.cell? _ ⟨kb,4,none⟩=some (.slice (some ⟨T,0,none⟩) nC nC):=(hw.stillCell (a:=⟨kb,4,none⟩) sK).trans cK;refine hw.stillLooks sK ?_;co_evs (exact ⟨_,rfl⟩)⟩
  try walk_nrm
  refine Y4 L.terms0 4 (fun _ _ h r=>Mt.rely h r) hF ?_;try walk_nrm
  refine Ye L.terms0 5 rfl (fun _ _ h r=>Mt.rely h r) hF ?_ fun _ hw=>⟨run_eq_of (by
   intro K hK;have hc:World.cell? _ ⟨wb,0,none⟩=some (.int .i64 cell):=(hw.stillCell (a:=⟨wb,0,none⟩) sW).trans cW;go_simp;exact hK),by
   have hc:World.cell? _ ⟨wb,0,none⟩=some (.int .i64 cell):=(hw.stillCell (a:=⟨wb,0,none⟩) sW).trans cW;refine hw.stillLooks sW ?_;co_evs (exact ⟨_,rfl⟩)⟩
  try walk_nrm
  refine Y4 L.terms0 6 (fun _ _ h r=>Mt.rely h r) hF ?_;try walk_nrm
  refine Y4 L.terms0 7 (fun _ _ h r=>Mt.rely h r) hF ?_;try walk_nrm
  refine Y4 L.terms0 8 (fun _ _ h r=>Mt.rely h r) hF ?_;try walk_nrm
  refine Ye L.terms0 9 rfl (fun _ _ h r=>Mt.rely h r) hF ?_ fun _ hw=>⟨run_eq_of (by
   intro K hK;have hc:World.cell? _ ⟨kb,4,none⟩=some (.slice (some ⟨T,0,none⟩) nC nC):=(hw.stillCell (a:=⟨kb,4,none⟩) sK).trans cK;go_simp;exact hK),by
   have hc:World.cell? _ ⟨kb,4,none⟩=some (.slice (some ⟨T,0,none⟩) nC nC):=(hw.stillCell (a:=⟨kb,4,none⟩) sK).trans cK;refine hw.stillLooks sK ?_;co_evs (exact ⟨_,rfl⟩)⟩
  try walk_nrm
  refine Y4 L.terms0 10 (fun _ _ h r=>Mt.rely h r) hF ?_;try walk_nrm
  refine Ye L.terms0 11 rfl (fun _ _ h r=>Mt.rely h r) hF ?_ fun _ hw=>⟨run_eq_of (by
   intro K hK;have hc:World.cell? _ ⟨wb,0,none⟩=some (.int .i64 cell):=(hw.stillCell (a:=⟨wb,0,none⟩) sW).trans cW;go_simp;exact hK),by
   have hc:World.cell? _ ⟨wb,0,none⟩=some (.int .i64 cell):=(hw.stillCell (a:=⟨wb,0,none⟩) sW).trans cW;refine hw.stillLooks sW ?_;co_evs (exact ⟨_,rfl⟩)⟩
  try walk_nrm
  refine Ye L.terms0 12 rfl (fun _ _ h r=>Mt.rely h r) hF ?_ fun _ hw=>⟨run_eq_of (by
   intro K hK;go_simp;exact hK),by
   co_still L.terms0⟩
  try walk_nrm
  refine Ye L.terms0 13 rfl (fun _ _ h r=>Mt.rely h r) hF ?_ fun _ hw=>⟨run_eq_of (by
   intro K hK;have hc:World.cell? _ ⟨T,cell,none⟩=some (f cell):=hw.row.cell hcell;go_simp;exact hK),by
   have hc:World.cell? _ ⟨T,cell,none⟩=some (f cell):=hw.row.cell hcell;refine hw.row.looksM ?_;co_evs (exact ⟨_,rfl⟩)⟩
  try walk_nrm
  refine Ye L.terms0 14 rfl (fun _ _ h r=>Mt.rely h r) hF ?_ fun _ hw=>⟨run_eq_of (by
   intro K hK;obtain ⟨a0,a1,a2⟩:=hw.ev;go_simp;exact hK),by
   obtain ⟨a0,a1,a2⟩:=hw.ev;refine hw.ebox.looksM ?_;(intro e he;have hm:=mem_listed he;simp [go_sem, *] at hm;rcases hm with rfl|rfl|rfl<;>exact ⟨_,rfl⟩)⟩
  try walk_nrm
  refine XZ (i:=15) (by first|kernel_rfl|decide +kernel) rfl (by rfl) ?_;intro w1 hR K hK;replace hF:=hF.rely hR;replace hO:=hO.rely hR;clear hR;go_simp;obtain ⟨hF2,hO2,hS⟩:=hF.src hO k a b;rw [hevT] at hF2 hO2 hS;refine hK _ _ ⟨?_,?_,?_⟩
  ·refine Does.alloc L.tells_main L.tells_send hF.hc ?_;(intro e he;have hm:=mem_listed he;simp [go_sem, *] at hm)
  ·exact .inl hF2
  clear hK K;replace hF:=hF2;replace hO:=hO2;clear hF2 hO2;generalize hSz:w1.heap.size=S at *;generalize hW:(w1.alloc (.cells #[.int .i64 k,.int .i64 a,.int .i64 b] 111))=w2 at *;clear hW hSz w1;try walk_nrm
  refine XZ (i:=16) (by first|kernel_rfl|decide +kernel) rfl (by rfl) ?_;intro w1 hR K hK;replace hF:=hF.rely hR;replace hO:=hO.rely hR;replace hS:=hS.rely hR;clear hR;obtain ⟨i,hi,hz,hsz,hby⟩:=Y1Z;rw [←hevT] at hi hS;have hu:Tryz.prog.underlying 61=some (.slice L.ev):=by rw [hevT];exact Tryz.underlying61
  have hm1:m≤1000000000:=by simp at hm;omega
  obtain ⟨g,cap,w',hr,hown,ht,hoth,hg,hlt⟩:=Y6D (P:=Tryz.prog) hi hz hsz hby (t:=61) (ty:=61) hu hO S k a b hS.heap3 hm1;obtain ⟨hF2,hO2,hch⟩:=hF.appended hne hO ht hown hoth hg hlt;refine uponK_append (.tmp 35) (.tmp 37) 61 rfl rfl rfl hr (hK _ _ ⟨Y7Z hi hz hsz hby hu hO S k a b hS hm1 ht hch (.tmp 35) (.tmp 37) rfl rfl rfl,.inl hF2,?_⟩);replace hF:=hF2;replace hO:=hO2;clear hK K hF2 hO2 hS hr hown ht hoth hg hlt hch hi hz hsz hby hu;try walk_nrm
  refine XZ (i:=17) (by first|kernel_rfl|decide +kernel) rfl (by rfl) ?_;intro w1 hR K hK;replace hF:=hF.rely hR;replace hO:=hO.rely hR;clear hR;go_simp;try (unfold stored;go_simp)
  refine hK _ _ ⟨?_,?_,?_⟩
  ·co_still L.terms0
  ·exact .inl hF
  clear hK K;try walk_nrm
  refine XZ (i:=18) (by first|kernel_rfl|decide +kernel) rfl (by rfl) ?_;intro w1 hR K hK;replace hF:=hF.rely hR;replace hO:=hO.rely hR;clear hR;have hc:=hF.row.cell hcell;have hfz:=hF.row.frozen cell;go_simp;try (unfold stored;go_simp)
  refine hK _ _ ⟨?_,?_,?_⟩
  ·refine hF.row.does L.tells_main L.tells_send cell _ ?_;co_evs (exact rfl)
  ·exact .inr (Z8 rfl (by first|kernel_rfl|decide +kernel))
  clear hK K;replace hF:=hF.put hne hO cell;clear hc hfz hO;try walk_nrm
  refine Xi (by first|kernel_rfl|decide +kernel) ?_ _;refine Y1.inBlock L.terms0 ?_;refine Y1.inLoop L.terms0 ?_;rw [show m+(vs.length+1)=m+1+vs.length by omega,show xs++List.flatMap Yv (Value.agg #[Value.int .i64 k,.int .i64 a,.int .i64 b]::vs)=xs++[Value.int .i64 k,.int .i64 a,.int .i64 b]++vs.flatMap Yv by simp [Yv]];refine ih _ _ _ _ _ _ _ _ _ _ _ _ _ _ _ _ _ _ _ _ _ _ _ _ _ _ (fun v hv'=>hv v (List.mem_cons_of_mem _ hv')) (by simp at hm;omega) (fun j hj=>?_) hF;simp only [if_neg hj];exact hf0 j hj
end
end Go.Proofs.YtdoghgnifkgfdaaGreat.Mute
