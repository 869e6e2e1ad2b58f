import Derived.Deep.AppendLies
import Derived.Conc.AppendWalk
import Derived.Conc.AppendEvents3
import Derived.Test.YtdoghgnifkgfdaaGreatP28
set_option maxRecDepth 100000
set_option maxHeartbeats 16000000
namespace Go.Proofs.YtdoghgnifkgfdaaGreat.Mute
open Go Go.Conc Go.RowKit
def Row.forgetQ (r:Row) (fr:Nat→Int) (c:Int) (i:Nat):Row:={r with f:=fun j=>if j % 3=1∧j / 3<i∧fr (j / 3)=c then .slice none 0 0 else r.f j}
def Row.forgetS (r:Row) (fr:Nat→Int) (c:Int) (i:Nat):Row:={r with f:=fun j=>if (j % 4=2∨j % 4=3)∧j / 4<i∧fr (j / 4)=c then (if j % 4=2 then .int .i64 0 else .bool false) else r.f j}
theorem Row.forgetQ_zero (r:Row) (fr:Nat→Int) (c:Int):r.forgetQ fr c 0=r:=by
 unfold Row.forgetQ;simp
theorem Row.forgetS_zero (r:Row) (fr:Nat→Int) (c:Int):r.forgetS fr c 0=r:=by
 unfold Row.forgetS;simp
theorem Row.forgetQ_no (r:Row) {fr:Nat→Int} {c:Int} {i:Nat} (h:fr i≠c):r.forgetQ fr c (i+1)=r.forgetQ fr c i:=by
 unfold Row.forgetQ;congr 1;funext j
 by_cases hj:j / 3=i
 ·rw [hj];simp [h]
 ·have:j / 3<i+1↔j / 3<i:=by omega
  simp only [this]
theorem Row.forgetQ_yes (r:Row) {fr:Nat→Int} {c:Int} {i:Nat} (h:fr i=c):r.forgetQ fr c (i+1)=(r.forgetQ fr c i).put (i*3+1) (.slice none 0 0):=by
 unfold Row.forgetQ Row.put;congr 1;funext j
 unfold upd;by_cases hj:j=i*3+1
 ·subst hj;have e1:(i*3+1) % 3=1:=by omega
  have e2:(i*3+1) / 3=i:=by omega
  simp [e1,e2,h]
 ·rw [if_neg hj];by_cases h1:j % 3=1
  ·have:j / 3<i+1↔j / 3<i:=by omega
   simp only [this]
  ·simp [h1]
theorem Row.forgetS_no (r:Row) {fr:Nat→Int} {c:Int} {i:Nat} (h:fr i≠c):r.forgetS fr c (i+1)=r.forgetS fr c i:=by
 unfold Row.forgetS;congr 1;funext j
 by_cases hj:j / 4=i
 ·rw [hj];simp [h]
 ·have:j / 4<i+1↔j / 4<i:=by omega
  simp only [this]
theorem Row.forgetS_yes (r:Row) {fr:Nat→Int} {c:Int} {i:Nat} (h:fr i=c):r.forgetS fr c (i+1)=((r.forgetS fr c i).put (i*4+2) (.int .i64 0)).put (i*4+3) (.bool false):=by
 unfold Row.forgetS Row.put;congr 1;funext j
 show _=upd (upd _ _ _) _ _ j;unfold upd;by_cases h3:j=i*4+3
 ·subst h3;have e1:(i*4+3) % 4=3:=by omega
  have e2:(i*4+3) / 4=i:=by omega
  simp [e1,e2,h]
 ·rw [if_neg h3];by_cases h2:j=i*4+2
  ·subst h2;have e1:(i*4+2) % 4=2:=by omega
   have e2:(i*4+2) / 4=i:=by omega
   simp [e1,e2,h]
  ·rw [if_neg h2];by_cases h1:j % 4=2∨j % 4=3
   ·have:j / 4<i+1↔j / 4<i:=by omega
    simp only [this]
   ·simp [h1]
def end2 (a b:Int) (j:Nat):Value:=.int .i64 (if j=0 then a else b)
abbrev Ycp (g:Nat) (a b:Int):Row:=⟨g,2,151,end2 a b⟩
section
variable {L:Lot} {w0 w:World} {rows ls:List Row} {g k:Nat}
theorem KnL.newEnd (h:KnL L w0 rows ls w) (ht:((151:Nat)==L.ev)=false) (a b:Int):KnL L w0 rows (ls++[Ycp w.heap.size a b]) (w.alloc (.cells #[.int .i64 a,.int .i64 b] 151)):=
 h.alloc #[.int .i64 a,.int .i64 b] 151 (end2 a b) ht fun j hj=>by
  have:j=0∨j=1:=by simp at hj;omega
  rcases this with rfl|rfl<;>rfl
theorem KnL.lsetEnd (h:KnL L w0 rows ls w) {a b a' b':Int} (hk:ls[k]?=some (Ycp g a b)):KnL L w0 rows (ls.set k (Ycp g a' b')) ((w.setCell ⟨g,0,none⟩ (.int .i64 a')).setCell ⟨g,1,none⟩ (.int .i64 b')):=by
 have s0:=h.lset hk 0 (.int .i64 a');have s1:=s0.lset (YN hk _) 1 (.int .i64 b');simp only [List.set_set] at s1;refine s1.lcongr hk rfl rfl rfl fun j hj=>?_;have:j=0∨j=1:=by have:j<2:=hj;omega
 rcases this with rfl|rfl<;>rfl
theorem KnL.ldoesEnd (h:KnL L w0 rows ls w) {a b:Int} (a' b':Int) (hk:ls[k]?=some (Ycp g a b)) {es:Array Event} (hes:∀e∈es,∃j wr,e=⟨.cell ⟨g,j,none⟩,wr,false⟩):
  L.D1 w ((w.setCell ⟨g,0,none⟩ (.int .i64 a')).setCell ⟨g,1,none⟩ (.int .i64 b')) es:=by
 have s0:=h.lset hk 0 (.int .i64 a');have k0:=YN hk ((Ycp g a b).put 0 (.int .i64 a'));refine Kn.doesAll h (Xu hk) ?_ ?_ hes
 ·exact (Kn.turnSet h (Xu hk) 0 _).trans (Kn.turnSet s0 (Xu k0) 1 _)
 ·exact (Kn.chanSet s0 (Xu k0) 1 _).trans (Kn.chanSet h (Xu hk) 0 _)
end
def YbY (rows:List Row) (iq is:Nat) (rq rs:Row) (fr:Nat→Int) (c:Int) (i:Nat):List Row:=(rows.set iq (rq.forgetQ fr c i)).set is (rs.forgetS fr c i)
noncomputable def YdG:Code:=match Tryz.f125.body with
 |some (.seq _ (.block _ (.loop c)))=>c
 |_=>.skip
section
variable {L:Lot} {w0:World} {rows:List Row} {iq is nb eb k ce cq cs_:Nat} {rq rs:Row} {fr to_:Nat→Int} {c:Int}
theorem Yek (hq:rows[iq]?=some rq) (hne:iq≠is) (i:Nat):(YbY rows iq is rq rs fr c i)[iq]?=some (rq.forgetQ fr c i):=by
 unfold YbY;rw [ZZ hne];exact YN hq _
theorem Ygg (hs:rows[is]?=some rs) (hne:iq≠is) (i:Nat):(YbY rows iq is rq rs fr c i)[is]?=some (rs.forgetS fr c i):=YN (r:=rs) (by rw [ZZ (Ne.symm hne)];exact hs) _
theorem YeH (hq:rows[iq]?=some rq) (hs:rows[is]?=some rs):YbY rows iq is rq rs fr c 0=rows:=by
 unfold YbY;rw [Row.forgetQ_zero,Row.forgetS_zero,Y4p hq,Y4p hs]
theorem YfN (hne:iq≠is) (i:Nat) (h:fr i=c):((YbY rows iq is rq rs fr c i).set iq ((rq.forgetQ fr c i).put (i*3+1) (.slice none 0 0))).set is (((rs.forgetS fr c i).put (i*4+2) (.int .i64 0)).put (i*4+3) (.bool false))=YbY rows iq is rq rs fr c (i+1):=by
 unfold YbY;rw [Row.forgetQ_yes _ h,Row.forgetS_yes _ h,List.set_comm _ _ hne,List.set_set,List.set_comm _ _ (Ne.symm hne),List.set_set]
theorem Yfk (i:Nat) (h:fr i≠c):YbY rows iq is rq rs fr c (i+1)=YbY rows iq is rq rs fr c i:=by
 unfold YbY;rw [Row.forgetQ_no _ h,Row.forgetS_no _ h]
theorem YgJ (hev:((151:Nat)==L.ev)=false) (hq:rows[iq]?=some rq) (hs:rows[is]?=some rs) (hne:iq≠is) (hqm:k*3≤rq.m) (hsm:k*4≤rs.m) (sn:Still L w0 nb) (n1:w0.cell? ⟨nb,1,none⟩=some (.slice (some ⟨rq.g,0,none⟩) k cq)) (n2:w0.cell? ⟨nb,2,none⟩=some (.slice (some ⟨rs.g,0,none⟩) k cs_))
  (se:Still L w0 eb) (e0:∀j,j<k→w0.cell? ⟨eb,j*2,none⟩=some (.int .i64 (fr j))) (e1:∀j,j<k→w0.cell? ⟨eb,j*2+1,none⟩=some (.int .i64 (to_ j))) (hk8:k≤1000) {Stop:Goroutine→World→Prop} (cs:List Frame)
  (Ret:∀(a:Act) (todo:List Item) (w':World) (v:Value),a.defers=[]→ZK Tryz.prog L.R1 L.D1 125 Tryz.f125 a.tmps w' v→(v=.tuple #[]∧Kn L w0 (YbY rows iq is rq rs fr c k) w')→Y1 Tryz.prog false L.R1 L.D1 Stop (G {(base 125).at a todo with mode:=.returning} cs) w'):
  ∀(rem i:Nat) (w:World) (u2 u3 u4 u5 u12 u13 u14 u15 u16 u17 u18 u19 u20 u21 u22 u23 u24 u25 u26 u27 u28 u29 u30 u31 u32 u33 u34:Value),i+rem=k→KnL L w0 (YbY rows iq is rq rs fr c i) [] w→
   Y1 Tryz.prog false L.R1 L.D1 Stop (G ((base 125).at {tmps:=#[.pointer (some ⟨nb,0,none⟩),.int .i64 c,u2,u3,u4,u5,.pointer (some ⟨nb,0,none⟩),.pointer (some ⟨nb,0,none⟩),.pointer (some ⟨nb,0,none⟩),.slice (some ⟨eb,0,none⟩) k ce,.int .i64 k,.int .i64 i,u12,u13,u14,u15,u16,u17,u18,u19,u20,u21,u22,u23,u24,u25,u26,u27,u28,u29,u30,u31,u32,u33,u34],defers:=[]} [.code YdG,.inLoop YdG,.inBlock 0]) cs) w:=by
 have hk:(base 125).kind≠.early:=by simp [base]
 intro rem;induction rem with
 |zero=>
  intro i w u2 u3 u4 u5 u12 u13 u14 u15 u16 u17 u18 u19 u20 u21 u22 u23 u24 u25 u26 u27 u28 u29 u30 u31 u32 u33 u34 hi hF;obtain rfl:i=k:=by omega
  repeat refine .c1 L.terms1 rfl ?_
  refine .regionL L.terms1 [0] (by rfl) ?_;refine .opV L.terms1 rfl (by rfl) hk ?_;try walk_nrm
  repeat refine .c1 L.terms1 rfl ?_
  refine Y1.condF L.terms1 (by first|rfl|simp [Act.eval]) ?_;refine Y1.exit L.terms1 (by rfl) ?_;repeat refine .c1 L.terms1 rfl ?_
  refine Y1.fin L.terms1 ?_;exact Ret _ [] _ _ rfl (Y0L L.terms1 (by rfl) _) ⟨rfl,hF.drop⟩
 |succ rem ih=>
  intro i w u2 u3 u4 u5 u12 u13 u14 u15 u16 u17 u18 u19 u20 u21 u22 u23 u24 u25 u26 u27 u28 u29 u30 u31 u32 u33 u34 hi hF;have hlt:i<k:=by omega
  have hli:(i:Int)<(k:Int):=by omega
  have hwr:IntKind.i64.wrap ((i:Int)+1)=((i+1:Nat):Int):=by rw [IntKind.wrap_i64];omega
  have he0:=e0 i hlt;have he1:=e1 i hlt;repeat refine .c1 L.terms1 rfl ?_
  refine .regionL L.terms1 [0] (by rfl) ?_;refine .opV L.terms1 rfl (by rfl) hk ?_;try walk_nrm
  repeat refine .c1 L.terms1 rfl ?_
  refine Y1.condT L.terms1 (by first|rfl|simp [Act.eval]) ?_;repeat refine .c1 L.terms1 rfl ?_
  refine .regionL L.terms1 [0,1,2,3,4,5] (by rfl) ?_;refine .opV L.terms1 rfl (by rfl) hk ?_;try walk_nrm
  refine .op rfl (by rfl) hk fun w1 hR K hK=>?_;replace hF:=hF.rely hR;clear hR;go_simp;try (unfold stored;go_simp)
  refine hK _ _ ⟨?_,?_⟩
  ·co_still L.terms1
  clear hK K;try walk_nrm
  refine .op rfl (by rfl) hk fun w1 hR K hK=>?_;replace hF:=hF.rely hR;clear hR;have hc0:World.cell? _ ⟨eb,i*2,none⟩=some (.int .i64 (fr i)):=(hF.stillCell se).trans he0;have hc1:World.cell? _ ⟨eb,i*2+1,none⟩=some (.int .i64 (to_ i)):=(hF.stillCell se).trans he1;go_simp;try (unfold stored;go_simp)
  refine hK _ _ ⟨?_,?_⟩
  ·refine hF.stillLooks se ?_;(intro e he;have hm:=mem_listed he;simp [go_sem, *] at hm;rcases hm with rfl|rfl<;>exact ⟨_,rfl⟩)
  clear hK K;clear hc0 hc1;try walk_nrm
  refine .op rfl (by rfl) hk fun w1 hR K hK=>?_;replace hF:=hF.rely hR;clear hR;go_simp;try (unfold stored;go_simp)
  refine hK _ _ ⟨?_,?_⟩
  ·refine hF.doesAlloc _ ?_;(intro e he;have hm:=mem_listed he;simp [go_sem, *] at hm)
  clear hK K;replace hF:KnL L w0 (YbY rows iq is rq rs fr c i) [Ycp w1.heap.size 0 0] _:=hF.newEnd hev 0 0;generalize hB:w1.heap.size=B at *;generalize hW:(w1.alloc (.cells #[.int .i64 0,.int .i64 0] 151))=w3 at *;clear hW hB w1;try walk_nrm
  refine .opV L.terms1 rfl (by rfl) hk ?_;try walk_nrm
  refine .op rfl (by rfl) hk fun w1 hR K hK=>?_;replace hF:=hF.rely hR;clear hR;have a0:World.cell? _ ⟨B,0,none⟩=some _:=hF.lcell (k:=0) rfl (j:=0) (show 0<2 by omega);have a1:World.cell? _ ⟨B,1,none⟩=some _:=hF.lcell (k:=0) rfl (j:=1) (show 1<2 by omega);have b0:World.frozen? _ ⟨B,0,none⟩=false:=hF.lfrozen (k:=0) rfl 0;have b1:World.frozen? _ ⟨B,1,none⟩=false:=hF.lfrozen (k:=0) rfl 1;go_simp;try (unfold stored;go_simp)
  refine hK _ _ ⟨?_,?_⟩
  ·refine hF.ldoesEnd (k:=0) _ _ rfl ?_;(intro e he;have hm:=mem_listed he;simp [go_sem, *] at hm;rcases hm with rfl|rfl<;>exact ⟨_,_,rfl⟩)
  clear hK K;clear a0 a1 b0 b1;replace hF:KnL L w0 (YbY rows iq is rq rs fr c i) [Ycp B (fr i) (to_ i)] _:=hF.lsetEnd (k:=0) rfl;try walk_nrm
  repeat refine .c1 L.terms1 rfl ?_
  refine .regionL L.terms1 [0,1,2,3] (by rfl) ?_;refine .opV L.terms1 rfl (by rfl) hk ?_;try walk_nrm
  refine .op rfl (by rfl) hk fun w1 hR K hK=>?_;replace hF:=hF.rely hR;clear hR;have hc0:World.cell? _ ⟨B,0,none⟩=some (.int .i64 (fr i)):=hF.lcell (k:=0) rfl (j:=0) (show 0<2 by omega);go_simp;try (unfold stored;go_simp)
  refine hK _ _ ⟨?_,?_⟩
  ·refine hF.llooks (k:=0) rfl ?_;co_evs (exact ⟨_,rfl⟩)
  clear hK K;clear hc0;try walk_nrm
  iterate 2 (refine .opV L.terms1 rfl (by rfl) hk ?_;try walk_nrm)
  repeat refine .c1 L.terms1 rfl ?_
  by_cases hc:fr i=c
  ·skip;refine Y1.condT L.terms1 (by first|rfl|simp [Act.eval,hc]) ?_;repeat refine .c1 L.terms1 rfl ?_
   refine .regionL L.terms1 [0,1,2,3,4,5,6] (by rfl) ?_;iterate 3 (refine .opV L.terms1 rfl (by rfl) hk ?_;try walk_nrm)
   refine .op rfl (by rfl) hk fun w1 hR K hK=>?_;replace hF:=hF.rely hR;clear hR;have hn1:World.cell? _ ⟨nb,1,none⟩=some (.slice (some ⟨rq.g,0,none⟩) k cq):=(hF.stillCell sn).trans n1;go_simp;try (unfold stored;go_simp)
   refine hK _ _ ⟨?_,?_⟩
   ·refine hF.stillLooks sn ?_;co_evs (exact ⟨_,rfl⟩)
   clear hK K;clear hn1;try walk_nrm
   refine .opV L.terms1 rfl (by rfl) hk ?_;try walk_nrm
   refine .op rfl (by rfl) hk fun w1 hR K hK=>?_;replace hF:=hF.rely hR;clear hR;go_simp;try (unfold stored;go_simp)
   refine hK _ _ ⟨?_,?_⟩
   ·co_still L.terms1
   clear hK K;try walk_nrm
   refine Y1.callX L.terms1 rfl (by rfl) hk rfl Tryz.func135 (by rfl) rfl #[.pointer (some ⟨rq.g,i*3,none⟩)] (by kernel_rfl) (YeA (r:=rq.forgetQ fr c i) (iq:=iq) (J2 (Yek hq hne i)) i (by show _≤rq.m;omega) _ hF) ?_ (fun _ _ _ h=>h.elim);rintro v w2 ⟨rfl,hF2⟩;rw [Y2q (Yek hq hne i)] at hF2;replace hF:KnL L w0 _ _ _:=hF2;clear hF2;try walk_nrm
   repeat refine .c1 L.terms1 rfl ?_
   refine .regionL L.terms1 [0,1,2,3,4,5,6] (by rfl) ?_;iterate 3 (refine .opV L.terms1 rfl (by rfl) hk ?_;try walk_nrm)
   refine .op rfl (by rfl) hk fun w1 hR K hK=>?_;replace hF:=hF.rely hR;clear hR;have hn2:World.cell? _ ⟨nb,2,none⟩=some (.slice (some ⟨rs.g,0,none⟩) k cs_):=(hF.stillCell sn).trans n2;go_simp;try (unfold stored;go_simp)
   refine hK _ _ ⟨?_,?_⟩
   ·refine hF.stillLooks sn ?_;co_evs (exact ⟨_,rfl⟩)
   clear hK K;clear hn2;try walk_nrm
   refine .opV L.terms1 rfl (by rfl) hk ?_;try walk_nrm
   refine .op rfl (by rfl) hk fun w1 hR K hK=>?_;replace hF:=hF.rely hR;clear hR;go_simp;try (unfold stored;go_simp)
   refine hK _ _ ⟨?_,?_⟩
   ·co_still L.terms1
   clear hK K;try walk_nrm
   have hs2:((YbY rows iq is rq rs fr c i).set iq ((rq.forgetQ fr c i).put (i*3+1) (.slice none 0 0)))[is]?=some (rs.forgetS fr c i):=by rw [ZZ (Ne.symm hne)];exact Ygg hs hne i
   refine Y1.callX L.terms1 rfl (by rfl) hk rfl Tryz.func136 (by rfl) rfl #[.pointer (some ⟨rs.g,i*4,none⟩)] (by kernel_rfl) (Yh2 (r:=rs.forgetS fr c i) (iq:=is) (J2 hs2) i (by show _≤rs.m;omega) _ hF) ?_ (fun _ _ _ h=>h.elim);rintro v w2 ⟨rfl,hF2⟩;rw [List.set_set,Y2q hs2,YfN hne i hc] at hF2;replace hF:KnL L w0 _ [] _:=Kn.lay (Kn.drop hF2);clear hF2 hs2;try walk_nrm
   repeat refine .c1 L.terms1 rfl ?_
   refine .regionL L.terms1 [0,1] (by rfl) ?_;iterate 2 (refine .opV L.terms1 rfl (by rfl) hk ?_;try walk_nrm)
   repeat refine .c1 L.terms1 rfl ?_
   refine Y1.inLoop L.terms1 ?_;exact ih (i+1) _ _ _ _ _ _ _ _ _ _ _ _ _ _ _ _ _ _ _ _ _ _ _ _ _ _ _ _ (by omega) hF
  ·skip;refine Y1.condF L.terms1 (by first|rfl|simp [Act.eval,hc]) ?_;repeat refine .c1 L.terms1 rfl ?_
   refine .regionL L.terms1 [0,1] (by rfl) ?_;iterate 2 (refine .opV L.terms1 rfl (by rfl) hk ?_;try walk_nrm)
   repeat refine .c1 L.terms1 rfl ?_
   replace hF:KnL L w0 _ [] _:=Kn.lay hF.drop;rw [←Yfk (rq:=rq) (rs:=rs) i hc] at hF;refine Y1.inLoop L.terms1 ?_;exact ih (i+1) _ _ _ _ _ _ _ _ _ _ _ _ _ _ _ _ _ _ _ _ _ _ _ _ _ _ _ _ (by omega) hF
theorem YeP (hev:((151:Nat)==L.ev)=false) (hq:rows[iq]?=some rq) (hs:rows[is]?=some rs) (hne:iq≠is) (hqm:k*3≤rq.m) (hsm:k*4≤rs.m) (sn:Still L w0 nb) (n0:w0.cell? ⟨nb,0,none⟩=some (.slice (some ⟨eb,0,none⟩) k ce)) (n1:w0.cell? ⟨nb,1,none⟩=some (.slice (some ⟨rq.g,0,none⟩) k cq)) (n2:w0.cell? ⟨nb,2,none⟩=some (.slice (some ⟨rs.g,0,none⟩) k cs_))
  (se:Still L w0 eb) (e0:∀j,j<k→w0.cell? ⟨eb,j*2,none⟩=some (.int .i64 (fr j))) (e1:∀j,j<k→w0.cell? ⟨eb,j*2+1,none⟩=some (.int .i64 (to_ j))) (hk8:k≤1000) (w:World) (hF:Kn L w0 rows w):
  Yl Tryz.prog false L.R1 L.D1 125 #[.pointer (some ⟨nb,0,none⟩),.int .i64 c] w (fun v w'=>v=.tuple #[]∧Kn L w0 (YbY rows iq is rq rs fr c k) w') (fun _ _=>False):=by
 replace hF:=hF.lay;have hk:(base 125).kind≠.early:=by simp [base]
 refine Yl.intro L.terms1 #[.pointer (some ⟨nb,0,none⟩),.int .i64 c,undef,undef,undef,undef,undef,undef,undef,undef,undef,undef,undef,undef,undef,undef,undef,undef,undef,undef,undef,undef,undef,undef,undef,undef,undef,undef,undef,undef,undef,undef,undef,undef,undef] Tryz.func125 rfl (by kernel_rfl) fun cl cs Stop Ret _=>?_;repeat refine .c1 L.terms1 rfl ?_
 refine .regionL L.terms1 [0,1,2,3,4,5] (by rfl) ?_;iterate 3 (refine .opV L.terms1 rfl (by rfl) hk ?_;try walk_nrm)
 refine .op rfl (by rfl) hk fun w1 hR K hK=>?_;replace hF:=hF.rely hR;clear hR;have hc:World.cell? _ ⟨nb,0,none⟩=some (.slice (some ⟨eb,0,none⟩) k ce):=(hF.stillCell sn).trans n0;go_simp;try (unfold stored;go_simp)
 refine hK _ _ ⟨?_,?_⟩
 ·refine hF.stillLooks sn ?_;co_evs (exact ⟨_,rfl⟩)
 clear hK K;clear hc;try walk_nrm
 iterate 2 (refine .opV L.terms1 rfl (by rfl) hk ?_;try walk_nrm)
 repeat refine .c1 L.terms1 rfl ?_
 refine Y1.loop L.terms1 ?_;rw [←YeH (fr:=fr) (c:=c) hq hs] at hF;exact YgJ hev hq hs hne hqm hsm sn n1 n2 se e0 e1 hk8 _ Ret k 0 _ _ _ _ _ _ _ _ _ _ _ _ _ _ _ _ _ _ _ _ _ _ _ _ _ _ _ _ (by omega) hF
end
theorem Yev {w:World} {g t n:Nat} {cur:Array Value} {v:Value} (hg:w.heap[g]?=some (.cells cur t (0,0))) (hn:n<cur.size):w.setRow g (cur.toList.take n++[v]++cur.toList.drop (n+1)).toArray=w.setCell ⟨g,n,none⟩ v:=by
 unfold World.setRow World.setCell;congr 1;apply Array.ext_getElem?;intro i;rw [Array.getElem?_modify,Array.getElem?_modify];by_cases h:g=i
 ·subst h;simp only [if_true,hg,Option.map_some];congr 2;apply Array.ext';simp only [Option.isSome_none,Bool.false_eq_true,if_false,Array.toList_setIfInBounds];rw [List.set_eq_take_append_cons_drop,if_pos (by simpa using hn)];simp
 ·simp [h]
def Lst (rows:List Row) (v:Value) (xs:List Int) (p:Option Nat):Prop:=
 (p=none∧v=.slice none 0 0∧xs=[])∨∃k r,p=some k∧rows[k]?=some r∧r.t=2∧v=.slice (some ⟨r.g,0,none⟩) xs.length r.m∧xs.length≤r.m∧r.m≤maxLen∧∀j,j<xs.length→r.f j=.int .i64 (xs.getD j 0)
section
variable {L:Lot} {w0 w:World} {rows:List Row} {v:Value} {xs:List Int} {p:Option Nat}
theorem Lst.app (h:Lst rows v xs p) (ls:List Row):Lst (rows++ls) v xs p:=by
 rcases h with h|⟨k,r,h1,h2,h3⟩
 ·exact .inl h
 ·exact .inr ⟨k,r,h1,J2 h2,h3⟩
theorem YcE:(Tryz.prog.info? 2).map (fun i=>(i.zero,i.size,i.bytes))=some (some (.int .i64 0),1,8):=by kernel_rfl
theorem Kn.newList (h:Kn L w0 rows w) (hev:((2:Nat)==L.ev)=false) (ys:List Int) (z:Nat) {arr:Array Value} (ha:arr=(ys.map (Value.int .i64 ·)).toArray++Builtin.zeroCells #[.int .i64 0] z):
  ∃rn:Row,rn.t=2∧rn.g=w.heap.size∧rn.m=ys.length+z∧Kn L w0 (rows++[rn]) (w.drew.alloc (.cells arr 2))∧(∀j,j<ys.length→rn.f j=.int .i64 (ys.getD j 0))∧Turn L L.send w (w.drew.alloc (.cells arr 2))∧(w.drew.alloc (.cells arr 2)).heap[L.c]?=w.heap[L.c]?:=by
 have hd:Kn L w0 rows w.drew:=h.rely (Turn.drew w);have hsz:arr.size=ys.length+z:=by rw [ha];simp [Builtin.zeroCells]
 have hk:=hd.alloc arr 2 (fun j=>arr.getD j undef) hev (fun j hj=>by simp [Array.getD,hj]);refine ⟨_,rfl,rfl,hsz,hk,fun j hj=>?_,(Turn.drew w).trans (.alloc w.drew _),?_⟩
 ·show arr.getD j undef=_;have:arr[j]?=some (.int .i64 (ys.getD j 0)):=by
   rw [ha,Array.getElem?_append_left (by simpa using hj)];simp [hj]
  rw [Array.getD_eq_getD_getElem?,this];rfl
 ·exact heap_alloc_old w.drew _ h.hc
theorem Kn.appended (h:Kn L w0 rows w) (hev:((2:Nat)==L.ev)=false) (hl:Lst rows v xs p) {S kS:Nat} {x:Int} (hS:rows[kS]?=some ⟨S,1,2,fun _=>.int .i64 x⟩) (hn:xs.length≤1000000000) (ty:TypeId):
  ∃v' rows' p' w',(Builtin.append_ #[51,51] ty #[v,.slice (some ⟨S,0,none⟩) 1 1]).run Tryz.prog w=.ok v' w'∧Kn L w0 rows' w'∧Lst rows' v' (xs++[x]) p'∧Turn L L.send w w'∧w'.heap[L.c]?=w.heap[L.c]?∧
   ((p'=p∧∃k r j u,p=some k∧rows[k]?=some r∧rows'=rows.set k (r.put j u))∨(p'=some rows.length∧∃rn,rows'=rows++[rn])):=by
 obtain ⟨i,hi,hz,hsz,hby⟩:=info_parts YcE;have hrS:=(h.row kS _ hS).rw.row;have hnews:∀(j:Nat) (u:Value),[Value.int .i64 x][j]?=some u→w.cell? ((⟨S,0,none⟩:Addr).add j)=some u:=fun j u hu=>by
  have hj:j<1:=by
   have:=(List.getElem?_eq_some_iff.1 hu).1;simpa using this
  obtain rfl:j=0:=by omega
  rw [Addr.add_lit];have:=hrS.cell (j:=0) (by omega);simp at hu;subst hu;exact this
 have hl1:[Value.int .i64 x].length=1*i.size:=by rw [hsz];rfl
 rcases hl with ⟨rfl,rfl,rfl⟩|⟨k,r,rfl,hk,ht,rfl,hle,hml,hf⟩
 ·have hr:=run_append_nil (P:=Tryz.prog) w 51 ty 2 i _ Tryz.underlying51 hi hz ⟨S,0,none⟩ 1 1 _ hl1 hnews (by omega) (by omega) (by rw [hby];omega);obtain ⟨rn,r1,r2,r3,r4,r5,r6,r7⟩:=h.newList hev [x] (grownCap w 1 0 2-1) (arr:=[Value.int .i64 x].toArray++Builtin.zeroCells (Value.int .i64 0).cells (grownCap w 1 0 2-1)) rfl;have hge:=grownCap_ge w 1 0 2;refine ⟨_,_,_,_,hr,r4,.inr ⟨rows.length,rn,rfl,YcA rn,r1,?_,?_,?_,?_⟩,r6,r7,.inr ⟨rfl,rn,rfl⟩⟩
  ·rw [r2,r3];simp;omega
  ·rw [r3];simp
  ·rw [r3];have:=grownCap_le_maxLen w 1 0 2 (by simp [maxLen]);simp;omega
  ·exact r5
 ·have hr:=h.row k r hk;obtain ⟨cur,hg,hcs,hc⟩:=hr.rw.row;rw [ht] at hg;by_cases hroom:xs.length+1≤r.m
  ·have hap:=run_append_room (P:=Tryz.prog) w 51 ty 2 i Tryz.underlying51 hi r.g xs.length r.m cur hg ⟨S,0,none⟩ 1 1 [.int .i64 x] hl1 hnews (by simp [Value.oneCell']) hroom (by rw [hsz,hcs];simp;omega);rw [hsz,Nat.mul_one,List.length_singleton,Yev hg (by rw [hcs];omega)] at hap;refine ⟨_,_,_,_,hap,h.set hk xs.length (.int .i64 x),.inr ⟨k,_,rfl,YN hk _,ht,by simp [Row.put],by simp [Row.put];omega,hml,fun j hj=>?_⟩,Kn.turnSet h hk _ _,Kn.chanSet h hk _ _,.inl ⟨rfl,k,r,_,_,rfl,hk,rfl⟩⟩;have hj':j<xs.length+1:=by simpa using hj
   show upd r.f xs.length _ j=_;by_cases e:j=xs.length
   ·subst e;rw [upd_same];simp
   ·rw [upd_ne _ _ e,hf j (by omega)];simp [List.getElem?_append_left (show j<xs.length by omega)]
  ·have holds:∀(j:Nat) (u:Value),(xs.map (Value.int .i64 ·))[j]?=some u→w.cell? ((⟨r.g,0,none⟩:Addr).add j)=some u:=fun j u hu=>by
    have hj:j<xs.length:=by
     have:=(List.getElem?_eq_some_iff.1 hu).1;simpa using this
    rw [Addr.add_lit,Nat.zero_add,hr.cell (show j<r.m by omega),hf j hj];simp [hj] at hu;simp [hj,←hu]
   have hap:=run_append_grow (P:=Tryz.prog) w 51 ty 2 i _ Tryz.underlying51 hi hz ⟨r.g,0,none⟩ xs.length r.m (xs.map (Value.int .i64 ·)) (by rw [hsz];simp) holds ⟨S,0,none⟩ 1 1 _ hl1 hnews (by omega) (by omega) (growslice_fits (by omega) (by rw [hby];omega));obtain ⟨rn,r1,r2,r3,r4,r5,r6,r7⟩:=h.newList hev (xs++[x]) (grownCap w (xs.length+1) r.m 2-(xs.length+1)) (arr:=(xs.map (Value.int .i64 ·)).toArray++[Value.int .i64 x].toArray++Builtin.zeroCells (Value.int .i64 0).cells (grownCap w (xs.length+1) r.m 2-(xs.length+1))) (by simp;rfl);have hge:=grownCap_ge w (xs.length+1) r.m 2;refine ⟨_,_,_,_,hap,r4,.inr ⟨rows.length,rn,rfl,YcA rn,r1,?_,?_,?_,?_⟩,r6,r7,.inr ⟨rfl,rn,rfl⟩⟩
   ·rw [r2,r3];simp;omega
   ·rw [r3];simp
   ·rw [r3];have:=grownCap_le_maxLen w (xs.length+1) r.m 2 (by simp only [maxLen];omega);simp;omega
   ·exact r5
theorem Lst.owns (hl:Lst rows v xs p) (h:Kn L w0 rows w):w.ownsRow 0 2 1 v xs.length (xs.map (Value.int .i64 ·))∧∀g,v.ownBlock=some g→Calm L L.main w g∧Mine L.send w g:=by
 rcases hl with ⟨rfl,rfl,rfl⟩|⟨k,r,rfl,hk,ht,rfl,hle,hml,hf⟩
 ·exact ⟨World.ownsRow_nil _ _ _ _,fun g hg=>by simp [Value.ownBlock] at hg⟩
 ·have ho:=h.row k r hk;obtain ⟨cur,hg,hcs,hc⟩:=ho.rw.row;rw [ht] at hg;refine ⟨⟨by simp,.inr ⟨r.g,r.m,cur,rfl,Nat.zero_le _,hg,hle,hml,by rw [hcs,Nat.mul_one],?_⟩⟩,fun g e=>?_⟩
  ·apply List.ext_getElem?;intro j;rw [Nat.mul_one];by_cases hj:j<xs.length
   ·rw [List.getElem?_take_of_lt hj,Array.getElem?_toList,hc j (by omega),hf j hj];simp [hj]
   ·rw [List.getElem?_take_eq_none (by omega)];simp [hj]
  ·simp [Value.ownBlock] at e;subst e;exact ⟨ho.rw.calm,ho.own⟩
theorem Kn.appendDoes {w':World} (h:Kn L w0 rows w) (hl:Lst rows v xs p) {S kS:Nat} {x:Int} (hS:rows[kS]?=some ⟨S,1,2,fun _=>.int .i64 x⟩) (hn:xs.length≤1000000000) (hturn:Turn L L.send w w') (hch:w'.heap[L.c]?=w.heap[L.c]?) {fn:FuncId} {A:Act} {o:Oper} (a b:Operand) (hop:o.op=.call {callee:=.builtin .append,args:=#[a,b],argTypes:=#[51,51]}) (ha:A.eval a=v) (hb:A.eval b=.slice (some ⟨S,0,none⟩) 1 1):L.D1 w w' (listed Tryz.prog fn A o w):=by
 obtain ⟨i,hi,hz,hsz,hby⟩:=info_parts YcE;obtain ⟨hown,hblk⟩:=hl.owns h;have hoS:=h.row kS _ hS;refine ⟨hturn,hch,fun e he=>?_⟩;have he:=mem_listed he;rw [events_append_op a b 51 hop ha hb] at he;have hnews:∀(j:Nat) (u:Value),[Value.int .i64 x][j]?=some u→w.cell? ((⟨S,0,none⟩:Addr).add j)=some u:=fun j u hu=>by
  have hj:j<1:=by
   have:=(List.getElem?_eq_some_iff.1 hu).1;simpa using this
  obtain rfl:j=0:=by omega
  rw [Addr.add_lit];have:=hoS.rw.row.cell (j:=0) (by omega);simp at hu;subst hu;exact this
 have hcalm:∀c,Calm L L.main w c→Mine L.send w c→∀wr sy ad,ad.block=c→EvBy L L.send L.main w' ⟨.cell ad,wr,sy⟩:=fun c h1 h2 wr sy ad hc=>by
  obtain ⟨q,hq⟩:=h1.there;obtain ⟨q',g1,g2,_⟩:=hturn.at_ c q hq;refine ⟨YR _ _ _,fun z hz _=>?_⟩;have:z=⟨.cell ad,wr,if sy then .atomic else .plain⟩:=by
   cases wr<;>cases sy<;>simp [MemAct.ofEvent,MemAct.touch?] at hz<;>exact hz.symm
  subst this;exact ⟨q',by rw [hc];exact g1,by rw [hc];exact fun hm=>h1.no q hq (L.tells_main c q' q (fun x=>(g2 x).symm) hm),fun _=>by rw [hc];exact L.tells_send c q q' g2 (h2 q hq)⟩
 rcases events_append_where (P:=Tryz.prog) w 0 51 o.type 2 i _ 1 8 Tryz.underlying51 hi hz hsz hby v xs.length _ hown ⟨S,0,none⟩ 1 1 [.int .i64 x] rfl hnews (by simp [Value.oneCell']) (by simp only [maxLen];omega) (by omega) e he with ⟨ad,h1,h2⟩|⟨q,rfl,hq⟩
 ·obtain ⟨loc,wr,sy⟩:=e;simp only at h1;subst h1;rcases h2 with ⟨_,h2⟩|h2
  ·exact hcalm S hoS.rw.calm hoS.own _ _ ad h2
  ·exact hcalm ad.block (hblk _ h2.symm).1 (hblk _ h2.symm).2 _ _ ad rfl
 ·refine ⟨⟨fun h=>?_,fun h=>?_⟩,fun z hz=>?_⟩
  ·cases h;exact absurd hq (by simp [Neutral])
  ·cases h;exact absurd hq (by simp [Neutral])
  ·rw [show MemAct.ofEvent ⟨.mark q,false,true⟩=.mark q from rfl,hq.touch] at hz;cases hz
end
section
variable {L:Lot} {w0 w:World} {rows:List Row}
theorem Kn.sub (h:Kn L w0 rows w) {rows':List Row} (φ:Nat→Nat) (hφ:∀i r,rows'[i]?=some r→rows[φ i]?=some r) (inj:∀i j,i<rows'.length→j<rows'.length→φ i=φ j→i=j):Kn L w0 rows' w:=
 ⟨h.ph,fun i r hi=>h.row (φ i) r (hφ i r hi),fun i j r s hi hj hij=>h.pw (φ i) (φ j) r s (hφ i r hi) (hφ j s hj) fun e=>hij (inj i j (List.getElem?_eq_some_iff.1 hi).1 (List.getElem?_eq_some_iff.1 hj).1 e),h.hB,h.hc⟩
theorem Kn.mid {a b:Row} (h:Kn L w0 (rows++[a]++[b]) w):Kn L w0 (rows++[b]) w:=by
 refine h.sub (fun i=>if i<rows.length then i else i+1) (fun i r hi=>?_) (fun i j hi hj e=>?_)
 ·by_cases hl:i<rows.length
  ·rw [if_pos hl,List.append_assoc,List.getElem?_append_left hl];rwa [List.getElem?_append_left hl] at hi
  ·have hi2:=(List.getElem?_eq_some_iff.1 hi).1;simp at hi2;obtain rfl:i=rows.length:=by omega
   rw [if_neg hl];simp at hi ⊢;exact hi
 ·revert e;show (if i<rows.length then i else i+1)=(if j<rows.length then j else j+1)→i=j;split<;>split<;>omega
theorem Lst.slice {v:Value} {xs:List Int} {p:Option Nat} (hl:Lst rows v xs p):∃a n c,v=.slice a n c:=by
 rcases hl with ⟨_,rfl,_⟩|⟨k,rk,_,_,_,rfl,_⟩
 ·exact ⟨_,_,_,rfl⟩
 ·exact ⟨_,_,_,rfl⟩
theorem YdU {tmp:Row} {v v':Value} {xs ys:List Int} {p p':Option Nat} {rows':List Row} {iq:Nat} {r:Row} (hq:rows[iq]?=some r) (hp:p≠some iq) (hl:Lst rows v xs p) (hK:Kn L w0 rows' w) (hL:Lst rows' v' ys p')
  (hcase:(p'=p∧∃k r j u,p=some k∧(rows++[tmp])[k]?=some r∧rows'=(rows++[tmp]).set k (r.put j u))∨(p'=some (rows++[tmp]).length∧∃rn,rows'=rows++[tmp]++[rn])):
  ∃rows2 p2,Kn L w0 rows2 w∧rows2[iq]?=some r∧Lst rows2 v' ys p2∧rows.length≤rows2.length∧(∀k,p≠some k→k<rows.length→rows2[k]?=rows[k]?)∧(p2=p∨p2=some rows.length)∧p2≠some iq:=by
 have hiq:=(List.getElem?_eq_some_iff.1 hq).1;rcases hcase with ⟨rfl,k,rk,j,u,rfl,hk,rfl⟩|⟨rfl,rn,rfl⟩
 ·rcases hl with ⟨h0,_⟩|⟨k',r',hk',hr',_⟩
  ·cases h0
  ·obtain rfl:k=k':=Option.some.inj hk';have hkl:=(List.getElem?_eq_some_iff.1 hr').1;have hki:k≠iq:=fun e=>hp (by rw [e]);rw [List.set_append_left _ _ hkl] at hK hL;refine ⟨_,some k,hK.drop,?_,?_,by simp,fun m hm hml=>?_,.inl rfl,hp⟩
   ·rw [ZZ (Ne.symm hki)];exact hq
   ·rcases hL with ⟨h0,_⟩|⟨k2,r2,hk2,hr2,hrest⟩
    ·cases h0
    ·obtain rfl:k=k2:=Option.some.inj hk2;rw [List.getElem?_append_left (by simpa using hkl)] at hr2;exact .inr ⟨k,r2,rfl,hr2,hrest⟩
   ·rw [ZZ (fun e=>hm (by rw [e]))]
 ·refine ⟨rows++[rn],some rows.length,hK.mid,J2 hq,?_,by simp,fun m hm hml=>List.getElem?_append_left hml,.inr rfl,fun e=>by have:=Option.some.inj e;omega⟩;rcases hL with ⟨h0,_⟩|⟨k2,r2,hk2,hr2,hrest⟩
  ·cases h0
  ·obtain rfl:(rows++[tmp]).length=k2:=Option.some.inj hk2;rw [YcA] at hr2;obtain rfl:=Option.some.inj hr2;exact .inr ⟨rows.length,rn,rfl,YcA rn,hrest⟩
end
section
variable {L:Lot} {w0:World} {rows:List Row} {iq:Nat} {r:Row}
theorem YgQ (hev:((2:Nat)==L.ev)=false) (hq:rows[iq]?=some r) (i:Nat) (hm:i*3+3≤r.m) (x:Int) {sv:Value} {xs:List Int} {p:Option Nat} (hsv:r.f (i*3+1)=sv) (hl:Lst rows sv xs p) (hp:p≠some iq) (hn:xs.length≤1000000000) (w:World) (hF:Kn L w0 rows w):
  Yl Tryz.prog false L.R1 L.D1 138 #[.pointer (some ⟨r.g,i*3,none⟩),.int .i64 x] w (fun v w'=>v=.tuple #[]∧∃rows' v' p',Kn L w0 rows' w'∧rows'[iq]?=some (r.put (i*3+1) v')∧Lst rows' v' (xs++[x]) p'∧rows.length≤rows'.length∧(∀k,k≠iq→p≠some k→k<rows.length→rows'[k]?=rows[k]?)∧(p'=p∨p'=some rows.length)) (fun _ _=>False):=by
 replace hF:=hF.lay;obtain ⟨sa,sn,sc,rfl⟩:=hl.slice;have hk:(base 138).kind≠.early:=by simp [base]
 refine Yl.intro L.terms1 #[.pointer (some ⟨r.g,i*3,none⟩),.int .i64 x,undef,undef,undef,undef,undef,undef,undef,undef,undef,undef,undef,undef] Tryz.func138 rfl (by kernel_rfl) fun cl cs Stop Ret _=>?_;repeat refine .c1 L.terms1 rfl ?_
 refine .regionL L.terms1 [0,1,2,3,4,5,6,7,8,9,10] (by rfl) ?_;iterate 4 (refine .opV L.terms1 rfl (by rfl) hk ?_;try walk_nrm)
 refine .op rfl (by rfl) hk fun w1 hR K hK=>?_;replace hF:=hF.rely hR;clear hR;have hc:World.cell? _ ⟨r.g,i*3+1,none⟩=some (.slice sa sn sc):=(hF.cell hq (j:=i*3+1) (by show _<r.m;omega)).trans (by rw [hsv]);go_simp;try (unfold stored;go_simp)
 refine hK _ _ ⟨?_,?_⟩
 ·refine hF.looks hq ?_;co_evs (exact ⟨_,rfl⟩)
 clear hK K;clear hc;try walk_nrm
 refine .opV L.terms1 rfl (by rfl) hk ?_;try walk_nrm
 refine .op rfl (by rfl) hk fun w1 hR K hK=>?_;replace hF:=hF.rely hR;clear hR;go_simp;try (unfold stored;go_simp)
 refine hK _ _ ⟨?_,?_⟩
 ·refine hF.doesAlloc _ ?_;(intro e he;have hm:=mem_listed he;simp [go_sem, *] at hm)
 clear hK K;have hN:=hF.alloc #[.int .i64 x] 2 (fun _=>.int .i64 x) hev (fun j hj=>by
  have:j=0:=by simpa using hj
  subst this;rfl)
 replace hF:KnL L w0 rows [⟨w1.heap.size,1,2,fun _=>.int .i64 x⟩] _:=hN;clear hN;generalize hB:w1.heap.size=B at *;generalize hW:(w1.alloc (.cells #[.int .i64 x] 2))=w3 at *;clear hW hB w1;try walk_nrm
 refine .op rfl (by rfl) hk fun w1 hR K hK=>?_;replace hF:=hF.rely hR;clear hR;have hS:(rows++[(⟨B,1,2,fun _=>.int .i64 x⟩:Row)])[rows.length]?=some ⟨B,1,2,fun _=>.int .i64 x⟩:=YcA _;obtain ⟨v',rows',p',w',hrun,hK',hL',hT',hC',hcase⟩:=Kn.appended hF hev (hl.app _) hS hn 51;refine uponK_append (.tmp 8) (.tmp 10) 51 rfl rfl rfl hrun (hK _ _ ⟨Kn.appendDoes hF (hl.app _) hS hn hT' hC' (.tmp 8) (.tmp 10) rfl rfl rfl,?_⟩);clear hK K hrun hT' hC';obtain ⟨rows2,p2,hK2,hq2,hL2,hle,hoth,hpp,hpi⟩:=YdU hq hp hl hK' hL' hcase;obtain ⟨va,vn,vc,rfl⟩:=hL'.slice;clear hK' hL' hcase hF hS;have hF:=hK2;clear hK2;try walk_nrm
 iterate 2 (refine .opV L.terms1 rfl (by rfl) hk ?_;try walk_nrm)
 refine .op rfl (by rfl) hk fun w1 hR K hK=>?_;replace hF:=hF.rely hR;clear hR;have hz2:World.frozen? _ ⟨r.g,i*3+1,none⟩=false:=hF.frozen hq2 (i*3+1);have hc:World.cell? _ ⟨r.g,i*3+1,none⟩=some _:=hF.cell hq2 (j:=i*3+1) (by show _<r.m;omega);go_simp;try (unfold stored;go_simp)
 refine hK _ _ ⟨?_,?_⟩
 ·refine hF.does hq2 (i*3+1) _ ?_;(intro e he;have hm:=mem_listed he;simp [go_sem,YcG, *] at hm;subst hm;exact rfl)
 clear hK K;clear hz2 hc;replace hF:=hF.set hq2 (i*3+1) (.slice va vn vc);try walk_nrm
 repeat refine .c1 L.terms1 rfl ?_
 refine Y1.fin L.terms1 ?_;refine Ret _ [] _ _ rfl (Y0L L.terms1 (by rfl) _) ⟨rfl,_,.slice va vn vc,p2,hF,YN hq2 _,?_,by simpa using hle,fun k h1 h2 h3=>?_,hpp⟩
 ·rcases hL2 with ⟨a1,a2,a3⟩|⟨k2,r2,a1,a2,a3⟩
  ·exact .inl ⟨a1,a2,a3⟩
  ·exact .inr ⟨k2,r2,a1,by rw [ZZ (fun e=>hpi (by rw [a1,e]))];exact a2,a3⟩
 ·rw [ZZ h1];exact hoth k h2 h3
end
end Go.Proofs.YtdoghgnifkgfdaaGreat.Mute
