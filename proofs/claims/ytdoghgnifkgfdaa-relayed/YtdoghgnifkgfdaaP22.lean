import Derived.Test.YtdoghgnifkgfdaaP12
import Derived.Test.YtdoghgnifkgfdaaP14
import Derived.Test.YtdoghgnifkgfdaaP15
import Derived.Test.YtdoghgnifkgfdaaP17
import Derived.Test.YtdoghgnifkgfdaaP21
set_option maxRecDepth 100000
set_option maxHeartbeats 16000000
namespace Go.Proofs.Ytdoghgnifkgfdaa.Mute
open Go Go.Conc Go.RowKit
theorem choose_lt {α:Type} (d:α) {n:Nat} {P:Nat→α→Prop} (h:∀i,i<n→∃x,P i x):∃f:Nat→α,∀i,i<n→P i (f i):=
 ⟨fun i=>if hi:i<n then Classical.choose (h i hi) else d,fun i hi=>by
  simp only [hi,dite_true];exact Classical.choose_spec (h i hi)⟩
def wnOf (c:Cfg) (i j:Nat):Nat×Nat:=((c.row i (j*2)).toNat,(c.row i (j*2+1)).toNat)
theorem zok_new (lim:Int) (m:Nat) (img:Nat→Int) (n:Nat) (hm:m≤16):Zok n (newZ lim m img)∧IntKind.i64.wrap (newZ lim m img 46)=newZ lim m img 46:=by
 have e45:newZ lim m img 45=0:=by unfold newZ;rw [if_neg (by omega),if_neg (by omega),if_neg (by omega)]
 have e24:newZ lim m img 24=0:=by unfold newZ;rw [if_neg (by omega),if_neg (by omega),if_neg (by omega)]
 have e46:newZ lim m img 46=0:=by unfold newZ;rw [if_neg (by omega),if_neg (by omega),if_neg (by omega)]
 exact ⟨⟨by rw [e45];omega,by rw [e45];omega,e24⟩,by rw [e46];rfl⟩
theorem CheckIs.rowsAll {c:Cfg} (h:CheckIs c 0 0):AllOk (RowAt c) c.nT:=by
 unfold CheckIs at h;rcases h with h|h|⟨_,_,i,_,h,_⟩|h|⟨_,_,_,_,i,_,h,_⟩|h|⟨_,_,_,_,_,_,i,_,h,_⟩|⟨_,_,_,_,_,_,_,i,_,h,_⟩|h
 ·exact absurd h.2.1 (by omega)
 ·exact absurd h.2.2.1 (by omega)
 ·exact absurd h (by omega)
 ·exact absurd h.2.2.2.2.1 (by omega)
 ·exact absurd h (by omega)
 ·exact absurd h.2.2.2.2.2.2.1 (by omega)
 ·exact absurd h (by omega)
 ·exact absurd h (by omega)
 ·exact h.2.2.1
theorem wn_of {c:Cfg} {i:Nat} (h:RowAt c i):c.nRow i≤6∧∀j,j<c.nRow i→((wnOf c i j).1:Int)=c.row i (j*2)∧((wnOf c i j).2:Int)=c.row i (j*2+1)∧(wnOf c i j).1<c.nC∧(wnOf c i j).2≤200:=by
 obtain ⟨h1,h2,h3⟩:=h;refine ⟨h1,fun j hj=>?_⟩;obtain ⟨a,b,d⟩:=h2 j hj;have hs:=(sumTo_ge (c.row i) (c.nRow i) (fun k hk=>(h2 k hk).2.2)).2 j hj;unfold wnOf;omega
section
variable {w:World}
theorem ty_ne {a b:Nat} {ca cb:Array Value} {ta tb:Nat} {fa fb:Nat×Nat} (ha:w.heap[a]?=some (.cells ca ta fa)) (hb:w.heap[b]?=some (.cells cb tb fb)) (ht:ta≠tb):a≠b:=fun e=>by
 subst e;rw [ha] at hb;cases hb;exact ht rfl
theorem own_ty {b e s n:Nat} {v:Value} {xs:List Value} (h:w.ownsRow b e s v n xs) {g:Nat} (hg:v.ownBlock=some g):∃cs,w.heap[g]?=some (.cells cs e (0,0)):=by
 rcases h.2 with ⟨hv,_⟩|⟨g',cap,cur,hv,_,hh,_⟩
 ·rw [hv] at hg;simp [Value.ownBlock] at hg
 ·rw [hv] at hg;have:g'=g:=by simpa [Value.ownBlock] using hg
  subst this;exact ⟨cur,hh⟩
end
theorem resultsW_two {P:Program} {R:World→World→Prop} {D:World→World→Array Event→Prop} (T:Terms R D) {f:FuncId} {fn:Func} {t u:Tmp} {w:World} (h:fn.results=#[.tmp t,.tmp u]) (tmps:Array Value):ResultsW P R D f fn tmps w (.tuple #[tmps.getD t undef,tmps.getD u undef]):=fun w₁ _=>by
 obtain ⟨h1,h2⟩:=resultsC_tmp2 (P:=P) h tmps w₁;rw [h2,seen_none];exact ⟨h1,T.idle _⟩
theorem ev_bl (P:Program) (w:World) (es:Array Event) (a:Addr) (m:Mode) (b:Bool):(store a (.bool b) m).events P w es=storedEv P w es a (.bool b) m:=events_store P w es a _ m rfl
theorem ev_sl (P:Program) (w:World) (es:Array Event) (a:Addr) (m:Mode) (b:Option Addr) (l c:Nat):(store a (.slice b l c) m).events P w es=storedEv P w es a (.slice b l c) m:=events_store P w es a _ m rfl
section
variable {L:Lot} {w0:World} {rows:List Row} {iq nb qb k cq:Nat} {r:Row}
theorem netQueue_x (hs:Still L w0 nb) (h1:w0.cell? ⟨nb,1,none⟩=some (.slice (some ⟨qb,0,none⟩) k cq)) (i:Nat) (hi:i<k) (w:World) (hF:Kn L w0 rows w):
  CallsX Try.prog false L.R1 L.D1 97 #[.pointer (some ⟨nb,0,none⟩),.int .i64 i] w (fun v w'=>v=.pointer (some ⟨qb,i*3,none⟩)∧Kn L w0 rows w') (fun _ _=>False):=by
 replace hF:=hF.lay;have hii:(i:Int)<(k:Int):=by omega
 have hk:(base 97).kind≠.early:=by simp [base]
 refine CallsX.intro L.terms1 #[.pointer (some ⟨nb,0,none⟩),.int .i64 i,undef,undef,undef,undef,undef,undef,undef,undef,undef] Try.func97 rfl (by kernel_rfl) fun cl cs Stop Ret _=>?_;repeat refine .c1 L.terms1 rfl ?_
 refine .regionL L.terms1 [0] (by rfl) ?_;refine .opV L.terms1 rfl (by rfl) hk ?_;try walk_nrm
 repeat refine .c1 L.terms1 rfl ?_
 refine .regionL L.terms1 [0,1,2,3,4,5,6] (by rfl) ?_;iterate 3 (refine .opV L.terms1 rfl (by rfl) hk ?_;try walk_nrm)
 refine .op rfl (by rfl) hk fun w1 hR K hK=>?_;replace hF:=hF.rely hR;clear hR;have hc:World.cell? _ ⟨nb,1,none⟩=some (.slice (some ⟨qb,0,none⟩) k cq):=(hF.stillCell hs).trans h1;go_simp;try (unfold stored;go_simp)
 refine hK _ _ ⟨?_,?_⟩
 ·refine hF.stillLooks hs ?_;co_evs (exact ⟨_,rfl⟩)
 clear hK K;clear hc;try walk_nrm
 refine .opV L.terms1 rfl (by rfl) hk ?_;try walk_nrm
 refine .op rfl (by rfl) hk fun w1 hR K hK=>?_;replace hF:=hF.rely hR;clear hR;go_simp;try (unfold stored;go_simp)
 refine hK _ _ ⟨?_,?_⟩
 ·co_still L.terms1
 clear hK K;try walk_nrm
 refine .opV L.terms1 rfl (by rfl) hk ?_;try walk_nrm
 repeat refine .c1 L.terms1 rfl ?_
 refine GoesW.ret L.terms1 fun todo=>?_;exact Ret _ todo _ _ rfl (resultsW_tmp L.terms1 (by rfl) _) ⟨by first|rfl|simp,hF.drop⟩
theorem netSample_x (hs:Still L w0 nb) (h1:w0.cell? ⟨nb,2,none⟩=some (.slice (some ⟨qb,0,none⟩) k cq)) (i:Nat) (hi:i<k) (w:World) (hF:Kn L w0 rows w):
  CallsX Try.prog false L.R1 L.D1 99 #[.pointer (some ⟨nb,0,none⟩),.int .i64 i] w (fun v w'=>v=.pointer (some ⟨qb,i*4,none⟩)∧Kn L w0 rows w') (fun _ _=>False):=by
 replace hF:=hF.lay;have hii:(i:Int)<(k:Int):=by omega
 have hk:(base 99).kind≠.early:=by simp [base]
 refine CallsX.intro L.terms1 #[.pointer (some ⟨nb,0,none⟩),.int .i64 i,undef,undef,undef,undef,undef,undef,undef,undef,undef] Try.func99 rfl (by kernel_rfl) fun cl cs Stop Ret _=>?_;repeat refine .c1 L.terms1 rfl ?_
 refine .regionL L.terms1 [0] (by rfl) ?_;refine .opV L.terms1 rfl (by rfl) hk ?_;try walk_nrm
 repeat refine .c1 L.terms1 rfl ?_
 refine .regionL L.terms1 [0,1,2,3,4,5,6] (by rfl) ?_;iterate 3 (refine .opV L.terms1 rfl (by rfl) hk ?_;try walk_nrm)
 refine .op rfl (by rfl) hk fun w1 hR K hK=>?_;replace hF:=hF.rely hR;clear hR;have hc:World.cell? _ ⟨nb,2,none⟩=some (.slice (some ⟨qb,0,none⟩) k cq):=(hF.stillCell hs).trans h1;go_simp;try (unfold stored;go_simp)
 refine hK _ _ ⟨?_,?_⟩
 ·refine hF.stillLooks hs ?_;co_evs (exact ⟨_,rfl⟩)
 clear hK K;clear hc;try walk_nrm
 refine .opV L.terms1 rfl (by rfl) hk ?_;try walk_nrm
 refine .op rfl (by rfl) hk fun w1 hR K hK=>?_;replace hF:=hF.rely hR;clear hR;go_simp;try (unfold stored;go_simp)
 refine hK _ _ ⟨?_,?_⟩
 ·co_still L.terms1
 clear hK K;try walk_nrm
 refine .opV L.terms1 rfl (by rfl) hk ?_;try walk_nrm
 repeat refine .c1 L.terms1 rfl ?_
 refine GoesW.ret L.terms1 fun todo=>?_;exact Ret _ todo _ _ rfl (resultsW_tmp L.terms1 (by rfl) _) ⟨by first|rfl|simp,hF.drop⟩
theorem write_x (hq:rows[iq]?=some r) (i:Nat) (x:Int) (hm:i*4+4≤r.m) (w:World) (hF:Kn L w0 rows w):
  CallsX Try.prog false L.R1 L.D1 100 #[.pointer (some ⟨r.g,i*4,none⟩),.int .i64 x] w (fun v w'=>v=.tuple #[]∧Kn L w0 ((rows.set iq (r.put (i*4+2) (.int .i64 x))).set iq ((r.put (i*4+2) (.int .i64 x)).put (i*4+3) (.bool true))) w') (fun _ _=>False):=by
 have hk:(base 100).kind≠.early:=by simp [base]
 refine CallsX.intro L.terms1 #[.pointer (some ⟨r.g,i*4,none⟩),.int .i64 x,undef,undef,undef,undef,undef,undef,undef,undef,undef] Try.func100 rfl (by kernel_rfl) fun cl cs Stop Ret _=>?_;repeat refine .c1 L.terms1 rfl ?_
 refine .regionL L.terms1 [0,1,2,3,4,5,6,7,8] (by rfl) ?_;iterate 5 (refine .opV L.terms1 rfl (by rfl) hk ?_;try walk_nrm)
 refine .op rfl (by rfl) hk fun w1 hR K hK=>?_;replace hF:=hF.rely hR;clear hR;have hz2:World.frozen? _ ⟨r.g,i*4+2,none⟩=false:=hF.frozen (r:=r) hq (i*4+2);have hc:World.cell? _ ⟨r.g,i*4+2,none⟩=some _:=hF.cell (r:=r) hq (j:=i*4+2) (by show _<r.m;omega);go_simp;try (unfold stored;go_simp)
 refine hK _ _ ⟨?_,?_⟩
 ·refine hF.does (r:=r) hq (i*4+2) _ ?_;co_evs (exact rfl)
 clear hK K;clear hz2 hc;replace hF:=hF.set (r:=r) hq (i*4+2) (.int .i64 x);replace hq:=rows_set_get hq (r.put (i*4+2) (.int .i64 x));try walk_nrm
 iterate 2 (refine .opV L.terms1 rfl (by rfl) hk ?_;try walk_nrm)
 refine .op rfl (by rfl) hk fun w1 hR K hK=>?_;replace hF:=hF.rely hR;clear hR;have hz2:World.frozen? _ ⟨r.g,i*4+3,none⟩=false:=hF.frozen (r:=(r.put (i*4+2) (.int .i64 x))) hq (i*4+3);have hc:World.cell? _ ⟨r.g,i*4+3,none⟩=some _:=hF.cell (r:=(r.put (i*4+2) (.int .i64 x))) hq (j:=i*4+3) (by show _<r.m;omega);go_simp;try (unfold stored;go_simp)
 refine hK _ _ ⟨?_,?_⟩
 ·refine hF.does (r:=(r.put (i*4+2) (.int .i64 x))) hq (i*4+3) _ ?_;(intro e he;have hm:=mem_listed he;simp [go_sem,ev_bl, *] at hm;subst hm;exact rfl)
 clear hK K;clear hz2 hc;replace hF:=hF.set (r:=(r.put (i*4+2) (.int .i64 x))) hq (i*4+3) (.bool true);replace hq:=rows_set_get hq ((r.put (i*4+2) (.int .i64 x)).put (i*4+3) (.bool true));try walk_nrm
 repeat refine .c1 L.terms1 rfl ?_
 refine GoesW.fin L.terms1 ?_;exact Ret _ [] _ _ rfl (resultsW_none L.terms1 (by rfl) _) ⟨rfl,hF⟩
theorem sforget_x (hq:rows[iq]?=some r) (i:Nat) (hm:i*4+4≤r.m) (w:World) (hF:Kn L w0 rows w):
  CallsX Try.prog false L.R1 L.D1 96 #[.pointer (some ⟨r.g,i*4,none⟩)] w (fun v w'=>v=.tuple #[]∧Kn L w0 ((rows.set iq (r.put (i*4+2) (.int .i64 0))).set iq ((r.put (i*4+2) (.int .i64 0)).put (i*4+3) (.bool false))) w') (fun _ _=>False):=by
 have hk:(base 96).kind≠.early:=by simp [base]
 refine CallsX.intro L.terms1 #[.pointer (some ⟨r.g,i*4,none⟩),undef,undef,undef,undef,undef,undef,undef] Try.func96 rfl (by kernel_rfl) fun cl cs Stop Ret _=>?_;repeat refine .c1 L.terms1 rfl ?_
 refine .regionL L.terms1 [0,1,2,3,4,5,6,7] (by rfl) ?_;iterate 4 (refine .opV L.terms1 rfl (by rfl) hk ?_;try walk_nrm)
 refine .op rfl (by rfl) hk fun w1 hR K hK=>?_;replace hF:=hF.rely hR;clear hR;have hz2:World.frozen? _ ⟨r.g,i*4+2,none⟩=false:=hF.frozen (r:=r) hq (i*4+2);have hc:World.cell? _ ⟨r.g,i*4+2,none⟩=some _:=hF.cell (r:=r) hq (j:=i*4+2) (by show _<r.m;omega);go_simp;try (unfold stored;go_simp)
 refine hK _ _ ⟨?_,?_⟩
 ·refine hF.does (r:=r) hq (i*4+2) _ ?_;co_evs (exact rfl)
 clear hK K;clear hz2 hc;replace hF:=hF.set (r:=r) hq (i*4+2) (.int .i64 0);replace hq:=rows_set_get hq (r.put (i*4+2) (.int .i64 0));try walk_nrm
 iterate 2 (refine .opV L.terms1 rfl (by rfl) hk ?_;try walk_nrm)
 refine .op rfl (by rfl) hk fun w1 hR K hK=>?_;replace hF:=hF.rely hR;clear hR;have hz2:World.frozen? _ ⟨r.g,i*4+3,none⟩=false:=hF.frozen (r:=(r.put (i*4+2) (.int .i64 0))) hq (i*4+3);have hc:World.cell? _ ⟨r.g,i*4+3,none⟩=some _:=hF.cell (r:=(r.put (i*4+2) (.int .i64 0))) hq (j:=i*4+3) (by show _<r.m;omega);go_simp;try (unfold stored;go_simp)
 refine hK _ _ ⟨?_,?_⟩
 ·refine hF.does (r:=(r.put (i*4+2) (.int .i64 0))) hq (i*4+3) _ ?_;(intro e he;have hm:=mem_listed he;simp [go_sem,ev_bl, *] at hm;subst hm;exact rfl)
 clear hK K;clear hz2 hc;replace hF:=hF.set (r:=(r.put (i*4+2) (.int .i64 0))) hq (i*4+3) (.bool false);replace hq:=rows_set_get hq ((r.put (i*4+2) (.int .i64 0)).put (i*4+3) (.bool false));try walk_nrm
 repeat refine .c1 L.terms1 rfl ?_
 refine GoesW.fin L.terms1 ?_;exact Ret _ [] _ _ rfl (resultsW_none L.terms1 (by rfl) _) ⟨rfl,hF⟩
theorem qforget_x (hq:rows[iq]?=some r) (i:Nat) (hm:i*3+3≤r.m) (w:World) (hF:Kn L w0 rows w):
  CallsX Try.prog false L.R1 L.D1 95 #[.pointer (some ⟨r.g,i*3,none⟩)] w (fun v w'=>v=.tuple #[]∧Kn L w0 (rows.set iq (r.put (i*3+1) (.slice none 0 0))) w') (fun _ _=>False):=by
 have hk:(base 95).kind≠.early:=by simp [base]
 refine CallsX.intro L.terms1 #[.pointer (some ⟨r.g,i*3,none⟩),undef,undef,undef,undef] Try.func95 rfl (by kernel_rfl) fun cl cs Stop Ret _=>?_;repeat refine .c1 L.terms1 rfl ?_
 refine .regionL L.terms1 [0,1,2,3] (by rfl) ?_;iterate 3 (refine .opV L.terms1 rfl (by rfl) hk ?_;try walk_nrm)
 refine .op rfl (by rfl) hk fun w1 hR K hK=>?_;replace hF:=hF.rely hR;clear hR;have hz2:World.frozen? _ ⟨r.g,i*3+1,none⟩=false:=hF.frozen (r:=r) hq (i*3+1);have hc:World.cell? _ ⟨r.g,i*3+1,none⟩=some _:=hF.cell (r:=r) hq (j:=i*3+1) (by show _<r.m;omega);go_simp;try (unfold stored;go_simp)
 refine hK _ _ ⟨?_,?_⟩
 ·refine hF.does (r:=r) hq (i*3+1) _ ?_;(intro e he;have hm:=mem_listed he;simp [go_sem,ev_sl, *] at hm;subst hm;exact rfl)
 clear hK K;clear hz2 hc;replace hF:=hF.set (r:=r) hq (i*3+1) (.slice none 0 0);replace hq:=rows_set_get hq (r.put (i*3+1) (.slice none 0 0));try walk_nrm
 repeat refine .c1 L.terms1 rfl ?_
 refine GoesW.fin L.terms1 ?_;exact Ret _ [] _ _ rfl (resultsW_none L.terms1 (by rfl) _) ⟨rfl,hF⟩
theorem lost_x (hq:rows[iq]?=some r) (i:Nat) (x:Int) (hx:r.f (i*3+2)=.int .i64 x) (hm:i*3+3≤r.m) (w:World) (hF:Kn L w0 rows w):
  CallsX Try.prog false L.R1 L.D1 104 #[.pointer (some ⟨r.g,i*3,none⟩)] w (fun v w'=>v=.int .i64 x∧Kn L w0 (rows.set iq (r.put (i*3+2) (.int .i64 0))) w') (fun _ _=>False):=by
 have hk:(base 104).kind≠.early:=by simp [base]
 refine CallsX.intro L.terms1 #[.pointer (some ⟨r.g,i*3,none⟩),undef,undef,undef,undef,undef,undef,undef,undef,undef,undef,undef] Try.func104 rfl (by kernel_rfl) fun cl cs Stop Ret _=>?_;repeat refine .c1 L.terms1 rfl ?_
 refine .regionL L.terms1 [0] (by rfl) ?_;refine .opV L.terms1 rfl (by rfl) hk ?_;try walk_nrm
 repeat refine .c1 L.terms1 rfl ?_
 refine .regionL L.terms1 [0,1,2,3,4] (by rfl) ?_;iterate 3 (refine .opV L.terms1 rfl (by rfl) hk ?_;try walk_nrm)
 refine .op rfl (by rfl) hk fun w1 hR K hK=>?_;replace hF:=hF.rely hR;clear hR;have hc:World.cell? _ ⟨r.g,i*3+2,none⟩=some (.int .i64 x):=(hF.cell hq (j:=i*3+2) (by show _<r.m;omega)).trans (by rw [hx]);go_simp;try (unfold stored;go_simp)
 refine hK _ _ ⟨?_,?_⟩
 ·refine hF.looks hq ?_;co_evs (exact ⟨_,rfl⟩)
 clear hK K;clear hc;try walk_nrm
 refine .opV L.terms1 rfl (by rfl) hk ?_;try walk_nrm
 repeat refine .c1 L.terms1 rfl ?_
 refine .regionL L.terms1 [0,1,2,3] (by rfl) ?_;iterate 3 (refine .opV L.terms1 rfl (by rfl) hk ?_;try walk_nrm)
 refine .op rfl (by rfl) hk fun w1 hR K hK=>?_;replace hF:=hF.rely hR;clear hR;have hz2:World.frozen? _ ⟨r.g,i*3+2,none⟩=false:=hF.frozen (r:=r) hq (i*3+2);have hc:World.cell? _ ⟨r.g,i*3+2,none⟩=some _:=hF.cell (r:=r) hq (j:=i*3+2) (by show _<r.m;omega);go_simp;try (unfold stored;go_simp)
 refine hK _ _ ⟨?_,?_⟩
 ·refine hF.does (r:=r) hq (i*3+2) _ ?_;co_evs (exact rfl)
 clear hK K;clear hz2 hc;replace hF:=hF.set (r:=r) hq (i*3+2) (.int .i64 0);replace hq:=rows_set_get hq (r.put (i*3+2) (.int .i64 0));try walk_nrm
 repeat refine .c1 L.terms1 rfl ?_
 refine .regionL L.terms1 [0,1] (by rfl) ?_;iterate 2 (refine .opV L.terms1 rfl (by rfl) hk ?_;try walk_nrm)
 repeat refine .c1 L.terms1 rfl ?_
 refine GoesW.ret L.terms1 fun todo=>?_;exact Ret _ todo _ _ rfl (resultsW_tmp L.terms1 (by rfl) _) ⟨by first|rfl|simp,hF⟩
theorem read_x (hq:rows[iq]?=some r) (i:Nat) (x y:Int) (hx:r.f (i*4)=.int .i64 x) (hy:r.f (i*4+1)=.int .i64 y) (hm:i*4+4≤r.m) (w:World) (hF:Kn L w0 rows w):
  CallsX Try.prog false L.R1 L.D1 102 #[.pointer (some ⟨r.g,i*4,none⟩)] w (fun v w'=>v=.tuple #[.int .i64 x,.int .i64 y]∧Kn L w0 rows w') (fun _ _=>False):=by
 have hk:(base 102).kind≠.early:=by simp [base]
 refine CallsX.intro L.terms1 #[.pointer (some ⟨r.g,i*4,none⟩),undef,undef,undef,undef,undef,undef,undef,undef,undef,undef,undef] Try.func102 rfl (by kernel_rfl) fun cl cs Stop Ret _=>?_;repeat refine .c1 L.terms1 rfl ?_
 refine .regionL L.terms1 [0,1] (by rfl) ?_;iterate 2 (refine .opV L.terms1 rfl (by rfl) hk ?_;try walk_nrm)
 repeat refine .c1 L.terms1 rfl ?_
 refine GoesW.drawnN (S:=Kn L w0 rows) (Die:=fun _ _=>False) L.terms1 L.draws1 10 (by rfl) hk (by kernel_rfl) (fun _ _ _ h=>h) (fun _ _ _ h=>h.elim) fun w1 hR=>?_;replace hF:=(hF.rely hR).rely (Turn.drew _);clear hR;refine anyD_tk L.terms1 0 (fun _ _ h r=>Kn.rely h r) hF ?_;try walk_nrm
 refine anyD_tk L.terms1 1 (fun _ _ h r=>Kn.rely h r) hF ?_;try walk_nrm
 refine anyD_tk L.terms1 2 (fun _ _ h r=>Kn.rely h r) hF ?_;try walk_nrm
 refine anyD_tl L.terms1 3 rfl (fun _ _ h r=>Kn.rely h r) hF ?_ fun _ hw=>⟨run_eq_of (by
  intro K hK;have hc:World.cell? _ ⟨r.g,i*4,none⟩=some (.int .i64 x):=(hw.cell hq (j:=i*4) (by show _<r.m;omega)).trans (by rw [hx]);go_simp;exact hK),by
  have hc:World.cell? _ ⟨r.g,i*4,none⟩=some (.int .i64 x):=(hw.cell hq (j:=i*4) (by show _<r.m;omega)).trans (by rw [hx]);refine hw.looks hq ?_;co_evs (exact ⟨_,rfl⟩)⟩
 try walk_nrm
 refine anyD_tk L.terms1 4 (fun _ _ h r=>Kn.rely h r) hF ?_;try walk_nrm
 refine anyD_tk L.terms1 5 (fun _ _ h r=>Kn.rely h r) hF ?_;try walk_nrm
 refine anyD_tk L.terms1 6 (fun _ _ h r=>Kn.rely h r) hF ?_;try walk_nrm
 refine anyD_tl L.terms1 7 rfl (fun _ _ h r=>Kn.rely h r) hF ?_ fun _ hw=>⟨run_eq_of (by
  intro K hK;have hc:World.cell? _ ⟨r.g,i*4+1,none⟩=some (.int .i64 y):=(hw.cell hq (j:=i*4+1) (by show _<r.m;omega)).trans (by rw [hy]);go_simp;exact hK),by
  have hc:World.cell? _ ⟨r.g,i*4+1,none⟩=some (.int .i64 y):=(hw.cell hq (j:=i*4+1) (by show _<r.m;omega)).trans (by rw [hy]);refine hw.looks hq ?_;co_evs (exact ⟨_,rfl⟩)⟩
 try walk_nrm
 refine anyD_tk L.terms1 8 (fun _ _ h r=>Kn.rely h r) hF ?_;try walk_nrm
 refine anyD_tk L.terms1 9 (fun _ _ h r=>Kn.rely h r) hF ?_;try walk_nrm
 refine anyD_done (by first|kernel_rfl|decide +kernel) ?_ _;repeat refine .c1 L.terms1 rfl ?_
 refine GoesW.ret L.terms1 fun todo=>?_;exact Ret _ todo _ _ rfl (resultsW_two L.terms1 (by rfl) _) ⟨by first|rfl|simp,hF⟩
end
def Row.forgetQ (r:Row) (fr:Nat→Int) (c:Int) (i:Nat):Row:={r with f:=fun j=>if j % 3=1∧j / 3<i∧fr (j / 3)=c then .slice none 0 0 else r.f j}
def Row.forgetS (r:Row) (fr:Nat→Int) (c:Int) (i:Nat):Row:={r with f:=fun j=>if (j % 4=2∨j % 4=3)∧j / 4<i∧fr (j / 4)=c then (if j % 4=2 then .int .i64 0 else .bool false) else r.f j}
theorem Row.forgetQ_zero (r:Row) (fr:Nat→Int) (c:Int):r.forgetQ fr c 0=r:=by
 unfold Row.forgetQ;simp
theorem Row.forgetS_zero (r:Row) (fr:Nat→Int) (c:Int):r.forgetS fr c 0=r:=by
 unfold Row.forgetS;simp
theorem Row.forgetQ_no (r:Row) {fr:Nat→Int} {c:Int} {i:Nat} (h:fr i≠c):r.forgetQ fr c (i+1)=r.forgetQ fr c i:=by
 unfold Row.forgetQ;congr 1;funext j
 by_cases hj:j / 3=i
 ·rw [hj];simp [h]
 ·have:j / 3<i+1↔j / 3<i:=by omega
  simp only [this]
theorem Row.forgetQ_yes (r:Row) {fr:Nat→Int} {c:Int} {i:Nat} (h:fr i=c):r.forgetQ fr c (i+1)=(r.forgetQ fr c i).put (i*3+1) (.slice none 0 0):=by
 unfold Row.forgetQ Row.put;congr 1;funext j
 unfold upd;by_cases hj:j=i*3+1
 ·subst hj;have e1:(i*3+1) % 3=1:=by omega
  have e2:(i*3+1) / 3=i:=by omega
  simp [e1,e2,h]
 ·rw [if_neg hj];by_cases h1:j % 3=1
  ·have:j / 3<i+1↔j / 3<i:=by omega
   simp only [this]
  ·simp [h1]
theorem Row.forgetS_no (r:Row) {fr:Nat→Int} {c:Int} {i:Nat} (h:fr i≠c):r.forgetS fr c (i+1)=r.forgetS fr c i:=by
 unfold Row.forgetS;congr 1;funext j
 by_cases hj:j / 4=i
 ·rw [hj];simp [h]
 ·have:j / 4<i+1↔j / 4<i:=by omega
  simp only [this]
theorem Row.forgetS_yes (r:Row) {fr:Nat→Int} {c:Int} {i:Nat} (h:fr i=c):r.forgetS fr c (i+1)=((r.forgetS fr c i).put (i*4+2) (.int .i64 0)).put (i*4+3) (.bool false):=by
 unfold Row.forgetS Row.put;congr 1;funext j
 show _=upd (upd _ _ _) _ _ j;unfold upd;by_cases h3:j=i*4+3
 ·subst h3;have e1:(i*4+3) % 4=3:=by omega
  have e2:(i*4+3) / 4=i:=by omega
  simp [e1,e2,h]
 ·rw [if_neg h3];by_cases h2:j=i*4+2
  ·subst h2;have e1:(i*4+2) % 4=2:=by omega
   have e2:(i*4+2) / 4=i:=by omega
   simp [e1,e2,h]
  ·rw [if_neg h2];by_cases h1:j % 4=2∨j % 4=3
   ·have:j / 4<i+1↔j / 4<i:=by omega
    simp only [this]
   ·simp [h1]
def end2 (a b:Int) (j:Nat):Value:=.int .i64 (if j=0 then a else b)
abbrev endRow (g:Nat) (a b:Int):Row:=⟨g,2,158,end2 a b⟩
section
variable {L:Lot} {w0 w:World} {rows ls:List Row} {g k:Nat}
theorem KnL.newEnd (h:KnL L w0 rows ls w) (ht:((158:Nat)==L.ev)=false) (a b:Int):KnL L w0 rows (ls++[endRow w.heap.size a b]) (w.alloc (.cells #[.int .i64 a,.int .i64 b] 158)):=
 h.alloc #[.int .i64 a,.int .i64 b] 158 (end2 a b) ht fun j hj=>by
  have:j=0∨j=1:=by simp at hj;omega
  rcases this with rfl|rfl<;>rfl
theorem KnL.lsetEnd (h:KnL L w0 rows ls w) {a b a' b':Int} (hk:ls[k]?=some (endRow g a b)):KnL L w0 rows (ls.set k (endRow g a' b')) ((w.setCell ⟨g,0,none⟩ (.int .i64 a')).setCell ⟨g,1,none⟩ (.int .i64 b')):=by
 have s0:=h.lset hk 0 (.int .i64 a');have s1:=s0.lset (rows_set_get hk _) 1 (.int .i64 b');simp only [List.set_set] at s1;refine s1.lcongr hk rfl rfl rfl fun j hj=>?_;have:j=0∨j=1:=by have:j<2:=hj;omega
 rcases this with rfl|rfl<;>rfl
theorem KnL.ldoesEnd (h:KnL L w0 rows ls w) {a b:Int} (a' b':Int) (hk:ls[k]?=some (endRow g a b)) {es:Array Event} (hes:∀e∈es,∃j wr,e=⟨.cell ⟨g,j,none⟩,wr,false⟩):
  L.D1 w ((w.setCell ⟨g,0,none⟩ (.int .i64 a')).setCell ⟨g,1,none⟩ (.int .i64 b')) es:=by
 have s0:=h.lset hk 0 (.int .i64 a');have k0:=rows_set_get hk ((endRow g a b).put 0 (.int .i64 a'));refine Kn.doesAll h (loc_get hk) ?_ ?_ hes
 ·exact (Kn.turnSet h (loc_get hk) 0 _).trans (Kn.turnSet s0 (loc_get k0) 1 _)
 ·exact (Kn.chanSet s0 (loc_get k0) 1 _).trans (Kn.chanSet h (loc_get hk) 0 _)
end
def frows (rows:List Row) (iq is:Nat) (rq rs:Row) (fr:Nat→Int) (c:Int) (i:Nat):List Row:=(rows.set iq (rq.forgetQ fr c i)).set is (rs.forgetS fr c i)
noncomputable def fgBody:Code:=match Try.f87.body with
 |some (.seq _ (.block _ (.loop c)))=>c
 |_=>.skip
section
variable {L:Lot} {w0:World} {rows:List Row} {iq is nb eb k ce cq cs_:Nat} {rq rs:Row} {fr to_:Nat→Int} {c:Int}
theorem frows_q (hq:rows[iq]?=some rq) (hne:iq≠is) (i:Nat):(frows rows iq is rq rs fr c i)[iq]?=some (rq.forgetQ fr c i):=by
 unfold frows;rw [rows_set_ne hne];exact rows_set_get hq _
theorem frows_s (hs:rows[is]?=some rs) (hne:iq≠is) (i:Nat):(frows rows iq is rq rs fr c i)[is]?=some (rs.forgetS fr c i):=rows_set_get (r:=rs) (by rw [rows_set_ne (Ne.symm hne)];exact hs) _
theorem frows_zero (hq:rows[iq]?=some rq) (hs:rows[is]?=some rs):frows rows iq is rq rs fr c 0=rows:=by
 unfold frows;rw [Row.forgetQ_zero,Row.forgetS_zero,rows_set_self hq,rows_set_self hs]
theorem frows_yes (hne:iq≠is) (i:Nat) (h:fr i=c):((frows rows iq is rq rs fr c i).set iq ((rq.forgetQ fr c i).put (i*3+1) (.slice none 0 0))).set is (((rs.forgetS fr c i).put (i*4+2) (.int .i64 0)).put (i*4+3) (.bool false))=frows rows iq is rq rs fr c (i+1):=by
 unfold frows;rw [Row.forgetQ_yes _ h,Row.forgetS_yes _ h,List.set_comm _ _ hne,List.set_set,List.set_comm _ _ (Ne.symm hne),List.set_set]
theorem frows_no (i:Nat) (h:fr i≠c):frows rows iq is rq rs fr c (i+1)=frows rows iq is rq rs fr c i:=by
 unfold frows;rw [Row.forgetQ_no _ h,Row.forgetS_no _ h]
theorem forget_loop (hev:((158:Nat)==L.ev)=false) (hq:rows[iq]?=some rq) (hs:rows[is]?=some rs) (hne:iq≠is) (hqm:k*3≤rq.m) (hsm:k*4≤rs.m) (sn:Still L w0 nb) (n1:w0.cell? ⟨nb,1,none⟩=some (.slice (some ⟨rq.g,0,none⟩) k cq)) (n2:w0.cell? ⟨nb,2,none⟩=some (.slice (some ⟨rs.g,0,none⟩) k cs_))
  (se:Still L w0 eb) (e0:∀j,j<k→w0.cell? ⟨eb,j*2,none⟩=some (.int .i64 (fr j))) (e1:∀j,j<k→w0.cell? ⟨eb,j*2+1,none⟩=some (.int .i64 (to_ j))) (hk8:k≤1000) {Stop:Goroutine→World→Prop} (cs:List Frame)
  (Ret:∀(a:Act) (todo:List Item) (w':World) (v:Value),a.defers=[]→ResultsW Try.prog L.R1 L.D1 87 Try.f87 a.tmps w' v→(v=.tuple #[]∧Kn L w0 (frows rows iq is rq rs fr c k) w')→GoesW Try.prog false L.R1 L.D1 Stop (G {(base 87).at a todo with mode:=.returning} cs) w'):
  ∀(rem i:Nat) (w:World) (u2 u3 u4 u5 u12 u13 u14 u15 u16 u17 u18 u19 u20 u21 u22 u23 u24 u25 u26 u27 u28 u29 u30 u31 u32 u33 u34:Value),i+rem=k→KnL L w0 (frows rows iq is rq rs fr c i) [] w→
   GoesW Try.prog false L.R1 L.D1 Stop (G ((base 87).at {tmps:=#[.pointer (some ⟨nb,0,none⟩),.int .i64 c,u2,u3,u4,u5,.pointer (some ⟨nb,0,none⟩),.pointer (some ⟨nb,0,none⟩),.pointer (some ⟨nb,0,none⟩),.slice (some ⟨eb,0,none⟩) k ce,.int .i64 k,.int .i64 i,u12,u13,u14,u15,u16,u17,u18,u19,u20,u21,u22,u23,u24,u25,u26,u27,u28,u29,u30,u31,u32,u33,u34],defers:=[]} [.code fgBody,.inLoop fgBody,.inBlock 0]) cs) w:=by
 have hk:(base 87).kind≠.early:=by simp [base]
 intro rem;induction rem with
 |zero=>
  intro i w u2 u3 u4 u5 u12 u13 u14 u15 u16 u17 u18 u19 u20 u21 u22 u23 u24 u25 u26 u27 u28 u29 u30 u31 u32 u33 u34 hi hF;obtain rfl:i=k:=by omega
  repeat refine .c1 L.terms1 rfl ?_
  refine .regionL L.terms1 [0] (by rfl) ?_;refine .opV L.terms1 rfl (by rfl) hk ?_;try walk_nrm
  repeat refine .c1 L.terms1 rfl ?_
  refine GoesW.condF L.terms1 (by first|rfl|simp [Act.eval]) ?_;refine GoesW.exit L.terms1 (by rfl) ?_;repeat refine .c1 L.terms1 rfl ?_
  refine GoesW.fin L.terms1 ?_;exact Ret _ [] _ _ rfl (resultsW_none L.terms1 (by rfl) _) ⟨rfl,hF.drop⟩
 |succ rem ih=>
  intro i w u2 u3 u4 u5 u12 u13 u14 u15 u16 u17 u18 u19 u20 u21 u22 u23 u24 u25 u26 u27 u28 u29 u30 u31 u32 u33 u34 hi hF;have hlt:i<k:=by omega
  have hli:(i:Int)<(k:Int):=by omega
  have hwr:IntKind.i64.wrap ((i:Int)+1)=((i+1:Nat):Int):=by rw [IntKind.wrap_i64];omega
  have he0:=e0 i hlt;have he1:=e1 i hlt;repeat refine .c1 L.terms1 rfl ?_
  refine .regionL L.terms1 [0] (by rfl) ?_;refine .opV L.terms1 rfl (by rfl) hk ?_;try walk_nrm
  repeat refine .c1 L.terms1 rfl ?_
  refine GoesW.condT L.terms1 (by first|rfl|simp [Act.eval]) ?_;repeat refine .c1 L.terms1 rfl ?_
  refine .regionL L.terms1 [0,1,2,3,4,5] (by rfl) ?_;refine .opV L.terms1 rfl (by rfl) hk ?_;try walk_nrm
  refine .op rfl (by rfl) hk fun w1 hR K hK=>?_;replace hF:=hF.rely hR;clear hR;go_simp;try (unfold stored;go_simp)
  refine hK _ _ ⟨?_,?_⟩
  ·co_still L.terms1
  clear hK K;try walk_nrm
  refine .op rfl (by rfl) hk fun w1 hR K hK=>?_;replace hF:=hF.rely hR;clear hR;have hc0:World.cell? _ ⟨eb,i*2,none⟩=some (.int .i64 (fr i)):=(hF.stillCell se).trans he0;have hc1:World.cell? _ ⟨eb,i*2+1,none⟩=some (.int .i64 (to_ i)):=(hF.stillCell se).trans he1;go_simp;try (unfold stored;go_simp)
  refine hK _ _ ⟨?_,?_⟩
  ·refine hF.stillLooks se ?_;(intro e he;have hm:=mem_listed he;simp [go_sem, *] at hm;rcases hm with rfl|rfl<;>exact ⟨_,rfl⟩)
  clear hK K;clear hc0 hc1;try walk_nrm
  refine .op rfl (by rfl) hk fun w1 hR K hK=>?_;replace hF:=hF.rely hR;clear hR;go_simp;try (unfold stored;go_simp)
  refine hK _ _ ⟨?_,?_⟩
  ·refine hF.doesAlloc _ ?_;(intro e he;have hm:=mem_listed he;simp [go_sem, *] at hm)
  clear hK K;replace hF:KnL L w0 (frows rows iq is rq rs fr c i) [endRow w1.heap.size 0 0] _:=hF.newEnd hev 0 0;generalize hB:w1.heap.size=B at *;generalize hW:(w1.alloc (.cells #[.int .i64 0,.int .i64 0] 158))=w3 at *;clear hW hB w1;try walk_nrm
  refine .opV L.terms1 rfl (by rfl) hk ?_;try walk_nrm
  refine .op rfl (by rfl) hk fun w1 hR K hK=>?_;replace hF:=hF.rely hR;clear hR;have a0:World.cell? _ ⟨B,0,none⟩=some _:=hF.lcell (k:=0) rfl (j:=0) (show 0<2 by omega);have a1:World.cell? _ ⟨B,1,none⟩=some _:=hF.lcell (k:=0) rfl (j:=1) (show 1<2 by omega);have b0:World.frozen? _ ⟨B,0,none⟩=false:=hF.lfrozen (k:=0) rfl 0;have b1:World.frozen? _ ⟨B,1,none⟩=false:=hF.lfrozen (k:=0) rfl 1;go_simp;try (unfold stored;go_simp)
  refine hK _ _ ⟨?_,?_⟩
  ·refine hF.ldoesEnd (k:=0) _ _ rfl ?_;(intro e he;have hm:=mem_listed he;simp [go_sem, *] at hm;rcases hm with rfl|rfl<;>exact ⟨_,_,rfl⟩)
  clear hK K;clear a0 a1 b0 b1;replace hF:KnL L w0 (frows rows iq is rq rs fr c i) [endRow B (fr i) (to_ i)] _:=hF.lsetEnd (k:=0) rfl;try walk_nrm
  repeat refine .c1 L.terms1 rfl ?_
  refine .regionL L.terms1 [0,1,2,3] (by rfl) ?_;refine .opV L.terms1 rfl (by rfl) hk ?_;try walk_nrm
  refine .op rfl (by rfl) hk fun w1 hR K hK=>?_;replace hF:=hF.rely hR;clear hR;have hc0:World.cell? _ ⟨B,0,none⟩=some (.int .i64 (fr i)):=hF.lcell (k:=0) rfl (j:=0) (show 0<2 by omega);go_simp;try (unfold stored;go_simp)
  refine hK _ _ ⟨?_,?_⟩
  ·refine hF.llooks (k:=0) rfl ?_;co_evs (exact ⟨_,rfl⟩)
  clear hK K;clear hc0;try walk_nrm
  iterate 2 (refine .opV L.terms1 rfl (by rfl) hk ?_;try walk_nrm)
  repeat refine .c1 L.terms1 rfl ?_
  by_cases hc:fr i=c
  ·skip;refine GoesW.condT L.terms1 (by first|rfl|simp [Act.eval,hc]) ?_;repeat refine .c1 L.terms1 rfl ?_
   refine .regionL L.terms1 [0,1,2,3,4,5,6] (by rfl) ?_;iterate 3 (refine .opV L.terms1 rfl (by rfl) hk ?_;try walk_nrm)
   refine .op rfl (by rfl) hk fun w1 hR K hK=>?_;replace hF:=hF.rely hR;clear hR;have hn1:World.cell? _ ⟨nb,1,none⟩=some (.slice (some ⟨rq.g,0,none⟩) k cq):=(hF.stillCell sn).trans n1;go_simp;try (unfold stored;go_simp)
   refine hK _ _ ⟨?_,?_⟩
   ·refine hF.stillLooks sn ?_;co_evs (exact ⟨_,rfl⟩)
   clear hK K;clear hn1;try walk_nrm
   refine .opV L.terms1 rfl (by rfl) hk ?_;try walk_nrm
   refine .op rfl (by rfl) hk fun w1 hR K hK=>?_;replace hF:=hF.rely hR;clear hR;go_simp;try (unfold stored;go_simp)
   refine hK _ _ ⟨?_,?_⟩
   ·co_still L.terms1
   clear hK K;try walk_nrm
   refine GoesW.callX L.terms1 rfl (by rfl) hk rfl Try.func95 (by rfl) rfl #[.pointer (some ⟨rq.g,i*3,none⟩)] (by kernel_rfl) (qforget_x (r:=rq.forgetQ fr c i) (iq:=iq) (rows_app_get (frows_q hq hne i)) i (by show _≤rq.m;omega) _ hF) ?_ (fun _ _ _ h=>h.elim);rintro v w2 ⟨rfl,hF2⟩;rw [set_app (frows_q hq hne i)] at hF2;replace hF:KnL L w0 _ _ _:=hF2;clear hF2;try walk_nrm
   repeat refine .c1 L.terms1 rfl ?_
   refine .regionL L.terms1 [0,1,2,3,4,5,6] (by rfl) ?_;iterate 3 (refine .opV L.terms1 rfl (by rfl) hk ?_;try walk_nrm)
   refine .op rfl (by rfl) hk fun w1 hR K hK=>?_;replace hF:=hF.rely hR;clear hR;have hn2:World.cell? _ ⟨nb,2,none⟩=some (.slice (some ⟨rs.g,0,none⟩) k cs_):=(hF.stillCell sn).trans n2;go_simp;try (unfold stored;go_simp)
   refine hK _ _ ⟨?_,?_⟩
   ·refine hF.stillLooks sn ?_;co_evs (exact ⟨_,rfl⟩)
   clear hK K;clear hn2;try walk_nrm
   refine .opV L.terms1 rfl (by rfl) hk ?_;try walk_nrm
   refine .op rfl (by rfl) hk fun w1 hR K hK=>?_;replace hF:=hF.rely hR;clear hR;go_simp;try (unfold stored;go_simp)
   refine hK _ _ ⟨?_,?_⟩
   ·co_still L.terms1
   clear hK K;try walk_nrm
   have hs2:((frows rows iq is rq rs fr c i).set iq ((rq.forgetQ fr c i).put (i*3+1) (.slice none 0 0)))[is]?=some (rs.forgetS fr c i):=by rw [rows_set_ne (Ne.symm hne)];exact frows_s hs hne i
   refine GoesW.callX L.terms1 rfl (by rfl) hk rfl Try.func96 (by rfl) rfl #[.pointer (some ⟨rs.g,i*4,none⟩)] (by kernel_rfl) (sforget_x (r:=rs.forgetS fr c i) (iq:=is) (rows_app_get hs2) i (by show _≤rs.m;omega) _ hF) ?_ (fun _ _ _ h=>h.elim);rintro v w2 ⟨rfl,hF2⟩;rw [List.set_set,set_app hs2,frows_yes hne i hc] at hF2;replace hF:KnL L w0 _ [] _:=Kn.lay (Kn.drop hF2);clear hF2 hs2;try walk_nrm
   repeat refine .c1 L.terms1 rfl ?_
   refine .regionL L.terms1 [0,1] (by rfl) ?_;iterate 2 (refine .opV L.terms1 rfl (by rfl) hk ?_;try walk_nrm)
   repeat refine .c1 L.terms1 rfl ?_
   refine GoesW.inLoop L.terms1 ?_;exact ih (i+1) _ _ _ _ _ _ _ _ _ _ _ _ _ _ _ _ _ _ _ _ _ _ _ _ _ _ _ _ (by omega) hF
  ·skip;refine GoesW.condF L.terms1 (by first|rfl|simp [Act.eval,hc]) ?_;repeat refine .c1 L.terms1 rfl ?_
   refine .regionL L.terms1 [0,1] (by rfl) ?_;iterate 2 (refine .opV L.terms1 rfl (by rfl) hk ?_;try walk_nrm)
   repeat refine .c1 L.terms1 rfl ?_
   replace hF:KnL L w0 _ [] _:=Kn.lay hF.drop;rw [←frows_no (rq:=rq) (rs:=rs) i hc] at hF;refine GoesW.inLoop L.terms1 ?_;exact ih (i+1) _ _ _ _ _ _ _ _ _ _ _ _ _ _ _ _ _ _ _ _ _ _ _ _ _ _ _ _ (by omega) hF
theorem forgetN_x (hev:((158:Nat)==L.ev)=false) (hq:rows[iq]?=some rq) (hs:rows[is]?=some rs) (hne:iq≠is) (hqm:k*3≤rq.m) (hsm:k*4≤rs.m) (sn:Still L w0 nb) (n0:w0.cell? ⟨nb,0,none⟩=some (.slice (some ⟨eb,0,none⟩) k ce)) (n1:w0.cell? ⟨nb,1,none⟩=some (.slice (some ⟨rq.g,0,none⟩) k cq)) (n2:w0.cell? ⟨nb,2,none⟩=some (.slice (some ⟨rs.g,0,none⟩) k cs_))
  (se:Still L w0 eb) (e0:∀j,j<k→w0.cell? ⟨eb,j*2,none⟩=some (.int .i64 (fr j))) (e1:∀j,j<k→w0.cell? ⟨eb,j*2+1,none⟩=some (.int .i64 (to_ j))) (hk8:k≤1000) (w:World) (hF:Kn L w0 rows w):
  CallsX Try.prog false L.R1 L.D1 87 #[.pointer (some ⟨nb,0,none⟩),.int .i64 c] w (fun v w'=>v=.tuple #[]∧Kn L w0 (frows rows iq is rq rs fr c k) w') (fun _ _=>False):=by
 replace hF:=hF.lay;have hk:(base 87).kind≠.early:=by simp [base]
 refine CallsX.intro L.terms1 #[.pointer (some ⟨nb,0,none⟩),.int .i64 c,undef,undef,undef,undef,undef,undef,undef,undef,undef,undef,undef,undef,undef,undef,undef,undef,undef,undef,undef,undef,undef,undef,undef,undef,undef,undef,undef,undef,undef,undef,undef,undef,undef] Try.func87 rfl (by kernel_rfl) fun cl cs Stop Ret _=>?_;repeat refine .c1 L.terms1 rfl ?_
 refine .regionL L.terms1 [0,1,2,3,4,5] (by rfl) ?_;iterate 3 (refine .opV L.terms1 rfl (by rfl) hk ?_;try walk_nrm)
 refine .op rfl (by rfl) hk fun w1 hR K hK=>?_;replace hF:=hF.rely hR;clear hR;have hc:World.cell? _ ⟨nb,0,none⟩=some (.slice (some ⟨eb,0,none⟩) k ce):=(hF.stillCell sn).trans n0;go_simp;try (unfold stored;go_simp)
 refine hK _ _ ⟨?_,?_⟩
 ·refine hF.stillLooks sn ?_;co_evs (exact ⟨_,rfl⟩)
 clear hK K;clear hc;try walk_nrm
 iterate 2 (refine .opV L.terms1 rfl (by rfl) hk ?_;try walk_nrm)
 repeat refine .c1 L.terms1 rfl ?_
 refine GoesW.loop L.terms1 ?_;rw [←frows_zero (fr:=fr) (c:=c) hq hs] at hF;exact forget_loop hev hq hs hne hqm hsm sn n1 n2 se e0 e1 hk8 _ Ret k 0 _ _ _ _ _ _ _ _ _ _ _ _ _ _ _ _ _ _ _ _ _ _ _ _ _ _ _ _ (by omega) hF
end
end Go.Proofs.Ytdoghgnifkgfdaa.Mute
