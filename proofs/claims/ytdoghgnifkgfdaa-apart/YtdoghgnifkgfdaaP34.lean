import Derived.Test.YtdoghgnifkgfdaaP25
import Derived.Test.YtdoghgnifkgfdaaP33
set_option maxRecDepth 100000
set_option maxHeartbeats 16000000
namespace Go.Proofs.Ytdoghgnifkgfdaa.Mute
open Go Go.Conc Go.RowKit
section
variable {L:Lot} {w0:World} {K:NetK} {i:Nat}
theorem Kn.set4 {rows:List Row} {w:World} {r:Row} {ir o:Nat} (h:Kn L w0 rows w) (hr:rows[ir]?=some r) (a b c d:Value):
  Kn L w0 (rows.set ir {r with f:=upd (upd (upd (upd r.f o a) (o+1) b) (o+2) c) (o+3) d}) ((((w.setCell ⟨r.g,o,none⟩ a).setCell ⟨r.g,o+1,none⟩ b).setCell ⟨r.g,o+2,none⟩ c).setCell ⟨r.g,o+3,none⟩ d)∧∀{es:Array Event},(∀e∈es,∃j wr,e=⟨.cell ⟨r.g,j,none⟩,wr,false⟩)→L.D1 w ((((w.setCell ⟨r.g,o,none⟩ a).setCell ⟨r.g,o+1,none⟩ b).setCell ⟨r.g,o+2,none⟩ c).setCell ⟨r.g,o+3,none⟩ d) es:=by
 have s0:=h.set hr o a;have k0:=rows_set_get hr (r.put o a);have s1:=s0.set k0 (o+1) b;have k1:=rows_set_get k0 ((r.put o a).put (o+1) b);have s2:=s1.set k1 (o+2) c;have k2:=rows_set_get k1 (((r.put o a).put (o+1) b).put (o+2) c);have s3:=s2.set k2 (o+3) d;simp only [List.set_set] at s3;refine ⟨s3,fun hes=>Kn.doesAll h hr ?_ ?_ hes⟩
 ·exact (((Kn.turnSet h hr o _).trans (Kn.turnSet s0 k0 (o+1) _)).trans (Kn.turnSet s1 k1 (o+2) _)).trans (Kn.turnSet s2 k2 (o+3) _)
 ·exact (Kn.chanSet s2 k2 (o+3) _).trans ((Kn.chanSet s1 k1 (o+2) _).trans ((Kn.chanSet s0 k0 (o+1) _).trans (Kn.chanSet h hr o _)))
theorem send_end_x {rn:List Row} {C:Nat→Chn} (hik:i<K.k) (hsm:K.k*4≤K.sm) (hN:NR K rn C) (w:World) (hF:Kn L w0 rn w):
  CallsX Try.prog true L.R1 L.D1 58 #[.pointer (some ⟨K.sb,i*4,none⟩)] w (fun v w'=>v=.tuple #[]∧∃rn',NR K rn' (uN C i (endS (C i)))∧Kn L w0 rn' w') (fun _ _=>False):=by
 obtain ⟨fq,fs,p,hx⟩:=hN (by omega);replace hF:=hF.lay;have hc:=hx.ch i hik;have hk:(base 58).kind≠.early:=by simp [base]
 refine CallsX.intro L.terms1 #[.pointer (some ⟨K.sb,i*4,none⟩),undef,undef,undef,undef,undef,undef,undef,undef,undef,undef,undef,undef,undef,undef,undef,undef,undef,undef,undef,undef,undef,undef,undef,undef,undef,undef] Try.func58 rfl (by kernel_rfl) fun cl cs Stop Ret _=>?_;repeat refine .c1 L.terms1 rfl ?_
 refine .regionL L.terms1 [0,1,2,3,4] (by rfl) ?_;iterate 3 (refine .opV L.terms1 rfl (by rfl) hk ?_;try walk_nrm)
 refine .op rfl (by rfl) hk fun w1 hR K_ hK=>?_;replace hF:=hF.rely hR;clear hR;have hc3:World.cell? _ ⟨K.sb,i*4+3,none⟩=some (.bool (C i).anew):=(KnL.cell (r:=rowS' K fs) hF hx.s (j:=i*4+3) (by show _<K.sm;omega)).trans (congrArg some hc.anew);go_simp;try (unfold stored;go_simp)
 refine hK _ _ ⟨?_,?_⟩
 ·refine KnL.looks (r:=rowS' K fs) hF hx.s ?_;co_evs (exact ⟨_,rfl⟩)
 clear hK K_;clear hc3;try walk_nrm
 refine .opV L.terms1 rfl (by rfl) hk ?_;try walk_nrm
 repeat refine .c1 L.terms1 rfl ?_
 cases han:(C i).anew
 ·skip;refine GoesW.condF L.terms1 (by first|rfl|simp [Act.eval,han]) ?_;repeat refine .c1 L.terms1 rfl ?_
  refine .regionL L.terms1 [0,1,2,3,4,5] (by rfl) ?_;iterate 3 (refine .opV L.terms1 rfl (by rfl) hk ?_;try walk_nrm)
  refine .op rfl (by rfl) hk fun w1 hR K_ hK=>?_;replace hF:=hF.rely hR;clear hR;have hc1:World.cell? _ ⟨K.sb,i*4+1,none⟩=some (.int .i64 (C i).age):=(KnL.cell (r:=rowS' K fs) hF hx.s (j:=i*4+1) (by show _<K.sm;omega)).trans (congrArg some hc.age);go_simp;try (unfold stored;go_simp)
  refine hK _ _ ⟨?_,?_⟩
  ·refine KnL.looks (r:=rowS' K fs) hF hx.s ?_;co_evs (exact ⟨_,rfl⟩)
  clear hK K_;clear hc1;try walk_nrm
  iterate 2 (refine .opV L.terms1 rfl (by rfl) hk ?_;try walk_nrm)
  repeat refine .c1 L.terms1 rfl ?_
  by_cases hag:(C i).age=-1
  ·skip;refine GoesW.condF L.terms1 (by first|rfl|simp [Act.eval,hag]) ?_;repeat refine .c1 L.terms1 rfl ?_
   refine GoesW.fin L.terms1 ?_;have e:endS (C i)=C i:=by unfold endS;rw [if_neg (by rw [han];simp),if_pos hag]
   refine Ret _ [] _ _ rfl (resultsW_none L.terms1 (by rfl) _) ⟨rfl,rn,fun _=>⟨fq,fs,p,?_⟩,hF.drop⟩;rw [e,show uN C i (C i)=C from funext fun m=>by unfold uN;split<;>simp [*]];exact hx
  ·skip;refine GoesW.condT L.terms1 (by first|rfl|simp [Act.eval,hag]) ?_;repeat refine .c1 L.terms1 rfl ?_
   refine .regionL L.terms1 [0,1,2,3,4,5,6,7] (by rfl) ?_;iterate 3 (refine .opV L.terms1 rfl (by rfl) hk ?_;try walk_nrm)
   refine .op rfl (by rfl) hk fun w1 hR K_ hK=>?_;replace hF:=hF.rely hR;clear hR;have hc1:World.cell? _ ⟨K.sb,i*4+1,none⟩=some (.int .i64 (C i).age):=(KnL.cell (r:=rowS' K fs) hF hx.s (j:=i*4+1) (by show _<K.sm;omega)).trans (congrArg some hc.age);go_simp;try (unfold stored;go_simp)
   refine hK _ _ ⟨?_,?_⟩
   ·refine KnL.looks (r:=rowS' K fs) hF hx.s ?_;co_evs (exact ⟨_,rfl⟩)
   clear hK K_;clear hc1;try walk_nrm
   iterate 3 (refine .opV L.terms1 rfl (by rfl) hk ?_;try walk_nrm)
   refine .op rfl (by rfl) hk fun w1 hR K_ hK=>?_;replace hF:=hF.rely hR;clear hR;have hc1:World.cell? _ ⟨K.sb,i*4+1,none⟩=some (.int .i64 (C i).age):=(KnL.cell (r:=rowS' K fs) hF hx.s (j:=i*4+1) (by show _<K.sm;omega)).trans (congrArg some hc.age);have hz1:World.frozen? _ ⟨K.sb,i*4+1,none⟩=false:=KnL.frozen (r:=rowS' K fs) hF hx.s (i*4+1);go_simp;try (unfold stored;go_simp)
   refine hK _ _ ⟨?_,?_⟩
   ·refine KnL.does (r:=rowS' K fs) hF hx.s (i*4+1) _ ?_;co_evs (exact rfl)
   clear hK K_;clear hc1 hz1;replace hF:=Kn.set (r:=rowS' K fs) hF.drop hx.s (i*4+1) (.int .i64 (IntKind.i64.wrap ((C i).age+1)));try walk_nrm
   repeat refine .c1 L.terms1 rfl ?_
   refine GoesW.fin L.terms1 ?_;have e:endS (C i)={C i with age:=IntKind.i64.wrap ((C i).age+1)}:=by unfold endS;rw [if_neg (by rw [han];simp),if_neg hag]
   refine Ret _ [] _ _ rfl (resultsW_none L.terms1 (by rfl) _) ⟨rfl,_,fun _=>⟨fq,upd fs (i*4+1) (.int .i64 (IntKind.i64.wrap ((C i).age+1))),p,?_⟩,hF⟩;rw [e];exact hx.sample (g:=upd fs (i*4+1) (.int .i64 (IntKind.i64.wrap ((C i).age+1)))) hik rfl rfl rfl ((upd_ne _ _ (by omega)).trans hc.shown) (upd_same _ _ _) ((upd_ne _ _ (by omega)).trans hc.writ) ((upd_ne _ _ (by omega)).trans hc.anew) fun j hj=>upd_ne _ _ (by omega)
 ·skip;refine GoesW.condT L.terms1 (by first|rfl|simp [Act.eval,han]) ?_;repeat refine .c1 L.terms1 rfl ?_
  refine .regionL L.terms1 [0,1,2,3,4,5,6,7] (by rfl) ?_;iterate 4 (refine .opV L.terms1 rfl (by rfl) hk ?_;try walk_nrm)
  refine .op rfl (by rfl) hk fun w1 hR K_ hK=>?_;replace hF:=hF.rely hR;clear hR;have hc2:World.cell? _ ⟨K.sb,i*4+2,none⟩=some (.int .i64 (C i).writ):=(KnL.cell (r:=rowS' K fs) hF hx.s (j:=i*4+2) (by show _<K.sm;omega)).trans (congrArg some hc.writ);go_simp;try (unfold stored;go_simp)
  refine hK _ _ ⟨?_,?_⟩
  ·refine KnL.looks (r:=rowS' K fs) hF hx.s ?_;co_evs (exact ⟨_,rfl⟩)
  clear hK K_;clear hc2;try walk_nrm
  iterate 2 (refine .opV L.terms1 rfl (by rfl) hk ?_;try walk_nrm)
  refine .op rfl (by rfl) hk fun w1 hR K_ hK=>?_;replace hF:=hF.rely hR;clear hR;have hc0:World.cell? _ ⟨K.sb,i*4,none⟩=some (.int .i64 (C i).shown):=(KnL.cell (r:=rowS' K fs) hF hx.s (j:=i*4) (by show _<K.sm;omega)).trans (congrArg some hc.shown);have hc1:World.cell? _ ⟨K.sb,i*4+1,none⟩=some (.int .i64 (C i).age):=(KnL.cell (r:=rowS' K fs) hF hx.s (j:=i*4+1) (by show _<K.sm;omega)).trans (congrArg some hc.age);have hc2:World.cell? _ ⟨K.sb,i*4+2,none⟩=some (.int .i64 (C i).writ):=(KnL.cell (r:=rowS' K fs) hF hx.s (j:=i*4+2) (by show _<K.sm;omega)).trans (congrArg some hc.writ);have hc3:World.cell? _ ⟨K.sb,i*4+3,none⟩=some (.bool (C i).anew):=(KnL.cell (r:=rowS' K fs) hF hx.s (j:=i*4+3) (by show _<K.sm;omega)).trans (congrArg some hc.anew);have hz0:World.frozen? _ ⟨K.sb,i*4,none⟩=false:=KnL.frozen (r:=rowS' K fs) hF hx.s (i*4);have hz1:World.frozen? _ ⟨K.sb,i*4+1,none⟩=false:=KnL.frozen (r:=rowS' K fs) hF hx.s (i*4+1);have hz2:World.frozen? _ ⟨K.sb,i*4+2,none⟩=false:=KnL.frozen (r:=rowS' K fs) hF hx.s (i*4+2);have hz3:World.frozen? _ ⟨K.sb,i*4+3,none⟩=false:=KnL.frozen (r:=rowS' K fs) hF hx.s (i*4+3);go_simp;try (unfold stored;go_simp)
  refine hK _ _ ⟨?_,?_⟩
  ·refine (Kn.set4 (r:=rowS' K fs) (o:=i*4) hF.drop hx.s (.int .i64 (C i).writ) (.int .i64 0) (.int .i64 0) (.bool false)).2 ?_;(intro e he;have hm:=mem_listed he;simp [go_sem,ev_bl, *] at hm;rcases hm with rfl|rfl|rfl|rfl<;>exact ⟨_,_,rfl⟩)
  clear hK K_;clear hc0 hc1 hc2 hc3 hz0 hz1 hz2 hz3;replace hF:=(Kn.set4 (r:=rowS' K fs) (o:=i*4) hF.drop hx.s (.int .i64 (C i).writ) (.int .i64 0) (.int .i64 0) (.bool false)).1;try walk_nrm
  repeat refine .c1 L.terms1 rfl ?_
  refine GoesW.fin L.terms1 ?_;have e:endS (C i)={C i with shown:=(C i).writ,age:=0,writ:=0,anew:=false}:=by unfold endS;rw [if_pos han]
  refine Ret _ [] _ _ rfl (resultsW_none L.terms1 (by rfl) _) ⟨rfl,_,fun _=>⟨fq,upd (upd (upd (upd fs (i*4) (.int .i64 (C i).writ)) (i*4+1) (.int .i64 0)) (i*4+2) (.int .i64 0)) (i*4+3) (.bool false),p,?_⟩,hF⟩;rw [e];refine hx.sample hik rfl rfl rfl ?_ ?_ ?_ ?_ fun j hj=>?_
  ·show upd (upd (upd (upd fs (i*4) _) (i*4+1) _) (i*4+2) _) (i*4+3) _ (i*4)=_;rw [upd_ne _ _ (by omega),upd_ne _ _ (by omega),upd_ne _ _ (by omega),upd_same]
  ·show upd (upd (upd (upd fs (i*4) _) (i*4+1) _) (i*4+2) _) (i*4+3) _ (i*4+1)=_;rw [upd_ne _ _ (by omega),upd_ne _ _ (by omega),upd_same]
  ·show upd (upd (upd (upd fs (i*4) _) (i*4+1) _) (i*4+2) _) (i*4+3) _ (i*4+2)=_;rw [upd_ne _ _ (by omega),upd_same]
  ·show upd (upd (upd (upd fs (i*4) _) (i*4+1) _) (i*4+2) _) (i*4+3) _ (i*4+3)=_;rw [upd_same]
  ·show upd (upd (upd (upd fs (i*4) _) (i*4+1) _) (i*4+2) _) (i*4+3) _ j=_;rw [upd_ne _ _ (by omega),upd_ne _ _ (by omega),upd_ne _ _ (by omega),upd_ne _ _ (by omega)]
end
noncomputable def efBody1:Code:=match Try.f35.body with
 |some (.seq (.seq _ (.block _ (.loop c))) _)=>c
 |_=>.skip
noncomputable def efRest:Code:=match Try.f35.body with
 |some (.seq _ c)=>c
 |_=>.skip
noncomputable def efBody2:Code:=match Try.f35.body with
 |some (.seq _ (.seq _ (.block _ (.loop c))))=>c
 |_=>.skip
section
variable {L:Lot} {w0:World} {K:NetK} {cq cs_:Nat}
theorem ef_loop1 (hev:((2:Nat)==L.ev)=false) (hW:NetW L w0 K) (hk0:0<K.k) (n1:w0.cell? ⟨K.nb,1,none⟩=some (.slice (some ⟨K.qb,0,none⟩) K.k cq)) {C:Nat→Chn} (hl:∀i,i<K.k→(C i).sent.length≤1000000000∧(C i).wait.length≤4) {Stop:Goroutine→World→Prop} (cs:List Frame)
  (Ret:∀(rn:List Row) (w':World) (u1 u2 u3 u10 u11 u12 u13 u14 u15 u16 u17 u18 u19 u20 u21 u22 u23 u24 u25 u26 u27 u28 u29 u30 u31 u32 u33 u34 u35:Value),NR K rn (firstC K.k endQ C)→KnL L w0 rn [] w'→GoesW Try.prog true L.R1 L.D1 Stop (G ((base 35).at {tmps:=#[.pointer (some ⟨K.nb,0,none⟩),u1,u2,u3,.pointer (some ⟨K.nb,0,none⟩),.pointer (some ⟨K.nb,0,none⟩),.pointer (some ⟨K.nb,1,none⟩),.slice (some ⟨K.qb,0,none⟩) K.k cq,.int .i64 K.k,.int .i64 K.k,u10,u11,u12,u13,u14,u15,u16,u17,u18,u19,u20,u21,u22,u23,u24,u25,u26,u27,u28,u29,u30,u31,u32,u33,u34,u35],defers:=[]} [.code efRest]) cs) w'):
  ∀(rem i:Nat) (rn:List Row) (w:World) (u1 u2 u3 u10 u11 u12 u13 u14 u15 u16 u17 u18 u19 u20 u21 u22 u23 u24 u25 u26 u27 u28 u29 u30 u31 u32 u33 u34 u35:Value),i+rem=K.k→NR K rn (firstC i endQ C)→KnL L w0 rn [] w→
   GoesW Try.prog true L.R1 L.D1 Stop (G ((base 35).at {tmps:=#[.pointer (some ⟨K.nb,0,none⟩),u1,u2,u3,.pointer (some ⟨K.nb,0,none⟩),.pointer (some ⟨K.nb,0,none⟩),.pointer (some ⟨K.nb,1,none⟩),.slice (some ⟨K.qb,0,none⟩) K.k cq,.int .i64 K.k,.int .i64 i,u10,u11,u12,u13,u14,u15,u16,u17,u18,u19,u20,u21,u22,u23,u24,u25,u26,u27,u28,u29,u30,u31,u32,u33,u34,u35],defers:=[]} [.code efBody1,.inLoop efBody1,.inBlock 0,.code efRest]) cs) w:=by
 have hk:(base 35).kind≠.early:=by simp [base]
 have hk8:=hW.hk;intro rem;induction rem with
 |zero=>
  intro i rn w u1 u2 u3 u10 u11 u12 u13 u14 u15 u16 u17 u18 u19 u20 u21 u22 u23 u24 u25 u26 u27 u28 u29 u30 u31 u32 u33 u34 u35 hi hN hF;obtain rfl:i=K.k:=by omega
  repeat refine .c1 L.terms1 rfl ?_
  refine .regionL L.terms1 [0] (by rfl) ?_;refine .opV L.terms1 rfl (by rfl) hk ?_;try walk_nrm
  repeat refine .c1 L.terms1 rfl ?_
  refine GoesW.condF L.terms1 (by first|rfl|simp [Act.eval]) ?_;refine GoesW.exit L.terms1 (by rfl) ?_;exact Ret rn _ _ _ _ _ _ _ _ _ _ _ _ _ _ _ _ _ _ _ _ _ _ _ _ _ _ _ _ _ _ hN hF
 |succ rem ih=>
  intro i rn w u1 u2 u3 u10 u11 u12 u13 u14 u15 u16 u17 u18 u19 u20 u21 u22 u23 u24 u25 u26 u27 u28 u29 u30 u31 u32 u33 u34 u35 hi hN hF;have hlt:i<K.k:=by omega
  have hli:(i:Int)<(K.k:Int):=by omega
  have hwr:IntKind.i64.wrap ((i:Int)+1)=((i+1:Nat):Int):=by rw [IntKind.wrap_i64];omega
  repeat refine .c1 L.terms1 rfl ?_
  refine .regionL L.terms1 [0] (by rfl) ?_;refine .opV L.terms1 rfl (by rfl) hk ?_;try walk_nrm
  repeat refine .c1 L.terms1 rfl ?_
  refine GoesW.condT L.terms1 (by first|rfl|simp [Act.eval,hli]) ?_;repeat refine .c1 L.terms1 rfl ?_
  refine .regionL L.terms1 [0,1] (by rfl) ?_;iterate 2 (refine .opV L.terms1 rfl (by rfl) hk ?_;try walk_nrm)
  repeat refine .c1 L.terms1 rfl ?_
  refine .regionL L.terms1 [0,1,2,3,4,5,6] (by rfl) ?_;iterate 3 (refine .opV L.terms1 rfl (by rfl) hk ?_;try walk_nrm)
  refine .op rfl (by rfl) hk fun w1 hR K_ hK=>?_;replace hF:=hF.rely hR;clear hR;have hn1:World.cell? _ ⟨K.nb,1,none⟩=some (.slice (some ⟨K.qb,0,none⟩) K.k cq):=(hF.stillCell hW.sn).trans n1;go_simp;try (unfold stored;go_simp)
  refine hK _ _ ⟨?_,?_⟩
  ·refine hF.stillLooks hW.sn ?_;co_evs (exact ⟨_,rfl⟩)
  clear hK K_;clear hn1;try walk_nrm
  refine .opV L.terms1 rfl (by rfl) hk ?_;try walk_nrm
  refine .op rfl (by rfl) hk fun w1 hR K_ hK=>?_;replace hF:=hF.rely hR;clear hR;go_simp;try (unfold stored;go_simp)
  refine hK _ _ ⟨?_,?_⟩
  ·co_still L.terms1
  clear hK K_;try walk_nrm
  refine GoesW.callX L.terms1 rfl (by rfl) hk rfl Try.func57 (by rfl) rfl #[.pointer (some ⟨K.qb,i*3,none⟩)] (by kernel_rfl) (qend_x hev hlt hW.hqm hN (by rw [firstC_at];exact (hl i hlt).1) (by rw [firstC_at];exact (hl i hlt).2) _ hF.drop) ?_ (fun _ _ _ h=>h.elim);rintro v w2 ⟨rfl,rn2,hN2,hF2⟩;rw [firstC_at,←firstC_succ] at hN2;replace hF:=hF2.lay;clear hF2;try walk_nrm
  repeat refine .c1 L.terms1 rfl ?_
  refine .regionL L.terms1 [0,1] (by rfl) ?_;iterate 2 (refine .opV L.terms1 rfl (by rfl) hk ?_;try walk_nrm)
  repeat refine .c1 L.terms1 rfl ?_
  refine GoesW.inLoop L.terms1 ?_;exact ih (i+1) rn2 _ _ _ _ _ _ _ _ _ _ _ _ _ _ _ _ _ _ _ _ _ _ _ _ _ _ _ _ _ _ (by omega) hN2 hF
theorem ef_loop2 (hW:NetW L w0 K) (hk0:0<K.k) (n2:w0.cell? ⟨K.nb,2,none⟩=some (.slice (some ⟨K.sb,0,none⟩) K.k cs_)) {C:Nat→Chn} {Stop:Goroutine→World→Prop} (cs:List Frame)
  (Ret:∀(a:Act) (todo:List Item) (w':World) (v:Value),a.defers=[]→ResultsW Try.prog L.R1 L.D1 35 Try.f35 a.tmps w' v→(v=.tuple #[]∧∃rn',NR K rn' (firstC K.k endS C)∧Kn L w0 rn' w')→GoesW Try.prog true L.R1 L.D1 Stop (G {(base 35).at a todo with mode:=.returning} cs) w'):
  ∀(rem i:Nat) (rn:List Row) (w:World) (u1 u2 u3 u4 u5 u6 u7 u8 u9 u10 u11 u12 u13 u14 u15 u16 u17 u18 u19 u26 u27 u28 u29 u30 u31 u32 u33 u34 u35:Value),i+rem=K.k→NR K rn (firstC i endS C)→KnL L w0 rn [] w→
   GoesW Try.prog true L.R1 L.D1 Stop (G ((base 35).at {tmps:=#[.pointer (some ⟨K.nb,0,none⟩),u1,u2,u3,u4,u5,u6,u7,u8,u9,u10,u11,u12,u13,u14,u15,u16,u17,u18,u19,.pointer (some ⟨K.nb,0,none⟩),.pointer (some ⟨K.nb,0,none⟩),.pointer (some ⟨K.nb,2,none⟩),.slice (some ⟨K.sb,0,none⟩) K.k cs_,.int .i64 K.k,.int .i64 i,u26,u27,u28,u29,u30,u31,u32,u33,u34,u35],defers:=[]} [.code efBody2,.inLoop efBody2,.inBlock 2]) cs) w:=by
 have hk:(base 35).kind≠.early:=by simp [base]
 have hk8:=hW.hk;intro rem;induction rem with
 |zero=>
  intro i rn w u1 u2 u3 u4 u5 u6 u7 u8 u9 u10 u11 u12 u13 u14 u15 u16 u17 u18 u19 u26 u27 u28 u29 u30 u31 u32 u33 u34 u35 hi hN hF;obtain rfl:i=K.k:=by omega
  repeat refine .c1 L.terms1 rfl ?_
  refine .regionL L.terms1 [0] (by rfl) ?_;refine .opV L.terms1 rfl (by rfl) hk ?_;try walk_nrm
  repeat refine .c1 L.terms1 rfl ?_
  refine GoesW.condF L.terms1 (by first|rfl|simp [Act.eval]) ?_;refine GoesW.exit L.terms1 (by rfl) ?_;repeat refine .c1 L.terms1 rfl ?_
  refine GoesW.fin L.terms1 ?_;exact Ret _ [] _ _ rfl (resultsW_none L.terms1 (by rfl) _) ⟨rfl,rn,hN,hF.drop⟩
 |succ rem ih=>
  intro i rn w u1 u2 u3 u4 u5 u6 u7 u8 u9 u10 u11 u12 u13 u14 u15 u16 u17 u18 u19 u26 u27 u28 u29 u30 u31 u32 u33 u34 u35 hi hN hF;have hlt:i<K.k:=by omega
  have hli:(i:Int)<(K.k:Int):=by omega
  have hwr:IntKind.i64.wrap ((i:Int)+1)=((i+1:Nat):Int):=by rw [IntKind.wrap_i64];omega
  repeat refine .c1 L.terms1 rfl ?_
  refine .regionL L.terms1 [0] (by rfl) ?_;refine .opV L.terms1 rfl (by rfl) hk ?_;try walk_nrm
  repeat refine .c1 L.terms1 rfl ?_
  refine GoesW.condT L.terms1 (by first|rfl|simp [Act.eval,hli]) ?_;repeat refine .c1 L.terms1 rfl ?_
  refine .regionL L.terms1 [0,1] (by rfl) ?_;iterate 2 (refine .opV L.terms1 rfl (by rfl) hk ?_;try walk_nrm)
  repeat refine .c1 L.terms1 rfl ?_
  refine .regionL L.terms1 [0,1,2,3,4,5,6] (by rfl) ?_;iterate 3 (refine .opV L.terms1 rfl (by rfl) hk ?_;try walk_nrm)
  refine .op rfl (by rfl) hk fun w1 hR K_ hK=>?_;replace hF:=hF.rely hR;clear hR;have hn2:World.cell? _ ⟨K.nb,2,none⟩=some (.slice (some ⟨K.sb,0,none⟩) K.k cs_):=(hF.stillCell hW.sn).trans n2;go_simp;try (unfold stored;go_simp)
  refine hK _ _ ⟨?_,?_⟩
  ·refine hF.stillLooks hW.sn ?_;co_evs (exact ⟨_,rfl⟩)
  clear hK K_;clear hn2;try walk_nrm
  refine .opV L.terms1 rfl (by rfl) hk ?_;try walk_nrm
  refine .op rfl (by rfl) hk fun w1 hR K_ hK=>?_;replace hF:=hF.rely hR;clear hR;go_simp;try (unfold stored;go_simp)
  refine hK _ _ ⟨?_,?_⟩
  ·co_still L.terms1
  clear hK K_;try walk_nrm
  refine GoesW.callX L.terms1 rfl (by rfl) hk rfl Try.func58 (by rfl) rfl #[.pointer (some ⟨K.sb,i*4,none⟩)] (by kernel_rfl) (send_end_x hlt hW.hsm hN _ hF.drop) ?_ (fun _ _ _ h=>h.elim);rintro v w2 ⟨rfl,rn2,hN2,hF2⟩;rw [firstC_at,←firstC_succ] at hN2;replace hF:=hF2.lay;clear hF2;try walk_nrm
  repeat refine .c1 L.terms1 rfl ?_
  refine .regionL L.terms1 [0,1] (by rfl) ?_;iterate 2 (refine .opV L.terms1 rfl (by rfl) hk ?_;try walk_nrm)
  repeat refine .c1 L.terms1 rfl ?_
  refine GoesW.inLoop L.terms1 ?_;exact ih (i+1) rn2 _ _ _ _ _ _ _ _ _ _ _ _ _ _ _ _ _ _ _ _ _ _ _ _ _ _ _ _ _ _ (by omega) hN2 hF
theorem endFrame_x (hev:((2:Nat)==L.ev)=false) (hW:NetW L w0 K) (hk0:0<K.k) {rn:List Row} {C:Nat→Chn} (hl:∀i,i<K.k→(C i).sent.length≤1000000000∧(C i).wait.length≤4) (hN:NR K rn C) (w:World) (hF:Kn L w0 rn w):
  CallsX Try.prog true L.R1 L.D1 35 #[.pointer (some ⟨K.nb,0,none⟩)] w (fun v w'=>v=.tuple #[]∧∃rn',NR K rn' (endC K.k C)∧Kn L w0 rn' w') (fun _ _=>False):=by
 obtain ⟨cq,n1⟩:=hW.n1 hk0;obtain ⟨cs_,n2⟩:=hW.n2 hk0;replace hF:=hF.lay;have hk:(base 35).kind≠.early:=by simp [base]
 refine CallsX.intro L.terms1 #[.pointer (some ⟨K.nb,0,none⟩),undef,undef,undef,undef,undef,undef,undef,undef,undef,undef,undef,undef,undef,undef,undef,undef,undef,undef,undef,undef,undef,undef,undef,undef,undef,undef,undef,undef,undef,undef,undef,undef,undef,undef,undef] Try.func35 rfl (by kernel_rfl) fun cl cs Stop Ret _=>?_;repeat refine .c1 L.terms1 rfl ?_
 refine .regionL L.terms1 [0,1,2,3,4,5] (by rfl) ?_;iterate 3 (refine .opV L.terms1 rfl (by rfl) hk ?_;try walk_nrm)
 refine .op rfl (by rfl) hk fun w1 hR K_ hK=>?_;replace hF:=hF.rely hR;clear hR;have hn1:World.cell? _ ⟨K.nb,1,none⟩=some (.slice (some ⟨K.qb,0,none⟩) K.k cq):=(hF.stillCell hW.sn).trans n1;go_simp;try (unfold stored;go_simp)
 refine hK _ _ ⟨?_,?_⟩
 ·refine hF.stillLooks hW.sn ?_;co_evs (exact ⟨_,rfl⟩)
 clear hK K_;clear hn1;try walk_nrm
 iterate 2 (refine .opV L.terms1 rfl (by rfl) hk ?_;try walk_nrm)
 repeat refine .c1 L.terms1 rfl ?_
 refine GoesW.loop L.terms1 ?_;refine ef_loop1 hev hW hk0 n1 hl _ (fun rn w' u1 u2 u3 u10 u11 u12 u13 u14 u15 u16 u17 u18 u19 u20 u21 u22 u23 u24 u25 u26 u27 u28 u29 u30 u31 u32 u33 u34 u35 hN hF=>?_) K.k 0 rn _ _ _ _ _ _ _ _ _ _ _ _ _ _ _ _ _ _ _ _ _ _ _ _ _ _ _ _ _ _ (by omega) (by rw [firstC_zero];exact hN) hF;try walk_nrm
 repeat refine .c1 L.terms1 rfl ?_
 refine .regionL L.terms1 [0,1,2,3,4,5] (by rfl) ?_;iterate 3 (refine .opV L.terms1 rfl (by rfl) hk ?_;try walk_nrm)
 refine .op rfl (by rfl) hk fun w1 hR K_ hK=>?_;replace hF:=hF.rely hR;clear hR;have hn2:World.cell? _ ⟨K.nb,2,none⟩=some (.slice (some ⟨K.sb,0,none⟩) K.k cs_):=(hF.stillCell hW.sn).trans n2;go_simp;try (unfold stored;go_simp)
 refine hK _ _ ⟨?_,?_⟩
 ·refine hF.stillLooks hW.sn ?_;co_evs (exact ⟨_,rfl⟩)
 clear hK K_;clear hn2;try walk_nrm
 iterate 2 (refine .opV L.terms1 rfl (by rfl) hk ?_;try walk_nrm)
 repeat refine .c1 L.terms1 rfl ?_
 refine GoesW.loop L.terms1 ?_;exact ef_loop2 hW hk0 n2 _ Ret K.k 0 rn _ _ _ _ _ _ _ _ _ _ _ _ _ _ _ _ _ _ _ _ _ _ _ _ _ _ _ _ _ _ (by omega) (by rw [firstC_zero];exact hN) hF
end
section
variable {L:Lot} {w0:World} {rows:List Row} {ic g cb co n cc:Nat} {num:Int} {net:Value} {z ci:Nat→Int}
theorem step_at {FS:World→Prop} (hev:((73:Nat)==L.ev)=false) (hi:rows[ic]?=some (cellRow g num net (codeV cb co n cc) z)) (hs:Still L w0 cb) (hcode:∀j,j<n*4→w0.cell? ⟨cb,co+j,none⟩=some (.int .i64 (ci j))) (hn:n≤48) (hok:∀k:Nat,z 45=(k:Int)→k<n→((0≤ci (k*4)∧ci (k*4)≤9)∨ci (k*4)=15)∧(0≤ci (k*4+1)∧ci (k*4+1)<4)∧(0≤ci (k*4+2)∧ci (k*4+2)<4)∧(ci (k*4)=8∨ci (k*4)=9→0≤ci (k*4+3)∧ci (k*4+3)<n)) (h45:0≤z 45∧z 45≤n) (inV:Value) (w:World) (hF:Kn L w0 rows w):
  CallsE Try.prog L FS 83 #[.pointer (some ⟨g,0,none⟩),inV,.chan (some L.c)] w (stepF n ci z).sent
   (fun v w'=>∃op e z',stepF n ci z=.on op e z'∧v=.int .i64 op∧Kn L w0 (rows.set ic (cellRow g num net (codeV cb co n cc) z')) w')
   (fun ch w'=>∃y z',stepF n ci z=.broke y z'∧ch=brk y∧Kn L w0 (rows.set ic (cellRow g num net (codeV cb co n cc) z')) w'):=by
 by_cases hz:z 45=n
 ·have e:stepF n ci z=.broke 3 (zset z 46 (IntKind.i64.wrap (z 46+1))):=by unfold stepF;rw [if_pos hz]
  exact (step_dieEnd hev hi hz inV _ w hF).quiet.mono (by rw [e];rfl) (fun _ _ h=>h.elim) fun ch w' h=>⟨3,_,e,h.1,h.2⟩
 ·obtain ⟨nx,hnx⟩:∃nx:Nat,z 45=nx:=⟨(z 45).toNat,by omega⟩;have hlt:nx<n:=by omega
  have ht:(z 45).toNat=nx:=by omega
  obtain ⟨ho,⟨r0,r4⟩,⟨a0,a4⟩,hj⟩:=hok nx hnx hlt;obtain ⟨R,hR⟩:∃R:Nat,ci (nx*4+1)=R:=⟨(ci (nx*4+1)).toNat,by omega⟩;obtain ⟨A,hA⟩:∃A:Nat,ci (nx*4+2)=A:=⟨(ci (nx*4+2)).toNat,by omega⟩;have hRt:(ci (nx*4+1)).toNat=R:=by omega
  have hAt:(ci (nx*4+2)).toNat=A:=by omega
  have hR4:R<4:=by omega
  have hA4:A<4:=by omega
  have hf:fetchedZ z=zset (zset z 46 (IntKind.i64.wrap (z 46+1))) 45 ((nx:Int)+1):=by unfold fetchedZ;rw [ht]
  have hops:ci (nx*4)=0∨ci (nx*4)=1∨ci (nx*4)=2∨ci (nx*4)=3∨ci (nx*4)=4∨ci (nx*4)=5∨ci (nx*4)=6∨ci (nx*4)=7∨ci (nx*4)=8∨ci (nx*4)=9∨ci (nx*4)=15:=by omega
  rcases hops with h|h|h|h|h|h|h|h|h|h|h
  ·have e:stepF n ci z=.on 0 none (fetchedZ z):=by simp [stepF,hz,ht,h]
   exact (step_yield hev hi hs hcode nx hnx hlt hn R A hR4 hA4 h hR hA _ rfl inV _ w hF).quiet.mono (by rw [e];rfl) (fun v w' x=>⟨0,none,_,e,x.1,by rw [hf];exact x.2⟩) (fun _ _ x=>x.elim)
  ·have e:stepF n ci z=.on 1 none (zset (fetchedZ z) (25+R) (ci (nx*4+3))):=by simp [stepF,hz,ht,h,hRt]
   exact (step_set hev hi hs hcode nx hnx hlt hn R A hR4 hA4 h hR hA _ rfl inV _ w hF).quiet.mono (by rw [e];rfl) (fun v w' x=>⟨1,none,_,e,x.1,by rw [hf];exact x.2⟩) (fun _ _ x=>x.elim)
  ·have e:stepF n ci z=.on 2 none (zset (fetchedZ z) (25+R) (IntKind.i64.wrap (fetchedZ z (25+R)+fetchedZ z (25+A)))):=by simp [stepF,hz,ht,h,hRt,hAt]
   exact (step_add hev hi hs hcode nx hnx hlt hn R A hR4 hA4 h hR hA _ rfl inV _ w hF).quiet.mono (by rw [e];rfl) (fun v w' x=>⟨2,none,_,e,x.1,by rw [hf];exact x.2⟩) (fun _ _ x=>x.elim)
  ·have e:stepF n ci z=.on 3 none (zset (fetchedZ z) (25+R) (IntKind.i64.wrap (fetchedZ z (25+R)-fetchedZ z (25+A)))):=by simp [stepF,hz,ht,h,hRt,hAt]
   exact (step_sub hev hi hs hcode nx hnx hlt hn R A hR4 hA4 h hR hA _ rfl inV _ w hF).quiet.mono (by rw [e];rfl) (fun v w' x=>⟨3,none,_,e,x.1,by rw [hf];exact x.2⟩) (fun _ _ x=>x.elim)
  ·have e:stepF n ci z=.on 4 none (zset (fetchedZ z) (25+R) (IntKind.i64.wrap (fetchedZ z (25+R)*fetchedZ z (25+A)))):=by simp [stepF,hz,ht,h,hRt,hAt]
   exact (step_mul hev hi hs hcode nx hnx hlt hn R A hR4 hA4 h hR hA _ rfl inV _ w hF).quiet.mono (by rw [e];rfl) (fun v w' x=>⟨4,none,_,e,x.1,by rw [hf];exact x.2⟩) (fun _ _ x=>x.elim)
  ·by_cases h0:fetchedZ z (25+A)=0
   ·have e:stepF n ci z=.broke 1 (fetchedZ z):=by simp [stepF,hz,ht,h,hAt,h0]
    exact (step_dieDiv hev hi hs hcode nx hnx hlt hn R A hR4 hA4 h hR hA _ rfl (by rw [←hf];exact h0) inV _ w hF).quiet.mono (by rw [e];rfl) (fun _ _ x=>x.elim) (fun ch w' x=>⟨1,_,e,x.1,by rw [hf];exact x.2⟩)
   ·have e:stepF n ci z=.on 5 none (zset (fetchedZ z) (25+R) (IntKind.i64.wrap ((fetchedZ z (25+R)).tdiv (fetchedZ z (25+A))))):=by simp [stepF,hz,ht,h,hRt,hAt,h0]
    exact (step_div hev hi hs hcode nx hnx hlt hn R A hR4 hA4 h hR hA _ rfl (by rw [←hf];exact h0) inV _ w hF).quiet.mono (by rw [e];rfl) (fun v w' x=>⟨5,none,_,e,x.1,by rw [hf];exact x.2⟩) (fun _ _ x=>x.elim)
  ·by_cases h0:fetchedZ z (25+A)<0∨16≤fetchedZ z (25+A)
   ·have e:stepF n ci z=.broke 2 (fetchedZ z):=by simp [stepF,hz,ht,h,hAt,h0]
    exact (step_dieLoad hev hi hs hcode nx hnx hlt hn R A hR4 hA4 h hR hA _ rfl (by rw [←hf];exact h0) inV _ w hF).quiet.mono (by rw [e];rfl) (fun _ _ x=>x.elim) (fun ch w' x=>⟨2,_,e,x.1,by rw [hf];exact x.2⟩)
   ·have e:stepF n ci z=.on 6 none (zset (fetchedZ z) (25+R) (fetchedZ z (29+(fetchedZ z (25+A)).toNat))):=by simp [stepF,hz,ht,h,hRt,hAt,h0]
    exact (step_load hev hi hs hcode nx hnx hlt hn R A hR4 hA4 h hR hA _ rfl (fetchedZ z (25+A)).toNat (by omega) (by rw [←hf];omega) inV _ w hF).quiet.mono (by rw [e];rfl) (fun v w' x=>⟨6,none,_,e,x.1,by rw [←hf] at x;exact x.2⟩) (fun _ _ x=>x.elim)
  ·by_cases h0:fetchedZ z (25+A)<0∨16≤fetchedZ z (25+A)
   ·have e:stepF n ci z=.broke 2 (fetchedZ z):=by simp [stepF,hz,ht,h,hAt,h0]
    exact (step_dieStore hev hi hs hcode nx hnx hlt hn R A hR4 hA4 h hR hA _ rfl (by rw [←hf];exact h0) inV _ w hF).quiet.mono (by rw [e];rfl) (fun _ _ x=>x.elim) (fun ch w' x=>⟨2,_,e,x.1,by rw [hf];exact x.2⟩)
   ·have e:stepF n ci z=.on 7 none (zset (fetchedZ z) (29+(fetchedZ z (25+A)).toNat) (fetchedZ z (25+R))):=by simp [stepF,hz,ht,h,hRt,hAt,h0]
    exact (step_store hev hi hs hcode nx hnx hlt hn R A hR4 hA4 h hR hA _ rfl (fetchedZ z (25+A)).toNat (by omega) (by rw [←hf];omega) inV _ w hF).quiet.mono (by rw [e];rfl) (fun v w' x=>⟨7,none,_,e,x.1,by rw [←hf] at x;exact x.2⟩) (fun _ _ x=>x.elim)
  ·have e:stepF n ci z=.on 8 none (zset (fetchedZ z) 45 (ci (nx*4+3))):=by simp [stepF,hz,ht,h]
   exact (step_jump hev hi hs hcode nx hnx hlt hn R A hR4 hA4 h hR hA _ rfl inV _ w hF).quiet.mono (by rw [e];rfl) (fun v w' x=>⟨8,none,_,e,x.1,by rw [hf];exact x.2⟩) (fun _ _ x=>x.elim)
  ·by_cases h0:fetchedZ z (25+R)=0
   ·have e:stepF n ci z=.on 9 none (zset (fetchedZ z) 45 (ci (nx*4+3))):=by simp [stepF,hz,ht,h,hRt,h0]
    exact (step_zero hev hi hs hcode nx hnx hlt hn R A hR4 hA4 h hR hA _ rfl (by rw [←hf];exact h0) inV _ w hF).quiet.mono (by rw [e];rfl) (fun v w' x=>⟨9,none,_,e,x.1,by rw [hf];exact x.2⟩) (fun _ _ x=>x.elim)
   ·have e:stepF n ci z=.on 9 none (fetchedZ z):=by simp [stepF,hz,ht,h,hRt,h0]
    exact (step_zeroN hev hi hs hcode nx hnx hlt hn R A hR4 hA4 h hR hA _ rfl (by rw [←hf];exact h0) inV _ w hF).quiet.mono (by rw [e];rfl) (fun v w' x=>⟨9,none,_,e,x.1,by rw [hf];exact x.2⟩) (fun _ _ x=>x.elim)
  ·have e:stepF n ci z=.on 15 (some (fetchedZ z (25+R))) (fetchedZ z):=by simp [stepF,hz,ht,h,hRt]
   exact (step_log hev hi hs hcode nx hnx hlt hn R A hR4 hA4 h hR hA _ rfl inV w hF).mono (by rw [e,hf];rfl) (fun v w' x=>⟨15,_,_,e,x.1,by rw [hf];exact x.2⟩) (fun _ _ x=>x.elim)
end
end Go.Proofs.Ytdoghgnifkgfdaa.Mute
