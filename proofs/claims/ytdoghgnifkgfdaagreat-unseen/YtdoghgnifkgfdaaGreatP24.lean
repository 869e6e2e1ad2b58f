import Derived.Test.YtdoghgnifkgfdaaGreatP23
set_option maxRecDepth 100000
set_option maxHeartbeats 16000000
namespace Go.Proofs.YtdoghgnifkgfdaaGreat.Mute
open Go Go.Conc Go.RowKit
section
variable {L:Lot} {w0:World} {rows:List Row} {ic g cb co n cc:Nat} {num:Int} {net:Value} {z ci:Nat→Int}
theorem Y6k (hev:((97:Nat)==L.ev)=false) (hi:rows[ic]?=some (Y5 g num net (.slice (some ⟨cb,co,none⟩) n cc) z)) (hs:Still L w0 cb) (hcode:∀j,j<n*4→w0.cell? ⟨cb,co+j,none⟩=some (.int .i64 (ci j))) (nx:Nat) (hz:z 45=nx) (hlt:nx<n) (hn:n≤48) (w:World) (hF:Kn L w0 rows w):
  Yl Tryz.prog false L.R1 L.D1 126 #[.pointer (some ⟨g,0,none⟩)] w (fun v w'=>v=.agg #[.int .i64 (ci (nx*4)),.int .i64 (ci (nx*4+1)),.int .i64 (ci (nx*4+2)),.int .i64 (ci (nx*4+3))]∧Kn L w0 (rows.set ic (Y5 g num net (.slice (some ⟨cb,co,none⟩) n cc) (zset z 45 (nx+1)))) w') (fun _ _=>False):=by
 replace hF:=hF.lay;have hk:(base 126).kind≠.early:=by simp [base]
 refine Yl.intro L.terms1 #[.pointer (some ⟨g,0,none⟩),undef,undef,undef,undef,undef,undef,undef,undef,undef,undef,undef,undef,undef,undef,undef,undef,undef,undef,undef,undef,undef,undef,undef,undef,undef,undef,undef,undef,undef,undef,undef,undef,undef,undef,undef,undef] Tryz.func126 rfl (by kernel_rfl) fun cl cs Stop Ret _=>?_;repeat refine .c1 L.terms1 rfl ?_
 refine .regionL L.terms1 [0] (by rfl) ?_;refine .op rfl (by rfl) hk fun w1 hR K hK=>?_;replace hF:=hF.rely hR;clear hR;go_simp;try (unfold stored;go_simp)
 refine hK _ _ ⟨?_,?_⟩
 ·refine hF.doesAlloc _ ?_;(intro e he;have hm:=mem_listed he;simp [go_sem, *] at hm)
 clear hK K;replace hF:KnL L w0 rows [Yt w1.heap.size 0 0 0 0] _:=hF.newIns hev 0 0 0 0;generalize hN:w1.heap.size=N at *;generalize hW:(w1.alloc (.cells #[.int .i64 0,.int .i64 0,.int .i64 0,.int .i64 0] 97))=w2 at *;clear hW hN w1;try walk_nrm
 repeat refine .c1 L.terms1 rfl ?_
 refine Y1.drawnN (S:=KnL L w0 rows [Yt N 0 0 0 0]) (Die:=fun _ _=>False) L.terms1 L.draws1 11 (by rfl) hk (by kernel_rfl) (fun _ _ _ h=>h) (fun _ _ _ h=>h.elim) fun w1 hR=>?_;replace hF:=(hF.rely hR).rely (Turn.drew _);clear hR;refine Y4 L.terms1 0 (fun _ _ h r=>KnL.rely h r) hF ?_;try walk_nrm
 refine Y4 L.terms1 1 (fun _ _ h r=>KnL.rely h r) hF ?_;try walk_nrm
 refine Y4 L.terms1 2 (fun _ _ h r=>KnL.rely h r) hF ?_;try walk_nrm
 refine Y4 L.terms1 3 (fun _ _ h r=>KnL.rely h r) hF ?_;try walk_nrm
 refine Ye L.terms1 4 rfl (fun _ _ h r=>KnL.rely h r) hF ?_ fun _ hw=>⟨run_eq_of (by
  intro K hK;have hc:World.cell? _ ⟨g,45,none⟩=some (.int .i64 (z 45)):=hw.cellZ hi (by omega) (by omega);rw [hz] at hc;go_simp;exact hK),by
  have hc:World.cell? _ ⟨g,45,none⟩=some (.int .i64 (z 45)):=hw.cellZ hi (by omega) (by omega);rw [hz] at hc;refine hw.looks hi ?_;co_evs (exact ⟨_,rfl⟩)⟩
 try walk_nrm
 refine Y4 L.terms1 5 (fun _ _ h r=>KnL.rely h r) hF ?_;try walk_nrm
 refine Y4 L.terms1 6 (fun _ _ h r=>KnL.rely h r) hF ?_;try walk_nrm
 refine Y4 L.terms1 7 (fun _ _ h r=>KnL.rely h r) hF ?_;try walk_nrm
 refine Ye L.terms1 8 rfl (fun _ _ h r=>KnL.rely h r) hF ?_ fun _ hw=>⟨run_eq_of (by
  intro K hK;have hc:World.cell? _ ⟨g,2,none⟩=some (.slice (some ⟨cb,co,none⟩) n cc):=hw.cell hi (show 2<48 by omega);go_simp;exact hK),by
  have hc:World.cell? _ ⟨g,2,none⟩=some (.slice (some ⟨cb,co,none⟩) n cc):=hw.cell hi (show 2<48 by omega);refine hw.looks hi ?_;co_evs (exact ⟨_,rfl⟩)⟩
 try walk_nrm
 refine Y4 L.terms1 9 (fun _ _ h r=>KnL.rely h r) hF ?_;try walk_nrm
 refine Y4 L.terms1 10 (fun _ _ h r=>KnL.rely h r) hF ?_;try walk_nrm
 refine Xi (by first|kernel_rfl|decide +kernel) ?_ _;have hne:((nx:Int)==(n:Int))=false:=by simp;omega
 repeat refine .c1 L.terms1 rfl ?_
 refine Y1.condF L.terms1 (by simp [Act.eval,hne]) ?_;repeat refine .c1 L.terms1 rfl ?_
 refine Y1.drawnN (S:=KnL L w0 rows [Yt N 0 0 0 0]) (Die:=fun _ _=>False) L.terms1 L.draws1 13 (by rfl) hk (by kernel_rfl) (fun _ _ _ h=>h) (fun _ _ _ h=>h.elim) fun w1 hR=>?_;replace hF:=(hF.rely hR).rely (Turn.drew _);clear hR;refine Y4 L.terms1 0 (fun _ _ h r=>KnL.rely h r) hF ?_;try walk_nrm
 refine Y4 L.terms1 1 (fun _ _ h r=>KnL.rely h r) hF ?_;try walk_nrm
 refine Y4 L.terms1 2 (fun _ _ h r=>KnL.rely h r) hF ?_;try walk_nrm
 refine Ye L.terms1 3 rfl (fun _ _ h r=>KnL.rely h r) hF ?_ fun _ hw=>⟨run_eq_of (by
  intro K hK;have hc:World.cell? _ ⟨g,2,none⟩=some (.slice (some ⟨cb,co,none⟩) n cc):=hw.cell hi (show 2<48 by omega);go_simp;exact hK),by
  have hc:World.cell? _ ⟨g,2,none⟩=some (.slice (some ⟨cb,co,none⟩) n cc):=hw.cell hi (show 2<48 by omega);refine hw.looks hi ?_;co_evs (exact ⟨_,rfl⟩)⟩
 try walk_nrm
 refine Y4 L.terms1 4 (fun _ _ h r=>KnL.rely h r) hF ?_;try walk_nrm
 refine Y4 L.terms1 5 (fun _ _ h r=>KnL.rely h r) hF ?_;try walk_nrm
 refine Y4 L.terms1 6 (fun _ _ h r=>KnL.rely h r) hF ?_;try walk_nrm
 refine Y4 L.terms1 7 (fun _ _ h r=>KnL.rely h r) hF ?_;try walk_nrm
 refine Ye L.terms1 8 rfl (fun _ _ h r=>KnL.rely h r) hF ?_ fun _ hw=>⟨run_eq_of (by
  intro K hK;have hc:World.cell? _ ⟨g,45,none⟩=some (.int .i64 (z 45)):=hw.cellZ hi (by omega) (by omega);rw [hz] at hc;go_simp;exact hK),by
  have hc:World.cell? _ ⟨g,45,none⟩=some (.int .i64 (z 45)):=hw.cellZ hi (by omega) (by omega);rw [hz] at hc;refine hw.looks hi ?_;co_evs (exact ⟨_,rfl⟩)⟩
 try walk_nrm
 refine Ye L.terms1 9 rfl (fun _ _ h r=>KnL.rely h r) hF ?_ fun _ hw=>⟨run_eq_of (by
  intro K hK;go_simp;exact hK),by
  co_still L.terms1⟩
 try walk_nrm
 refine Ye L.terms1 10 rfl (fun _ _ h r=>KnL.rely h r) hF ?_ fun _ hw=>⟨run_eq_of (by
  intro K hK;have d0:World.cell? _ ⟨cb,co+nx*4,none⟩=some (.int .i64 (ci (nx*4))):=(hw.stillCell (a:=⟨cb,co+nx*4,none⟩) hs).trans (hcode (nx*4) (by omega));have d1:World.cell? _ ⟨cb,co+nx*4+1,none⟩=some (.int .i64 (ci (nx*4+1))):=(hw.stillCell (a:=⟨cb,co+nx*4+1,none⟩) hs).trans (hcode (nx*4+1) (by omega));have d2:World.cell? _ ⟨cb,co+nx*4+2,none⟩=some (.int .i64 (ci (nx*4+2))):=(hw.stillCell (a:=⟨cb,co+nx*4+2,none⟩) hs).trans (hcode (nx*4+2) (by omega));have d3:World.cell? _ ⟨cb,co+nx*4+3,none⟩=some (.int .i64 (ci (nx*4+3))):=(hw.stillCell (a:=⟨cb,co+nx*4+3,none⟩) hs).trans (hcode (nx*4+3) (by omega));go_simp;exact hK),by
  have d0:World.cell? _ ⟨cb,co+nx*4,none⟩=some (.int .i64 (ci (nx*4))):=(hw.stillCell (a:=⟨cb,co+nx*4,none⟩) hs).trans (hcode (nx*4) (by omega));have d1:World.cell? _ ⟨cb,co+nx*4+1,none⟩=some (.int .i64 (ci (nx*4+1))):=(hw.stillCell (a:=⟨cb,co+nx*4+1,none⟩) hs).trans (hcode (nx*4+1) (by omega));have d2:World.cell? _ ⟨cb,co+nx*4+2,none⟩=some (.int .i64 (ci (nx*4+2))):=(hw.stillCell (a:=⟨cb,co+nx*4+2,none⟩) hs).trans (hcode (nx*4+2) (by omega));have d3:World.cell? _ ⟨cb,co+nx*4+3,none⟩=some (.int .i64 (ci (nx*4+3))):=(hw.stillCell (a:=⟨cb,co+nx*4+3,none⟩) hs).trans (hcode (nx*4+3) (by omega));refine hw.stillLooks hs ?_;(intro e he;have hm:=mem_listed he;simp [go_sem, *] at hm;rcases hm with rfl|rfl|rfl|rfl<;>exact ⟨_,rfl⟩)⟩
 try walk_nrm
 refine XZ (i:=11) (by first|kernel_rfl|decide +kernel) rfl (by rfl) ?_;intro w1 hR K hK;replace hF:=hF.rely hR;clear hR;go_simp;try (unfold stored;go_simp)
 refine hK _ _ ⟨?_,?_,?_⟩
 ·refine hF.doesAlloc _ ?_;(intro e he;have hm:=mem_listed he;simp [go_sem, *] at hm)
 ·exact .inl (KnL.less (ex:=[_]) (hF.newIns hev 0 0 0 0))
 clear hK K;replace hF:KnL L w0 rows [Yt N 0 0 0 0,Yt w1.heap.size 0 0 0 0] _:=hF.newIns hev 0 0 0 0;generalize hM:w1.heap.size=M at *;generalize hW:(w1.alloc (.cells #[.int .i64 0,.int .i64 0,.int .i64 0,.int .i64 0] 97))=w3 at *;clear hW hM w1;try walk_nrm
 refine XZ (i:=12) (by first|kernel_rfl|decide +kernel) rfl (by rfl) ?_;intro w1 hR K hK;replace hF:=hF.rely hR;clear hR;obtain ⟨a0,a1,a2,a3⟩:=hF.lins (k:=1) rfl;obtain ⟨b0,b1,b2,b3⟩:=hF.linsFz (k:=1) rfl;go_simp;try (unfold stored;go_simp)
 refine hK _ _ ⟨?_,?_,?_⟩
 ·refine hF.ldoesIns (k:=1) _ _ _ _ rfl ?_;(intro e he;have hm:=mem_listed he;simp [go_sem, *] at hm;rcases hm with rfl|rfl|rfl|rfl<;>exact ⟨_,_,rfl⟩)
 ·exact .inr (Z8 rfl (by first|kernel_rfl|decide +kernel))
 clear hK K;clear a0 a1 a2 a3 b0 b1 b2 b3;replace hF:KnL L w0 rows [Yt N 0 0 0 0,Yt M (ci (nx*4)) (ci (nx*4+1)) (ci (nx*4+2)) (ci (nx*4+3))] _:=hF.lsetIns (k:=1) rfl;try walk_nrm
 refine Xi (by first|kernel_rfl|decide +kernel) ?_ _;repeat refine .c1 L.terms1 rfl ?_
 refine .regionL L.terms1 [0,1,2,3,4,5,6,7,8,9] (by rfl) ?_;iterate 4 (refine .opV L.terms1 rfl (by rfl) hk ?_;try walk_nrm)
 refine .op rfl (by rfl) hk fun w1 hR K hK=>?_;replace hF:=hF.rely hR;clear hR;have hc:World.cell? _ ⟨g,45,none⟩=some (.int .i64 (z 45)):=hF.cellZ hi (by omega) (by omega);rw [hz] at hc;go_simp;try (unfold stored;go_simp)
 refine hK _ _ ⟨?_,?_⟩
 ·refine hF.looks hi ?_;co_evs (exact ⟨_,rfl⟩)
 clear hK K;clear hc;try walk_nrm
 refine .op rfl (by rfl) hk fun w1 hR K hK=>?_;replace hF:=hF.rely hR;clear hR;have hwr:IntKind.i64.wrap ((nx:Int)+1)=nx+1:=by rw [IntKind.wrap_i64];omega
 go_simp;try (unfold stored;go_simp)
 refine hK _ _ ⟨?_,?_⟩
 ·co_quiet L.terms1
 clear hK K;clear hwr;try walk_nrm
 iterate 3 (refine .opV L.terms1 rfl (by rfl) hk ?_;try walk_nrm)
 refine .op rfl (by rfl) hk fun w1 hR K hK=>?_;replace hF:=hF.rely hR;clear hR;have hc:World.cell? _ ⟨g,45,none⟩=some (.int .i64 (z 45)):=hF.cellZ hi (by omega) (by omega);have hz2:World.frozen? _ ⟨g,45,none⟩=false:=hF.frozen hi 45;go_simp;try (unfold stored;go_simp)
 refine hK _ _ ⟨?_,?_⟩
 ·refine hF.does hi 45 _ ?_;co_evs (exact rfl)
 clear hK K;clear hc hz2;replace hF:=hF.setZ hi (j:=45) (by omega) ((nx:Int)+1);try walk_nrm
 repeat refine .c1 L.terms1 rfl ?_
 refine .regionL L.terms1 [0,1] (by rfl) ?_;refine .op rfl (by rfl) hk fun w1 hR K hK=>?_;replace hF:=hF.rely hR;clear hR;obtain ⟨a0,a1,a2,a3⟩:=hF.lins (k:=1) rfl;obtain ⟨b0,b1,b2,b3⟩:=hF.linsFz (k:=1) rfl;go_simp;try (unfold stored;go_simp)
 refine hK _ _ ⟨?_,?_⟩
 ·refine hF.llooks (k:=1) rfl ?_;(intro e he;have hm:=mem_listed he;simp [go_sem, *] at hm;rcases hm with rfl|rfl|rfl|rfl<;>exact ⟨_,rfl⟩)
 clear hK K;clear a0 a1 a2 a3 b0 b1 b2 b3;try walk_nrm
 refine .op rfl (by rfl) hk fun w1 hR K hK=>?_;replace hF:=hF.rely hR;clear hR;obtain ⟨a0,a1,a2,a3⟩:=hF.lins (k:=0) rfl;obtain ⟨b0,b1,b2,b3⟩:=hF.linsFz (k:=0) rfl;go_simp;try (unfold stored;go_simp)
 refine hK _ _ ⟨?_,?_⟩
 ·refine hF.ldoesIns (k:=0) _ _ _ _ rfl ?_;(intro e he;have hm:=mem_listed he;simp [go_sem, *] at hm;rcases hm with rfl|rfl|rfl|rfl<;>exact ⟨_,_,rfl⟩)
 clear hK K;clear a0 a1 a2 a3 b0 b1 b2 b3;replace hF:KnL L w0 _ [Yt N (ci (nx*4)) (ci (nx*4+1)) (ci (nx*4+2)) (ci (nx*4+3)),Yt M (ci (nx*4)) (ci (nx*4+1)) (ci (nx*4+2)) (ci (nx*4+3))] _:=hF.lsetIns (k:=0) rfl;try walk_nrm
 repeat refine .c1 L.terms1 rfl ?_
 refine Y1.ret L.terms1 fun todo=>?_;refine Ret _ todo _ _ rfl (fun w1 hR=>?_) ⟨rfl,hF.drop⟩;replace hF:=hF.rely hR;obtain ⟨a0,a1,a2,a3⟩:=hF.lins (k:=0) rfl;constructor
 ·simp [results,asAddr,go_sem,a0,a1,a2,a3]
 ·refine hF.llooks (k:=0) rfl fun e he=>?_;have hm:=mem_seen he;simp [results,asAddr,go_sem,a0,a1,a2,a3] at hm;rcases hm with rfl|rfl|rfl|rfl<;>exact ⟨_,rfl⟩
theorem Y5O (hev:((97:Nat)==L.ev)=false) {code:Value} (hi:rows[ic]?=some (Y5 g num net code z)) (p:Option Addr) (hcd:code=.slice p n cc) (hz:z 45=n) (w:World) (hF:Kn L w0 rows w):
  Yl Tryz.prog false L.R1 L.D1 126 #[.pointer (some ⟨g,0,none⟩)] w (fun _ _=>False) (fun ch w'=>ch=[{v:=.iface 222 (.int .i64 3),recovered:=false}]∧Kn L w0 rows w'):=by
 subst hcd;replace hF:=hF.lay;have hk:(base 126).kind≠.early:=by simp [base]
 refine Yl.intro L.terms1 #[.pointer (some ⟨g,0,none⟩),undef,undef,undef,undef,undef,undef,undef,undef,undef,undef,undef,undef,undef,undef,undef,undef,undef,undef,undef,undef,undef,undef,undef,undef,undef,undef,undef,undef,undef,undef,undef,undef,undef,undef,undef,undef] Tryz.func126 rfl (by kernel_rfl) fun cl cs Stop Ret Pan=>?_;repeat refine .c1 L.terms1 rfl ?_
 refine .regionL L.terms1 [0] (by rfl) ?_;refine .op rfl (by rfl) hk fun w1 hR K hK=>?_;replace hF:=hF.rely hR;clear hR;go_simp;try (unfold stored;go_simp)
 refine hK _ _ ⟨?_,?_⟩
 ·refine hF.doesAlloc _ ?_;(intro e he;have hm:=mem_listed he;simp [go_sem, *] at hm)
 clear hK K;replace hF:KnL L w0 rows [Yt w1.heap.size 0 0 0 0] _:=hF.newIns hev 0 0 0 0;generalize hN:w1.heap.size=N at *;generalize hW:(w1.alloc (.cells #[.int .i64 0,.int .i64 0,.int .i64 0,.int .i64 0] 97))=w2 at *;clear hW hN w1;try walk_nrm
 repeat refine .c1 L.terms1 rfl ?_
 refine Y1.drawnN (S:=KnL L w0 rows [Yt N 0 0 0 0]) (Die:=fun _ _=>False) L.terms1 L.draws1 11 (by rfl) hk (by kernel_rfl) (fun _ _ _ h=>h) (fun _ _ _ h=>h.elim) fun w1 hR=>?_;replace hF:=(hF.rely hR).rely (Turn.drew _);clear hR;refine Y4 L.terms1 0 (fun _ _ h r=>KnL.rely h r) hF ?_;try walk_nrm
 refine Y4 L.terms1 1 (fun _ _ h r=>KnL.rely h r) hF ?_;try walk_nrm
 refine Y4 L.terms1 2 (fun _ _ h r=>KnL.rely h r) hF ?_;try walk_nrm
 refine Y4 L.terms1 3 (fun _ _ h r=>KnL.rely h r) hF ?_;try walk_nrm
 refine Ye L.terms1 4 rfl (fun _ _ h r=>KnL.rely h r) hF ?_ fun _ hw=>⟨run_eq_of (by
  intro K hK;have hc:World.cell? _ ⟨g,45,none⟩=some (.int .i64 (z 45)):=hw.cellZ hi (by omega) (by omega);rw [hz] at hc;go_simp;exact hK),by
  have hc:World.cell? _ ⟨g,45,none⟩=some (.int .i64 (z 45)):=hw.cellZ hi (by omega) (by omega);rw [hz] at hc;refine hw.looks hi ?_;co_evs (exact ⟨_,rfl⟩)⟩
 try walk_nrm
 refine Y4 L.terms1 5 (fun _ _ h r=>KnL.rely h r) hF ?_;try walk_nrm
 refine Y4 L.terms1 6 (fun _ _ h r=>KnL.rely h r) hF ?_;try walk_nrm
 refine Y4 L.terms1 7 (fun _ _ h r=>KnL.rely h r) hF ?_;try walk_nrm
 refine Ye L.terms1 8 rfl (fun _ _ h r=>KnL.rely h r) hF ?_ fun _ hw=>⟨run_eq_of (by
  intro K hK;have hc:World.cell? _ ⟨g,2,none⟩=some (.slice p n cc):=hw.cell hi (show 2<48 by omega);go_simp;exact hK),by
  have hc:World.cell? _ ⟨g,2,none⟩=some (.slice p n cc):=hw.cell hi (show 2<48 by omega);refine hw.looks hi ?_;co_evs (exact ⟨_,rfl⟩)⟩
 try walk_nrm
 refine Y4 L.terms1 9 (fun _ _ h r=>KnL.rely h r) hF ?_;try walk_nrm
 refine Y4 L.terms1 10 (fun _ _ h r=>KnL.rely h r) hF ?_;try walk_nrm
 refine Xi (by first|kernel_rfl|decide +kernel) ?_ _;repeat refine .c1 L.terms1 rfl ?_
 refine Y1.condT L.terms1 (by first|rfl|simp [Act.eval]) ?_;repeat refine .c1 L.terms1 rfl ?_
 refine .regionL L.terms1 [0,1] (by rfl) ?_;refine .op rfl (by rfl) hk fun w1 hR K hK=>?_;replace hF:=hF.rely hR;clear hR;go_simp;try (unfold stored;go_simp)
 refine hK _ _ ⟨?_,?_⟩
 ·rw [listed_nil (by rfl)];exact Terms.idle L.terms1 _
 clear hK K;try walk_nrm
 refine Y1.panic L.terms1 rfl (by rfl) hk (fun w=>?_) (fun w=>?_) fun fr h1 _ h3 h4=>Pan fr _ _ h1 h3 h4 ⟨rfl,hF.drop⟩
 ·rfl
 ·rfl
end
section
variable {L:Lot} {w0:World} {rows:List Row} {ic g:Nat} {num:Int} {net code:Value} {z:Nat→Int}
theorem Y8Z (hi:rows[ic]?=some (Y5 g num net code z)) (w:World) (hF:Kn L w0 rows w):
  Yl Tryz.prog false L.R1 L.D1 86 #[.pointer (some ⟨g,0,none⟩)] w (fun v w'=>v=.bool (decide (z 3<z 47))∧Kn L w0 rows w') (fun _ _=>False):=by
 replace hF:=hF.lay;have hk:(base 86).kind≠.early:=by simp [base]
 refine Yl.intro L.terms1 #[.pointer (some ⟨g,0,none⟩),undef,undef,undef,undef,undef,undef,undef,undef,undef,undef,undef] Tryz.func86 rfl (by kernel_rfl) fun cl cs Stop Ret _=>?_;repeat refine .c1 L.terms1 rfl ?_
 refine .regionL L.terms1 [0] (by rfl) ?_;refine .opV L.terms1 rfl (by rfl) hk ?_;try walk_nrm
 repeat refine .c1 L.terms1 rfl ?_
 refine Y1.drawnN (S:=KnL L w0 rows []) (Die:=fun _ _=>False) L.terms1 L.draws1 10 (by rfl) hk (by kernel_rfl) (fun _ _ _ h=>h) (fun _ _ _ h=>h.elim) fun w1 hR=>?_;replace hF:=(hF.rely hR).rely (Turn.drew _);clear hR;refine Y4 L.terms1 0 (fun _ _ h r=>KnL.rely h r) hF ?_;try walk_nrm
 refine Y4 L.terms1 1 (fun _ _ h r=>KnL.rely h r) hF ?_;try walk_nrm
 refine Y4 L.terms1 2 (fun _ _ h r=>KnL.rely h r) hF ?_;try walk_nrm
 refine Ye L.terms1 3 rfl (fun _ _ h r=>KnL.rely h r) hF ?_ fun _ hw=>⟨run_eq_of (by
  intro K hK;have hc:World.cell? _ ⟨g,47,none⟩=some (.int .i64 (z 47)):=hw.cellZ hi (by omega) (by omega);go_simp;exact hK),by
  have hc:World.cell? _ ⟨g,47,none⟩=some (.int .i64 (z 47)):=hw.cellZ hi (by omega) (by omega);refine hw.looks hi ?_;co_evs (exact ⟨_,rfl⟩)⟩
 try walk_nrm
 refine Y4 L.terms1 4 (fun _ _ h r=>KnL.rely h r) hF ?_;try walk_nrm
 refine Y4 L.terms1 5 (fun _ _ h r=>KnL.rely h r) hF ?_;try walk_nrm
 refine Y4 L.terms1 6 (fun _ _ h r=>KnL.rely h r) hF ?_;try walk_nrm
 refine Ye L.terms1 7 rfl (fun _ _ h r=>KnL.rely h r) hF ?_ fun _ hw=>⟨run_eq_of (by
  intro K hK;have hc:World.cell? _ ⟨g,3,none⟩=some (.int .i64 (z 3)):=hw.cellZ hi (by omega) (by omega);go_simp;exact hK),by
  have hc:World.cell? _ ⟨g,3,none⟩=some (.int .i64 (z 3)):=hw.cellZ hi (by omega) (by omega);refine hw.looks hi ?_;co_evs (exact ⟨_,rfl⟩)⟩
 try walk_nrm
 refine Y4 L.terms1 8 (fun _ _ h r=>KnL.rely h r) hF ?_;try walk_nrm
 refine Y4 L.terms1 9 (fun _ _ h r=>KnL.rely h r) hF ?_;try walk_nrm
 refine Xi (by first|kernel_rfl|decide +kernel) ?_ _;repeat refine .c1 L.terms1 rfl ?_
 refine Y1.ret L.terms1 fun todo=>?_;exact Ret _ todo _ _ rfl (Xj L.terms1 (by rfl) _) ⟨by rfl,hF.drop⟩
theorem Y6Q (x y:Int) (hy:y≠0) (w:World) (hF:Kn L w0 rows w):
  Yl Tryz.prog false L.R1 L.D1 127 #[.int .i64 x,.int .i64 y] w (fun v w'=>v=.int .i64 (IntKind.i64.wrap (x.tdiv y))∧Kn L w0 rows w') (fun _ _=>False):=by
 have hb:(y==0)=false:=by simpa using hy
 have hk:(base 127).kind≠.early:=by simp [base]
 refine Yl.intro L.terms1 #[.int .i64 x,.int .i64 y,undef,undef,undef,undef,undef,undef,undef,undef,undef] Tryz.func127 rfl (by kernel_rfl) fun cl cs Stop Ret _=>?_;repeat refine .c1 L.terms1 rfl ?_
 refine .regionL L.terms1 [0] (by rfl) ?_;refine .opV L.terms1 rfl (by rfl) hk ?_;try walk_nrm
 repeat refine .c1 L.terms1 rfl ?_
 refine .regionL L.terms1 [0,1] (by rfl) ?_;iterate 2 (refine .opV L.terms1 rfl (by rfl) hk ?_;try walk_nrm)
 repeat refine .c1 L.terms1 rfl ?_
 refine Y1.condF L.terms1 (by first|rfl|simp [Act.eval,hb]) ?_;repeat refine .c1 L.terms1 rfl ?_
 refine .regionL L.terms1 [0,1,2,3] (by rfl) ?_;iterate 4 (refine .opV L.terms1 rfl (by rfl) hk ?_;try walk_nrm)
 repeat refine .c1 L.terms1 rfl ?_
 refine Y1.ret L.terms1 fun todo=>?_;exact Ret _ todo _ _ rfl (Xj L.terms1 (by rfl) _) ⟨by rfl,hF⟩
theorem Y6c (x:Int) (w:World) (hF:Kn L w0 rows w):
  Yl Tryz.prog false L.R1 L.D1 127 #[.int .i64 x,.int .i64 0] w (fun _ _=>False) (fun ch w'=>ch=[{v:=.iface 222 (.int .i64 1),recovered:=false}]∧Kn L w0 rows w'):=by
 have hk:(base 127).kind≠.early:=by simp [base]
 refine Yl.intro L.terms1 #[.int .i64 x,.int .i64 0,undef,undef,undef,undef,undef,undef,undef,undef,undef] Tryz.func127 rfl (by kernel_rfl) fun cl cs Stop Ret Pan=>?_;repeat refine .c1 L.terms1 rfl ?_
 refine .regionL L.terms1 [0] (by rfl) ?_;refine .opV L.terms1 rfl (by rfl) hk ?_;try walk_nrm
 repeat refine .c1 L.terms1 rfl ?_
 refine .regionL L.terms1 [0,1] (by rfl) ?_;iterate 2 (refine .opV L.terms1 rfl (by rfl) hk ?_;try walk_nrm)
 repeat refine .c1 L.terms1 rfl ?_
 refine Y1.condT L.terms1 (by first|rfl|simp [Act.eval]) ?_;repeat refine .c1 L.terms1 rfl ?_
 refine .regionL L.terms1 [0,1] (by rfl) ?_;refine .op rfl (by rfl) hk fun w1 hR K hK=>?_;replace hF:=hF.rely hR;clear hR;go_simp;try (unfold stored;go_simp)
 refine hK _ _ ⟨?_,?_⟩
 ·rw [listed_nil (by rfl)];exact Terms.idle L.terms1 _
 clear hK K;try walk_nrm
 refine Y1.panic L.terms1 rfl (by rfl) hk (fun w=>?_) (fun w=>?_) fun fr h1 _ h3 h4=>Pan fr _ _ h1 h3 h4 ⟨rfl,hF⟩
 ·rfl
 ·rfl
theorem Y3B (y:Nat) (hy:y<16) (w:World) (hF:Kn L w0 rows w):
  Yl Tryz.prog false L.R1 L.D1 128 #[.pointer (some ⟨g,0,none⟩),.int .i64 y] w (fun v w'=>v=.pointer (some ⟨g,29+y,none⟩)∧Kn L w0 rows w') (fun _ _=>False):=by
 have hb:decide ((y:Int)<0)=false:=by simp
 have hb2:decide ((16:Int)≤(y:Int))=false:=by simp;omega
 have hy2:(y:Int)<16:=by omega
 have hk:(base 128).kind≠.early:=by simp [base]
 refine Yl.intro L.terms1 #[.pointer (some ⟨g,0,none⟩),.int .i64 y,undef,undef,undef,undef,undef,undef,undef,undef,undef,undef,undef,undef,undef,undef,undef,undef] Tryz.func128 rfl (by kernel_rfl) fun cl cs Stop Ret _=>?_;repeat refine .c1 L.terms1 rfl ?_
 refine .regionL L.terms1 [0] (by rfl) ?_;refine .opV L.terms1 rfl (by rfl) hk ?_;try walk_nrm
 repeat refine .c1 L.terms1 rfl ?_
 refine .regionL L.terms1 [0,1,2,3,4,5] (by rfl) ?_;iterate 6 (refine .opV L.terms1 rfl (by rfl) hk ?_;try walk_nrm)
 repeat refine .c1 L.terms1 rfl ?_
 refine Y1.condF L.terms1 (by first|rfl|simp [Act.eval,hb2]) ?_;repeat refine .c1 L.terms1 rfl ?_
 refine .regionL L.terms1 [0,1,2,3,4,5,6] (by rfl) ?_;iterate 5 (refine .opV L.terms1 rfl (by rfl) hk ?_;try walk_nrm)
 refine .op rfl (by rfl) hk fun w1 hR K hK=>?_;replace hF:=hF.rely hR;clear hR;go_simp;try (unfold stored;go_simp)
 refine hK _ _ ⟨?_,?_⟩
 ·rw [listed_nil (by simp [go_sem,events_indexAt_array (P:=Tryz.prog) 128 2 16 ⟨g,29,none⟩ .i64 (y:Int) Tryz.underlying128 ⟨by omega,by omega⟩])];exact Terms.idle L.terms1 _
 clear hK K;try walk_nrm
 refine .opV L.terms1 rfl (by rfl) hk ?_;try walk_nrm
 repeat refine .c1 L.terms1 rfl ?_
 refine Y1.ret L.terms1 fun todo=>?_;exact Ret _ todo _ _ rfl (Xj L.terms1 (by rfl) _) ⟨by rfl,hF⟩
theorem Y4a (y:Int) (hy:y<0∨16≤y) (w:World) (hF:Kn L w0 rows w):
  Yl Tryz.prog false L.R1 L.D1 128 #[.pointer (some ⟨g,0,none⟩),.int .i64 y] w (fun _ _=>False) (fun ch w'=>ch=[{v:=.iface 222 (.int .i64 2),recovered:=false}]∧Kn L w0 rows w'):=by
 have hk:(base 128).kind≠.early:=by simp [base]
 refine Yl.intro L.terms1 #[.pointer (some ⟨g,0,none⟩),.int .i64 y,undef,undef,undef,undef,undef,undef,undef,undef,undef,undef,undef,undef,undef,undef,undef,undef] Tryz.func128 rfl (by kernel_rfl) fun cl cs Stop Ret Pan=>?_;repeat refine .c1 L.terms1 rfl ?_
 refine .regionL L.terms1 [0] (by rfl) ?_;refine .opV L.terms1 rfl (by rfl) hk ?_;try walk_nrm
 repeat refine .c1 L.terms1 rfl ?_
 refine .regionL L.terms1 [0,1,2,3,4,5] (by rfl) ?_;by_cases hn:y<0
 ·have hb:decide (y<0)=true:=by simpa using hn
  iterate 3 (refine .opV L.terms1 rfl (by rfl) hk ?_;try walk_nrm)
  refine Y1.unwanted L.terms1 rfl (by rfl) ?_;refine Y1.unwanted L.terms1 rfl (by rfl) ?_;refine .opV L.terms1 rfl (by rfl) hk ?_;try walk_nrm
  repeat refine .c1 L.terms1 rfl ?_
  refine Y1.condT L.terms1 (by first|rfl|simp [Act.eval]) ?_;repeat refine .c1 L.terms1 rfl ?_
  refine .regionL L.terms1 [0,1] (by rfl) ?_;refine .op rfl (by rfl) hk fun w1 hR K hK=>?_;replace hF:=hF.rely hR;clear hR;go_simp;try (unfold stored;go_simp)
  refine hK _ _ ⟨?_,?_⟩
  ·rw [listed_nil (by rfl)];exact Terms.idle L.terms1 _
  clear hK K;try walk_nrm
  refine Y1.panic L.terms1 rfl (by rfl) hk (fun w=>?_) (fun w=>?_) fun fr h1 _ h3 h4=>Pan fr _ _ h1 h3 h4 ⟨rfl,hF⟩
  ·rfl
  ·rfl
 ·have hb:decide (y<0)=false:=by simpa using hn
  have hb2:decide ((16:Int)≤y)=true:=by simp;omega
  iterate 6 (refine .opV L.terms1 rfl (by rfl) hk ?_;try walk_nrm)
  repeat refine .c1 L.terms1 rfl ?_
  refine Y1.condT L.terms1 (by first|rfl|simp [Act.eval,hb2]) ?_;repeat refine .c1 L.terms1 rfl ?_
  refine .regionL L.terms1 [0,1] (by rfl) ?_;refine .op rfl (by rfl) hk fun w1 hR K hK=>?_;replace hF:=hF.rely hR;clear hR;go_simp;try (unfold stored;go_simp)
  refine hK _ _ ⟨?_,?_⟩
  ·rw [listed_nil (by rfl)];exact Terms.idle L.terms1 _
  clear hK K;try walk_nrm
  refine Y1.panic L.terms1 rfl (by rfl) hk (fun w=>?_) (fun w=>?_) fun fr h1 _ h3 h4=>Pan fr _ _ h1 h3 h4 ⟨rfl,hF⟩
  ·rfl
  ·rfl
end
end Go.Proofs.YtdoghgnifkgfdaaGreat.Mute
