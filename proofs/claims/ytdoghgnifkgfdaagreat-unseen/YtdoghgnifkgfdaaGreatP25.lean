import Derived.Test.YtdoghgnifkgfdaaGreatP24
set_option maxRecDepth 100000
set_option maxHeartbeats 16000000
namespace Go.Proofs.YtdoghgnifkgfdaaGreat.Mute
open Go Go.Conc Go.RowKit
noncomputable def stSw:List Item:=match Tryz.f113.body with
 |some (.seq _ (.seq _ (.seq _ (.seq _ (.seq (.seq _ c) d)))))=>[.code c,.code d]
 |_=>[]
noncomputable def Y1Y:Code:=Tryz.f113.body.getD .skip
section
variable {L:Lot} {w0:World} {rows:List Row} {ic g cb co n cc:Nat} {num:Int} {net:Value} {z ci:Nat→Int}
theorem Y2V {op:Int} (hev:((97:Nat)==L.ev)=false) (hi:rows[ic]?=some (Y5 g num net (.slice (some ⟨cb,co,none⟩) n cc) z)) (hs:Still L w0 cb) (hcode:∀j,j<n*4→w0.cell? ⟨cb,co+j,none⟩=some (.int .i64 (ci j))) (nx:Nat) (hz:z 45=nx) (hlt:nx<n) (hn:n≤48)
  (R A:Nat) (hR4:R<4) (hA4:A<4) (hop:ci (nx*4)=op) (hR:ci (nx*4+1)=R) (hA:ci (nx*4+2)=A) (N:Int) (hN:ci (nx*4+3)=N) (inV chV:Value) (w:World) (hF:Kn L w0 rows w) {Stop:Goroutine→World→Prop} {cs:List Frame}
  (h:∀(B:Nat) (w1:World),KnL L w0 (rows.set ic (Y5 g num net (.slice (some ⟨cb,co,none⟩) n cc) (zset (zset z 46 (IntKind.i64.wrap (z 46+1))) 45 ((nx:Int)+1)))) [Yt B op R A N] w1→Y1 Tryz.prog false L.R1 L.D1 Stop (G ((base 113).at {tmps:=#[.pointer (some ⟨g,0,none⟩),inV,chV,undef,undef,undef,.int .i64 0,.pointer (some ⟨B,0,none⟩),.pointer (some ⟨g,25+R,none⟩),.pointer (some ⟨g,25+A,none⟩),.pointer (some ⟨g,0,none⟩),.pointer (some ⟨g,0,none⟩),.pointer (some ⟨g,46,none⟩),.int .i64 (z 46),.int .i64 (IntKind.i64.wrap (z 46+1)),.pointer (some ⟨g,0,none⟩),.pointer (some ⟨g,46,none⟩),.pointer (some ⟨g,0,none⟩),.agg #[.int .i64 op,.int .i64 R,.int .i64 A,.int .i64 N],.pointer (some ⟨g,0,none⟩),.pointer (some ⟨B,1,none⟩),.int .i64 R,.pointer (some ⟨g,0,none⟩),.pointer (some ⟨g,25,none⟩),.pointer (some ⟨g,25,none⟩),.pointer (some ⟨g,25+R,none⟩),.pointer (some ⟨g,0,none⟩),.pointer (some ⟨B,2,none⟩),.int .i64 A,.pointer (some ⟨g,0,none⟩),.pointer (some ⟨g,25,none⟩),.pointer (some ⟨g,25,none⟩),.pointer (some ⟨g,25+A,none⟩),.pointer (some ⟨B,0,none⟩),.int .i64 op,undef,undef,undef,undef,undef,undef,undef,undef,undef,undef,undef,undef,undef,undef,undef,undef,undef,undef,undef,undef,undef,undef,undef,undef,undef,undef,undef,undef,undef,undef,undef,undef,undef,undef,undef,undef,undef,undef,undef,undef,undef,undef,undef,undef,undef,undef,undef,undef,undef,undef,undef,undef,undef,undef,undef,undef,undef,undef,undef,undef,undef,undef,undef,undef,undef,undef,undef,undef,undef,undef,undef,undef,undef,undef,undef,undef,undef,undef,undef,undef,undef,undef,undef,undef,undef,undef,undef,undef,undef,undef,undef,undef,undef,undef,undef,undef,undef,undef,undef,undef,undef,undef,undef,undef,undef,undef,undef,undef,undef],defers:=[]} stSw) cs) w1):
  Y1 Tryz.prog false L.R1 L.D1 Stop (G ((base 113).at {tmps:=#[.pointer (some ⟨g,0,none⟩),inV,chV,undef,undef,undef,undef,undef,undef,undef,undef,undef,undef,undef,undef,undef,undef,undef,undef,undef,undef,undef,undef,undef,undef,undef,undef,undef,undef,undef,undef,undef,undef,undef,undef,undef,undef,undef,undef,undef,undef,undef,undef,undef,undef,undef,undef,undef,undef,undef,undef,undef,undef,undef,undef,undef,undef,undef,undef,undef,undef,undef,undef,undef,undef,undef,undef,undef,undef,undef,undef,undef,undef,undef,undef,undef,undef,undef,undef,undef,undef,undef,undef,undef,undef,undef,undef,undef,undef,undef,undef,undef,undef,undef,undef,undef,undef,undef,undef,undef,undef,undef,undef,undef,undef,undef,undef,undef,undef,undef,undef,undef,undef,undef,undef,undef,undef,undef,undef,undef,undef,undef,undef,undef,undef,undef,undef,undef,undef,undef,undef,undef,undef,undef,undef,undef,undef,undef,undef,undef,undef,undef,undef,undef],defers:=[]} [.code Y1Y]) cs) w:=by
 replace hF:=hF.start hi;have hk:(base 113).kind≠.early:=by simp [base]
 repeat refine .c1 L.terms1 rfl ?_
 refine .regionL L.terms1 [0] (by rfl) ?_;refine .opV L.terms1 rfl (by rfl) hk ?_;try walk_nrm
 repeat refine .c1 L.terms1 rfl ?_
 refine .regionL L.terms1 [0,1,2,3,4,5,6,7] (by rfl) ?_;iterate 3 (refine .opV L.terms1 rfl (by rfl) hk ?_;try walk_nrm)
 refine .op rfl (by rfl) hk fun w1 hR K hK=>?_;replace hF:=hF.rely hR;clear hR;have hc:World.cell? _ ⟨g,46,none⟩=some (.int .i64 (z 46)):=KnL.cz hi hF (by omega) (by omega);go_simp;try (unfold stored;go_simp)
 refine hK _ _ ⟨?_,?_⟩
 ·refine KnL.clooks hi hF ?_;co_evs (exact ⟨_,rfl⟩)
 clear hK K;clear hc;try walk_nrm
 iterate 3 (refine .opV L.terms1 rfl (by rfl) hk ?_;try walk_nrm)
 refine .op rfl (by rfl) hk fun w1 hR K hK=>?_;replace hF:=hF.rely hR;clear hR;have hc:World.cell? _ ⟨g,46,none⟩=some (.int .i64 (z 46)):=KnL.cz hi hF (by omega) (by omega);have hz2:World.frozen? _ ⟨g,46,none⟩=false:=KnL.cfz hi hF 46;go_simp;try (unfold stored;go_simp)
 refine hK _ _ ⟨?_,?_⟩
 ·refine KnL.cdoes hi hF 46 _ ?_;co_evs (exact rfl)
 clear hK K;clear hc hz2;replace hF:=KnL.cset hi hF (j:=46) (by omega) (IntKind.i64.wrap (z 46+1));try walk_nrm
 repeat refine .c1 L.terms1 rfl ?_
 refine .regionL L.terms1 [0,1,2,3] (by rfl) ?_;refine .opV L.terms1 rfl (by rfl) hk ?_;try walk_nrm
 refine Y1.callX L.terms1 rfl (by rfl) hk rfl Tryz.func126 (by rfl) rfl #[.pointer (some ⟨g,0,none⟩)] (by kernel_rfl) (Y6k (ic:=ic) hev (at2 hi (Y5 g num net (.slice (some ⟨cb,co,none⟩) n cc) (zset z 46 (IntKind.i64.wrap (z 46+1))))) hs hcode nx ((YQ z _ (by omega)).trans hz) hlt hn _ hF) ?_ (fun _ _ _ h=>h.elim);rintro v w2 ⟨rfl,hF2⟩;replace hF:=KnL.back hi hF2;clear hF2;rw [hop,hR,hA,hN];refine .op rfl (by rfl) hk fun w1 hR K hK=>?_;replace hF:=hF.rely hR;clear hR;go_simp;try (unfold stored;go_simp)
 refine hK _ _ ⟨?_,?_⟩
 ·refine hF.doesAlloc _ ?_;(intro e he;have hm:=mem_listed he;simp [go_sem, *] at hm)
 clear hK K;replace hF:KnL L w0 (rows.set ic (Y5 g num net (.slice (some ⟨cb,co,none⟩) n cc) (zset (zset z 46 (IntKind.i64.wrap (z 46+1))) 45 ((nx:Int)+1)))) [Yt w1.heap.size 0 0 0 0] _:=hF.newIns hev 0 0 0 0;generalize hB:w1.heap.size=B at *;generalize hW:(w1.alloc (.cells #[.int .i64 0,.int .i64 0,.int .i64 0,.int .i64 0] 97))=w3 at *;clear hW hB w1;try walk_nrm
 refine .op rfl (by rfl) hk fun w1 hR K hK=>?_;replace hF:=hF.rely hR;clear hR;obtain ⟨a0,a1,a2,a3⟩:=hF.lins (k:=0) rfl;obtain ⟨b0,b1,b2,b3⟩:=hF.linsFz (k:=0) rfl;go_simp;try (unfold stored;go_simp)
 refine hK _ _ ⟨?_,?_⟩
 ·refine hF.ldoesIns (k:=0) _ _ _ _ rfl ?_;(intro e he;have hm:=mem_listed he;simp [go_sem, *] at hm;rcases hm with rfl|rfl|rfl|rfl<;>exact ⟨_,_,rfl⟩)
 clear hK K;clear a0 a1 a2 a3 b0 b1 b2 b3;replace hF:KnL L w0 (rows.set ic (Y5 g num net (.slice (some ⟨cb,co,none⟩) n cc) (zset (zset z 46 (IntKind.i64.wrap (z 46+1))) 45 ((nx:Int)+1)))) [Yt B op R A N] _:=hF.lsetIns (k:=0) rfl;try walk_nrm
 repeat refine .c1 L.terms1 rfl ?_
 have hRi:(R:Int)<4:=by omega
 have hAi:(A:Int)<4:=by omega
 refine Y1.drawnN (S:=KnL L w0 (rows.set ic (Y5 g num net (.slice (some ⟨cb,co,none⟩) n cc) (zset (zset z 46 (IntKind.i64.wrap (z 46+1))) 45 ((nx:Int)+1)))) [Yt B op R A N]) (Die:=fun _ _=>False) L.terms1 L.draws1 16 (by rfl) hk (by kernel_rfl) (fun _ _ _ h=>h) (fun _ _ _ h=>h.elim) fun w1 hR=>?_;replace hF:=(hF.rely hR).rely (Turn.drew _);clear hR;refine Y4 L.terms1 0 (fun _ _ h r=>KnL.rely h r) hF ?_;try walk_nrm
 refine Y4 L.terms1 1 (fun _ _ h r=>KnL.rely h r) hF ?_;try walk_nrm
 refine Ye L.terms1 2 rfl (fun _ _ h r=>KnL.rely h r) hF ?_ fun _ hw=>⟨run_eq_of (by
  intro K hK;obtain ⟨a0,a1,a2,a3⟩:=hw.lins (k:=0) rfl;go_simp;exact hK),by
  obtain ⟨a0,a1,a2,a3⟩:=hw.lins (k:=0) rfl;refine hw.llooks (k:=0) rfl ?_;co_evs (exact ⟨_,rfl⟩)⟩
 try walk_nrm
 refine Y4 L.terms1 3 (fun _ _ h r=>KnL.rely h r) hF ?_;try walk_nrm
 refine Y4 L.terms1 4 (fun _ _ h r=>KnL.rely h r) hF ?_;try walk_nrm
 refine Y4 L.terms1 5 (fun _ _ h r=>KnL.rely h r) hF ?_;try walk_nrm
 refine Ye L.terms1 6 rfl (fun _ _ h r=>KnL.rely h r) hF ?_ fun _ hw=>⟨run_eq_of (by
  intro K hK;go_simp;exact hK),by
  rw [listed_nil (by simp [go_sem,events_indexAt_array (P:=Tryz.prog) 37 2 4 ⟨g,25,none⟩ .i64 (R:Int) Tryz.underlying37 ⟨by omega,by omega⟩])];exact Terms.idle L.terms1 _⟩
 try walk_nrm
 refine Y4 L.terms1 7 (fun _ _ h r=>KnL.rely h r) hF ?_;try walk_nrm
 refine Y4 L.terms1 8 (fun _ _ h r=>KnL.rely h r) hF ?_;try walk_nrm
 refine Ye L.terms1 9 rfl (fun _ _ h r=>KnL.rely h r) hF ?_ fun _ hw=>⟨run_eq_of (by
  intro K hK;obtain ⟨a0,a1,a2,a3⟩:=hw.lins (k:=0) rfl;go_simp;exact hK),by
  obtain ⟨a0,a1,a2,a3⟩:=hw.lins (k:=0) rfl;refine hw.llooks (k:=0) rfl ?_;co_evs (exact ⟨_,rfl⟩)⟩
 try walk_nrm
 refine Y4 L.terms1 10 (fun _ _ h r=>KnL.rely h r) hF ?_;try walk_nrm
 refine Y4 L.terms1 11 (fun _ _ h r=>KnL.rely h r) hF ?_;try walk_nrm
 refine Y4 L.terms1 12 (fun _ _ h r=>KnL.rely h r) hF ?_;try walk_nrm
 refine Ye L.terms1 13 rfl (fun _ _ h r=>KnL.rely h r) hF ?_ fun _ hw=>⟨run_eq_of (by
  intro K hK;go_simp;exact hK),by
  rw [listed_nil (by simp [go_sem,events_indexAt_array (P:=Tryz.prog) 37 2 4 ⟨g,25,none⟩ .i64 (A:Int) Tryz.underlying37 ⟨by omega,by omega⟩])];exact Terms.idle L.terms1 _⟩
 try walk_nrm
 refine Y4 L.terms1 14 (fun _ _ h r=>KnL.rely h r) hF ?_;try walk_nrm
 refine Y4 L.terms1 15 (fun _ _ h r=>KnL.rely h r) hF ?_;try walk_nrm
 refine Xi (by first|kernel_rfl|decide +kernel) ?_ _;repeat refine .c1 L.terms1 rfl ?_
 refine .regionL L.terms1 [0,1] (by rfl) ?_;refine .opV L.terms1 rfl (by rfl) hk ?_;try walk_nrm
 refine .op rfl (by rfl) hk fun w1 hR K hK=>?_;replace hF:=hF.rely hR;clear hR;obtain ⟨a0,a1,a2,a3⟩:=hF.lins (k:=0) rfl;go_simp;try (unfold stored;go_simp)
 refine hK _ _ ⟨?_,?_⟩
 ·refine hF.llooks (k:=0) rfl ?_;co_evs (exact ⟨_,rfl⟩)
 clear hK K;clear a0 a1 a2 a3;try walk_nrm
 refine .regionEnd L.terms1 ?_;exact h B _ hF
theorem XI {op:Int} (hev:((97:Nat)==L.ev)=false) (hi:rows[ic]?=some (Y5 g num net (.slice (some ⟨cb,co,none⟩) n cc) z)) (hs:Still L w0 cb) (hcode:∀j,j<n*4→w0.cell? ⟨cb,co+j,none⟩=some (.int .i64 (ci j))) (nx:Nat) (hz:z 45=nx) (hlt:nx<n) (hn:n≤48)
  (R A:Nat) (hR4:R<4) (hA4:A<4) (hop:ci (nx*4)=op) (hR:ci (nx*4+1)=R) (hA:ci (nx*4+2)=A) (N:Int) (hN:ci (nx*4+3)=N) (inV chV:Value) (w:World) (hF:Kn L w0 rows w) {Post:Value→World→Prop} {Die:List PanicEntry→World→Prop}
  (h:∀(cl:Frame) (cs:List Frame) (Stop:Goroutine→World→Prop),
   (∀a todo w' v,a.defers=[]→ZK Tryz.prog L.R1 L.D1 113 Tryz.f113 a.tmps w' v→Post v w'→Y1 Tryz.prog false L.R1 L.D1 Stop (G {(base 113).at a todo with mode:=.returning} (cl::cs)) w')→
   (∀fr ch w',fr.fn=113→fr.defers=[]→fr.mode=.panicking ch→Die ch w'→Y1 Tryz.prog false L.R1 L.D1 Stop (G fr (cl::cs)) w')→
   ∀(B:Nat) (w1:World),KnL L w0 (rows.set ic (Y5 g num net (.slice (some ⟨cb,co,none⟩) n cc) (zset (zset z 46 (IntKind.i64.wrap (z 46+1))) 45 ((nx:Int)+1)))) [Yt B op R A N] w1→Y1 Tryz.prog false L.R1 L.D1 Stop (G ((base 113).at {tmps:=#[.pointer (some ⟨g,0,none⟩),inV,chV,undef,undef,undef,.int .i64 0,.pointer (some ⟨B,0,none⟩),.pointer (some ⟨g,25+R,none⟩),.pointer (some ⟨g,25+A,none⟩),.pointer (some ⟨g,0,none⟩),.pointer (some ⟨g,0,none⟩),.pointer (some ⟨g,46,none⟩),.int .i64 (z 46),.int .i64 (IntKind.i64.wrap (z 46+1)),.pointer (some ⟨g,0,none⟩),.pointer (some ⟨g,46,none⟩),.pointer (some ⟨g,0,none⟩),.agg #[.int .i64 op,.int .i64 R,.int .i64 A,.int .i64 N],.pointer (some ⟨g,0,none⟩),.pointer (some ⟨B,1,none⟩),.int .i64 R,.pointer (some ⟨g,0,none⟩),.pointer (some ⟨g,25,none⟩),.pointer (some ⟨g,25,none⟩),.pointer (some ⟨g,25+R,none⟩),.pointer (some ⟨g,0,none⟩),.pointer (some ⟨B,2,none⟩),.int .i64 A,.pointer (some ⟨g,0,none⟩),.pointer (some ⟨g,25,none⟩),.pointer (some ⟨g,25,none⟩),.pointer (some ⟨g,25+A,none⟩),.pointer (some ⟨B,0,none⟩),.int .i64 op,undef,undef,undef,undef,undef,undef,undef,undef,undef,undef,undef,undef,undef,undef,undef,undef,undef,undef,undef,undef,undef,undef,undef,undef,undef,undef,undef,undef,undef,undef,undef,undef,undef,undef,undef,undef,undef,undef,undef,undef,undef,undef,undef,undef,undef,undef,undef,undef,undef,undef,undef,undef,undef,undef,undef,undef,undef,undef,undef,undef,undef,undef,undef,undef,undef,undef,undef,undef,undef,undef,undef,undef,undef,undef,undef,undef,undef,undef,undef,undef,undef,undef,undef,undef,undef,undef,undef,undef,undef,undef,undef,undef,undef,undef,undef,undef,undef,undef,undef,undef,undef,undef,undef,undef,undef,undef,undef,undef,undef],defers:=[]} stSw) (cl::cs)) w1):
  Yl Tryz.prog false L.R1 L.D1 113 #[.pointer (some ⟨g,0,none⟩),inV,chV] w Post Die:=
 Yl.intro (c:=Y1Y) L.terms1 _ Tryz.func113 rfl (by kernel_rfl) fun cl cs Stop Ret Pan=>Y2V hev hi hs hcode nx hz hlt hn R A hR4 hA4 hop hR hA N hN inV chV w hF (h cl cs Stop Ret Pan)
end
section
variable {L:Lot} {w0:World} {rows:List Row} {ic g cb co n cc:Nat} {num:Int} {net:Value} {z ci:Nat→Int}
theorem Yap (hev:((97:Nat)==L.ev)=false) (hi:rows[ic]?=some (Y5 g num net (.slice (some ⟨cb,co,none⟩) n cc) z)) (hs:Still L w0 cb) (hcode:∀j,j<n*4→w0.cell? ⟨cb,co+j,none⟩=some (.int .i64 (ci j))) (nx:Nat) (hz:z 45=nx) (hlt:nx<n) (hn:n≤48)
  (R A:Nat) (hR4:R<4) (hA4:A<4) (hop:ci (nx*4)=0) (hR:ci (nx*4+1)=R) (hA:ci (nx*4+2)=A) (N:Int) (hN:ci (nx*4+3)=N) (inV chV:Value) (w:World) (hF:Kn L w0 rows w):
  Yl Tryz.prog false L.R1 L.D1 113 #[.pointer (some ⟨g,0,none⟩),inV,chV] w (fun v w'=>v=.int .i64 0∧Kn L w0 (rows.set ic (Y5 g num net (.slice (some ⟨cb,co,none⟩) n cc) (zset (zset z 46 (IntKind.i64.wrap (z 46+1))) 45 ((nx:Int)+1)))) w') (fun _ _=>False):=by
 have hk:(base 113).kind≠.early:=by simp [base]
 refine XI hev hi hs hcode nx hz hlt hn R A hR4 hA4 hop hR hA N hN inV chV w hF fun cl cs Stop Ret _ B w3 hF=>?_;have hRi:(R:Int)<4:=by omega
 have hAi:(A:Int)<4:=by omega
 repeat refine .c1 L.terms1 rfl ?_
 iterate 15 (refine .regionL L.terms1 [0,1] (by rfl) ?_;iterate 2 (refine .opV L.terms1 rfl (by rfl) hk ?_;try walk_nrm);repeat refine .c1 L.terms1 rfl ?_;refine .condF L.terms1 (by rfl) ?_;repeat refine .c1 L.terms1 rfl ?_)
 refine .regionL L.terms1 [0,1] (by rfl) ?_;iterate 2 (refine .opV L.terms1 rfl (by rfl) hk ?_;try walk_nrm)
 repeat refine .c1 L.terms1 rfl ?_
 refine Y1.condF L.terms1 (by rfl) ?_;repeat refine .c1 L.terms1 rfl ?_
 repeat refine .c1 L.terms1 rfl ?_
 refine .regionL L.terms1 [0,1,2] (by rfl) ?_;refine .opV L.terms1 rfl (by rfl) hk ?_;try walk_nrm
 refine .op rfl (by rfl) hk fun w1 hR K hK=>?_;replace hF:=hF.rely hR;clear hR;obtain ⟨a0,a1,a2,a3⟩:=hF.lins (k:=0) rfl;go_simp;try (unfold stored;go_simp)
 refine hK _ _ ⟨?_,?_⟩
 ·refine hF.llooks (k:=0) rfl ?_;co_evs (exact ⟨_,rfl⟩)
 clear hK K;clear a0 a1 a2 a3;try walk_nrm
 refine .opV L.terms1 rfl (by rfl) hk ?_;try walk_nrm
 repeat refine .c1 L.terms1 rfl ?_
 refine Y1.ret L.terms1 fun todo=>?_;exact Ret _ todo _ _ rfl (Xj L.terms1 (by rfl) _) ⟨by rfl,hF.drop⟩
theorem Y7M (hev:((97:Nat)==L.ev)=false) (hi:rows[ic]?=some (Y5 g num net (.slice (some ⟨cb,co,none⟩) n cc) z)) (hs:Still L w0 cb) (hcode:∀j,j<n*4→w0.cell? ⟨cb,co+j,none⟩=some (.int .i64 (ci j))) (nx:Nat) (hz:z 45=nx) (hlt:nx<n) (hn:n≤48)
  (R A:Nat) (hR4:R<4) (hA4:A<4) (hop:ci (nx*4)=1) (hR:ci (nx*4+1)=R) (hA:ci (nx*4+2)=A) (N:Int) (hN:ci (nx*4+3)=N) (inV chV:Value) (w:World) (hF:Kn L w0 rows w):
  Yl Tryz.prog false L.R1 L.D1 113 #[.pointer (some ⟨g,0,none⟩),inV,chV] w (fun v w'=>v=.int .i64 1∧Kn L w0 (rows.set ic (Y5 g num net (.slice (some ⟨cb,co,none⟩) n cc) (zset (zset (zset z 46 (IntKind.i64.wrap (z 46+1))) 45 ((nx:Int)+1)) (25+R) N))) w') (fun _ _=>False):=by
 have hk:(base 113).kind≠.early:=by simp [base]
 refine XI hev hi hs hcode nx hz hlt hn R A hR4 hA4 hop hR hA N hN inV chV w hF fun cl cs Stop Ret _ B w3 hF=>?_;have hRi:(R:Int)<4:=by omega
 have hAi:(A:Int)<4:=by omega
 repeat refine .c1 L.terms1 rfl ?_
 refine .regionL L.terms1 [0,1] (by rfl) ?_;iterate 2 (refine .opV L.terms1 rfl (by rfl) hk ?_;try walk_nrm)
 repeat refine .c1 L.terms1 rfl ?_
 refine Y1.condT L.terms1 (by rfl) ?_;repeat refine .c1 L.terms1 rfl ?_
 refine .regionL L.terms1 [0,1,2,3,4] (by rfl) ?_;iterate 2 (refine .opV L.terms1 rfl (by rfl) hk ?_;try walk_nrm)
 refine .op rfl (by rfl) hk fun w1 hR K hK=>?_;replace hF:=hF.rely hR;clear hR;obtain ⟨a0,a1,a2,a3⟩:=hF.lins (k:=0) rfl;go_simp;try (unfold stored;go_simp)
 refine hK _ _ ⟨?_,?_⟩
 ·refine hF.llooks (k:=0) rfl ?_;co_evs (exact ⟨_,rfl⟩)
 clear hK K;clear a0 a1 a2 a3;try walk_nrm
 refine .opV L.terms1 rfl (by rfl) hk ?_;try walk_nrm
 refine .op rfl (by rfl) hk fun w1 hR K hK=>?_;replace hF:=hF.rely hR;clear hR;have hc:World.cell? _ ⟨g,25+R,none⟩=some (.int .i64 ((zset (zset z 46 (IntKind.i64.wrap (z 46+1))) 45 ((nx:Int)+1)) (25+R))):=KnL.cz hi hF (by omega) (by omega);have hz2:World.frozen? _ ⟨g,25+R,none⟩=false:=KnL.cfz hi hF (25+R);go_simp;try (unfold stored;go_simp)
 refine hK _ _ ⟨?_,?_⟩
 ·refine KnL.cdoes hi hF (25+R) _ ?_;co_evs (exact rfl)
 clear hK K;clear hc hz2;replace hF:=KnL.cset hi hF (j:=25+R) (by omega) (N);try walk_nrm
 repeat refine .c1 L.terms1 rfl ?_
 refine .regionL L.terms1 [0,1,2] (by rfl) ?_;refine .opV L.terms1 rfl (by rfl) hk ?_;try walk_nrm
 refine .op rfl (by rfl) hk fun w1 hR K hK=>?_;replace hF:=hF.rely hR;clear hR;obtain ⟨a0,a1,a2,a3⟩:=hF.lins (k:=0) rfl;go_simp;try (unfold stored;go_simp)
 refine hK _ _ ⟨?_,?_⟩
 ·refine hF.llooks (k:=0) rfl ?_;co_evs (exact ⟨_,rfl⟩)
 clear hK K;clear a0 a1 a2 a3;try walk_nrm
 refine .opV L.terms1 rfl (by rfl) hk ?_;try walk_nrm
 repeat refine .c1 L.terms1 rfl ?_
 refine Y1.ret L.terms1 fun todo=>?_;exact Ret _ todo _ _ rfl (Xj L.terms1 (by rfl) _) ⟨by rfl,hF.drop⟩
theorem Yb6 (hev:((97:Nat)==L.ev)=false) (hi:rows[ic]?=some (Y5 g num net (.slice (some ⟨cb,co,none⟩) n cc) z)) (hs:Still L w0 cb) (hcode:∀j,j<n*4→w0.cell? ⟨cb,co+j,none⟩=some (.int .i64 (ci j))) (nx:Nat) (hz:z 45=nx) (hlt:nx<n) (hn:n≤48)
  (R A:Nat) (hR4:R<4) (hA4:A<4) (hop:ci (nx*4)=8) (hR:ci (nx*4+1)=R) (hA:ci (nx*4+2)=A) (N:Int) (hN:ci (nx*4+3)=N) (inV chV:Value) (w:World) (hF:Kn L w0 rows w):
  Yl Tryz.prog false L.R1 L.D1 113 #[.pointer (some ⟨g,0,none⟩),inV,chV] w (fun v w'=>v=.int .i64 8∧Kn L w0 (rows.set ic (Y5 g num net (.slice (some ⟨cb,co,none⟩) n cc) (zset (zset (zset z 46 (IntKind.i64.wrap (z 46+1))) 45 ((nx:Int)+1)) 45 N))) w') (fun _ _=>False):=by
 have hk:(base 113).kind≠.early:=by simp [base]
 refine XI hev hi hs hcode nx hz hlt hn R A hR4 hA4 hop hR hA N hN inV chV w hF fun cl cs Stop Ret _ B w3 hF=>?_;have hRi:(R:Int)<4:=by omega
 have hAi:(A:Int)<4:=by omega
 repeat refine .c1 L.terms1 rfl ?_
 iterate 7 (refine .regionL L.terms1 [0,1] (by rfl) ?_;iterate 2 (refine .opV L.terms1 rfl (by rfl) hk ?_;try walk_nrm);repeat refine .c1 L.terms1 rfl ?_;refine .condF L.terms1 (by rfl) ?_;repeat refine .c1 L.terms1 rfl ?_)
 refine .regionL L.terms1 [0,1] (by rfl) ?_;iterate 2 (refine .opV L.terms1 rfl (by rfl) hk ?_;try walk_nrm)
 repeat refine .c1 L.terms1 rfl ?_
 refine Y1.condT L.terms1 (by rfl) ?_;repeat refine .c1 L.terms1 rfl ?_
 refine .regionL L.terms1 [0,1,2,3,4,5,6] (by rfl) ?_;iterate 2 (refine .opV L.terms1 rfl (by rfl) hk ?_;try walk_nrm)
 refine .op rfl (by rfl) hk fun w1 hR K hK=>?_;replace hF:=hF.rely hR;clear hR;obtain ⟨a0,a1,a2,a3⟩:=hF.lins (k:=0) rfl;go_simp;try (unfold stored;go_simp)
 refine hK _ _ ⟨?_,?_⟩
 ·refine hF.llooks (k:=0) rfl ?_;co_evs (exact ⟨_,rfl⟩)
 clear hK K;clear a0 a1 a2 a3;try walk_nrm
 iterate 3 (refine .opV L.terms1 rfl (by rfl) hk ?_;try walk_nrm)
 refine .op rfl (by rfl) hk fun w1 hR K hK=>?_;replace hF:=hF.rely hR;clear hR;have hc:World.cell? _ ⟨g,45,none⟩=some (.int .i64 ((zset (zset z 46 (IntKind.i64.wrap (z 46+1))) 45 ((nx:Int)+1)) (45))):=KnL.cz hi hF (by omega) (by omega);have hz2:World.frozen? _ ⟨g,45,none⟩=false:=KnL.cfz hi hF (45);go_simp;try (unfold stored;go_simp)
 refine hK _ _ ⟨?_,?_⟩
 ·refine KnL.cdoes hi hF (45) _ ?_;co_evs (exact rfl)
 clear hK K;clear hc hz2;replace hF:=KnL.cset hi hF (j:=45) (by omega) (N);try walk_nrm
 repeat refine .c1 L.terms1 rfl ?_
 refine .regionL L.terms1 [0,1,2] (by rfl) ?_;refine .opV L.terms1 rfl (by rfl) hk ?_;try walk_nrm
 refine .op rfl (by rfl) hk fun w1 hR K hK=>?_;replace hF:=hF.rely hR;clear hR;obtain ⟨a0,a1,a2,a3⟩:=hF.lins (k:=0) rfl;go_simp;try (unfold stored;go_simp)
 refine hK _ _ ⟨?_,?_⟩
 ·refine hF.llooks (k:=0) rfl ?_;co_evs (exact ⟨_,rfl⟩)
 clear hK K;clear a0 a1 a2 a3;try walk_nrm
 refine .opV L.terms1 rfl (by rfl) hk ?_;try walk_nrm
 repeat refine .c1 L.terms1 rfl ?_
 refine Y1.ret L.terms1 fun todo=>?_;exact Ret _ todo _ _ rfl (Xj L.terms1 (by rfl) _) ⟨by rfl,hF.drop⟩
theorem Y5l (hev:((97:Nat)==L.ev)=false) (hi:rows[ic]?=some (Y5 g num net (.slice (some ⟨cb,co,none⟩) n cc) z)) (hs:Still L w0 cb) (hcode:∀j,j<n*4→w0.cell? ⟨cb,co+j,none⟩=some (.int .i64 (ci j))) (nx:Nat) (hz:z 45=nx) (hlt:nx<n) (hn:n≤48)
  (R A:Nat) (hR4:R<4) (hA4:A<4) (hop:ci (nx*4)=9) (hR:ci (nx*4+1)=R) (hA:ci (nx*4+2)=A) (N:Int) (hN:ci (nx*4+3)=N) (h0:(zset (zset z 46 (IntKind.i64.wrap (z 46+1))) 45 ((nx:Int)+1)) (25+R)=0) (inV chV:Value) (w:World) (hF:Kn L w0 rows w):
  Yl Tryz.prog false L.R1 L.D1 113 #[.pointer (some ⟨g,0,none⟩),inV,chV] w (fun v w'=>v=.int .i64 9∧Kn L w0 (rows.set ic (Y5 g num net (.slice (some ⟨cb,co,none⟩) n cc) (zset (zset (zset z 46 (IntKind.i64.wrap (z 46+1))) 45 ((nx:Int)+1)) 45 N))) w') (fun _ _=>False):=by
 have hk:(base 113).kind≠.early:=by simp [base]
 refine XI hev hi hs hcode nx hz hlt hn R A hR4 hA4 hop hR hA N hN inV chV w hF fun cl cs Stop Ret _ B w3 hF=>?_;have hRi:(R:Int)<4:=by omega
 have hAi:(A:Int)<4:=by omega
 repeat refine .c1 L.terms1 rfl ?_
 iterate 8 (refine .regionL L.terms1 [0,1] (by rfl) ?_;iterate 2 (refine .opV L.terms1 rfl (by rfl) hk ?_;try walk_nrm);repeat refine .c1 L.terms1 rfl ?_;refine .condF L.terms1 (by rfl) ?_;repeat refine .c1 L.terms1 rfl ?_)
 refine .regionL L.terms1 [0,1] (by rfl) ?_;iterate 2 (refine .opV L.terms1 rfl (by rfl) hk ?_;try walk_nrm)
 repeat refine .c1 L.terms1 rfl ?_
 refine Y1.condT L.terms1 (by rfl) ?_;repeat refine .c1 L.terms1 rfl ?_
 refine .regionL L.terms1 [0,1,2,3] (by rfl) ?_;iterate 2 (refine .opV L.terms1 rfl (by rfl) hk ?_;try walk_nrm)
 refine .op rfl (by rfl) hk fun w1 hR K hK=>?_;replace hF:=hF.rely hR;clear hR;have hc:World.cell? _ ⟨g,25+R,none⟩=some (.int .i64 ((zset (zset z 46 (IntKind.i64.wrap (z 46+1))) 45 ((nx:Int)+1)) (25+R))):=KnL.cz hi hF (by omega) (by omega);go_simp;try (unfold stored;go_simp)
 refine hK _ _ ⟨?_,?_⟩
 ·refine KnL.clooks hi hF ?_;co_evs (exact ⟨_,rfl⟩)
 clear hK K;clear hc;try walk_nrm
 refine .opV L.terms1 rfl (by rfl) hk ?_;try walk_nrm
 repeat refine .c1 L.terms1 rfl ?_
 refine Y1.condT L.terms1 (by first|rfl|simp [Act.eval]) ?_;repeat refine .c1 L.terms1 rfl ?_
 refine .regionL L.terms1 [0,1,2,3,4,5,6] (by rfl) ?_;iterate 2 (refine .opV L.terms1 rfl (by rfl) hk ?_;try walk_nrm)
 refine .op rfl (by rfl) hk fun w1 hR K hK=>?_;replace hF:=hF.rely hR;clear hR;obtain ⟨a0,a1,a2,a3⟩:=hF.lins (k:=0) rfl;go_simp;try (unfold stored;go_simp)
 refine hK _ _ ⟨?_,?_⟩
 ·refine hF.llooks (k:=0) rfl ?_;co_evs (exact ⟨_,rfl⟩)
 clear hK K;clear a0 a1 a2 a3;try walk_nrm
 iterate 3 (refine .opV L.terms1 rfl (by rfl) hk ?_;try walk_nrm)
 refine .op rfl (by rfl) hk fun w1 hR K hK=>?_;replace hF:=hF.rely hR;clear hR;have hc:World.cell? _ ⟨g,45,none⟩=some (.int .i64 ((zset (zset z 46 (IntKind.i64.wrap (z 46+1))) 45 ((nx:Int)+1)) (45))):=KnL.cz hi hF (by omega) (by omega);have hz2:World.frozen? _ ⟨g,45,none⟩=false:=KnL.cfz hi hF (45);go_simp;try (unfold stored;go_simp)
 refine hK _ _ ⟨?_,?_⟩
 ·refine KnL.cdoes hi hF (45) _ ?_;co_evs (exact rfl)
 clear hK K;clear hc hz2;replace hF:=KnL.cset hi hF (j:=45) (by omega) (N);try walk_nrm
 repeat refine .c1 L.terms1 rfl ?_
 refine .regionL L.terms1 [0,1,2] (by rfl) ?_;refine .opV L.terms1 rfl (by rfl) hk ?_;try walk_nrm
 refine .op rfl (by rfl) hk fun w1 hR K hK=>?_;replace hF:=hF.rely hR;clear hR;obtain ⟨a0,a1,a2,a3⟩:=hF.lins (k:=0) rfl;go_simp;try (unfold stored;go_simp)
 refine hK _ _ ⟨?_,?_⟩
 ·refine hF.llooks (k:=0) rfl ?_;co_evs (exact ⟨_,rfl⟩)
 clear hK K;clear a0 a1 a2 a3;try walk_nrm
 refine .opV L.terms1 rfl (by rfl) hk ?_;try walk_nrm
 repeat refine .c1 L.terms1 rfl ?_
 refine Y1.ret L.terms1 fun todo=>?_;exact Ret _ todo _ _ rfl (Xj L.terms1 (by rfl) _) ⟨by rfl,hF.drop⟩
theorem Y8m (hev:((97:Nat)==L.ev)=false) (hi:rows[ic]?=some (Y5 g num net (.slice (some ⟨cb,co,none⟩) n cc) z)) (hs:Still L w0 cb) (hcode:∀j,j<n*4→w0.cell? ⟨cb,co+j,none⟩=some (.int .i64 (ci j))) (nx:Nat) (hz:z 45=nx) (hlt:nx<n) (hn:n≤48)
  (R A:Nat) (hR4:R<4) (hA4:A<4) (hop:ci (nx*4)=9) (hR:ci (nx*4+1)=R) (hA:ci (nx*4+2)=A) (N:Int) (hN:ci (nx*4+3)=N) (h0:(zset (zset z 46 (IntKind.i64.wrap (z 46+1))) 45 ((nx:Int)+1)) (25+R)≠0) (inV chV:Value) (w:World) (hF:Kn L w0 rows w):
  Yl Tryz.prog false L.R1 L.D1 113 #[.pointer (some ⟨g,0,none⟩),inV,chV] w (fun v w'=>v=.int .i64 9∧Kn L w0 (rows.set ic (Y5 g num net (.slice (some ⟨cb,co,none⟩) n cc) (zset (zset z 46 (IntKind.i64.wrap (z 46+1))) 45 ((nx:Int)+1)))) w') (fun _ _=>False):=by
 have hb:((zset (zset z 46 (IntKind.i64.wrap (z 46+1))) 45 ((nx:Int)+1)) (25+R)==0)=false:=by simpa using h0
 have hk:(base 113).kind≠.early:=by simp [base]
 refine XI hev hi hs hcode nx hz hlt hn R A hR4 hA4 hop hR hA N hN inV chV w hF fun cl cs Stop Ret _ B w3 hF=>?_;have hRi:(R:Int)<4:=by omega
 have hAi:(A:Int)<4:=by omega
 repeat refine .c1 L.terms1 rfl ?_
 iterate 8 (refine .regionL L.terms1 [0,1] (by rfl) ?_;iterate 2 (refine .opV L.terms1 rfl (by rfl) hk ?_;try walk_nrm);repeat refine .c1 L.terms1 rfl ?_;refine .condF L.terms1 (by rfl) ?_;repeat refine .c1 L.terms1 rfl ?_)
 refine .regionL L.terms1 [0,1] (by rfl) ?_;iterate 2 (refine .opV L.terms1 rfl (by rfl) hk ?_;try walk_nrm)
 repeat refine .c1 L.terms1 rfl ?_
 refine Y1.condT L.terms1 (by rfl) ?_;repeat refine .c1 L.terms1 rfl ?_
 refine .regionL L.terms1 [0,1,2,3] (by rfl) ?_;iterate 2 (refine .opV L.terms1 rfl (by rfl) hk ?_;try walk_nrm)
 refine .op rfl (by rfl) hk fun w1 hR K hK=>?_;replace hF:=hF.rely hR;clear hR;have hc:World.cell? _ ⟨g,25+R,none⟩=some (.int .i64 ((zset (zset z 46 (IntKind.i64.wrap (z 46+1))) 45 ((nx:Int)+1)) (25+R))):=KnL.cz hi hF (by omega) (by omega);go_simp;try (unfold stored;go_simp)
 refine hK _ _ ⟨?_,?_⟩
 ·refine KnL.clooks hi hF ?_;co_evs (exact ⟨_,rfl⟩)
 clear hK K;clear hc;try walk_nrm
 refine .opV L.terms1 rfl (by rfl) hk ?_;try walk_nrm
 repeat refine .c1 L.terms1 rfl ?_
 refine Y1.condF L.terms1 (by first|rfl|simp [Act.eval,hb]) ?_;repeat refine .c1 L.terms1 rfl ?_
 refine .regionL L.terms1 [0,1,2] (by rfl) ?_;refine .opV L.terms1 rfl (by rfl) hk ?_;try walk_nrm
 refine .op rfl (by rfl) hk fun w1 hR K hK=>?_;replace hF:=hF.rely hR;clear hR;obtain ⟨a0,a1,a2,a3⟩:=hF.lins (k:=0) rfl;go_simp;try (unfold stored;go_simp)
 refine hK _ _ ⟨?_,?_⟩
 ·refine hF.llooks (k:=0) rfl ?_;co_evs (exact ⟨_,rfl⟩)
 clear hK K;clear a0 a1 a2 a3;try walk_nrm
 refine .opV L.terms1 rfl (by rfl) hk ?_;try walk_nrm
 repeat refine .c1 L.terms1 rfl ?_
 refine Y1.ret L.terms1 fun todo=>?_;exact Ret _ todo _ _ rfl (Xj L.terms1 (by rfl) _) ⟨by rfl,hF.drop⟩
end
end Go.Proofs.YtdoghgnifkgfdaaGreat.Mute
