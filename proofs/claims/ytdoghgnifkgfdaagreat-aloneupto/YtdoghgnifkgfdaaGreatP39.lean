import Derived.Test.YtdoghgnifkgfdaaGreatP09
import Derived.Test.YtdoghgnifkgfdaaGreatP32
import Derived.Test.YtdoghgnifkgfdaaGreatP37
set_option maxRecDepth 100000
set_option maxHeartbeats 4000000
namespace Go.Proofs.YtdoghgnifkgfdaaGreat.Mute
open Go Go.Conc Go.RowKit
noncomputable def Y33:Code:=match Tryz.f15.body with
 |some (.seq _ (.seq _ (.seq (.seq _ (.block _ (.loop c))) _)))=>c
 |_=>.skip
noncomputable def Y2p:Code:=match Tryz.f15.body with
 |some (.seq _ (.seq _ (.seq _ c)))=>c
 |_=>.skip
section
variable {Post:Goroutine→World→Prop} {wR:World} {k:Ker} {wsB wo nW cW:Nat} {wn:Nat→Nat×Nat} {inV:Value}
theorem Y8S (hinV:∃ip il ic,inV=.slice ip il ic) (hnW:nW≤1000) (hwn:∀j,j<nW→(wn j).1<k.nC∧(wn j).2≤200) (x7 x8 x9 x10 x11 x12 x13 x14 x15 x16 x17 x18:Value) (cs:List Frame):
  ∀(rem j:Nat) (s:KSt) (f:Nat→Value) (w:World) (u6 u22 u23 u24 u25 u26 u27 u28 u29:Value),j+rem=nW→(∀i,s.m i+rem*201≤1000000000)→Fw wR w k wsB wo nW wn s.z f s.m s.xs→
   (∀(f':Nat→Value) (w':World) (u6 u22 u23 u24 u25 u26 u27 u28 u29:Value),Fw wR w' k wsB wo nW wn (rowS k wn rem j s).z f' (rowS k wn rem j s).m (rowS k wn rem j s).xs→Y3 Tryz.prog Post (G ((base 15).at {tmps:=(List.toArray ((.pointer (some ⟨k.kb,0,none⟩))::(inV)::(undef)::(undef)::(.int .i64 0)::(undef)::(u6)::(x7)::(x8)::(x9)::(x10)::(x11)::(x12)::(x13)::(x14)::(x15)::(x16)::(x17)::(x18)::(.slice (some ⟨wsB,wo,none⟩) nW cW)::(.int .i64 nW)::(.int .i64 nW)::(u22)::(u23)::(u24)::(u25)::(u26)::(u27)::(u28)::(u29)::(undef)::(undef)::(undef)::(undef)::(undef)::(undef)::(undef)::(undef)::(undef)::(undef)::(undef)::(undef)::(undef)::(undef)::(undef)::(undef)::(undef)::(undef)::(undef)::[])),defers:=[]} [.code Y2p]) cs) w')→
   Y3 Tryz.prog Post (G ((base 15).at {tmps:=(List.toArray ((.pointer (some ⟨k.kb,0,none⟩))::(inV)::(undef)::(undef)::(.int .i64 0)::(undef)::(u6)::(x7)::(x8)::(x9)::(x10)::(x11)::(x12)::(x13)::(x14)::(x15)::(x16)::(x17)::(x18)::(.slice (some ⟨wsB,wo,none⟩) nW cW)::(.int .i64 nW)::(.int .i64 j)::(u22)::(u23)::(u24)::(u25)::(u26)::(u27)::(u28)::(u29)::(undef)::(undef)::(undef)::(undef)::(undef)::(undef)::(undef)::(undef)::(undef)::(undef)::(undef)::(undef)::(undef)::(undef)::(undef)::(undef)::(undef)::(undef)::(undef)::[])),defers:=[]} [.code Y33,.inLoop Y33,.inBlock 0,.code Y2p]) cs) w:=by
 have hk:(base 15).kind≠.early:=by simp [base]
 intro rem;induction rem with
 |zero=>
  intro j s f w u6 u22 u23 u24 u25 u26 u27 u28 u29 hj hm hF hp;obtain rfl:j=nW:=by omega
  refine Y3.of_goes ?_;repeat refine .c1 Y2 rfl ?_
  refine .regionL Y2 [0] (by rfl) ?_;refine .opV Y2 rfl (by rfl) hk ?_;try walk_nrm
  repeat refine .c1 Y2 rfl ?_
  refine Y1.condF Y2 (by first|rfl|simp [Act.eval]) ?_;refine Y1.exit Y2 rfl ?_;refine .stop rfl fun w1 hR=>?_;exact hp _ _ _ _ _ _ _ _ _ _ _ (hF.rely hR)
 |succ rem ih=>
  intro j s f w u6 u22 u23 u24 u25 u26 u27 u28 u29 hj hm hF hp;have hlt:j<nW:=by omega
  have hli:(j:Int)<(nW:Int):=by omega
  obtain ⟨hcell,hbud⟩:=hwn j hlt;refine Y3.of_goes ?_;repeat refine .c1 Y2 rfl ?_
  refine .regionL Y2 [0] (by rfl) ?_;refine .opV Y2 rfl (by rfl) hk ?_;try walk_nrm
  repeat refine .c1 Y2 rfl ?_
  refine Y1.condT Y2 (by first|rfl|simp [Act.eval]) ?_;repeat refine .c1 Y2 rfl ?_
  refine .regionL Y2 [0,1,2,3] (by rfl) ?_;refine .op rfl (by rfl) hk fun w1 hR K hK=>?_;replace hF:=hF.rely hR;clear hR;go_simp;try (unfold stored;go_simp)
  refine hK _ _ ⟨?_,?_⟩
  ·co_still Y2
  clear hK K;try walk_nrm
  refine .op rfl (by rfl) hk fun w1 hR K hK=>?_;replace hF:=hF.rely hR;clear hR;have a0:=hF.c0 j hlt;have a1:=hF.c1 j hlt;go_simp;try (unfold stored;go_simp)
  refine hK _ _ ⟨?_,?_⟩
  ·(intro e he;have hm:=mem_listed he;simp [go_sem, *] at hm;rcases hm with rfl|rfl<;>exact YR _ _ _)
  clear hK K;clear a0 a1;try walk_nrm
  refine .op rfl (by rfl) hk fun w1 hR K hK=>?_;replace hF:=hF.rely hR;clear hR;go_simp;try (unfold stored;go_simp)
  refine hK _ _ ⟨?_,?_⟩
  ·(intro e he;have hm:=mem_listed he;simp [go_sem, *] at hm)
  clear hK K;try walk_nrm
  refine Y1.op rfl (by rfl) hk ?_;intro w2 hR K hK;obtain ⟨d,rfl⟩:=hR;have hE:=hF.box.2;have a0:World.cell? ((w1.alloc (.cells #[.int .i64 0,.int .i64 0] 102)).at d) ⟨w1.heap.size,0,none⟩=some (.int .i64 0):=hE.cell (j:=0) (by omega);have a1:World.cell? ((w1.alloc (.cells #[.int .i64 0,.int .i64 0] 102)).at d) ⟨w1.heap.size,1,none⟩=some (.int .i64 0):=hE.cell (j:=1) (by omega);have z0:World.frozen? ((w1.alloc (.cells #[.int .i64 0,.int .i64 0] 102)).at d) ⟨w1.heap.size,0,none⟩=false:=hE.frozen 0;have z1:World.frozen? ((w1.alloc (.cells #[.int .i64 0,.int .i64 0] 102)).at d) ⟨w1.heap.size,1,none⟩=false:=hE.frozen 1;obtain ⟨hF2,hE2⟩:=hF.box2 d (wn j).1 (wn j).2;generalize hW:((w1.alloc (.cells #[.int .i64 0,.int .i64 0] 102)).at d)=w2 at *;generalize hN:w1.heap.size=E at *;go_simp;try (unfold stored;go_simp)
  refine hK _ _ ⟨?_,?_⟩
  ·(intro e he;have hm:=mem_listed he;simp [go_sem, *] at hm;rcases hm with rfl|rfl<;>exact YR _ _ _)
  clear hK K a0 a1 z0 z1 hF hE;generalize hW2:((w2.setCell ⟨E,0,none⟩ (.int .i64 (wn j).1)).setCell ⟨E,1,none⟩ (.int .i64 (wn j).2))=w3 at *;clear hW hW2 hN;have hF:=hF2;have hE:=hE2;clear hF2 hE2;try walk_nrm
  repeat refine .c1 Y2 rfl ?_
  refine .regionL Y2 [0,1,2,3] (by rfl) ?_;refine .opV Y2 rfl (by rfl) hk ?_;try walk_nrm
  refine .op rfl (by rfl) hk fun w1 hR K hK=>?_;replace hF:=hF.rely hR;replace hE:=Y4h hE hR;clear hR;have a0:=hE.cell (j:=0) (by omega);have a1:=hE.cell (j:=1) (by omega);simp only [pair] at a0 a1;go_simp;try (unfold stored;go_simp)
  refine hK _ _ ⟨?_,?_⟩
  ·(intro e he;have hm:=mem_listed he;simp [go_sem, *] at hm;rcases hm with rfl|rfl<;>exact YR _ _ _)
  clear hK K;clear a0 a1;try walk_nrm
  refine .opV Y2 rfl (by rfl) hk ?_;try walk_nrm
  refine .stop rfl fun w1 hR=>?_;replace hF:=hF.rely hR;replace hE:=Y4h hE hR;clear hR;refine Y3.call rfl (by rfl) hk (fun d=>?run) (fun d=>?evs) (Yaj (hF.kn.ready hcell) hbud (by have:=hm (wn j).1;omega) hinV) (fun v w' hv=>?_)
  case run=>kernel_rfl
  case evs=>
   rw [listed_nil (by kernel_rfl)];simp
  obtain ⟨rfl,f',hA⟩:=hv;replace hF:=hF.after hcell hA;clear hA hE;refine Y3.of_goes ?_;have hwr:IntKind.i64.wrap ((j:Int)+1)=((j+1:Nat):Int):=by rw [IntKind.wrap_i64];omega
  try walk_nrm
  repeat refine .c1 Y2 rfl ?_
  refine .regionL Y2 [0,1] (by rfl) ?_;iterate 2 (refine .opV Y2 rfl (by rfl) hk ?_;try walk_nrm)
  repeat refine .c1 Y2 rfl ?_
  refine Y1.inLoop Y2 ?_;refine .stop rfl fun w1 hR=>?_;refine ih (j+1) (winS k (wn j) s) f' w1 _ _ _ _ _ _ _ _ _ (by omega) (fun i=>?_) (hF.rely hR) hp;show updN s.m (wn j).1 _ i+rem*201≤1000000000;have h1:=hm i;have h2:=(JW (k.n (wn j).1) (k.ci (wn j).1) (wn j).2 (s.z (wn j).1)).2;unfold updN;split
  ·subst i;omega
  ·omega
end
section
theorem Ybu {w:World} {nb n1 n2:Nat} {q1 q2:Option Addr} (h1:w.cell? ⟨nb,1,none⟩=some (.slice q1 0 n1)) (h2:w.cell? ⟨nb,2,none⟩=some (.slice q2 0 n2)):CallsR Tryz.prog 32 #[.pointer (some ⟨nb,0,none⟩)] w (fun v w'=>v=.tuple #[]∧∃d,w'=w.at d):=by
 refine CallsR.introT #[.pointer (some ⟨nb,0,none⟩),undef,undef,undef,undef,undef,undef,undef,undef,undef,undef,undef,undef,undef,undef,undef,undef,undef,undef,undef,undef,undef,undef,undef,undef,undef,undef,undef,undef,undef,undef,undef,undef,undef,undef,undef] Tryz.func32 (by rfl) (by kernel_rfl) fun cs Post hp=>?_;have hk:(base 32).kind≠.early:=by simp [base]
 refine Y3.of_goes ?_;have hF:=Is.self w;repeat refine .c1 Y2 rfl ?_
 refine .regionL Y2 [0,1,2,3,4,5] (by rfl) ?_;iterate 3 (refine .opV Y2 rfl (by rfl) hk ?_;try walk_nrm)
 refine .op rfl (by rfl) hk fun w1 hR K hK=>?_;replace hF:=hF.rely hR;clear hR;have hc:World.cell? _ ⟨nb,1,none⟩=some (.slice q1 0 n1):=(hF.cell _).trans h1;go_simp;try (unfold stored;go_simp)
 refine hK _ _ ⟨?_,?_⟩
 ·co_evs (exact YR _ _ _)
 clear hK K;clear hc;try walk_nrm
 iterate 2 (refine .opV Y2 rfl (by rfl) hk ?_;try walk_nrm)
 repeat refine .c1 Y2 rfl ?_
 refine Y1.loop Y2 ?_;repeat refine .c1 Y2 rfl ?_
 refine .regionL Y2 [0] (by rfl) ?_;refine .opV Y2 rfl (by rfl) hk ?_;try walk_nrm
 repeat refine .c1 Y2 rfl ?_
 refine Y1.condF Y2 (by first|rfl|simp [Act.eval]) ?_;refine Y1.exit Y2 rfl ?_;repeat refine .c1 Y2 rfl ?_
 refine .regionL Y2 [0,1,2,3,4,5] (by rfl) ?_;iterate 3 (refine .opV Y2 rfl (by rfl) hk ?_;try walk_nrm)
 refine .op rfl (by rfl) hk fun w1 hR K hK=>?_;replace hF:=hF.rely hR;clear hR;have hc:World.cell? _ ⟨nb,2,none⟩=some (.slice q2 0 n2):=(hF.cell _).trans h2;go_simp;try (unfold stored;go_simp)
 refine hK _ _ ⟨?_,?_⟩
 ·co_evs (exact YR _ _ _)
 clear hK K;clear hc;try walk_nrm
 iterate 2 (refine .opV Y2 rfl (by rfl) hk ?_;try walk_nrm)
 repeat refine .c1 Y2 rfl ?_
 refine Y1.loop Y2 ?_;repeat refine .c1 Y2 rfl ?_
 refine .regionL Y2 [0] (by rfl) ?_;refine .opV Y2 rfl (by rfl) hk ?_;try walk_nrm
 repeat refine .c1 Y2 rfl ?_
 refine Y1.condF Y2 (by first|rfl|simp [Act.eval]) ?_;refine Y1.exit Y2 rfl ?_;refine Y1.fin Y2 ?_;refine .stop rfl fun w1 hR=>?_;obtain ⟨d,rfl⟩:=hF.rely hR;exact hp _ _ _ _ rfl (fun d=>results_none (by rfl) _ _ _) ⟨rfl,d,rfl⟩
end
section
variable {w w1:World} {k:Ker} {wsB wo nW cW:Nat} {wn:Nat→Nat×Nat} {inV:Value} {s:KSt} {z:Nat→Nat→Int} {f:Nat→Value} {m:Nat→Nat} {xs:Nat→List Value} {tb nT cT r n1 n2 ip il ic:Nat}
theorem Y4j (w:World):RS w {w with drawn:=w.drawn+1}:=⟨w.drawn+1,rfl⟩
theorem Fw.cell (h:Fw w w1 k wsB wo nW wn z f m xs) {a:Addr} (hs:Stat w a.block):w1.cell? a=w.cell? a:=cell_of_heap (h.st _ hs)
theorem Fw.frozen (h:Fw w w1 k wsB wo nW wn z f m xs) {a:Addr} (hs:Stat w a.block):w1.frozen? a=w.frozen? a:=by
 unfold World.frozen?;rw [h.st _ hs]
theorem Yag (hKN:KNow w k s.z f s.m s.xs) (h0:w.cell? ⟨k.kb,0,none⟩=some (.slice (some ⟨tb,0,none⟩) nT cT)) (hr:w.cell? ⟨k.kb,1,none⟩=some (.int .i64 r)) (h3:w.cell? ⟨k.kb,3,none⟩=some (.pointer (some ⟨k.nb,0,none⟩))) (hfz:w.frozen? ⟨k.kb,1,none⟩=false)
  (stb:Stat w tb) (hrow:w.cell? ⟨tb,r,none⟩=some (.slice (some ⟨wsB,wo,none⟩) nW cW)) (hrT:r<nT) (hnT:nT≤1000) (sW:Stat w wsB) (c0:∀j,j<nW→w.cell? ⟨wsB,wo+j*2,none⟩=some (.int .i64 (wn j).1)) (c1:∀j,j<nW→w.cell? ⟨wsB,wo+j*2+1,none⟩=some (.int .i64 (wn j).2))
  {q1 q2:Option Addr} (hn1:w.cell? ⟨k.nb,1,none⟩=some (.slice q1 0 n1)) (hn2:w.cell? ⟨k.nb,2,none⟩=some (.slice q2 0 n2)) (hnW:nW≤1000) (hwn:∀j,j<nW→(wn j).1<k.nC∧(wn j).2≤200) (hm:∀i,s.m i+nW*201≤1000000000) (ip:Option Addr) (hil:il≤4):
  CallsR Tryz.prog 15 #[.pointer (some ⟨k.kb,0,none⟩),.slice ip il ic] w (fun v w'=>v=.int .i64 0∧∃f' w1 d,Fw w w1 k wsB wo nW wn (rowS k wn nW 0 s).z f' (rowS k wn nW 0 s).m (rowS k wn nW 0 s).xs∧w'=(w1.setCell ⟨k.kb,1,none⟩ (.int .i64 (((r:Int)+1).tmod nT))).at d):=by
 refine CallsR.introT (List.toArray ((.pointer (some ⟨k.kb,0,none⟩))::(.slice ip il ic)::undef::undef::undef::undef::undef::undef::undef::undef::undef::undef::undef::undef::undef::undef::undef::undef::undef::undef::undef::undef::undef::undef::undef::undef::undef::undef::undef::undef::undef::undef::undef::undef::undef::undef::undef::undef::undef::undef::undef::undef::undef::undef::undef::undef::undef::undef::undef::[])) Tryz.func15 (by rfl) (by kernel_rfl) fun cs Post hp=>?_;have hk:(base 15).kind≠.early:=by simp [base]
 refine Y3.of_goes ?_;have hF:Fw w w k wsB wo nW wn s.z f s.m s.xs:=⟨hKN,sW,c0,c1,fun _ _=>rfl,⟨rfl,rfl,rfl,Nat.le_refl _⟩,fun fR hR=>⟨fun _ _ _=>rfl,fun i b hi hb=>.inl (by rw [←(hKN.tr.cell hi).symm.trans (hR.cell hi) |> Option.some.inj];exact hb)⟩⟩;have hil':¬((4:Int)<(il:Int)):=by omega
 have hri:(r:Int)<(nT:Int):=by omega
 try walk_nrm
 repeat refine .c1 Y2 rfl ?_
 refine .regionL Y2 [0] (by rfl) ?_;refine .opV Y2 rfl (by rfl) hk ?_;try walk_nrm
 repeat refine .c1 Y2 rfl ?_
 refine .regionL Y2 [0,1,2] (by rfl) ?_;iterate 3 (refine .opV Y2 rfl (by rfl) hk ?_;try walk_nrm)
 repeat refine .c1 Y2 rfl ?_
 refine Y1.condF Y2 (by first|rfl|simp [Act.eval,hil']) ?_;repeat refine .c1 Y2 rfl ?_
 refine Y1.drawnN (S:=(fun w1=>Fw w w1 k wsB wo nW wn s.z f s.m s.xs)) (Die:=fun _ _=>False) Y2 Ju 12 (by rfl) hk (by kernel_rfl) (fun _ _ _ h=>h) (fun _ _ _ h=>h.elim) fun w1 hR=>?_;replace hF:=(hF.rely hR).rely (Y4j _);clear hR;refine Y4 Y2 0 (fun _ _ h r=>Fw.rely h r) hF ?_;try walk_nrm
 refine Y4 Y2 1 (fun _ _ h r=>Fw.rely h r) hF ?_;try walk_nrm
 refine Y4 Y2 2 (fun _ _ h r=>Fw.rely h r) hF ?_;try walk_nrm
 refine Ye Y2 3 rfl (fun _ _ h r=>Fw.rely h r) hF ?_ fun _ hw=>⟨run_eq_of (by
  intro K hK;have hc:World.cell? _ ⟨k.kb,0,none⟩=some (.slice (some ⟨tb,0,none⟩) nT cT):=(hw.cell (a:=⟨k.kb,0,none⟩) hKN.skb).trans h0;go_simp;exact hK),by
  have hc:World.cell? _ ⟨k.kb,0,none⟩=some (.slice (some ⟨tb,0,none⟩) nT cT):=(hw.cell (a:=⟨k.kb,0,none⟩) hKN.skb).trans h0
  co_evs (exact YR _ _ _)⟩
 try walk_nrm
 refine Y4 Y2 4 (fun _ _ h r=>Fw.rely h r) hF ?_;try walk_nrm
 refine Y4 Y2 5 (fun _ _ h r=>Fw.rely h r) hF ?_;try walk_nrm
 refine Y4 Y2 6 (fun _ _ h r=>Fw.rely h r) hF ?_;try walk_nrm
 refine Ye Y2 7 rfl (fun _ _ h r=>Fw.rely h r) hF ?_ fun _ hw=>⟨run_eq_of (by
  intro K hK;have hc:World.cell? _ ⟨k.kb,1,none⟩=some (.int .i64 r):=(hw.cell (a:=⟨k.kb,1,none⟩) hKN.skb).trans hr;go_simp;exact hK),by
  have hc:World.cell? _ ⟨k.kb,1,none⟩=some (.int .i64 r):=(hw.cell (a:=⟨k.kb,1,none⟩) hKN.skb).trans hr
  co_evs (exact YR _ _ _)⟩
 try walk_nrm
 refine Ye Y2 8 rfl (fun _ _ h r=>Fw.rely h r) hF ?_ fun _ hw=>⟨run_eq_of (by
  intro K hK;go_simp;exact hK),by
  co_still Y2⟩
 try walk_nrm
 refine Ye Y2 9 rfl (fun _ _ h r=>Fw.rely h r) hF ?_ fun _ hw=>⟨run_eq_of (by
  intro K hK;have hc:World.cell? _ ⟨tb,r,none⟩=some (.slice (some ⟨wsB,wo,none⟩) nW cW):=(hw.cell (a:=⟨tb,r,none⟩) stb).trans hrow;go_simp;exact hK),by
  have hc:World.cell? _ ⟨tb,r,none⟩=some (.slice (some ⟨wsB,wo,none⟩) nW cW):=(hw.cell (a:=⟨tb,r,none⟩) stb).trans hrow
  co_evs (exact YR _ _ _)⟩
 try walk_nrm
 refine Y4 Y2 10 (fun _ _ h r=>Fw.rely h r) hF ?_;try walk_nrm
 refine Y4 Y2 11 (fun _ _ h r=>Fw.rely h r) hF ?_;try walk_nrm
 refine Xi (by first|kernel_rfl|decide +kernel) ?_ _;repeat refine .c1 Y2 rfl ?_
 refine Y1.loop Y2 ?_;refine .stop rfl fun w2 hR=>?_;refine Y8S (wR:=w) (cW:=cW) ⟨_,_,_,rfl⟩ hnW hwn _ _ _ _ _ _ _ _ _ _ _ _ cs nW 0 s f w2 _ _ _ _ _ _ _ _ _ (by omega) hm (hF.rely hR) ?_;clear hF hR;intro f' w3 u6 u22 u23 u24 u25 u26 u27 u28 u29 hF;refine Y3.of_goes ?_;try walk_nrm
 repeat refine .c1 Y2 rfl ?_
 refine .regionL Y2 [0,1,2,3,4] (by rfl) ?_;iterate 3 (refine .opV Y2 rfl (by rfl) hk ?_;try walk_nrm)
 refine .op rfl (by rfl) hk fun w1 hR K hK=>?_;replace hF:=hF.rely hR;clear hR;have hc:World.cell? _ ⟨k.kb,3,none⟩=some (.pointer (some ⟨k.nb,0,none⟩)):=(hF.cell (a:=⟨k.kb,3,none⟩) hKN.skb).trans h3;go_simp;try (unfold stored;go_simp)
 refine hK _ _ ⟨?_,?_⟩
 ·co_evs (exact YR _ _ _)
 clear hK K;clear hc;try walk_nrm
 refine .stop rfl fun w4 hR=>?_;replace hF:=hF.rely hR;clear hR;refine Y3.call rfl (by rfl) hk (fun d=>?run) (fun d=>?evs) (Ybu ((hF.cell (a:=⟨k.nb,1,none⟩) hKN.snb).trans hn1) ((hF.cell (a:=⟨k.nb,2,none⟩) hKN.snb).trans hn2)) (fun v w' hv=>?_)
 case run=>kernel_rfl
 case evs=>
  rw [listed_nil (by kernel_rfl)];simp
 obtain ⟨rfl,hd⟩:=hv;replace hF:=hF.rely hd;clear hd;refine Y3.of_goes ?_;have hwr:IntKind.i64.wrap ((r:Int)+1)=((r+1:Nat):Int):=by rw [IntKind.wrap_i64];omega
 have hnz:nT≠0:=by omega
 try walk_nrm
 repeat refine .c1 Y2 rfl ?_
 refine Y1.drawnN (S:=(fun w1=>Fw w w1 k wsB wo nW wn (rowS k wn nW 0 s).z f' (rowS k wn nW 0 s).m (rowS k wn nW 0 s).xs)) (Die:=fun _ _=>False) Y2 Ju 15 (by rfl) hk (by kernel_rfl) (fun _ _ _ h=>h) (fun _ _ _ h=>h.elim) fun w1 hR=>?_;replace hF:=(hF.rely hR).rely (Y4j _);clear hR;refine Y4 Y2 0 (fun _ _ h r=>Fw.rely h r) hF ?_;try walk_nrm
 refine Y4 Y2 1 (fun _ _ h r=>Fw.rely h r) hF ?_;try walk_nrm
 refine Y4 Y2 2 (fun _ _ h r=>Fw.rely h r) hF ?_;try walk_nrm
 refine Y4 Y2 3 (fun _ _ h r=>Fw.rely h r) hF ?_;try walk_nrm
 refine Ye Y2 4 rfl (fun _ _ h r=>Fw.rely h r) hF ?_ fun _ hw=>⟨run_eq_of (by
  intro K hK;have hc:World.cell? _ ⟨k.kb,1,none⟩=some (.int .i64 r):=(hw.cell (a:=⟨k.kb,1,none⟩) hKN.skb).trans hr;go_simp;exact hK),by
  have hc:World.cell? _ ⟨k.kb,1,none⟩=some (.int .i64 r):=(hw.cell (a:=⟨k.kb,1,none⟩) hKN.skb).trans hr
  co_evs (exact YR _ _ _)⟩
 try walk_nrm
 refine Y4 Y2 5 (fun _ _ h r=>Fw.rely h r) hF ?_;try walk_nrm
 refine Y4 Y2 6 (fun _ _ h r=>Fw.rely h r) hF ?_;try walk_nrm
 refine Y4 Y2 7 (fun _ _ h r=>Fw.rely h r) hF ?_;try walk_nrm
 refine Y4 Y2 8 (fun _ _ h r=>Fw.rely h r) hF ?_;try walk_nrm
 refine Ye Y2 9 rfl (fun _ _ h r=>Fw.rely h r) hF ?_ fun _ hw=>⟨run_eq_of (by
  intro K hK;have hc:World.cell? _ ⟨k.kb,0,none⟩=some (.slice (some ⟨tb,0,none⟩) nT cT):=(hw.cell (a:=⟨k.kb,0,none⟩) hKN.skb).trans h0;go_simp;exact hK),by
  have hc:World.cell? _ ⟨k.kb,0,none⟩=some (.slice (some ⟨tb,0,none⟩) nT cT):=(hw.cell (a:=⟨k.kb,0,none⟩) hKN.skb).trans h0
  co_evs (exact YR _ _ _)⟩
 try walk_nrm
 refine Y4 Y2 10 (fun _ _ h r=>Fw.rely h r) hF ?_;try walk_nrm
 refine Ye Y2 11 rfl (fun _ _ h r=>Fw.rely h r) hF ?_ fun _ hw=>⟨run_eq_of (by
  intro K hK;go_simp;exact hK),by
  co_still Y2⟩
 try walk_nrm
 refine Y4 Y2 12 (fun _ _ h r=>Fw.rely h r) hF ?_;try walk_nrm
 refine Y4 Y2 13 (fun _ _ h r=>Fw.rely h r) hF ?_;try walk_nrm
 refine XZ (i:=14) (by first|kernel_rfl|decide +kernel) rfl (by rfl) ?_;intro w1 hR K hK;replace hF:=hF.rely hR;clear hR;have hc:World.cell? _ ⟨k.kb,1,none⟩=some (.int .i64 r):=(hF.cell (a:=⟨k.kb,1,none⟩) hKN.skb).trans hr;have hfz1:=(hF.frozen (a:=⟨k.kb,1,none⟩) hKN.skb).trans hfz;go_simp;try (unfold stored;go_simp)
 refine hK _ _ ⟨?_,?_,?_⟩
 ·co_evs (exact YR _ _ _)
 ·exact .inr (Z8 rfl (by first|kernel_rfl|decide +kernel))
 clear hK K;have hG:=hF;replace hF:=Is.self (w1.setCell ⟨k.kb,1,none⟩ (.int .i64 (((r:Int)+1).tmod nT)));clear hc hfz1;try walk_nrm
 refine Xi (by first|kernel_rfl|decide +kernel) ?_ _;repeat refine .c1 Y2 rfl ?_
 refine .regionL Y2 [0] (by rfl) ?_;refine .opV Y2 rfl (by rfl) hk ?_;try walk_nrm
 repeat refine .c1 Y2 rfl ?_
 refine Y1.ret Y2 fun todo=>?_;refine .stop rfl fun w6 hR=>?_;obtain ⟨d,rfl⟩:=hF.rely hR;exact hp _ _ _ _ rfl (fun d=>(resultsC_tmp (t:=4) (by rfl) _ _).1) ⟨rfl,f',_,d,hG,rfl⟩
end
structure Tab where
 tb:Nat
 cT:Nat
 nT:Nat
 ws:Nat→Nat
 wo:Nat→Nat
 cw:Nat→Nat
 nw:Nat→Nat
 wn:Nat→Nat→Nat×Nat
def KB (k:Ker) (f:Nat→Value) (b:Nat):Prop:=b=k.kb∨b=k.C∨b=k.T∨b=k.nb∨∃i,i<k.nC∧(b=k.g i∨b=k.cb i∨(f i).ownBlock=some b)
theorem KNow.keep {w w':World} {k:Ker} {z:Nat→Nat→Int} {f:Nat→Value} {m:Nat→Nat} {xs:Nat→List Value} (h:KNow w k z f m xs) (hk:∀b,KB k f b→w'.heap[b]?=w.heap[b]?):KNow w' k z f m xs:=by
 have hkb:=hk k.kb (.inl rfl);have hC:=hk k.C (.inr (.inl rfl));have hT:=hk k.T (.inr (.inr (.inl rfl)));have hnb:=hk k.nb (.inr (.inr (.inr (.inl rfl))));have hg:∀i,i<k.nC→w'.heap[k.g i]?=w.heap[k.g i]?:=fun i hi=>hk _ (.inr (.inr (.inr (.inr ⟨i,hi,.inl rfl⟩))));have hcb:∀i,i<k.nC→w'.heap[k.cb i]?=w.heap[k.cb i]?:=fun i hi=>hk _ (.inr (.inr (.inr (.inr ⟨i,hi,.inr (.inl rfl)⟩))));refine ⟨(cell_of_heap (a:=⟨k.kb,2,none⟩) hkb).trans h.k2,(cell_of_heap (a:=⟨k.kb,4,none⟩) hkb).trans h.k4,h.skb.of_heap hkb,h.sC.of_heap hC,h.snb.of_heap hnb,fun i hi=>(h.scb i hi).of_heap (hcb i hi),fun i hi=>(cell_of_heap (a:=⟨k.C,i,none⟩) hC).trans (h.cl i hi),fun i hi=>(h.row i hi).of_heap (hg i hi),h.tr.of_heap hT,fun i hi=>?_,fun i hi j hj=>(cell_of_heap (a:=⟨k.cb i,k.co i+j,none⟩) (hcb i hi)).trans (h.code i hi j hj),?_,h.n48,h.ok,h.zok,h.inj,h.ownNe⟩
 ·exact Xd (L:=⟨0,0,111,fun _=>False,fun _=>False⟩) (h.own i hi) fun b hb=>hk b (.inr (.inr (.inr (.inr ⟨i,hi,.inr (.inr hb)⟩))))
 ·obtain ⟨q,cap,hn⟩:=h.net;exact ⟨q,cap,(cell_of_heap (a:=⟨k.nb,0,none⟩) hnb).trans hn⟩
structure X8 (w:World) (k:Ker) (t:Tab) (s:KSt) (f:Nat→Value) (r:Nat) (S:Nat→Prop):Prop where
 kn:KNow w k s.z f s.m s.xs
 so:SOk k s
 rowK:RowF w k.kb 5 94 (Xo (.slice (some ⟨t.tb,0,none⟩) t.nT t.cT) (.int .i64 r) (.slice (some ⟨k.C,0,none⟩) k.nC k.cC) (.pointer (some ⟨k.nb,0,none⟩)) (.slice (some ⟨k.T,0,none⟩) k.nC k.nC))
 stb:Stat w t.tb
 rows:∀i,i<t.nT→w.cell? ⟨t.tb,i,none⟩=some (.slice (some ⟨t.ws i,t.wo i,none⟩) (t.nw i) (t.cw i))
 sW:∀i,i<t.nT→Stat w (t.ws i)
 c0:∀i,i<t.nT→∀j,j<t.nw i→w.cell? ⟨t.ws i,t.wo i+j*2,none⟩=some (.int .i64 (t.wn i j).1)
 c1:∀i,i<t.nT→∀j,j<t.nw i→w.cell? ⟨t.ws i,t.wo i+j*2+1,none⟩=some (.int .i64 (t.wn i j).2)
 rlt:r<t.nT
 nT:t.nT≤1000
 nw:∀i,i<t.nT→t.nw i≤6
 wnb:∀i,i<t.nT→∀j,j<t.nw i→(t.wn i j).1<k.nC∧(t.wn i j).2≤200
 n1:∃q c,w.cell? ⟨k.nb,1,none⟩=some (.slice q 0 c)
 n2:∃q c,w.cell? ⟨k.nb,2,none⟩=some (.slice q 0 c)
 inS:∀b,KB k f b∨b=t.tb∨(∃i,i<t.nT∧b=t.ws i)→S b
 sz:∀b,S b→b<w.heap.size
 kbNe:∀b,b=k.C∨b=k.nb∨b=t.tb∨(∃i,i<k.nC∧b=k.cb i)∨(∃i,i<t.nT∧b=t.ws i)→b≠k.kb
section
variable {w w':World} {k:Ker} {t:Tab} {s:KSt} {f:Nat→Value} {r:Nat} {S:Nat→Prop}
theorem X8.keep (h:X8 w k t s f r S) (hk:∀b,S b→w'.heap[b]?=w.heap[b]?) (hs:w.heap.size≤w'.heap.size):X8 w' k t s f r S:=by
 have hK:∀b,KB k f b→w'.heap[b]?=w.heap[b]?:=fun b hb=>hk b (h.inS b (.inl hb));have hkb:=hK k.kb (.inl rfl);have hnb:=hK k.nb (.inr (.inr (.inr (.inl rfl))));have htb:=hk t.tb (h.inS _ (.inr (.inl rfl)));have hws:∀i,i<t.nT→w'.heap[t.ws i]?=w.heap[t.ws i]?:=fun i hi=>hk _ (h.inS _ (.inr (.inr ⟨i,hi,rfl⟩)));refine ⟨h.kn.keep hK,h.so,h.rowK.of_heap hkb,h.stb.of_heap htb,fun i hi=>(cell_of_heap (a:=⟨t.tb,i,none⟩) htb).trans (h.rows i hi),fun i hi=>(h.sW i hi).of_heap (hws i hi),fun i hi j hj=>(cell_of_heap (a:=⟨t.ws i,t.wo i+j*2,none⟩) (hws i hi)).trans (h.c0 i hi j hj),fun i hi j hj=>(cell_of_heap (a:=⟨t.ws i,t.wo i+j*2+1,none⟩) (hws i hi)).trans (h.c1 i hi j hj),h.rlt,h.nT,h.nw,h.wnb,?_,?_,h.inS,fun b hb=>Nat.lt_of_lt_of_le (h.sz b hb) hs,h.kbNe⟩
 ·obtain ⟨q,c,hn⟩:=h.n1;exact ⟨q,c,(cell_of_heap (a:=⟨k.nb,1,none⟩) hnb).trans hn⟩
 ·obtain ⟨q,c,hn⟩:=h.n2;exact ⟨q,c,(cell_of_heap (a:=⟨k.nb,2,none⟩) hnb).trans hn⟩
theorem X8.sub {S':Nat→Prop} (h:X8 w k t s f r S) (hs:∀b,S b→S' b) (hz:∀b,S' b→b<w.heap.size):X8 w k t s f r S':=
 ⟨h.kn,h.so,h.rowK,h.stb,h.rows,h.sW,h.c0,h.c1,h.rlt,h.nT,h.nw,h.wnb,h.n1,h.n2,fun b hb=>hs b (h.inS b hb),hz,h.kbNe⟩
theorem Y3d {k:Ker} (hok:∀i,i<k.nC→Xc (k.n i) (k.ci i)) (wn:Nat→Nat×Nat):∀(rem j:Nat) (s:KSt),SOk k s→SOk k (rowS k wn rem j s)
 |0,_,_,h=>h
 |rem+1,j,s,h=>Y3d hok wn rem (j+1) (winS k (wn j) s) (h.win hok)
theorem X8.frame (h:X8 w k t s f r S) (hm:∀i,s.m i+1300≤1000000000) (ip:Option Addr) {il ic:Nat} (hil:il≤4):
  CallsR Tryz.prog 15 #[.pointer (some ⟨k.kb,0,none⟩),.slice ip il ic] w (fun v w'=>v=.int .i64 0∧∃f',X8 w' k t (rowS k (t.wn r) (t.nw r) 0 s) f' ((r+1) % t.nT) (fun b=>S b∨(w.heap.size≤b∧b<w'.heap.size))∧But S w w'):=by
 obtain ⟨q1,n1,hn1⟩:=h.n1;obtain ⟨q2,n2,hn2⟩:=h.n2;have hrl:=h.rlt;have hnw:=h.nw r hrl;refine (Yag h.kn (h.rowK.cell (j:=0) (by omega)) (h.rowK.cell (j:=1) (by omega)) (h.rowK.cell (j:=3) (by omega)) (h.rowK.frozen 1) h.stb (h.rows r hrl) hrl h.nT (h.sW r hrl) (h.c0 r hrl) (h.c1 r hrl) hn1 hn2 (by omega) (h.wnb r hrl) (fun i=>by have:=hm i;have:t.nw r*201≤6*201:=Nat.mul_le_mul_right _ hnw;omega) ip hil).mono ?_;rintro v w' ⟨rfl,f',w1,d,hF,rfl⟩;refine ⟨rfl,f',?_⟩;have hft:=hF.ft f h.kn.tr;have hnr:(((r:Int)+1).tmod t.nT)=(((r+1) % t.nT:Nat):Int):=by
  rw [Int.tmod_eq_emod_of_nonneg (by omega)];simp
 rw [hnr];have hsz1:w.heap.size≤w1.heap.size:=hF.ph.2.2.2;have kept1:∀b,b<w.heap.size→Foot k f b→w1.heap[b]?=w.heap[b]?:=hft.1;have stat1:∀b,Stat w b→w1.heap[b]?=w.heap[b]?:=hF.st;have kbw:k.kb<w1.heap.size:=Nat.lt_of_lt_of_le (Jm h.kn.skb) hsz1;have hK1:RowF w1 k.kb 5 94 (Xo (.slice (some ⟨t.tb,0,none⟩) t.nT t.cT) (.int .i64 r) (.slice (some ⟨k.C,0,none⟩) k.nC k.cC) (.pointer (some ⟨k.nb,0,none⟩)) (.slice (some ⟨k.T,0,none⟩) k.nC k.nC)):=h.rowK.of_heap (stat1 _ h.kn.skb);have hK2:=(RowF.set5k hK1 (.int .i64 (((r+1) % t.nT:Nat):Int))).2.1;have ne2:∀{b:Nat},b≠k.kb→(w1.setCell ⟨k.kb,1,none⟩ (.int .i64 (((r+1) % t.nT:Nat):Int))).heap[b]?=w1.heap[b]?:=fun hb=>heap_setCell_other _ _ _ _ hb;have stF:∀b,Stat w b→b≠k.kb→(w1.setCell ⟨k.kb,1,none⟩ (.int .i64 (((r+1) % t.nT:Nat):Int))).heap[b]?=w.heap[b]?:=fun b hs hne=>(ne2 hne).trans (stat1 b hs);have hsz2:(w1.setCell ⟨k.kb,1,none⟩ (.int .i64 (((r+1) % t.nT:Nat):Int))).heap.size=w1.heap.size:=size_setCell _ _ _;have gne:∀i,i<k.nC→k.g i≠k.kb:=fun i hi e=>hF.kn.skb.ne_row (hF.kn.row i hi) (.inl rfl) e.symm;have Tne:k.T≠k.kb:=fun e=>hF.kn.skb.ne_row hF.kn.tr (.inr rfl) e.symm;have one:∀i,i<k.nC→(f' i).ownBlock≠some k.kb:=fun i hi=>hF.kn.skb.ne_own (hF.kn.own i hi);have hkn:KNow (w1.setCell ⟨k.kb,1,none⟩ (.int .i64 (((r+1) % t.nT:Nat):Int))) k (rowS k (t.wn r) (t.nw r) 0 s).z f' (rowS k (t.wn r) (t.nw r) 0 s).m (rowS k (t.wn r) (t.nw r) 0 s).xs:=by
  have Cne:=h.kbNe k.C (.inl rfl);have nbne:=h.kbNe k.nb (.inr (.inl rfl));have cbne:∀i,i<k.nC→k.cb i≠k.kb:=fun i hi=>h.kbNe _ (.inr (.inr (.inr (.inl ⟨i,hi,rfl⟩))));have h1:=hF.kn;refine ⟨hK2.cell (j:=2) (by omega),hK2.cell (j:=4) (by omega),?_,h1.sC.of_heap (ne2 Cne),h1.snb.of_heap (ne2 nbne),fun i hi=>(h1.scb i hi).of_heap (ne2 (cbne i hi)),fun i hi=>(cell_of_heap (a:=⟨k.C,i,none⟩) (ne2 Cne)).trans (h1.cl i hi),fun i hi=>(h1.row i hi).of_heap (ne2 (gne i hi)),h1.tr.of_heap (ne2 Tne),fun i hi=>?_,fun i hi j hj=>(cell_of_heap (a:=⟨k.cb i,k.co i+j,none⟩) (ne2 (cbne i hi))).trans (h1.code i hi j hj),?_,h1.n48,h1.ok,h1.zok,h1.inj,h1.ownNe⟩
  ·obtain ⟨cs,hh,_⟩:=hK2;exact ⟨cs,_,_,hh,by decide,by decide,by decide⟩
  ·exact Xd (L:=⟨0,0,111,fun _=>False,fun _=>False⟩) (h1.own i hi) fun b hb=>ne2 (fun e=>one i hi (by rw [←e];exact hb))
  ·obtain ⟨q,cap,hn⟩:=h1.net;exact ⟨q,cap,(cell_of_heap (a:=⟨k.nb,0,none⟩) (ne2 nbne)).trans hn⟩
 have hSk:∀b,KB k f' b→S b∨(w.heap.size≤b∧b<w1.heap.size):=fun b hb=>by
  rcases hb with hb|hb|hb|hb|⟨i,hi,hb|hb|hb⟩
  ·exact .inl (h.inS b (.inl (.inl hb)))
  ·exact .inl (h.inS b (.inl (.inr (.inl hb))))
  ·exact .inl (h.inS b (.inl (.inr (.inr (.inl hb)))))
  ·exact .inl (h.inS b (.inl (.inr (.inr (.inr (.inl hb))))))
  ·exact .inl (h.inS b (.inl (.inr (.inr (.inr (.inr ⟨i,hi,.inl hb⟩))))))
  ·exact .inl (h.inS b (.inl (.inr (.inr (.inr (.inr ⟨i,hi,.inr (.inl hb)⟩))))))
  ·rcases hft.2 i b hi hb with e|e
   ·exact .inl (h.inS b (.inl (.inr (.inr (.inr (.inr ⟨i,hi,.inr (.inr e)⟩))))))
   ·exact .inr ⟨e,by obtain ⟨cs,fz,hh⟩:=J5 (hF.kn.own i hi) hb;exact (Array.getElem?_eq_some_iff.1 hh).1⟩
 have tbne:=h.kbNe t.tb (.inr (.inr (.inl rfl)));have wsne:∀i,i<t.nT→t.ws i≠k.kb:=fun i hi=>h.kbNe _ (.inr (.inr (.inr (.inr ⟨i,hi,rfl⟩))));have nbst:∀j v,w.cell? ⟨k.nb,j,none⟩=some v→(w1.setCell ⟨k.kb,1,none⟩ (.int .i64 (((r+1) % t.nT:Nat):Int))).cell? ⟨k.nb,j,none⟩=some v:=fun j v hv=>(cell_of_heap (a:=⟨k.nb,j,none⟩) (stF _ h.kn.snb (h.kbNe k.nb (.inr (.inl rfl))))).trans hv;have hfull:X8 (w1.setCell ⟨k.kb,1,none⟩ (.int .i64 (((r+1) % t.nT:Nat):Int))) k t (rowS k (t.wn r) (t.nw r) 0 s) f' ((r+1) % t.nT) (fun b=>S b∨(w.heap.size≤b∧b<w1.heap.size)):=
  ⟨hkn,Y3d h.kn.ok _ _ _ _ h.so,hK2,h.stb.of_heap (stF _ h.stb tbne),fun i hi=>(cell_of_heap (a:=⟨t.tb,i,none⟩) (stF _ h.stb tbne)).trans (h.rows i hi),fun i hi=>(h.sW i hi).of_heap (stF _ (h.sW i hi) (wsne i hi)),fun i hi j hj=>(cell_of_heap (a:=⟨t.ws i,t.wo i+j*2,none⟩) (stF _ (h.sW i hi) (wsne i hi))).trans (h.c0 i hi j hj),fun i hi j hj=>(cell_of_heap (a:=⟨t.ws i,t.wo i+j*2+1,none⟩) (stF _ (h.sW i hi) (wsne i hi))).trans (h.c1 i hi j hj),Nat.mod_lt _ (by omega),h.nT,h.nw,h.wnb,⟨q1,n1,nbst 1 _ hn1⟩,⟨q2,n2,nbst 2 _ hn2⟩,fun b hb=>by
   rcases hb with hb|hb|hb
   ·exact hSk b hb
   ·exact .inl (h.inS b (.inr (.inl hb)))
   ·exact .inl (h.inS b (.inr (.inr hb))),fun b hb=>by
   rw [hsz2];rcases hb with hb|hb
   ·exact Nat.lt_of_lt_of_le (h.sz b hb) hsz1
   ·exact hb.2,h.kbNe⟩
 have hbut:But S w (w1.setCell ⟨k.kb,1,none⟩ (.int .i64 (((r+1) % t.nT:Nat):Int))):=⟨hF.ph.1,hF.ph.2.2.1,hF.ph.2.1,by rw [hsz2];exact hsz1,fun b hb hn=>by
  rw [ne2 (fun e=>hn (h.inS b (.inl (.inl e))))];exact kept1 b hb ⟨fun i hi e=>hn (h.inS b (.inl (.inr (.inr (.inr (.inr ⟨i,hi,.inl e⟩)))))),fun e=>hn (h.inS b (.inl (.inr (.inr (.inl e))))),fun i hi e=>hn (h.inS b (.inl (.inr (.inr (.inr (.inr ⟨i,hi,.inr (.inr e)⟩))))))⟩⟩
 refine ⟨?_,⟨hbut.os,hbut.tape,hbut.output,hbut.size,hbut.block⟩⟩;have e:∀b,(S b∨(w.heap.size≤b∧b<w1.heap.size))↔(S b∨(w.heap.size≤b∧b<((w1.setCell ⟨k.kb,1,none⟩ (.int .i64 (((r+1) % t.nT:Nat):Int))).at d).heap.size)):=fun b=>by
  show _↔(S b∨(w.heap.size≤b∧b<(w1.setCell ⟨k.kb,1,none⟩ (.int .i64 (((r+1) % t.nT:Nat):Int))).heap.size));rw [hsz2]
 exact (hfull.keep (w':=(w1.setCell ⟨k.kb,1,none⟩ (.int .i64 (((r+1) % t.nT:Nat):Int))).at d) (fun _ _=>rfl) (Nat.le_refl _)).sub (fun b=>(e b).1) (fun b hb=>((hfull.keep (w':=(w1.setCell ⟨k.kb,1,none⟩ (.int .i64 (((r+1) % t.nT:Nat):Int))).at d) (fun _ _=>rfl) (Nat.le_refl _)).sz b ((e b).2 hb)))
end
end Go.Proofs.YtdoghgnifkgfdaaGreat.Mute
