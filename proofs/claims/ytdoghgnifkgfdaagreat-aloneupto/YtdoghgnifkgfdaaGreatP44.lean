import Derived.Test.YtdoghgnifkgfdaaGreatProg
import Derived.KernelRfl
import Derived.Test.YtdoghgnifkgfdaaGreatP01
import Derived.Test.YtdoghgnifkgfdaaGreatP17
import Derived.Test.YtdoghgnifkgfdaaGreatP30
import Derived.Test.YtdoghgnifkgfdaaGreatP32
import Derived.Test.YtdoghgnifkgfdaaGreatP40
set_option maxRecDepth 100000
set_option maxHeartbeats 4000000
namespace Go.Proofs.YtdoghgnifkgfdaaGreat
open Go.RowKit
theorem Y2x:(Tryz.prog.info? 59).map (fun i=>(i.zero,i.size,i.bytes))=some (some (.agg #[.int .i64 0,.int .i64 0]),2,16):=by kernel_rfl
theorem Y73 (p:Option Addr) (n cap:Nat) (z:Nat→Int) (w:World) (hs:Sl w p (n*2) (fun j=>.int .i64 (z j))) (hn:p=none→n=0) (hb:16*n≤140737488355328):
  Calls Tryz.prog 43 #[.slice p n cap] w fun e w'=>e=.returned (.slice (some ⟨w.heap.size,0,none⟩) (n+2:Nat) (n+2:Nat))∧w'.heap.size=w.heap.size+1∧Below w.heap.size w w'∧
   RowF w' w.heap.size ((n+2)*2) 59 (fun j=>.int .i64 (padZ 2 n z j)):=by
 have hB:n≤17592186044416:=by omega
 have HM:Hid (16*(n+2)≤281474976710656):=by show _≤_;omega
 have HS:Hid (Sl w p (n*2) (fun j=>.int .i64 (z j))):=hs;have HN:Hid (p=none→n=0):=hn;clear hs hn hb
 go_enter Tryz.func43,Tryz.ntmps43
 go_wp2_with (at_make;refine ZG _ rfl _ _ 29 rfl 59 _ 2 16 Tryz.underlying29 Y2x _ _ _ _ (n+2) rfl rfl (by omega) (by omega) HM.out (by simp only [maxLen];omega) (fun _=>.int .i64 0) (fun j _=>Y38 j) ?_)
 intro w1 hrow1 hsz1 hbel1;have HR1:Hid (RowF w1 w.heap.size ((n+2)*2) 59 (fun _=>.int .i64 0)):=hrow1;have HZ1:Hid (w1.heap.size=w.heap.size+1):=hsz1;clear hrow1 hsz1;go_wp2_with (refine ZW rfl _ _ _ _ rfl 59 _ 2 16 Tryz.underlying29 Y2x w.heap.size (n+2) (n+2) p n cap rfl rfl ((n+2)*2) 59 (fun _=>.int .i64 0) (fun j=>.int .i64 (z j)) (by omega) HR1.out (by omega) (HS.out.below hbel1) (fun _ _=>rfl) HN.out ?_)
 intro w2 hrow2 hgr2 hsz2;have HR2:Hid (RowF w2 w.heap.size ((n+2)*2) 59 (fun j=>if j<n*2 then .int .i64 (z j) else .int .i64 0)):=hrow2;have HZ2:Hid (w2.heap.size=w.heap.size+1):=hsz2.trans HZ1.out;have HB2:Hid (Below w.heap.size w w2):=hbel1.grown hgr2 (by rw [HZ1.out];omega) (fun k hk=>by simp at hk;omega);clear hrow2 hsz2 hgr2 hbel1 HR1 HZ1 HS HN HM;go_wp2_with fail
 go_loopw [4] (fun i wr=>∃k:Nat,n≤k∧k≤n+2∧i=.int .i64 k∧Hid (wr.heap.size=w.heap.size+1)∧Hid (Below w.heap.size w wr)∧Hid (RowF wr w.heap.size ((n+2)*2) 59 (fun j=>.int .i64 (if j<n*2 then z j else if j<k*2 then (if j % 2=0 then -77 else 0) else 0))))
  (fun i _=>n+2-(intOf i).toNat)
 case atStart=>exact ⟨n,Nat.le_refl _,by omega,rfl,HZ2,HB2,HR2.out.congr (fun j _=>by by_cases h:j<n*2<;>simp [h])⟩
 case round=>
  obtain ⟨k,hk1,hk2,rfl,HZ,HB,HR⟩:=hrel;by_cases hlt:k<n+2
  ·have HP:Hid (∀j,_):=fun j=>Y4D k n j z hk1;have c0:=HR.out.cell (j:=k*2) (by omega);have c1:=HR.out.cell (j:=k*2+1) (by omega);have f0:=HR.out.frozen (k*2);have f1:=HR.out.frozen (k*2+1);go_wp2
   go_roundw
   case rel=>exact ⟨k+1,by omega,by omega,by go_num,by show _=_;rw [size_setCell,size_setCell];exact HZ.out,((HB.out.setCell (Nat.le_refl _) _).setCell (Nat.le_refl _) _),((HR.out.set (k*2) _).set (k*2+1) _).congr (fun j _=>HP.out j)⟩
   case measure=>simp [intOf];omega
  ·obtain rfl:k=n+2:=by omega
   go_wp2
   go_ret;exact ⟨rfl,HZ.out,HB.out,HR.out.congr (fun j hj=>by simp [padZ,hj])⟩
end Go.Proofs.YtdoghgnifkgfdaaGreat
namespace Go.Proofs.YtdoghgnifkgfdaaGreat.Mute
open Go Go.Conc Go.RowKit
section
theorem Y4J {w:World} {kb il ic:Nat} (ip:Option Addr) (hil:4<il):CallsR Tryz.prog 15 #[.pointer (some ⟨kb,0,none⟩),.slice ip il ic] w (fun v w'=>v=.int .i64 6∧∃d,w'=w.at d):=by
 refine CallsR.introT (List.toArray ((.pointer (some ⟨kb,0,none⟩))::(.slice ip il ic)::undef::undef::undef::undef::undef::undef::undef::undef::undef::undef::undef::undef::undef::undef::undef::undef::undef::undef::undef::undef::undef::undef::undef::undef::undef::undef::undef::undef::undef::undef::undef::undef::undef::undef::undef::undef::undef::undef::undef::undef::undef::undef::undef::undef::undef::undef::undef::[])) Tryz.func15 (by rfl) (by kernel_rfl) fun cs Post hp=>?_;have hk:(base 15).kind≠.early:=by simp [base]
 refine Y3.of_goes ?_;have hF:=Is.self w;have hil':(4:Int)<(il:Int):=by omega
 try walk_nrm
 repeat refine .c1 Y2 rfl ?_
 refine .regionL Y2 [0] (by rfl) ?_;refine .opV Y2 rfl (by rfl) hk ?_;try walk_nrm
 repeat refine .c1 Y2 rfl ?_
 refine .regionL Y2 [0,1,2] (by rfl) ?_;iterate 3 (refine .opV Y2 rfl (by rfl) hk ?_;try walk_nrm)
 repeat refine .c1 Y2 rfl ?_
 refine Y1.condT Y2 (by first|rfl|simp [Act.eval,hil']) ?_;repeat refine .c1 Y2 rfl ?_
 refine .regionL Y2 [0] (by rfl) ?_;refine .opV Y2 rfl (by rfl) hk ?_;try walk_nrm
 repeat refine .c1 Y2 rfl ?_
 refine Y1.ret Y2 fun todo=>?_;refine .stop rfl fun w6 hR=>?_;obtain ⟨d,rfl⟩:=hF.rely hR;exact hp _ _ _ _ rfl (fun d=>(resultsC_tmp (t:=4) (by rfl) _ _).1) ⟨rfl,d,rfl⟩
end
section
variable {P:Program} {A:Plan} {fr:Frame} {w:World} {Q Q':Frame→World→Prop} {opsA opsB:Array Oper} {tail:List Nat} {s:List Item}
def Alike (opsA opsB:Array Oper):Prop:=∀(i:Nat) (o:Oper),opsA[i]?=some o→opsB[i]?=some o∧∀tmps,Region.wanted o (yielded opsB tmps)=Region.wanted o (yielded opsA tmps)
end
def Y1H:List Nat:=[8,9,11,12,13,14,16,17,18,19,20,22,23,24,25,27,28,29,30,32,33,34,35,36,37,38,39,40,41,42,43,44,45,46,47,48,49,50,51,52,53,54,55,56,58,59,60,61,62,63,64,65,66,67,68,69,70,71,72,73,74,75,76,77,78,79,80,81,82,85,86,87,88,89,90,91,92,93,94,95,96,97,98,99,100,101,102,103,104,105,106,107,108,109,110,112,114,115,116,117,118,119,120,121,122,123,124,125,126,127,128,130,131,132,133,134,135,136,137,138,139,140,142,143,144,146,147]
def Y3Q:List (Nat×Nat):=[(75,14),(76,9),(77,9),(89,1),(89,11),(92,1),(92,11),(95,1),(95,11),(99,29),(116,1),(116,6),(131,1),(131,11),(143,8),(146,1),(146,11)]
def Y2S:List (Nat×Nat):=[(126,15),(127,7),(128,11)]
def Y22:List Nat:=[90,93,96,117,147]
def plan:Plan:={fns:=fun f=>Y1H.contains f,fs:=fun h t=>Y3Q.contains (h,t),ps:=fun h t=>Y2S.contains (h,t),cf:=fun f=>Y22.contains f}
def Y4f (P:Program) (A:Plan) (f:Nat):Bool:=match P.funcs[f]? with
 |some fn=>match fn.body with
  |some c=>YH P A f c
  |none=>true
 |none=>true
theorem Ybw:Y1H.all (Y4f Tryz.prog plan)=true:=by kernel_rfl
theorem Y8R:Y22.all (fun f=>Zu Tryz.prog plan f && JG Tryz.prog plan f)=true:=by kernel_rfl
def farB (P:Program) (l:List (Nat×Nat)):Bool:=l.all fun x=>match P.funcs[x.1]? with
 |some fn=>decide (x.2<fn.ntmps+64)
 |none=>true
theorem Y2h:farB Tryz.prog Y3Q=true∧farB Tryz.prog Y2S=true:=⟨by kernel_rfl,by kernel_rfl⟩
theorem Y2T {P:Program} {l:List (Nat×Nat)} (h:farB P l=true) {f t:Nat} {fn:Func} (hf:P.funcs[f]?=some fn) (ht:fn.ntmps+64≤t):l.contains (f,t)=false:=by
 cases hc:l.contains (f,t) with
 |false=>rfl
 |true=>
  have hm:(f,t)∈l:=by simpa using hc
  have:=List.all_eq_true.1 h _ hm;simp only [hf,decide_eq_true_eq] at this;omega
theorem plain:X4 Tryz.prog plan where
 code f fn c hA hf hc:=by
  have hm:f∈Y1H:=by simpa [plan] using hA
  have:=List.all_eq_true.1 Ybw f hm;unfold Y4f at this;simpa only [hf,hc] using this
 cf f hc:=by
  have hm:f∈Y22:=by simpa [plan] using hc
  have:=List.all_eq_true.1 Y8R f hm;simpa using this
 far f t fn hf ht:=⟨Y2T Y2h.1 hf ht,Y2T Y2h.2 hf ht⟩
theorem YaZ:Tryz.prog.funcs.all (fun f=>match f.body with|some c=>(readies c).isEmpty|none=>true)=true:=by kernel_rfl
theorem Y08 (g:Nat):Tryz.prog.stepOf g=none:=by
 unfold Program.stepOf;rw [Array.findIdx?_eq_none_iff];intro f hf;have:=Array.all_eq_true_iff_forall_mem.1 YaZ f hf;cases hb:f.body with
 |none=>rfl
 |some c=>
  simp only [hb] at this;have e:readies c=[]:=by simpa using this
  simp [e]
theorem CallsR.ofPlain {w:World} {f:FuncId} {args:Array Value} {R':Value→World→Prop} (hen:Xn Tryz.prog plan f args) (R:Value→World→Prop) (hc:∀τ,Calls Tryz.prog f args (reW w τ 0) (fun e w'=>∃v,e=.returned v∧R v w')) (hR:∀v w₁ τ d d',R v (reW w₁ τ d)→R' v (reW w₁ w.tape d')):CallsR Tryz.prog f args w R':=
 (CallsR.of_calls plain Y08 hen R hc).mono fun v w' ⟨w₁,τ,d,d',h1,h2⟩=>by rw [h2];exact hR v w₁ τ d d' h1
theorem Y8M (x:Value):Xn Tryz.prog plan 43 #[x]:=⟨by kernel_rfl,Yi plain Tryz.func43 (by kernel_rfl) _⟩
theorem JH {w:World} {p:Option Addr} {n cap:Nat} {z:Nat→Int} (hs:Sl w p (n*2) (fun j=>.int .i64 (z j))) (hn:p=none→n=0) (hb:16*n≤140737488355328):
  CallsR Tryz.prog 43 #[.slice p n cap] w (fun v w'=>v=.slice (some ⟨w.heap.size,0,none⟩) (n+2:Nat) (n+2:Nat)∧w'.heap.size=w.heap.size+1∧Below w.heap.size w w'∧RowF w' w.heap.size ((n+2)*2) 59 (fun j=>.int .i64 (padZ 2 n z j))):=by
 refine CallsR.ofPlain (Y8M _) (fun v w'=>v=.slice (some ⟨w.heap.size,0,none⟩) (n+2:Nat) (n+2:Nat)∧w'.heap.size=w.heap.size+1∧(w'.os=w.os∧w'.output=w.output∧∀b,b<w.heap.size→w'.heap[b]?=w.heap[b]?)∧RowF w' w.heap.size ((n+2)*2) 59 (fun j=>.int .i64 (padZ 2 n z j))) (fun τ=>?_) ?_
 ·refine (Y73 p n cap z (reW w τ 0) hs hn hb).mono ?_;rintro e w' ⟨rfl,h1,h2,h3⟩;exact ⟨_,rfl,rfl,h1,⟨h2.os,h2.output,h2.block⟩,h3⟩
 ·rintro v w₁ τ d d' ⟨h1,h2,h3,h4⟩;exact ⟨h1,h2,⟨h3.1,rfl,h3.2.1,(by show _≤w₁.heap.size;have e:w₁.heap.size=w.heap.size+1:=h2;omega),h3.2.2⟩,h4⟩
theorem Y2R (x y:Value):Xn Tryz.prog plan 44 #[x,y]:=⟨by kernel_rfl,Yi plain Tryz.func44 (by kernel_rfl) _⟩
theorem Y5M (x:Value):Xn Tryz.prog plan 41 #[x]:=⟨by kernel_rfl,Yi plain Tryz.func41 (by kernel_rfl) _⟩
theorem Y1c (a:Int) (w:World):CallsR Tryz.prog 41 #[.int .i64 a] w (fun v w'=>v=.int .i64 a∧Is w w'):=by
 refine CallsR.ofPlain (Y5M _) (fun v w'=>v=.int .i64 a∧∃τ d,w'=reW w τ d) (fun τ=>(XM a _).mono ?_) ?_
 ·rintro e w' ⟨rfl,rfl⟩;exact ⟨_,rfl,rfl,τ,0,rfl⟩
 ·rintro v w₁ τ d d' ⟨h1,τ',d'',h2⟩;refine ⟨h1,d',?_⟩;have e:reW w₁ w.tape d'=reW (reW w₁ τ d) w.tape d':=rfl;rw [e,h2];rfl
theorem YZ.calls {w:World} {k:Ker} {r:RK} {t:Tab} {to_ fr:Nat} {s:KSt} {vs:Nat→Value} {S:Nat→Prop} (h:YZ w k r t to_ s vs fr S) (hfr:fr≤1000000000000) (hm:∀i,s.m i+1600≤1000000000) {ip:Option Addr} {il ic:Nat} {zi:Nat→Int} (hin:Sl w ip (il*2) (fun j=>.int .i64 (zi j))) (hiK:il=0∨∀b o,ip=some ⟨b,o,none⟩→b≠r.Kb) (hil:il≤4):
  CallsR Tryz.prog 44 #[.pointer (some ⟨r.Kb,0,none⟩),.slice ip il ic] w (fun v w'=>v=.int .i64 0∧∃vs',YZ w' k r t to_ (rowS k (t.wn (fr % t.nT)) (t.nw (fr % t.nT)) 0 s) vs' (fr+1) (fun b=>S b∨(w.heap.size≤b∧b<w'.heap.size))∧But S w w'):=by
 refine CallsR.ofPlain (Y2R _ _) (fun v w'=>v=.int .i64 0∧∃vs',YZ w' k r t to_ (rowS k (t.wn (fr % t.nT)) (t.nw (fr % t.nT)) 0 s) vs' (fr+1) (fun b=>S b∨(w.heap.size≤b∧b<w'.heap.size))∧w'.os=w.os∧w'.output=w.output∧w.heap.size≤w'.heap.size∧∀b,b<w.heap.size→¬S b→w'.heap[b]?=w.heap[b]?) (fun τ=>((h.keep (w':=reW w τ 0) (fun _ _=>rfl) (Nat.le_refl _)).frame hfr hm hin hiK hil).mono ?_) ?_
 ·rintro e w' ⟨rfl,vs',h1,h2⟩;exact ⟨_,rfl,rfl,vs',h1,h2.os,h2.output,h2.size,h2.block⟩
 ·rintro v w₁ τ d d' ⟨h1,vs',h2,h3,h4,h5,h6⟩;exact ⟨h1,vs',h2.keep (w':=reW w₁ w.tape d') (fun _ _=>rfl) (Nat.le_refl _),⟨h3,rfl,h4,h5,h6⟩⟩
theorem Y15 {S:Nat→Prop} {w w':World} {p:Option Addr} {n:Nat} {g:Nat→Value} (h:Sl w p n g) (hb:But S w w') (hn:n=0∨∀lb lo,p=some ⟨lb,lo,none⟩→¬S lb):Sl w' p n g:=by
 rcases h with e|⟨b,o,rfl,hc⟩
 ·exact .inl e
 ·rcases hn with e|hn
  ·exact .inl e
  ·exact .inr ⟨b,o,rfl,fun j hj=>hb.cell (hc j hj) (hn b o rfl)⟩
section
variable {w:World} {k:Ker} {r:RK} {t t':Tab} {to_ fr rr il ic:Nat} {s:KSt} {f vs:Nat→Value} {S S':Nat→Prop} {lp:Option Addr} {zi:Nat→Int}
theorem Ybd {ad:Addr} (hKF:X8 w k t s f rr S) (hRF:YZ w k r t' to_ s vs fr S') (hd:∀b,S b→S' b→False) (hl:Sl w (some ad) (il*2) (fun j=>.int .i64 (zi j))) (hlS:il=0∨∀lb lo,ad=⟨lb,lo,none⟩→¬S lb∧¬S' lb) (hil:il≤4) (hfr:fr≤1000000000000) (hm:∀i,s.m i+1600≤1000000000):
  CallsR Tryz.prog 21 #[.pointer (some ⟨k.kb,0,none⟩),.pointer (some ⟨r.Kb,0,none⟩),.slice (some ad) il ic] w (fun v w'=>v=.bool true∧∃f' vs' SK SR,X8 w' k t (rowS k (t.wn rr) (t.nw rr) 0 s) f' ((rr+1) % t.nT) SK∧YZ w' k r t' to_ (rowS k (t'.wn (fr % t'.nT)) (t'.nw (fr % t'.nT)) 0 s) vs' (fr+1) SR∧But (fun b=>S b∨S' b) w w'∧(∀b,SK b→SR b→False)∧(∀b,SK b→S b∨w.heap.size≤b)∧∀b,SR b→S' b∨w.heap.size≤b):=by
 refine CallsR.introT (List.toArray ((.pointer (some ⟨k.kb,0,none⟩))::(.pointer (some ⟨r.Kb,0,none⟩))::(.slice (some ad) il ic)::undef::undef::undef::undef::undef::undef::undef::undef::undef::undef::undef::undef::undef::undef::undef::undef::undef::undef::undef::undef::undef::undef::undef::undef::undef::undef::undef::undef::undef::undef::undef::undef::undef::undef::undef::undef::undef::undef::undef::undef::undef::undef::undef::undef::undef::undef::undef::undef::undef::undef::undef::undef::undef::undef::[])) Tryz.func21 (by rfl) (by kernel_rfl) fun cs Post hp=>?_;have hk:(base 21).kind≠.early:=by simp [base]
 refine Y3.of_goes ?_;have hF:=Is.self w;have hsl:(il:Int)≤(il:Int)+2:=by omega
 have heq:=fun W a n c=>Go.Lib.run_eql_slice_nil (P:=Tryz.prog) W 29 59 a n c 0 0 Tryz.underlying29;repeat refine .c1 Y2 rfl ?_
 refine .regionL Y2 [0] (by rfl) ?_;refine .opV Y2 rfl (by rfl) hk ?_;try walk_nrm
 repeat refine .c1 Y2 rfl ?_
 refine .regionL Y2 [0,1,2] (by rfl) ?_;refine .opV Y2 rfl (by rfl) hk ?_;try walk_nrm
 refine .stop rfl fun w4 hR=>?_;obtain ⟨d4,rfl⟩:=hF.rely hR;clear hF hR;refine Y3.call rfl (by rfl) hk (fun d=>?run1) (fun d=>?evs1) (JH (w:=w.at d4) (p:=some ad) (n:=il) (cap:=ic) (z:=zi) hl (by simp) (by omega)) (fun v wA hv=>?_)
 case run1=>kernel_rfl
 case evs1=>
  rw [listed_nil (by kernel_rfl)];simp
 obtain ⟨rfl,hA1,hA2,hA3⟩:=hv;refine Y3.of_goes ?_;have hF:=Is.self wA;try walk_nrm
 replace hA1:wA.heap.size=w.heap.size+1:=hA1;replace hA2:Below w.heap.size w wA:=⟨hA2.os,hA2.tape,hA2.output,hA2.size,hA2.block⟩;replace hA3:RowF wA w.heap.size ((il+2)*2) 59 (fun j=>.int .i64 (padZ 2 il zi j)):=hA3;have eA:(w.at d4).heap.size=w.heap.size:=rfl;rw [eA];clear eA;refine .opV Y2 rfl (by rfl) hk ?_;try walk_nrm
 repeat refine .c1 Y2 rfl ?_
 refine .regionL Y2 [0,1,2,3,4] (by rfl) ?_;iterate 3 (refine .opV Y2 rfl (by rfl) hk ?_;try walk_nrm)
 refine .op rfl (by rfl) hk fun w1 hR K hK=>?_;replace hF:=hF.rely hR;clear hR;go_simp;try (unfold stored;go_simp)
 refine hK _ _ ⟨?_,?_⟩
 ·exact Yw plain (Yi plain Tryz.func21 (by kernel_rfl) _) (by kernel_rfl) _
 clear hK K;try walk_nrm
 refine .opV Y2 rfl (by rfl) hk ?_;try walk_nrm
 repeat refine .c1 Y2 rfl ?_
 refine .regionL Y2 [0,1] (by rfl) ?_;refine .opV Y2 rfl (by rfl) hk ?_;try walk_nrm
 refine .op rfl (by rfl) hk fun w1 hR K hK=>?_;replace hF:=hF.rely hR;clear hR;have hq:=heq w1 (some ad) il ic;go_simp;try (unfold stored;go_simp)
 refine hK _ _ ⟨?_,?_⟩
 ·exact Yw plain (Yi plain Tryz.func21 (by kernel_rfl) _) (by kernel_rfl) _
 clear hK K;try walk_nrm
 repeat refine .c1 Y2 rfl ?_
 refine Y1.condF Y2 (by first|rfl|simp [Act.eval]) ?_;repeat refine .c1 Y2 rfl ?_
 refine .regionL Y2 [0,1,2,3] (by rfl) ?_;iterate 2 (refine .opV Y2 rfl (by rfl) hk ?_;try walk_nrm)
 have hKA:=hKF.keep (w':=wA) (fun b hb=>hA2.block b (hKF.sz b hb)) hA2.size;have hRA:=hRF.keep (w':=wA) (fun b hb=>hA2.block b (hRF.sz b hb)) hA2.size;refine .stop rfl fun w4 hR=>?_;obtain ⟨d4,rfl⟩:=hF.rely hR;clear hF hR;refine Y3.call rfl (by rfl) hk (fun d=>?run2) (fun d=>?evs2) ((hKA.keep (w':=wA.at d4) (fun _ _=>rfl) (Nat.le_refl _)).frame (fun i=>by have:=hm i;omega) (some ⟨w.heap.size,0,none⟩) (il:=il) (ic:=il+2) hil) (fun v wB hv=>?_)
 case run2=>kernel_rfl
 case evs2=>
  rw [listed_nil (by kernel_rfl)];simp
 obtain ⟨rfl,f1,hKB,hBB⟩:=hv;refine Y3.of_goes ?_;have hF:=Is.self wB;try walk_nrm
 refine .opV Y2 rfl (by rfl) hk ?_;try walk_nrm
 replace hBB:But S wA wB:=⟨hBB.os,hBB.tape,hBB.output,hBB.size,hBB.block⟩;have hRB:=hRA.keep (w':=wB) (fun b hb=>hBB.block b (hRA.sz b hb) (fun hs=>hd b hs hb)) hBB.size;have hlA:=hl.below hA2;have hlB:=Y15 hlA hBB (hlS.imp (fun h=>by omega) (fun h lb lo e=>(h lb lo (Option.some.inj e)).1));have hKb:il=0∨∀b o,(some ad:Option Addr)=some ⟨b,o,none⟩→b≠r.Kb:=hlS.imp id (fun h b o e x=>(h b o (Option.some.inj e)).2 (by rw [x];exact hRF.inS _ (.inl (.inl rfl))));repeat refine .c1 Y2 rfl ?_
 refine .regionL Y2 [0,1,2,3] (by rfl) ?_;iterate 2 (refine .opV Y2 rfl (by rfl) hk ?_;try walk_nrm)
 refine .stop rfl fun w4 hR=>?_;obtain ⟨d4,rfl⟩:=hF.rely hR;clear hF hR;refine Y3.call rfl (by rfl) hk (fun d=>?run3) (fun d=>?evs3) ((hRB.keep (w':=wB.at d4) (fun _ _=>rfl) (Nat.le_refl _)).calls (ic:=ic) hfr hm hlB hKb hil) (fun v wC hv=>?_)
 case run3=>kernel_rfl
 case evs3=>
  rw [listed_nil (by kernel_rfl)];simp
 obtain ⟨rfl,vs1,hRC,hBC⟩:=hv;refine Y3.of_goes ?_;have hF:=Is.self wC;try walk_nrm
 replace hBC:But S' wB wC:=⟨hBC.os,hBC.tape,hBC.output,hBC.size,hBC.block⟩;have hlC:=Y15 hlB hBC (hlS.imp (fun h=>by omega) (fun h lb lo e=>(h lb lo (Option.some.inj e)).2));refine .opV Y2 rfl (by rfl) hk ?_;try walk_nrm
 repeat refine .c1 Y2 rfl ?_
 refine .regionL Y2 [0,1,2,3,4] (by rfl) ?_;refine .opV Y2 rfl (by rfl) hk ?_;try walk_nrm
 refine .stop rfl fun w4 hR=>?_;obtain ⟨d4,rfl⟩:=hF.rely hR;clear hF hR;refine Y3.call rfl (by rfl) hk (fun d=>?run4) (fun d=>?evs4) (Y1c 0 (wC.at d4)) (fun v wC2 hv=>?_)
 case run4=>kernel_rfl
 case evs4=>
  rw [listed_nil (by kernel_rfl)];simp
 obtain ⟨rfl,hIs⟩:=hv;refine Y3.of_goes ?_;have hF:=Is.self wC2;try walk_nrm
 obtain ⟨d5,rfl⟩:=hIs;replace hF:Is wC ((wC.at d4).at d5):=⟨d5,rfl⟩;iterate 3 (refine .opV Y2 rfl (by rfl) hk ?_;try walk_nrm)
 repeat refine .c1 Y2 rfl ?_
 refine .regionL Y2 [0,1,2] (by rfl) ?_;refine .opV Y2 rfl (by rfl) hk ?_;try walk_nrm
 refine .stop rfl fun w4 hR=>?_;obtain ⟨d4,rfl⟩:=hF.rely hR;clear hF hR;refine Y3.call rfl (by rfl) hk (fun d=>?run5) (fun d=>?evs5) (JH (w:=wC.at d4) (p:=some ad) (n:=il) (cap:=ic) (z:=zi) hlC (by simp) (by omega)) (fun v wD hv=>?_)
 case run5=>kernel_rfl
 case evs5=>
  rw [listed_nil (by kernel_rfl)];simp
 obtain ⟨rfl,hD1,hD2,hD3⟩:=hv;refine Y3.of_goes ?_;have hF:=Is.self wD;try walk_nrm
 replace hD1:wD.heap.size=wC.heap.size+1:=hD1;replace hD2:Below wC.heap.size wC wD:=⟨hD2.os,hD2.tape,hD2.output,hD2.size,hD2.block⟩;replace hD3:RowF wD wC.heap.size ((il+2)*2) 59 (fun j=>.int .i64 (padZ 2 il zi j)):=hD3;have eD:(wC.at d4).heap.size=wC.heap.size:=rfl;rw [eD];clear eD;refine .opV Y2 rfl (by rfl) hk ?_;try walk_nrm
 refine Y1.regionEnd Y2 ?_;refine Y1.seq Y2 ?_;refine .stop rfl fun w9 hR=>?_;obtain ⟨d9,rfl⟩:=hF.rely hR;clear hF hR;have hAw:∀b,S b→b<w.heap.size:=hKF.sz;have hAw':∀b,S' b→b<w.heap.size:=hRF.sz;have hAD:RowF wD w.heap.size ((il+2)*2) 59 (fun j=>.int .i64 (padZ 2 il zi j)):=((hA3.of_heap (hBB.block _ hA3.lt (fun h=>by have:=hAw _ h;omega))).of_heap (hBC.block _ (Nat.lt_of_lt_of_le hA3.lt hBB.size) (fun h=>by have:=hAw' _ h;omega))).below hD2 (Nat.lt_of_lt_of_le (Nat.lt_of_lt_of_le hA3.lt hBB.size) hBC.size);have hne:w.heap.size≠wC.heap.size:=by have:=hBB.size;have:=hBC.size;omega
 refine Y3.piece plain Y08 (Qn:=fun a' w'=>a'.tmps.size=57∧a'.tmps.getD 11 undef=.bool true∧a'.defers=[]∧(w'.os=wD.os∧w'.output=wD.output∧wD.heap.size≤w'.heap.size∧∀b,b<wD.heap.size→b≠w.heap.size→w'.heap[b]?=wD.heap[b]?)) (by kernel_rfl) (by kernel_rfl) ⟨_,Tryz.func21⟩ rfl (Yi plain Tryz.func21 (by kernel_rfl) _) rfl (fun τ=>?wp) (fun a' w' τ' d' d hq=>?post)
 case wp=>
  have HA0:Hid (RowF (reW (wD.at d9) τ 0) w.heap.size ((il+2)*2) 59 (fun j=>.int .i64 (padZ 2 il zi j))):=hAD;have HD0:Hid (RowF (reW (wD.at d9) τ 0) wC.heap.size ((il+2)*2) 59 (fun j=>.int .i64 (padZ 2 il zi j))):=hD3;have HE0:Hid ((reW (wD.at d9) τ 0).os=wD.os∧(reW (wD.at d9) τ 0).output=wD.output∧wD.heap.size≤(reW (wD.at d9) τ 0).heap.size∧∀b,b<wD.heap.size→b≠w.heap.size→(reW (wD.at d9) τ 0).heap[b]?=wD.heap[b]?):=⟨rfl,rfl,Nat.le_refl _,fun _ _ _=>rfl⟩;generalize reW (wD.at d9) τ 0=W0 at *;clear hD1 hA1;generalize hAg:w.heap.size=A at *;generalize hDg:wC.heap.size=D at *;clear hp heq hKA hRA hRB hKB hRC hBB hBC hlA hlB hlC hA2 hA3 hD2 hD3 hAD hl hKF hRF hAw hAw' hKb hm hd hlS;go_wp2_with fail
  go_loopw [11,13] (fun o i wr=>∃j:Nat,j≤il+2∧i=.int .i64 j∧o=.bool true∧Hid ((∀q,j*2≤q→q<(il+2)*2→wr.cell? ⟨A,q,none⟩=some (.int .i64 (padZ 2 il zi q)))∧(∀q,wr.frozen? ⟨A,q,none⟩=false))∧Hid (RowF wr D ((il+2)*2) 59 (fun j=>.int .i64 (padZ 2 il zi j)))∧Hid (wr.os=wD.os∧wr.output=wD.output∧wD.heap.size≤wr.heap.size∧∀b,b<wD.heap.size→b≠A→wr.heap[b]?=wD.heap[b]?)) (fun _ i _=>il+2-(intOf i).toNat)
  case atStart=>exact ⟨0,Nat.zero_le _,rfl,rfl,⟨fun q _ h2=>HA0.out.cell h2,fun q=>HA0.out.frozen q⟩,HD0,HE0⟩
  case round=>
   obtain ⟨j,hj,rfl,rfl,HA,HD,HE⟩:=hrel;by_cases hlt:j<il+2
   ·have c0:=HA.out.1 (j*2) (by omega) (by omega);have c1:=HA.out.1 (j*2+1) (by omega) (by omega);have e0:=HD.out.cell (j:=j*2) (by omega);have e1:=HD.out.cell (j:=j*2+1) (by omega);have f0:=HA.out.2 (j*2);have f1:=HA.out.2 (j*2+1);have hli:(j:Int)<(il:Int)+2:=by omega
    generalize padZ 2 il zi (j*2)=x0 at *;generalize padZ 2 il zi (j*2+1)=x1 at *;go_wp2_with fail
    go_quiet (fail)
    go_wp2_with fail
    refine ⟨⟨j+1,by omega,by go_num,rfl,⟨fun q h1 h2=>?_,fun q=>?_⟩,?_,?_⟩,by simp [intOf];omega⟩
    ·refine (World.cell?_setCell_other _ _ _ _ (fun e=>by have:=congrArg Addr.off e;simp only at this;omega)).trans ((World.cell?_setCell_other _ _ _ _ (fun e=>by have:=congrArg Addr.off e;simp only at this;omega)).trans ?_);exact HA.out.1 q (by omega) h2
    ·simpa using HA.out.2 q
    ·have hrow:RowF (wr.drewN nq) D ((il+2)*2) 59 (fun j=>.int .i64 (padZ 2 il zi j)):=HD.out;exact (hrow.other _ _ (by simpa using hne)).other _ _ (by simpa using hne)
    ·refine ⟨HE.out.1,HE.out.2.1,by rw [size_setCell,size_setCell];exact HE.out.2.2.1,fun b hb hn=>?_⟩;rw [heap_setCell_other _ _ _ _ (by simpa using hn),heap_setCell_other _ _ _ _ (by simpa using hn)];exact HE.out.2.2.2 b hb hn
   ·obtain rfl:j=il+2:=by omega
    go_wp2_with fail
    first
     |exact ⟨rfl,rfl,rfl,rfl,HE.out⟩
     |exact ⟨rfl,rfl,rfl,HE.out⟩
     |exact HE.out
     |simpa using HE.out
 case post=>
  obtain ⟨hs,h11,hdf,hE⟩:=hq;refine Y3.seq ?_;refine Y3.region ?_;show Y3 Tryz.prog Post (G ((base 21).at a' (.inRegion _ [0,1]::_)) cs) _;refine Y3.value rfl (by rfl) hk (fun d=>⟨d,rfl⟩) (fun d=>Yw plain (Yi plain Tryz.func21 (by kernel_rfl) _) (by kernel_rfl) _) ?_;refine Y3.value rfl (by rfl) hk (fun d=>⟨d,rfl⟩) (fun d=>Yw plain (Yi plain Tryz.func21 (by kernel_rfl) _) (by kernel_rfl) _) ?_;refine Y3.regionEnd ?_;refine Y3.ret fun todo=>?_;refine hp _ _ _ _ hdf (fun d=>(resultsC_tmp (t:=6) (by rfl) _ _).1) ⟨?_,?_⟩
  ·show ((a'.tmps.setIfInBounds 56 (a'.tmps.getD 11 undef)).setIfInBounds 6 ((a'.tmps.setIfInBounds 56 (a'.tmps.getD 11 undef)).getD 56 undef)).getD 6 undef=.bool true;rw [h11];simp [hs]
  ·have hsB:=hBB.size;have hsC:=hBC.size;have hE4:∀b,b<wD.heap.size→b≠w.heap.size→w'.heap[b]?=wD.heap[b]?:=hE.2.2.2;have hE3:wD.heap.size≤w'.heap.size:=hE.2.2.1;have toC:∀b,b<wC.heap.size→b≠w.heap.size→w'.heap[b]?=wC.heap[b]?:=fun b hb hn=>(hE4 b (by omega) hn).trans (hD2.block b hb);refine ⟨f1,vs1,_,_,hKB.keep (w':=reW w' (wD.at d9).tape d) (fun b hb=>?_) (by show wB.heap.size≤w'.heap.size;omega),hRC.keep (w':=reW w' (wD.at d9).tape d) (fun b hb=>?_) (by show wC.heap.size≤w'.heap.size;omega),⟨?_,?_,?_,by show w.heap.size≤w'.heap.size;omega,fun b hb hn=>?_⟩,fun b h1 h2=>?_,fun b h1=>?_,fun b h1=>?_⟩
   ·show w'.heap[b]?=wB.heap[b]?;have hbB:b<wB.heap.size:=hKB.sz b hb;have hb':S b∨(wA.heap.size≤b∧b<wB.heap.size):=hb;have hn1:b≠w.heap.size:=by
     rcases hb' with h|h
     ·have:=hAw b h;omega
     ·omega
    rw [toC b (by omega) hn1];exact hBC.block b hbB (fun h=>by
     rcases hb' with h'|h'
     ·exact hd b h' h
     ·have:=hAw' b h;omega)
   ·show w'.heap[b]?=wC.heap[b]?;have hbC:b<wC.heap.size:=hRC.sz b hb;have hb':S' b∨(wB.heap.size≤b∧b<wC.heap.size):=hb;have hn1:b≠w.heap.size:=by
     rcases hb' with h|h
     ·have:=hAw' b h;omega
     ·omega
    exact toC b hbC hn1
   ·exact hE.1.trans (hD2.os.trans (hBC.os.trans (hBB.os.trans hA2.os)))
   ·exact hD2.tape.trans (hBC.tape.trans (hBB.tape.trans hA2.tape))
   ·exact hE.2.1.trans (hD2.output.trans (hBC.output.trans (hBB.output.trans hA2.output)))
   ·show w'.heap[b]?=w.heap[b]?;rw [toC b (by omega) (by omega),hBC.block b (by omega) (fun h=>hn (.inr h)),hBB.block b (by omega) (fun h=>hn (.inl h))];exact hA2.block b hb
   ·have h1':S b∨(wA.heap.size≤b∧b<wB.heap.size):=h1;have h2':S' b∨(wB.heap.size≤b∧b<wC.heap.size):=h2;rcases h1' with h1'|h1'<;>rcases h2' with h2'|h2'
    ·exact hd b h1' h2'
    ·have:=hAw b h1';omega
    ·have:=hAw' b h2';omega
    ·omega
   ·have h1':S b∨(wA.heap.size≤b∧b<wB.heap.size):=h1;exact h1'.imp id (fun h=>by omega)
   ·have h1':S' b∨(wB.heap.size≤b∧b<wC.heap.size):=h1;exact h1'.imp id (fun h=>by omega)
end
end Go.Proofs.YtdoghgnifkgfdaaGreat.Mute
