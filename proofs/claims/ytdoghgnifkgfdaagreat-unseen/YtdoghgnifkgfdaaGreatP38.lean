import Derived.Test.YtdoghgnifkgfdaaGreatP33
import Derived.Test.YtdoghgnifkgfdaaGreatP37
set_option maxRecDepth 100000
set_option maxHeartbeats 16000000
namespace Go.Proofs.YtdoghgnifkgfdaaGreat.Mute
open Go Go.Conc Go.RowKit
section
variable {L:Lot} {w0:World} {rn:List Row} {K:NetK} {C:Nat→Chn} {p:Prg} {g cb co cc:Nat} {num:Int} {inV:Value} {z:Nat→Int}
theorem Yga {FS:World→Prop} (he:Evs L) (hev1:((143:Nat)==L.ev)=false) (hev2:((221:Nat)==L.ev)=false) (hW:NetW L w0 K) (hfr:p.fr=K.fr) (hnum:p.num=num) (hin:InR L w0 inV p.ins) (hln:p.ins.length≤1000) (hN:NR K rn C) (hs:Still L w0 cb) (hcode:∀j,j<p.n*4→w0.cell? ⟨cb,co+j,none⟩=some (.int .i64 (p.ci j))) (hn:p.n≤48) (hok:Yc8 p.n K.k p.ci) (hz:Zok p.n z) (hlen:LenQ K.k 900000000 C)
  (budget:Nat) (hbud:budget≤200) (w:World) (hF:KnL L w0 (ZQ K g num (YB cb co p.n cc) z::rn) [] w):
  XQ Tryz.prog L FS 84 #[.pointer (some ⟨g,0,none⟩),.int .i64 budget,inV,.chan (some L.c)] w (goQ p budget z C).1
   (fun v w'=>v=.int .i64 (goQ p budget z C).2.1∧∃rn',NR K rn' (goQ p budget z C).2.2.2∧Kn L w0 (ZQ K g num (YB cb co p.n cc) (goQ p budget z C).2.2.1::rn') w') (fun _ _=>False):=by
 have hk:(base 84).kind≠.early:=by simp [base]
 refine XQ.intro #[.pointer (some ⟨g,0,none⟩),.int .i64 budget,inV,.chan (some L.c),undef,undef,undef,undef,undef,undef,undef,undef,undef,undef,undef,undef,undef,undef,undef,undef,undef] Tryz.func84 rfl (by kernel_rfl) fun cl cs vs Ret _=>?_;repeat refine .c1 L.terms1 rfl ?_
 refine .regionL L.terms1 [0,1,2] (by rfl) ?_;refine .op rfl (by rfl) hk fun w1 hR K_ hK=>?_;replace hF:=hF.rely hR;clear hR;go_simp;try (unfold stored;go_simp)
 refine hK _ _ ⟨?_,?_⟩
 ·refine hF.doesAlloc _ ?_;(intro e he;have hm:=mem_listed he;simp [go_sem, *] at hm)
 clear hK K_;replace hF:KnL L w0 (ZQ K g num (YB cb co p.n cc) z::rn) ([one1 w1.heap.size 143 (.pointer (some ⟨g,0,none⟩))]) _:=hF.new1 hev1 _;generalize hB:w1.heap.size=q at *;generalize hW':(w1.alloc (.cells #[.pointer (some ⟨g,0,none⟩)] 143))=w2 at *;clear hW' hB w1;try walk_nrm
 refine .op rfl (by rfl) hk fun w1 hR K_ hK=>?_;replace hF:=hF.rely hR;clear hR;go_simp;try (unfold stored;go_simp)
 refine hK _ _ ⟨?_,?_⟩
 ·refine hF.doesAlloc _ ?_;(intro e he;have hm:=mem_listed he;simp [go_sem, *] at hm)
 clear hK K_;replace hF:KnL L w0 (ZQ K g num (YB cb co p.n cc) z::rn) ([one1 q 143 (.pointer (some ⟨g,0,none⟩)),one1 w1.heap.size 221 (.chan (some L.c))]) _:=hF.new1 hev2 _;generalize hB:w1.heap.size=c at *;generalize hW':(w1.alloc (.cells #[.chan (some L.c)] 221))=w2 at *;clear hW' hB w1;try walk_nrm
 refine .op rfl (by rfl) hk fun w1 hR K_ hK=>?_;replace hF:=hF.rely hR;clear hR;go_simp;try (unfold stored;go_simp)
 refine hK _ _ ⟨?_,?_⟩
 ·refine hF.doesAlloc _ ?_;(intro e he;have hm:=mem_listed he;simp [go_sem, *] at hm)
 clear hK K_;replace hF:KnL L w0 (ZQ K g num (YB cb co p.n cc) z::rn) (runL L g q c w1.heap.size 0) _:=hF.new1 he.i64 _;generalize hB:w1.heap.size=y at *;generalize hW':(w1.alloc (.cells #[.int .i64 0] 2))=w2 at *;clear hW' hB w1;try walk_nrm
 repeat refine .c1 L.terms1 rfl ?_
 refine .regionL L.terms1 [0,1] (by rfl) ?_;refine .op rfl (by rfl) hk fun w1 hR K_ hK=>?_;replace hF:=hF.rely hR;clear hR;have hc:World.cell? _ ⟨q,0,none⟩=some (.pointer (some ⟨g,0,none⟩)):=hF.l1 (k:=0) rfl;go_simp;try (unfold stored;go_simp)
 refine hK _ _ ⟨?_,?_⟩
 ·refine hF.llooks (k:=0) rfl ?_;co_evs (exact ⟨_,rfl⟩)
 clear hK K_;clear hc;try walk_nrm
 refine Y1.callX L.terms1 rfl (by rfl) hk rfl Tryz.func86 (by rfl) rfl #[.pointer (some ⟨g,0,none⟩)] (by kernel_rfl) (Y8Z (ic:=0) (rows:=(ZQ K g num (YB cb co p.n cc) z::rn)++runL L g q c y 0) rfl _ hF) ?_ (fun _ _ _ h=>h.elim);rintro v w2 ⟨rfl,hF2⟩;replace hF:KnL L w0 (ZQ K g num (YB cb co p.n cc) z::rn) (runL L g q c y 0) w2:=hF2;clear hF2;try walk_nrm
 repeat refine .c1 L.terms1 rfl ?_
 by_cases hst:z 3<z 47
 ·have hres:goQ p budget z C=([],4,z,C):=by unfold goQ;rw [if_pos hst]
  have hde:decide (z 3<z 47)=true:=by simpa using hst
  rw [hres] at Ret ⊢;rw [hde];refine Y1.condT L.terms1 (by rfl) ?_;repeat refine .c1 L.terms1 rfl ?_
  refine .regionL L.terms1 [0] (by rfl) ?_;refine .op rfl (by rfl) hk fun w1 hR K_ hK=>?_;replace hF:=hF.rely hR;clear hR;have hc:World.cell? _ ⟨y,0,none⟩=some (.int .i64 0):=hF.l1 (k:=2) rfl;have hz2:World.frozen? _ ⟨y,0,none⟩=false:=hF.lfrozen (k:=2) rfl 0;go_simp;try (unfold stored;go_simp)
  refine hK _ _ ⟨?_,?_⟩
  ·refine hF.ldoes (k:=2) rfl 0 _ ?_;co_evs (exact rfl)
  clear hK K_;clear hc hz2;replace hF:KnL L w0 (ZQ K g num (YB cb co p.n cc) z::rn) (runL L g q c y 4) _:=hF.set1 (k:=2) rfl (.int .i64 4);try walk_nrm
  repeat refine .c1 L.terms1 rfl ?_
  refine Y1.ret L.terms1 fun todo=>?_;exact Ret _ todo _ _ rfl (Y11 hF rfl) ⟨rfl,rn,hN,hF.drop⟩
 ·have hres:goQ p budget z C=runQ p budget z C:=by unfold goQ;rw [if_neg hst]
  have hde:decide (z 3<z 47)=false:=by simpa using hst
  rw [hres] at Ret ⊢;rw [hde];refine Y1.condF L.terms1 (by rfl) ?_;repeat refine .c1 L.terms1 rfl ?_
  refine .regionL L.terms1 [0,1] (by rfl) ?_;refine .opV L.terms1 rfl (by rfl) hk ?_;try walk_nrm
  refine Y1.defer L.terms1 rfl (by rfl) hk (runD q c y) (fun w=>by kernel_rfl) (fun w=>by kernel_rfl) ?_;try walk_nrm
  repeat refine .c1 L.terms1 rfl ?_
  refine .regionL L.terms1 [0,1] (by rfl) ?_;iterate 2 (refine .opV L.terms1 rfl (by rfl) hk ?_;try walk_nrm)
  repeat refine .c1 L.terms1 rfl ?_
  refine Y1.loop L.terms1 ?_;refine (?key:∀(k i:Nat) (x:Nat→Int) (D:Nat→Chn) (rm:List Row) (w:World) (u14 u15 u16 u17 u18 u19 u20:Value),i+k=budget→Zok p.n x→LenQ K.k (900000000+i) D→NR K rm D→(runQ p k x D).2=(runQ p budget z C).2→KnL L w0 (ZQ K g num (YB cb co p.n cc) x::rm) (runL L g q c y 0) w→Y1 Tryz.prog false L.R1 L.D1 (StopB Tryz.prog L.c L.R1 L.D1 L.SL FS ((runQ p k x D).1++vs)) (G ((base 84).at {tmps:=#[.pointer (some ⟨g,0,none⟩),.int .i64 budget,inV,.chan (some L.c),.pointer (some ⟨q,0,none⟩),undef,undef,.pointer (some ⟨c,0,none⟩),.pointer (some ⟨y,0,none⟩),.pointer (some ⟨g,0,none⟩),.bool false,.func (.func 111) #[] #[.pointer (some ⟨q,0,none⟩),.pointer (some ⟨c,0,none⟩),.pointer (some ⟨y,0,none⟩)],.int .i64 budget,.int .i64 i,u14,u15,u16,u17,u18,u19,u20],defers:=[runD q c y]} _) (cl::cs)) w) budget 0 z C rn _ undef undef undef undef undef undef undef (by omega) hz hlen hN rfl hF
  case key=>
   clear hF hres hde hst hN hlen hz;intro k;induction k with
   |zero=>
    intro i x D rm w u14 u15 u16 u17 u18 u19 u20 hik hx hlen hN hr hF;have hlt:decide ((i:Int)<(budget:Int))=false:=by simp;omega
    show Y1 _ _ _ _ (StopB Tryz.prog L.c L.R1 L.D1 L.SL FS (vs)) _ _;repeat refine .c1 L.terms1 rfl ?_
    refine .regionL L.terms1 [0] (by rfl) ?_;refine .opV L.terms1 rfl (by rfl) hk ?_;try walk_nrm
    repeat refine .c1 L.terms1 rfl ?_
    refine Y1.condF L.terms1 (by first|rfl|(simp [Act.eval];omega)) ?_;refine Y1.exit L.terms1 rfl ?_;repeat refine .c1 L.terms1 rfl ?_
    refine .regionL L.terms1 [0] (by rfl) ?_;refine .op rfl (by rfl) hk fun w1 hR K_ hK=>?_;replace hF:=hF.rely hR;clear hR;have hc:World.cell? _ ⟨y,0,none⟩=some (.int .i64 0):=hF.l1 (k:=2) rfl;have hz2:World.frozen? _ ⟨y,0,none⟩=false:=hF.lfrozen (k:=2) rfl 0;go_simp;try (unfold stored;go_simp)
    refine hK _ _ ⟨?_,?_⟩
    ·refine hF.ldoes (k:=2) rfl 0 _ ?_;co_evs (exact rfl)
    clear hK K_;clear hc hz2;replace hF:KnL L w0 (ZQ K g num (YB cb co p.n cc) x::rm) (runL L g q c y 2) _:=hF.set1 (k:=2) rfl (.int .i64 2);try walk_nrm
    repeat refine .c1 L.terms1 rfl ?_
    refine Y1.ret L.terms1 fun todo=>?_;refine Y3x rfl rfl _ hF fun w3 hF3=>?_;refine Ret ⟨_,[]⟩ todo _ _ rfl (Y11 hF3 rfl) ⟨?_,rm,?_,?_⟩
    ·rw [←hr];rfl
    ·rw [←hr];exact hN
    ·rw [←hr];exact hF3.drop
   |succ k ih=>
    intro i x D rm w u14 u15 u16 u17 u18 u19 u20 hik hx hlen hN hr hF;have hlt:decide ((i:Int)<(budget:Int))=true:=by simp;omega
    have hsok:=YcC (ins:=p.ins) hok hx hlen;rw [Yf3];repeat refine .c1 L.terms1 rfl ?_
    refine .regionL L.terms1 [0] (by rfl) ?_;refine .opV L.terms1 rfl (by rfl) hk ?_;try walk_nrm
    repeat refine .c1 L.terms1 rfl ?_
    refine Y1.condT L.terms1 (by first|rfl|(simp [Act.eval];omega)) ?_;repeat refine .c1 L.terms1 rfl ?_
    refine .regionL L.terms1 [0,1,2,3,4] (by rfl) ?_;refine .op rfl (by rfl) hk fun w1 hR K_ hK=>?_;replace hF:=hF.rely hR;clear hR;have hc:World.cell? _ ⟨q,0,none⟩=some (.pointer (some ⟨g,0,none⟩)):=hF.l1 (k:=0) rfl;go_simp;try (unfold stored;go_simp)
    refine hK _ _ ⟨?_,?_⟩
    ·refine hF.llooks (k:=0) rfl ?_;co_evs (exact ⟨_,rfl⟩)
    clear hK K_;clear hc;try walk_nrm
    refine .opV L.terms1 rfl (by rfl) hk ?_;try walk_nrm
    refine .op rfl (by rfl) hk fun w1 hR K_ hK=>?_;replace hF:=hF.rely hR;clear hR;have hc:World.cell? _ ⟨c,0,none⟩=some (.chan (some L.c)):=hF.l1 (k:=1) rfl;go_simp;try (unfold stored;go_simp)
    refine hK _ _ ⟨?_,?_⟩
    ·refine hF.llooks (k:=1) rfl ?_;co_evs (exact ⟨_,rfl⟩)
    clear hK K_;clear hc;try walk_nrm
    refine Y1.callE rfl (by rfl) hk rfl Tryz.func113 (by rfl) rfl #[.pointer (some ⟨g,0,none⟩),inV,.chan (some L.c)] (by kernel_rfl) (YgP he hW hin hln hN hs hcode hn hok hx (hlen.le (by omega)) _ hF) ?_ ?_
    ·rintro v w2 ⟨op,e,x',D',hsf,rfl,rm',hN',hF2⟩;replace hF:=hF2;clear hF2;rw [hsf] at hsok;try walk_nrm
     refine .opV L.terms1 rfl (by rfl) hk ?_;try walk_nrm
     repeat refine .c1 L.terms1 rfl ?_
     by_cases h0:op=0
     ·have hb:(op==0)=true:=by simpa using h0
      have htl:Yco p k x D vs=vs:=by unfold Yco;rw [hsf];exact if_pos h0
      have hfin:(runQ p (k+1) x D).2=(1,x',D'):=by simp [runQ,hsf,h0]
      rw [htl];refine Y1.condT L.terms1 (by simp [Act.eval,hb]) ?_;repeat refine .c1 L.terms1 rfl ?_
      refine .regionL L.terms1 [0] (by rfl) ?_;refine .op rfl (by rfl) hk fun w1 hR K_ hK=>?_;replace hF:=hF.rely hR;clear hR;have hc:World.cell? _ ⟨y,0,none⟩=some (.int .i64 0):=hF.l1 (k:=2) rfl;have hz2:World.frozen? _ ⟨y,0,none⟩=false:=hF.lfrozen (k:=2) rfl 0;go_simp;try (unfold stored;go_simp)
      refine hK _ _ ⟨?_,?_⟩
      ·refine hF.ldoes (k:=2) rfl 0 _ ?_;co_evs (exact rfl)
      clear hK K_;clear hc hz2;replace hF:KnL L w0 (ZQ K g num (YB cb co p.n cc) x'::rm') (runL L g q c y 1) _:=hF.set1 (k:=2) rfl (.int .i64 1);try walk_nrm
      repeat refine .c1 L.terms1 rfl ?_
      refine Y1.ret L.terms1 fun todo=>?_;refine Y3x rfl rfl _ hF fun w3 hF3=>?_;refine Ret ⟨_,[]⟩ todo _ _ rfl (Y11 hF3 rfl) ⟨?_,rm',?_,?_⟩
      ·rw [←hr,hfin]
      ·rw [←hr,hfin];exact hN'
      ·rw [←hr,hfin];exact hF3.drop
     ·have hb:(op==0)=false:=by simpa using h0
      have htl:Yco p k x D vs=(runQ p k x' D').1++vs:=by unfold Yco;rw [hsf];exact if_neg h0
      have hfin:(runQ p (k+1) x D).2=(runQ p k x' D').2:=by simp [runQ,hsf,h0]
      rw [htl];have hwr:IntKind.i64.wrap ((i:Int)+1)=((i+1:Nat):Int):=by rw [IntKind.wrap_i64];omega
      refine Y1.condF L.terms1 (by simp [Act.eval,hb]) ?_;repeat refine .c1 L.terms1 rfl ?_
      refine .regionL L.terms1 [0,1] (by rfl) ?_;iterate 2 (refine .opV L.terms1 rfl (by rfl) hk ?_;try walk_nrm)
      repeat refine .c1 L.terms1 rfl ?_
      refine Y1.inLoop L.terms1 ?_;exact ih (i+1) x' D' rm' _ _ _ _ _ _ _ _ (by omega) hsok.1 hsok.2 hN' (by rw [←hfin];exact hr) hF
    ·rintro ch w2 ⟨wy,x',hsf,rfl,hF2⟩;replace hF:=hF2;clear hF2;have htl:Yco p k x D vs=XU wy (Yo x' 47)::vs:=by unfold Yco;rw [hsf]
     have hfin:(runQ p (k+1) x D).2=(3,Yo x',Yc9 K.fr num D):=by simp [runQ,hsf,hfr,hnum]
     rw [htl];refine YeC he hW hN wy 0 rfl rfl _ hF fun rm' w3 hN' hF3=>?_;refine Ret ⟨_,[]⟩ _ _ _ rfl (Y11 hF3 rfl) ⟨?_,rm',?_,?_⟩
     ·rw [←hr,hfin]
     ·rw [←hr,hfin];exact hN'
     ·rw [←hr,hfin];exact hF3.drop
end
section
variable {L:Lot} {w0:World} {rn:List Row} {K:NetK} {C:Nat→Chn} {p:Prg} {g b0 b1 b2 b3 cb co cc:Nat} {num:Int} {inV:Value} {z:Nat→Int}
theorem Yfe (he:Evs L) (hev1:((143:Nat)==L.ev)=false) (hev2:((221:Nat)==L.ev)=false) (hW:NetW L w0 K) (hfr:p.fr=K.fr) (hnum:p.num=num) (hin:InR L w0 inV p.ins) (hln:p.ins.length≤1000) (hN:NR K rn C) (hs:Still L w0 cb) (hcode:∀j,j<p.n*4→w0.cell? ⟨cb,co+j,none⟩=some (.int .i64 (p.ci j))) (hn:p.n≤48) (hok:Yc8 p.n K.k p.ci) (hz:Zok p.n z) (hlen:LenQ K.k 900000000 C)
  (budget:Nat) (hbud:budget≤200) (s0:Still L w0 b0) (s1:Still L w0 b1) (s2:Still L w0 b2) (s3:Still L w0 b3)
  (c0:w0.cell? ⟨b0,0,none⟩=some (.chan (some L.c))) (c1:w0.cell? ⟨b1,0,none⟩=some (.pointer (some ⟨g,0,none⟩))) (c2:w0.cell? ⟨b2,0,none⟩=some (.int .i64 budget)) (c3:w0.cell? ⟨b3,0,none⟩=some inV) (w:World) (hF:Kn L w0 (ZQ K g num (YB cb co p.n cc) z::rn) w):
  Y1 Tryz.prog false L.R1 L.D1 (StopB Tryz.prog L.c L.R1 L.D1 L.SL (fun w'=>∃rn',NR K rn' (YbN p budget z C).2.2∧Kn L w0 (ZQ K g num (YB cb co p.n cc) (YbN p budget z C).2.1::rn') w') (YbN p budget z C).1) (G (Y09 Tryz.prog (winD b0 b1 b2 b3)) []) w:=by
 replace hF:=hF.lay;obtain ⟨ip,il,ic',rfl⟩:∃ip il ic',inV=.slice ip il ic':=by obtain ⟨a,c,e,_⟩:=hin;exact ⟨_,_,_,e⟩
 have hk:(baseD 83).kind≠.early:=by simp [baseD]
 refine Y1.unwind L.terms1 #[.pointer (some ⟨b0,0,none⟩),.pointer (some ⟨b1,0,none⟩),.pointer (some ⟨b2,0,none⟩),.pointer (some ⟨b3,0,none⟩),undef,undef,undef,undef,undef,undef,undef,undef,undef,undef,undef,undef,undef,undef,undef,undef,undef,undef,undef,undef,undef] (by simp) rfl Tryz.func83 (by rfl) rfl (by kernel_rfl) ?_;repeat refine .c1 L.terms1 rfl ?_
 refine .regionL L.terms1 [0,1] (by rfl) ?_;refine .op rfl (by rfl) hk fun w1 hR K_ hK=>?_;replace hF:=hF.rely hR;clear hR;have hc:World.cell? _ ⟨b0,0,none⟩=some (.chan (some L.c)):=(hF.stillCell (a:=⟨b0,0,none⟩) s0).trans c0;go_simp;try (unfold stored;go_simp)
 refine hK _ _ ⟨?_,?_⟩
 ·refine hF.stillLooks s0 ?_;co_evs (exact ⟨_,rfl⟩)
 clear hK K_;clear hc;try walk_nrm
 refine Y1.defer L.terms1 rfl (by rfl) hk (Y3W L.c) (fun w=>by kernel_rfl) (fun w=>by kernel_rfl) ?_;try walk_nrm
 repeat refine .c1 L.terms1 rfl ?_
 refine .regionL L.terms1 [0,1,2,3,4] (by rfl) ?_;refine .op rfl (by rfl) hk fun w1 hR K_ hK=>?_;replace hF:=hF.rely hR;clear hR;have hc:World.cell? _ ⟨b1,0,none⟩=some (.pointer (some ⟨g,0,none⟩)):=(hF.stillCell (a:=⟨b1,0,none⟩) s1).trans c1;go_simp;try (unfold stored;go_simp)
 refine hK _ _ ⟨?_,?_⟩
 ·refine hF.stillLooks s1 ?_;co_evs (exact ⟨_,rfl⟩)
 clear hK K_;clear hc;try walk_nrm
 iterate 2 (refine .opV L.terms1 rfl (by rfl) hk ?_;try walk_nrm)
 refine .op rfl (by rfl) hk fun w1 hR K_ hK=>?_;replace hF:=hF.rely hR;clear hR;have hc:World.cell? _ ⟨g,46,none⟩=some (.int .i64 (z 46)):=hF.cellZ (ic:=0) rfl (by omega) (by omega);go_simp;try (unfold stored;go_simp)
 refine hK _ _ ⟨?_,?_⟩
 ·refine hF.looks (i:=0) (r:=ZQ K g num (YB cb co p.n cc) z) rfl ?_;co_evs (exact ⟨_,rfl⟩)
 clear hK K_;clear hc;try walk_nrm
 refine .opV L.terms1 rfl (by rfl) hk ?_;try walk_nrm
 repeat refine .c1 L.terms1 rfl ?_
 refine .regionL L.terms1 [0,1,2,3,4,5] (by rfl) ?_;refine .op rfl (by rfl) hk fun w1 hR K_ hK=>?_;replace hF:=hF.rely hR;clear hR;have hc:World.cell? _ ⟨b1,0,none⟩=some (.pointer (some ⟨g,0,none⟩)):=(hF.stillCell (a:=⟨b1,0,none⟩) s1).trans c1;go_simp;try (unfold stored;go_simp)
 refine hK _ _ ⟨?_,?_⟩
 ·refine hF.stillLooks s1 ?_;co_evs (exact ⟨_,rfl⟩)
 clear hK K_;clear hc;try walk_nrm
 refine .op rfl (by rfl) hk fun w1 hR K_ hK=>?_;replace hF:=hF.rely hR;clear hR;have hc:World.cell? _ ⟨b2,0,none⟩=some (.int .i64 budget):=(hF.stillCell (a:=⟨b2,0,none⟩) s2).trans c2;go_simp;try (unfold stored;go_simp)
 refine hK _ _ ⟨?_,?_⟩
 ·refine hF.stillLooks s2 ?_;co_evs (exact ⟨_,rfl⟩)
 clear hK K_;clear hc;try walk_nrm
 refine .op rfl (by rfl) hk fun w1 hR K_ hK=>?_;replace hF:=hF.rely hR;clear hR;have hc:World.cell? _ ⟨b3,0,none⟩=some (.slice ip il ic'):=(hF.stillCell (a:=⟨b3,0,none⟩) s3).trans c3;go_simp;try (unfold stored;go_simp)
 refine hK _ _ ⟨?_,?_⟩
 ·refine hF.stillLooks s3 ?_;co_evs (exact ⟨_,rfl⟩)
 clear hK K_;clear hc;try walk_nrm
 refine .op rfl (by rfl) hk fun w1 hR K_ hK=>?_;replace hF:=hF.rely hR;clear hR;have hc:World.cell? _ ⟨b0,0,none⟩=some (.chan (some L.c)):=(hF.stillCell (a:=⟨b0,0,none⟩) s0).trans c0;go_simp;try (unfold stored;go_simp)
 refine hK _ _ ⟨?_,?_⟩
 ·refine hF.stillLooks s0 ?_;co_evs (exact ⟨_,rfl⟩)
 clear hK K_;clear hc;try walk_nrm
 show Y1 _ _ _ _ (StopB _ _ _ _ _ _ ((goQ p budget z C).1++[Xk (IntKind.i64.wrap ((goQ p budget z C).2.2.1 46-z 46)) (goQ p budget z C).2.1])) _ _;refine Y1.callE rfl (by rfl) hk rfl Tryz.func84 (by rfl) rfl #[.pointer (some ⟨g,0,none⟩),.int .i64 budget,.slice ip il ic',.chan (some L.c)] (by kernel_rfl) (Yga he hev1 hev2 hW hfr hnum hin hln hN hs hcode hn hok hz hlen budget hbud _ hF) ?_ (fun _ _ h=>h.elim);rintro v w2 ⟨rfl,rn1,hN1,hF2⟩;replace hF:=hF2.lay;clear hF2;try walk_nrm
 refine .opV L.terms1 rfl (by rfl) hk ?_;try walk_nrm
 repeat refine .c1 L.terms1 rfl ?_
 refine Y1.drawnT (S:=KnL L w0 (ZQ K g num (YB cb co p.n cc) (goQ p budget z C).2.2.1::rn1) []) L.terms1 L.draws1 10 (by rfl) hk (by kernel_rfl) ?_;intro w1 hR;replace hF:=(hF.rely hR).rely (Turn.drew _);clear hR;co_applyP Yq L.terms1 (fun _ _ _ _ h r=>⟨h.1,h.2.rely L.terms1.trans r⟩) (fun _ _ h r=>KnL.rely h r) ?hqr1 (i:=0) rfl (by first|kernel_rfl|decide +kernel) (by first|kernel_rfl|decide +kernel) (by first|kernel_rfl|decide +kernel) (by first|kernel_rfl|decide +kernel) (.inl ⟨by rfl,fun _ hw=>⟨run_eq_of ?run1,?guar1⟩⟩) hF ?rest1
 case hqr1=>exact fun _ _ _ h r=>Y1.rely L.terms1.trans h r
 case run1=>
  intro K_ hK;have hc:World.cell? _ ⟨b0,0,none⟩=some (.chan (some L.c)):=(hw.stillCell (a:=⟨b0,0,none⟩) s0).trans c0;go_simp;exact hK
 case guar1=>
  have hc:World.cell? _ ⟨b0,0,none⟩=some (.chan (some L.c)):=(hw.stillCell (a:=⟨b0,0,none⟩) s0).trans c0;refine hw.stillLooks s0 ?_;co_evs (exact ⟨_,rfl⟩)
 try walk_nrm
 co_applyP Yq L.terms1 (fun _ _ _ _ h r=>⟨h.1,h.2.rely L.terms1.trans r⟩) (fun _ _ h r=>KnL.rely h r) ?hqr2 (i:=1) rfl (by first|kernel_rfl|decide +kernel) (by first|kernel_rfl|decide +kernel) (by first|kernel_rfl|decide +kernel) (by first|kernel_rfl|decide +kernel) (.inl ⟨by rfl,fun _ hw=>⟨run_eq_of ?run2,?guar2⟩⟩) hF ?rest2
 case hqr2=>exact fun _ _ _ h r=>Y1.rely L.terms1.trans h r
 case run2=>
  intro K_ hK;have hc:World.cell? _ ⟨b1,0,none⟩=some (.pointer (some ⟨g,0,none⟩)):=(hw.stillCell (a:=⟨b1,0,none⟩) s1).trans c1;go_simp;exact hK
 case guar2=>
  have hc:World.cell? _ ⟨b1,0,none⟩=some (.pointer (some ⟨g,0,none⟩)):=(hw.stillCell (a:=⟨b1,0,none⟩) s1).trans c1;refine hw.stillLooks s1 ?_;co_evs (exact ⟨_,rfl⟩)
 try walk_nrm
 co_applyP Yq L.terms1 (fun _ _ _ _ h r=>⟨h.1,h.2.rely L.terms1.trans r⟩) (fun _ _ h r=>KnL.rely h r) ?hqr3 (i:=2) rfl (by first|kernel_rfl|decide +kernel) (by first|kernel_rfl|decide +kernel) (by first|kernel_rfl|decide +kernel) (by first|kernel_rfl|decide +kernel) (.inl ⟨by rfl,fun _ hw=>⟨run_eq_of ?run3,?guar3⟩⟩) hF ?rest3
 case hqr3=>exact fun _ _ _ h r=>Y1.rely L.terms1.trans h r
 case run3=>
  intro K_ hK;skip;go_simp;exact hK
 case guar3=>
  skip
  co_quiet L.terms1
 try walk_nrm
 co_applyP Yq L.terms1 (fun _ _ _ _ h r=>⟨h.1,h.2.rely L.terms1.trans r⟩) (fun _ _ h r=>KnL.rely h r) ?hqr4 (i:=3) rfl (by first|kernel_rfl|decide +kernel) (by first|kernel_rfl|decide +kernel) (by first|kernel_rfl|decide +kernel) (by first|kernel_rfl|decide +kernel) (.inl ⟨by rfl,fun _ hw=>⟨run_eq_of ?run4,?guar4⟩⟩) hF ?rest4
 case hqr4=>exact fun _ _ _ h r=>Y1.rely L.terms1.trans h r
 case run4=>
  intro K_ hK;skip;go_simp;exact hK
 case guar4=>
  skip
  co_quiet L.terms1
 try walk_nrm
 co_applyP Yq L.terms1 (fun _ _ _ _ h r=>⟨h.1,h.2.rely L.terms1.trans r⟩) (fun _ _ h r=>KnL.rely h r) ?hqr5 (i:=4) rfl (by first|kernel_rfl|decide +kernel) (by first|kernel_rfl|decide +kernel) (by first|kernel_rfl|decide +kernel) (by first|kernel_rfl|decide +kernel) (.inl ⟨by rfl,fun _ hw=>⟨run_eq_of ?run5,?guar5⟩⟩) hF ?rest5
 case hqr5=>exact fun _ _ _ h r=>Y1.rely L.terms1.trans h r
 case run5=>
  intro K_ hK;have hc:World.cell? _ ⟨g,46,none⟩=some (.int .i64 ((goQ p budget z C).2.2.1 46)):=KnL.cellZ (ic:=0) hw rfl (by omega) (by omega);go_simp;exact hK
 case guar5=>
  have hc:World.cell? _ ⟨g,46,none⟩=some (.int .i64 ((goQ p budget z C).2.2.1 46)):=KnL.cellZ (ic:=0) hw rfl (by omega) (by omega);refine KnL.looks (i:=0) (r:=ZQ K g num (YB cb co p.n cc) (goQ p budget z C).2.2.1) hw rfl ?_;co_evs (exact ⟨_,rfl⟩)
 try walk_nrm
 co_applyP Yq L.terms1 (fun _ _ _ _ h r=>⟨h.1,h.2.rely L.terms1.trans r⟩) (fun _ _ h r=>KnL.rely h r) ?hqr6 (i:=5) rfl (by first|kernel_rfl|decide +kernel) (by first|kernel_rfl|decide +kernel) (by first|kernel_rfl|decide +kernel) (by first|kernel_rfl|decide +kernel) (.inl ⟨by rfl,fun _ hw=>⟨run_eq_of ?run6,?guar6⟩⟩) hF ?rest6
 case hqr6=>exact fun _ _ _ h r=>Y1.rely L.terms1.trans h r
 case run6=>
  intro K_ hK;skip;go_simp;exact hK
 case guar6=>
  skip
  co_quiet L.terms1
 try walk_nrm
 co_applyP Yq L.terms1 (fun _ _ _ _ h r=>⟨h.1,h.2.rely L.terms1.trans r⟩) (fun _ _ h r=>KnL.rely h r) ?hqr7 (i:=6) rfl (by first|kernel_rfl|decide +kernel) (by first|kernel_rfl|decide +kernel) (by first|kernel_rfl|decide +kernel) (by first|kernel_rfl|decide +kernel) (.inl ⟨by rfl,fun _ hw=>⟨run_eq_of ?run7,?guar7⟩⟩) hF ?rest7
 case hqr7=>exact fun _ _ _ h r=>Y1.rely L.terms1.trans h r
 case run7=>
  intro K_ hK;skip;go_simp;exact hK
 case guar7=>
  skip
  co_quiet L.terms1
 try walk_nrm
 co_applyP Yq L.terms1 (fun _ _ _ _ h r=>⟨h.1,h.2.rely L.terms1.trans r⟩) (fun _ _ h r=>KnL.rely h r) ?hqr8 (i:=7) rfl (by first|kernel_rfl|decide +kernel) (by first|kernel_rfl|decide +kernel) (by first|kernel_rfl|decide +kernel) (by first|kernel_rfl|decide +kernel) (.inl ⟨by rfl,fun _ hw=>⟨run_eq_of ?run8,?guar8⟩⟩) hF ?rest8
 case hqr8=>exact fun _ _ _ h r=>Y1.rely L.terms1.trans h r
 case run8=>
  intro K_ hK;skip;go_simp;exact hK
 case guar8=>
  skip
  co_quiet L.terms1
 try walk_nrm
 co_applyP Yq L.terms1 (fun _ _ _ _ h r=>⟨h.1,h.2.rely L.terms1.trans r⟩) (fun _ _ h r=>KnL.rely h r) ?hqr9 (i:=8) rfl (by first|kernel_rfl|decide +kernel) (by first|kernel_rfl|decide +kernel) (by first|kernel_rfl|decide +kernel) (by first|kernel_rfl|decide +kernel) (.inl ⟨by rfl,fun _ hw=>⟨run_eq_of ?run9,?guar9⟩⟩) hF ?rest9
 case hqr9=>exact fun _ _ _ h r=>Y1.rely L.terms1.trans h r
 case run9=>
  intro K_ hK;skip;go_simp;exact hK
 case guar9=>
  skip
  co_quiet L.terms1
 try walk_nrm
 refine Y1P (i:=9) (by first|kernel_rfl|decide +kernel) rfl (by rfl) (Z8 rfl (by first|kernel_rfl|decide +kernel)) ⟨rfl,?_⟩;refine Y1.send rfl (by rfl) hk rfl rfl rfl ?_;try walk_nrm
 repeat refine .c1 L.terms1 rfl ?_
 refine Y1.fin L.terms1 ?_;exact .stop rfl fun w1 hR=>YbG (b0:=b0) (b1:=b1) (b2:=b2) (b3:=b3) rfl ⟨rn1,hN1,(hF.rely hR).drop⟩
end
end Go.Proofs.YtdoghgnifkgfdaaGreat.Mute
