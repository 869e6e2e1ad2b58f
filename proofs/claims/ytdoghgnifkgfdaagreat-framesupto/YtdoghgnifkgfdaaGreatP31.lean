import Derived.Test.YtdoghgnifkgfdaaGreatP00
import Derived.Test.YtdoghgnifkgfdaaGreatP21
import Derived.Test.YtdoghgnifkgfdaaGreatP22
import Derived.Test.YtdoghgnifkgfdaaGreatP29
import Derived.Test.YtdoghgnifkgfdaaGreatP30
set_option maxRecDepth 100000
set_option maxHeartbeats 16000000
open Option renaming none->Ai,some->yi
open Go renaming World->ui,Value->ti,undef->ri
open Bool renaming true->ji,false->gi
namespace Go.Proofs.YtdoghgnifkgfdaaGreat.Mute
open Tryz Go Go.Conc Go.RowKit
section
variable {L:km}{w0:ui}{rn:List Row}{K:Nl}{C:Nat->Jl}{p:fF}{g cb co cc:Nat}{num:Int}{inV:ti}{z:Nat->Int}
theorem oc0{FS:ui->Prop}(he:Evs L)(D90:((143:Nat)==L.ev)=gi)(yM:((221:Nat)==L.ev)=gi)(hW:zF L w0 K)(Dy:p.fr=K.fr)(XD:p.num=num)(Pm:InR L w0 inV p.ins)(GF:p.ins.length<=1000)(hN:NR K rn C)(hs:Still L w0 cb)(Gj:∀j,j<p.n*4->w0.cell? ⟨cb,co+j,Ai⟩=yi (.int .i64 (p.ci j)))(hn:p.n<=48)(gl:uq p.n K.k p.ci)(hz:Fv p.n z)(hlen:qq K.k 900000000 C)
  (budget:Nat)(jP:budget<=200)(w:ui)(hF:Si L w0 (bk K g num (Um cb co p.n cc) z::rn) [] w):
  Bt prog L FS 84 #[.pointer (yi ⟨g,0,Ai⟩),.int .i64 budget,inV,.chan (yi L.c)] w (uy p budget z C).1
   (fun v w'=>v=.int .i64 (uy p budget z C).2.1/\∃Fp,NR K Fp (uy p budget z C).2.2.2/\Kn L w0 (bk K g num (Um cb co p.n cc) (uy p budget z C).2.2.1::Fp) w') (fun _ _=>False):=by
 have hk:(base 84).kind≠.early:=E1;refine Bt.intro #[.pointer (yi ⟨g,0,Ai⟩),.int .i64 budget,inV,.chan (yi L.c),ri,ri,ri,ri,ri,ri,ri,ri,ri,ri,ri,ri,ri,ri,ri,ri,ri] func84 rfl J0 fun cl cs vs jm _=>?_;refine J8 ?_;refine Q9 ?_;refine N8 fun w1 K_ hK hF=>?_;refine I8 ?_ ?_
 ·refine bf ?_;exact j9
 clear hK K_;replace hF:Si L w0 (bk K g num (Um cb co p.n cc) z::rn) ([one1 w1.heap.size 143 (.pointer (yi ⟨g,0,Ai⟩))]) _:=hF.ca0 D90 _;generalize hB:w1.heap.size=q at *;generalize hW':(w1.alloc (.cells #[.pointer (yi ⟨g,0,Ai⟩)] 143))=w2 at *;clear hW' hB w1;refine W9 ?_;refine N8 fun w1 K_ hK hF=>?_;refine I8 ?_ ?_
 ·refine bf ?_;exact j9
 clear hK K_;replace hF:Si L w0 (bk K g num (Um cb co p.n cc) z::rn) ([one1 q 143 (.pointer (yi ⟨g,0,Ai⟩)),one1 w1.heap.size 221 (.chan (yi L.c))]) _:=hF.ca0 yM _;generalize hB:w1.heap.size=c at *;generalize hW':(w1.alloc (.cells #[.chan (yi L.c)] 221))=w2 at *;clear hW' hB w1;refine W9 ?_;refine N8 fun w1 K_ hK hF=>?_;refine I8 ?_ ?_
 ·refine bf ?_;exact j9
 clear hK K_;replace hF:Si L w0 (bk K g num (Um cb co p.n cc) z::rn) (fG L g q c w1.heap.size 0) _:=hF.ca0 he.i64 _;generalize hB:w1.heap.size=y at *;generalize hW':(w1.alloc (.cells #[.int .i64 0] 2))=w2 at *;clear hW' hB w1;refine W9 ?_;refine J8 ?_;refine Yb ?_;refine N8 fun w1 K_ hK hF=>?_;have hc:World.cell? _ ⟨q,0,Ai⟩=yi (.pointer (yi ⟨g,0,Ai⟩)):=hF.l1 (k:=0) rfl;refine I8 ?_ ?_
 ·refine V9 ?_;exact W8
 clear hK K_;clear hc;refine W9 ?_;refine Ci.Bv L.Bi rfl I0 hk rfl func86 I0 rfl #[.pointer (yi ⟨g,0,Ai⟩)] J0 (IW (ic:=0) (rows:=(bk K g num (Um cb co p.n cc) z::rn)++fG L g q c y 0) rfl _ hF) ?_ (fun _ _ _ h=>h.elim);rintro v w2 ⟨rfl,ql⟩;replace hF:Si L w0 (bk K g num (Um cb co p.n cc) z::rn) (fG L g q c y 0) w2:=ql;clear ql;refine W9 ?_;refine J8 ?_;by_cases wm:z 3<z 47
 ·have oJ:uy p budget z C=([],4,z,C):=by unfold uy;rw[if_pos wm]
  have hde:decide (z 3<z 47)=true:=by simpa using wm
  rw[oJ]at jm ⊢;rw[hde];refine T9 ?_;refine J8 ?_;refine s9 ?_;refine N8 fun w1 K_ hK hF=>?_;refine zd fun hc Bn=>?_;refine I8 ?_ ?_
  ·refine hF.yU (k:=2) rfl 0 _ ?_;exact Ec
  clear hK K_;clear hc Bn;replace hF:Si L w0 (bk K g num (Um cb co p.n cc) z::rn) (fG L g q c y 4) _:=hF.set1 (k:=2) rfl (.int .i64 4);refine W9 ?_;refine J8 ?_;refine Wb fun todo=>?_;exact jm _ todo _ _ rfl (Jx hF rfl) ⟨rfl,rn,hN,hF.drop⟩
 ·have oJ:uy p budget z C=Fo p budget z C:=by unfold uy;rw[if_neg wm]
  have hde:decide (z 3<z 47)=false:=by simpa using wm
  rw[oJ]at jm ⊢;rw[hde];refine Ci.xk L.Bi I0 ?_;refine J8 ?_;refine Yb ?_;refine M8 ?_;refine Ci.defer L.Bi rfl I0 hk (P50 q c y) (fun w=>J0) (fun w=>J0) ?_;refine W9 ?_;refine J8 ?_;refine L8 ?_;refine J8 ?_;refine Hh ?_;refine(?key:∀(k i:Nat)(x:Nat->Int)(D:Nat->Jl)(rm:List Row)(w:ui)(tw vw u16 Aw zw uw xw:ti),i+k=budget->Fv p.n x->qq K.k (900000000+i) D->NR K rm D->(Fo p k x D).2=(Fo p budget z C).2->Si L w0 (bk K g num (Um cb co p.n cc) x::rm) (fG L g q c y 0) w->Ci prog gi L.R1 L.D1 (StopB prog L.c L.R1 L.D1 L.SL FS ((Fo p k x D).1++vs)) (G ((base 84).at {tmps:=#[.pointer (yi ⟨g,0,Ai⟩),.int .i64 budget,inV,.chan (yi L.c),.pointer (yi ⟨q,0,Ai⟩),ri,ri,.pointer (yi ⟨c,0,Ai⟩),.pointer (yi ⟨y,0,Ai⟩),.pointer (yi ⟨g,0,Ai⟩),.bool gi,.func (.func 111) #[] #[.pointer (yi ⟨q,0,Ai⟩),.pointer (yi ⟨c,0,Ai⟩),.pointer (yi ⟨y,0,Ai⟩)],.int .i64 budget,.int .i64 i,tw,vw,u16,Aw,zw,uw,xw],defers:=[P50 q c y]} _) (cl::cs)) w) budget 0 z C rn _ ri ri ri ri ri ri ri E0 hz hlen hN rfl hF
  case key=>
   clear hF oJ hde wm hN hlen hz;intro k;induction k with
   |zero=>
    intro i x D rm w tw vw u16 Aw zw uw xw yr hx hlen hN hr hF;have Wi:decide ((i:Int)<(budget:Int))=false:=by simp;omega
    show Ci _ _ _ _ (StopB prog L.c L.R1 L.D1 L.SL FS (vs)) _ _;refine J8 ?_;refine s9 ?_;refine M8 ?_;refine J8 ?_;refine Ci.xk L.Bi D6 ?_;refine Ci.exit L.Bi rfl ?_;refine J8 ?_;refine s9 ?_;refine N8 fun w1 K_ hK hF=>?_;refine zd fun hc Bn=>?_;refine I8 ?_ ?_
    ·refine hF.yU (k:=2) rfl 0 _ ?_;exact Ec
    clear hK K_;clear hc Bn;replace hF:Si L w0 (bk K g num (Um cb co p.n cc) x::rm) (fG L g q c y 2) _:=hF.set1 (k:=2) rfl (.int .i64 2);refine W9 ?_;refine J8 ?_;refine Wb fun todo=>?_;refine fO rfl rfl _ hF fun w3 fX=>?_;refine jm ⟨_,[]⟩ todo _ _ rfl (Jx fX rfl) ⟨?_,rm,?_,?_⟩
    ·rw[<-hr];rfl
    ·rw[<-hr];exact hN
    ·rw[<-hr];exact fX.drop
   |succ k ih=>
    intro i x D rm w tw vw u16 Aw zw uw xw yr hx hlen hN hr hF;have Wi:decide ((i:Int)<(budget:Int))=true:=by simp;omega
    have j90:=Hz (ins:=p.ins) gl hx hlen;rw[XZ];refine J8 ?_;refine s9 ?_;refine M8 ?_;refine J8 ?_;refine Ci.zk L.Bi D6 ?_;refine J8 ?_;refine rf ?_;refine N8 fun w1 K_ hK hF=>?_;have hc:World.cell? _ ⟨q,0,Ai⟩=yi (.pointer (yi ⟨g,0,Ai⟩)):=hF.l1 (k:=0) rfl;refine I8 ?_ ?_
    ·refine V9 ?_;exact W8
    clear hK K_;clear hc;refine W9 ?_;refine M8 ?_;refine N8 fun w1 K_ hK hF=>?_;have hc:World.cell? _ ⟨c,0,Ai⟩=yi (.chan (yi L.c)):=hF.l1 (k:=1) rfl;refine I8 ?_ ?_
    ·refine hF.vk (k:=1) rfl ?_;exact W8
    clear hK K_;clear hc;refine W9 ?_;refine Ci.V70 rfl I0 hk rfl func113 I0 rfl #[.pointer (yi ⟨g,0,Ai⟩),inV,.chan (yi L.c)] J0 (k80 he hW Pm GF hN hs Gj hn gl hx (hlen.le E0) _ hF) ?_ ?_
    ·rintro v w2 ⟨op,e,x',D',hsf,rfl,rm',hN',ql⟩;replace hF:=ql;clear ql;rw[hsf]at j90;refine W9 ?_;refine M8 ?_;refine J8 ?_;by_cases h0:op=0
     ·have hb:(op==0)=true:=by simpa using h0
      have p_:XE p k x D vs=vs:=by unfold XE;rw[hsf];exact if_pos h0
      have Us:(Fo p (k+1) x D).2=(1,x',D'):=by simp[Fo,hsf,h0]
      rw[p_];refine Ci.zk L.Bi (by simp[Act.eval,hb]) ?_;refine J8 ?_;refine s9 ?_;refine N8 fun w1 K_ hK hF=>?_;refine zd fun hc Bn=>?_;refine I8 ?_ ?_
      ·refine hF.yU (k:=2) rfl 0 _ ?_;exact Ec
      clear hK K_;clear hc Bn;replace hF:Si L w0 (bk K g num (Um cb co p.n cc) x'::rm') (fG L g q c y 1) _:=hF.set1 (k:=2) rfl (.int .i64 1);refine W9 ?_;refine J8 ?_;refine Wb fun todo=>?_;refine fO rfl rfl _ hF fun w3 fX=>?_;refine jm ⟨_,[]⟩ todo _ _ rfl (Jx fX rfl) ⟨?_,rm',?_,?_⟩
      ·rw[<-hr,Us]
      ·rw[<-hr,Us];exact hN'
      ·rw[<-hr,Us];exact fX.drop
     ·have hb:(op==0)=false:=by simpa using h0
      have p_:XE p k x D vs=(Fo p k x' D').1++vs:=by unfold XE;rw[hsf];exact if_neg h0
      have Us:(Fo p (k+1) x D).2=(Fo p k x' D').2:=by simp[Fo,hsf,h0]
      rw[p_];have hwr:IntKind.i64.wrap ((i:Int)+1)=((i+1:Nat):Int):=by rw[IntKind.wrap_i64];omega
      refine Ci.xk L.Bi (by simp[Act.eval,hb]) ?_;refine J8 ?_;refine L8 ?_;refine J8 ?_;refine Zf ?_;exact ih (i+1) x' D' rm' _ _ _ _ _ _ _ _ E0 j90.1 j90.2 hN' (by rw[<-Us];exact hr) hF
    ·rintro ch w2 ⟨wy,x',hsf,rfl,ql⟩;replace hF:=ql;clear ql;have p_:XE p k x D vs=au wy (Uk x' 47)::vs:=by unfold XE;rw[hsf]
     have Us:(Fo p (k+1) x D).2=(3,Uk x',Rn K.fr num D):=by simp[Fo,hsf,Dy,XD]
     rw[p_];refine LV he hW hN wy 0 rfl rfl _ hF fun rm' w3 hN' fX=>?_;refine jm ⟨_,[]⟩ _ _ _ rfl (Jx fX rfl) ⟨?_,rm',?_,?_⟩
     ·rw[<-hr,Us]
     ·rw[<-hr,Us];exact hN'
     ·rw[<-hr,Us];exact fX.drop
end
section
variable {L:km}{w0:ui}{rn:List Row}{K:Nl}{C:Nat->Jl}{p:fF}{g b0 b1 b2 b3 cb co cc:Nat}{num:Int}{inV:ti}{z:Nat->Int}
theorem J_(he:Evs L)(D90:((143:Nat)==L.ev)=gi)(yM:((221:Nat)==L.ev)=gi)(hW:zF L w0 K)(Dy:p.fr=K.fr)(XD:p.num=num)(Pm:InR L w0 inV p.ins)(GF:p.ins.length<=1000)(hN:NR K rn C)(hs:Still L w0 cb)(Gj:∀j,j<p.n*4->w0.cell? ⟨cb,co+j,Ai⟩=yi (.int .i64 (p.ci j)))(hn:p.n<=48)(gl:uq p.n K.k p.ci)(hz:Fv p.n z)(hlen:qq K.k 900000000 C)
  (budget:Nat)(jP:budget<=200)(s0:Still L w0 b0)(s1:Still L w0 b1)(s2:Still L w0 b2)(s3:Still L w0 b3)
  (c0:w0.cell? ⟨b0,0,Ai⟩=yi (.chan (yi L.c)))(c1:w0.cell? ⟨b1,0,Ai⟩=yi (.pointer (yi ⟨g,0,Ai⟩)))(c2:w0.cell? ⟨b2,0,Ai⟩=yi (.int .i64 budget))(c3:w0.cell? ⟨b3,0,Ai⟩=yi inV)(w:ui)(hF:Kn L w0 (bk K g num (Um cb co p.n cc) z::rn) w):
  Ci prog gi L.R1 L.D1 (StopB prog L.c L.R1 L.D1 L.SL (fun w'=>∃Fp,NR K Fp (lj p budget z C).2.2/\Kn L w0 (bk K g num (Um cb co p.n cc) (lj p budget z C).2.1::Fp) w') (lj p budget z C).1) (G (DG prog (lX b0 b1 b2 b3)) []) w:=by
 replace hF:=hF.lay;obtain⟨ip,il,ic',rfl⟩:∃ip il ic',inV=.slice ip il ic':=by obtain⟨a,c,e,_⟩:=Pm;exact⟨_,_,_,e⟩
 have hk:(baseD 83).kind≠.early:=by simp[baseD]
 refine Ci.unwind L.Bi #[.pointer (yi ⟨b0,0,Ai⟩),.pointer (yi ⟨b1,0,Ai⟩),.pointer (yi ⟨b2,0,Ai⟩),.pointer (yi ⟨b3,0,Ai⟩),ri,ri,ri,ri,ri,ri,ri,ri,ri,ri,ri,ri,ri,ri,ri,ri,ri,ri,ri,ri,ri] P0 rfl func83 I0 rfl J0 ?_;refine J8 ?_;refine Yb ?_;refine N8 fun w1 K_ hK hF=>?_;have hc:World.cell? _ ⟨b0,0,Ai⟩=yi (.chan (yi L.c)):=(hF.nj (a:=⟨b0,0,Ai⟩) s0).trans c0;refine I8 ?_ ?_
 ·refine hF.Aj s0 ?_;exact W8
 clear hK K_;clear hc;refine W9 ?_;refine Ci.defer L.Bi rfl I0 hk (closeD L.c) (fun w=>J0) (fun w=>J0) ?_;refine W9 ?_;refine J8 ?_;refine rf ?_;refine N8 fun w1 K_ hK hF=>?_;have hc:World.cell? _ ⟨b1,0,Ai⟩=yi (.pointer (yi ⟨g,0,Ai⟩)):=(hF.nj (a:=⟨b1,0,Ai⟩) s1).trans c1;refine I8 ?_ ?_
 ·refine hF.Aj s1 ?_;exact W8
 clear hK K_;clear hc;refine W9 ?_;refine Y8 ?_;refine N8 fun w1 K_ hK hF=>?_;have hc:World.cell? _ ⟨g,46,Ai⟩=yi (.int .i64 (z 46)):=hF.gp (ic:=0) rfl E0 E0;refine I8 ?_ ?_
 ·refine hF.looks (i:=0) (r:=bk K g num (Um cb co p.n cc) z) rfl ?_;exact W8
 clear hK K_;clear hc;refine W9 ?_;refine M8 ?_;refine J8 ?_;refine N9 ?_;refine N8 fun w1 K_ hK hF=>?_;have hc:World.cell? _ ⟨b1,0,Ai⟩=yi (.pointer (yi ⟨g,0,Ai⟩)):=(hF.nj (a:=⟨b1,0,Ai⟩) s1).trans c1;refine I8 ?_ ?_
 ·refine hF.Aj s1 ?_;exact W8
 clear hK K_;clear hc;refine W9 ?_;refine N8 fun w1 K_ hK hF=>?_;have hc:World.cell? _ ⟨b2,0,Ai⟩=yi (.int .i64 budget):=(hF.nj (a:=⟨b2,0,Ai⟩) s2).trans c2;refine I8 ?_ ?_
 ·refine hF.Aj s2 ?_;exact W8
 clear hK K_;clear hc;refine W9 ?_;refine N8 fun w1 K_ hK hF=>?_;have hc:World.cell? _ ⟨b3,0,Ai⟩=yi (.slice ip il ic'):=(hF.nj (a:=⟨b3,0,Ai⟩) s3).trans c3;refine I8 ?_ ?_
 ·refine hF.Aj s3 ?_;exact W8
 clear hK K_;clear hc;refine W9 ?_;refine N8 fun w1 K_ hK hF=>?_;have hc:World.cell? _ ⟨b0,0,Ai⟩=yi (.chan (yi L.c)):=(hF.nj (a:=⟨b0,0,Ai⟩) s0).trans c0;refine I8 ?_ ?_
 ·refine hF.Aj s0 ?_;exact W8
 clear hK K_;clear hc;refine W9 ?_;show Ci _ _ _ _ (StopB _ _ _ _ _ _ ((uy p budget z C).1++[Ho (IntKind.i64.wrap ((uy p budget z C).2.2.1 46-z 46)) (uy p budget z C).2.1])) _ _;refine Ci.V70 rfl I0 hk rfl func84 I0 rfl #[.pointer (yi ⟨g,0,Ai⟩),.int .i64 budget,.slice ip il ic',.chan (yi L.c)] J0 (oc0 he D90 yM hW Dy XD Pm GF hN hs Gj hn gl hz hlen budget jP _ hF) ?_ (fun _ _ h=>h.elim);rintro v w2 ⟨rfl,rn1,hN1,ql⟩;replace hF:=ql.lay;clear ql;refine W9 ?_;refine M8 ?_;refine J8 ?_;refine Ci.eR (S:=Si L w0 (bk K g num (Um cb co p.n cc) (uy p budget z C).2.2.1::rn1) []) L.Bi L.Wm 10 I0 hk J0 ?_;intro w1 hR;replace hF:=(hF.rely hR).rely (Turn.drew _);clear hR;co_applyP sj L.Bi (fun _ _ _ _ h r=>⟨h.1,h.2.rely L.Bi.trans r⟩) (fun _ _ h r=>Si.rely h r) ?QK (i:=0) rfl T0 T0 T0 T0 (.inl ⟨I0,fun _ hw=>⟨run_eq_of ?zx,?qC⟩⟩) hF ?AU
 case QK=>exact fun _ _ _ h r=>Ci.rely L.Bi.trans h r
 case zx=>
  intro K_ hK;have hc:World.cell? _ ⟨b0,0,Ai⟩=yi (.chan (yi L.c)):=(hw.nj (a:=⟨b0,0,Ai⟩) s0).trans c0;exact kg
 case qC=>
  have hc:World.cell? _ ⟨b0,0,Ai⟩=yi (.chan (yi L.c)):=(hw.nj (a:=⟨b0,0,Ai⟩) s0).trans c0;refine hw.Aj s0 ?_;exact W8
 refine W9 ?_;co_applyP sj L.Bi (fun _ _ _ _ h r=>⟨h.1,h.2.rely L.Bi.trans r⟩) (fun _ _ h r=>Si.rely h r) ?iM (i:=1) rfl T0 T0 T0 T0 (.inl ⟨I0,fun _ hw=>⟨run_eq_of ?mB,?xC⟩⟩) hF ?PU
 case iM=>exact fun _ _ _ h r=>Ci.rely L.Bi.trans h r
 case mB=>
  intro K_ hK;have hc:World.cell? _ ⟨b1,0,Ai⟩=yi (.pointer (yi ⟨g,0,Ai⟩)):=(hw.nj (a:=⟨b1,0,Ai⟩) s1).trans c1;exact kg
 case xC=>
  have hc:World.cell? _ ⟨b1,0,Ai⟩=yi (.pointer (yi ⟨g,0,Ai⟩)):=(hw.nj (a:=⟨b1,0,Ai⟩) s1).trans c1;refine hw.Aj s1 ?_;exact W8
 refine W9 ?_;co_applyP sj L.Bi (fun _ _ _ _ h r=>⟨h.1,h.2.rely L.Bi.trans r⟩) (fun _ _ h r=>Si.rely h r) ?CM (i:=2) rfl T0 T0 T0 T0 (.inl ⟨I0,fun _ hw=>⟨run_eq_of ?wE,?NB⟩⟩) hF ?GU
 case CM=>exact fun _ _ _ h r=>Ci.rely L.Bi.trans h r
 case wE=>
  exact Nc
 case NB=>
  exact Cb
 refine W9 ?_;co_applyP sj L.Bi (fun _ _ _ _ h r=>⟨h.1,h.2.rely L.Bi.trans r⟩) (fun _ _ h r=>Si.rely h r) ?BM (i:=3) rfl T0 T0 T0 T0 (.inl ⟨I0,fun _ hw=>⟨run_eq_of ?MD,?aD⟩⟩) hF ?XU
 case BM=>exact fun _ _ _ h r=>Ci.rely L.Bi.trans h r
 case MD=>
  exact Nc
 case aD=>
  exact Cb
 refine W9 ?_;co_applyP sj L.Bi (fun _ _ _ _ h r=>⟨h.1,h.2.rely L.Bi.trans r⟩) (fun _ _ h r=>Si.rely h r) ?nM (i:=4) rfl T0 T0 T0 T0 (.inl ⟨I0,fun _ hw=>⟨run_eq_of ?ZG,?JB⟩⟩) hF ?uV
 case nM=>exact fun _ _ _ h r=>Ci.rely L.Bi.trans h r
 case ZG=>
  intro K_ hK;have hc:World.cell? _ ⟨g,46,Ai⟩=yi (.int .i64 ((uy p budget z C).2.2.1 46)):=Si.gp (ic:=0) hw rfl E0 E0;exact kg
 case JB=>
  have hc:World.cell? _ ⟨g,46,Ai⟩=yi (.int .i64 ((uy p budget z C).2.2.1 46)):=Si.gp (ic:=0) hw rfl E0 E0;refine Si.looks (i:=0) (r:=bk K g num (Um cb co p.n cc) (uy p budget z C).2.2.1) hw rfl ?_;exact W8
 refine W9 ?_;co_applyP sj L.Bi (fun _ _ _ _ h r=>⟨h.1,h.2.rely L.Bi.trans r⟩) (fun _ _ h r=>Si.rely h r) ?IL (i:=5) rfl T0 T0 T0 T0 (.inl ⟨I0,fun _ hw=>⟨run_eq_of ?vM,?OB⟩⟩) hF ?aV
 case IL=>exact fun _ _ _ h r=>Ci.rely L.Bi.trans h r
 case vM=>
  exact Nc
 case OB=>
  exact Cb
 refine W9 ?_;co_applyP sj L.Bi (fun _ _ _ _ h r=>⟨h.1,h.2.rely L.Bi.trans r⟩) (fun _ _ h r=>Si.rely h r) ?rL (i:=6) rfl T0 T0 T0 T0 (.inl ⟨I0,fun _ hw=>⟨run_eq_of ?TM,?bD⟩⟩) hF ?iV
 case rL=>exact fun _ _ _ h r=>Ci.rely L.Bi.trans h r
 case TM=>
  exact Nc
 case bD=>
  exact Cb
 refine W9 ?_;co_applyP sj L.Bi (fun _ _ _ _ h r=>⟨h.1,h.2.rely L.Bi.trans r⟩) (fun _ _ h r=>Si.rely h r) ?R90 (i:=7) rfl T0 T0 T0 T0 (.inl ⟨I0,fun _ hw=>⟨run_eq_of ?l90,?c00⟩⟩) hF ?cc0
 case R90=>exact fun _ _ _ h r=>Ci.rely L.Bi.trans h r
 case l90=>
  exact Nc
 case c00=>
  exact Cb
 refine W9 ?_;co_applyP sj L.Bi (fun _ _ _ _ h r=>⟨h.1,h.2.rely L.Bi.trans r⟩) (fun _ _ h r=>Si.rely h r) ?E80 (i:=8) rfl T0 T0 T0 T0 (.inl ⟨I0,fun _ hw=>⟨run_eq_of ?wa0,?b10⟩⟩) hF ?Ff0
 case E80=>exact fun _ _ _ h r=>Ci.rely L.Bi.trans h r
 case wa0=>
  exact Nc
 case b10=>
  exact Cb
 refine W9 ?_;refine aE (i:=9) T0 rfl I0 (zl rfl T0) ⟨rfl,?_⟩;refine Ci.send rfl I0 hk rfl rfl rfl ?_;refine W9 ?_;refine J8 ?_;refine Cd ?_;exact .stop rfl fun w1 hR=>w10 (b0:=b0) (b1:=b1) (b2:=b2) (b3:=b3) rfl ⟨rn1,hN1,(hF.rely hR).drop⟩
end
structure sH(w:ui)(K:Nl):Prop where
 n0:∃a ce,w.cell? ⟨K.nb,0,Ai⟩=yi (.slice a K.k ce)/\(0<K.k->a=yi ⟨K.eb,0,Ai⟩)
 n1:∃a cq,w.cell? ⟨K.nb,1,Ai⟩=yi (.slice a K.k cq)/\(0<K.k->a=yi ⟨K.qb,0,Ai⟩)
 n2:∃a cs,w.cell? ⟨K.nb,2,Ai⟩=yi (.slice a K.k cs)/\(0<K.k->a=yi ⟨K.sb,0,Ai⟩)
 e0:∀j,j<K.k->w.cell? ⟨K.eb,j*2,Ai⟩=yi (.int .i64 (K.fr j))
 e1:∀j,j<K.k->w.cell? ⟨K.eb,j*2+1,Ai⟩=yi (.int .i64 (K.RD j))
 cH:K.k*3<=K.qm
 qN:K.k*4<=K.sm
 hk:K.k<=1000
theorem sH.JM{w:ui}{K:Nl}(h:sH w K)(h0:0<K.k):∃cq,w.cell? ⟨K.nb,1,Ai⟩=yi (.slice (yi ⟨K.qb,0,Ai⟩) K.k cq):=by
 obtain⟨a,c,h1,h2⟩:=h.n1;exact⟨c,by rw[h1,h2 h0]⟩
theorem sH.at2{w:ui}{K:Nl}(h:sH w K)(h0:0<K.k):∃cs,w.cell? ⟨K.nb,2,Ai⟩=yi (.slice (yi ⟨K.sb,0,Ai⟩) K.k cs):=by
 obtain⟨a,c,h1,h2⟩:=h.n2;exact⟨c,by rw[h1,h2 h0]⟩
theorem sH.keep{w w':ui}{K:Nl}(h:sH w K)(hk:w'.heap[K.nb]?=w.heap[K.nb]?)(he:0<K.k->w'.heap[K.eb]?=w.heap[K.eb]?):sH w' K:=by
 have kn:∀j,w'.cell? ⟨K.nb,j,Ai⟩=w.cell? ⟨K.nb,j,Ai⟩:=fun j=>by unfold World.cell?;rw[hk]
 have ke:∀j,0<K.k->w'.cell? ⟨K.eb,j,Ai⟩=w.cell? ⟨K.eb,j,Ai⟩:=fun j h0=>by unfold World.cell?;rw[he h0]
 exact⟨by rw[kn];exact h.n0,by rw[kn];exact h.n1,by rw[kn];exact h.n2,fun j hj=>by rw[ke _ E0];exact h.e0 j hj,fun j hj=>by rw[ke _ E0];exact h.e1 j hj,h.cH,h.qN,h.hk⟩
structure Far(T g:Nat)(v:ti)(N:Nat->Prop)(b:Nat):Prop where
 g:b≠g
 T:b≠T
 o:v.ownBlock≠yi b
 n:¬N b
def InW(w:ui)(inV:ti)(ins:List (Int×Int))(F:Nat->Prop):Prop:=∃a c,inV=.slice a ins.length c/\∀(j:Nat)(x:Int×Int),ins[j]?=yi x->∃ib io,a=yi ⟨ib,io,Ai⟩/\F ib/\w.cell? ⟨ib,io+j*2,Ai⟩=yi (.int .i64 x.1)/\w.cell? ⟨ib,io+j*2+1,Ai⟩=yi (.int .i64 x.2)
theorem InW.keep{w w':ui}{inV:ti}{ins:List (Int×Int)}{F F':Nat->Prop}(h:InW w inV ins F)(hk:∀b,F b->w'.heap[b]?=w.heap[b]?)(hF:∀b,F b->b<w.heap.size->F' b):InW w' inV ins F':=by
 obtain⟨a,c,h1,h2⟩:=h;refine⟨a,c,h1,fun j x hj=>?_⟩;obtain⟨ib,io,g1,g2,g3,g4⟩:=h2 j x hj;have e:∀j,w'.cell? ⟨ib,j,Ai⟩=w.cell? ⟨ib,j,Ai⟩:=fun j=>by unfold World.cell?;rw[hk ib g2]
 exact⟨ib,io,g1,hF ib g2 (cell_lt g3),by rw[e];exact g3,by rw[e];exact g4⟩
structure xt(w:ui)(kb C T nC cC cell g cb co cc:Nat)(p:fF)(K:Nl)(D:Nat->Jl)(lr:Nat->Option Row)(z:Nat->Int)(f:Nat->ti)(m:Nat)(xs:List ti)(inV:ti):Prop where
 k2:w.cell? ⟨kb,2,Ai⟩=yi (.slice (yi ⟨C,0,Ai⟩) nC cC)
 k4:w.cell? ⟨kb,4,Ai⟩=yi (.slice (yi ⟨T,0,Ai⟩) nC nC)
 cl:w.cell? ⟨C,cell,Ai⟩=yi (.pointer (yi ⟨g,0,Ai⟩))
 hcell:cell<nC
 row:Ei w g 48 186 (cellV p.num (.pointer (yi ⟨K.nb,0,Ai⟩)) (Um cb co p.n cc) z)
 tr:Ei w T nC 61 f
 own:w.ownsRow 0 111 3 (f cell) m xs
 code:∀j,j<p.n*4->w.cell? ⟨cb,co+j,Ai⟩=yi (.int .i64 (p.ci j))
 Mc0:∃o,w.heap[cb]?=yi o
 n48:p.n<=48
 ok:uq p.n K.k p.ci
 zok:Fv p.n z
 nt:VJ w K D lr
 nc:sH w K
 Dy:p.fr=K.fr
 inr:InW w inV p.ins (Far T g (f cell) (Ak K lr))
 GF:p.ins.length<=1000
 len:qq K.k 900000000 D
 hg:g≠T/\(f cell).ownBlock≠yi g/\¬Ak K lr g
 hT:(f cell).ownBlock≠yi T
 hN:∀b,Ak K lr b->b≠T/\(f cell).ownBlock≠yi b
 hkb:Far T g (f cell) (Ak K lr) kb
 YC:Far T g (f cell) (Ak K lr) cb
 TW:Far T g (f cell) (Ak K lr) K.nb
 heb:0<K.k->Far T g (f cell) (Ak K lr) K.eb
def xp(w:ui)(T g:Nat)(v:ti)(N:Nat->Prop):km:={B:=w.heap.size+6,c:=w.heap.size+4,ev:=111,S:=fun b=>b=g\/N b,M:=fun b=>b=T\/v.ownBlock=yi b}
theorem V00(w:ui)(T g:Nat)(v:ti)(N:Nat->Prop):Evs (xp w T g v N):=⟨rfl,rfl,rfl,rfl⟩
section
variable {w:ui}{kb C T nC cC cell g cb co cc:Nat}{p:fF}{K:Nl}{D:Nat->Jl}{lr:Nat->Option Row}{z:Nat->Int}{f:Nat->ti}{m:Nat}{xs:List ti}{budget:Nat}{inV:ti}
theorem tK(_h:xt w kb C T nC cC cell g cb co cc p K D lr z f m xs inV){b:Nat}(hb:∃o,(W7 w cell budget g inV).heap[b]?=yi o)(hc:b≠w.heap.size+4)(hf:Far T g (f cell) (Ak K lr) b):Still (xp w T g (f cell) (Ak K lr)) (W7 w cell budget g inV) b:=by
 obtain⟨o,ho⟩:=hb;have Wi:=(Array.getElem?_eq_some_iff.1 ho).1;rw[Nq]at Wi;refine⟨⟨o,ho⟩,hc,fun o' _ hb=>?_⟩;rcases hb with hb|hb
 ·rcases hb.2 with⟨_,hb⟩|⟨hb,_⟩
  ·exact hf.T.elim (hb.elim id fun x=>absurd x hf.o)
  ·exact absurd Wi (by show ¬b<w.heap.size+6;exact Nat.not_lt.2 hb)
 ·rcases hb.2 with⟨_,hb⟩|⟨hb,_⟩
  ·exact hb.elim hf.g hf.n
  ·exact absurd Wi (by show ¬b<w.heap.size+6;exact Nat.not_lt.2 hb)
theorem uG(h:xt w kb C T nC cC cell g cb co cc p K D lr z f m xs inV){b:Nat}(hb:(f cell).ownBlock=yi b):b<w.heap.size:=by
 rcases h.own.2 with⟨hx,_⟩|⟨g0,yj,cur,hx,_,hg,_⟩
 ·rw[hx]at hb;exact Wh
 ·rw[hx]at hb;have:g0=b:=by simpa[Value.ownBlock]using hb
  subst this;exact(Array.getElem?_eq_some_iff.1 hg).1
theorem tt(h:xt w kb C T nC cC cell g cb co cc p K D lr z f m xs inV){b:Nat}(hb:b<w.heap.size)(hf:Far T g (f cell) (Ak K lr) b):Still (xp w T g (f cell) (Ak K lr)) (W7 w cell budget g inV) b:=
 tK h ⟨_,Array.getElem?_eq_getElem Q5⟩ E0 hf
theorem Ht(h:xt w kb C T nC cC cell g cb co cc p K D lr z f m xs inV){i:Nat}(hi:i<6)(h4:i≠4):Still (xp w T g (f cell) (Ak K lr)) (W7 w cell budget g inV) (w.heap.size+i):=by
 have hg:=h.row.lt;have hT:=h.tr.lt;refine tK h ⟨_,Array.getElem?_eq_getElem Q5⟩ E0 ⟨E0,E0,fun hb=>by have:=uG h hb;omega,fun hb=>by have:=h.nt.lt hb;omega⟩
theorem m80(h:xt w kb C T nC cC cell g cb co cc p K D lr z f m xs inV)(d:Nat):∃rn,NR K rn D/\Kn (xp w T g (f cell) (Ak K lr)) (W7 w cell budget g inV) (bk K g p.num (Um cb co p.n cc) z::rn) ((W7 w cell budget g inV).at d):=by
 obtain⟨rn,hN,hR,Jj⟩:=h.nt.lay;refine⟨rn,hN,.at _ _,fun i r hi=>?_,fun i j r s hi hj hn=>?_,?_,?_⟩
 ·have key:Ei w r.g r.m r.t r.f/\(r.g=g\/Ak K lr r.g)/\r.g≠T/\(f cell).ownBlock≠yi r.g:=by
   cases i with
   |zero=>cases hi;exact⟨h.row,.inl rfl,h.hg.1,h.hg.2.1⟩
   |succ i=>have:=hR i r hi;exact⟨this.1,.inr this.2,(h.hN _ this.2).1,(h.hN _ this.2).2⟩
  obtain⟨Nk,hS,hT,ho⟩:=key;have Wi:=Nk.lt;have Nk:Ei (W7 w cell budget g inV) r.g r.m r.t r.f:=Nk.of_heap (bB w cell budget g inV Wi);have Wi:r.g<w.heap.size+6:=E0;have Vc0:r.g≠w.heap.size+4:=E0;refine⟨⟨Nk,?_,Vc0,fun o FB hm=>?_⟩,fun o FB=>⟨Vc0,.inl ⟨Wi,hS⟩⟩⟩
  ·obtain⟨cs,h1,_⟩:=Nk;exact⟨_,h1⟩
  ·rcases hm.2 with⟨_,hm⟩|⟨hm,_⟩
   ·exact hm.elim hT ho
   ·exact absurd Wi (Nat.not_lt.2 hm)
 ·cases i with
  |zero=>
   cases j with
   |zero=>exact absurd rfl hn
   |succ j=>
    cases hi;have:=(hR j s hj).2;exact fun e=>h.hg.2.2 (by have e:g=s.g:=e;rw[e];exact this)
  |succ i=>
   cases j with
   |zero=>
    cases hj;have:=(hR i r hi).2;exact fun e=>h.hg.2.2 (by have e:r.g=g:=e;rw[<-e];exact this)
   |succ j=>exact Jj i j r s hi hj E0
 ·show w.heap.size+6<=(W7 w cell budget g inV).heap.size;rw[Nq];omega
 ·show w.heap.size+4<(W7 w cell budget g inV).heap.size;rw[Nq];omega
theorem ia0(h:xt w kb C T nC cC cell g cb co cc p K D lr z f m xs inV)(d:Nat):Ms (xp w T g (f cell) (Ak K lr)) (W7 w cell budget g inV) T nC f cell m xs ((W7 w cell budget g inV).at d):=by
 have hT:=h.tr.lt;have Nk:Ei (W7 w cell budget g inV) T nC 61 f:=h.tr.of_heap (bB w cell budget g inV hT);have key:∀b,(b=T\/(f cell).ownBlock=yi b)->(∃o,(W7 w cell budget g inV).heap[b]?=yi o)->Calm (xp w T g (f cell) (Ak K lr)) (xp w T g (f cell) (Ak K lr)).send ((W7 w cell budget g inV).at d) b/\Mine (xp w T g (f cell) (Ak K lr)).main ((W7 w cell budget g inV).at d) b:=fun b hb hth=>by
  have Wi:b<w.heap.size:=hb.elim (fun e=>by rw[e];exact hT) fun e=>uG h e;have Dd0:b<w.heap.size+6:=E0;have Jj:b≠w.heap.size+4:=E0;refine⟨⟨hth,Jj,fun o ho hm=>?_⟩,fun o ho=>⟨Jj,.inl ⟨Dd0,hb⟩⟩⟩;rcases hm.2 with⟨_,hm⟩|⟨hm,_⟩
  ·rcases hm with hm|hm
   ·subst hm;exact hb.elim (fun e=>h.hg.1 e) h.hg.2.1
   ·exact hb.elim (h.hN b hm).1 (h.hN b hm).2
  ·exact absurd Dd0 (Nat.not_lt.2 hm)
 refine⟨.at _ _,⟨⟨Nk,(key T (.inl rfl) ?_).1⟩,(key T (.inl rfl) ?_).2⟩,?_,?_,?_,fun b hb=>key b (.inr hb) ⟨_,Array.getElem?_eq_getElem (by rw[Nq];have:=uG h hb;omega)⟩⟩
 ·exact⟨_,Array.getElem?_eq_getElem Q5⟩
 ·exact⟨_,Array.getElem?_eq_getElem Q5⟩
 ·show w.heap.size+6<=(W7 w cell budget g inV).heap.size;rw[Nq];omega
 ·show w.heap.size+4<(W7 w cell budget g inV).heap.size;rw[Nq];omega
 ·exact Lr (L:=xp w T g (f cell) (Ak K lr)) h.own fun b hb=>bB w cell budget g inV (uG h hb)
theorem G10(h:xt w kb C T nC cC cell g cb co cc p K D lr z f m xs inV):zF (xp w T g (f cell) (Ak K lr)) (W7 w cell budget g inV) K:=by
 have hc:sH (W7 w cell budget g inV) K:=by
  obtain⟨a,ce,n0,_⟩:=h.nc.n0;exact h.nc.keep (bB w cell budget g inV (cell_lt n0)) fun h0=>bB w cell budget g inV (cell_lt (h.nc.e0 0 h0))
 obtain⟨a,ce,n0,_⟩:=h.nc.n0;exact⟨tt h (cell_lt n0) h.TW,hc.n0,hc.JM,hc.at2,fun h0=>tt h (cell_lt (h.nc.e0 0 h0)) (h.heb h0),hc.e0,hc.e1,hc.cH,hc.qN,hc.hk⟩
theorem F40(h:xt w kb C T nC cC cell g cb co cc p K D lr z f m xs inV):InR (xp w T g (f cell) (Ak K lr)) (W7 w cell budget g inV) inV p.ins:=by
 obtain⟨a,c,h1,h2⟩:=h.inr;refine⟨a,c,h1,fun j x hj=>?_⟩;obtain⟨ib,io,g1,g2,g3,g4⟩:=h2 j x hj;exact⟨ib,io,g1,tt h (cell_lt g3) g2,sx w cell budget g inV g3,sx w cell budget g inV g4⟩
end
section
variable {Post:Goroutine->ui->Prop}{w:ui}{kb C T nC cC cell g cb co cc:Nat}{p:fF}{K:Nl}{D:Nat->Jl}{lr:Nat->Option Row}{z:Nat->Int}{f:Nat->ti}{m:Nat}{xs:List ti}{budget:Nat}{inV:ti}
theorem yL(h:xt w kb C T nC cC cell g cb co cc p K D lr z f m xs inV)(vs:List ti)(hvs:∀v∈vs,AK v)(hm:m+vs.length<=1000000000)(cs:List Frame)(d:Nat):
  Ci prog ji (xp w T g (f cell) (Ak K lr)).R0 (xp w T g (f cell) (Ak K lr)).D0 (StopA prog (xp w T g (f cell) (Ak K lr)).c LH (xp w T g (f cell) (Ak K lr)).R0 (xp w T g (f cell) (Ak K lr)).D0 (xp w T g (f cell) (Ak K lr)).ML (R50 (xp w T g (f cell) (Ak K lr)) (W7 w cell budget g inV) kb w.heap.size T nC cell (m+vs.length) f (xs++vs.flatMap Qj) (.agg #[.int .i64 cell,.int .i64 budget]) inV ri ri (.pointer (yi ⟨kb,0,Ai⟩)) (.pointer (yi ⟨kb,0,Ai⟩)) (.pointer (yi ⟨kb,2,Ai⟩)) (.slice (yi ⟨C,0,Ai⟩) nC cC) (.pointer (yi ⟨w.heap.size,0,Ai⟩)) (.int .i64 cell) (.pointer (yi ⟨C,cell,Ai⟩)) (.pointer (yi ⟨g,0,Ai⟩)) (.pointer (yi ⟨w.heap.size,1,Ai⟩)) (.int .i64 budget) inV cs) vs)
   (G ((base 57).at {tmps:=#[.pointer (yi ⟨g,0,Ai⟩),.int .i64 budget,inV,.pointer (yi ⟨w.heap.size+1,0,Ai⟩),.pointer (yi ⟨w.heap.size+2,0,Ai⟩),.pointer (yi ⟨w.heap.size+3,0,Ai⟩),.chan Ai,.pointer (yi ⟨w.heap.size+5,0,Ai⟩),.chan (yi (w.heap.size+4)),.func (.func 83) #[] #[.pointer (yi ⟨w.heap.size+5,0,Ai⟩),.pointer (yi ⟨w.heap.size+1,0,Ai⟩),.pointer (yi ⟨w.heap.size+2,0,Ai⟩),.pointer (yi ⟨w.heap.size+3,0,Ai⟩)],ri],defers:=[]} [.inRegion h70 [],.code e30]) (V90 kb C nC cC cell budget g w.heap.size inV::cs)) ((W7 w cell budget g inV).at d):=by
 have hk:(base 57).kind≠.early:=E1;have hF:=ia0 (budget:=budget) (inV:=inV) h d;have s0:=Ht (budget:=budget) (inV:=inV) h (i:=5) E0 E0;have c0:=J70 w cell budget g inV;repeat refine .c1 (xp w T g (f cell) (Ak K lr)).ik rfl ?_
 refine .Gi (xp w T g (f cell) (Ak K lr)).ik [0,1] I0 ?_;refine K8 fun w1 K hK hF=>?_;have hc:World.cell? _ ⟨w.heap.size+5,0,Ai⟩=yi (.chan (yi (w.heap.size+4))):=(hF.nj (a:=⟨w.heap.size+5,0,Ai⟩) s0).trans c0;refine I8 ?_ ?_
 ·refine hF.Aj s0 ?_;exact W8
 clear hK K;clear hc;refine W9 ?_;refine .pj (xp w T g (f cell) (Ak K lr)).ik rfl I0 hk ?_;refine W9 ?_;repeat refine .c1 (xp w T g (f cell) (Ak K lr)).ik rfl ?_
 refine Ci.ret (xp w T g (f cell) (Ak K lr)).ik fun todo=>?_;refine Ci.leave (xp w T g (f cell) (Ak K lr)).ik func57 rfl (Ej (xp w T g (f cell) (Ak K lr)).ik (t:=6) I0 _) ?_;show Ci _ _ _ _ _ (G ((base 31).at {tmps:=#[.pointer (yi ⟨kb,0,Ai⟩),.agg #[.int .i64 cell,.int .i64 budget],inV,ri,.pointer (yi ⟨w.heap.size,0,Ai⟩),ri,ri,.pointer (yi ⟨kb,0,Ai⟩),.pointer (yi ⟨kb,0,Ai⟩),.pointer (yi ⟨kb,2,Ai⟩),.slice (yi ⟨C,0,Ai⟩) nC cC,.pointer (yi ⟨w.heap.size,0,Ai⟩),.int .i64 cell,.pointer (yi ⟨C,cell,Ai⟩),.pointer (yi ⟨g,0,Ai⟩),.pointer (yi ⟨w.heap.size,1,Ai⟩),.int .i64 budget,inV,.chan (yi (w.heap.size+4)),ri,ri,ri,ri,ri,ri,ri,ri,ri,ri,ri,ri,ri,ri,ri,ri,ri,ri,ri,ri,ri],defers:=[]} [.inRegion s10 [],.code R10]) cs) _;refine Ci.regionEnd (xp w T g (f cell) (Ak K lr)).ik ?_;refine Ci.block (xp w T g (f cell) (Ak K lr)).ik ?_;refine Ci.loop (xp w T g (f cell) (Ak K lr)).ik ?_;exact kZ rfl (tt h (cell_lt h.k2) h.hkb) (Ht h (i:=0) E0 E0) (sx w cell budget g inV h.k4) (me0 w cell budget g inV) h.hcell (.agg #[.int .i64 cell,.int .i64 budget]) inV ri ri (.pointer (yi ⟨kb,0,Ai⟩)) (.pointer (yi ⟨kb,0,Ai⟩)) (.pointer (yi ⟨kb,2,Ai⟩)) (.slice (yi ⟨C,0,Ai⟩) nC cC) (.pointer (yi ⟨w.heap.size,0,Ai⟩)) (.int .i64 cell) (.pointer (yi ⟨C,cell,Ai⟩)) (.pointer (yi ⟨g,0,Ai⟩)) (.pointer (yi ⟨w.heap.size,1,Ai⟩)) (.int .i64 budget) inV cs f vs f m xs _ ri ri ri ri ri ri ri ri ri ri ri ri ri ri ri ri ri ri ri ri ri ri hvs hm (fun _ _=>rfl) hF
end
theorem s30(o:TB):(∀v∈o.sent,AK v)/\o.sent.length<=1:=by
 unfold TB.sent;split
 ·refine⟨fun v hv=>?_,P0⟩;rw[List.mem_singleton.1 hv];exact Jh
 ·exact⟨fun v hv=>by simp at hv,P0⟩
theorem DV(p:fF):∀(k:Nat)(z:Nat->Int)(C:Nat->Jl),(∀v∈(Fo p k z C).1,AK v)/\(Fo p k z C).1.length<=k
 |0,z,C=>⟨fun v hv=>by simp[Fo]at hv,by simp[Fo]⟩
 |k+1,z,C=>by
  simp only[Fo];cases hs:jk p.n p.ci p.ins z C with
  |on op e z' C'=>
   have h1:=s30 (.on op e z' C');have h2:=DV p k z' C';by_cases h0:op=0
   ·simp only[h0,if_true];rw[h0]at h1;exact⟨h1.1,by have:=h1.2;omega⟩
   ·simp only[h0,if_false];refine⟨fun v hv=>?_,?_⟩
    ·rcases List.mem_append.1 hv with hv|hv
     ·exact h1.1 v hv
     ·exact h2.1 v hv
    ·rw[List.length_append];have:=h1.2;have:=h2.2;omega
  |Xk y z'=>
   refine⟨fun v hv=>?_,P0⟩;rw[List.mem_singleton.1 hv];exact⟨_,_,_,rfl⟩
theorem nB(p:fF)(k:Nat)(z:Nat->Int)(C:Nat->Jl):(∀v∈(lj p k z C).1,AK v)/\(lj p k z C).1.length<=k+1:=by
 have h:(∀v∈(uy p k z C).1,AK v)/\(uy p k z C).1.length<=k:=by
  unfold uy;split
  ·exact⟨fun v hv=>by simp at hv,P0⟩
  ·exact DV p k z C
 unfold lj;refine⟨fun v hv=>?_,?_⟩
 ·rcases List.mem_append.1 hv with hv|hv
  ·exact h.1 v hv
  ·rw[List.mem_singleton.1 hv];exact Jh
 ·simp;exact h.2
structure iL(w:ui)(T nC cell g:Nat)(num:Int)(code:ti)(K:Nl)(lr:Nat->Option Row)(z:Nat->Int)(D:Nat->Jl)(f:Nat->ti)(m:Nat)(xs:List ti)(w':ui)(f':Nat->ti)(Vr:Nat->Option Row):Prop where
 size:w.heap.size<=w'.heap.size
 os:w'.os=w.os
 out:w'.output=w.output
 tape:w'.tape=w.tape
 row:Ei w' g 48 186 (cellV num (.pointer (yi ⟨K.nb,0,Ai⟩)) code z)
 tr:Ei w' T nC 61 f'
 others:∀j,j≠cell->f' j=f j
 own:w'.ownsRow 0 111 3 (f' cell) m xs
 blk:∀b,(f' cell).ownBlock=yi b->(f cell).ownBlock=yi b\/w.heap.size<=b
 old:∀b,b<w.heap.size->Far T g (f cell) (Ak K lr) b->w'.heap[b]?=w.heap[b]?
 nt:VJ w' K D Vr
 iI:∀b,Ak K Vr b->Ak K lr b\/w.heap.size<=b
section
variable {Post:Goroutine->ui->Prop}{w:ui}{kb C T nC cC cell g cb co cc:Nat}{p:fF}{K:Nl}{D:Nat->Jl}{lr:Nat->Option Row}{z:Nat->Int}{f:Nat->ti}{m:Nat}{xs:List ti}{budget:Nat}{inV:ti}
theorem VW(h:xt w kb C T nC cC cell g cb co cc p K D lr z f m xs inV){z':Nat->Int}{D':Nat->Jl}{Fp:List Row}{f':Nat->ti}{m':Nat}{xs':List ti}{w':ui}(hN:NR K Fp D')(hk:Kn (xp w T g (f cell) (Ak K lr)) (W7 w cell budget g inV) (bk K g p.num (Um cb co p.n cc) z'::Fp) w')(hf:∀j,j≠cell->f' j=f j)(hM:Ms (xp w T g (f cell) (Ak K lr)) (W7 w cell budget g inV) T nC f' cell m' xs' w'):∃Vr,iL w T nC cell g p.num (Um cb co p.n cc) K lr z' D' f m' xs' w' f' Vr:=by
 have hs:=hM.ph.size;rw[Nq]at hs;obtain⟨Vr,h1,h2⟩:=VJ.back (w:=w') hN (fun i r hi=>(hk.row (i+1) r hi).rw.row) fun i j r s hi hj Jj=>hk.pw (i+1) (j+1) r s hi hj E0;refine⟨Vr,E0,hM.ph.os,hM.ph.out,hM.ph.tape,(hk.row 0 _ rfl).rw.row,hM.row.rw.row,hf,hM.own,fun b hb=>?_,fun b hb Uh0=>?_,h1,fun b hb=>?_⟩
 ·obtain⟨o,ho⟩:=(hM.blk b hb).1.there;rcases ((hM.blk b hb).2 o ho).2 with⟨_,hm⟩|⟨hm,_⟩
  ·rcases hm with hm|hm
   ·exfalso;subst hm;obtain⟨cs,g1,_⟩:=hM.row.rw.row;rcases hM.own.2 with⟨hx,_⟩|⟨g0,yj,cur,hx,_,hg,_⟩
    ·rw[hx]at hb;exact Wh
    ·rw[hx]at hb;have:g0=b:=by simpa[Value.ownBlock]using hb
     subst this;rw[g1]at hg;injection hg with hg
     injection hg with _ hg
     exact absurd hg (by show ¬(61:Nat)=111;decide)
   ·exact .inl hm
  ·have hm:w.heap.size+6<=b:=hm;exact .inr E0
 ·rw[hM.still (tt (budget:=budget) (inV:=inV) h hb Uh0),bB w cell budget g inV hb]
 ·rcases h2 b hb with hq|⟨i,r,hi,rfl⟩
  ·exact .inl (.inl hq)
  ·have ow:=hk.row (i+1) r hi;obtain⟨o,ho⟩:=ow.rw.calm.there;rcases (ow.own o ho).2 with⟨_,hm⟩|⟨hm,_⟩
   ·rcases hm with hm|hm
    ·exact absurd hm (hk.pw (i+1) 0 r _ hi rfl E0)
    ·exact .inl hm
   ·have hm:w.heap.size+6<=r.g:=hm;exact .inr E0
theorem vX(h:xt w kb C T nC cC cell g cb co cc p K D lr z f m xs inV)(jP:budget<=200)(hm:m+budget<1000000000)(cs:List Frame)(hp:∀a' w',R50 (xp w T g (f cell) (Ak K lr)) (W7 w cell budget g inV) kb w.heap.size T nC cell (m+(lj p budget z D).1.length) f (xs++(lj p budget z D).1.flatMap Qj) (.agg #[.int .i64 cell,.int .i64 budget]) inV ri ri (.pointer (yi ⟨kb,0,Ai⟩)) (.pointer (yi ⟨kb,0,Ai⟩)) (.pointer (yi ⟨kb,2,Ai⟩)) (.slice (yi ⟨C,0,Ai⟩) nC cC) (.pointer (yi ⟨w.heap.size,0,Ai⟩)) (.int .i64 cell) (.pointer (yi ⟨C,cell,Ai⟩)) (.pointer (yi ⟨g,0,Ai⟩)) (.pointer (yi ⟨w.heap.size,1,Ai⟩)) (.int .i64 budget) inV cs a' w'->(fun w'=>∃Fp,NR K Fp (lj p budget z D).2.2/\Kn (xp w T g (f cell) (Ak K lr)) (W7 w cell budget g inV) (bk K g p.num (Um cb co p.n cc) (lj p budget z D).2.1::Fp) w') w'->bj prog Post a' w')(d:Nat):
  bj prog Post (G (q90 g budget w.heap.size inV) (V90 kb C nC cC cell budget g w.heap.size inV::cs)) ((W7 w cell budget g inV).at d):=by
 have hk:(base 57).kind≠.early:=E1;have vm:=nB p budget z D;have Pm:∀{b:Nat},b<w.heap.size->∃o,(W7 w cell budget g inV).heap[b]?=yi o:=fun hb=>⟨_,Array.getElem?_eq_getElem Q5⟩;have YC:cb<w.heap.size:=by
  obtain⟨o,ho⟩:=h.Mc0;exact(Array.getElem?_eq_some_iff.1 ho).1
 refine bj.fork (z:=LH) (vs:=(lj p budget z D).1) (Fin:=R50 (xp w T g (f cell) (Ak K lr)) (W7 w cell budget g inV) kb w.heap.size T nC cell (m+(lj p budget z D).1.length) f (xs++(lj p budget z D).1.flatMap Qj) (.agg #[.int .i64 cell,.int .i64 budget]) inV ri ri (.pointer (yi ⟨kb,0,Ai⟩)) (.pointer (yi ⟨kb,0,Ai⟩)) (.pointer (yi ⟨kb,2,Ai⟩)) (.slice (yi ⟨C,0,Ai⟩) nC cC) (.pointer (yi ⟨w.heap.size,0,Ai⟩)) (.int .i64 cell) (.pointer (yi ⟨C,cell,Ai⟩)) (.pointer (yi ⟨g,0,Ai⟩)) (.pointer (yi ⟨w.heap.size,1,Ai⟩)) (.int .i64 budget) inV cs) ((xp w T g (f cell) (Ak K lr)).rules (fun w'=>∃Fp,NR K Fp (lj p budget z D).2.2/\Kn (xp w T g (f cell) (Ak K lr)) (W7 w cell budget g inV) (bk K g p.num (Um cb co p.n cc) (lj p budget z D).2.1::Fp) w') fun _ _ r ⟨rn,h1,k⟩=>⟨rn,h1,k.rely r⟩) rfl (fun d2=>?_) hp;refine⟨_,_,_,_,stepG_spawn (d:=lX (w.heap.size+5) (w.heap.size+1) (w.heap.size+2) (w.heap.size+3)) (w':=(W7 w cell budget g inV).at d2) rfl I0 hk ?run rfl,?ev,⟨0,0,gi,Y40 w cell budget g inV⟩,yL h _ vm.1 (by have:=vm.2;omega) cs d2,?child⟩
 case run=>kernel_rfl
 case ev=>
  exact Xc
 case child=>
  obtain⟨rn,hN,hK⟩:=m80 (budget:=budget) h d2;exact J_ (V00 w T g (f cell) (Ak K lr)) rfl rfl (G10 h) h.Dy rfl (F40 h) h.GF hN (tt h YC h.YC) (fun j hj=>sx w cell budget g inV (h.code j hj)) h.n48 h.ok h.zok h.len budget jP (Ht h (i:=5) E0 E0) (Ht h (i:=1) E0 E0) (Ht h (i:=2) E0 E0) (Ht h (i:=3) E0 E0) (J70 w cell budget g inV) (Wc0 w cell budget g inV) (vd0 w cell budget g inV) (Ue0 w cell budget g inV) _ hK
theorem KD(h:xt w kb C T nC cC cell g cb co cc p K D lr z f m xs inV)(jP:budget<=200)(hm:m+budget<1000000000):
  Fj prog 31 #[.pointer (yi ⟨kb,0,Ai⟩),.agg #[.int .i64 cell,.int .i64 budget],inV] w (fun v w'=>v=.tuple #[]/\∃f' Vr,iL w T nC cell g p.num (Um cb co p.n cc) K lr (lj p budget z D).2.1 (lj p budget z D).2.2 f (m+(lj p budget z D).1.length) (xs++(lj p budget z D).1.flatMap Qj) w' f' Vr):=by
 refine Fj.UD (c:=qV) #[.pointer (yi ⟨kb,0,Ai⟩),.agg #[.int .i64 cell,.int .i64 budget],inV,ri,ri,ri,ri,ri,ri,ri,ri,ri,ri,ri,ri,ri,ri,ri,ri,ri,ri,ri,ri,ri,ri,ri,ri,ri,ri,ri,ri,ri,ri,ri,ri,ri,ri,ri,ri,ri] func31 I0 J0 fun cs Post hp=>?_;have UX:∃ip il ic,inV=.slice ip il ic:=by obtain⟨a,c,e,_⟩:=h.inr;exact⟨_,_,_,e⟩
 refine ke0 h.k2 h.cl h.hcell inV UX cs fun d=>vX h jP hm cs (fun a' w' Us ⟨Fp,hN',dF⟩=>?_) d;obtain⟨u6,xw,qx,vv,u23,yv,Nv,ku,qu,lu,nu,dw,Wv,u32,Xv,gw,px,u36,aC,u38,dD,f',rfl,hf',hM⟩:=Us;obtain⟨Vr,hA⟩:=VW h hN' dF hf' hM;have hk:(base 31).kind≠.early:=E1;refine vb ?_;have hF:=Is.self w';refine Ci.Xa0 Di (v:=.bool gi) rfl I0 hk (fun w=>J0) (fun w=>J0) ?_;show Ci _ _ _ _ _ (G ((base 31).at {tmps:=#[.pointer (yi ⟨kb,0,Ai⟩),(.agg #[.int .i64 cell,.int .i64 budget]),inV,ri,.pointer (yi ⟨w.heap.size,0,Ai⟩),ri,u6,(.pointer (yi ⟨kb,0,Ai⟩)),(.pointer (yi ⟨kb,0,Ai⟩)),(.pointer (yi ⟨kb,2,Ai⟩)),(.slice (yi ⟨C,0,Ai⟩) nC cC),(.pointer (yi ⟨w.heap.size,0,Ai⟩)),(.int .i64 cell),(.pointer (yi ⟨C,cell,Ai⟩)),(.pointer (yi ⟨g,0,Ai⟩)),(.pointer (yi ⟨w.heap.size,1,Ai⟩)),(.int .i64 budget),inV,.chan (yi (xp w T g (f cell) (Ak K lr)).c),.tuple #[LH,.bool gi],.bool gi,qx,vv,u23,yv,Nv,ku,qu,lu,nu,dw,Wv,u32,Xv,gw,px,u36,aC,u38,dD],defers:=[]} [.inRegion d80 [],.code l30,.inLoop eE,.inBlock 0]) cs) _;refine V8 ?_;refine Ci.xk Di I0 ?_;refine Ci.exit Di rfl ?_;refine Ci.fin Di ?_;refine .stop rfl fun w1 hR=>?_;obtain⟨d,rfl⟩:=hF.rely hR;exact(hp _ _ _ w' rfl (fun d=>results_none I0 _ _ _) ⟨rfl,f',Vr,hA⟩).at d
end
end Go.Proofs.YtdoghgnifkgfdaaGreat.Mute
