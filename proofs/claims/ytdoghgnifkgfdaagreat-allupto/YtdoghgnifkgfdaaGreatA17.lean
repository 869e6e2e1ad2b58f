import Derived.Test.YtdoghgnifkgfdaaGreatA16
set_option maxRecDepth 100000
set_option maxHeartbeats 16000000
open Option renaming none->Hn,some->Gn
open Go renaming World->En,Value->Dn,undef->Bn,Goroutine->zn,heap_setCell_other->yn,Frame->Xm,Addr->Vm
open Bool renaming true->Um,false->Tm
open Go.Conc renaming run_eq_of->Rm
open Nat renaming le_trans->Qm,le_refl->Om,lt_of_lt_of_le->Lm
open Array renaming getElem?_eq_getElem->Bm
namespace Go.Proofs.YtdoghgnifkgfdaaGreat.Mute
open Tryz Go Go.Conc Go.RowKit
section
variable {L:Bt}{w0:En}{rn:List Jp}{K:Ys}{C:Nat->Us}{p:TI}{g cb co cc:Nat}{num:Int}{inV:Dn}{z:Nat->Int}
theorem nl0{FS:En->Prop}(he:Evs L)(qf0:((143:Nat)==L.ev)=Tm)(jS:((221:Nat)==L.ev)=Tm)(hW:UK L w0 K)(aE:p.fr=K.fr)(lJ:p.num=num)(iu:InR L w0 inV p.ins)(YH:p.ins.length<=1000)(hN:NR K rn C)(hs:Bq L w0 cb)(Np:∀j,j<p.n*4->w0.cell? ⟨cb,co+j,Hn⟩=Gn (.int .i64 (p.ci j)))(hn:p.n<=48)(Yr:yx p.n K.k p.ci)(hz:aB p.n z)(iy:ox K.k 900000000 C)
  (budget:Nat)(jV:budget<=200)(w:En)(hF:ko L w0 (Kq K g num (qu cb co p.n cc) z::rn) [] w):
  lz prog L FS 84 #[.pointer (Gn ⟨g,0,Hn⟩),.int .i64 budget,inV,.chan (Gn L.c)] w (uE p budget z C).1
   (fun v w'=>v=.int .i64 (uE p budget z C).2.1/\∃Nw,NR K Nw (uE p budget z C).2.2.2/\Kn L w0 (Kq K g num (qu cb co p.n cc) (uE p budget z C).2.2.1::Nw) w') (fun _ _=>False):=by
 have hk:(base 84).kind≠.early:=J1;refine lz.intro #[.pointer (Gn ⟨g,0,Hn⟩),.int .i64 budget,inV,.chan (Gn L.c),Bn,Bn,Bn,Bn,Bn,Bn,Bn,Bn,Bn,Bn,Bn,Bn,Bn,Bn,Bn,Bn,Bn] func84 rfl J0 fun cl cs vs tt _=>?_;refine J9 ?_;refine La ?_;refine N9 fun w1 K_ hK hF=>?_;refine vm ?_ ?_
 ·exact sj
 clear hK K_;replace hF:ko L w0 (Kq K g num (qu cb co p.n cc) z::rn) ([qP w1.heap.size 143 (.pointer (Gn ⟨g,0,Hn⟩))]) _:=hF.ng0 qf0 _;generalize hB:w1.heap.size=q at *;generalize hW':(w1.alloc (.cells #[.pointer (Gn ⟨g,0,Hn⟩)] 143))=w2 at *;clear hW' hB w1;refine um ?_;refine N9 fun w1 K_ hK hF=>?_;refine vm ?_ ?_
 ·exact sj
 clear hK K_;replace hF:ko L w0 (Kq K g num (qu cb co p.n cc) z::rn) ([qP q 143 (.pointer (Gn ⟨g,0,Hn⟩)),qP w1.heap.size 221 (.chan (Gn L.c))]) _:=hF.ng0 jS _;generalize hB:w1.heap.size=c at *;generalize hW':(w1.alloc (.cells #[.chan (Gn L.c)] 221))=w2 at *;clear hW' hB w1;refine um ?_;refine N9 fun w1 K_ hK hF=>?_;refine vm ?_ ?_
 ·exact sj
 clear hK K_;replace hF:ko L w0 (Kq K g num (qu cb co p.n cc) z::rn) (sL L g q c w1.heap.size 0) _:=hF.ng0 he.i64 _;generalize hB:w1.heap.size=y at *;generalize hW':(w1.alloc (.cells #[.int .i64 0] 2))=w2 at *;clear hW' hB w1;refine um ?_;refine Ej ?_;refine N9 fun w1 K_ hK hF=>?_;have hc:World.cell? _ ⟨q,0,Hn⟩=Gn (.pointer (Gn ⟨g,0,Hn⟩)):=hF.l1 (k:=0) rfl;refine vm ?_ ?_
 ·exact nj
 clear hK K_;clear hc;refine um ?_;refine Pn.bB L.Nn rfl I0 hk rfl func86 I0 rfl #[.pointer (Gn ⟨g,0,Hn⟩)] J0 (Z30 (ic:=0) (rows:=(Kq K g num (qu cb co p.n cc) z::rn)++sL L g q c y 0) rfl _ hF) ?_ S8;rintro v w2 ⟨rfl,Gs⟩;replace hF:ko L w0 (Kq K g num (qu cb co p.n cc) z::rn) (sL L g q c y 0) w2:=Gs;clear Gs;refine um ?_;refine J9 ?_;by_cases Ht:z 3<z 47
 ·have jP:uE p budget z C=([],4,z,C):=by unfold uE;rw[if_pos Ht]
  have hde:decide (z 3<z 47)=true:=by simpa using Ht
  rw[jP]at tt ⊢;rw[hde];refine Oa ?_;refine jm ?_;refine N9 fun w1 K_ hK hF=>?_;refine xe fun hc zu=>?_;refine vm ?_ ?_
  ·exact Dj
  clear hK K_;clear hc zu;replace hF:ko L w0 (Kq K g num (qu cb co p.n cc) z::rn) (sL L g q c y 4) _:=hF.set1 (k:=2) rfl (.int .i64 4);refine um ?_;refine J9 ?_;refine Tc fun todo=>?_;exact tt _ todo _ _ rfl (KD hF rfl) ⟨rfl,rn,hN,hF.drop⟩
 ·have jP:uE p budget z C=Kv p budget z C:=by unfold uE;rw[if_neg Ht]
  have hde:decide (z 3<z 47)=false:=by simpa using Ht
  rw[jP]at tt ⊢;rw[hde];refine Pn.Zq L.Nn I0 ?_;refine Ej ?_;refine M9 ?_;refine Pn.defer L.Nn rfl I0 hk (sc0 q c y) (fun w=>J0) (fun w=>J0) ?_;refine um ?_;refine gj ?_;refine Di ?_;refine(?key:∀(k i:Nat)(x:Nat->Int)(D:Nat->Us)(rm:List Jp)(w:En)(jC kC oC qC tC uC vC:Dn),i+k=budget->aB p.n x->ox K.k (900000000+i) D->NR K rm D->(Kv p k x D).2=(Kv p budget z C).2->ko L w0 (Kq K g num (qu cb co p.n cc) x::rm) (sL L g q c y 0) w->Pn prog Tm L.R1 L.D1 (StopB prog L.c L.R1 L.D1 L.SL FS ((Kv p k x D).1++vs)) (G ((base 84).at {tmps:=#[.pointer (Gn ⟨g,0,Hn⟩),.int .i64 budget,inV,.chan (Gn L.c),.pointer (Gn ⟨q,0,Hn⟩),Bn,Bn,.pointer (Gn ⟨c,0,Hn⟩),.pointer (Gn ⟨y,0,Hn⟩),.pointer (Gn ⟨g,0,Hn⟩),.bool Tm,.func (.func 111) #[] #[.pointer (Gn ⟨q,0,Hn⟩),.pointer (Gn ⟨c,0,Hn⟩),.pointer (Gn ⟨y,0,Hn⟩)],.int .i64 budget,.int .i64 i,jC,kC,oC,qC,tC,uC,vC],defers:=[sc0 q c y]} _) (cl::cs)) w) budget 0 z C rn _ Bn Bn Bn Bn Bn Bn Bn E0 hz iy hN rfl hF
  case key=>
   clear hF jP hde Ht hN iy hz;intro k;induction k with
   |zero=>
    intro i x D rm w jC kC oC qC tC uC vC xy hx iy hN hr hF;have yo:decide ((i:Int)<(budget:Int))=false:=by simp;omega
    show Pn _ _ _ _ (StopB prog L.c L.R1 L.D1 L.SL FS (vs)) _ _;refine bj ?_;refine Pn.Zq L.Nn H6 ?_;refine Pn.exit L.Nn rfl ?_;refine jm ?_;refine N9 fun w1 K_ hK hF=>?_;refine xe fun hc zu=>?_;refine vm ?_ ?_
    ·exact Dj
    clear hK K_;clear hc zu;replace hF:ko L w0 (Kq K g num (qu cb co p.n cc) x::rm) (sL L g q c y 2) _:=hF.set1 (k:=2) rfl (.int .i64 2);refine um ?_;refine J9 ?_;refine Tc fun todo=>?_;refine YV rfl rfl _ hF fun w3 hF3=>?_;refine tt ⟨_,[]⟩ todo _ _ rfl (KD hF3 rfl) ⟨?_,rm,?_,?_⟩
    ·rw[<-hr];rfl
    ·rw[<-hr];exact hN
    ·rw[<-hr];exact hF3.drop
   |succ k ih=>
    intro i x D rm w jC kC oC qC tC uC vC xy hx iy hN hr hF;have yo:decide ((i:Int)<(budget:Int))=true:=by simp;omega
    have Nf0:=zF (ins:=p.ins) Yr hx iy;rw[B30];refine bj ?_;refine Pn.vr L.Nn H6 ?_;refine J9 ?_;refine og ?_;refine N9 fun w1 K_ hK hF=>?_;have hc:World.cell? _ ⟨q,0,Hn⟩=Gn (.pointer (Gn ⟨g,0,Hn⟩)):=hF.l1 (k:=0) rfl;refine vm ?_ ?_
    ·exact nj
    clear hK K_;clear hc;refine um ?_;refine M9 ?_;refine N9 fun w1 K_ hK hF=>?_;have hc:World.cell? _ ⟨c,0,Hn⟩=Gn (.chan (Gn L.c)):=hF.l1 (k:=1) rfl;refine vm ?_ ?_
    ·refine hF.Yq (k:=1) rfl ?_;exact T9
    clear hK K_;clear hc;refine um ?_;refine Pn.ed0 rfl I0 hk rfl func113 I0 rfl #[.pointer (Gn ⟨g,0,Hn⟩),inV,.chan (Gn L.c)] J0 (Lg0 he hW iu YH hN hs Np hn Yr hx (iy.le E0) _ hF) ?_ ?_
    ·rintro v w2 ⟨op,e,x',D',hsf,rfl,rm',hN',Gs⟩;replace hF:=Gs;clear Gs;rw[hsf]at Nf0;refine um ?_;refine qj ?_;by_cases h0:op=0
     ·have hb:(op==0)=true:=by simpa using h0
      have htl:FK p k x D vs=vs:=by unfold FK;rw[hsf];exact if_pos h0
      have bz:(Kv p (k+1) x D).2=(1,x',D'):=by simp[Kv,hsf,h0]
      rw[htl];refine Pn.vr L.Nn (by simp[Act.eval,hb]) ?_;refine jm ?_;refine N9 fun w1 K_ hK hF=>?_;refine xe fun hc zu=>?_;refine vm ?_ ?_
      ·exact Dj
      clear hK K_;clear hc zu;replace hF:ko L w0 (Kq K g num (qu cb co p.n cc) x'::rm') (sL L g q c y 1) _:=hF.set1 (k:=2) rfl (.int .i64 1);refine um ?_;refine J9 ?_;refine Tc fun todo=>?_;refine YV rfl rfl _ hF fun w3 hF3=>?_;refine tt ⟨_,[]⟩ todo _ _ rfl (KD hF3 rfl) ⟨?_,rm',?_,?_⟩
      ·rw[<-hr,bz]
      ·rw[<-hr,bz];exact hN'
      ·rw[<-hr,bz];exact hF3.drop
     ·have hb:(op==0)=false:=by simpa using h0
      have htl:FK p k x D vs=(Kv p k x' D').1++vs:=by unfold FK;rw[hsf];exact if_neg h0
      have bz:(Kv p (k+1) x D).2=(Kv p k x' D').2:=by simp[Kv,hsf,h0]
      rw[htl];have hwr:IntKind.i64.wrap ((i:Int)+1)=((i+1:Nat):Int):=by rw[IntKind.wrap_i64];omega
      refine Pn.Zq L.Nn (by simp[Act.eval,hb]) ?_;refine gj ?_;refine Ug ?_;exact ih (i+1) x' D' rm' _ _ _ _ _ _ _ _ E0 Nf0.1 Nf0.2 hN' (by rw[<-bz];exact hr) hF
    ·rintro ch w2 ⟨wy,x',hsf,rfl,Gs⟩;replace hF:=Gs;clear Gs;have htl:FK p k x D vs=Zz wy (Nr x' 47)::vs:=by unfold FK;rw[hsf]
     have bz:(Kv p (k+1) x D).2=(3,Nr x',Ru K.fr num D):=by simp[Kv,hsf,aE,lJ]
     rw[htl];refine g30 he hW hN wy 0 rfl rfl _ hF fun rm' w3 hN' hF3=>?_;refine tt ⟨_,[]⟩ _ _ _ rfl (KD hF3 rfl) ⟨?_,rm',?_,?_⟩
     ·rw[<-hr,bz]
     ·rw[<-hr,bz];exact hN'
     ·rw[<-hr,bz];exact hF3.drop
end
section
variable {L:Bt}{w0:En}{rn:List Jp}{K:Ys}{C:Nat->Us}{p:TI}{g b0 b1 b2 b3 cb co cc:Nat}{num:Int}{inV:Dn}{z:Nat->Int}
theorem na0(he:Evs L)(qf0:((143:Nat)==L.ev)=Tm)(jS:((221:Nat)==L.ev)=Tm)(hW:UK L w0 K)(aE:p.fr=K.fr)(lJ:p.num=num)(iu:InR L w0 inV p.ins)(YH:p.ins.length<=1000)(hN:NR K rn C)(hs:Bq L w0 cb)(Np:∀j,j<p.n*4->w0.cell? ⟨cb,co+j,Hn⟩=Gn (.int .i64 (p.ci j)))(hn:p.n<=48)(Yr:yx p.n K.k p.ci)(hz:aB p.n z)(iy:ox K.k 900000000 C)
  (budget:Nat)(jV:budget<=200)(s0:Bq L w0 b0)(s1:Bq L w0 b1)(s2:Bq L w0 b2)(s3:Bq L w0 b3)
  (c0:w0.cell? ⟨b0,0,Hn⟩=Gn (.chan (Gn L.c)))(c1:w0.cell? ⟨b1,0,Hn⟩=Gn (.pointer (Gn ⟨g,0,Hn⟩)))(c2:w0.cell? ⟨b2,0,Hn⟩=Gn (.int .i64 budget))(c3:w0.cell? ⟨b3,0,Hn⟩=Gn inV)(w:En)(hF:Kn L w0 (Kq K g num (qu cb co p.n cc) z::rn) w):
  Pn prog Tm L.R1 L.D1 (StopB prog L.c L.R1 L.D1 L.SL (fun w'=>∃Nw,NR K Nw (Uo p budget z C).2.2/\Kn L w0 (Kq K g num (qu cb co p.n cc) (Uo p budget z C).2.1::Nw) w') (Uo p budget z C).1) (G (lM prog (P50 b0 b1 b2 b3)) []) w:=by
 replace hF:=hF.lay;obtain⟨ip,il,ic',rfl⟩:∃ip il ic',inV=.slice ip il ic':=by obtain⟨a,c,e,_⟩:=iu;exact⟨_,_,_,e⟩
 have hk:(baseD 83).kind≠.early:=by simp[baseD]
 refine Pn.unwind L.Nn #[.pointer (Gn ⟨b0,0,Hn⟩),.pointer (Gn ⟨b1,0,Hn⟩),.pointer (Gn ⟨b2,0,Hn⟩),.pointer (Gn ⟨b3,0,Hn⟩),Bn,Bn,Bn,Bn,Bn,Bn,Bn,Bn,Bn,Bn,Bn,Bn,Bn,Bn,Bn,Bn,Bn,Bn,Bn,Bn,Bn] P0 rfl func83 I0 rfl J0 ?_;refine Ej ?_;refine N9 fun w1 K_ hK hF=>?_;have hc:World.cell? _ ⟨b0,0,Hn⟩=Gn (.chan (Gn L.c)):=(hF.Xo (a:=⟨b0,0,Hn⟩) s0).trans c0;refine vm ?_ ?_
 ·refine hF.zp s0 ?_;exact T9
 clear hK K_;clear hc;refine um ?_;refine Pn.defer L.Nn rfl I0 hk (closeD L.c) (fun w=>J0) (fun w=>J0) ?_;refine um ?_;refine J9 ?_;refine og ?_;refine N9 fun w1 K_ hK hF=>?_;refine Jl fun hc=>?_;refine vm ?_ ?_
 ·refine hF.zp s1 ?_;exact T9
 clear hK K_;clear hc;refine um ?_;refine W9 ?_;refine N9 fun w1 K_ hK hF=>?_;have hc:World.cell? _ ⟨g,46,Hn⟩=Gn (.int .i64 (z 46)):=hF.zw (ic:=0) rfl E0 E0;refine vm ?_ ?_
 ·refine hF.looks (i:=0) (r:=Kq K g num (qu cb co p.n cc) z) rfl ?_;exact T9
 clear hK K_;clear hc;refine um ?_;refine qj ?_;refine Ha ?_;refine N9 fun w1 K_ hK hF=>?_;refine Jl fun hc=>?_;refine vm ?_ ?_
 ·refine hF.zp s1 ?_;exact T9
 clear hK K_;clear hc;refine um ?_;refine N9 fun w1 K_ hK hF=>?_;have hc:World.cell? _ ⟨b2,0,Hn⟩=Gn (.int .i64 budget):=(hF.Xo (a:=⟨b2,0,Hn⟩) s2).trans c2;refine vm ?_ ?_
 ·refine hF.zp s2 ?_;exact T9
 clear hK K_;clear hc;refine um ?_;refine N9 fun w1 K_ hK hF=>?_;have hc:World.cell? _ ⟨b3,0,Hn⟩=Gn (.slice ip il ic'):=(hF.Xo (a:=⟨b3,0,Hn⟩) s3).trans c3;refine vm ?_ ?_
 ·refine hF.zp s3 ?_;exact T9
 clear hK K_;clear hc;refine um ?_;refine N9 fun w1 K_ hK hF=>?_;have hc:World.cell? _ ⟨b0,0,Hn⟩=Gn (.chan (Gn L.c)):=(hF.Xo (a:=⟨b0,0,Hn⟩) s0).trans c0;refine vm ?_ ?_
 ·refine hF.zp s0 ?_;exact T9
 clear hK K_;clear hc;refine um ?_;show Pn _ _ _ _ (StopB _ _ _ _ _ _ ((uE p budget z C).1++[Nv (IntKind.i64.wrap ((uE p budget z C).2.2.1 46-z 46)) (uE p budget z C).2.1])) _ _;refine Pn.ed0 rfl I0 hk rfl func84 I0 rfl #[.pointer (Gn ⟨g,0,Hn⟩),.int .i64 budget,.slice ip il ic',.chan (Gn L.c)] J0 (nl0 he qf0 jS hW aE lJ iu YH hN hs Np hn Yr hz iy budget jV _ hF) ?_ l9;rintro v w2 ⟨rfl,rn1,hN1,Gs⟩;replace hF:=Gs.lay;clear Gs;refine um ?_;refine qj ?_;refine Pn.fY (S:=ko L w0 (Kq K g num (qu cb co p.n cc) (uE p budget z C).2.2.1::rn1) []) L.Nn L.wu 10 I0 hk J0 ?_;intro w1 hR;replace hF:=(hF.rely hR).rely (Rq.drew _);clear hR;co_applyP bp L.Nn X8 O8 ?oS (i:=0) rfl T0 T0 T0 T0 (.inl ⟨I0,fun _ hw=>⟨Rm ?MD,?OH⟩⟩) hF ?q00
 case oS=>exact fun _ _ _ h r=>Pn.rely L.Nn.trans h r
 case MD=>
  intro K_ hK;have hc:World.cell? _ ⟨b0,0,Hn⟩=Gn (.chan (Gn L.c)):=(hw.Xo (a:=⟨b0,0,Hn⟩) s0).trans c0;exact fh
 case OH=>
  have hc:World.cell? _ ⟨b0,0,Hn⟩=Gn (.chan (Gn L.c)):=(hw.Xo (a:=⟨b0,0,Hn⟩) s0).trans c0;refine hw.zp s0 ?_;exact T9
 refine um ?_;co_applyP bp L.Nn X8 O8 ?pS (i:=1) rfl T0 T0 T0 T0 (.inl ⟨I0,fun _ hw=>⟨Rm ?cH,?PH⟩⟩) hF ?r00
 case pS=>exact fun _ _ _ h r=>Pn.rely L.Nn.trans h r
 case cH=>
  intro K_ hK;refine Ll fun hc=>?_;exact fh
 case PH=>
  refine Ll fun hc=>?_;refine hw.zp s1 ?_;exact T9
 refine um ?_;co_applyP bp L.Nn X8 O8 ?qS (i:=2) rfl T0 T0 T0 T0 (.inl ⟨I0,fun _ hw=>⟨Rm ?IJ,?QH⟩⟩) hF ?s00
 case qS=>exact fun _ _ _ h r=>Pn.rely L.Nn.trans h r
 case IJ=>
  exact Ed
 case QH=>
  exact Ac
 refine um ?_;co_applyP bp L.Nn X8 O8 ?rS (i:=3) rfl T0 T0 T0 T0 (.inl ⟨I0,fun _ hw=>⟨Rm ?JJ,?RH⟩⟩) hF ?t00
 case rS=>exact fun _ _ _ h r=>Pn.rely L.Nn.trans h r
 case JJ=>
  exact Ed
 case RH=>
  exact Ac
 refine um ?_;co_applyP bp L.Nn X8 O8 ?sS (i:=4) rfl T0 T0 T0 T0 (.inl ⟨I0,fun _ hw=>⟨Rm ?LN,?SH⟩⟩) hF ?u00
 case sS=>exact fun _ _ _ h r=>Pn.rely L.Nn.trans h r
 case LN=>
  intro K_ hK;have hc:World.cell? _ ⟨g,46,Hn⟩=Gn (.int .i64 ((uE p budget z C).2.2.1 46)):=ko.zw (ic:=0) hw rfl E0 E0;exact fh
 case SH=>
  have hc:World.cell? _ ⟨g,46,Hn⟩=Gn (.int .i64 ((uE p budget z C).2.2.1 46)):=ko.zw (ic:=0) hw rfl E0 E0;refine ko.looks (i:=0) (r:=Kq K g num (qu cb co p.n cc) (uE p budget z C).2.2.1) hw rfl ?_;exact T9
 refine um ?_;co_applyP bp L.Nn X8 O8 ?uS (i:=5) rfl T0 T0 T0 T0 (.inl ⟨I0,fun _ hw=>⟨Rm ?QT,?UH⟩⟩) hF ?v00
 case uS=>exact fun _ _ _ h r=>Pn.rely L.Nn.trans h r
 case QT=>
  exact Ed
 case UH=>
  exact Ac
 refine um ?_;co_applyP bp L.Nn X8 O8 ?vS (i:=6) rfl T0 T0 T0 T0 (.inl ⟨I0,fun _ hw=>⟨Rm ?TT,?VH⟩⟩) hF ?w00
 case vS=>exact fun _ _ _ h r=>Pn.rely L.Nn.trans h r
 case TT=>
  exact Ed
 case VH=>
  exact Ac
 refine um ?_;co_applyP bp L.Nn X8 O8 ?If0 (i:=7) rfl T0 T0 T0 T0 (.inl ⟨I0,fun _ hw=>⟨Rm ?Cg0,?V70⟩⟩) hF ?dl0
 case If0=>exact fun _ _ _ h r=>Pn.rely L.Nn.trans h r
 case Cg0=>
  exact Ed
 case V70=>
  exact Ac
 refine um ?_;co_applyP bp L.Nn X8 O8 ?Jf0 (i:=8) rfl T0 T0 T0 T0 (.inl ⟨I0,fun _ hw=>⟨Rm ?Dg0,?W70⟩⟩) hF ?el0
 case Jf0=>exact fun _ _ _ h r=>Pn.rely L.Nn.trans h r
 case Dg0=>
  exact Ed
 case W70=>
  exact Ac
 refine um ?_;refine WI (i:=9) T0 rfl I0 (Ks rfl T0) ⟨rfl,?_⟩;refine Pn.send rfl I0 hk rfl rfl rfl ?_;refine um ?_;refine Aj ?_;exact .stop rfl fun w1 hR=>U60 (b0:=b0) (b1:=b1) (b2:=b2) (b3:=b3) rfl ⟨rn1,hN1,(hF.rely hR).drop⟩
end
structure ZL(w:En)(K:Ys):Prop where
 n0:∃a ce,w.cell? ⟨K.nb,0,Hn⟩=Gn (.slice a K.k ce)/\(0<K.k->a=Gn ⟨K.eb,0,Hn⟩)
 n1:∃a cq,w.cell? ⟨K.nb,1,Hn⟩=Gn (.slice a K.k cq)/\(0<K.k->a=Gn ⟨K.qb,0,Hn⟩)
 n2:∃a cs,w.cell? ⟨K.nb,2,Hn⟩=Gn (.slice a K.k cs)/\(0<K.k->a=Gn ⟨K.sb,0,Hn⟩)
 e0:∀j,j<K.k->w.cell? ⟨K.eb,j*2,Hn⟩=Gn (.int .i64 (K.fr j))
 e1:∀j,j<K.k->w.cell? ⟨K.eb,j*2+1,Hn⟩=Gn (.int .i64 (K.Au j))
 bN:K.k*3<=K.qm
 rU:K.k*4<=K.sm
 hk:K.k<=1000
theorem ZL.gR{w:En}{K:Ys}(h:ZL w K)(h0:0<K.k):∃cq,w.cell? ⟨K.nb,1,Hn⟩=Gn (.slice (Gn ⟨K.qb,0,Hn⟩) K.k cq):=by
 obtain⟨a,c,h1,h2⟩:=h.n1;exact⟨c,by rw[h1,h2 h0]⟩
theorem ZL.at2{w:En}{K:Ys}(h:ZL w K)(h0:0<K.k):∃cs,w.cell? ⟨K.nb,2,Hn⟩=Gn (.slice (Gn ⟨K.sb,0,Hn⟩) K.k cs):=by
 obtain⟨a,c,h1,h2⟩:=h.n2;exact⟨c,by rw[h1,h2 h0]⟩
theorem ZL.keep{w w':En}{K:Ys}(h:ZL w K)(hk:w'.heap[K.nb]?=w.heap[K.nb]?)(he:0<K.k->w'.heap[K.eb]?=w.heap[K.eb]?):ZL w' K:=by
 have kn:∀j,w'.cell? ⟨K.nb,j,Hn⟩=w.cell? ⟨K.nb,j,Hn⟩:=fun j=>by unfold World.cell?;rw[hk]
 have ke:∀j,0<K.k->w'.cell? ⟨K.eb,j,Hn⟩=w.cell? ⟨K.eb,j,Hn⟩:=fun j h0=>by unfold World.cell?;rw[he h0]
 exact⟨by rw[kn];exact h.n0,by rw[kn];exact h.n1,by rw[kn];exact h.n2,fun j hj=>by rw[ke _ E0];exact h.e0 j hj,fun j hj=>by rw[ke _ E0];exact h.e1 j hj,h.bN,h.rU,h.hk⟩
structure Far(T g:Nat)(v:Dn)(N:Nat->Prop)(b:Nat):Prop where
 g:b≠g
 T:b≠T
 o:v.ownBlock≠Gn b
 n:¬N b
def InW(w:En)(inV:Dn)(ins:List (Int×Int))(F:Nat->Prop):Prop:=∃a c,inV=.slice a ins.length c/\∀(j:Nat)(x:Int×Int),ins[j]?=Gn x->∃ib io,a=Gn ⟨ib,io,Hn⟩/\F ib/\w.cell? ⟨ib,io+j*2,Hn⟩=Gn (.int .i64 x.1)/\w.cell? ⟨ib,io+j*2+1,Hn⟩=Gn (.int .i64 x.2)
theorem InW.keep{w w':En}{inV:Dn}{ins:List (Int×Int)}{F F':Nat->Prop}(h:InW w inV ins F)(hk:∀b,F b->w'.heap[b]?=w.heap[b]?)(hF:∀b,F b->b<w.heap.size->F' b):InW w' inV ins F':=by
 obtain⟨a,c,h1,h2⟩:=h;refine⟨a,c,h1,fun j x hj=>?_⟩;obtain⟨ib,io,g1,g2,g3,g4⟩:=h2 j x hj;have e:∀j,w'.cell? ⟨ib,j,Hn⟩=w.cell? ⟨ib,j,Hn⟩:=fun j=>by unfold World.cell?;rw[hk ib g2]
 exact⟨ib,io,g1,hF ib g2 (Rr g3),by rw[e];exact g3,by rw[e];exact g4⟩
structure nz(w:En)(kb C T nC cC cell g cb co cc:Nat)(p:TI)(K:Ys)(D:Nat->Us)(lr:Nat->Option Jp)(z:Nat->Int)(f:Nat->Dn)(m:Nat)(xs:List Dn)(inV:Dn):Prop where
 k2:w.cell? ⟨kb,2,Hn⟩=Gn (.slice (Gn ⟨C,0,Hn⟩) nC cC)
 k4:w.cell? ⟨kb,4,Hn⟩=Gn (.slice (Gn ⟨T,0,Hn⟩) nC nC)
 cl:w.cell? ⟨C,cell,Hn⟩=Gn (.pointer (Gn ⟨g,0,Hn⟩))
 hcell:cell<nC
 row:Tn w g 48 186 (Zv p.num (.pointer (Gn ⟨K.nb,0,Hn⟩)) (qu cb co p.n cc) z)
 tr:Tn w T nC 61 f
 own:w.ownsRow 0 111 3 (f cell) m xs
 code:∀j,j<p.n*4->w.cell? ⟨cb,co+j,Hn⟩=Gn (.int .i64 (p.ci j))
 Ri0:∃o,w.heap[cb]?=Gn o
 n48:p.n<=48
 ok:yx p.n K.k p.ci
 zok:aB p.n z
 nt:XP w K D lr
 nc:ZL w K
 aE:p.fr=K.fr
 inr:InW w inV p.ins (Far T g (f cell) (Ar K lr))
 YH:p.ins.length<=1000
 len:ox K.k 900000000 D
 hg:g≠T/\(f cell).ownBlock≠Gn g/\¬Ar K lr g
 hT:(f cell).ownBlock≠Gn T
 hN:∀b,Ar K lr b->b≠T/\(f cell).ownBlock≠Gn b
 hkb:Far T g (f cell) (Ar K lr) kb
 WH:Far T g (f cell) (Ar K lr) cb
 hnb:Far T g (f cell) (Ar K lr) K.nb
 heb:0<K.k->Far T g (f cell) (Ar K lr) K.eb
def Gw(w:En)(T g:Nat)(v:Dn)(N:Nat->Prop):Bt:={B:=w.heap.size+6,c:=w.heap.size+4,ev:=111,S:=fun b=>b=g\/N b,M:=fun b=>b=T\/v.ownBlock=Gn b}
theorem I70(w:En)(T g:Nat)(v:Dn)(N:Nat->Prop):Evs (Gw w T g v N):=⟨rfl,rfl,rfl,rfl⟩
section
variable {w:En}{kb C T nC cC cell g cb co cc:Nat}{p:TI}{K:Ys}{D:Nat->Us}{lr:Nat->Option Jp}{z:Nat->Int}{f:Nat->Dn}{m:Nat}{xs:List Dn}{budget:Nat}{inV:Dn}
theorem KQ(_h:nz w kb C T nC cC cell g cb co cc p K D lr z f m xs inV){b:Nat}(hb:∃o,(W7 w cell budget g inV).heap[b]?=Gn o)(hc:b≠w.heap.size+4)(hf:Far T g (f cell) (Ar K lr) b):Bq (Gw w T g (f cell) (Ar K lr)) (W7 w cell budget g inV) b:=by
 obtain⟨o,ho⟩:=hb;have yo:=(Array.getElem?_eq_some_iff.1 ho).1;rw[Xx]at yo;refine⟨⟨o,ho⟩,hc,fun o' _ hb=>?_⟩;rcases hb with hb|hb
 ·rcases hb.2 with⟨_,hb⟩|⟨hb,_⟩
  ·exact hf.T.elim (hb.elim id fun x=>absurd x hf.o)
  ·exact Gl
 ·rcases hb.2 with⟨_,hb⟩|⟨hb,_⟩
  ·exact hb.elim hf.g hf.n
  ·exact Gl
section
variable (h:nz w kb C T nC cC cell g cb co cc p K D lr z f m xs inV)
include h
theorem PL{b:Nat}(hb:(f cell).ownBlock=Gn b):b<w.heap.size:=by
 rcases h.own.2 with⟨hx,_⟩|⟨g0,yp,Ov,hx,_,hg,_⟩
 ·rw[hx]at hb;exact Vi
 ·rw[hx]at hb;have:g0=b:=by simpa[Value.ownBlock]using hb
  subst this;exact(Array.getElem?_eq_some_iff.1 hg).1
theorem Hz{b:Nat}(hb:b<w.heap.size)(hf:Far T g (f cell) (Ar K lr) b):Bq (Gw w T g (f cell) (Ar K lr)) (W7 w cell budget g inV) b:=
 KQ h ⟨_,Bm U5⟩ E0 hf
theorem Bz{i:Nat}(hi:i<6)(h4:i≠4):Bq (Gw w T g (f cell) (Ar K lr)) (W7 w cell budget g inV) (w.heap.size+i):=by
 have hg:=h.row.lt;have hT:=h.tr.lt;refine KQ h ⟨_,Bm U5⟩ E0 ⟨E0,E0,fun hb=>by have:=PL h hb;omega,fun hb=>by have:=h.nt.lt hb;omega⟩
theorem gg0(d:Nat):∃rn,NR K rn D/\Kn (Gw w T g (f cell) (Ar K lr)) (W7 w cell budget g inV) (Kq K g p.num (qu cb co p.n cc) z::rn) ((W7 w cell budget g inV).at d):=by
 obtain⟨rn,hN,hR,Yp⟩:=h.nt.lay;refine⟨rn,hN,.at _ _,fun i r hi=>?_,fun i j r s hi hj hn=>?_,?_,?_⟩
 ·have key:Tn w r.g r.m r.t r.f/\(r.g=g\/Ar K lr r.g)/\r.g≠T/\(f cell).ownBlock≠Gn r.g:=by
   cases i with
   |zero=>cases hi;exact⟨h.row,.inl rfl,h.hg.1,h.hg.2.1⟩
   |succ i=>have:=hR i r hi;exact⟨this.1,.inr this.2,(h.hN _ this.2).1,(h.hN _ this.2).2⟩
  obtain⟨Ir,hS,hT,ho⟩:=key;have yo:=Ir.lt;have Ir:Tn (W7 w cell budget g inV) r.g r.m r.t r.f:=Ir.of_heap (MG w cell budget g inV yo);have yo:r.g<w.heap.size+6:=E0;have lk0:r.g≠w.heap.size+4:=E0;refine⟨⟨Ir,?_,lk0,fun o aI hm=>?_⟩,fun o aI=>⟨lk0,.inl ⟨yo,hS⟩⟩⟩
  ·obtain⟨cs,h1,_⟩:=Ir;exact⟨_,h1⟩
  ·rcases hm.2 with⟨_,hm⟩|⟨hm,_⟩
   ·exact hm.elim hT ho
   ·exact absurd yo (Nat.not_lt.2 hm)
 ·cases i with
  |zero=>
   cases j with
   |zero=>exact absurd rfl hn
   |succ j=>
    cases hi;have:=(hR j s hj).2;exact fun e=>h.hg.2.2 (by have e:g=s.g:=e;rw[e];exact this)
  |succ i=>
   cases j with
   |zero=>
    cases hj;have:=(hR i r hi).2;exact fun e=>h.hg.2.2 (by have e:r.g=g:=e;rw[<-e];exact this)
   |succ j=>exact Yp i j r s hi hj E0
 ·exact xk
 ·exact Jk
theorem lg0(d:Nat):Ms (Gw w T g (f cell) (Ar K lr)) (W7 w cell budget g inV) T nC f cell m xs ((W7 w cell budget g inV).at d):=by
 have hT:=h.tr.lt;have Ir:Tn (W7 w cell budget g inV) T nC 61 f:=h.tr.of_heap (MG w cell budget g inV hT);have key:∀b,(b=T\/(f cell).ownBlock=Gn b)->(∃o,(W7 w cell budget g inV).heap[b]?=Gn o)->Calm (Gw w T g (f cell) (Ar K lr)) (Gw w T g (f cell) (Ar K lr)).send ((W7 w cell budget g inV).at d) b/\zH (Gw w T g (f cell) (Ar K lr)).main ((W7 w cell budget g inV).at d) b:=fun b hb hth=>by
  have yo:b<w.heap.size:=hb.elim (fun e=>by rw[e];exact hT) fun e=>PL h e;have dk0:b<w.heap.size+6:=E0;have Yp:b≠w.heap.size+4:=E0;refine⟨⟨hth,Yp,fun o ho hm=>?_⟩,fun o ho=>⟨Yp,.inl ⟨dk0,hb⟩⟩⟩;rcases hm.2 with⟨_,hm⟩|⟨hm,_⟩
  ·rcases hm with hm|hm
   ·subst hm;exact hb.elim (fun e=>h.hg.1 e) h.hg.2.1
   ·exact hb.elim (h.hN b hm).1 (h.hN b hm).2
  ·exact absurd dk0 (Nat.not_lt.2 hm)
 refine⟨.at _ _,⟨⟨Ir,(key T (.inl rfl) ?_).1⟩,(key T (.inl rfl) ?_).2⟩,?_,?_,?_,fun b hb=>key b (.inr hb) ⟨_,Bm (by rw[Xx];have:=PL h hb;omega)⟩⟩
 ·exact⟨_,Bm U5⟩
 ·exact⟨_,Bm U5⟩
 ·exact xk
 ·exact Jk
 ·exact Py (L:=Gw w T g (f cell) (Ar K lr)) h.own fun b hb=>MG w cell budget g inV (PL h hb)
theorem a90:UK (Gw w T g (f cell) (Ar K lr)) (W7 w cell budget g inV) K:=by
 have hc:ZL (W7 w cell budget g inV) K:=by
  obtain⟨a,ce,n0,_⟩:=h.nc.n0;exact h.nc.keep (MG w cell budget g inV (Rr n0)) fun h0=>MG w cell budget g inV (Rr (h.nc.e0 0 h0))
 obtain⟨a,ce,n0,_⟩:=h.nc.n0;exact⟨Hz h (Rr n0) h.hnb,hc.n0,hc.gR,hc.at2,fun h0=>Hz h (Rr (h.nc.e0 0 h0)) (h.heb h0),hc.e0,hc.e1,hc.bN,hc.rU,hc.hk⟩
theorem Tb0:InR (Gw w T g (f cell) (Ar K lr)) (W7 w cell budget g inV) inV p.ins:=by
 obtain⟨a,c,h1,h2⟩:=h.inr;refine⟨a,c,h1,fun j x hj=>?_⟩;obtain⟨ib,io,g1,g2,g3,g4⟩:=h2 j x hj;exact⟨ib,io,g1,Hz h (Rr g3) g2,sD w cell budget g inV g3,sD w cell budget g inV g4⟩
end
end
section
variable {Post:zn->En->Prop}{w:En}{kb C T nC cC cell g cb co cc:Nat}{p:TI}{K:Ys}{D:Nat->Us}{lr:Nat->Option Jp}{z:Nat->Int}{f:Nat->Dn}{m:Nat}{xs:List Dn}{budget:Nat}{inV:Dn}
theorem uT(h:nz w kb C T nC cC cell g cb co cc p K D lr z f m xs inV)(vs:List Dn)(hvs:∀v∈vs,sQ v)(hm:m+vs.length<=1000000000)(cs:List Xm)(d:Nat):
  Pn prog Um (Gw w T g (f cell) (Ar K lr)).R0 (Gw w T g (f cell) (Ar K lr)).D0 (StopA prog (Gw w T g (f cell) (Ar K lr)).c cO (Gw w T g (f cell) (Ar K lr)).R0 (Gw w T g (f cell) (Ar K lr)).D0 (Gw w T g (f cell) (Ar K lr)).ML (Pa0 (Gw w T g (f cell) (Ar K lr)) (W7 w cell budget g inV) kb w.heap.size T nC cell (m+vs.length) f (xs++vs.flatMap tq) (.agg #[.int .i64 cell,.int .i64 budget]) inV Bn Bn (.pointer (Gn ⟨kb,0,Hn⟩)) (.pointer (Gn ⟨kb,0,Hn⟩)) (.pointer (Gn ⟨kb,2,Hn⟩)) (.slice (Gn ⟨C,0,Hn⟩) nC cC) (.pointer (Gn ⟨w.heap.size,0,Hn⟩)) (.int .i64 cell) (.pointer (Gn ⟨C,cell,Hn⟩)) (.pointer (Gn ⟨g,0,Hn⟩)) (.pointer (Gn ⟨w.heap.size,1,Hn⟩)) (.int .i64 budget) inV cs) vs)
   (G ((base 57).at {tmps:=#[.pointer (Gn ⟨g,0,Hn⟩),.int .i64 budget,inV,.pointer (Gn ⟨w.heap.size+1,0,Hn⟩),.pointer (Gn ⟨w.heap.size+2,0,Hn⟩),.pointer (Gn ⟨w.heap.size+3,0,Hn⟩),.chan Hn,.pointer (Gn ⟨w.heap.size+5,0,Hn⟩),.chan (Gn (w.heap.size+4)),.func (.func 83) #[] #[.pointer (Gn ⟨w.heap.size+5,0,Hn⟩),.pointer (Gn ⟨w.heap.size+1,0,Hn⟩),.pointer (Gn ⟨w.heap.size+2,0,Hn⟩),.pointer (Gn ⟨w.heap.size+3,0,Hn⟩)],Bn],defers:=[]} [.inRegion Zd0 [],.code ma0]) (Eg0 kb C nC cC cell budget g w.heap.size inV::cs)) ((W7 w cell budget g inV).at d):=by
 have hk:(base 57).kind≠.early:=J1;have hF:=lg0 (budget:=budget) (inV:=inV) h d;have s0:=Bz (budget:=budget) (inV:=inV) h (i:=5) E0 E0;have c0:=dd0 w cell budget g inV;repeat refine .c1 (Gw w T g (f cell) (Ar K lr)).Qq rfl ?_
 refine .Un (Gw w T g (f cell) (Ar K lr)).Qq [0,1] I0 ?_;refine K9 fun w1 K hK hF=>?_;have hc:World.cell? _ ⟨w.heap.size+5,0,Hn⟩=Gn (.chan (Gn (w.heap.size+4))):=(hF.Xo (a:=⟨w.heap.size+5,0,Hn⟩) s0).trans c0;refine vm ?_ ?_
 ·refine hF.zp s0 ?_;exact T9
 clear hK K;clear hc;refine um ?_;refine .Yo (Gw w T g (f cell) (Ar K lr)).Qq rfl I0 hk ?_;refine um ?_;repeat refine .c1 (Gw w T g (f cell) (Ar K lr)).Qq rfl ?_
 refine Pn.ret (Gw w T g (f cell) (Ar K lr)).Qq fun todo=>?_;refine Pn.leave (Gw w T g (f cell) (Ar K lr)).Qq func57 rfl (Fp (Gw w T g (f cell) (Ar K lr)).Qq (t:=6) I0 _) ?_;show Pn _ _ _ _ _ (G ((base 31).at {tmps:=#[.pointer (Gn ⟨kb,0,Hn⟩),.agg #[.int .i64 cell,.int .i64 budget],inV,Bn,.pointer (Gn ⟨w.heap.size,0,Hn⟩),Bn,Bn,.pointer (Gn ⟨kb,0,Hn⟩),.pointer (Gn ⟨kb,0,Hn⟩),.pointer (Gn ⟨kb,2,Hn⟩),.slice (Gn ⟨C,0,Hn⟩) nC cC,.pointer (Gn ⟨w.heap.size,0,Hn⟩),.int .i64 cell,.pointer (Gn ⟨C,cell,Hn⟩),.pointer (Gn ⟨g,0,Hn⟩),.pointer (Gn ⟨w.heap.size,1,Hn⟩),.int .i64 budget,inV,.chan (Gn (w.heap.size+4)),Bn,Bn,Bn,Bn,Bn,Bn,Bn,Bn,Bn,Bn,Bn,Bn,Bn,Bn,Bn,Bn,Bn,Bn,Bn,Bn,Bn],defers:=[]} [.inRegion E90 [],.code F90]) cs) _;refine Pn.regionEnd (Gw w T g (f cell) (Ar K lr)).Qq ?_;refine Pn.block (Gw w T g (f cell) (Ar K lr)).Qq ?_;refine Pn.loop (Gw w T g (f cell) (Ar K lr)).Qq ?_;exact E20 rfl (Hz h (Rr h.k2) h.hkb) (Bz h (i:=0) E0 E0) (sD w cell budget g inV h.k4) (Di0 w cell budget g inV) h.hcell (.agg #[.int .i64 cell,.int .i64 budget]) inV Bn Bn (.pointer (Gn ⟨kb,0,Hn⟩)) (.pointer (Gn ⟨kb,0,Hn⟩)) (.pointer (Gn ⟨kb,2,Hn⟩)) (.slice (Gn ⟨C,0,Hn⟩) nC cC) (.pointer (Gn ⟨w.heap.size,0,Hn⟩)) (.int .i64 cell) (.pointer (Gn ⟨C,cell,Hn⟩)) (.pointer (Gn ⟨g,0,Hn⟩)) (.pointer (Gn ⟨w.heap.size,1,Hn⟩)) (.int .i64 budget) inV cs f vs f m xs _ Bn Bn Bn Bn Bn Bn Bn Bn Bn Bn Bn Bn Bn Bn Bn Bn Bn Bn Bn Bn Bn Bn hvs hm (fun _ _=>rfl) hF
end
theorem K90(o:BH):(∀v∈o.sent,sQ v)/\o.sent.length<=1:=by
 unfold BH.sent;split
 ·refine⟨fun v hv=>?_,P0⟩;rw[List.mem_singleton.1 hv];exact Gi
 ·exact⟨fun v hv=>by simp at hv,P0⟩
theorem y00(p:TI):∀(k:Nat)(z:Nat->Int)(C:Nat->Us),(∀v∈(Kv p k z C).1,sQ v)/\(Kv p k z C).1.length<=k
 |0,z,C=>⟨fun v hv=>by simp[Kv]at hv,by simp[Kv]⟩
 |k+1,z,C=>by
  simp only[Kv];cases hs:Pq p.n p.ci p.ins z C with
  |on op e z' C'=>
   have h1:=K90 (.on op e z' C');have h2:=y00 p k z' C';by_cases h0:op=0
   ·simp only[h0,if_true];rw[h0]at h1;exact⟨h1.1,by have:=h1.2;omega⟩
   ·simp only[h0,if_false];refine⟨fun v hv=>?_,?_⟩
    ·rcases List.mem_append.1 hv with hv|hv
     ·exact h1.1 v hv
     ·exact h2.1 v hv
    ·rw[List.length_append];have:=h1.2;have:=h2.2;omega
  |Xr y z'=>
   refine⟨fun v hv=>?_,P0⟩;rw[List.mem_singleton.1 hv];exact⟨_,_,_,rfl⟩
theorem iH(p:TI)(k:Nat)(z:Nat->Int)(C:Nat->Us):(∀v∈(Uo p k z C).1,sQ v)/\(Uo p k z C).1.length<=k+1:=by
 have h:(∀v∈(uE p k z C).1,sQ v)/\(uE p k z C).1.length<=k:=by
  unfold uE;split
  ·exact⟨fun v hv=>by simp at hv,P0⟩
  ·exact y00 p k z C
 unfold Uo;refine⟨fun v hv=>?_,?_⟩
 ·rcases List.mem_append.1 hv with hv|hv
  ·exact h.1 v hv
  ·rw[List.mem_singleton.1 hv];exact Gi
 ·simp;exact h.2
structure TQ(w:En)(T nC cell g:Nat)(num:Int)(code:Dn)(K:Ys)(lr:Nat->Option Jp)(z:Nat->Int)(D:Nat->Us)(f:Nat->Dn)(m:Nat)(xs:List Dn)(w':En)(f':Nat->Dn)(Oy:Nat->Option Jp):Prop where
 size:w.heap.size<=w'.heap.size
 os:w'.os=w.os
 out:w'.output=w.output
 tape:w'.tape=w.tape
 row:Tn w' g 48 186 (Zv num (.pointer (Gn ⟨K.nb,0,Hn⟩)) code z)
 tr:Tn w' T nC 61 f'
 others:∀j,j≠cell->f' j=f j
 own:w'.ownsRow 0 111 3 (f' cell) m xs
 blk:∀b,(f' cell).ownBlock=Gn b->(f cell).ownBlock=Gn b\/w.heap.size<=b
 old:∀b,b<w.heap.size->Far T g (f cell) (Ar K lr) b->w'.heap[b]?=w.heap[b]?
 nt:XP w' K D Oy
 tN:∀b,Ar K Oy b->Ar K lr b\/w.heap.size<=b
section
variable {Post:zn->En->Prop}{w:En}{kb C T nC cC cell g cb co cc:Nat}{p:TI}{K:Ys}{D:Nat->Us}{lr:Nat->Option Jp}{z:Nat->Int}{f:Nat->Dn}{m:Nat}{xs:List Dn}{budget:Nat}{inV:Dn}
section
variable (h:nz w kb C T nC cC cell g cb co cc p K D lr z f m xs inV)
include h
theorem Q00{z':Nat->Int}{D':Nat->Us}{Nw:List Jp}{f':Nat->Dn}{m':Nat}{bG:List Dn}{w':En}(hN:NR K Nw D')(hk:Kn (Gw w T g (f cell) (Ar K lr)) (W7 w cell budget g inV) (Kq K g p.num (qu cb co p.n cc) z'::Nw) w')(hf:∀j,j≠cell->f' j=f j)(hM:Ms (Gw w T g (f cell) (Ar K lr)) (W7 w cell budget g inV) T nC f' cell m' bG w'):∃Oy,TQ w T nC cell g p.num (qu cb co p.n cc) K lr z' D' f m' bG w' f' Oy:=by
 have hs:=hM.ph.size;rw[Xx]at hs;obtain⟨Oy,h1,h2⟩:=XP.back (w:=w') hN (fun i r hi=>(hk.row (i+1) r hi).rw.row) fun i j r s hi hj Yp=>hk.pw (i+1) (j+1) r s hi hj E0;refine⟨Oy,E0,hM.ph.os,hM.ph.out,hM.ph.tape,(hk.row 0 _ rfl).rw.row,hM.row.rw.row,hf,hM.own,fun b hb=>?_,fun b hb vp0=>?_,h1,fun b hb=>?_⟩
 ·obtain⟨o,ho⟩:=(hM.blk b hb).1.there;rcases ((hM.blk b hb).2 o ho).2 with⟨_,hm⟩|⟨hm,_⟩
  ·rcases hm with hm|hm
   ·exfalso;subst hm;obtain⟨cs,g1,_⟩:=hM.row.rw.row;rcases hM.own.2 with⟨hx,_⟩|⟨g0,yp,Ov,hx,_,hg,_⟩
    ·rw[hx]at hb;exact Vi
    ·rw[hx]at hb;have:g0=b:=by simpa[Value.ownBlock]using hb
     subst this;rw[g1]at hg;injection hg with hg
     injection hg with _ hg
     exact absurd hg (by show ¬(61:Nat)=111;decide)
   ·exact .inl hm
  ·have hm:w.heap.size+6<=b:=hm;exact .inr E0
 ·rw[hM.still (Hz (budget:=budget) (inV:=inV) h hb vp0),MG w cell budget g inV hb]
 ·rcases h2 b hb with hq|⟨i,r,hi,rfl⟩
  ·exact .inl (.inl hq)
  ·have ow:=hk.row (i+1) r hi;obtain⟨o,ho⟩:=ow.rw.calm.there;rcases (ow.own o ho).2 with⟨_,hm⟩|⟨hm,_⟩
   ·rcases hm with hm|hm
    ·exact absurd hm (hk.pw (i+1) 0 r _ hi rfl E0)
    ·exact .inl hm
   ·have hm:w.heap.size+6<=r.g:=hm;exact .inr E0
theorem Q50(jV:budget<=200)(hm:m+budget<1000000000)(cs:List Xm)(hp:∀a' w',Pa0 (Gw w T g (f cell) (Ar K lr)) (W7 w cell budget g inV) kb w.heap.size T nC cell (m+(Uo p budget z D).1.length) f (xs++(Uo p budget z D).1.flatMap tq) (.agg #[.int .i64 cell,.int .i64 budget]) inV Bn Bn (.pointer (Gn ⟨kb,0,Hn⟩)) (.pointer (Gn ⟨kb,0,Hn⟩)) (.pointer (Gn ⟨kb,2,Hn⟩)) (.slice (Gn ⟨C,0,Hn⟩) nC cC) (.pointer (Gn ⟨w.heap.size,0,Hn⟩)) (.int .i64 cell) (.pointer (Gn ⟨C,cell,Hn⟩)) (.pointer (Gn ⟨g,0,Hn⟩)) (.pointer (Gn ⟨w.heap.size,1,Hn⟩)) (.int .i64 budget) inV cs a' w'->(fun w'=>∃Nw,NR K Nw (Uo p budget z D).2.2/\Kn (Gw w T g (f cell) (Ar K lr)) (W7 w cell budget g inV) (Kq K g p.num (qu cb co p.n cc) (Uo p budget z D).2.1::Nw) w') w'->Ko prog Post a' w')(d:Nat):
  Ko prog Post (G (Ng0 g budget w.heap.size inV) (Eg0 kb C nC cC cell budget g w.heap.size inV::cs)) ((W7 w cell budget g inV).at d):=by
 have hk:(base 57).kind≠.early:=J1;have Et:=iH p budget z D;have iu:∀{b:Nat},b<w.heap.size->∃o,(W7 w cell budget g inV).heap[b]?=Gn o:=fun hb=>⟨_,Bm U5⟩;have WH:cb<w.heap.size:=by
  obtain⟨o,ho⟩:=h.Ri0;exact(Array.getElem?_eq_some_iff.1 ho).1
 refine Ko.fork (z:=cO) (vs:=(Uo p budget z D).1) (Fin:=Pa0 (Gw w T g (f cell) (Ar K lr)) (W7 w cell budget g inV) kb w.heap.size T nC cell (m+(Uo p budget z D).1.length) f (xs++(Uo p budget z D).1.flatMap tq) (.agg #[.int .i64 cell,.int .i64 budget]) inV Bn Bn (.pointer (Gn ⟨kb,0,Hn⟩)) (.pointer (Gn ⟨kb,0,Hn⟩)) (.pointer (Gn ⟨kb,2,Hn⟩)) (.slice (Gn ⟨C,0,Hn⟩) nC cC) (.pointer (Gn ⟨w.heap.size,0,Hn⟩)) (.int .i64 cell) (.pointer (Gn ⟨C,cell,Hn⟩)) (.pointer (Gn ⟨g,0,Hn⟩)) (.pointer (Gn ⟨w.heap.size,1,Hn⟩)) (.int .i64 budget) inV cs) ((Gw w T g (f cell) (Ar K lr)).rules (fun w'=>∃Nw,NR K Nw (Uo p budget z D).2.2/\Kn (Gw w T g (f cell) (Ar K lr)) (W7 w cell budget g inV) (Kq K g p.num (qu cb co p.n cc) (Uo p budget z D).2.1::Nw) w') fun _ _ r ⟨rn,h1,k⟩=>⟨rn,h1,k.rely r⟩) rfl (fun d2=>?_) hp;refine⟨_,_,_,_,stepG_spawn (d:=P50 (w.heap.size+5) (w.heap.size+1) (w.heap.size+2) (w.heap.size+3)) (w':=(W7 w cell budget g inV).at d2) rfl I0 hk ?run rfl,?ev,⟨0,0,Tm,Za0 w cell budget g inV⟩,uT h _ Et.1 (by have:=Et.2;omega) cs d2,?child⟩
 case run=>kernel_rfl
 case ev=>
  exact Ud
 case child=>
  obtain⟨rn,hN,hK⟩:=gg0 (budget:=budget) h d2;exact na0 (I70 w T g (f cell) (Ar K lr)) rfl rfl (a90 h) h.aE rfl (Tb0 h) h.YH hN (Hz h WH h.WH) (fun j hj=>sD w cell budget g inV (h.code j hj)) h.n48 h.ok h.zok h.len budget jV (Bz h (i:=5) E0 E0) (Bz h (i:=1) E0 E0) (Bz h (i:=2) E0 E0) (Bz h (i:=3) E0 E0) (dd0 w cell budget g inV) (Ai0 w cell budget g inV) (Bi0 w cell budget g inV) (Ci0 w cell budget g inV) _ hK
theorem LJ(jV:budget<=200)(hm:m+budget<1000000000):
  Ip prog 31 #[.pointer (Gn ⟨kb,0,Hn⟩),.agg #[.int .i64 cell,.int .i64 budget],inV] w (fun v w'=>v=.tuple #[]/\∃f' Oy,TQ w T nC cell g p.num (qu cb co p.n cc) K lr (Uo p budget z D).2.1 (Uo p budget z D).2.2 f (m+(Uo p budget z D).1.length) (xs++(Uo p budget z D).1.flatMap tq) w' f' Oy):=by
 refine Ip.oJ (c:=A00) #[.pointer (Gn ⟨kb,0,Hn⟩),.agg #[.int .i64 cell,.int .i64 budget],inV,Bn,Bn,Bn,Bn,Bn,Bn,Bn,Bn,Bn,Bn,Bn,Bn,Bn,Bn,Bn,Bn,Bn,Bn,Bn,Bn,Bn,Bn,Bn,Bn,Bn,Bn,Bn,Bn,Bn,Bn,Bn,Bn,Bn,Bn,Bn,Bn,Bn] func31 I0 J0 fun cs Post hp=>?_;have T10:∃ip il ic,inV=.slice ip il ic:=by obtain⟨a,c,e,_⟩:=h.inr;exact⟨_,_,_,e⟩
 refine tl0 h.k2 h.cl h.hcell inV T10 cs fun d=>Q50 h jV hm cs (fun a' w' bz ⟨Nw,hN',oK⟩=>?_) d;obtain⟨u6,vC,lD,rB,uB,vB,xB,lA,mA,nA,pA,QB,TB,UB,VB,WB,mD,II,JI,KI,LI,f',rfl,hf',hM⟩:=bz;obtain⟨Oy,hA⟩:=Q00 h hN' oK hf' hM;have hk:(base 31).kind≠.early:=J1;refine uc ?_;have hF:=Is.self w';refine Pn.Mg0 Rn (v:=.bool Tm) rfl I0 hk (fun w=>J0) (fun w=>J0) ?_;show Pn _ _ _ _ _ (G ((base 31).at {tmps:=#[.pointer (Gn ⟨kb,0,Hn⟩),(.agg #[.int .i64 cell,.int .i64 budget]),inV,Bn,.pointer (Gn ⟨w.heap.size,0,Hn⟩),Bn,u6,(.pointer (Gn ⟨kb,0,Hn⟩)),(.pointer (Gn ⟨kb,0,Hn⟩)),(.pointer (Gn ⟨kb,2,Hn⟩)),(.slice (Gn ⟨C,0,Hn⟩) nC cC),(.pointer (Gn ⟨w.heap.size,0,Hn⟩)),(.int .i64 cell),(.pointer (Gn ⟨C,cell,Hn⟩)),(.pointer (Gn ⟨g,0,Hn⟩)),(.pointer (Gn ⟨w.heap.size,1,Hn⟩)),(.int .i64 budget),inV,.chan (Gn (Gw w T g (f cell) (Ar K lr)).c),.tuple #[cO,.bool Tm],.bool Tm,lD,rB,uB,vB,xB,lA,mA,nA,pA,QB,TB,UB,VB,WB,mD,II,JI,KI,LI],defers:=[]} [.inRegion Xd0 [],.code G90,.inLoop NJ,.inBlock 0]) cs) _;refine S9 ?_;refine Pn.Zq Rn I0 ?_;refine Pn.exit Rn rfl ?_;refine Pn.fin Rn ?_;refine .stop rfl fun w1 hR=>?_;obtain⟨d,rfl⟩:=hF.rely hR;exact(hp _ _ _ w' rfl (fun d=>results_none I0 _ _ _) ⟨rfl,f',Oy,hA⟩).at d
end
end
def Ws(w:En)(b:Nat):Prop:=∃cs t fz,w.heap[b]?=Gn (.cells cs t fz)/\t≠186/\t≠61/\t≠111/\t≠156/\t≠158/\t≠2
structure wH(w:En)(k:RA)(K:Ys):Prop where
 k2:w.cell? ⟨k.kb,2,Hn⟩=Gn (.slice (Gn ⟨k.C,0,Hn⟩) k.nC k.cC)
 k4:w.cell? ⟨k.kb,4,Hn⟩=Gn (.slice (Gn ⟨k.T,0,Hn⟩) k.nC k.nC)
 EW:Ws w k.kb
 sC:Ws w k.C
 snb:Ws w K.nb
 seb:0<K.k->Ws w K.eb
 scb:∀i,i<k.nC->Ws w (k.cb i)
 cl:∀i,i<k.nC->w.cell? ⟨k.C,i,Hn⟩=Gn (.pointer (Gn ⟨k.g i,0,Hn⟩))
 code:∀i,i<k.nC->∀j,j<k.n i*4->w.cell? ⟨k.cb i,k.co i+j,Hn⟩=Gn (.int .i64 (k.ci i j))
 nc:ZL w K
 n48:∀i,i<k.nC->k.n i<=48
 ok:∀i,i<k.nC->yx (k.n i) K.k (k.ci i)
 inj:∀i j,i<k.nC->j<k.nC->i≠j->k.g i≠k.g j
structure yC where
 z:Nat->Nat->Int
 m:Nat->Nat
 xs:Nat->List Dn
 D:Nat->Us
structure qD(w:En)(k:RA)(K:Ys)(s:yC)(f:Nat->Dn)(lr:Nat->Option Jp):Prop where
 row:∀i,i<k.nC->Tn w (k.g i) 48 186 (Zv (k.num i) (.pointer (Gn ⟨K.nb,0,Hn⟩)) (qu (k.cb i) (k.co i) (k.n i) (k.cc i)) (s.z i))
 tr:Tn w k.T k.nC 61 f
 own:∀i,i<k.nC->w.ownsRow 0 111 3 (f i) (s.m i) (s.xs i)
 zok:∀i,i<k.nC->aB (k.n i) (s.z i)
 Wu:∀i j,i<k.nC->j<k.nC->i≠j->∀b,(f i).ownBlock=Gn b->(f j).ownBlock≠Gn b
 nt:XP w K s.D lr
def DB(k:RA)(K:Ys)(f:Nat->Dn)(lr:Nat->Option Jp)(b:Nat):Prop:=b=k.T\/Ar K lr b\/∃i,i<k.nC/\(b=k.g i\/(f i).ownBlock=Gn b)
section
variable {w w':En}{k:RA}{K:Ys}{s:yC}{f f':Nat->Dn}{lr Oy:Nat->Option Jp}
theorem Ws.lt{b:Nat}(h:Ws w b):b<w.heap.size:=by
 obtain⟨cs,t,fz,h1,_⟩:=h;exact(Array.getElem?_eq_some_iff.1 h1).1
theorem Ws.of_heap{b:Nat}(h:Ws w b)(e:w'.heap[b]?=w.heap[b]?):Ws w' b:=by
 obtain⟨cs,t,fz,h1,h2⟩:=h;exact⟨cs,t,fz,e.trans h1,h2⟩
theorem Ws.Kx{b g m t:Nat}{f:Nat->Dn}(h:Ws w b)(hr:Tn w g m t f)(ht:t=186\/t=61\/t=156\/t=158\/t=2):b≠g:=fun e=>by
 subst e;obtain⟨cs,t',fz,h1,h2,h3,h4,h5,h6,h7⟩:=h;obtain⟨cs',h8,_⟩:=hr;rw[h8]at h1;injection h1 with h1
 injection h1 with _ h1
 rcases ht with rfl|rfl|rfl|rfl|rfl
 ·exact h2 h1.symm
 ·exact h3 h1.symm
 ·exact h5 h1.symm
 ·exact h6 h1.symm
 ·exact h7 h1.symm
theorem Ws.yz{b:Nat}(h:Ws w b){v:Dn}{m:Nat}{xs:List Dn}(ho:w.ownsRow 0 111 3 v m xs):v.ownBlock≠Gn b:=fun e=>by
 obtain⟨cs,fz,h1⟩:=kT ho e;obtain⟨cs',t',fz',h2,_,_,h4,_⟩:=h;rw[h1]at h2;injection h2 with h2
 injection h2 with _ h2
 exact h4 h2.symm
theorem Ws.qZ{b:Nat}(h:Ws w b){D:Nat->Us}(hn:XP w K D lr):¬Ar K lr b:=fun hb=>by
 obtain⟨m,t,f,hr,ht⟩:=hn.at hb;exact h.Kx hr (by rcases ht with ht|ht|ht<;>simp[ht]) rfl
theorem Ws.far(h:qD w k K s f lr){cell:Nat}(hc:cell<k.nC){b:Nat}(hs:Ws w b):Far k.T (k.g cell) (f cell) (Ar K lr) b:=
 ⟨hs.Kx (h.row cell hc) (.inl rfl),hs.Kx h.tr (.inr (.inl rfl)),hs.yz (h.own cell hc),hs.qZ h.nt⟩
theorem Ws.Sd0(h:qD w k K s f lr){b:Nat}(hs:Ws w b):¬DB k K f lr b:=by
 rintro (hb|hb|⟨i,hi,hb|hb⟩)
 ·exact hs.Kx h.tr (.inr (.inl rfl)) hb
 ·exact hs.qZ h.nt hb
 ·exact hs.Kx (h.row i hi) (.inl rfl) hb
 ·exact hs.yz (h.own i hi) hb
theorem wH.N80(h:wH w k K)(h2:w'.cell? ⟨k.kb,2,Hn⟩=w.cell? ⟨k.kb,2,Hn⟩)(h4:w'.cell? ⟨k.kb,4,Hn⟩=w.cell? ⟨k.kb,4,Hn⟩)(hs:Ws w' k.kb)(hk:∀b,(b=k.C\/b=K.nb\/(0<K.k/\b=K.eb)\/∃i,i<k.nC/\b=k.cb i)->w'.heap[b]?=w.heap[b]?):wH w' k K:=by
 have hC:=hk k.C (.inl rfl);have hn:=hk K.nb (.inr (.inl rfl));have he:=fun h0:0<K.k=>hk K.eb (.inr (.inr (.inl ⟨h0,rfl⟩)));have hc:=fun i (hi:i<k.nC)=>hk (k.cb i) (.inr (.inr (.inr ⟨i,hi,rfl⟩)));exact⟨h2.trans h.k2,h4.trans h.k4,hs,h.sC.of_heap hC,h.snb.of_heap hn,fun h0=>(h.seb h0).of_heap (he h0),fun i hi=>(h.scb i hi).of_heap (hc i hi),fun i hi=>(Zn (a:=⟨k.C,i,Hn⟩) hC).trans (h.cl i hi),fun i hi j hj=>(Zn (a:=⟨k.cb i,k.co i+j,Hn⟩) (hc i hi)).trans (h.code i hi j hj),h.nc.keep hn he,h.n48,h.ok,h.inj⟩
theorem wH.keep(h:wH w k K)(hk:∀b,Ws w b->w'.heap[b]?=w.heap[b]?):wH w' k K:=by
 have e:=hk _ h.EW;refine h.N80 (Zn (a:=⟨k.kb,2,Hn⟩) e) (Zn (a:=⟨k.kb,4,Hn⟩) e) (h.EW.of_heap e) fun b hb=>?_;rcases hb with rfl|rfl|⟨h0,rfl⟩|⟨i,hi,rfl⟩
 ·exact hk _ h.sC
 ·exact hk _ h.snb
 ·exact hk _ (h.seb h0)
 ·exact hk _ (h.scb i hi)
theorem qD.keep(h:qD w k K s f lr)(hk:∀b,DB k K f lr b->w'.heap[b]?=w.heap[b]?):qD w' k K s f lr:=
 ⟨fun i hi=>(h.row i hi).of_heap (hk _ (.inr (.inr ⟨i,hi,.inl rfl⟩))),h.tr.of_heap (hk _ (.inl rfl)),fun i hi=>Py (L:=⟨0,0,111,fun _=>False,fun _=>False⟩) (h.own i hi) fun b hb=>hk b (.inr (.inr ⟨i,hi,.inr hb⟩)),h.zok,h.Wu,h.nt.keep fun b hb=>hk b (.inr (.inl hb))⟩
theorem qD.lt(h:qD w k K s f lr){b:Nat}(hb:DB k K f lr b):b<w.heap.size:=by
 rcases hb with rfl|hb|⟨i,hi,rfl|hb⟩
 ·exact h.tr.lt
 ·exact h.nt.lt hb
 ·exact(h.row i hi).lt
 ·obtain⟨cs,fz,h1⟩:=kT (h.own i hi) hb;exact(Array.getElem?_eq_some_iff.1 h1).1
def Yw(k:RA)(K:Ys)(ins:List (Int×Int))(i:Nat):TI:=⟨k.n i,k.ci i,k.num i,K.fr,ins⟩
theorem qD.ready(hS:wH w k K)(h:qD w k K s f lr){cell:Nat}(hc:cell<k.nC){inV:Dn}{ins:List (Int×Int)}(iu:InW w inV ins (Ws w))(YH:ins.length<=1000)(iy:ox K.k 900000000 s.D):nz w k.kb k.C k.T k.nC k.cC cell (k.g cell) (k.cb cell) (k.co cell) (k.cc cell) (Yw k K ins cell) K s.D lr (s.z cell) f (s.m cell) (s.xs cell) inV where
 k2:=hS.k2
 k4:=hS.k4
 cl:=hS.cl cell hc
 hcell:=hc
 row:=h.row cell hc
 tr:=h.tr
 own:=h.own cell hc
 code:=hS.code cell hc
 Ri0:=by obtain⟨cs,t,fz,h1,_⟩:=hS.scb cell hc;exact⟨_,h1⟩
 n48:=hS.n48 cell hc
 ok:=hS.ok cell hc
 zok:=h.zok cell hc
 nt:=h.nt
 nc:=hS.nc
 aE:=rfl
 inr:=iu.keep (fun _ _=>rfl) fun b hb _=>hb.far h hc
 YH:=YH
 len:=iy
 hg:=⟨dx (h.row cell hc) h.tr U0,Zw (h.row cell hc) U0 (h.own cell hc),fun hb=>by
  obtain⟨m,t,f,hr,ht⟩:=h.nt.at hb;exact dx (h.row cell hc) hr K4 rfl⟩
 hT:=Zw h.tr U0 (h.own cell hc)
 hN:=fun b hb=>by
  obtain⟨m,t,f',hr,ht⟩:=h.nt.at hb;exact⟨dx hr h.tr K4,Zw hr K4 (h.own cell hc)⟩
 hkb:=hS.EW.far h hc
 WH:=(hS.scb cell hc).far h hc
 hnb:=hS.snb.far h hc
 heb:=fun h0=>(hS.seb h0).far h hc
section
variable {cell:Nat}{z':Nat->Int}{D':Nat->Us}{m':Nat}{bG:List Dn}
theorem qD.after(h:qD w k K s f lr)(hc:cell<k.nC)(hinj:∀i j,i<k.nC->j<k.nC->i≠j->k.g i≠k.g j)(hA:TQ w k.T k.nC cell (k.g cell) (k.num cell) (qu (k.cb cell) (k.co cell) (k.n cell) (k.cc cell)) K lr z' D' f m' bG w' f' Oy)(hz:aB (k.n cell) z'):qD w' k K ⟨Qo s.z cell z',Qo s.m cell m',Qo s.xs cell bG,D'⟩ f' Oy:=by
 have sg0:∀i,i<k.nC->¬Ar K lr (k.g i):=fun i hi hb=>by
  obtain⟨m,t,f,hr,ht⟩:=h.nt.at hb;exact dx (h.row i hi) hr K4 rfl
 have rg0:∀i,i<k.nC->∀b,(f i).ownBlock=Gn b->¬Ar K lr b:=fun i hi b ho hb=>by
  obtain⟨m,t,f',hr,ht⟩:=h.nt.at hb;exact Zw hr K4 (h.own i hi) ho
 have kept:∀i,i<k.nC->i≠cell->w'.heap[k.g i]?=w.heap[k.g i]?:=fun i hi Yp=>hA.old _ (h.row i hi).lt ⟨hinj i cell hi hc Yp,dx (h.row i hi) h.tr U0,Zw (h.row i hi) U0 (h.own cell hc),sg0 i hi⟩;have kN:∀i,i<k.nC->i≠cell->∀b,(f i).ownBlock=Gn b->b<w.heap.size/\w'.heap[b]?=w.heap[b]?:=fun i hi Yp b hb=>by
  obtain⟨cs,fz,h1⟩:=kT (h.own i hi) hb;have yo:=(Array.getElem?_eq_some_iff.1 h1).1;exact⟨yo,hA.old b yo ⟨fun e=>Zw (h.row cell hc) U0 (h.own i hi) G4,fun e=>Zw h.tr U0 (h.own i hi) G4,h.Wu i cell hi hc Yp b hb,rg0 i hi b hb⟩⟩
 refine⟨fun i hi=>?_,hA.tr,fun i hi=>?_,fun i hi=>?_,fun i j hi hj Yp b hb Xq=>?_,hA.nt⟩
 ·show Tn w' _ _ _ (Zv _ _ _ (Qo s.z cell z' i));by_cases e:i=cell
  ·subst e;rw[Yn];exact hA.row
  ·refine Xk ?_;exact(h.row i hi).of_heap (kept i hi e)
 ·show w'.ownsRow 0 _ 3 (f' i) (Qo s.m cell m' i) (Qo s.xs cell bG i);by_cases e:i=cell
  ·subst e;rw[Yn,Yn];exact hA.own
  ·rw[Oo _ _ e,Oo _ _ e,hA.others i e];exact Py (L:=⟨0,0,111,fun _=>False,fun _=>False⟩) (h.own i hi) fun b hb=>(kN i hi e b hb).2
 ·show aB _ (Qo s.z cell z' i);by_cases e:i=cell
  ·subst e;rw[Yn];exact hz
  ·refine Xk ?_;exact h.zok i hi
 ·by_cases e:i=cell
  ·subst e;have kz:j≠i:=fun x=>Yp x.symm;rw[hA.others j kz]at Xq;rcases hA.blk b hb with hb|hb
   ·exact Hf
   ·have:=(kN j hj kz b Xq).1;omega
  ·rw[hA.others i e]at hb;by_cases e2:j=cell
   ·subst e2;rcases hA.blk b Xq with Xq|Xq
    ·exact Hf
    ·have:=(kN i hi e b hb).1;omega
   ·rw[hA.others j e2]at Xq;exact Hf
end
def jD(k:RA)(K:Ys)(ins:List (Int×Int))(p:Nat×Nat)(s:yC):yC:=
 ⟨Qo s.z p.1 (Uo (Yw k K ins p.1) p.2 (s.z p.1) s.D).2.1,Qo s.m p.1 (s.m p.1+(Uo (Yw k K ins p.1) p.2 (s.z p.1) s.D).1.length),Qo s.xs p.1 (s.xs p.1++(Uo (Yw k K ins p.1) p.2 (s.z p.1) s.D).1.flatMap tq),(Uo (Yw k K ins p.1) p.2 (s.z p.1) s.D).2.2⟩
def Hv(k:RA)(K:Ys)(ins:List (Int×Int))(wn:Nat->Nat×Nat):Nat->Nat->yC->yC
 |0,_,s=>s
 |ez+1,j,s=>Hv k K ins wn ez (j+1) (jD k K ins (wn j) s)
structure jx(wR:En)(fR:Nat->Dn)(oP:Nat->Option Jp)(k:RA)(K:Ys)(Wx wo nW:Nat)(wn:Nat->Nat×Nat)(s:yC)(f:Nat->Dn)(lr:Nat->Option Jp)(w:En):Prop where
 OI:wH wR k K
 dyn:qD w k K s f lr
 tb0:∃sR,qD wR k K sR fR oP
 sW:Ws wR Wx
 c0:∀j,j<nW->wR.cell? ⟨Wx,wo+j*2,Hn⟩=Gn (.int .i64 (wn j).1)
 c1:∀j,j<nW->wR.cell? ⟨Wx,wo+j*2+1,Hn⟩=Gn (.int .i64 (wn j).2)
 ph:w.os=wR.os/\w.output=wR.output/\w.tape=wR.tape/\wR.heap.size<=w.heap.size
 ft:∀b,b<wR.heap.size->¬DB k K fR oP b->w.heap[b]?=wR.heap[b]?
 fo:∀i b,i<k.nC->(f i).ownBlock=Gn b->(fR i).ownBlock=Gn b\/wR.heap.size<=b
 fn:∀b,Ar K lr b->Ar K oP b\/wR.heap.size<=b
end
section
variable {wR w w':En}{fR f f':Nat->Dn}{oP lr Oy:Nat->Option Jp}{k:RA}{K:Ys}{Wx wo nW:Nat}{wn:Nat->Nat×Nat}{s:yC}{p:Nat×Nat}
theorem jx.st(h:jx wR fR oP k K Wx wo nW wn s f lr w){b:Nat}(hb:Ws wR b):w.heap[b]?=wR.heap[b]?:=by
 obtain⟨sR,hR⟩:=h.tb0;exact h.ft b hb.lt (hb.Sd0 hR)
theorem jx.cell(h:jx wR fR oP k K Wx wo nW wn s f lr w){a:Vm}(hs:Ws wR a.block):w.cell? a=wR.cell? a:=Zn (h.st hs)
theorem jx.frozen(h:jx wR fR oP k K Wx wo nW wn s f lr w){a:Vm}(hs:Ws wR a.block):w.frozen? a=wR.frozen? a:=by
 unfold World.frozen?;rw[h.st hs]
section
variable (h:jx wR fR oP k K Wx wo nW wn s f lr w)
include h
theorem jx.Kg0:wH w k K:=h.OI.keep fun _ hb=>h.st hb
theorem jx.grow(hg:∀b,b<w.heap.size->w'.heap[b]?=w.heap[b]?)(mV:w'.os=w.os/\w'.output=w.output/\w'.tape=w.tape/\w.heap.size<=w'.heap.size):jx wR fR oP k K Wx wo nW wn s f lr w':=
 ⟨h.OI,h.dyn.keep fun b hb=>hg b (h.dyn.lt hb),h.tb0,h.sW,h.c0,h.c1,⟨mV.1.trans h.ph.1,mV.2.1.trans h.ph.2.1,mV.2.2.1.trans h.ph.2.2.1,Qm h.ph.2.2.2 mV.2.2.2⟩,fun b hb hf=>(hg b H9).trans (h.ft b hb hf),h.fo,h.fn⟩
theorem jx.rely(r:RS w w'):jx wR fR oP k K Wx wo nW wn s f lr w':=by
 obtain⟨d,rfl⟩:=r;exact h.grow (fun _ _=>rfl) ⟨rfl,rfl,rfl,Om _⟩
end
theorem jx.after(h:jx wR fR oP k K Wx wo nW wn s f lr w)(hc:p.1<k.nC){ins:List (Int×Int)}{b:Nat}(hl:ox K.k b s.D)(hA:TQ w k.T k.nC p.1 (k.g p.1) (k.num p.1) (qu (k.cb p.1) (k.co p.1) (k.n p.1) (k.cc p.1)) K lr (Uo (Yw k K ins p.1) p.2 (s.z p.1) s.D).2.1 (Uo (Yw k K ins p.1) p.2 (s.z p.1) s.D).2.2 f (s.m p.1+(Uo (Yw k K ins p.1) p.2 (s.z p.1) s.D).1.length) (s.xs p.1++(Uo (Yw k K ins p.1) p.2 (s.z p.1) s.D).1.flatMap tq) w' f' Oy):
  jx wR fR oP k K Wx wo nW wn (jD k K ins p s) f' Oy w'/\ox K.k (b+p.2) (jD k K ins p s).D:=by
 have hw:=jH (p:=Yw k K ins p.1) (h.OI.ok _ hc) p.2 (h.dyn.zok _ hc) hl;refine⟨⟨h.OI,h.dyn.after hc h.OI.inj hA hw.1,h.tb0,h.sW,h.c0,h.c1,⟨hA.os.trans h.ph.1,hA.out.trans h.ph.2.1,hA.tape.trans h.ph.2.2.1,Qm h.ph.2.2.2 hA.size⟩,fun b hb hf=>?_,fun i b hi hb=>?_,fun b hb=>?_⟩,hw.2⟩
 ·refine(hA.old b H9 ⟨fun e=>hf (.inr (.inr ⟨_,hc,.inl e⟩)),fun e=>hf (.inl e),fun e=>?_,fun e=>?_⟩).trans (h.ft b hb hf)
  ·rcases h.fo _ b hc e with e|e
   ·exact hf (.inr (.inr ⟨_,hc,.inr e⟩))
   ·omega
  ·rcases h.fn b e with e|e
   ·exact hf (.inr (.inl e))
   ·omega
 ·by_cases e:i=p.1
  ·subst e;rcases hA.blk b hb with e|e
   ·exact h.fo _ b hi e
   ·exact ql
  ·rw[hA.others i e]at hb;exact h.fo _ b hi hb
 ·rcases hA.tN b hb with e|e
  ·exact h.fn b e
  ·exact ql
end
def kg0(w:En)(T:Nat)(N:Nat->Prop):Bt:={B:=w.heap.size,c:=T,ev:=111,S:=N,M:=fun _=>False}
section
variable {w:En}{k:RA}{K:Ys}{s:yC}{f:Nat->Dn}{lr:Nat->Option Jp}
theorem MO{nb n1 n2:Nat}{q1 q2:Option Vm}(h1:w.cell? ⟨nb,1,Hn⟩=Gn (.slice q1 0 n1))(h2:w.cell? ⟨nb,2,Hn⟩=Gn (.slice q2 0 n2)):Ao prog Um RS DS 32 #[.pointer (Gn ⟨nb,0,Hn⟩)] w (fun v w'=>v=.tuple #[]/\Is w w') (fun _ _=>False):=by
 have hF:=Is.self w;have hk:(base 32).kind≠.early:=J1;refine Ao.intro Rn #[.pointer (Gn ⟨nb,0,Hn⟩),Bn,Bn,Bn,Bn,Bn,Bn,Bn,Bn,Bn,Bn,Bn,Bn,Bn,Bn,Bn,Bn,Bn,Bn,Bn,Bn,Bn,Bn,Bn,Bn,Bn,Bn,Bn,Bn,Bn,Bn,Bn,Bn,Bn,Bn,Bn] func32 rfl J0 fun cl cs Bo tt _=>?_;refine yl ?_;refine Na ?_;refine N9 fun w1 K_ hK hF=>?_;have hc:World.cell? _ ⟨nb,1,Hn⟩=Gn (.slice q1 0 n1):=(hF.cell _).trans h1;refine vm ?_ ?_
 ·exact ze
 clear hK K_;clear hc;refine um ?_;refine Va ?_;refine S9 ?_;refine Pn.loop Rn ?_;refine lj ?_;refine Zi ?_;refine yl ?_;refine Na ?_;refine N9 fun w1 K_ hK hF=>?_;have hc:World.cell? _ ⟨nb,2,Hn⟩=Gn (.slice q2 0 n2):=(hF.cell _).trans h2;refine vm ?_ ?_
 ·exact ze
 clear hK K_;clear hc;refine um ?_;refine Va ?_;refine S9 ?_;refine Pn.loop Rn ?_;refine lj ?_;refine Zi ?_;refine Pn.fin Rn ?_;exact tt _ [] _ _ rfl (Ep Rn I0 _) ⟨rfl,hF⟩
theorem JQ(h:qD w k K s f lr){b:Nat}(hs:Ws w b):Bq (kg0 w k.T (Ar K lr)) w b:=by
 refine⟨⟨_,Bm hs.lt⟩,hs.Kx h.tr (.inr (.inl rfl)),fun o _ hb=>?_⟩;have yo:=hs.lt;rcases hb with hb|hb
 ·rcases hb.2 with⟨_,hb⟩|⟨hb,_⟩
  ·exact hb.elim
  ·exact absurd yo (Nat.not_lt.2 hb)
 ·rcases hb.2 with⟨_,hb⟩|⟨hb,_⟩
  ·exact hs.qZ h.nt hb
  ·exact absurd yo (Nat.not_lt.2 hb)
theorem gY(hS:wH w k K)(h:qD w k K s f lr)(hl:∀i,i<K.k->(s.D i).sent.length<=1000000000/\(s.D i).wait.length<=4):Ao prog Um RS DS 32 #[.pointer (Gn ⟨K.nb,0,Hn⟩)] w
  (fun v w'=>v=.tuple #[]/\∃Oy,XP w' K (MH K.k s.D) Oy/\(w'.os=w.os/\w'.output=w.output/\w'.tape=w.tape/\w.heap.size<=w'.heap.size)/\(∀b,b<w.heap.size->¬Ar K lr b->w'.heap[b]?=w.heap[b]?)/\∀b,Ar K Oy b->Ar K lr b\/w.heap.size<=b) (fun _ _=>False):=by
 by_cases h0:0<K.k
 ·obtain⟨rn,hN,hR,Yp⟩:=h.nt.lay;have nT:∀b,Ar K lr b->b≠k.T:=fun b hb e=>by
   obtain⟨m,t,f',hr,ht⟩:=h.nt.at hb;exact dx hr h.tr K4 e
  have hK:Kn (kg0 w k.T (Ar K lr)) w rn w:=by
   refine⟨.refl w,fun i r hi=>?_,Yp,Om _,h.tr.lt⟩;obtain⟨a1,a2⟩:=hR i r hi;refine⟨⟨a1,⟨_,Bm a1.lt⟩,nT _ a2,fun o ho hm=>?_⟩,fun o ho=>⟨nT _ a2,.inl ⟨a1.lt,a2⟩⟩⟩;rcases hm.2 with⟨_,hm⟩|⟨hm,_⟩
   ·exact hm
   ·exact absurd a1.lt (Nat.not_lt.2 hm)
  have hW:UK (kg0 w k.T (Ar K lr)) w K:=⟨JQ h hS.snb,hS.nc.n0,hS.nc.gR,hS.nc.at2,fun h0=>JQ h (hS.seb h0),hS.nc.e0,hS.nc.e1,hS.nc.bN,hS.nc.rU,hS.nc.hk⟩;refine((iY rfl hW h0 hl hN w hK).solo ?_).to ?_
  ·rintro v a b ⟨rfl,Nw,x,y⟩ r;exact⟨rfl,Nw,x,y.rely r⟩
  ·rintro v w' ⟨⟨rfl,Nw,hN',hK'⟩,hc⟩;obtain⟨Oy,h1,h2⟩:=XP.back (w:=w') hN' (fun i r hi=>(hK'.row i r hi).rw.row) hK'.pw;refine⟨rfl,Oy,h1,⟨hK'.ph.os,hK'.ph.out,hK'.ph.tape,hK'.ph.size⟩,fun b hb hn=>?_,fun b hb=>?_⟩
   ·by_cases e:b=k.T
    ·subst e;exact hc
    ·obtain⟨o',ho,_,hk⟩:=hK'.ph.at_ b _ (Bm hb);rw[ho,hk e ?_,Bm hb];rintro (hm|hm)
     ·rcases hm.2 with⟨_,hm⟩|⟨hm,_⟩
      ·exact hm.elim
      ·exact absurd hb (Nat.not_lt.2 hm)
     ·rcases hm.2 with⟨_,hm⟩|⟨hm,_⟩
      ·exact hn hm
      ·exact absurd hb (Nat.not_lt.2 hm)
   ·rcases h2 b hb with hq|⟨i,r,hi,rfl⟩
    ·exact .inl (.inl hq)
    ·have ow:=hK'.row i r hi;obtain⟨o,ho⟩:=ow.rw.calm.there;rcases (ow.own o ho).2 with⟨_,hm⟩|⟨hm,_⟩
     ·exact .inl hm
     ·exact .inr hm
 ·obtain⟨a1,c1,n1,_⟩:=hS.nc.n1;obtain⟨a2,c2,n2,_⟩:=hS.nc.n2;have hk:K.k=0:=by omega
  rw[hk]at n1 n2;refine(MO n1 n2).to ?_;rintro v w' ⟨rfl,d,rfl⟩;refine⟨rfl,lr,⟨h.nt.out,h.nt.ne,h.nt.row,fun x=>absurd x h0⟩,⟨rfl,rfl,rfl,Om _⟩,fun _ _ _=>rfl,fun b hb=>.inl hb⟩
end
noncomputable def P70:Code:=match Tryz.f15.body with
 |some (.seq _ (.seq _ (.seq (.seq _ (.block _ (.loop c))) _)))=>c
 |_=>.skip
noncomputable def Q70:Code:=match Tryz.f15.body with
 |some (.seq _ (.seq _ (.seq _ c)))=>c
 |_=>.skip
section
variable {Post:zn->En->Prop}{wR w:En}{fR f:Nat->Dn}{oP lr:Nat->Option Jp}{k:RA}{K:Ys}{Wx wo nW cW:Nat}{wn:Nat->Nat×Nat}{inV:Dn}{ins:List (Int×Int)}{s:yC}
theorem jx.box(h:jx wR fR oP k K Wx wo nW wn s f lr w):jx wR fR oP k K Wx wo nW wn s f lr (w.alloc (.cells #[.int .i64 0,.int .i64 0] 102))/\Tn (w.alloc (.cells #[.int .i64 0,.int .i64 0] 102)) w.heap.size 2 102 (pair 0 0):=
 ⟨h.grow (fun _ hb=>heap_alloc_old w _ hb) ⟨rfl,rfl,rfl,P0⟩,.new w _ _ _ fun j hj=>by
  have:j=0\/j=1:=by simp at hj;omega
  rcases this with rfl|rfl<;>rfl⟩
theorem jx.po0(h:jx wR fR oP k K Wx wo nW wn s f lr w)(d a b:Nat):jx wR fR oP k K Wx wo nW wn s f lr ((((w.alloc (.cells #[.int .i64 0,.int .i64 0] 102)).at d).setCell ⟨w.heap.size,0,Hn⟩ (.int .i64 a)).setCell ⟨w.heap.size,1,Hn⟩ (.int .i64 b))/\Tn ((((w.alloc (.cells #[.int .i64 0,.int .i64 0] 102)).at d).setCell ⟨w.heap.size,0,Hn⟩ (.int .i64 a)).setCell ⟨w.heap.size,1,Hn⟩ (.int .i64 b)) w.heap.size 2 102 (pair a b):=by
 refine⟨h.grow (fun x hx=>?_) ⟨rfl,rfl,rfl,by show w.heap.size<=((World.at (w.alloc _) d).setCell _ _ |>.setCell _ _).heap.size;rw[size_setCell,size_setCell];show w.heap.size<=(w.alloc _).heap.size;simp⟩,?_⟩
 ·rw[yn _ _ _ _ (by show x≠w.heap.size;omega),yn _ _ _ _ (by show x≠w.heap.size;omega)];exact heap_alloc_old w _ hx
 ·have h2:Tn ((w.alloc (.cells #[.int .i64 0,.int .i64 0] 102)).at d) w.heap.size 2 102 (pair 0 0):=h.box.2;refine((h2.set 0 (.int .i64 a)).set 1 (.int .i64 b)).congr fun j hj=>?_;have:j=0\/j=1:=by omega
  rcases this with rfl|rfl<;>rfl
theorem bV(iu:InW wR inV ins (Ws wR))(YH:ins.length<=1000)(hnW:nW<=1000)(nQ:∀j,j<nW->(wn j).1<k.nC/\(wn j).2<=200)(x7 x8 x9 x10 x11 x12 x13 x14 x15 x16 x17 x18:Dn)(cs:List Xm):
  ∀(ez j:Nat)(s:yC)(f:Nat->Dn)(lr:Nat->Option Jp)(w:En)(u6 rB uB vB xB lA mA nA pA:Dn),j+ez=nW->(∀i,s.m i+ez*201<=1000000000)->ox K.k (900000000-ez*200) s.D->jx wR fR oP k K Wx wo nW wn s f lr w->
   (∀(f':Nat->Dn)(Oy:Nat->Option Jp)(w':En)(u6 rB uB vB xB lA mA nA pA:Dn),jx wR fR oP k K Wx wo nW wn (Hv k K ins wn ez j s) f' Oy w'->ox K.k 900000000 (Hv k K ins wn ez j s).D->Ko prog Post (G ((base 15).at {tmps:=(List.toArray ((.pointer (Gn ⟨k.kb,0,Hn⟩))::(inV)::(Bn)::(Bn)::(.int .i64 0)::(Bn)::(u6)::(x7)::(x8)::(x9)::(x10)::(x11)::(x12)::(x13)::(x14)::(x15)::(x16)::(x17)::(x18)::(.slice (Gn ⟨Wx,wo,Hn⟩) nW cW)::(.int .i64 nW)::(.int .i64 nW)::(rB)::(uB)::(vB)::(xB)::(lA)::(mA)::(nA)::(pA)::(Bn)::(Bn)::(Bn)::(Bn)::(Bn)::(Bn)::(Bn)::(Bn)::(Bn)::(Bn)::(Bn)::(Bn)::(Bn)::(Bn)::(Bn)::(Bn)::(Bn)::(Bn)::(Bn)::[])),defers:=[]} [.code Q70]) cs) w')->
   Ko prog Post (G ((base 15).at {tmps:=(List.toArray ((.pointer (Gn ⟨k.kb,0,Hn⟩))::(inV)::(Bn)::(Bn)::(.int .i64 0)::(Bn)::(u6)::(x7)::(x8)::(x9)::(x10)::(x11)::(x12)::(x13)::(x14)::(x15)::(x16)::(x17)::(x18)::(.slice (Gn ⟨Wx,wo,Hn⟩) nW cW)::(.int .i64 nW)::(.int .i64 j)::(rB)::(uB)::(vB)::(xB)::(lA)::(mA)::(nA)::(pA)::(Bn)::(Bn)::(Bn)::(Bn)::(Bn)::(Bn)::(Bn)::(Bn)::(Bn)::(Bn)::(Bn)::(Bn)::(Bn)::(Bn)::(Bn)::(Bn)::(Bn)::(Bn)::(Bn)::[])),defers:=[]} [.code P70,.inLoop P70,.inBlock 0,.code Q70]) cs) w:=by
 have hk:(base 15).kind≠.early:=J1;have T10:∃ip il ic,inV=.slice ip il ic:=by obtain⟨a,c,e,_⟩:=iu;exact⟨_,_,_,e⟩
 intro ez;induction ez with
 |zero=>
  intro j s f lr w u6 rB uB vB xB lA mA nA pA hj hm hl hF hp;obtain rfl:j=nW:=E0;refine uc ?_;refine lj ?_;refine Zi ?_;refine .stop rfl fun w1 hR=>?_;exact hp _ _ _ _ _ _ _ _ _ _ _ _ (hF.rely hR) (hl.le E0)
 |succ ez ih=>
  intro j s f lr w u6 rB uB vB xB lA mA nA pA hj hm hl hF hp;have yo:j<nW:=E0;have lG:(j:Int)<(nW:Int):=E0;obtain⟨hcell,jV⟩:=nQ j yo;refine uc ?_;refine lj ?_;refine Pn.vr Rn J2 ?_;refine S9 ?_;refine Yf ?_;refine N9 fun w1 K_ hK hF=>?_;refine vm ?_ ?_
  ·co_still Rn
  clear hK K_;refine um ?_;refine N9 fun w1 K_ hK hF=>?_;have a0:=(hF.cell (a:=⟨Wx,wo+j*2,Hn⟩) hF.sW).trans (hF.c0 j yo);have a1:=(hF.cell (a:=⟨Wx,wo+j*2+1,Hn⟩) hF.sW).trans (hF.c1 j yo);refine vm ?_ ?_
  ·exact fe
  clear hK K_;clear a0 a1;refine um ?_;refine N9 fun w1 K_ hK hF=>?_;refine vm ?_ ?_
  ·exact da
  clear hK K_;refine um ?_;refine Pn.op rfl I0 hk ?_;intro w2 hR K_ hK;obtain⟨d,rfl⟩:=hR;have hE:=hF.box.2;have a0:World.cell? ((w1.alloc (.cells #[.int .i64 0,.int .i64 0] 102)).at d) ⟨w1.heap.size,0,Hn⟩=Gn (.int .i64 0):=hE.cell (j:=0) E0;have a1:World.cell? ((w1.alloc (.cells #[.int .i64 0,.int .i64 0] 102)).at d) ⟨w1.heap.size,1,Hn⟩=Gn (.int .i64 0):=hE.cell (j:=1) E0;have z0:World.frozen? ((w1.alloc (.cells #[.int .i64 0,.int .i64 0] 102)).at d) ⟨w1.heap.size,0,Hn⟩=false:=hE.frozen 0;have z1:World.frozen? ((w1.alloc (.cells #[.int .i64 0,.int .i64 0] 102)).at d) ⟨w1.heap.size,1,Hn⟩=false:=hE.frozen 1;obtain⟨Gs,hE2⟩:=hF.po0 d (wn j).1 (wn j).2;generalize hW:((w1.alloc (.cells #[.int .i64 0,.int .i64 0] 102)).at d)=w2 at *;generalize hN:w1.heap.size=E at *;refine vm ?_ ?_
  ·exact fe
  clear hK K_ a0 a1 z0 z1 hF hE;generalize hW2:((w2.setCell ⟨E,0,Hn⟩ (.int .i64 (wn j).1)).setCell ⟨E,1,Hn⟩ (.int .i64 (wn j).2))=w3 at *;clear hW hW2 hN;have hF:=Gs;have hE:=hE2;clear Gs hE2;refine um ?_;refine S9 ?_;refine Yf ?_;refine V9 ?_;refine .op rfl I0 hk fun w1 hR K_ hK=>?_;replace hF:=hF.rely hR;replace hE:=CQ hE hR;clear hR;have a0:=hE.cell (j:=0) E0;have a1:=hE.cell (j:=1) E0;simp only[pair]at a0 a1;refine vm ?_ ?_
  ·exact fe
  clear hK K_;clear a0 a1;refine um ?_;refine V9 ?_;refine .stop rfl fun w1 hR=>?_;replace hF:=hF.rely hR;replace hE:=CQ hE hR;clear hR;refine Ko.call rfl I0 hk (fun d=>?run) (fun d=>?evs) (LJ (hF.dyn.ready hF.Kg0 hcell (iu.keep (fun b hb=>hF.st hb) fun b hb _=>hb.of_heap (hF.st hb)) YH (hl.le E0)) jV (by have:=hm (wn j).1;omega)) (fun v w' hv=>?_)
  case run=>kernel_rfl
  case evs=>
   exact Ud
  obtain⟨rfl,f',Oy,hA⟩:=hv;obtain⟨Gs,X_⟩:=hF.after hcell hl hA;replace hF:=Gs;clear hA hE Gs;refine uc ?_;have hwr:IntKind.i64.wrap ((j:Int)+1)=((j+1:Nat):Int):=by rw[IntKind.wrap_i64];omega
  refine um ?_;refine S9 ?_;refine .Un Rn [0,1] I0 ?_;refine Va ?_;refine S9 ?_;refine Pn.inLoop Rn ?_;refine .stop rfl fun w1 hR=>?_;refine ih (j+1) (jD k K ins (wn j) s) f' Oy w1 _ _ _ _ _ _ _ _ _ E0 (fun i=>?_) (X_.le E0) (hF.rely hR) hp;show Qo s.m (wn j).1 _ i+ez*201<=1000000000;have h1:=hm i;have h2:=(iH (Yw k K ins (wn j).1) (wn j).2 (s.z (wn j).1) s.D).2;unfold Qo;split
  ·subst i;omega
  ·omega
end
section
variable {w w1:En}{k:RA}{Wx wo nW cW:Nat}{wn:Nat->Nat×Nat}{inV:Dn}{z:Nat->Nat->Int}{f:Nat->Dn}{m:Nat->Nat}{xs:Nat->List Dn}{tb nT cT r n1 n2 ip il ic:Nat}
theorem id0(w:En):RS w {w with drawn:=w.drawn+1}:=⟨w.drawn+1,rfl⟩
end
section
variable {w w1 w2:En}{k:RA}{K:Ys}{Wx wo nW cW:Nat}{wn:Nat->Nat×Nat}{s:yC}{f f':Nat->Dn}{lr Oy:Nat->Option Jp}{tb nT cT r il ic:Nat}{ip:Option Vm}{ins:List (Int×Int)}
theorem jx.ended(h:jx w f lr k K Wx wo nW wn s f' Oy w1){lr2:Nat->Option Jp}{D':Nat->Us}(hn:XP w2 K D' lr2)(mV:w2.os=w1.os/\w2.output=w1.output/\w2.tape=w1.tape/\w1.heap.size<=w2.heap.size)(hk:∀b,b<w1.heap.size->¬Ar K Oy b->w2.heap[b]?=w1.heap[b]?)(hb:∀b,Ar K lr2 b->Ar K Oy b\/w1.heap.size<=b):jx w f lr k K Wx wo nW wn {s with D:=D'} f' lr2 w2:=by
 have sg0:∀i,i<k.nC->¬Ar K Oy (k.g i):=fun i hi hb=>by
  obtain⟨m,t,f,hr,ht⟩:=h.dyn.nt.at hb;exact dx (h.dyn.row i hi) hr K4 rfl
 have rg0:∀i,i<k.nC->∀b,(f' i).ownBlock=Gn b->¬Ar K Oy b:=fun i hi b ho hb=>by
  obtain⟨m,t,f',hr,ht⟩:=h.dyn.nt.at hb;exact Zw hr K4 (h.dyn.own i hi) ho
 have nT:¬Ar K Oy k.T:=fun hb=>by
  obtain⟨m,t,f',hr,ht⟩:=h.dyn.nt.at hb;exact dx hr h.dyn.tr K4 rfl
 refine⟨h.OI,⟨fun i hi=>(h.dyn.row i hi).of_heap (hk _ (h.dyn.row i hi).lt (sg0 i hi)),h.dyn.tr.of_heap (hk _ h.dyn.tr.lt nT),fun i hi=>Py (L:=⟨0,0,111,fun _=>False,fun _=>False⟩) (h.dyn.own i hi) fun b hb=>hk b (h.dyn.lt (.inr (.inr ⟨i,hi,.inr hb⟩))) (rg0 i hi b hb),h.dyn.zok,h.dyn.Wu,hn⟩,h.tb0,h.sW,h.c0,h.c1,⟨mV.1.trans h.ph.1,mV.2.1.trans h.ph.2.1,mV.2.2.1.trans h.ph.2.2.1,Qm h.ph.2.2.2 mV.2.2.2⟩,fun b hb hf=>(hk b H9 fun e=>?_).trans (h.ft b hb hf),h.fo,fun b e=>?_⟩
 ·rcases h.fn b e with e|e
  ·exact hf (.inr (.inl e))
  ·omega
 ·rcases hb b e with e|e
  ·exact h.fn b e
  ·exact ql
theorem TR(hS:wH w k K)(hD:qD w k K s f lr)(h0:w.cell? ⟨k.kb,0,Hn⟩=Gn (.slice (Gn ⟨tb,0,Hn⟩) nT cT))(hr:w.cell? ⟨k.kb,1,Hn⟩=Gn (.int .i64 r))(h3:w.cell? ⟨k.kb,3,Hn⟩=Gn (.pointer (Gn ⟨K.nb,0,Hn⟩)))(hfz:w.frozen? ⟨k.kb,1,Hn⟩=Tm)
  (stb:Ws w tb)(Ir:w.cell? ⟨tb,r,Hn⟩=Gn (.slice (Gn ⟨Wx,wo,Hn⟩) nW cW))(hrT:r<nT)(hnT:nT<=1000)(sW:Ws w Wx)(c0:∀j,j<nW->w.cell? ⟨Wx,wo+j*2,Hn⟩=Gn (.int .i64 (wn j).1))(c1:∀j,j<nW->w.cell? ⟨Wx,wo+j*2+1,Hn⟩=Gn (.int .i64 (wn j).2))
  (hnW:nW<=1000)(nQ:∀j,j<nW->(wn j).1<k.nC/\(wn j).2<=200)(hm:∀i,s.m i+nW*201<=1000000000)(hl:ox K.k 4 s.D)(hlw:∀i,i<K.k->((Hv k K ins wn nW 0 s).D i).wait.length<=4)(iu:InW w (.slice ip il ic) ins (Ws w))(CY:il<=4):
  Ip prog 15 #[.pointer (Gn ⟨k.kb,0,Hn⟩),.slice ip il ic] w (fun v w'=>v=.int .i64 0/\∃f' lr2 w1 d,jx w f lr k K Wx wo nW wn {(Hv k K ins wn nW 0 s)with D:=MH K.k (Hv k K ins wn nW 0 s).D} f' lr2 w1/\w'=(w1.setCell ⟨k.kb,1,Hn⟩ (.int .i64 (((r:Int)+1).tmod nT))).at d):=by
 refine Ip.oJ (List.toArray ((.pointer (Gn ⟨k.kb,0,Hn⟩))::(.slice ip il ic)::Bn::Bn::Bn::Bn::Bn::Bn::Bn::Bn::Bn::Bn::Bn::Bn::Bn::Bn::Bn::Bn::Bn::Bn::Bn::Bn::Bn::Bn::Bn::Bn::Bn::Bn::Bn::Bn::Bn::Bn::Bn::Bn::Bn::Bn::Bn::Bn::Bn::Bn::Bn::Bn::Bn::Bn::Bn::Bn::Bn::Bn::Bn::[])) func15 I0 J0 fun cs Post hp=>?_;have hk:(base 15).kind≠.early:=J1;refine uc ?_;have hF:jx w f lr k K Wx wo nW wn s f lr w:=⟨hS,hD,⟨_,hD⟩,sW,c0,c1,⟨rfl,rfl,rfl,Om _⟩,fun _ _ _=>rfl,fun i b hi hb=>.inl hb,fun b hb=>.inl hb⟩;have vf0:¬((4:Int)<(il:Int)):=E0;have hri:(r:Int)<(nT:Int):=E0;have YH:ins.length<=1000:=by obtain⟨a,c,e,_⟩:=iu;injection e with _ e _;omega
 refine um ?_;refine lj ?_;refine Ce ?_;refine Na ?_;refine S9 ?_;refine Pn.Zq Rn (by first|rfl|simp[Act.eval,vf0]) ?_;refine S9 ?_;refine Pn.vu (S:=(fun w1=>jx w f lr k K Wx wo nW wn s f lr w1)) (Die:=fun _ _=>False) Rn cJ 12 I0 hk J0 (fun _ _ _ h=>h) S8 fun w1 hR=>?_;replace hF:=(hF.rely hR).rely (id0 _);clear hR;refine Vn Rn 0 U8 hF ?_;refine um ?_;refine Vn Rn 1 U8 hF ?_;refine um ?_;refine Vn Rn 2 U8 hF ?_;refine um ?_;refine Jo Rn 3 rfl U8 hF ?_ fun _ hw=>⟨Rm (by
  intro K hK;refine Wb fun hc=>?_;go_simp;exact hK),by
  refine Wb fun hc=>?_
  co_evs (exact Gq _ _ _)⟩
 refine um ?_;refine Vn Rn 4 U8 hF ?_;refine um ?_;refine Vn Rn 5 U8 hF ?_;refine um ?_;refine Vn Rn 6 U8 hF ?_;refine um ?_;refine Jo Rn 7 rfl U8 hF ?_ fun _ hw=>⟨Rm (by
  intro K hK;refine xd fun hc=>?_;go_simp;exact hK),by
  refine xd fun hc=>?_
  co_evs (exact Gq _ _ _)⟩
 refine um ?_;refine Jo Rn 8 rfl U8 hF ?_ fun _ hw=>⟨Rm (by
  intro K hK;go_simp;exact hK),by
  co_still Rn⟩
 refine um ?_;refine Jo Rn 9 rfl U8 hF ?_ fun _ hw=>⟨Rm (by
  intro K hK;refine yk fun hc=>?_;go_simp;exact hK),by
  refine yk fun hc=>?_
  co_evs (exact Gq _ _ _)⟩
 refine um ?_;refine Vn Rn 10 U8 hF ?_;refine um ?_;refine Vn Rn 11 U8 hF ?_;refine za ?_;refine S9 ?_;refine Pn.loop Rn ?_;refine .stop rfl fun w2 hR=>?_;refine bV (wR:=w) (cW:=cW) iu YH hnW nQ _ _ _ _ _ _ _ _ _ _ _ _ cs nW 0 s f lr w2 _ _ _ _ _ _ _ _ _ E0 hm (hl.le E0) (hF.rely hR) ?_;clear hF hR;intro f' Oy w3 u6 rB uB vB xB lA mA nA pA hF X_;refine uc ?_;refine um ?_;refine S9 ?_;refine Ag ?_;refine Na ?_;refine N9 fun w1 K_ hK hF=>?_;have hc:World.cell? _ ⟨k.kb,3,Hn⟩=Gn (.pointer (Gn ⟨K.nb,0,Hn⟩)):=(jx.cell hF (a:=⟨k.kb,3,Hn⟩) hS.EW).trans h3;refine vm ?_ ?_
 ·exact ze
 clear hK K_;clear hc;refine um ?_;refine Pn.bB Rn rfl I0 hk rfl func32 I0 rfl #[.pointer (Gn ⟨K.nb,0,Hn⟩)] J0 (gY hF.Kg0 hF.dyn (fun i hi=>⟨Qm (X_ i hi).1 E0,hlw i hi⟩)) ?_ S8;rintro v w4 ⟨rfl,lr2,e1,e2,e3,e4⟩;replace hF:=hF.ended e1 e2 e3 e4;clear e1 e2 e3 e4;have hwr:IntKind.i64.wrap ((r:Int)+1)=((r+1:Nat):Int):=by rw[IntKind.wrap_i64];omega
 have hnz:nT≠0:=E0;refine um ?_;refine S9 ?_;refine Pn.vu (S:=(fun w1=>jx w f lr k K Wx wo nW wn {(Hv k K ins wn nW 0 s)with D:=MH K.k (Hv k K ins wn nW 0 s).D} f' lr2 w1)) (Die:=fun _ _=>False) Rn cJ 15 I0 hk J0 (fun _ _ _ h=>h) S8 fun w1 hR=>?_;replace hF:=(hF.rely hR).rely (id0 _);clear hR;refine Vn Rn 0 U8 hF ?_;refine um ?_;refine Vn Rn 1 U8 hF ?_;refine um ?_;refine Vn Rn 2 U8 hF ?_;refine um ?_;refine Vn Rn 3 U8 hF ?_;refine um ?_;refine Jo Rn 4 rfl U8 hF ?_ fun _ hw=>⟨Rm (by
  intro K hK;refine xd fun hc=>?_;go_simp;exact hK),by
  refine xd fun hc=>?_
  co_evs (exact Gq _ _ _)⟩
 refine um ?_;refine Vn Rn 5 U8 hF ?_;refine um ?_;refine Vn Rn 6 U8 hF ?_;refine um ?_;refine Vn Rn 7 U8 hF ?_;refine um ?_;refine Vn Rn 8 U8 hF ?_;refine um ?_;refine Jo Rn 9 rfl U8 hF ?_ fun _ hw=>⟨Rm (by
  intro K hK;refine Wb fun hc=>?_;go_simp;exact hK),by
  refine Wb fun hc=>?_
  co_evs (exact Gq _ _ _)⟩
 refine um ?_;refine Vn Rn 10 U8 hF ?_;refine um ?_;refine Jo Rn 11 rfl U8 hF ?_ fun _ hw=>⟨Rm (by
  intro K hK;go_simp;exact hK),by
  co_still Rn⟩
 refine um ?_;refine Vn Rn 12 U8 hF ?_;refine um ?_;refine Vn Rn 13 U8 hF ?_;refine um ?_;refine tu (i:=14) T0 rfl I0 ?_;intro w1 hR K_ hK;replace hF:=hF.rely hR;clear hR;have hc:World.cell? _ ⟨k.kb,1,Hn⟩=Gn (.int .i64 r):=(jx.cell hF (a:=⟨k.kb,1,Hn⟩) hS.EW).trans hr;have xp0:=(hF.frozen (a:=⟨k.kb,1,Hn⟩) hS.EW).trans hfz;refine qa ?_ ?_ ?_
 ·exact ze
 ·exact vd
 clear hK K_;have hG:=hF;replace hF:=Is.self (w1.setCell ⟨k.kb,1,Hn⟩ (.int .i64 (((r:Int)+1).tmod nT)));clear hc xp0;refine za ?_;refine lj ?_;refine Pn.ret Rn fun todo=>?_;refine .stop rfl fun w6 hR=>?_;obtain⟨d,rfl⟩:=hF.rely hR;exact hp _ _ _ _ rfl (fun d=>(resultsC_tmp (t:=4) I0 _ _).1) ⟨rfl,f',lr2,_,d,hG,rfl⟩
end
end Go.Proofs.YtdoghgnifkgfdaaGreat.Mute
