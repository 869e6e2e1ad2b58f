import Derived.Test.YtdoghgnifkgfdaaGreatA08
set_option maxRecDepth 100000
set_option maxHeartbeats 16000000
open Option renaming none->Hn,some->Gn
open Go renaming World->En,Value->Dn,Calls->Zm,block_lt_of_cell->Wm,Addr->Vm
open Bool renaming true->Um,false->Tm
open Go.RowKit renaming Below->Sm
open Nat renaming le_trans->Qm,zero_le->Pm,le_refl->Om,lt_of_lt_of_le->Lm
open List renaming range->Hm,getElem?_append_left->Em
namespace Go.Proofs.YtdoghgnifkgfdaaGreat
open Tryz Go.RowKit
theorem iI:(prog.info? 61).map (fun i=>(i.zero,i.size,i.bytes))=Gn (Gn (.slice Hn 0 0),1,24):=J0
theorem VF:(prog.info? 51).map (fun i=>(i.zero,i.size,i.bytes))=Gn (Gn (.slice Hn 0 0),1,24):=J0
def dw(k i:Nat)(tz:Nat->Int)(m q:Nat):List Value:=(Hm (m*k)).map fun j=>if j<q*k then pat k i j else .int .i64 (tz j)
theorem Rx(k i:Nat)(tz:Nat->Int)(m q j:Nat):(dw k i tz m q)[j]?=if j<m*k then Gn (if j<q*k then pat k i j else .int .i64 (tz j))else none:=by
 unfold dw;rw[List.getElem?_map];by_cases h:j<m*k
 ·rw[List.getElem?_range h,if_pos h];rfl
 ·rw[if_neg h,List.getElem?_eq_none X2];rfl
theorem SG(k i:Nat)(tz:Nat->Int)(m:Nat):dw k i tz m m=Oq k i m:=by
 apply List.ext_getElem?;intro j;rw[Rx,UA];by_cases h:j<m*k
 ·rw[if_pos h,if_pos h,if_pos h]
 ·exact Rl
theorem TG(k i:Nat)(tz:Nat->Int)(m:Nat):dw k i tz m 0=(Hm (m*k)).map fun j=>.int .i64 (tz j):=by
 unfold dw;simp
section
variable (i:Nat)(tz:Nat->Int)(m q:Nat)(hq:q<m)(mk:Int)(qU:mk=-1000-((i/4:Nat):Int))
include i tz m q hq mk qU
theorem VU:(((dw 3 i tz m q).set (q*3) (.int .i64 mk)).set (q*3+1) (.int .i64 0)).set (q*3+2) (.int .i64 0)=dw 3 i tz m (q+1):=by
 apply List.ext_getElem?;intro j;have hl:(dw 3 i tz m q).length=m*3:=by simp[dw]
 rw[List.getElem?_set,List.getElem?_set,List.getElem?_set,Rx,Rx];simp only[List.length_set,hl];by_cases h2:q*3+2=j
 ·subst h2;refine dh ?_;exact qk
 ·rw[if_neg h2];by_cases h1:q*3+1=j
  ·subst h1;refine dh ?_;exact qk
  ·rw[if_neg h1];by_cases h0:q*3=j
   ·subst h0;refine dh ?_;rw[if_pos E0,qU]
   ·rw[if_neg h0];by_cases h:j<m*3
    ·rw[if_pos h,if_pos h];by_cases h3:j<q*3
     ·rw[if_pos h3,if_pos E0]
     ·rw[if_neg h3,if_neg E0]
    ·exact Rl
theorem ZJ:(dw 1 i tz m q).set q (.int .i64 mk)=dw 1 i tz m (q+1):=by
 apply List.ext_getElem?;intro j;have hl:(dw 1 i tz m q).length=m*1:=by simp[dw]
 rw[List.getElem?_set,Rx,Rx];simp only[hl];by_cases h0:q=j
 ·subst h0;refine dh ?_;rw[if_pos E0,qU]
 ·rw[if_neg h0];by_cases h:j<m*1
  ·rw[if_pos h,if_pos h];by_cases h3:j<q*1
   ·rw[if_pos h3,if_pos E0]
   ·rw[if_neg h3,if_neg E0]
  ·exact Rl
end
theorem tJ(i:Nat)(mk:Int)(qU:mk=-1000-((i/4:Nat):Int)):Oq 3 i 1=[.int .i64 mk,.int .i64 0,.int .i64 0]/\Oq 3 i 2=[.int .i64 mk,.int .i64 0,.int .i64 0,.int .i64 mk,.int .i64 0,.int .i64 0]/\Oq 3 i 3=[.int .i64 mk,.int .i64 0,.int .i64 0,.int .i64 mk,.int .i64 0,.int .i64 0,.int .i64 mk,.int .i64 0,.int .i64 0]:=by
 subst qU;exact vl
theorem fA(i:Nat)(mk:Int)(qU:mk=-1000-((i/4:Nat):Int)):Oq 1 i 1=[.int .i64 mk]/\Oq 1 i 2=[.int .i64 mk,.int .i64 mk]/\Oq 1 i 3=[.int .i64 mk,.int .i64 mk,.int .i64 mk]:=by
 subst qU;exact vl
section
variable (B m nE base:Nat)(l ve:Dn)(tz:Nat->Int)(iw:List Dn)(fB:Nat->Dn)(w:En)(hB:Tn w B 5 79 fB)
include B m nE base l ve tz iw fB w hB
theorem jB(hf:fB 2=ve)(hE:w.ownsRow 0 61 1 ve nE iw)(hl:w.ownsRow base 111 3 l m ((Hm (m*3)).map fun j=>.int .i64 (tz j)))
  (Dx:B<base)(Vx:∀b,ve.ownBlock=Gn b->b<base/\b≠B)(dS:base<=w.heap.size)(bE:nE<=1000000000)(bm:m<=1000000000):
  Zm prog 46 #[.pointer (Gn ⟨B,2,Hn⟩),l] w fun e w'=>e=.returned (.tuple #[])/\∃oD us S,us.length=4/\w.heap.size<=S/\lx w base S B 2 79 61 3 nE fB ve us oD (nE+4) (iw++us) w':=by
 obtain⟨pl,cl,rfl,-,-,-⟩:=nB hl;obtain⟨pe,me,ce,rfl⟩:=sx hE;obtain rfl:me=nE:=by
  rcases hE.2 with⟨h1,h2⟩|⟨_,_,_,h1,_⟩
  ·exact zk
  ·exact Ci
 have hq:(-1000:Int)-(me:Int)/4=-1000-((me/4:Nat):Int):=E0;generalize qU:(-1000:Int)-((me/4:Nat):Int)=mk at *;have VL:Hid (mk=-1000-((me/4:Nat):Int)):=qU.symm;clear qU;have e0:w.cell? ⟨B,2,Hn⟩=Gn (.slice pe me ce):=by rw[hB.cell (j:=2) E0,hf]
 have Aw:Hid (Tn w B 5 79 fB):=hB;have pO:Hid (fB 2=.slice pe me ce):=hf;have HE:Hid (w.ownsRow 0 61 1 (.slice pe me ce) me iw):=hE;have HL:Hid (w.ownsRow base 111 3 (.slice pl m cl) m (dw 3 me tz m 0)):=by show w.ownsRow _ _ _ _ _ _;rw[TG];exact hl
 refine Yj fun Pz=>?_;clear hB hf hE hl Vx;have W0:Hid (∀o,Sm w.heap.size w (w.alloc o)):=fun o=>(Below.refl _ _).alloc N8 _
 go_enter func46,ntmps46
 go_wp2_with fail
 have HS0:Hid (Tn (w.alloc (.cells #[.int .i64 mk,.int .i64 0,.int .i64 0] 111)) w.heap.size 3 111 (cells3 (.int .i64 mk) (.int .i64 0) (.int .i64 0))):=row3 w _ _ _ _;have HL0:Hid (World.ownsRow (w.alloc (.cells #[.int .i64 mk,.int .i64 0,.int .i64 0] 111)) base 111 3 (.slice pl m cl) m (dw 3 me tz m 0)):=xo HL.out (W0.out _);have HG0:Hid (Jq (fun j=>base<=j) w (w.alloc (.cells #[.int .i64 mk,.int .i64 0,.int .i64 0] 111))):=Jq.of_below (W0.out _) _;have sA:w.heap.size<(w.alloc (.cells #[.int .i64 mk,.int .i64 0,.int .i64 0] 111)).heap.size:=P0;have HNE:Hid (∀b,(Value.slice pl m cl).ownBlock=Gn b->b<w.heap.size):=fun b hb=>(HL.out.lt b hb).2;generalize (w.alloc (.cells #[.int .i64 mk,.int .i64 0,.int .i64 0] 111))=w0 at *;clear e0;go_loopw [5] (fun i wr=>∃q:Nat,q<=m/\i=.int .i64 q/\w.heap.size<wr.heap.size/\Hid (wr.ownsRow base 111 3 (.slice pl m cl) m (dw 3 me tz m q))/\Hid (Jq (fun j=>base<=j) w wr)/\Hid (Tn wr w.heap.size 3 111 (cells3 (.int .i64 mk) (.int .i64 0) (.int .i64 0)))) (fun i _=>m-(intOf i).toNat)
 case atStart=>exact⟨0,Pm _,rfl,sA,HL0,HG0,HS0⟩
 case round=>
  obtain⟨q,tX,rfl,hsr,QI,HGr,HSr⟩:=hrel;obtain⟨s0,s1,s2⟩:=HSr.out.at3;by_cases yo:q<m
  ·obtain⟨g,cap,he,-,hgl⟩:=QI.out.form E0;simp only[Value.slice.injEq]at he;obtain⟨rfl,-,rfl⟩:=he;have hgw:=HNE.out g rfl;have gx0:g≠w.heap.size:=by omega
   have c0:=yt QI.out (j:=q*3) (u:=.int .i64 (tz (q*3))) E8;have c1:=yt QI.out (j:=q*3+1) (u:=.int .i64 (tz (q*3+1))) E8;have c2:=yt QI.out (j:=q*3+2) (u:=.int .i64 (tz (q*3+2))) E8;have f0:=mB QI.out (q*3);have f1:=mB QI.out (q*3+1);have f2:=mB QI.out (q*3+2);have lG:(q:Int)<(m:Int):=E0;have oU:base<=g:=(QI.out.lt g rfl).1;have HST:Hid ((((dw 3 me tz m q).set (q*3) (.int .i64 mk)).set (q*3+1) (.int .i64 0)).set (q*3+2) (.int .i64 0)=dw 3 me tz m (q+1)):=VU me tz m q yo mk VL.out;go_wp2_with fail;refine⟨⟨q+1,E0,E1,by simpa using hsr,?_,?_,?_⟩,U1⟩
   ·show World.ownsRow _ _ _ _ _ _ _;rw[<-HST.out];exact dD (dD (dD QI.out _ _) _ _) _ _
   ·exact((HGr.out.setB oU _ _).setB oU _ _).setB oU _ _
   ·exact((HSr.out.other _ _ A1).other _ _ A1).other _ _ A1
  ·obtain rfl:q=m:=by omega
   have y_:Hid (wr.ownsRow base 111 3 (.slice pl q cl) q (Oq 3 me q)):=by show World.ownsRow _ _ _ _ _ _ _;rw[<-SG 3 me tz q];exact QI.out
   have K0:Hid (vA w base 111 3 me q (.slice pl q cl) [.slice pl q cl] wr):=⟨HGr.out,y_.out,fun u hu=>H8,fun u hu b hb=>y7⟩;clear QI HGr y_ yo tX;have we0:Hid (Tn wr w.heap.size 3 111 (cells3 (.int .i64 mk) (.int .i64 0) (.int .i64 0))):=HSr.out;clear HSr;have OW1:Hid (∀o,(wr.alloc o).ownsRow base 111 3 (.slice pl q cl) q (Oq 3 me q)):=fun o=>xo K0.out.own P8;have lP:base<=wr.heap.size:=Qm dS K0.out.but.size;go_wp2_with (at_builtin;refine kr _ rfl _ _ 61 rfl base 111 _ 3 24 underlying61 Gu rfl E0 (.slice pl q cl) q (Oq 3 me q) rfl (by exact OW1.out _) wr.heap.size 1 [.int .i64 mk,.int .i64 0,.int .i64 0] 111 rfl rfl G2 D2 E0 Y1 E0 A1 ?_);intro g1 gp w1 Io Zp jr yo DC hK;rw[<-(tJ me mk VL.out).1]at Io;have K1:Hid (vA w base 111 3 me q (.slice pl q cl) ([(.slice pl q cl)]++[(.slice (Gn ⟨g1,0,Hn⟩) (q+1:Nat) gp)]) w1):=vA.app K0.out P8 Io Zp DC (fun b j x h=>(hK b j x h).imp (fun ⟨h1,h2,h3⟩=>⟨E0,N4,by rw[(tJ me mk VL.out).1];simpa using h3⟩) id) E0;have Va0:Hid (Tn w1 w.heap.size 3 111 (cells3 (.int .i64 mk) (.int .i64 0) (.int .i64 0))):=(we0.out.alloc _).of_heap (Zp.block w.heap.size (by have:=we0.out.lt;simp;omega) (fun e=>A7));clear s0 s1 s2;obtain⟨s0,s1,s2⟩:=Va0.out.at3;clear we0;clear Io Zp jr yo DC hK K0 OW1;have OW2:Hid (∀o,(w1.alloc o).ownsRow base 111 3 (.slice pl q cl) q (Oq 3 me q)):=fun o=>xo K1.out.own P8;have zu:base<=w1.heap.size:=Qm dS K1.out.but.size;go_wp2_with (at_builtin;refine kr _ rfl _ _ 61 rfl base 111 _ 3 24 underlying61 Gu rfl E0 (.slice pl q cl) q (Oq 3 me q) rfl (by exact OW2.out _) w1.heap.size 2 [.int .i64 mk,.int .i64 0,.int .i64 0,.int .i64 mk,.int .i64 0,.int .i64 0] 111 rfl rfl G2 D2 E0 Y1 E0 A1 ?_);intro g2 dq w2 Io Zp jr yo DC hK;rw[<-(tJ me mk VL.out).2.1]at Io;have K2:Hid (vA w base 111 3 me q (.slice pl q cl) ([(.slice pl q cl),(.slice (Gn ⟨g1,0,Hn⟩) (q+1:Nat) gp)]++[(.slice (Gn ⟨g2,0,Hn⟩) (q+2:Nat) dq)]) w2):=vA.app K1.out P8 Io Zp DC (fun b j x h=>(hK b j x h).imp (fun ⟨h1,h2,h3⟩=>⟨E0,N4,by rw[(tJ me mk VL.out).2.1];simpa using h3⟩) id) E0;have Wa0:Hid (Tn w2 w.heap.size 3 111 (cells3 (.int .i64 mk) (.int .i64 0) (.int .i64 0))):=(Va0.out.alloc _).of_heap (Zp.block w.heap.size (by have:=Va0.out.lt;simp;omega) (fun e=>A7));clear s0 s1 s2;obtain⟨s0,s1,s2⟩:=Wa0.out.at3;clear Va0;clear Io Zp jr yo DC hK K1 OW2;have OW3:Hid (∀o,(w2.alloc o).ownsRow base 111 3 (.slice pl q cl) q (Oq 3 me q)):=fun o=>xo K2.out.own P8;have JL:base<=w2.heap.size:=Qm dS K2.out.but.size;go_wp2_with (at_builtin;refine kr _ rfl _ _ 61 rfl base 111 _ 3 24 underlying61 Gu rfl E0 (.slice pl q cl) q (Oq 3 me q) rfl (by exact OW3.out _) w2.heap.size 3 [.int .i64 mk,.int .i64 0,.int .i64 0,.int .i64 mk,.int .i64 0,.int .i64 0,.int .i64 mk,.int .i64 0,.int .i64 0] 111 rfl rfl G2 D2 E0 Y1 E0 A1 ?_);intro g3 Lq w3 Io Zp jr yo DC hK;rw[<-(tJ me mk VL.out).2.2]at Io;have K3:Hid (vA w base 111 3 me q (.slice pl q cl) ([(.slice pl q cl),(.slice (Gn ⟨g1,0,Hn⟩) (q+1:Nat) gp),(.slice (Gn ⟨g2,0,Hn⟩) (q+2:Nat) dq)]++[(.slice (Gn ⟨g3,0,Hn⟩) (q+3:Nat) Lq)]) w3):=vA.app K2.out P8 Io Zp DC (fun b j x h=>(hK b j x h).imp (fun ⟨h1,h2,h3⟩=>⟨E0,N4,by rw[(tJ me mk VL.out).2.2];simpa using h3⟩) id) E0;have oi0:Hid (Tn w3 w.heap.size 3 111 (cells3 (.int .i64 mk) (.int .i64 0) (.int .i64 0))):=(Wa0.out.alloc _).of_heap (Zp.block w.heap.size (by have:=Wa0.out.lt;simp;omega) (fun e=>A7));clear s0 s1 s2;obtain⟨s0,s1,s2⟩:=oi0.out.at3;clear Wa0;clear Io Zp jr yo DC hK K2 OW3;refine Ri fun zL=>?_;have H0:Hid (lx w base w3.heap.size B 2 79 61 3 me fB (.slice pe me ce) [(.slice pl q cl),(.slice (Gn ⟨g1,0,Hn⟩) (q+1:Nat) gp),(.slice (Gn ⟨g2,0,Hn⟩) (q+2:Nat) dq),(.slice (Gn ⟨g3,0,Hn⟩) (q+3:Nat) Lq)] (.slice pe me ce) me iw w3):=⟨K3.out.but.mono (fun _ x=>.inr (.inr x)),Om _,K3.out.full,K3.out.ub,zL.out.congr (fun j _=>by
    by_cases e:j=2
    ·rw[if_pos e,e];exact pO.out
    ·rw[if_neg e]),iC HE.out (fun b hb=>K3.out.but.block b (HE.out.lt b hb).2 D7),fun _ x=>.inl x⟩
   have hS:w.heap.size<=w3.heap.size:=K3.out.but.size;have q0:w3.cell? ⟨B,2,Hn⟩=Gn (.slice pe me ce):=by
    have:=zL.out.cell (j:=2) E0;rw[pO.out]at this;exact Vh
   refine Uc fun Qz=>?_;clear K3 zL s0 s1 s2 oi0;have OH0:Hid (∀o,(World.alloc (w3) o).ownsRow 0 61 1 (.slice pe me ce) (me) (iw)):=fun o=>xo H0.out.own P8;go_wp2_with (at_builtin;refine Eo _ rfl _ _ 73 rfl 0 61 _ 1 24 underlying73 iI rfl E0 (.slice pe me ce) (me) (iw) rfl (by exact OH0.out _) w3.heap.size [(.slice pl q cl)] 61 rfl rfl G2 D2 Y1 E0 E0 ?_);intro h0 d0 v0 Io Zp jr yo;refine vf fun HP H1=>?_;clear q0;have q0:v0.cell? ⟨B,2,Hn⟩=Gn (.slice pe me ce):=(HP.out.2.cell (j:=2) E0).trans U3;have zQ:v0.frozen? ⟨B,2,Hn⟩=false:=HP.out.2.frozen 2;clear Io Zp jr yo HP OH0 H0;have OH1:Hid (∀o,(World.alloc (v0.setCell ⟨B,2,Hn⟩ (.slice (Gn ⟨h0,0,Hn⟩) (me+1:Nat) d0)) o).ownsRow 0 61 1 (.slice (Gn ⟨h0,0,Hn⟩) (me+1:Nat) d0) (me+1) (iw++[(.slice pl q cl)])):=fun o=>xo H1.out.own P8;go_wp2_with (at_builtin;refine Eo _ rfl _ _ 73 rfl 0 61 _ 1 24 underlying73 iI rfl E0 (.slice (Gn ⟨h0,0,Hn⟩) (me+1:Nat) d0) (me+1) (iw++[(.slice pl q cl)]) rfl (by exact OH1.out _) v0.heap.size [(.slice (Gn ⟨g1,0,Hn⟩) (q+1:Nat) gp)] 61 rfl rfl J3 D2 Y1 E0 E0 ?_);intro h1 d1 v1 Io Zp jr yo;refine yf fun HP H2=>?_;clear q0;have q0:v1.cell? ⟨B,2,Hn⟩=Gn (.slice (Gn ⟨h0,0,Hn⟩) (me+1:Nat) d0):=(HP.out.2.cell (j:=2) E0).trans U3;have zQ:v1.frozen? ⟨B,2,Hn⟩=false:=HP.out.2.frozen 2;clear Io Zp jr yo HP OH1 H1;have OH2:Hid (∀o,(World.alloc (v1.setCell ⟨B,2,Hn⟩ (.slice (Gn ⟨h1,0,Hn⟩) (me+1+1:Nat) d1)) o).ownsRow 0 61 1 (.slice (Gn ⟨h1,0,Hn⟩) (me+1+1:Nat) d1) (me+1+1) (iw++[(.slice pl q cl)]++[(.slice (Gn ⟨g1,0,Hn⟩) (q+1:Nat) gp)])):=fun o=>xo H2.out.own P8;go_wp2_with (at_builtin;refine Eo _ rfl _ _ 73 rfl 0 61 _ 1 24 underlying73 iI rfl E0 (.slice (Gn ⟨h1,0,Hn⟩) (me+1+1:Nat) d1) (me+1+1) (iw++[(.slice pl q cl)]++[(.slice (Gn ⟨g1,0,Hn⟩) (q+1:Nat) gp)]) rfl (by exact OH2.out _) v1.heap.size [(.slice (Gn ⟨g2,0,Hn⟩) (q+2:Nat) dq)] 61 rfl rfl J3 D2 Y1 E0 E0 ?_);intro h2 d2 v2 Io Zp jr yo;refine zf fun HP H3=>?_;clear q0;have q0:v2.cell? ⟨B,2,Hn⟩=Gn (.slice (Gn ⟨h1,0,Hn⟩) (me+1+1:Nat) d1):=(HP.out.2.cell (j:=2) E0).trans U3;have zQ:v2.frozen? ⟨B,2,Hn⟩=false:=HP.out.2.frozen 2;clear Io Zp jr yo HP OH2 H2;have OH3:Hid (∀o,(World.alloc (v2.setCell ⟨B,2,Hn⟩ (.slice (Gn ⟨h2,0,Hn⟩) (me+1+1+1:Nat) d2)) o).ownsRow 0 61 1 (.slice (Gn ⟨h2,0,Hn⟩) (me+1+1+1:Nat) d2) (me+1+1+1) (iw++[(.slice pl q cl)]++[(.slice (Gn ⟨g1,0,Hn⟩) (q+1:Nat) gp)]++[(.slice (Gn ⟨g2,0,Hn⟩) (q+2:Nat) dq)])):=fun o=>xo H3.out.own P8;go_wp2_with (at_builtin;refine Eo _ rfl _ _ 73 rfl 0 61 _ 1 24 underlying73 iI rfl E0 (.slice (Gn ⟨h2,0,Hn⟩) (me+1+1+1:Nat) d2) (me+1+1+1) (iw++[(.slice pl q cl)]++[(.slice (Gn ⟨g1,0,Hn⟩) (q+1:Nat) gp)]++[(.slice (Gn ⟨g2,0,Hn⟩) (q+2:Nat) dq)]) rfl (by exact OH3.out _) v2.heap.size [(.slice (Gn ⟨g3,0,Hn⟩) (q+3:Nat) Lq)] 61 rfl rfl J3 D2 Y1 E0 E0 ?_);intro h3 d3 v3 Io Zp jr yo;refine Af fun HP H4=>?_;clear q0;have q0:v3.cell? ⟨B,2,Hn⟩=Gn (.slice (Gn ⟨h2,0,Hn⟩) (me+1+1+1:Nat) d2):=(HP.out.2.cell (j:=2) E0).trans U3;have zQ:v3.frozen? ⟨B,2,Hn⟩=false:=HP.out.2.frozen 2;exact Da
theorem zG(hf:fB 3=ve)(hE:w.ownsRow 0 51 1 ve nE iw)(hl:w.ownsRow base 2 1 l m ((Hm (m*1)).map fun j=>.int .i64 (tz j)))
  (Dx:B<base)(Vx:∀b,ve.ownBlock=Gn b->b<base/\b≠B)(dS:base<=w.heap.size)(bE:nE<=1000000000)(bm:m<=1000000000):
  Zm prog 47 #[.pointer (Gn ⟨B,2,Hn⟩),l] w fun e w'=>e=.returned (.tuple #[])/\∃oD us S,us.length=4/\w.heap.size<=S/\lx w base S B 3 79 51 1 nE fB ve us oD (nE+4) (iw++us) w':=by
 obtain⟨pl,cl,rfl,-,-,-⟩:=nB hl;obtain⟨pe,me,ce,rfl⟩:=sx hE;obtain rfl:me=nE:=by
  rcases hE.2 with⟨h1,h2⟩|⟨_,_,_,h1,_⟩
  ·exact zk
  ·exact Ci
 have hq:(-1000:Int)-(me:Int)/4=-1000-((me/4:Nat):Int):=E0;generalize qU:(-1000:Int)-((me/4:Nat):Int)=mk at *;have VL:Hid (mk=-1000-((me/4:Nat):Int)):=qU.symm;clear qU;have e0:w.cell? ⟨B,2+1,Hn⟩=Gn (.slice pe me ce):=by rw[hB.cell (j:=3) E0,hf]
 have Aw:Hid (Tn w B 5 79 fB):=hB;have pO:Hid (fB 3=.slice pe me ce):=hf;have HE:Hid (w.ownsRow 0 51 1 (.slice pe me ce) me iw):=hE;have HL:Hid (w.ownsRow base 2 1 (.slice pl m cl) m (dw 1 me tz m 0)):=by show w.ownsRow _ _ _ _ _ _;rw[TG];exact hl
 refine Yj fun Pz=>?_;clear hB hf hE hl Vx
 go_enter func47,ntmps47
 go_wp2_with fail
 clear e0;go_loopw [5] (fun i wr=>∃q:Nat,q<=m/\i=.int .i64 q/\w.heap.size<=wr.heap.size/\Hid (wr.ownsRow base 2 1 (.slice pl m cl) m (dw 1 me tz m q))/\Hid (Jq (fun j=>base<=j) w wr)) (fun i _=>m-(intOf i).toNat)
 case atStart=>exact⟨0,Pm _,rfl,Om _,HL,Jq.refl _ _⟩
 case round=>
  obtain⟨q,tX,rfl,hsr,QI,HGr⟩:=hrel;by_cases yo:q<m
  ·obtain⟨g,cap,he,-,hgl⟩:=QI.out.form E0;simp only[Value.slice.injEq]at he;obtain⟨rfl,-,rfl⟩:=he;have c0:=yt QI.out (j:=q) (u:=.int .i64 (tz q)) E8;have f0:=mB QI.out q;have lG:(q:Int)<(m:Int):=by omega
   refine Tj fun oU HST=>?_;go_wp2_with fail;refine⟨⟨q+1,E0,E1,by simpa using hsr,?_,?_⟩,U1⟩
   ·exact nk
   ·exact HGr.out.setB oU _ _
  ·obtain rfl:q=m:=by omega
   have y_:Hid (wr.ownsRow base 2 1 (.slice pl q cl) q (Oq 1 me q)):=by show World.ownsRow _ _ _ _ _ _ _;rw[<-SG 1 me tz q];exact QI.out
   have K0:Hid (vA w base 2 1 me q (.slice pl q cl) [.slice pl q cl] wr):=⟨HGr.out,y_.out,fun u hu=>H8,fun u hu b hb=>y7⟩;clear QI HGr y_ yo tX;have OW1:Hid (∀o,(wr.alloc o).ownsRow base 2 1 (.slice pl q cl) q (Oq 1 me q)):=fun o=>xo K0.out.own P8;have lP:base<=wr.heap.size:=Qm dS K0.out.but.size;go_wp2_with (at_builtin;refine kr _ rfl _ _ 51 rfl base 2 _ 1 8 underlying51 Zt rfl E0 (.slice pl q cl) q (Oq 1 me q) rfl (by exact OW1.out _) wr.heap.size 1 [.int .i64 mk] 2 rfl rfl G2 D2 E0 Y1 E0 A1 ?_);intro g1 gp w1 Io Zp jr yo DC hK;rw[<-(fA me mk VL.out).1]at Io;have K1:Hid (vA w base 2 1 me q (.slice pl q cl) ([(.slice pl q cl)]++[(.slice (Gn ⟨g1,0,Hn⟩) (q+1:Nat) gp)]) w1):=vA.app K0.out P8 Io Zp DC (fun b j x h=>(hK b j x h).imp (fun ⟨h1,h2,h3⟩=>⟨E0,N4,by rw[(fA me mk VL.out).1];simpa using h3⟩) id) E0;clear Io Zp jr yo DC hK K0 OW1;have OW2:Hid (∀o,(w1.alloc o).ownsRow base 2 1 (.slice pl q cl) q (Oq 1 me q)):=fun o=>xo K1.out.own P8;have zu:base<=w1.heap.size:=Qm dS K1.out.but.size;go_wp2_with (at_builtin;refine kr _ rfl _ _ 51 rfl base 2 _ 1 8 underlying51 Zt rfl E0 (.slice pl q cl) q (Oq 1 me q) rfl (by exact OW2.out _) w1.heap.size 2 [.int .i64 mk,.int .i64 mk] 2 rfl rfl G2 D2 E0 Y1 E0 A1 ?_);intro g2 dq w2 Io Zp jr yo DC hK;rw[<-(fA me mk VL.out).2.1]at Io;have K2:Hid (vA w base 2 1 me q (.slice pl q cl) ([(.slice pl q cl),(.slice (Gn ⟨g1,0,Hn⟩) (q+1:Nat) gp)]++[(.slice (Gn ⟨g2,0,Hn⟩) (q+2:Nat) dq)]) w2):=vA.app K1.out P8 Io Zp DC (fun b j x h=>(hK b j x h).imp (fun ⟨h1,h2,h3⟩=>⟨E0,N4,by rw[(fA me mk VL.out).2.1];simpa using h3⟩) id) E0;clear Io Zp jr yo DC hK K1 OW2;have OW3:Hid (∀o,(w2.alloc o).ownsRow base 2 1 (.slice pl q cl) q (Oq 1 me q)):=fun o=>xo K2.out.own P8;have JL:base<=w2.heap.size:=Qm dS K2.out.but.size;go_wp2_with (at_builtin;refine kr _ rfl _ _ 51 rfl base 2 _ 1 8 underlying51 Zt rfl E0 (.slice pl q cl) q (Oq 1 me q) rfl (by exact OW3.out _) w2.heap.size 3 [.int .i64 mk,.int .i64 mk,.int .i64 mk] 2 rfl rfl G2 D2 E0 Y1 E0 A1 ?_);intro g3 Lq w3 Io Zp jr yo DC hK;rw[<-(fA me mk VL.out).2.2]at Io;have K3:Hid (vA w base 2 1 me q (.slice pl q cl) ([(.slice pl q cl),(.slice (Gn ⟨g1,0,Hn⟩) (q+1:Nat) gp),(.slice (Gn ⟨g2,0,Hn⟩) (q+2:Nat) dq)]++[(.slice (Gn ⟨g3,0,Hn⟩) (q+3:Nat) Lq)]) w3):=vA.app K2.out P8 Io Zp DC (fun b j x h=>(hK b j x h).imp (fun ⟨h1,h2,h3⟩=>⟨E0,N4,by rw[(fA me mk VL.out).2.2];simpa using h3⟩) id) E0;clear Io Zp jr yo DC hK K2 OW3;refine Ri fun zL=>?_;have H0:Hid (lx w base w3.heap.size B 3 79 51 1 me fB (.slice pe me ce) [(.slice pl q cl),(.slice (Gn ⟨g1,0,Hn⟩) (q+1:Nat) gp),(.slice (Gn ⟨g2,0,Hn⟩) (q+2:Nat) dq),(.slice (Gn ⟨g3,0,Hn⟩) (q+3:Nat) Lq)] (.slice pe me ce) me iw w3):=⟨K3.out.but.mono (fun _ x=>.inr (.inr x)),Om _,K3.out.full,K3.out.ub,zL.out.congr (fun j _=>by
    by_cases e:j=3
    ·rw[if_pos e,e];exact pO.out
    ·rw[if_neg e]),iC HE.out (fun b hb=>K3.out.but.block b (HE.out.lt b hb).2 D7),fun _ x=>.inl x⟩
   have hS:w.heap.size<=w3.heap.size:=K3.out.but.size;have q0:w3.cell? ⟨B,2+1,Hn⟩=Gn (.slice pe me ce):=by
    have:=zL.out.cell (j:=3) E0;rw[pO.out]at this;exact Vh
   refine Uc fun Qz=>?_;clear K3 zL;have OH0:Hid (∀o,(World.alloc (w3) o).ownsRow 0 51 1 (.slice pe me ce) (me) (iw)):=fun o=>xo H0.out.own P8;go_wp2_with (at_builtin;refine Eo _ rfl _ _ 74 rfl 0 51 _ 1 24 underlying74 VF rfl E0 (.slice pe me ce) (me) (iw) rfl (by exact OH0.out _) w3.heap.size [(.slice pl q cl)] 51 rfl rfl G2 D2 Y1 E0 E0 ?_);intro h0 d0 v0 Io Zp jr yo;refine vf fun HP H1=>?_;clear q0;have q0:v0.cell? ⟨B,2+1,Hn⟩=Gn (.slice pe me ce):=(HP.out.2.cell (j:=3) E0).trans U3;have zQ:v0.frozen? ⟨B,2+1,Hn⟩=false:=HP.out.2.frozen 3;clear Io Zp jr yo HP OH0 H0;have OH1:Hid (∀o,(World.alloc (v0.setCell ⟨B,3,Hn⟩ (.slice (Gn ⟨h0,0,Hn⟩) (me+1:Nat) d0)) o).ownsRow 0 51 1 (.slice (Gn ⟨h0,0,Hn⟩) (me+1:Nat) d0) (me+1) (iw++[(.slice pl q cl)])):=fun o=>xo H1.out.own P8;go_wp2_with (at_builtin;refine Eo _ rfl _ _ 74 rfl 0 51 _ 1 24 underlying74 VF rfl E0 (.slice (Gn ⟨h0,0,Hn⟩) (me+1:Nat) d0) (me+1) (iw++[(.slice pl q cl)]) rfl (by exact OH1.out _) v0.heap.size [(.slice (Gn ⟨g1,0,Hn⟩) (q+1:Nat) gp)] 51 rfl rfl J3 D2 Y1 E0 E0 ?_);intro h1 d1 v1 Io Zp jr yo;refine yf fun HP H2=>?_;clear q0;have q0:v1.cell? ⟨B,2+1,Hn⟩=Gn (.slice (Gn ⟨h0,0,Hn⟩) (me+1:Nat) d0):=(HP.out.2.cell (j:=3) E0).trans U3;have zQ:v1.frozen? ⟨B,2+1,Hn⟩=false:=HP.out.2.frozen 3;clear Io Zp jr yo HP OH1 H1;have OH2:Hid (∀o,(World.alloc (v1.setCell ⟨B,3,Hn⟩ (.slice (Gn ⟨h1,0,Hn⟩) (me+1+1:Nat) d1)) o).ownsRow 0 51 1 (.slice (Gn ⟨h1,0,Hn⟩) (me+1+1:Nat) d1) (me+1+1) (iw++[(.slice pl q cl)]++[(.slice (Gn ⟨g1,0,Hn⟩) (q+1:Nat) gp)])):=fun o=>xo H2.out.own P8;go_wp2_with (at_builtin;refine Eo _ rfl _ _ 74 rfl 0 51 _ 1 24 underlying74 VF rfl E0 (.slice (Gn ⟨h1,0,Hn⟩) (me+1+1:Nat) d1) (me+1+1) (iw++[(.slice pl q cl)]++[(.slice (Gn ⟨g1,0,Hn⟩) (q+1:Nat) gp)]) rfl (by exact OH2.out _) v1.heap.size [(.slice (Gn ⟨g2,0,Hn⟩) (q+2:Nat) dq)] 51 rfl rfl J3 D2 Y1 E0 E0 ?_);intro h2 d2 v2 Io Zp jr yo;refine zf fun HP H3=>?_;clear q0;have q0:v2.cell? ⟨B,2+1,Hn⟩=Gn (.slice (Gn ⟨h1,0,Hn⟩) (me+1+1:Nat) d1):=(HP.out.2.cell (j:=3) E0).trans U3;have zQ:v2.frozen? ⟨B,2+1,Hn⟩=false:=HP.out.2.frozen 3;clear Io Zp jr yo HP OH2 H2;have OH3:Hid (∀o,(World.alloc (v2.setCell ⟨B,3,Hn⟩ (.slice (Gn ⟨h2,0,Hn⟩) (me+1+1+1:Nat) d2)) o).ownsRow 0 51 1 (.slice (Gn ⟨h2,0,Hn⟩) (me+1+1+1:Nat) d2) (me+1+1+1) (iw++[(.slice pl q cl)]++[(.slice (Gn ⟨g1,0,Hn⟩) (q+1:Nat) gp)]++[(.slice (Gn ⟨g2,0,Hn⟩) (q+2:Nat) dq)])):=fun o=>xo H3.out.own P8;go_wp2_with (at_builtin;refine Eo _ rfl _ _ 74 rfl 0 51 _ 1 24 underlying74 VF rfl E0 (.slice (Gn ⟨h2,0,Hn⟩) (me+1+1+1:Nat) d2) (me+1+1+1) (iw++[(.slice pl q cl)]++[(.slice (Gn ⟨g1,0,Hn⟩) (q+1:Nat) gp)]++[(.slice (Gn ⟨g2,0,Hn⟩) (q+2:Nat) dq)]) rfl (by exact OH3.out _) v2.heap.size [(.slice (Gn ⟨g3,0,Hn⟩) (q+3:Nat) Lq)] 51 rfl rfl J3 D2 Y1 E0 E0 ?_);intro h3 d3 v3 Io Zp jr yo;refine Af fun HP H4=>?_;clear q0;have q0:v3.cell? ⟨B,2+1,Hn⟩=Gn (.slice (Gn ⟨h2,0,Hn⟩) (me+1+1+1:Nat) d2):=(HP.out.2.cell (j:=3) E0).trans U3;have zQ:v3.frozen? ⟨B,2+1,Hn⟩=false:=HP.out.2.frozen 3;exact Da
end
theorem lx.back{w0 w1 w:En}{base S B c tB t k i:Nat}{fB:Nat->Dn}{ve:Dn}{us:List Dn}{v:Dn}{n:Nat}{xs:List Dn}(h:lx w1 base S B c tB t k i fB ve us v n xs w)(hb:Sm w0.heap.size w0 w1):lx w0 base S B c tB t k i fB ve us v n xs w:=
 ⟨⟨h.but.os.trans hb.os,h.but.tape.trans hb.tape,h.but.output.trans hb.output,Qm hb.size h.but.size,fun b hl hn=>(h.but.block b (Lm hl hb.size) hn).trans (hb.block b hl)⟩,h.sz,h.full,h.ub,h.row,h.own,h.blk⟩
def cells8(a b c d e f g h:Dn)(j:Nat):Value:=if j=0 then a else if j=1 then b else if j=2 then c else if j=3 then d else if j=4 then e else if j=5 then f else if j=6 then g else h
theorem row8(w:En)(a b c d e f g h:Dn)(t:Nat):Tn (w.alloc (.cells #[a,b,c,d,e,f,g,h] t)) w.heap.size 8 t (cells8 a b c d e f g h):=
 Tn.new w _ t _ (fun j hj=>by
  have kz:j<8:=hj;have:j=0\/j=1\/j=2\/j=3\/j=4\/j=5\/j=6\/j=7:=E0;rcases this with rfl|rfl|rfl|rfl|rfl|rfl|rfl|rfl<;>rfl)
section
variable (bw K Kb Gc nC cC cG nE:Nat)(q:Option Vm)(a n:Int)(p0 p1 p2 p3 p4:Option Vm)(l0 l1 l2 l3 l4 c0 c1 c2 c3 c4:Nat)(ve:Dn)(iw:List Dn)(fB:Nat->Dn)(w:En)
include bw K Kb Gc nC cC cG nE q a n p0 p1 p2 p3 p4 l0 l1 l2 l3 l4 c0 c1 c2 c3 c4 ve iw fB w
theorem zO
  (hB:Tn w bw 5 79 fB)(hf:fB 2=ve)(hE:w.ownsRow 0 61 1 ve nE iw)(eI:ve.ownBlock≠Gn bw)(bE:nE<=1000000000)
  (h2:w.cell? ⟨K,2,Hn⟩=Gn (.slice q nC cC))(h4:w.cell? ⟨Kb,4,Hn⟩=Gn (.slice (Gn ⟨Gc,0,Hn⟩) nC cG))(hn:¬(0<=n/\n<nC)):
  Zm prog 22 #[.pointer (Gn ⟨bw,0,Hn⟩),.pointer (Gn ⟨K,0,Hn⟩),.pointer (Gn ⟨Kb,0,Hn⟩),.agg #[.int .i64 3,.int .i64 a,.int .i64 n,.slice p0 l0 c0,.slice p1 l1 c1,.slice p2 l2 c2,.slice p3 l3 c3,.slice p4 l4 c4]] w fun e w'=>e=.returned (.bool Um)/\∃oD us S base,us.length=4/\w.heap.size<=base/\base<=S/\lx w base S bw 2 79 61 3 nE fB ve us oD (nE+4) (iw++us) w':=by
 refine Nl fun Aw pO HE kX=>?_;clear hB hf hE eI;refine Ol fun HA lK pJ nK nKb=>?_;have HN:=Qp hn;clear hn;obtain⟨h0,hge⟩|h0:((0<=n)=True/\(n<(nC:Int))=False)\/(0<=n)=False:=by
  have:=HN.out;by_cases h:0<=n
  ·exact .inl ⟨X2,K6⟩
  ·exact .inr X2
 all_goals
  go_enter func22,ntmps22
  go_wp2_with fail
  go_quiet (fail)
  have Ox:Hid (Sm w.heap.size w ((w.alloc (.cells #[.int .i64 3,.int .i64 a,.int .i64 n,.slice p0 l0 c0,.slice p1 l1 c1,.slice p2 l2 c2,.slice p3 l3 c3,.slice p4 l4 c4] 31)).drewN nq)):=below_drewN (HA.out _) _;have rE:Hid (Tn ((w.alloc (.cells #[.int .i64 3,.int .i64 a,.int .i64 n,.slice p0 l0 c0,.slice p1 l1 c1,.slice p2 l2 c2,.slice p3 l3 c3,.slice p4 l4 c4] 31)).drewN nq) w.heap.size 8 31 (cells8 (.int .i64 3) (.int .i64 a) (.int .i64 n) (.slice p0 l0 c0) (.slice p1 l1 c1) (.slice p2 l2 c2) (.slice p3 l3 c3) (.slice p4 l4 c4))):=row8 w _ _ _ _ _ _ _ _ _;have sA:w.heap.size<((w.alloc (.cells #[.int .i64 3,.int .i64 a,.int .i64 n,.slice p0 l0 c0,.slice p1 l1 c1,.slice p2 l2 c2,.slice p3 l3 c3,.slice p4 l4 c4] 31)).drewN nq).heap.size:=rE.out.lt;refine sd fun x0 x2=>?_;simp only[cells8,reduceIte,Nat.reduceEqDiff]at x0 x2;refine Aa fun d2 d4=>?_;generalize ((w.alloc (.cells #[.int .i64 3,.int .i64 a,.int .i64 n,.slice p0 l0 c0,.slice p1 l1 c1,.slice p2 l2 c2,.slice p3 l3 c3,.slice p4 l4 c4] 31)).drewN nq)=w0 at *;go_wp2_with fail;refine(ga0 K nC cC q n _ d2 HN.out).mono ?_;rintro e w1 ⟨rfl,dE⟩;replace dE:=dE.symm;subst dE;go_wp2_with fail;refine(OB 7 _).mono ?_;rintro e w1 ⟨rfl,dE⟩;replace dE:=dE.symm;subst dE;go_wp2_with fail;refine(jB bw 0 nE w.heap.size (.slice Hn 0 0) ve (fun _=>0) iw fB _ (Aw.out.below Ox.out Aw.out.lt) pO.out (xo HE.out Ox.out) (World.ownsRow_nil _ _ _ _) Aw.out.lt kX.out Ox.out.size bE E0).mono ?_;rintro e w2 ⟨rfl,oD,us,S,r1,r2,r3⟩;have R1:Hid (us.length=4):=r1;have R2:Hid (w0.heap.size<=S):=r2;have R3:Hid _:=r3;clear r1 r2 r3;go_wp2_with fail;go_ret;exact⟨rfl,oD,us,S,w.heap.size,R1.out,Om _,Qm Ox.out.size R2.out,R3.out.back Ox.out⟩
theorem fM
  (hB:Tn w bw 5 79 fB)(hf:fB 3=ve)(hE:w.ownsRow 0 51 1 ve nE iw)(eI:ve.ownBlock≠Gn bw)(bE:nE<=1000000000)
  (h2:w.cell? ⟨K,2,Hn⟩=Gn (.slice q nC cC))(h4:w.cell? ⟨Kb,4,Hn⟩=Gn (.slice (Gn ⟨Gc,0,Hn⟩) nC cG))(hn:¬(0<=n/\n<nC)):
  Zm prog 22 #[.pointer (Gn ⟨bw,0,Hn⟩),.pointer (Gn ⟨K,0,Hn⟩),.pointer (Gn ⟨Kb,0,Hn⟩),.agg #[.int .i64 4,.int .i64 a,.int .i64 n,.slice p0 l0 c0,.slice p1 l1 c1,.slice p2 l2 c2,.slice p3 l3 c3,.slice p4 l4 c4]] w fun e w'=>e=.returned (.bool Um)/\∃oD us S base,us.length=4/\w.heap.size<=base/\base<=S/\lx w base S bw 3 79 51 1 nE fB ve us oD (nE+4) (iw++us) w':=by
 refine Nl fun Aw pO HE kX=>?_;clear hB hf hE eI;refine Ol fun HA lK pJ nK nKb=>?_;have HN:=Qp hn;clear hn;obtain⟨h0,hge⟩|h0:((0<=n)=True/\(n<(nC:Int))=False)\/(0<=n)=False:=by
  have:=HN.out;by_cases h:0<=n
  ·exact .inl ⟨X2,K6⟩
  ·exact .inr X2
 all_goals
  go_enter func22,ntmps22
  go_wp2_with fail
  go_quiet (fail)
  have Ox:Hid (Sm w.heap.size w ((w.alloc (.cells #[.int .i64 4,.int .i64 a,.int .i64 n,.slice p0 l0 c0,.slice p1 l1 c1,.slice p2 l2 c2,.slice p3 l3 c3,.slice p4 l4 c4] 31)).drewN nq)):=below_drewN (HA.out _) _;have rE:Hid (Tn ((w.alloc (.cells #[.int .i64 4,.int .i64 a,.int .i64 n,.slice p0 l0 c0,.slice p1 l1 c1,.slice p2 l2 c2,.slice p3 l3 c3,.slice p4 l4 c4] 31)).drewN nq) w.heap.size 8 31 (cells8 (.int .i64 4) (.int .i64 a) (.int .i64 n) (.slice p0 l0 c0) (.slice p1 l1 c1) (.slice p2 l2 c2) (.slice p3 l3 c3) (.slice p4 l4 c4))):=row8 w _ _ _ _ _ _ _ _ _;have sA:w.heap.size<((w.alloc (.cells #[.int .i64 4,.int .i64 a,.int .i64 n,.slice p0 l0 c0,.slice p1 l1 c1,.slice p2 l2 c2,.slice p3 l3 c3,.slice p4 l4 c4] 31)).drewN nq).heap.size:=rE.out.lt;refine sd fun x0 x2=>?_;simp only[cells8,reduceIte,Nat.reduceEqDiff]at x0 x2;refine Aa fun d2 d4=>?_;generalize ((w.alloc (.cells #[.int .i64 4,.int .i64 a,.int .i64 n,.slice p0 l0 c0,.slice p1 l1 c1,.slice p2 l2 c2,.slice p3 l3 c3,.slice p4 l4 c4] 31)).drewN nq)=w0 at *;go_wp2_with fail;refine(G20 K nC cC q n _ d2 HN.out).mono ?_;rintro e w1 ⟨rfl,dE⟩;replace dE:=dE.symm;subst dE;go_wp2_with fail;refine(OB 7 _).mono ?_;rintro e w1 ⟨rfl,dE⟩;replace dE:=dE.symm;subst dE;go_wp2_with fail;refine(zG bw 0 nE w.heap.size (.slice Hn 0 0) ve (fun _=>0) iw fB _ (Aw.out.below Ox.out Aw.out.lt) pO.out (xo HE.out Ox.out) (World.ownsRow_nil _ _ _ _) Aw.out.lt kX.out Ox.out.size bE E0).mono ?_;rintro e w2 ⟨rfl,oD,us,S,r1,r2,r3⟩;have R1:Hid (us.length=4):=r1;have R2:Hid (w0.heap.size<=S):=r2;have R3:Hid _:=r3;clear r1 r2 r3;go_wp2_with fail;go_ret;exact⟨rfl,oD,us,S,w.heap.size,R1.out,Om _,Qm Ox.out.size R2.out,R3.out.back Ox.out⟩
end
theorem jM(bw K Kb Gc T nC cC cT cG nE cell mr cr:Nat)(q pr:Option Vm)(vp:Dn)(tz:Nat->Int)(a:Int)(p0 p1 p2 p3 p4:Option Vm)(l0 l1 l2 l3 l4 c0 c1 c2 c3 c4:Nat)(ve:Dn)(iw:List Dn)(fB:Nat->Dn)(w:En)
  (hB:Tn w bw 5 79 fB)(hf:fB 2=ve)(hE:w.ownsRow 0 61 1 ve nE iw)(eI:ve.ownBlock≠Gn bw)(bE:nE<=1000000000)
  (h2:w.cell? ⟨K,2,Hn⟩=Gn (.slice q nC cC))(h4p:w.cell? ⟨K,4,Hn⟩=Gn (.slice (Gn ⟨T,0,Hn⟩) nC cT))(ht:w.cell? ⟨T,cell,Hn⟩=Gn vp)(hp:w.ownsRow 0 111 3 vp mr ((Hm (mr*3)).map fun j=>.int .i64 (tz j)))
  (h4:w.cell? ⟨Kb,4,Hn⟩=Gn (.slice (Gn ⟨Gc,0,Hn⟩) nC cG))(h22:w.cell? ⟨Gc,cell*26+22,Hn⟩=Gn (.slice pr mr cr))(hr:Sl w pr (mr*3) fun j=>.int .i64 (tz j))(hc:cell<nC)(hm:mr<=1000000000):
  Zm prog 22 #[.pointer (Gn ⟨bw,0,Hn⟩),.pointer (Gn ⟨K,0,Hn⟩),.pointer (Gn ⟨Kb,0,Hn⟩),.agg #[.int .i64 3,.int .i64 a,.int .i64 (cell:Int),.slice p0 l0 c0,.slice p1 l1 c1,.slice p2 l2 c2,.slice p3 l3 c3,.slice p4 l4 c4]] w fun e w'=>e=.returned (.bool Um)/\∃oD us S base,us.length=4/\w.heap.size<=base/\base<=S/\lx w base S bw 2 79 61 3 nE fB ve us oD (nE+4) (iw++us) w':=by
 refine Nl fun Aw pO HE kX=>?_;clear hB hf hE eI;refine Ol fun HA lK pJ nK nKb=>?_;have lT:T<w.heap.size:=Wm ht;have lGc:Gc<w.heap.size:=Wm h22;have lG:(cell:Int)<(nC:Int):=E0;have HP:=Qp hp;have HR:Hid (Sl w pr (mr*3) fun j=>.int .i64 (tz j)):=hr;clear hp hr
 go_enter func22,ntmps22
 go_wp2_with fail
 go_quiet (fail)
 have Ox:Hid (Sm w.heap.size w ((w.alloc (.cells #[.int .i64 3,.int .i64 a,.int .i64 (cell:Int),.slice p0 l0 c0,.slice p1 l1 c1,.slice p2 l2 c2,.slice p3 l3 c3,.slice p4 l4 c4] 31)).drewN nq)):=below_drewN (HA.out _) _;have rE:Hid (Tn ((w.alloc (.cells #[.int .i64 3,.int .i64 a,.int .i64 (cell:Int),.slice p0 l0 c0,.slice p1 l1 c1,.slice p2 l2 c2,.slice p3 l3 c3,.slice p4 l4 c4] 31)).drewN nq) w.heap.size 8 31 (cells8 (.int .i64 3) (.int .i64 a) (.int .i64 (cell:Int)) (.slice p0 l0 c0) (.slice p1 l1 c1) (.slice p2 l2 c2) (.slice p3 l3 c3) (.slice p4 l4 c4))):=row8 w _ _ _ _ _ _ _ _ _;have sA:w.heap.size<((w.alloc (.cells #[.int .i64 3,.int .i64 a,.int .i64 (cell:Int),.slice p0 l0 c0,.slice p1 l1 c1,.slice p2 l2 c2,.slice p3 l3 c3,.slice p4 l4 c4] 31)).drewN nq).heap.size:=rE.out.lt;refine sd fun x0 x2=>?_;simp only[cells8,reduceIte,Nat.reduceEqDiff]at x0 x2;refine Aa fun d2 d4=>?_;generalize ((w.alloc (.cells #[.int .i64 3,.int .i64 a,.int .i64 (cell:Int),.slice p0 l0 c0,.slice p1 l1 c1,.slice p2 l2 c2,.slice p3 l3 c3,.slice p4 l4 c4] 31)).drewN nq)=w0 at *;go_wp2_with fail;refine(e40 K T nC cT cC cell mr q vp tz _ d2 ((Ox.out.cell (p:=⟨K,4,Hn⟩) lK).trans h4p) ((Ox.out.cell (p:=⟨T,cell,Hn⟩) lT).trans ht) (xo HP.out Ox.out) hc E0).mono ?_;rintro e w1 ⟨u,rfl,Dx,hu⟩;have Ax:Hid (Sm w0.heap.size w0 w1):=Dx;have HU:Hid (w1.ownsRow w0.heap.size 111 3 u mr ((Hm (mr*3)).map fun j=>.int .i64 (tz j))):=hu;obtain⟨pu,cu,rfl,-,-,hsu⟩:=nB hu;have HSU:Hid (Sl w1 pu (mr*3) fun j=>.int .i64 (tz j)):=hsu;have HSR:Hid (Sl w1 pr (mr*3) fun j=>.int .i64 (tz j)):=(HR.out.below Ox.out).below Ax.out;clear Dx hu hsu x0 x2 d2 d4;have HX1:Hid (Tn w1 w.heap.size 8 31 (cells8 (.int .i64 3) (.int .i64 a) (.int .i64 (cell:Int)) (.slice p0 l0 c0) (.slice p1 l1 c1) (.slice p2 l2 c2) (.slice p3 l3 c3) (.slice p4 l4 c4))):=rE.out.below Ax.out sA;have x2:=HX1.out.cell (j:=2) E0;simp only[cells8,reduceIte,Nat.reduceEqDiff]at x2;refine kh fun z0=>?_;have z4:Kb<w1.heap.size:=Nat.lt_trans pJ z0;have z22:Gc<w1.heap.size:=Nat.lt_trans lGc z0;refine Ue fun d4=>?_;have d22:=(Ax.out.cell (p:=⟨Gc,cell*26+22,Hn⟩) D9).trans ((Ox.out.cell (p:=⟨Gc,cell*26+22,Hn⟩) lGc).trans h22);rcases Nat.eq_zero_or_pos mr with hm|hm
 ·subst hm;go_wp2_with fail;refine(OB 0 _).mono ?_;rintro e w1' ⟨rfl,dE⟩;replace dE:=dE.symm;subst dE;go_wp2_with fail;go_region_held3 (fun W=>W.cell? ⟨w.heap.size,2,Hn⟩=Gn (.int .i64 (cell:Int))/\W.cell? ⟨Kb,4,Hn⟩=Gn (.slice (Gn ⟨Gc,0,Hn⟩) nC cG)/\W.cell? ⟨Gc,cell*26+22,Hn⟩=Gn (.slice pr 0 cr)) (go_keep)
   (first
    |(go_at_call 45
      refine(GK pu pr 0 cu cr tz _ (by exact HSU.out) (by exact HSR.out) E0).mono ?_;rintro e wl ⟨rfl,Jv⟩;refine Ee fun y2 y4=>?_;have y22:wl.cell? ⟨Gc,cell*26+22,Hn⟩=Gn (.slice pr 0 cr):=(Jv.cell (p:=⟨Gc,cell*26+22,Hn⟩) z22).trans d22;have IG:Hid (Sm w1.heap.size w1 wl):=Below.trans (Below.drew k9) Jv;clear Jv))
  refine ig fun kD=>?_;have HUL:Hid (wl.ownsRow w0.heap.size 111 3 (.slice pu 0 cu) 0 ((Hm (0*3)).map fun j=>.int .i64 (tz j))):=xo HU.out IG.out;refine Xf fun YQ=>?_;go_wp2_with fail;refine(jB bw 0 nE w0.heap.size (.slice pu 0 cu) ve tz iw fB _ (Aw.out.below kD.out Aw.out.lt) pO.out (xo HE.out kD.out) HUL.out G9 (fun b hb=>⟨Nat.lt_trans (kX.out b hb).1 sA,(kX.out b hb).2⟩) YQ.out bE E0).mono ?_;exact ia
 ·have hmi:¬(mr:Int)=0:=by omega
  go_wp2_with fail
  go_region_held3 (fun W=>W.cell? ⟨w.heap.size,2,Hn⟩=Gn (.int .i64 (cell:Int))/\W.cell? ⟨Kb,4,Hn⟩=Gn (.slice (Gn ⟨Gc,0,Hn⟩) nC cG)/\W.cell? ⟨Gc,cell*26+22,Hn⟩=Gn (.slice pr mr cr)) (go_keep)
   (first
    |(go_at_call 45
      refine(GK pu pr mr cu cr tz _ (by exact HSU.out) (by exact HSR.out) E0).mono ?_;rintro e wl ⟨rfl,Jv⟩;refine Ee fun y2 y4=>?_;have y22:wl.cell? ⟨Gc,cell*26+22,Hn⟩=Gn (.slice pr mr cr):=(Jv.cell (p:=⟨Gc,cell*26+22,Hn⟩) z22).trans d22;have IG:Hid (Sm w1.heap.size w1 wl):=Below.trans (Below.drew k9) Jv;clear Jv))
  refine ig fun kD=>?_;have HUL:Hid (wl.ownsRow w0.heap.size 111 3 (.slice pu mr cu) mr ((Hm (mr*3)).map fun j=>.int .i64 (tz j))):=xo HU.out IG.out;refine Xf fun YQ=>?_;go_wp2_with fail;refine(jB bw mr nE w0.heap.size (.slice pu mr cu) ve tz iw fB _ (Aw.out.below kD.out Aw.out.lt) pO.out (xo HE.out kD.out) HUL.out G9 (fun b hb=>⟨Nat.lt_trans (kX.out b hb).1 sA,(kX.out b hb).2⟩) YQ.out bE E0).mono ?_;exact ia
theorem VK(bw K Kb Gc C g nC cC cG nE cell:Nat)(num:Int)(net code:Dn)(z:Nat->Int)(a:Int)(p0 p1 p2 p3 p4:Option Vm)(l0 l1 l2 l3 l4 c0 c1 c2 c3 c4:Nat)(ve:Dn)(iw:List Dn)(fB:Nat->Dn)(w:En)
  (hB:Tn w bw 5 79 fB)(hf:fB 3=ve)(hE:w.ownsRow 0 51 1 ve nE iw)(eI:ve.ownBlock≠Gn bw)(bE:nE<=1000000000)
  (h2:w.cell? ⟨K,2,Hn⟩=Gn (.slice (Gn ⟨C,0,Hn⟩) nC cC))(hp:w.cell? ⟨C,cell,Hn⟩=Gn (.pointer (Gn ⟨g,0,Hn⟩)))(hr:Tn w g 48 186 (Zv num net code z))
  (h4:w.cell? ⟨Kb,4,Hn⟩=Gn (.slice (Gn ⟨Gc,0,Hn⟩) nC cG))(YM:∀j,j<16->w.cell? ⟨Gc,cell*26+4+j,Hn⟩=Gn (.int .i64 (z (29+j))))(hc:cell<nC):
  Zm prog 22 #[.pointer (Gn ⟨bw,0,Hn⟩),.pointer (Gn ⟨K,0,Hn⟩),.pointer (Gn ⟨Kb,0,Hn⟩),.agg #[.int .i64 4,.int .i64 a,.int .i64 (cell:Int),.slice p0 l0 c0,.slice p1 l1 c1,.slice p2 l2 c2,.slice p3 l3 c3,.slice p4 l4 c4]] w fun e w'=>e=.returned (.bool Um)/\∃oD us S base,us.length=4/\w.heap.size<=base/\base<=S/\lx w base S bw 3 79 51 1 nE fB ve us oD (nE+4) (iw++us) w':=by
 refine Nl fun Aw pO HE kX=>?_;clear hB hf hE eI;refine Ol fun HA lK pJ nK nKb=>?_;have lC:C<w.heap.size:=Wm hp;have lGc:Gc<w.heap.size:=Wm (YM 0 E0);have lG:(cell:Int)<(nC:Int):=E0;have HP:=Qp hr;clear hr
 go_enter func22,ntmps22
 go_wp2_with fail
 go_quiet (fail)
 have Ox:Hid (Sm w.heap.size w ((w.alloc (.cells #[.int .i64 4,.int .i64 a,.int .i64 (cell:Int),.slice p0 l0 c0,.slice p1 l1 c1,.slice p2 l2 c2,.slice p3 l3 c3,.slice p4 l4 c4] 31)).drewN nq)):=below_drewN (HA.out _) _;have rE:Hid (Tn ((w.alloc (.cells #[.int .i64 4,.int .i64 a,.int .i64 (cell:Int),.slice p0 l0 c0,.slice p1 l1 c1,.slice p2 l2 c2,.slice p3 l3 c3,.slice p4 l4 c4] 31)).drewN nq) w.heap.size 8 31 (cells8 (.int .i64 4) (.int .i64 a) (.int .i64 (cell:Int)) (.slice p0 l0 c0) (.slice p1 l1 c1) (.slice p2 l2 c2) (.slice p3 l3 c3) (.slice p4 l4 c4))):=row8 w _ _ _ _ _ _ _ _ _;have sA:w.heap.size<((w.alloc (.cells #[.int .i64 4,.int .i64 a,.int .i64 (cell:Int),.slice p0 l0 c0,.slice p1 l1 c1,.slice p2 l2 c2,.slice p3 l3 c3,.slice p4 l4 c4] 31)).drewN nq).heap.size:=rE.out.lt;refine sd fun x0 x2=>?_;simp only[cells8,reduceIte,Nat.reduceEqDiff]at x0 x2;refine Aa fun d2 d4=>?_;generalize ((w.alloc (.cells #[.int .i64 4,.int .i64 a,.int .i64 (cell:Int),.slice p0 l0 c0,.slice p1 l1 c1,.slice p2 l2 c2,.slice p3 l3 c3,.slice p4 l4 c4] 31)).drewN nq)=w0 at *;go_wp2_with fail;refine(pZ K C g nC cC cell num net code z _ d2 ((Ox.out.cell (p:=⟨C,cell,Hn⟩) lC).trans hp) (HP.out.below Ox.out HP.out.lt) hc).mono ?_;rintro e w1 ⟨u,rfl,Dx,hu⟩;have Ax:Hid (Sm w0.heap.size w0 w1):=Dx;have HU:Hid (w1.ownsRow w0.heap.size 2 1 u 16 ((Hm 16).map fun j=>.int .i64 (z (29+j)))):=hu;obtain⟨gu,cu,rfl,hgu,hgl⟩:=hu.form E0;have HUC:Hid (∀j,j<16->w1.cell? ⟨gu,j,Hn⟩=Gn (.int .i64 (z (29+j)))):=fun j hj=>yt HU.out (by simp[hj]);clear Dx hu x0 x2 d2 d4;have HX1:Hid (Tn w1 w.heap.size 8 31 (cells8 (.int .i64 4) (.int .i64 a) (.int .i64 (cell:Int)) (.slice p0 l0 c0) (.slice p1 l1 c1) (.slice p2 l2 c2) (.slice p3 l3 c3) (.slice p4 l4 c4))):=rE.out.below Ax.out sA;have x2:=HX1.out.cell (j:=2) E0;simp only[cells8,reduceIte,Nat.reduceEqDiff]at x2;refine kh fun z0=>?_;refine Ue fun d4=>?_;have HM:Hid (∀j,j<16->w1.cell? ⟨Gc,cell*26+4+j,Hn⟩=Gn (.int .i64 (z (29+j)))):=fun j hj=>(Ax.out.cell (p:=⟨Gc,cell*26+4+j,Hn⟩) D9).trans ((Ox.out.cell (p:=⟨Gc,cell*26+4+j,Hn⟩) lGc).trans (YM j hj));clear YM;go_wp2_with fail;go_loopw [15,16] (fun ok i wr=>∃j:Nat,j<=16/\i=.int .i64 j/\ok=.bool Um/\∃d,wr=w1.drewN d) (fun _ i _=>16-(intOf i).toNat)
 case atStart=>exact⟨0,Pm _,rfl,rfl,0,rfl⟩
 case round=>
  obtain⟨j,hj,rfl,rfl,d,rfl⟩:=hrel;by_cases yo:j<16
  ·have gy:(j:Int)<16:=by omega
   have cu:=HUC.out j yo;have cm:=HM.out j yo;generalize z (29+j)=x at *;go_wp2_with fail;go_region_held3 (fun W=>W.cell? ⟨w.heap.size,2,Hn⟩=Gn (.int .i64 (cell:Int))/\W.cell? ⟨Kb,4,Hn⟩=Gn (.slice (Gn ⟨Gc,0,Hn⟩) nC cG)/\W.cell? ⟨gu,j,Hn⟩=Gn (.int .i64 x)/\W.cell? ⟨Gc,cell*26+4+j,Hn⟩=Gn (.int .i64 x)) (go_keep) (fail);go_wp2_with fail;exact⟨⟨j+1,E0,E1,rfl,d+1,rfl⟩,U1⟩
  ·obtain rfl:j=16:=by omega
   have IG:Hid (Sm w1.heap.size w1 (w1.drewN d)):=below_drewN k9 _;generalize w1.drewN d=wl at *;refine ig fun kD=>?_;have HUL:Hid (wl.ownsRow w0.heap.size 2 1 (.slice (Gn ⟨gu,0,Hn⟩) (16:Nat) cu) 16 ((Hm (16*1)).map fun j=>.int .i64 (z (29+j)))):=xo HU.out IG.out;refine Xf fun YQ=>?_;go_wp2_with fail;refine(zG bw 16 nE w0.heap.size (.slice (Gn ⟨gu,0,Hn⟩) (16:Nat) cu) ve (fun j=>z (29+j)) iw fB _ (Aw.out.below kD.out Aw.out.lt) pO.out (xo HE.out kD.out) HUL.out G9 (fun b hb=>⟨Nat.lt_trans (kX.out b hb).1 sA,(kX.out b hb).2⟩) YQ.out bE E0).mono ?_;exact ia
theorem yO(bw K Kb Gc nC cC cG:Nat)(q:Option Vm)(a n:Int)(p0 p1 p2 p3 p4:Option Vm)(l0 l1 l2 l3 l4 c0 c1 c2 c3 c4:Nat)(w:En)
  (h2:w.cell? ⟨K,2,Hn⟩=Gn (.slice q nC cC))(h4:w.cell? ⟨Kb,4,Hn⟩=Gn (.slice (Gn ⟨Gc,0,Hn⟩) nC cG))(hn:¬(0<=n/\n<nC)):
  Zm prog 22 #[.pointer (Gn ⟨bw,0,Hn⟩),.pointer (Gn ⟨K,0,Hn⟩),.pointer (Gn ⟨Kb,0,Hn⟩),.agg #[.int .i64 5,.int .i64 a,.int .i64 n,.slice p0 l0 c0,.slice p1 l1 c1,.slice p2 l2 c2,.slice p3 l3 c3,.slice p4 l4 c4]] w fun e w'=>e=.returned (.bool Um)/\Sm w.heap.size w w':=by
 refine Ol fun HA lK pJ nK nKb=>?_;have HN:=Qp hn;clear hn;obtain⟨h0,hge⟩|h0:((0<=n)=True/\(n<(nC:Int))=False)\/(0<=n)=False:=by
  have:=HN.out;by_cases h:0<=n
  ·exact .inl ⟨X2,K6⟩
  ·exact .inr X2
 all_goals
  go_enter func22,ntmps22
  go_wp2_with fail
  go_quiet (fail)
  have Ox:Hid (Sm w.heap.size w ((w.alloc (.cells #[.int .i64 5,.int .i64 a,.int .i64 n,.slice p0 l0 c0,.slice p1 l1 c1,.slice p2 l2 c2,.slice p3 l3 c3,.slice p4 l4 c4] 31)).drewN nq)):=below_drewN (HA.out _) _;have rE:Hid (Tn ((w.alloc (.cells #[.int .i64 5,.int .i64 a,.int .i64 n,.slice p0 l0 c0,.slice p1 l1 c1,.slice p2 l2 c2,.slice p3 l3 c3,.slice p4 l4 c4] 31)).drewN nq) w.heap.size 8 31 (cells8 (.int .i64 5) (.int .i64 a) (.int .i64 n) (.slice p0 l0 c0) (.slice p1 l1 c1) (.slice p2 l2 c2) (.slice p3 l3 c3) (.slice p4 l4 c4))):=row8 w _ _ _ _ _ _ _ _ _;have sA:w.heap.size<((w.alloc (.cells #[.int .i64 5,.int .i64 a,.int .i64 n,.slice p0 l0 c0,.slice p1 l1 c1,.slice p2 l2 c2,.slice p3 l3 c3,.slice p4 l4 c4] 31)).drewN nq).heap.size:=rE.out.lt;refine sd fun x0 x2=>?_;simp only[cells8,reduceIte,Nat.reduceEqDiff]at x0 x2;refine Aa fun d2 d4=>?_;generalize ((w.alloc (.cells #[.int .i64 5,.int .i64 a,.int .i64 n,.slice p0 l0 c0,.slice p1 l1 c1,.slice p2 l2 c2,.slice p3 l3 c3,.slice p4 l4 c4] 31)).drewN nq)=w0 at *;go_wp2_with fail;refine(U90 K nC cC q n _ d2 HN.out).mono ?_;rintro e w1 ⟨rfl,Dx⟩;have kD:Hid (Sm w.heap.size w w1):=Ox.out.trans (Dx.mono Ox.out.size);clear Dx x0 x2 d2 d4;go_wp2_with fail;refine(OB 7 _).mono ?_;rintro e w1' ⟨rfl,dE⟩;replace dE:=dE.symm;subst dE;go_wp2_with fail;go_ret;exact⟨rfl,kD.out.alloc kD.out.size _⟩
theorem iM(bw K Kb Gc C g nC cC cG cell:Nat)(num:Int)(net code:Dn)(z:Nat->Int)(a:Int)(p0 p1 p2 p3 p4:Option Vm)(l0 l1 l2 l3 l4 c0 c1 c2 c3 c4:Nat)(w:En)
  (h2:w.cell? ⟨K,2,Hn⟩=Gn (.slice (Gn ⟨C,0,Hn⟩) nC cC))(hp:w.cell? ⟨C,cell,Hn⟩=Gn (.pointer (Gn ⟨g,0,Hn⟩)))(hr:Tn w g 48 186 (Zv num net code z))
  (h4:w.cell? ⟨Kb,4,Hn⟩=Gn (.slice (Gn ⟨Gc,0,Hn⟩) nC cG))(h23:w.cell? ⟨Gc,cell*26+23,Hn⟩=Gn (.int .i64 (z 46)))(h24:w.cell? ⟨Gc,cell*26+24,Hn⟩=Gn (.int .i64 (z 47)))(dV:w.cell? ⟨Gc,cell*26+25,Hn⟩=Gn (.bool (decide (z 3<z 47))))(hc:cell<nC):
  Zm prog 22 #[.pointer (Gn ⟨bw,0,Hn⟩),.pointer (Gn ⟨K,0,Hn⟩),.pointer (Gn ⟨Kb,0,Hn⟩),.agg #[.int .i64 5,.int .i64 a,.int .i64 (cell:Int),.slice p0 l0 c0,.slice p1 l1 c1,.slice p2 l2 c2,.slice p3 l3 c3,.slice p4 l4 c4]] w fun e w'=>e=.returned (.bool Um)/\Sm w.heap.size w w':=by
 refine Ol fun HA lK pJ nK nKb=>?_;have lC:C<w.heap.size:=Wm hp;have lGc:Gc<w.heap.size:=Wm h23;have lG:(cell:Int)<(nC:Int):=E0;have HP:=Qp hr;clear hr
 go_enter func22,ntmps22
 go_wp2_with fail
 go_quiet (fail)
 have Ox:Hid (Sm w.heap.size w ((w.alloc (.cells #[.int .i64 5,.int .i64 a,.int .i64 (cell:Int),.slice p0 l0 c0,.slice p1 l1 c1,.slice p2 l2 c2,.slice p3 l3 c3,.slice p4 l4 c4] 31)).drewN nq)):=below_drewN (HA.out _) _;have rE:Hid (Tn ((w.alloc (.cells #[.int .i64 5,.int .i64 a,.int .i64 (cell:Int),.slice p0 l0 c0,.slice p1 l1 c1,.slice p2 l2 c2,.slice p3 l3 c3,.slice p4 l4 c4] 31)).drewN nq) w.heap.size 8 31 (cells8 (.int .i64 5) (.int .i64 a) (.int .i64 (cell:Int)) (.slice p0 l0 c0) (.slice p1 l1 c1) (.slice p2 l2 c2) (.slice p3 l3 c3) (.slice p4 l4 c4))):=row8 w _ _ _ _ _ _ _ _ _;have sA:w.heap.size<((w.alloc (.cells #[.int .i64 5,.int .i64 a,.int .i64 (cell:Int),.slice p0 l0 c0,.slice p1 l1 c1,.slice p2 l2 c2,.slice p3 l3 c3,.slice p4 l4 c4] 31)).drewN nq).heap.size:=rE.out.lt;refine sd fun x0 x2=>?_;simp only[cells8,reduceIte,Nat.reduceEqDiff]at x0 x2;refine Aa fun d2 d4=>?_;generalize ((w.alloc (.cells #[.int .i64 5,.int .i64 a,.int .i64 (cell:Int),.slice p0 l0 c0,.slice p1 l1 c1,.slice p2 l2 c2,.slice p3 l3 c3,.slice p4 l4 c4] 31)).drewN nq)=w0 at *;go_wp2_with fail;refine(T30 K C g nC cC cell num net code z _ d2 ((Ox.out.cell (p:=⟨C,cell,Hn⟩) lC).trans hp) (HP.out.below Ox.out HP.out.lt) hc).mono ?_;rintro e w1 ⟨rfl,Dx⟩;have Ax:Hid (Sm w0.heap.size w0 w1):=Dx;clear Dx x0 x2 d2 d4;have HX1:Hid (Tn w1 w.heap.size 8 31 (cells8 (.int .i64 5) (.int .i64 a) (.int .i64 (cell:Int)) (.slice p0 l0 c0) (.slice p1 l1 c1) (.slice p2 l2 c2) (.slice p3 l3 c3) (.slice p4 l4 c4))):=rE.out.below Ax.out sA;have x2:=HX1.out.cell (j:=2) E0;simp only[cells8,reduceIte,Nat.reduceEqDiff]at x2;refine kh fun z0=>?_;refine Ue fun d4=>?_;have e23:=(Ax.out.cell (p:=⟨Gc,cell*26+23,Hn⟩) D9).trans ((Ox.out.cell (p:=⟨Gc,cell*26+23,Hn⟩) lGc).trans h23);have e24:=(Ax.out.cell (p:=⟨Gc,cell*26+24,Hn⟩) D9).trans ((Ox.out.cell (p:=⟨Gc,cell*26+24,Hn⟩) lGc).trans h24);have e25:=(Ax.out.cell (p:=⟨Gc,cell*26+25,Hn⟩) D9).trans ((Ox.out.cell (p:=⟨Gc,cell*26+25,Hn⟩) lGc).trans dV);have kD:Hid (Sm w.heap.size w w1):=Ox.out.trans (Ax.out.mono E9);generalize z 46=s46 at *;generalize z 47=s47 at *;generalize decide (z 3<s47)=bb at *;have m0:w.heap.size≠w1.heap.size:=E0;have m1:Kb≠w1.heap.size:=E0;have m2:Gc≠w1.heap.size:=E0;go_wp2_with fail;go_region_held3 (fun W=>W.cell? ⟨w.heap.size,2,Hn⟩=Gn (.int .i64 (cell:Int))/\W.cell? ⟨Kb,4,Hn⟩=Gn (.slice (Gn ⟨Gc,0,Hn⟩) nC cG)/\W.cell? ⟨Gc,cell*26+23,Hn⟩=Gn (.int .i64 s46)/\W.cell? ⟨Gc,cell*26+24,Hn⟩=Gn (.int .i64 s47)/\W.cell? ⟨Gc,cell*26+25,Hn⟩=Gn (.bool bb)/\W.cell? ⟨w1.heap.size,0,Hn⟩=Gn (.int .i64 s46)/\W.cell? ⟨w1.heap.size,1,Hn⟩=Gn (.int .i64 s47)/\W.cell? ⟨w1.heap.size,2,Hn⟩=Gn (.bool bb)) (go_keep) (fail);go_wp2_with fail
 go_ret;exact⟨rfl,(kD.out.alloc kD.out.size _).drew⟩
theorem sV:(prog.info? 59).map (fun i=>(i.zero,i.size,i.bytes))=Gn (Gn (.agg #[.int .i64 0,.int .i64 0]),2,16):=J0
theorem ins_any(p:Option Vm)(n cap:Nat)(z:Nat->Int)(w:En)(hs:Sl w p (n*2) (fun j=>.int .i64 (z j)))(hn:p=Hn->n=0)(hb:16*n<=140737488355328):
  Zm prog 43 #[.slice p n cap] w fun e w'=>e=.returned (.slice (Gn ⟨w.heap.size,0,Hn⟩) (n+2:Nat) (n+2:Nat))/\w'.heap.size=w.heap.size+1/\Sm w.heap.size w w'/\
   Tn w' w.heap.size ((n+2)*2) 59 (fun j=>.int .i64 (uq 2 n z j)):=by
 have hB:n<=17592186044416:=E0;have HM:Hid (16*(n+2)<=281474976710656):=by show _<=_;omega
 have HS:Hid (Sl w p (n*2) (fun j=>.int .i64 (z j))):=hs;have HN:Hid (p=Hn->n=0):=hn;clear hs hn hb
 go_enter func43,ntmps43
 go_wp2_with (at_make;refine ot _ rfl _ _ 29 rfl 59 _ 2 16 underlying29 sV _ _ _ _ (n+2) rfl rfl E0 E0 HM.out Y1 (fun _=>.int .i64 0) (fun j _=>NK j) ?_)
 intro w1 Bv Jx Lu;have FB:Hid (Tn w1 w.heap.size ((n+2)*2) 59 (fun _=>.int .i64 0)):=Bv;have vH:Hid (w1.heap.size=w.heap.size+1):=Jx;clear Bv Jx;go_wp2_with (refine kt rfl _ _ _ _ rfl 59 _ 2 16 underlying29 sV w.heap.size (n+2) (n+2) p n cap rfl rfl ((n+2)*2) 59 (fun _=>.int .i64 0) (fun j=>.int .i64 (z j)) E0 FB.out E0 (HS.out.below Lu) (fun _ _=>rfl) HN.out ?_);intro w2 eB jF uy;have AL:Hid (Tn w2 w.heap.size ((n+2)*2) 59 (fun j=>if j<n*2 then .int .i64 (z j)else .int .i64 0)):=eB;have HZ2:Hid (w2.heap.size=w.heap.size+1):=uy.trans vH.out;have Pz:Hid (Sm w.heap.size w w2):=Lu.grown jF A5 (fun k hk=>X4);clear eB uy jF Lu FB vH HS HN HM;go_wp2_with fail;go_loopw [4] (fun i wr=>∃k:Nat,n<=k/\k<=n+2/\i=.int .i64 k/\Hid (wr.heap.size=w.heap.size+1)/\Hid (Sm w.heap.size w wr)/\Hid (Tn wr w.heap.size ((n+2)*2) 59 (fun j=>.int .i64 (if j<n*2 then z j else if j<k*2 then (if j%2=0 then -77 else 0)else 0))))
  (fun i _=>n+2-(intOf i).toNat)
 case atStart=>exact⟨n,Om _,E0,rfl,HZ2,Pz,AL.out.congr (fun j _=>by by_cases h:j<n*2<;>simp[h])⟩
 case round=>
  obtain⟨k,xG,jG,rfl,HZ,HB,HR⟩:=hrel;by_cases yo:k<n+2
  ·refine Qj fun HP c0 c1 f0 f1=>?_;go_wp2
   go_roundw
   case rel=>exact⟨k+1,E0,E0,E1,G7,((HB.out.setCell N8 _).setCell N8 _),((HR.out.set (k*2) _).set (k*2+1) _).congr (fun j _=>HP.out j)⟩
   case measure=>simp[intOf];omega
  ·obtain rfl:k=n+2:=by omega
   exact qe
def qq:Ur where
 YI:=Tm
 nC:=1
 lim:=fun _=>0
 Jt:=fun _=>Tm
 Ho:=fun _=>3
 code:=fun _ j=>if j=0 then 1 else if j=3 then 7 else if j=4 then 15 else 0
 Vt:=fun _=>Um
 Hq:=fun _=>0
 img:=fun _ _=>0
 RJ:=Tm
 nT:=1
 EJ:=fun _=>Tm
 nRow:=fun _=>1
 row:=fun _ j=>if j=1 then 10 else 0
 aA:=Um
 Zo:=0
 ch:=fun _=>0
 Vz:=Um
 nD:=0
 dv:=fun _=>0
theorem R30(w:En):
  Zm prog 19 #[] w fun e w'=>∃v0 v1 v2 v3,e=.returned (.agg #[v0,v1,v2,v3])/\(∀MQ:En,(∀a v,w.heap.size<=a.block->w'.cell? a=Gn v->MQ.cell? a=Gn v)->Zx MQ v0 v1 v2 v3 qq)/\Sm w.heap.size w w':=by
 go_enter func19,ntmps19
 go_wp2_with fail
 have XQ:Hid (∀o1 o2 o3 o4,((((((w.alloc (.cells #[.slice (Gn ⟨w.heap.size+1+1,0,Hn⟩) 1 1,.slice (Gn ⟨w.heap.size+1+1+1+1,0,Hn⟩) 1 1,.slice Hn 0 0,.slice Hn 0 0] 28)).alloc o1).alloc o2).alloc o3).alloc o4).heap[w.heap.size]?=Gn (.cells #[.slice (Gn ⟨w.heap.size+1+1,0,Hn⟩) 1 1,.slice (Gn ⟨w.heap.size+1+1+1+1,0,Hn⟩) 1 1,.slice Hn 0 0,.slice Hn 0 0] 28 (0,0)))):=fun o1 o2 o3 o4=>iD (((((row4 w _ _ _ _ _).alloc o1).alloc o2).alloc o3).alloc o4);refine bodyPost_ret (results_cell_row (P:=prog) rfl _ _ w.heap.size 28 #[.slice (Gn ⟨w.heap.size+1+1,0,Hn⟩) 1 1,.slice (Gn ⟨w.heap.size+1+1+1+1,0,Hn⟩) 1 1,.slice Hn 0 0,.slice Hn 0 0] (0,0) _ rfl (XQ.out _ _ _ _) underlying28 rfl Tz) rfl ?_;refine⟨_,_,_,_,rfl,fun MQ hk=>⟨?_,?_,?_,?_⟩,((((Below.refl _ _).alloc N8 _).alloc P0 _).alloc A1 _ |>.alloc A1 _).alloc A1 _⟩
 ·refine⟨Gn ⟨w.heap.size+1+1,0,Hn⟩,1,fun j=>if j=0 then .slice (Gn ⟨w.heap.size+1,0,Hn⟩) 3 3 else if j=1 then .slice Hn 0 0 else .int .i64 0,rfl,Om _,V3,P0,U0,.inr ⟨_,_,rfl,fun j hj=>?_⟩,fun i hi=>?_⟩
  ·have:j=0\/j=1\/j=2:=by simp[qq]at hj;omega
   refine hk _ _ (by show _<=w.heap.size+1+1;omega) ?_;rcases this with rfl|rfl|rfl<;>simp[go_sem]
  ·obtain rfl:i=0:=by simp[qq]at hi;omega
   refine⟨⟨Gn ⟨w.heap.size+1,0,Hn⟩,3,rfl,Om _,V3,P0,U0,.inr ⟨_,_,rfl,fun j hj=>?_⟩⟩,⟨Hn,0,rfl,Om _,V3,fun _=>⟨rfl,rfl⟩,U0,.inl rfl⟩,rfl⟩;have:j=0\/j=1\/j=2\/j=3\/j=4\/j=5\/j=6\/j=7\/j=8\/j=9\/j=10\/j=11:=by simp[qq]at hj;omega
   refine hk _ _ (by show _<=w.heap.size+1;omega) ?_;rcases this with rfl|rfl|rfl|rfl|rfl|rfl|rfl|rfl|rfl|rfl|rfl|rfl<;>simp[go_sem,qq]
 ·refine⟨Gn ⟨w.heap.size+1+1+1+1,0,Hn⟩,1,fun _=>.slice (Gn ⟨w.heap.size+1+1+1,0,Hn⟩) 1 1,rfl,Om _,V3,P0,U0,.inr ⟨_,_,rfl,fun j hj=>?_⟩,fun i hi=>?_⟩
  ·obtain rfl:j=0:=by simp[qq]at hj;omega
   refine hk _ _ (by show _<=w.heap.size+1+1+1+1;omega) ?_;simp[go_sem]
  ·refine⟨Gn ⟨w.heap.size+1+1+1,0,Hn⟩,1,rfl,Om _,V3,P0,V3,.inr ⟨_,_,rfl,fun j hj=>?_⟩⟩;have:j=0\/j=1:=by simp[qq]at hj;omega
   refine hk _ _ (by show _<=w.heap.size+1+1+1;omega) ?_;rcases this with rfl|rfl<;>simp[go_sem,qq]
 ·exact Nk
 ·exact Nk
theorem nJ:(prog.info? 3).map (fun i=>(i.zero,i.size,i.bytes))=Gn (Gn (.int .i64 0),1,8):=J0
theorem UF:(prog.info? 26).map (fun i=>(i.zero,i.size,i.bytes))=Gn (Gn (.slice Hn 0 0),1,24):=J0
theorem yG(B m nE base:Nat)(l ve:Dn)(tz:Nat->Int)(iw:List Dn)(fB:Nat->Dn)(w:En)(hB:Tn w B 5 79 fB)(hf:fB 4=ve)(hE:w.ownsRow 0 26 1 ve nE iw)(hl:w.ownsRow base 3 1 l m ((Hm (m*1)).map fun j=>.int .i64 (tz j)))
  (Dx:B<base)(Vx:∀b,ve.ownBlock=Gn b->b<base/\b≠B)(dS:base<=w.heap.size)(bE:nE<=1000000000)(bm:m<=1000000000):
  Zm prog 49 #[.pointer (Gn ⟨B,2,Hn⟩),l] w fun e w'=>e=.returned (.tuple #[])/\∃oD us S,us.length=4/\w.heap.size<=S/\lx w base S B 4 79 26 1 nE fB ve us oD (nE+4) (iw++us) w':=by
 obtain⟨pl,cl,rfl,-,-,-⟩:=nB hl;obtain⟨pe,me,ce,rfl⟩:=sx hE;obtain rfl:me=nE:=by
  rcases hE.2 with⟨h1,h2⟩|⟨_,_,_,h1,_⟩
  ·exact zk
  ·exact Ci
 have hq:(-1000:Int)-(me:Int)/4=-1000-((me/4:Nat):Int):=E0;generalize qU:(-1000:Int)-((me/4:Nat):Int)=mk at *;have VL:Hid (mk=-1000-((me/4:Nat):Int)):=qU.symm;clear qU;have e0:w.cell? ⟨B,2+2,Hn⟩=Gn (.slice pe me ce):=by rw[hB.cell (j:=4) E0,hf]
 have Aw:Hid (Tn w B 5 79 fB):=hB;have pO:Hid (fB 4=.slice pe me ce):=hf;have HE:Hid (w.ownsRow 0 26 1 (.slice pe me ce) me iw):=hE;have HL:Hid (w.ownsRow base 3 1 (.slice pl m cl) m (dw 1 me tz m 0)):=by show w.ownsRow _ _ _ _ _ _;rw[TG];exact hl
 refine Yj fun Pz=>?_;clear hB hf hE hl Vx
 go_enter func49,ntmps49
 go_wp2_with fail
 clear e0;go_loopw [5] (fun i wr=>∃q:Nat,q<=m/\i=.int .i64 q/\w.heap.size<=wr.heap.size/\Hid (wr.ownsRow base 3 1 (.slice pl m cl) m (dw 1 me tz m q))/\Hid (Jq (fun j=>base<=j) w wr)) (fun i _=>m-(intOf i).toNat)
 case atStart=>exact⟨0,Pm _,rfl,Om _,HL,Jq.refl _ _⟩
 case round=>
  obtain⟨q,tX,rfl,hsr,QI,HGr⟩:=hrel;by_cases yo:q<m
  ·obtain⟨g,cap,he,-,hgl⟩:=QI.out.form E0;simp only[Value.slice.injEq]at he;obtain⟨rfl,-,rfl⟩:=he;have c0:=yt QI.out (j:=q) (u:=.int .i64 (tz q)) E8;have f0:=mB QI.out q;have lG:(q:Int)<(m:Int):=by omega
   refine Tj fun oU HST=>?_;go_wp2_with fail;refine⟨⟨q+1,E0,E1,by simpa using hsr,?_,?_⟩,U1⟩
   ·exact nk
   ·exact HGr.out.setB oU _ _
  ·obtain rfl:q=m:=by omega
   have y_:Hid (wr.ownsRow base 3 1 (.slice pl q cl) q (Oq 1 me q)):=by show World.ownsRow _ _ _ _ _ _ _;rw[<-SG 1 me tz q];exact QI.out
   have K0:Hid (vA w base 3 1 me q (.slice pl q cl) [.slice pl q cl] wr):=⟨HGr.out,y_.out,fun u hu=>H8,fun u hu b hb=>y7⟩;clear QI HGr y_ yo tX;have OW1:Hid (∀o,(wr.alloc o).ownsRow base 3 1 (.slice pl q cl) q (Oq 1 me q)):=fun o=>xo K0.out.own P8;have lP:base<=wr.heap.size:=Qm dS K0.out.but.size;go_wp2_with (at_builtin;refine kr _ rfl _ _ 26 rfl base 3 _ 1 8 underlying26 nJ rfl E0 (.slice pl q cl) q (Oq 1 me q) rfl (by exact OW1.out _) wr.heap.size 1 [.int .i64 mk] 3 rfl rfl G2 D2 E0 Y1 E0 A1 ?_);intro g1 gp w1 Io Zp jr yo DC hK;rw[<-(fA me mk VL.out).1]at Io;have K1:Hid (vA w base 3 1 me q (.slice pl q cl) ([(.slice pl q cl)]++[(.slice (Gn ⟨g1,0,Hn⟩) (q+1:Nat) gp)]) w1):=vA.app K0.out P8 Io Zp DC (fun b j x h=>(hK b j x h).imp (fun ⟨h1,h2,h3⟩=>⟨E0,N4,by rw[(fA me mk VL.out).1];simpa using h3⟩) id) E0;clear Io Zp jr yo DC hK K0 OW1;have OW2:Hid (∀o,(w1.alloc o).ownsRow base 3 1 (.slice pl q cl) q (Oq 1 me q)):=fun o=>xo K1.out.own P8;have zu:base<=w1.heap.size:=Qm dS K1.out.but.size;go_wp2_with (at_builtin;refine kr _ rfl _ _ 26 rfl base 3 _ 1 8 underlying26 nJ rfl E0 (.slice pl q cl) q (Oq 1 me q) rfl (by exact OW2.out _) w1.heap.size 2 [.int .i64 mk,.int .i64 mk] 3 rfl rfl G2 D2 E0 Y1 E0 A1 ?_);intro g2 dq w2 Io Zp jr yo DC hK;rw[<-(fA me mk VL.out).2.1]at Io;have K2:Hid (vA w base 3 1 me q (.slice pl q cl) ([(.slice pl q cl),(.slice (Gn ⟨g1,0,Hn⟩) (q+1:Nat) gp)]++[(.slice (Gn ⟨g2,0,Hn⟩) (q+2:Nat) dq)]) w2):=vA.app K1.out P8 Io Zp DC (fun b j x h=>(hK b j x h).imp (fun ⟨h1,h2,h3⟩=>⟨E0,N4,by rw[(fA me mk VL.out).2.1];simpa using h3⟩) id) E0;clear Io Zp jr yo DC hK K1 OW2;have OW3:Hid (∀o,(w2.alloc o).ownsRow base 3 1 (.slice pl q cl) q (Oq 1 me q)):=fun o=>xo K2.out.own P8;have JL:base<=w2.heap.size:=Qm dS K2.out.but.size;go_wp2_with (at_builtin;refine kr _ rfl _ _ 26 rfl base 3 _ 1 8 underlying26 nJ rfl E0 (.slice pl q cl) q (Oq 1 me q) rfl (by exact OW3.out _) w2.heap.size 3 [.int .i64 mk,.int .i64 mk,.int .i64 mk] 3 rfl rfl G2 D2 E0 Y1 E0 A1 ?_);intro g3 Lq w3 Io Zp jr yo DC hK;rw[<-(fA me mk VL.out).2.2]at Io;have K3:Hid (vA w base 3 1 me q (.slice pl q cl) ([(.slice pl q cl),(.slice (Gn ⟨g1,0,Hn⟩) (q+1:Nat) gp),(.slice (Gn ⟨g2,0,Hn⟩) (q+2:Nat) dq)]++[(.slice (Gn ⟨g3,0,Hn⟩) (q+3:Nat) Lq)]) w3):=vA.app K2.out P8 Io Zp DC (fun b j x h=>(hK b j x h).imp (fun ⟨h1,h2,h3⟩=>⟨E0,N4,by rw[(fA me mk VL.out).2.2];simpa using h3⟩) id) E0;clear Io Zp jr yo DC hK K2 OW3;refine Ri fun zL=>?_;have H0:Hid (lx w base w3.heap.size B 4 79 26 1 me fB (.slice pe me ce) [(.slice pl q cl),(.slice (Gn ⟨g1,0,Hn⟩) (q+1:Nat) gp),(.slice (Gn ⟨g2,0,Hn⟩) (q+2:Nat) dq),(.slice (Gn ⟨g3,0,Hn⟩) (q+3:Nat) Lq)] (.slice pe me ce) me iw w3):=⟨K3.out.but.mono (fun _ x=>.inr (.inr x)),Om _,K3.out.full,K3.out.ub,zL.out.congr (fun j _=>by
    by_cases e:j=4
    ·rw[if_pos e,e];exact pO.out
    ·rw[if_neg e]),iC HE.out (fun b hb=>K3.out.but.block b (HE.out.lt b hb).2 D7),fun _ x=>.inl x⟩
   have hS:w.heap.size<=w3.heap.size:=K3.out.but.size;have q0:w3.cell? ⟨B,2+2,Hn⟩=Gn (.slice pe me ce):=by
    have:=zL.out.cell (j:=4) E0;rw[pO.out]at this;exact Vh
   refine Uc fun Qz=>?_;clear K3 zL;have OH0:Hid (∀o,(World.alloc (w3) o).ownsRow 0 26 1 (.slice pe me ce) (me) (iw)):=fun o=>xo H0.out.own P8;go_wp2_with (at_builtin;refine Eo _ rfl _ _ 75 rfl 0 26 _ 1 24 underlying75 UF rfl E0 (.slice pe me ce) (me) (iw) rfl (by exact OH0.out _) w3.heap.size [(.slice pl q cl)] 26 rfl rfl G2 D2 Y1 E0 E0 ?_);intro h0 d0 v0 Io Zp jr yo;refine vf fun HP H1=>?_;clear q0;have q0:v0.cell? ⟨B,2+2,Hn⟩=Gn (.slice pe me ce):=(HP.out.2.cell (j:=4) E0).trans U3;have zQ:v0.frozen? ⟨B,2+2,Hn⟩=false:=HP.out.2.frozen 4;clear Io Zp jr yo HP OH0 H0;have OH1:Hid (∀o,(World.alloc (v0.setCell ⟨B,4,Hn⟩ (.slice (Gn ⟨h0,0,Hn⟩) (me+1:Nat) d0)) o).ownsRow 0 26 1 (.slice (Gn ⟨h0,0,Hn⟩) (me+1:Nat) d0) (me+1) (iw++[(.slice pl q cl)])):=fun o=>xo H1.out.own P8;go_wp2_with (at_builtin;refine Eo _ rfl _ _ 75 rfl 0 26 _ 1 24 underlying75 UF rfl E0 (.slice (Gn ⟨h0,0,Hn⟩) (me+1:Nat) d0) (me+1) (iw++[(.slice pl q cl)]) rfl (by exact OH1.out _) v0.heap.size [(.slice (Gn ⟨g1,0,Hn⟩) (q+1:Nat) gp)] 26 rfl rfl J3 D2 Y1 E0 E0 ?_);intro h1 d1 v1 Io Zp jr yo;refine yf fun HP H2=>?_;clear q0;have q0:v1.cell? ⟨B,2+2,Hn⟩=Gn (.slice (Gn ⟨h0,0,Hn⟩) (me+1:Nat) d0):=(HP.out.2.cell (j:=4) E0).trans U3;have zQ:v1.frozen? ⟨B,2+2,Hn⟩=false:=HP.out.2.frozen 4;clear Io Zp jr yo HP OH1 H1;have OH2:Hid (∀o,(World.alloc (v1.setCell ⟨B,4,Hn⟩ (.slice (Gn ⟨h1,0,Hn⟩) (me+1+1:Nat) d1)) o).ownsRow 0 26 1 (.slice (Gn ⟨h1,0,Hn⟩) (me+1+1:Nat) d1) (me+1+1) (iw++[(.slice pl q cl)]++[(.slice (Gn ⟨g1,0,Hn⟩) (q+1:Nat) gp)])):=fun o=>xo H2.out.own P8;go_wp2_with (at_builtin;refine Eo _ rfl _ _ 75 rfl 0 26 _ 1 24 underlying75 UF rfl E0 (.slice (Gn ⟨h1,0,Hn⟩) (me+1+1:Nat) d1) (me+1+1) (iw++[(.slice pl q cl)]++[(.slice (Gn ⟨g1,0,Hn⟩) (q+1:Nat) gp)]) rfl (by exact OH2.out _) v1.heap.size [(.slice (Gn ⟨g2,0,Hn⟩) (q+2:Nat) dq)] 26 rfl rfl J3 D2 Y1 E0 E0 ?_);intro h2 d2 v2 Io Zp jr yo;refine zf fun HP H3=>?_;clear q0;have q0:v2.cell? ⟨B,2+2,Hn⟩=Gn (.slice (Gn ⟨h1,0,Hn⟩) (me+1+1:Nat) d1):=(HP.out.2.cell (j:=4) E0).trans U3;have zQ:v2.frozen? ⟨B,2+2,Hn⟩=false:=HP.out.2.frozen 4;clear Io Zp jr yo HP OH2 H2;have OH3:Hid (∀o,(World.alloc (v2.setCell ⟨B,4,Hn⟩ (.slice (Gn ⟨h2,0,Hn⟩) (me+1+1+1:Nat) d2)) o).ownsRow 0 26 1 (.slice (Gn ⟨h2,0,Hn⟩) (me+1+1+1:Nat) d2) (me+1+1+1) (iw++[(.slice pl q cl)]++[(.slice (Gn ⟨g1,0,Hn⟩) (q+1:Nat) gp)]++[(.slice (Gn ⟨g2,0,Hn⟩) (q+2:Nat) dq)])):=fun o=>xo H3.out.own P8;go_wp2_with (at_builtin;refine Eo _ rfl _ _ 75 rfl 0 26 _ 1 24 underlying75 UF rfl E0 (.slice (Gn ⟨h2,0,Hn⟩) (me+1+1+1:Nat) d2) (me+1+1+1) (iw++[(.slice pl q cl)]++[(.slice (Gn ⟨g1,0,Hn⟩) (q+1:Nat) gp)]++[(.slice (Gn ⟨g2,0,Hn⟩) (q+2:Nat) dq)]) rfl (by exact OH3.out _) v2.heap.size [(.slice (Gn ⟨g3,0,Hn⟩) (q+3:Nat) Lq)] 26 rfl rfl J3 D2 Y1 E0 E0 ?_);intro h3 d3 v3 Io Zp jr yo;refine Af fun HP H4=>?_;clear q0;have q0:v3.cell? ⟨B,2+2,Hn⟩=Gn (.slice (Gn ⟨h2,0,Hn⟩) (me+1+1+1:Nat) d2):=(HP.out.2.cell (j:=4) E0).trans U3;have zQ:v3.frozen? ⟨B,2+2,Hn⟩=false:=HP.out.2.frozen 4;exact Da
theorem wJ:∀(n:Nat)(L:List Int),L.Nodup->(∀x∈L,0<=x/\x<n)->L.length<=n
 |0,L,_,h=>by
  cases L with
  |nil=>simp
  |cons x L=>have:=h x (List.mem_cons_self ..);omega
 |n+1,L,hd,h=>by
  by_cases hm:(n:Int)∈L
  ·have h1:=List.length_erase_of_mem hm;have h2:=wJ n (L.erase (n:Int)) (hd.erase _) (fun x hx=>by
    have h3:=h x (List.mem_of_mem_erase hx);have h4:x≠(n:Int):=fun e=>by rw[e]at hx;exact hd.not_mem_erase hx
    omega)
   have h5:0<L.length:=List.length_pos_of_mem hm;omega
  ·have:=wJ n L hd (fun x hx=>by
    have h3:=h x hx;have h4:x≠(n:Int):=fun e=>hm (by rw[<-e];exact hx);omega)
   omega
structure QK(nC k:Nat)(fr Au:Nat->Int)(cell:Int)(L:List Int)(at_ x:Nat):Prop where
 nd:L.Nodup
 rng:∀y∈L,0<=y/\y<nC
 has:cell∈L
 old:∀a,a<at_->a<L.length->∀j,j<k->Au j=L.getD a 0->fr j∈L
 now:at_<L.length->∀j,j<x->Au j=L.getD at_ 0->fr j∈L
 min:∀P:Int->Prop,P cell->(∀j,j<k->P (Au j)->P (fr j))->∀y∈L,P y
section
variable {nC k at_ x:Nat}{fr Au:Nat->Int}{cell:Int}{L:List Int}
theorem QK.start(h:0<=cell/\cell<nC):QK nC k fr Au cell [cell] 0 0:=
 ⟨P0,fun y hy=>by simp at hy;subst hy;exact h,P0,fun a ha=>absurd ha E0,fun _ j hj=>absurd hj E0,fun P h1 _ y hy=>by simp at hy;subst hy;exact h1⟩
section
variable (h:QK nC k fr Au cell L at_ x)
include h
theorem QK.len:L.length<=nC:=wJ nC L h.nd h.rng
theorem QK.pass(hp:Au x=L.getD at_ 0->fr x∈L):QK nC k fr Au cell L at_ (x+1):=
 ⟨h.nd,h.rng,h.has,h.old,fun hl j hj e=>by
  rcases Nat.lt_or_ge j x with yo|hge
  ·exact h.now hl j yo e
  ·obtain rfl:j=x:=by omega
   exact hp e,h.min⟩
theorem QK.add(hl:at_<L.length)(hx:x<k)(ht:Au x=L.getD at_ 0)(hn:¬fr x∈L)(hr:0<=fr x/\fr x<nC):QK nC k fr Au cell (L++[fr x]) at_ (x+1):=by
 have hg:∀a,a<L.length->(L++[fr x]).getD a 0=L.getD a 0:=fun a ha=>by simp only[List.getD,Em ha]
 refine⟨?_,fun y hy=>?_,List.mem_append_left _ h.has,fun a ha _ j hj e=>?_,fun _ j hj e=>?_,fun P h1 h2 y hy=>?_⟩
 ·rw[List.nodup_append];refine⟨h.nd,P0,fun a ha b hb e=>?_⟩;rw[List.mem_singleton]at hb;subst hb;exact hn (e▸ha)
 ·rcases List.mem_append.1 hy with hy|hy
  ·exact h.rng y hy
  ·rw[List.mem_singleton]at hy;subst hy;exact hr
 ·rw[hg a E0]at e;exact List.mem_append_left _ (h.old a ha E0 j hj e)
 ·rw[hg at_ hl]at e;rcases Nat.lt_or_ge j x with yo|hge
  ·exact List.mem_append_left _ (h.now hl j yo e)
  ·obtain rfl:j=x:=by omega
   exact List.mem_append_right _ (List.mem_singleton.2 rfl)
 ·rcases List.mem_append.1 hy with hy|hy
  ·exact h.min P h1 h2 y hy
  ·rw[List.mem_singleton]at hy;subst hy;refine h2 x hx (h.min P h1 h2 _ ?_);rw[ht];simp[hl]
end
theorem QK.next(h:QK nC k fr Au cell L at_ k)(hl:at_<L.length):QK nC k fr Au cell L (at_+1) 0:=
 ⟨h.nd,h.rng,h.has,fun a ha hal j hj e=>by
  rcases Nat.lt_or_ge a at_ with yo|hge
  ·exact h.old a yo hal j hj e
  ·obtain rfl:a=at_:=by omega
   exact h.now hl j hj e,fun _ j hj=>absurd hj E0,h.min⟩
theorem QK.closed(h:QK nC k fr Au cell L at_ x)(hl:L.length<=at_):∀j,j<k->Au j∈L->fr j∈L:=fun j hj hm=>by
 obtain⟨a,ha,e⟩:=List.mem_iff_getElem.1 hm;exact h.old a E0 ha j hj (by rw[<-e];simp[ha])
end
theorem getD_mem{L:List Int}{n:Nat}{v:Int}(hn:L.length=n)(h:∀j,j<n->L.getD j 0≠v):¬v∈L:=fun hm=>by
 obtain⟨a,ha,e⟩:=List.mem_iff_getElem.1 hm;exact h a E0 (by rw[<-e];simp[ha])
theorem getD_in{L:List Int}{n j:Nat}{v:Int}(hn:L.length=n)(hj:j<n)(h:L.getD j 0=v):v∈L:=by
 subst hn;rw[<-h];simp[hj]
section
variable (p:Option Vm)(n c:Nat)(L:List Int)(v:Int)(w:En)(hn:L.length=n)(hb:n<=1000000)(hs:Sl w p n (fun j=>.int .i64 (L.getD j 0)))
include p n c L v w hn hb hs
theorem UY:
  Zm prog 80 #[.slice p n c,.int .i64 v] w fun e w'=>(∃r:Int,e=.returned (.int .i64 r)/\(0<=r↔v∈L))/\w'=w:=by
 have HS:Hid (Sl w p n (fun j=>.int .i64 (L.getD j 0))):=hs;have HN:Hid (L.length=n):=hn;clear hs hn
 go_enter func80,ntmps80
 go_wp2_with fail
 go_loopw [8] (fun i wr=>∃k:Nat,k<=n/\i=.int .i64 k/\Hid (∀j,j<k->L.getD j 0≠v)/\wr=w) (fun i _=>n-(intOf i).toNat)
 case atStart=>exact⟨0,Pm _,rfl,fun j hj=>absurd hj E0,rfl⟩
 case round=>
  obtain⟨k,hk,rfl,HK,rfl⟩:=hrel;by_cases yo:k<n
  ·have lG:(k:Int)<(n:Int):=by omega
   obtain⟨b,o,rfl,hc⟩:=HS.out.at (show 0<n by omega);have c0:=hc k yo;clear hc;obtain⟨y,HY⟩:∃y,Hid (L.getD k 0=y):=⟨_,rfl⟩;rw[HY.out]at c0;by_cases he:v=y
   ·have HIN:Hid (v∈L):=getD_in HN.out yo (HY.out.trans he.symm);subst he;go_wp2_with fail;go_ret;exact⟨⟨(k:Int),rfl,fun _=>HIN.out,fun _=>E0⟩,rfl⟩
   ·have HK2:Hid (∀j,j<k+1->L.getD j 0≠v):=fun j hj=>by
     rcases Nat.lt_or_ge j k with h|h
     ·exact HK.out j h
     ·obtain rfl:j=k:=by omega
      rw[HY.out];exact fun e=>he e.symm
    exact Ik
  ·obtain rfl:k=n:=by omega
   have HNO:Hid (¬v∈L):=getD_mem HN.out HK.out;go_wp2_with fail;go_ret;exact⟨⟨-1,rfl,fun h=>absurd h E0,fun h=>absurd h HNO.out⟩,rfl⟩
theorem vG:
  Zm prog 54 #[.slice p n c,.int .i64 v] w fun e w'=>e=.returned (.bool (decide (v∈L)))/\w'=w:=by
 have H:Hid (Zm prog 80 #[.slice p n c,.int .i64 v] w fun e w'=>(∃r:Int,e=.returned (.int .i64 r)/\(0<=r↔v∈L))/\w'=w):=UY p n c L v w hn hb hs;clear hs hn
 go_enter func54,ntmps54
 go_wp2_with fail
 refine H.out.mono ?_;rintro e w' ⟨⟨r,rfl,hr⟩,rfl⟩;by_cases h0:0<=r
 ·have iu:Hid (v∈L):=hr.1 h0;clear hr;go_wp2_with fail;go_ret;exact⟨by simp[iu.out],rfl⟩
 ·have iu:Hid (¬v∈L):=fun h=>h0 (hr.2 h);clear hr;go_wp2_with fail;go_ret;exact⟨by simp[iu.out];omega,rfl⟩
end
end Go.Proofs.YtdoghgnifkgfdaaGreat
