import Derived.Test.YtdoghgnifkgfdaaGreatA14
set_option maxRecDepth 100000
set_option maxHeartbeats 16000000
open Option renaming none->Hn,some->Gn
open Go renaming World->En,Value->Dn,heap_setCell_other->yn,Calls->Zm,Program->Ym,Addr->Vm
open Bool renaming true->Um,false->Tm
open Nat renaming le_trans->Qm,zero_le->Pm,lt_of_lt_of_le->Lm,add_assoc->Jm
open List renaming getElem?_append_left->Em
namespace Go.Proofs.YtdoghgnifkgfdaaGreat.Mute
open Tryz Go Go.Conc Go.RowKit
section
variable {Kb Gc n nC cq bo oo cb co nI cc nx r a:Nat}{N:Int}{Q:Nat->RC}{w:En}
theorem FQ{op:Int}(s:DL Kb Gc n nC cq bo oo cb co nI cc nx r a op N Q w)(ep:op=12\/op=13\/op=14)(Lb:Nat)(gL:Lb≠Gc)(hLb:Lb<w.heap.size)(rv av:Int)(R:En->Prop)(hR:∀V V',Jq (fun j=>j=Gc) V V'->R V->R V')(O10:∀V,Jq (fun j=>j=Gc) w V->Zm prog 115 #[.pointer (Gn ⟨Kb,0,Hn⟩),.agg #[.int .i64 op,.int .i64 r,.int .i64 a,.int .i64 N]] V fun e w'=>e=.returned (.tuple #[.int .i64 rv,.int .i64 av])/\Jq (fun j=>j=Lb) V w'/\R w'):
  Zm prog 88 #[.pointer (Gn ⟨Kb,0,Hn⟩),.int .i64 n] w fun e w'=>e=.returned (.int .i64 0)/\Tn w' Gc (nC*26) 131 (yq (Qo Q n {Q n with z:=Wn (Wn (Wn (Q n).z 45 (nx+1)) (25+r) rv) (25+a) av}))/\Jq (fun j=>j=Gc\/j=Lb) w w'/\R w':=by
 refine Qs s rfl fun B W x y hB b0 b1 b2 b3 er ea fr Kt Po fF dL Uz zy hG hn iL NM _g1 i3 i4=>?_;clear s;refine Wa ?_;have bi0:Hid (∀V,Jq (fun j=>j=Gc) w V->Zm prog 115 #[.pointer (Gn ⟨Kb,0,Hn⟩),.agg #[.int .i64 op,.int .i64 r,.int .i64 a,.int .i64 N]] V fun e w'=>e=.returned (.tuple #[.int .i64 rv,.int .i64 av])/\Jq (fun j=>j=Lb) V w'/\R w'):=O10;have HRS:Hid (∀V V',Jq (fun j=>j=Gc) V V'->R V->R V'):=hR;have HGL:Hid (Lb≠Gc):=gL;clear O10 hR gL;have o0:(op==0)=false:=by rcases ep with rfl|rfl|rfl<;>rfl
 have o1:(op==1)=false:=by rcases ep with rfl|rfl|rfl<;>rfl
 have o2:(op==2)=false:=by rcases ep with rfl|rfl|rfl<;>rfl
 have o3:(op==3)=false:=by rcases ep with rfl|rfl|rfl<;>rfl
 have o4:(op==4)=false:=by rcases ep with rfl|rfl|rfl<;>rfl
 have o5:(op==5)=false:=by rcases ep with rfl|rfl|rfl<;>rfl
 have o6:(op==6)=false:=by rcases ep with rfl|rfl|rfl<;>rfl
 have o7:(op==7)=false:=by rcases ep with rfl|rfl|rfl<;>rfl
 have o8:(op==8)=false:=by rcases ep with rfl|rfl|rfl<;>rfl
 have o9:(op==9)=false:=by rcases ep with rfl|rfl|rfl<;>rfl
 have o10:(op==10)=false:=by rcases ep with rfl|rfl|rfl<;>rfl
 have o11:(op==11)=false:=by rcases ep with rfl|rfl|rfl<;>rfl
 have o15:(op==15)=false:=by rcases ep with rfl|rfl|rfl<;>rfl
 have o16:(op==16)=false:=by rcases ep with rfl|rfl|rfl<;>rfl
 clear ep;go_wp2_with (go_at_call 115;refine(bi0.out _ (by first|exact Po.out|exact Po.out.drew|exact Po.out.drew.drew|exact Po.out.drew.drew.drew)).mono ?_;rintro e V ⟨rfl,hV1,hV2⟩);have FB:Hid (Tn V Gc (nC*26) 131 (yq (Qo Q n {Q n with z:=Wn (Q n).z 45 (nx+1)}))):=Kt.out.of_heap (hV1.block Gc fF (fun e=>HGL.out e.symm));have hVB:V.heap[B]?=W.heap[B]?:=hV1.block B dL E0;have v1:V.cell? ⟨B,1,Hn⟩=Gn (.int .i64 r):=(World.cell?_of_block hVB).trans b1;have v2:V.cell? ⟨B,2,Hn⟩=Gn (.int .i64 a):=(World.cell?_of_block hVB).trans b2;have er1:V.cell? ⟨Gc,n*26+r,Hn⟩=Gn _:=Tn.rat FB.out (n:=n) (i:=r) E0 rfl E0;have fr1:=FB.out.frozen (n*26+r);have HV:Hid (Jq (fun j=>j=Gc\/j=Lb) w V):=⟨hV1.os.trans Po.out.os,hV1.tape.trans Po.out.tape,hV1.output.trans Po.out.output,Qm Po.out.size hV1.size,fun k hk hn=>(hV1.block k (Lm hk Po.out.size) (fun e=>hn (.inr e))).trans (Po.out.block k hk (fun e=>hn (.inl e)))⟩;have HV2:Hid (R V):=hV2;clear hV1 hV2 hVB b0 b1 b2 b3 fr er ea Kt Po bi0;go_wp2_with fail;refine Za fun nP=>?_;have k1':∀(V:En)(v:Dn),(V.setCell ⟨Gc,n*26+r,Hn⟩ v).cell? ⟨B,2,Hn⟩=V.cell? ⟨B,2,Hn⟩:=fun V v=>World.cell?_setCell_other _ _ _ _ (fun e=>U2);go_region_held3 (fun W=>W.cell? ⟨B,1,Hn⟩=Gn (.int .i64 r)/\W.cell? ⟨B,2,Hn⟩=Gn (.int .i64 a)) (go_keep) (fail);clear nP k1';have AL:Hid (Tn (V.setCell ⟨Gc,n*26+r,Hn⟩ (.int .i64 rv)) Gc (nC*26) 131 (yq (Qo Q n {Q n with z:=Wn (Wn (Q n).z 45 (nx+1)) (25+r) rv}))):=Tn.ZF (i:=r) FB.out E0 rfl rv;have ub:(V.setCell ⟨Gc,n*26+r,Hn⟩ (.int .i64 rv)).cell? ⟨B,2,Hn⟩=Gn (.int .i64 a):=(World.cell?_of_block (yn _ _ _ _ (by show B≠Gc;omega))).trans v2;have HV3:Hid (Jq (fun j=>j=Gc\/j=Lb) w (V.setCell ⟨Gc,n*26+r,Hn⟩ (.int .i64 rv))):=⟨HV.out.os,HV.out.tape,HV.out.output,by rw[size_setCell];exact HV.out.size,fun k hk hn=>(yn _ _ _ _ (fun e=>hn (.inl e))).trans (HV.out.block k hk hn)⟩;have HV4:Hid (R (V.setCell ⟨Gc,n*26+r,Hn⟩ (.int .i64 rv))):=HRS.out _ _ (tp j9 _ _) HV2.out;clear HV HV2 FB v1 v2 er1 fr1;generalize V.setCell ⟨Gc,n*26+r,Hn⟩ (.int .i64 rv)=V1 at *;have ea2:V1.cell? ⟨Gc,n*26+a,Hn⟩=Gn _:=Tn.rat AL.out (n:=n) (i:=a) E0 rfl E0;have fa2:=AL.out.frozen (n*26+a);go_wp2_with fail;have nP:∀(V:En)(v:Dn),(V.setCell ⟨Gc,n*26+a,Hn⟩ v).cell? ⟨B,2,Hn⟩=V.cell? ⟨B,2,Hn⟩:=fun V v=>World.cell?_setCell_other _ _ _ _ (fun e=>U2);go_region_held3 (fun W=>W.cell? ⟨B,2,Hn⟩=Gn (.int .i64 a)) (go_keep) (fail);clear nP;go_wp2_with fail;go_ret;exact⟨rfl,Tn.ZF (i:=a) AL.out E0 rfl av,⟨HV3.out.os,HV3.out.tape,HV3.out.output,X7,fun k hk hn=>(yn V1 ⟨Gc,n*26+a,Hn⟩ k _ (fun e=>hn (.inl e))).trans (HV3.out.block k hk hn)⟩,HRS.out _ _ (by first|exact tp j9 _ _|exact(tp j9 _ _).drew|exact(tp j9 _ _).drew.drew|exact(tp j9 _ _).drew.drew.drew) HV4.out⟩
theorem MZ(s:DL Kb Gc n nC cq bo oo cb co nI cc nx r a 16 N Q w)(c Lb kc:Nat)(Ls:Nat->Ln)(hNc:N=c)(UM:c<kc)(gL:Lb≠Gc)(gK:Kb≠Lb)(h5:w.cell? ⟨Kb,5,Hn⟩=Gn (.slice (Gn ⟨Lb,0,Hn⟩) kc kc))(hrL:Tn w Lb (kc*5) 175 (eu Ls)):
  Zm prog 88 #[.pointer (Gn ⟨Kb,0,Hn⟩),.int .i64 n] w fun e w'=>e=.returned (.int .i64 0)/\Tn w' Gc (nC*26) 131 (yq (Qo Q n {Q n with z:=Wn (Wn (Q n).z 45 (nx+1)) (25+r) (Ls c).lost}))/\Jq (fun j=>j=Gc\/j=Lb) w w'/\Tn w' Lb (kc*5) 175 (eu (Qo Ls c {Ls c with lost:=0})):=by
 refine Qs s rfl fun B W x y hB b0 b1 b2 b3 er ea fr Kt Po fF dL Uz zy hG hn iL NM _g1 i3 i4=>?_;clear s;refine Wa ?_;subst hNc;have hLb:=hrL.lt;have HL:Hid (Tn W Lb (kc*5) 175 (eu Ls)):=hrL.of_heap (Po.out.block Lb hrL.lt gL);have k5:W.cell? ⟨Kb,5,Hn⟩=Gn (.slice (Gn ⟨Lb,0,Hn⟩) kc kc):=(World.cell?_of_block (Po.out.block Kb (Rr h5) _g1)).trans h5;have eL:W.cell? ⟨Lb,c*5+1,Hn⟩=Gn (.int .i64 (Ls c).lost):=Tn.yX HL.out (n:=c) (i:=1) E0 rfl E0;have ic:(c:Int)<(kc:Int):=E0;clear hrL h5;generalize (Ls c).lost=lo at *;go_wp2_with fail;refine Za fun nP=>?_;refine zh fun k1'=>?_;have k2':∀(V:En)(v:Dn),(V.setCell ⟨Gc,n*26+r,Hn⟩ v).cell? ⟨Kb,5,Hn⟩=V.cell? ⟨Kb,5,Hn⟩:=fun V v=>World.cell?_setCell_other _ _ _ _ (fun e=>U2);have k3':∀(V:En)(v:Dn),(V.setCell ⟨Gc,n*26+r,Hn⟩ v).cell? ⟨Lb,c*5+1,Hn⟩=V.cell? ⟨Lb,c*5+1,Hn⟩:=fun V v=>World.cell?_setCell_other _ _ _ _ (fun e=>U2);go_region_held3 (fun W=>W.cell? ⟨B,1,Hn⟩=Gn (.int .i64 r)/\W.cell? ⟨Kb,5,Hn⟩=Gn (.slice (Gn ⟨Lb,0,Hn⟩) kc kc)/\W.cell? ⟨B,3,Hn⟩=Gn (.int .i64 c)/\W.cell? ⟨Lb,c*5+1,Hn⟩=Gn (.int .i64 lo)) (go_keep) (fail);clear nP k1' k2' k3';have AL:Hid (Tn (W.setCell ⟨Gc,n*26+r,Hn⟩ (.int .i64 lo)) Gc (nC*26) 131 (yq (Qo Q n {Q n with z:=Wn (Wn (Q n).z 45 (nx+1)) (25+r) lo}))):=Tn.ZF (i:=r) Kt.out E0 rfl lo;have HL2:Hid (Tn (W.setCell ⟨Gc,n*26+r,Hn⟩ (.int .i64 lo)) Lb (kc*5) 175 (eu Ls)):=HL.out.of_heap (yn _ _ _ _ gL);have u3:(W.setCell ⟨Gc,n*26+r,Hn⟩ (.int .i64 lo)).cell? ⟨B,3,Hn⟩=Gn (.int .i64 c):=(World.cell?_of_block (yn _ _ _ _ (by show B≠Gc;omega))).trans b3;have u5:(W.setCell ⟨Gc,n*26+r,Hn⟩ (.int .i64 lo)).cell? ⟨Kb,5,Hn⟩=Gn (.slice (Gn ⟨Lb,0,Hn⟩) kc kc):=(World.cell?_of_block (yn _ _ _ _ _g1)).trans k5;have HV3:Hid (Jq (fun j=>j=Gc) w (W.setCell ⟨Gc,n*26+r,Hn⟩ (.int .i64 lo))):=tp Po.out _ _;clear Kt HL b0 b1 b2 b3 er ea fr k5 eL Po;generalize W.setCell ⟨Gc,n*26+r,Hn⟩ (.int .i64 lo)=V1 at *;have eL2:V1.cell? ⟨Lb,c*5+1,Hn⟩=Gn _:=Tn.yX HL2.out (n:=c) (i:=1) E0 rfl E0;have fL2:=HL2.out.frozen (c*5+1);go_wp2_with fail;have nP:∀(V:En)(v:Dn),(V.setCell ⟨Lb,c*5+1,Hn⟩ v).cell? ⟨B,3,Hn⟩=V.cell? ⟨B,3,Hn⟩:=fun V v=>World.cell?_setCell_other _ _ _ _ (fun e=>U2);have k1':∀(V:En)(v:Dn),(V.setCell ⟨Lb,c*5+1,Hn⟩ v).cell? ⟨Kb,5,Hn⟩=V.cell? ⟨Kb,5,Hn⟩:=fun V v=>World.cell?_setCell_other _ _ _ _ (fun e=>U2);go_region_held3 (fun W=>W.cell? ⟨B,3,Hn⟩=Gn (.int .i64 c)/\W.cell? ⟨Kb,5,Hn⟩=Gn (.slice (Gn ⟨Lb,0,Hn⟩) kc kc)) (go_keep) (fail);clear nP k1';go_wp2_with fail;go_ret;exact⟨rfl,AL.out.of_heap (yn V1 ⟨Lb,c*5+1,Hn⟩ Gc _ (fun e=>gL e.symm)),⟨HV3.out.os,HV3.out.tape,HV3.out.output,X7,fun k hk hn=>(yn V1 ⟨Lb,c*5+1,Hn⟩ k _ (fun e=>hn (.inr e))).trans (HV3.out.block k hk (fun e=>hn (.inl e)))⟩,Tn.ll HL2.out rfl 0⟩
end
section
variable {L:Bt}{w0:En}{rows:List Jp}{ic g cb co n cc:Nat}{num:Int}{net:Dn}{z ci:Nat->Int}
theorem yc0{FS:En->Prop}(Et:((97:Nat)==L.ev)=Tm)(hi:rows[ic]?=Gn (jo g num net (qu cb co n cc) z))(hs:Bq L w0 cb)(Np:∀j,j<n*4->w0.cell? ⟨cb,co+j,Hn⟩=Gn (.int .i64 (ci j)))(hn:n<=48)(Yr:∀k:Nat,z 45=(k:Int)->k<n->((0<=ci (k*4)/\ci (k*4)<=9)\/ci (k*4)=15)/\(0<=ci (k*4+1)/\ci (k*4+1)<4)/\(0<=ci (k*4+2)/\ci (k*4+2)<4)/\(ci (k*4)=8\/ci (k*4)=9->0<=ci (k*4+3)/\ci (k*4+3)<n))(h45:0<=z 45/\z 45<=n)(inV:Dn)(w:En)(hF:Kn L w0 rows w):
  lz prog L FS 113 #[.pointer (Gn ⟨g,0,Hn⟩),inV,.chan (Gn L.c)] w (dp n ci z).sent
   (fun v w'=>∃op e z',dp n ci z=.on op e z'/\v=.int .i64 op/\Kn L w0 (rows.set ic (jo g num net (qu cb co n cc) z')) w')
   (fun ch w'=>∃y z',dp n ci z=.Xr y z'/\ch=brk y/\Kn L w0 (rows.set ic (jo g num net (qu cb co n cc) z')) w'):=by
 by_cases hz:z 45=n
 ·have e:dp n ci z=.Xr 3 (Wn z 46 (IntKind.i64.wrap (z 46+1))):=by unfold dp;rw[if_pos hz]
  exact(LW Et hi hz inV _ w hF).quiet.mono V2 l9 fun ch w' h=>⟨3,_,e,h.1,h.2⟩
 ·obtain⟨nx,Nx⟩:∃nx:Nat,z 45=nx:=⟨(z 45).toNat,E0⟩;have yo:nx<n:=by omega
  have ht:(z 45).toNat=nx:=E0;obtain⟨ho,⟨r0,r4⟩,⟨a0,a4⟩,hj⟩:=Yr nx Nx yo;obtain⟨R,hR⟩:∃R:Nat,ci (nx*4+1)=R:=⟨(ci (nx*4+1)).toNat,E0⟩;obtain⟨A,hA⟩:∃A:Nat,ci (nx*4+2)=A:=⟨(ci (nx*4+2)).toNat,E0⟩;have JM:(ci (nx*4+1)).toNat=R:=E0;have GM:(ci (nx*4+2)).toNat=A:=E0;have xw:R<4:=E0;have vw:A<4:=E0;have hf:Xn z=Wn (Wn z 46 (IntKind.i64.wrap (z 46+1))) 45 ((nx:Int)+1):=by unfold Xn;rw[ht]
  have Gf0:ci (nx*4)=0\/ci (nx*4)=1\/ci (nx*4)=2\/ci (nx*4)=3\/ci (nx*4)=4\/ci (nx*4)=5\/ci (nx*4)=6\/ci (nx*4)=7\/ci (nx*4)=8\/ci (nx*4)=9\/ci (nx*4)=15:=E0;rcases Gf0 with h|h|h|h|h|h|h|h|h|h|h
  ·have e:dp n ci z=.on 0 Hn (Xn z):=by simp[dp,hz,ht,h]
   exact(j_ Et hi hs Np nx Nx yo hn R A xw vw h hR hA _ rfl inV _ w hF).quiet.mono V2 (fun v w' x=>⟨0,Hn,_,e,x.1,G3⟩) (fun _ _ x=>x.elim)
  ·have e:dp n ci z=.on 1 Hn (Wn (Xn z) (25+R) (ci (nx*4+3))):=by simp[dp,hz,ht,h,JM]
   exact(ba0 Et hi hs Np nx Nx yo hn R A xw vw h hR hA _ rfl inV _ w hF).quiet.mono V2 (fun v w' x=>⟨1,Hn,_,e,x.1,G3⟩) (fun _ _ x=>x.elim)
  ·have e:dp n ci z=.on 2 Hn (Wn (Xn z) (25+R) (IntKind.i64.wrap (Xn z (25+R)+Xn z (25+A)))):=by simp[dp,hz,ht,h,JM,GM]
   exact(W90 Et hi hs Np nx Nx yo hn R A xw vw h hR hA _ rfl inV _ w hF).quiet.mono V2 (fun v w' x=>⟨2,Hn,_,e,x.1,G3⟩) (fun _ _ x=>x.elim)
  ·have e:dp n ci z=.on 3 Hn (Wn (Xn z) (25+R) (IntKind.i64.wrap (Xn z (25+R)-Xn z (25+A)))):=by simp[dp,hz,ht,h,JM,GM]
   exact(ca0 Et hi hs Np nx Nx yo hn R A xw vw h hR hA _ rfl inV _ w hF).quiet.mono V2 (fun v w' x=>⟨3,Hn,_,e,x.1,G3⟩) (fun _ _ x=>x.elim)
  ·have e:dp n ci z=.on 4 Hn (Wn (Xn z) (25+R) (IntKind.i64.wrap (Xn z (25+R)*Xn z (25+A)))):=by simp[dp,hz,ht,h,JM,GM]
   exact(aa0 Et hi hs Np nx Nx yo hn R A xw vw h hR hA _ rfl inV _ w hF).quiet.mono V2 (fun v w' x=>⟨4,Hn,_,e,x.1,G3⟩) (fun _ _ x=>x.elim)
  ·by_cases h0:Xn z (25+A)=0
   ·have e:dp n ci z=.Xr 1 (Xn z):=by simp[dp,hz,ht,h,GM,h0]
    exact(KW Et hi hs Np nx Nx yo hn R A xw vw h hR hA _ rfl F5 inV _ w hF).quiet.mono V2 (fun _ _ x=>x.elim) (fun ch w' x=>⟨1,_,e,x.1,G3⟩)
   ·have e:dp n ci z=.on 5 Hn (Wn (Xn z) (25+R) (IntKind.i64.wrap ((Xn z (25+R)).tdiv (Xn z (25+A))))):=by simp[dp,hz,ht,h,JM,GM,h0]
    exact(X90 Et hi hs Np nx Nx yo hn R A xw vw h hR hA _ rfl F5 inV _ w hF).quiet.mono V2 (fun v w' x=>⟨5,Hn,_,e,x.1,G3⟩) (fun _ _ x=>x.elim)
  ·by_cases h0:Xn z (25+A)<0\/16<=Xn z (25+A)
   ·have e:dp n ci z=.Xr 2 (Xn z):=by simp[dp,hz,ht,h,GM,h0]
    exact(YT Et hi hs Np nx Nx yo hn R A xw vw h hR hA _ rfl F5 inV _ w hF).quiet.mono V2 (fun _ _ x=>x.elim) (fun ch w' x=>⟨2,_,e,x.1,G3⟩)
   ·have e:dp n ci z=.on 6 Hn (Wn (Xn z) (25+R) (Xn z (29+(Xn z (25+A)).toNat))):=by simp[dp,hz,ht,h,JM,GM,h0]
    exact(W30 Et hi hs Np nx Nx yo hn R A xw vw h hR hA _ rfl (Xn z (25+A)).toNat E0 (by rw[<-hf];omega) inV _ w hF).quiet.mono V2 (fun v w' x=>⟨6,Hn,_,e,x.1,by rw[<-hf]at x;exact x.2⟩) (fun _ _ x=>x.elim)
  ·by_cases h0:Xn z (25+A)<0\/16<=Xn z (25+A)
   ·have e:dp n ci z=.Xr 2 (Xn z):=by simp[dp,hz,ht,h,GM,h0]
    exact(KP Et hi hs Np nx Nx yo hn R A xw vw h hR hA _ rfl F5 inV _ w hF).quiet.mono V2 (fun _ _ x=>x.elim) (fun ch w' x=>⟨2,_,e,x.1,G3⟩)
   ·have e:dp n ci z=.on 7 Hn (Wn (Xn z) (29+(Xn z (25+A)).toNat) (Xn z (25+R))):=by simp[dp,hz,ht,h,JM,GM,h0]
    exact(i_ Et hi hs Np nx Nx yo hn R A xw vw h hR hA _ rfl (Xn z (25+A)).toNat E0 (by rw[<-hf];omega) inV _ w hF).quiet.mono V2 (fun v w' x=>⟨7,Hn,_,e,x.1,by rw[<-hf]at x;exact x.2⟩) (fun _ _ x=>x.elim)
  ·have e:dp n ci z=.on 8 Hn (Wn (Xn z) 45 (ci (nx*4+3))):=by simp[dp,hz,ht,h]
   exact(V30 Et hi hs Np nx Nx yo hn R A xw vw h hR hA _ rfl inV _ w hF).quiet.mono V2 (fun v w' x=>⟨8,Hn,_,e,x.1,G3⟩) (fun _ _ x=>x.elim)
  ·by_cases h0:Xn z (25+R)=0
   ·have e:dp n ci z=.on 9 Hn (Wn (Xn z) 45 (ci (nx*4+3))):=by simp[dp,hz,ht,h,JM,h0]
    exact(X30 Et hi hs Np nx Nx yo hn R A xw vw h hR hA _ rfl F5 inV _ w hF).quiet.mono V2 (fun v w' x=>⟨9,Hn,_,e,x.1,G3⟩) (fun _ _ x=>x.elim)
   ·have e:dp n ci z=.on 9 Hn (Xn z):=by simp[dp,hz,ht,h,JM,h0]
    exact(k_ Et hi hs Np nx Nx yo hn R A xw vw h hR hA _ rfl F5 inV _ w hF).quiet.mono V2 (fun v w' x=>⟨9,Hn,_,e,x.1,G3⟩) (fun _ _ x=>x.elim)
  ·have e:dp n ci z=.on 15 (Gn (Xn z (25+R))) (Xn z):=by simp[dp,hz,ht,h,JM]
   exact(Z90 Et hi hs Np nx Nx yo hn R A xw vw h hR hA _ rfl inV w hF).mono (by rw[e,hf];rfl) (fun v w' x=>⟨15,_,_,e,x.1,G3⟩) (fun _ _ x=>x.elim)
end
def uN{α:Type}(x:Nat->α)(i:Nat)(v:α)(j:Nat):α:=if j=i then v else x j
theorem qt{α:Type}(x:Nat->α)(i:Nat)(v:α):uN x i v i=v:=if_pos rfl
theorem Vy{α:Type}(x:Nat->α){i j:Nat}(v:α)(h:j≠i):uN x i v j=x j:=if_neg h
structure Us where
 wait:List Int
 sent:List Int
 lost:Int
 shown:Int
 age:Int
 Hu:Int
 anew:Bool
structure Ys where
 nb:Nat
 eb:Nat
 qb:Nat
 sb:Nat
 k:Nat
 qm:Nat
 sm:Nat
 fr:Nat->Int
 Au:Nat->Int
def qA(ins:List (Int×Int))(op:Int)(R A:Nat)(N:Int)(z:Nat->Int)(C:Nat->Us):(Nat->Int)×(Nat->Us):=
 let c:=C N.toNat
 if op=10 then (z,uN C N.toNat {c with sent:=c.sent++[z (25+R)]})
 else if op=11 then (z,uN C N.toNat {c with Hu:=z (25+R),anew:=Um})
 else if op=12 then match c.wait with
  | []=>(Wn (Wn z (25+R) 0) (25+A) 0,C)
  |x::l=>(Wn (Wn z (25+R) x) (25+A) 1,uN C N.toNat {c with wait:=l})
 else if op=13 then (Wn (Wn z (25+R) c.shown) (25+A) c.age,C)
 else if op=14 then (Wn (Wn z (25+R) (Yt ins N).1) (25+A) (Yt ins N).2,C)
 else (Wn z (25+R) c.lost,uN C N.toNat {c with lost:=0})
def Ru(fr:Nat->Int)(num:Int)(C:Nat->Us)(i:Nat):Us:=if fr i=num then {C i with sent:=[],Hu:=0,anew:=Tm}else C i
structure ChR(rn:List Jp)(fq fs:Nat->Dn)(c:Us)(i:Nat)(pw ps:Option Nat):Prop where
 wait:Xy rn (fq (i*3)) c.wait pw
 sent:Xy rn (fq (i*3+1)) c.sent ps
 lost:fq (i*3+2)=.int .i64 c.lost
 shown:fs (i*4)=.int .i64 c.shown
 age:fs (i*4+1)=.int .i64 c.age
 Hu:fs (i*4+2)=.int .i64 c.Hu
 anew:fs (i*4+3)=.bool c.anew
abbrev Tv(K:Ys)(fq:Nat->Dn):Jp:=⟨K.qb,K.qm,156,fq⟩
abbrev Ft(K:Ys)(fs:Nat->Dn):Jp:=⟨K.sb,K.sm,158,fs⟩
structure AH(K:Ys)(rn:List Jp)(C:Nat->Us)(fq fs:Nat->Dn)(p:Nat->Option Nat):Prop where
 q:rn[0]?=Gn (Tv K fq)
 s:rn[1]?=Gn (Ft K fs)
 ch:∀i,i<K.k->ChR rn fq fs (C i) i (p (2*i)) (p (2*i+1))
 two:∀j x,p j=Gn x->2<=x
 inj:∀j j' x,p j=Gn x->p j'=Gn x->j=j'
def NR(K:Ys)(rn:List Jp)(C:Nat->Us):Prop:=0<K.k->∃fq fs p,AH K rn C fq fs p
structure UK(L:Bt)(w0:En)(K:Ys):Prop where
 sn:Bq L w0 K.nb
 n0:∃a ce,w0.cell? ⟨K.nb,0,Hn⟩=Gn (.slice a K.k ce)/\(0<K.k->a=Gn ⟨K.eb,0,Hn⟩)
 n1:0<K.k->∃cq,w0.cell? ⟨K.nb,1,Hn⟩=Gn (.slice (Gn ⟨K.qb,0,Hn⟩) K.k cq)
 n2:0<K.k->∃cs,w0.cell? ⟨K.nb,2,Hn⟩=Gn (.slice (Gn ⟨K.sb,0,Hn⟩) K.k cs)
 se:0<K.k->Bq L w0 K.eb
 e0:∀j,j<K.k->w0.cell? ⟨K.eb,j*2,Hn⟩=Gn (.int .i64 (K.fr j))
 e1:∀j,j<K.k->w0.cell? ⟨K.eb,j*2+1,Hn⟩=Gn (.int .i64 (K.Au j))
 bN:K.k*3<=K.qm
 rU:K.k*4<=K.sm
 hk:K.k<=1000
theorem Xy.move{rn Nw:List Jp}{v:Dn}{xs:List Int}{p p':Option Nat}(h:Xy rn v xs p)(hn:p=Hn->p'=Hn)(hs:∀x,p=Gn x->∃y,p'=Gn y/\Nw[y]?=rn[x]?):Xy Nw v xs p':=by
 rcases h with⟨h0,h1⟩|⟨k,r,h0,h1,h2⟩
 ·exact .inl ⟨hn h0,h1⟩
 ·obtain⟨y,e1,e2⟩:=hs k h0;exact .inr ⟨y,r,e1,by rw[e2];exact h1,h2⟩
theorem Xy.same{rn Nw:List Jp}{v:Dn}{xs:List Int}{p:Option Nat}(h:Xy rn v xs p)(hs:∀x,p=Gn x->Nw[x]?=rn[x]?):Xy Nw v xs p:=h.move id fun x hx=>⟨x,hx,hs x hx⟩
theorem Xy.shift{rn:List Jp}{v:Dn}{xs:List Int}{p:Option Nat}(h:Xy rn v xs p)(a:Jp)(ls:List Jp):Xy ((a::rn)++ls) v xs (p.map (·+1)):=
 h.move (fun e=>V2) fun x hx=>⟨x+1,by rw[hx];rfl,by
  rcases h with⟨h0,_⟩|⟨k,r,h0,h1,_⟩
  ·rw[h0]at hx;cases hx
  ·obtain rfl:k=x:=by rw[h0]at hx;exact Option.some.inj hx
   rw[show (a::rn)++ls=a::(rn++ls)from rfl,List.getElem?_cons_succ,Em (List.getElem?_eq_some_iff.1 h1).1]⟩
section
variable {K:Ys}{rn:List Jp}{C:Nat->Us}{fq fs:Nat->Dn}{p:Nat->Option Nat}{i:Nat}
theorem AH.lt{rn:List Jp}(h:AH K rn C fq fs p){i:Nat}(hi:i<K.k){x:Nat}:(p (2*i)=Gn x->x<rn.length)/\(p (2*i+1)=Gn x->x<rn.length):=by
 constructor
 ·intro e;rcases (h.ch i hi).wait with⟨h0,_⟩|⟨k,r,h0,h1,_⟩
  ·rw[h0]at e;cases e
  ·rw[h0]at e;cases e;exact(List.getElem?_eq_some_iff.1 h1).1
 ·intro e;rcases (h.ch i hi).sent with⟨h0,_⟩|⟨k,r,h0,h1,_⟩
  ·rw[h0]at e;cases e
  ·rw[h0]at e;cases e;exact(List.getElem?_eq_some_iff.1 h1).1
section
variable (h:AH K rn C fq fs p)(hi:i<K.k)
include h hi
theorem AH.B00(x:Int):AH K (rn.set 0 ((Tv K fq).put (i*3+2) (.int .i64 x))) (uN C i {C i with lost:=x}) (upd fq (i*3+2) (.int .i64 x)) fs p:=by
 refine⟨ao h.q _,F8,fun j hj=>?_,h.two,h.inj⟩;have hc:=h.ch j hj;have hs:∀{v xs q},Xy rn v xs q->(∀y,q=Gn y->2<=y)->Xy (rn.set 0 ((Tv K fq).put (i*3+2) (.int .i64 x))) v xs q:=fun hl h2=>hl.same fun y hy=>Fo G6 _;refine Il fun a1 a2=>?_;by_cases gy:j=i
 ·subst gy;rw[qt];exact⟨A8,D8,upd_same _ _ _,hc.shown,hc.age,hc.Hu,hc.anew⟩
 ·rw[Vy _ _ gy];exact Ae
theorem AH.vc0(x:Int)(b:Bool):AH K (rn.set 1 (((Ft K fs).put (i*4+2) (.int .i64 x)).put (i*4+3) (.bool b))) (uN C i {C i with Hu:=x,anew:=b}) fq (upd (upd fs (i*4+2) (.int .i64 x)) (i*4+3) (.bool b)) p:=by
 refine⟨G8,ao h.s _,fun j hj=>?_,h.two,h.inj⟩;have hc:=h.ch j hj;have hs:∀{v xs q},Xy rn v xs q->(∀y,q=Gn y->2<=y)->Xy (rn.set 1 (((Ft K fs).put (i*4+2) (.int .i64 x)).put (i*4+3) (.bool b))) v xs q:=fun hl h2=>hl.same fun y hy=>Fo G6 _;refine Il fun a1 a2=>?_;by_cases gy:j=i
 ·subst gy;rw[qt];exact⟨a1,a2,hc.lost,by rw[upd_ne _ _ E0,upd_ne _ _ E0];exact hc.shown,by rw[upd_ne _ _ E0,upd_ne _ _ E0];exact hc.age,by rw[upd_ne _ _ E0,upd_same],upd_same _ _ _⟩
 ·rw[Vy _ _ gy];exact⟨a1,a2,hc.lost,by rw[upd_ne _ _ E0,upd_ne _ _ E0];exact hc.shown,by rw[upd_ne _ _ E0,upd_ne _ _ E0];exact hc.age,by rw[upd_ne _ _ E0,upd_ne _ _ E0];exact hc.Hu,by rw[upd_ne _ _ E0,upd_ne _ _ E0];exact hc.anew⟩
theorem AH.take{x:Int}{l:List Int}(hw:(C i).wait=x::l){k:Nat}{rk:Jp}(hp:p (2*i)=Gn k)(hk:rn[k]?=Gn rk)(hr:fq (i*3)=.slice (Gn ⟨rk.g,0,Hn⟩) (l.length+1:Nat) rk.m):
  AH K ((rn.set k {rk with f:=fun j=>if j<l.length then rk.f (j+1)else if j=l.length then .int .i64 0 else rk.f j}).set 0 ((Tv K fq).put (i*3) (.slice (Gn ⟨rk.g,0,Hn⟩) l.length rk.m))) (uN C i {C i with wait:=l}) (upd fq (i*3) (.slice (Gn ⟨rk.g,0,Hn⟩) l.length rk.m)) fs p:=by
 have jG:=h.two _ _ hp;have kl:=(List.getElem?_eq_some_iff.1 hk).1;refine⟨ao (r:=Tv K fq) G8 _,by rw[Fo E0,Fo E0];exact h.s,fun j hj=>?_,h.two,h.inj⟩;have hc:=h.ch j hj;have hs:∀{v xs q},Xy rn v xs q->(∀y,q=Gn y->2<=y/\y≠k)->Xy ((rn.set k {rk with f:=fun j=>if j<l.length then rk.f (j+1)else if j=l.length then .int .i64 0 else rk.f j}).set 0 ((Tv K fq).put (i*3) (.slice (Gn ⟨rk.g,0,Hn⟩) l.length rk.m))) v xs q:=fun hl h2=>hl.same fun y hy=>by
  rw[Fo (by have:=(h2 y hy).1;omega),Fo (h2 y hy).2]
 have a2:=hs hc.sent fun y hy=>⟨h.two _ _ hy,fun e=>by have:=h.inj _ _ _ (e▸hy) hp;omega⟩;by_cases gy:j=i
 ·subst gy;rw[qt];refine⟨?_,D8,y8,hc.shown,hc.age,hc.Hu,hc.anew⟩;rw[upd_same,hp];rcases hc.wait with⟨h0,_⟩|⟨k',r',h0,h1,h2,h3,h4,h5,h6⟩
  ·rw[h0]at hp;cases hp
  ·obtain rfl:k'=k:=by rw[h0]at hp;exact Option.some.inj hp
   obtain rfl:r'=rk:=by rw[h1]at hk;exact Option.some.inj hk
   rw[hw]at h4 h6;have h4':l.length+1<=r'.m:=h4;refine .inr ⟨k',{r' with f:=fun j=>if j<l.length then r'.f (j+1)else if j=l.length then .int .i64 0 else r'.f j},rfl,by rw[Fo E0];exact ao h1 _,h2,rfl,(show l.length<=r'.m by omega),h5,fun m hm=>?_⟩;change m<l.length at hm;show (if m<l.length then r'.f (m+1)else _)=_;rw[if_pos hm,h6 (m+1) (by simp;exact hm)];simp
 ·rw[Vy _ _ gy];have a1:=hs hc.wait fun y hy=>⟨h.two _ _ hy,fun e=>by have:=h.inj _ _ _ (e▸hy) hp;omega⟩;exact Ae
theorem AH.send{x:Int}{v':Dn}{Nw:List Jp}{q:Option Nat}(h0:Nw[0]?=Gn ((Tv K fq).put (i*3+1) v'))(hl:Xy Nw v' ((C i).sent++[x]) q)(hq:q=p (2*i+1)\/q=Gn rn.length)(hk:∀k,k≠0->p (2*i+1)≠Gn k->k<rn.length->Nw[k]?=rn[k]?):
  AH K Nw (uN C i {C i with sent:=(C i).sent++[x]}) (upd fq (i*3+1) v') fs (fun j=>if j<2*K.k then (if j=2*i+1 then q else p j)else Hn):=by
 have l1:=(List.getElem?_eq_some_iff.1 h.s).1;refine⟨h0,?_,fun j hj=>?_,fun j y hy=>?_,fun j j' y hy XC=>?_⟩
 ·rw[hk 1 E0 (fun e=>by have:=h.two _ _ e;omega) l1];exact h.s
 ·have hc:=h.ch j hj;have yo:=fun{x:Nat}=>h.lt hj (x:=x);have ks:∀{v xs q'} (jj:Nat),q'=p jj->jj≠2*i+1->(∀y,q'=Gn y->y<rn.length)->Xy rn v xs q'->Xy Nw v xs q':=fun jj e Yp hb hl=>hl.same fun y hy=>hk y (by have:=h.two jj y (e▸hy);omega) (fun e2=>Yp (h.inj jj _ y (e▸hy) e2)) (hb y hy);have a1:=ks (2*j) rfl E0 (fun y hy=>yo.1 hy) hc.wait;show ChR Nw _ fs _ j (if 2*j<2*K.k then (if 2*j=2*i+1 then q else p (2*j))else Hn) (if 2*j+1<2*K.k then (if 2*j+1=2*i+1 then q else p (2*j+1))else Hn);rw[if_pos E0,if_neg E0,if_pos E0];by_cases gy:j=i
  ·subst gy;rw[qt,if_pos rfl];exact⟨A8,by rw[upd_same];exact hl,y8,hc.shown,hc.age,hc.Hu,hc.anew⟩
  ·rw[Vy _ _ gy,if_neg E0];have a2:=ks (2*j+1) rfl E0 (fun y hy=>yo.2 hy) hc.sent;exact Ae
 ·change (if j<2*K.k then (if j=2*i+1 then q else p j)else Hn)=Gn y at hy;by_cases hj:j<2*K.k
  ·rw[if_pos hj]at hy;by_cases e:j=2*i+1
   ·rw[if_pos e]at hy;rcases hq with rfl|rfl
    ·exact h.two _ _ hy
    ·have:=Option.some.inj hy;omega
   ·rw[if_neg e]at hy;exact h.two _ _ hy
  ·exact Uk
 ·change (if j<2*K.k then (if j=2*i+1 then q else p j)else Hn)=Gn y at hy;change (if j'<2*K.k then (if j'=2*i+1 then q else p j')else Hn)=Gn y at XC;have hb:∀m,m<2*K.k->p m=Gn rn.length->False:=fun m hm e=>by
   have hm2:m/2<K.k:=E0;rcases Nat.mod_two_eq_zero_or_one m with e0|e0
   ·have:m=2*(m/2):=by omega
    rw[this]at e;exact absurd ((h.lt hm2).1 e) E0
   ·have:m=2*(m/2)+1:=by omega
    rw[this]at e;exact absurd ((h.lt hm2).2 e) E0
  by_cases hj:j<2*K.k
  ·by_cases kz:j'<2*K.k
   ·rw[if_pos hj]at hy;rw[if_pos kz]at XC;by_cases e:j=2*i+1
    ·by_cases e':j'=2*i+1
     ·omega
     ·rw[if_pos e]at hy;rw[if_neg e']at XC;rcases hq with rfl|rfl
      ·exact Zh
      ·cases hy;exact(hb j' kz XC).elim
    ·rw[if_neg e]at hy;by_cases e':j'=2*i+1
     ·rw[if_pos e']at XC;rcases hq with rfl|rfl
      ·exact Zh
      ·cases XC;exact(hb j hj hy).elim
     ·rw[if_neg e']at XC;exact h.inj _ _ _ hy XC
   ·rw[if_neg kz]at XC;cases XC
  ·exact Uk
end
theorem AH.forget(h:AH K rn C fq fs p)(num:Int):AH K ((rn.set 0 ((Tv K fq).xu K.fr num K.k)).set 1 ((Ft K fs).yu K.fr num K.k)) (Ru K.fr num C) ((Tv K fq).xu K.fr num K.k).f ((Ft K fs).yu K.fr num K.k).f (fun j=>if j%2=1/\K.fr (j/2)=num then Hn else p j):=by
 refine⟨by rw[Fo E0];exact ao h.q _,ao (r:=Ft K fs) F8 _,fun j hj=>?_,fun j y hy=>?_,fun j j' y hy XC=>?_⟩
 ·have hc:=h.ch j hj;have hs:∀{v xs q},Xy rn v xs q->(∀y,q=Gn y->2<=y)->Xy ((rn.set 0 ((Tv K fq).xu K.fr num K.k)).set 1 ((Ft K fs).yu K.fr num K.k)) v xs q:=fun hl h2=>hl.same fun y hy=>by
   have:=h2 y hy;rw[Fo E0,Fo E0]
  refine Il fun a1 a2=>?_;have m1:(j*3)%3=0:=E0;have m2:(j*3+1)%3=1:=E0;have m3:(j*3+2)%3=2:=E0;have d2:(j*3+1)/3=j:=E0;have n0:(j*4)%4=0:=E0;have n1:(j*4+1)%4=1:=E0;have n2:(j*4+2)%4=2:=E0;have n3:(j*4+3)%4=3:=E0;have f2:(j*4+2)/4=j:=E0;have f3:(j*4+3)/4=j:=E0;have p0:(2*j)%2=0:=E0;have p1:(2*j+1)%2=1:=E0;have p2:(2*j+1)/2=j:=E0;by_cases hf:K.fr j=num
  ·refine⟨?_,?_,?_,?_,?_,?_,?_⟩<;>simp[Jp.xu,Jp.yu,Ru,m1,m2,m3,d2,n0,n1,n2,n3,f2,f3,p0,p1,p2,hf,hj,hc.lost,hc.shown,hc.age]
   ·exact a1
   ·exact .inl ⟨rfl,rfl,rfl⟩
  ·refine⟨?_,?_,?_,?_,?_,?_,?_⟩<;>simp[Jp.xu,Jp.yu,Ru,m1,m2,m3,d2,n0,n1,n2,n3,f2,f3,p0,p1,p2,hf,hj,hc.lost,hc.shown,hc.age,hc.Hu,hc.anew]
   ·exact a1
   ·exact a2
 ·change (if j%2=1/\K.fr (j/2)=num then Hn else p j)=Gn y at hy;split at hy
  ·cases hy
  ·exact h.two _ _ hy
 ·change (if j%2=1/\K.fr (j/2)=num then Hn else p j)=Gn y at hy;change (if j' % 2=1/\K.fr (j' / 2)=num then Hn else p j')=Gn y at XC;split at hy
  ·cases hy
  ·split at XC
   ·cases XC
   ·exact h.inj _ _ _ hy XC
end
theorem Ao.to{P:Ym}{main:Bool}{R:En->En->Prop}{D:En->En->Array Event->Prop}{f:FuncId}{args:Array Dn}{w:En}{Post XJ:Dn->En->Prop}{Die:List PanicEntry->En->Prop}(h:Ao P main R D f args w Post Die)(hp:∀v w',Post v w'->XJ v w'):Ao P main R D f args w XJ Die:=
 fun cl cs Bo h1 h2=>h cl cs Bo (fun v w' x=>h1 v w' (hp v w' x)) h2
section
variable {L:Bt}{w0 w':En}{rn ls Iq:List Jp}{a rq:Jp}{v':Dn}{xs:List Int}{P p':Option Nat}
theorem G30(hP:∀y,P=Gn y->y<rn.length)(hn:1<=rn.length)(hK:Kn L w0 Iq w')(h1:Iq[1]?=Gn rq)(hl:Xy Iq v' xs p')(iy:((a::rn)++ls).length<=Iq.length)(hk:∀k,k≠1->P.map (·+1)≠Gn k->k<((a::rn)++ls).length->Iq[k]?=((a::rn)++ls)[k]?)(lV:p'=P.map (·+1)\/p'=Gn ((a::rn)++ls).length):
  ∃Nw q,Kn L w0 ((a::Nw)++ls) w'/\Nw[0]?=Gn rq/\Xy Nw v' xs q/\(q=P\/q=Gn rn.length)/\(∀k,k≠0->P≠Gn k->k<rn.length->Nw[k]?=rn[k]?):=by
 have nt0:rn.length+1+ls.length<=Iq.length:=by simpa[Nat.add_comm,Nat.add_left_comm,Jm]using iy
 have e0:Iq[0]?=Gn a:=by
  rw[hk 0 E0 (by cases P<;>simp) P0];rfl
 obtain⟨mid,fk0⟩:∃mid,mid=(Iq.drop 1).take rn.length:=⟨_,rfl⟩;have ml:mid.length=rn.length:=by rw[fk0];simp;omega
 have mg:∀k,k<rn.length->mid[k]?=Iq[k+1]?:=fun k DC=>by rw[fk0,List.getElem?_take,if_pos DC,List.getElem?_drop,Nat.add_comm]
 have lg:∀m,m<ls.length->Iq[rn.length+1+m]?=ls[m]?:=fun m hm=>by
  rw[hk _ E0 (fun e=>?_) A1,List.getElem?_append_right (by simp only[List.length_cons];omega)]
  ·congr 1;rw[List.length_cons];omega
  ·cases hPx:P with
   |none=>rw[hPx]at e;cases e
   |some y=>rw[hPx]at e;have:=hP y hPx;have e:y+1=_:=Option.some.inj e;omega
 have kp:∀k,k≠0->P≠Gn k->k<rn.length->mid[k]?=rn[k]?:=fun k h0 Yp DC=>by
  rw[mg k DC,hk (k+1) E0 (fun e=>?_) A1]
  ·rw[show (a::rn)++ls=a::(rn++ls)from rfl,List.getElem?_cons_succ,Em DC]
  ·cases hPx:P with
   |none=>rw[hPx]at e;cases e
   |some y=>rw[hPx]at e;have e:y+1=_:=Option.some.inj e;exact Yp (by rw[hPx];congr 1;omega)
 rcases lV with lV|lV
 ·refine⟨mid,P,hK.sub id (fun i r hi=>?_) (fun _ _ _ _ e=>e),by rw[mg 0 E0];exact h1,?_,.inl rfl,kp⟩
  ·show Iq[i]?=Gn r;rw[<-hi];cases i with
   |zero=>rw[e0];rfl
   |succ i=>
    rw[show (a::mid)++ls=a::(mid++ls)from rfl,List.getElem?_cons_succ,List.getElem?_append];by_cases yo:i<mid.length
    ·rw[if_pos yo,mg i E0]
    ·rw[if_neg yo,ml];have:i-rn.length<ls.length:=by
      have:=(List.getElem?_eq_some_iff.1 hi).1;simp at this;omega
     rw[<-lg _ this];congr 1;omega
  ·refine hl.move (fun e=>?_) (fun x hx=>?_)
   ·rw[lV]at e;cases hPx:P with
    |none=>rfl
    |some y=>rw[hPx]at e;cases e
   ·rw[lV]at hx;cases hPx:P with
    |none=>rw[hPx]at hx;cases hx
    |some y=>
     rw[hPx]at hx;have:y+1=x:=Option.some.inj hx;exact⟨y,rfl,by rw[mg y (hP y hPx),this]⟩
 ·obtain⟨r,hr⟩:∃r,Iq[rn.length+1+ls.length]?=Gn r:=by
   rcases hl with⟨h0,_⟩|⟨k,r,h0,hr,_⟩
   ·rw[h0]at lV;cases lV
   ·refine⟨r,?_⟩;rw[h0]at lV;have:=Option.some.inj lV;rw[<-hr,this];congr 1;simp;omega
  refine⟨mid++[r],Gn rn.length,hK.sub (fun i=>if i<rn.length+1 then i else if i=rn.length+1 then rn.length+1+ls.length else i-1) (fun i r' hi=>?_) (fun i j hi hj e=>?_),?_,?_,.inr rfl,fun k h0 Yp DC=>?_⟩
  ·show Iq[(if i<rn.length+1 then i else if i=rn.length+1 then rn.length+1+ls.length else i-1)]?=Gn r';rw[<-hi];cases i with
   |zero=>rw[if_pos E0,e0];rfl
   |succ i=>
    rw[show (a::(mid++[r]))++ls=a::(mid++[r]++ls)from rfl,List.getElem?_cons_succ,List.getElem?_append,List.getElem?_append];simp only[List.length_append,List.length_singleton,ml];by_cases h2:i<rn.length
    ·rw[if_pos E0,if_pos E0,if_pos h2,mg i h2]
    ·by_cases h3:i=rn.length
     ·subst h3;rw[if_neg E0,if_pos rfl,if_pos E0,if_neg E0,hr];simp
     ·rw[if_neg E0,if_neg E0,if_neg E0];have:i-(rn.length+1)<ls.length:=by
       have:=(List.getElem?_eq_some_iff.1 hi).1;simp[ml]at this;omega
      rw[<-lg _ this];congr 1;omega
  ·simp[ml]at hi hj;revert e;show (if i<rn.length+1 then i else if i=rn.length+1 then rn.length+1+ls.length else i-1)=(if j<rn.length+1 then j else if j=rn.length+1 then rn.length+1+ls.length else j-1)->i=j;split<;>split<;>(try split)<;>(try split)<;>omega
  ·rw[Em E0,mg 0 E0];exact h1
  ·refine hl.move (fun e=>by rw[lV]at e;cases e) (fun x hx=>?_);rw[lV]at hx;have:=Option.some.inj hx;refine⟨rn.length,rfl,?_⟩;rw[<-this,List.getElem?_append_right E0,ml,Nat.sub_self];rw[show ((a::rn)++ls).length=rn.length+1+ls.length by simp;omega,hr];rfl
  ·rw[Em E0];exact kp k h0 Yp DC
end
section
variable {L:Bt}{w0:En}{rn ls:List Jp}{K:Ys}{C:Nat->Us}{g:Nat}{num:Int}{code inV:Dn}{z:Nat->Int}{ins:List (Int×Int)}
abbrev Kq(K:Ys)(g:Nat)(num:Int)(code:Dn)(z:Nat->Int):Jp:=jo g num (.pointer (Gn ⟨K.nb,0,Hn⟩)) code z
structure Evs(L:Bt):Prop where
 ins:((97:Nat)==L.ev)=Tm
 inn:((59:Nat)==L.ev)=Tm
 i64:((2:Nat)==L.ev)=Tm
 ends:((151:Nat)==L.ev)=Tm
theorem Bo0(he:Evs L)(hW:UK L w0 K)(iu:InR L w0 inV ins)(YH:ins.length<=1000)(hN:NR K rn C)(op:Int)(ep:op=10\/op=11\/op=12\/op=13\/op=14\/op=16)(N:Int)(hNk:op≠14->0<=N/\N<K.k)(rU:∀i,i<K.k->(C i).sent.length<=1000000000/\(C i).wait.length<=1000000000)(R A:Nat)(xw:R<4)(vw:A<4)(w:En)(hF:ko L w0 (Kq K g num code z::rn) ls w):
  Ao prog Tm L.R1 L.D1 129 #[.pointer (Gn ⟨g,0,Hn⟩),.agg #[.int .i64 op,.int .i64 R,.int .i64 A,.int .i64 N],inV] w (fun v w'=>v=.tuple #[]/\∃Nw,NR K Nw (qA ins op R A N z C).2/\ko L w0 (Kq K g num code (qA ins op R A N z C).1::Nw) ls w') (fun _ _=>False):=by
 have pU:((Kq K g num code z::rn)++ls)[0]?=Gn (jo g num (.pointer (Gn ⟨K.nb,0,Hn⟩)) code z):=rfl;by_cases mU:op=14
 ·subst mU;refine(K70 (ic:=0) (dev:=N) he.ins he.inn he.i64 pU iu YH R A xw vw w hF).to fun v w' ⟨h1,h2⟩=>⟨h1,rn,?_,h2⟩;exact hN
 ·obtain⟨hN0,hNl⟩:=hNk mU;obtain⟨i,rfl⟩:∃i:Nat,N=i:=⟨N.toNat,E0⟩;have xy:i<K.k:=by omega
  obtain⟨fq,fs,p,hx⟩:=hN E0;obtain⟨cq,n1⟩:=hW.n1 E0;obtain⟨eY,n2⟩:=hW.n2 E0;have bN:=hW.bN;have yk0:=hW.rU;have hc:=hx.ch i xy;have l0:=(List.getElem?_eq_some_iff.1 hx.q).1;have l1:=(List.getElem?_eq_some_iff.1 hx.s).1;have q1:((Kq K g num code z::rn)++ls)[1]?=Gn (Tv K fq):=by
   exact Uf
  have s1:((Kq K g num code z::rn)++ls)[2]?=Gn (Ft K fs):=by
   exact Vf
  have Ig0:∀{j:Nat}{r:Jp}{a:Jp},j<rn.length->((a::rn)++ls).set (j+1) r=(a::rn.set j r)++ls:=fun hj=>by
   rw[List.set_append_left _ _ A1];rfl
  have tn:((i:Nat):Int).toNat=i:=E0;rcases ep with rfl|rfl|rfl|rfl|rfl|rfl
  ·refine(xb0 (ic:=0) (iq:=1) he.ins he.i64 pU q1 hW.sn n1 i xy bN rfl (hc.sent.shift _ ls) (fun e=>?_) (rU i xy).1 R A xw vw inV w hF).to fun v w' ⟨h1,Iq,v',p',h2,h3,h4,h5,h6,h7⟩=>⟨h1,?_⟩
   ·cases hpx:p (2*i+1)with
    |none=>rw[hpx]at e;cases e
    |some y=>rw[hpx]at e;have:=hx.two _ _ hpx;have e:y+1=_:=Option.some.inj e;omega
   ·obtain⟨Nw,q,g1,g2,g3,g4,g5⟩:=G30 (fun y hy=>(hx.lt xy).2 hy) E0 h2 h3 h4 h5 h6 h7;have:=hx.send xy g2 g3 g4 g5;simp only[qA,tn,if_pos];exact⟨Nw,fun _=>⟨_,_,_,this⟩,g1⟩
  ·refine(L70 (ic:=0) (is:=2) he.ins pU s1 hW.sn n2 i xy yk0 R A xw vw inV w hF).to fun v w' ⟨h1,h2⟩=>⟨h1,?_⟩;rw[Ig0 l1]at h2;have:=hx.vc0 xy (z (25+R)) Um;simp only[qA,tn];exact⟨_,fun _=>⟨_,_,_,this⟩,h2⟩
  ·cases RY:(C i).wait with
   |nil=>
    have hw0:∃a cc,fq (i*3)=.slice a 0 cc:=by
     rcases hc.wait with⟨_,h,_⟩|⟨k,r,_,_,_,h,_⟩
     ·exact⟨_,_,h⟩
     ·rw[RY]at h;exact⟨_,_,h⟩
    obtain⟨a,cc,hw0⟩:=hw0;refine(JR (ic:=0) (iq:=1) he.ins pU q1 E0 hW.sn n1 i xy bN hw0 R A xw vw inV w hF).to fun v w' ⟨h1,h2⟩=>⟨h1,rn,?_,?_⟩
    ·simp only[qA,tn,RY];exact fun _=>⟨_,_,_,hx⟩
    ·simp only[qA,tn,RY];exact h2
   |cons x l=>
    obtain⟨k,rk,e1,e2,e3,e4,e5,e6,e7⟩:∃k r,p (2*i)=Gn k/\rn[k]?=Gn r/\r.t=2/\fq (i*3)=.slice (Gn ⟨r.g,0,Hn⟩) (l.length+1:Nat) r.m/\l.length+1<=r.m/\r.m<=maxLen/\∀j,j<l.length+1->r.f j=.int .i64 ((x::l).getD j 0):=by
     rcases hc.wait with⟨_,_,h⟩|⟨k,r,h1,h2,h3,h4,h5,h6,h7⟩
     ·rw[RY]at h;cases h
     ·rw[RY]at h4 h5 h7;exact⟨k,r,h1,h2,h3,h4,h5,h6,h7⟩
    have kl:=(List.getElem?_eq_some_iff.1 e2).1;have k2:=hx.two _ _ e1;have xG:((Kq K g num code z::rn)++ls)[k+1]?=Gn rk:=by
     rw[show (Kq K g num code z::rn)++ls=Kq K g num code z::(rn++ls)from rfl,List.getElem?_cons_succ,Em kl];exact e2
    have hl9:l.length<=1000000000:=by have:=(rU i xy).2;rw[RY]at this;simp at this;omega
    refine(KR (ic:=0) (iq:=1) he.ins pU q1 E0 hW.sn n1 i xy bN xG E0 E0 e3 l.length (fun j=>(x::l).getD j 0) e7 e5 e6 hl9 e4 R A xw vw inV w hF).to fun v w' ⟨h1,h2⟩=>⟨h1,?_⟩;rw[Ig0 kl,show (1:Nat)=0+1 from rfl]at h2;have l0':0<(rn.set k {rk with f:=fun j=>if j<l.length then rk.f (j+1)else if j=l.length then .int .i64 0 else rk.f j}).length:=by simpa using l0
    rw[List.set_append_left _ _ (by simp;exact l0)]at h2;have:=hx.take xy RY e1 e2 e4;simp only[qA,tn,RY];exact⟨_,fun _=>⟨_,_,_,this⟩,h2⟩
  ·refine(wb0 (ic:=0) (is:=2) he.ins pU s1 E0 hW.sn n2 i xy yk0 _ _ hc.shown hc.age R A xw vw inV w hF).to fun v w' ⟨h1,h2⟩=>⟨h1,rn,?_,?_⟩
   ·simp only[qA,tn];exact fun _=>⟨_,_,_,hx⟩
   ·simp only[qA,tn];exact h2
  ·exact absurd rfl mU
  ·refine(vb0 (ic:=0) (iq:=1) he.ins pU q1 E0 hW.sn n1 i xy bN _ hc.lost R A xw vw inV w hF).to fun v w' ⟨h1,h2⟩=>⟨h1,?_⟩;rw[show (1:Nat)=0+1 from rfl,Ig0 l0]at h2;have:=hx.B00 xy 0;simp only[qA,tn];exact⟨_,fun _=>⟨_,_,_,this⟩,h2⟩
end
section
variable {L:Bt}{w0:En}{rn ls:List Jp}{K:Ys}{C:Nat->Us}{g cb co n cc:Nat}{num:Int}{inV:Dn}{z ci:Nat->Int}{ins:List (Int×Int)}
theorem r20{a b c:List Jp}{w:En}(h:ko L w0 a (b++c) w):ko L w0 (a++b) c w:=by
 unfold ko at *;rw[List.append_assoc];exact h
theorem Y90(he:Evs L)(hW:UK L w0 K)(iu:InR L w0 inV ins)(YH:ins.length<=1000)(hN:NR K rn C)(hs:Bq L w0 cb)(Np:∀j,j<n*4->w0.cell? ⟨cb,co+j,Hn⟩=Gn (.int .i64 (ci j)))(nx:Nat)(hz:z 45=nx)(yo:nx<n)(hn:n<=48)
  (R A:Nat)(xw:R<4)(vw:A<4)(op:Int)(ep:op=10\/op=11\/op=12\/op=13\/op=14\/op=16)(Tp0:ci (nx*4)=op)(hR:ci (nx*4+1)=R)(hA:ci (nx*4+2)=A)(N:Int)(hNc:ci (nx*4+3)=N)(hNk:op≠14->0<=N/\N<K.k)(rU:∀i,i<K.k->(C i).sent.length<=1000000000/\(C i).wait.length<=1000000000)(Kz:Dn)(w:En)(hF:ko L w0 (Kq K g num (.slice (Gn ⟨cb,co,Hn⟩) n cc) z::rn) ls w):
  Ao prog Tm L.R1 L.D1 113 #[.pointer (Gn ⟨g,0,Hn⟩),inV,Kz] w (fun v w'=>v=.int .i64 op/\∃Nw,NR K Nw (qA ins op R A N (Wn (Wn z 46 (IntKind.i64.wrap (z 46+1))) 45 ((nx:Int)+1)) C).2/\ko L w0 (Kq K g num (.slice (Gn ⟨cb,co,Hn⟩) n cc) (qA ins op R A N (Wn (Wn z 46 (IntKind.i64.wrap (z 46+1))) 45 ((nx:Int)+1)) C).1::Nw) ls w') (fun _ _=>False):=by
 refine gd fun hk=>?_;have pU:((Kq K g num (.slice (Gn ⟨cb,co,Hn⟩) n cc) z::rn)++ls)[0]?=Gn (jo g num (.pointer (Gn ⟨K.nb,0,Hn⟩)) (.slice (Gn ⟨cb,co,Hn⟩) n cc) z):=rfl;refine Xt (ic:=0) he.ins pU hs Np nx hz yo hn R A xw vw Tp0 hR hA N hNc inV Kz w hF fun cl cs Bo tt _ B w3 hF=>?_;refine Zb fun iV eV=>?_;replace hF:ko L w0 ((Kq K g num (.slice (Gn ⟨cb,co,Hn⟩) n cc) (Wn (Wn z 46 (IntKind.i64.wrap (z 46+1))) 45 ((nx:Int)+1))::rn)++ls) [qp B op R A N] w3:=hF;have hex:=fun w (hF:ko L w0 ((Kq K g num (.slice (Gn ⟨cb,co,Hn⟩) n cc) (Wn (Wn z 46 (IntKind.i64.wrap (z 46+1))) 45 ((nx:Int)+1))::rn)++ls) [qp B op R A N] w)=>Bo0 (ls:=ls++[qp B op R A N]) he hW iu YH hN op ep N hNk rU R A xw vw w (by have:=hF;unfold ko at this ⊢;rw[<-List.append_assoc];exact this);rcases ep with rfl|rfl|rfl|rfl|rfl|rfl
 all_goals
  refine J9 ?_;repeat(refine .Un L.Nn [0,1] I0 ?_;iterate 2 (refine .Yo L.Nn rfl I0 hk ?_;try walk_nrm);repeat refine .c1 L.Nn rfl ?_;refine .Zq L.Nn I0 ?_;repeat refine .c1 L.Nn rfl ?_)
  refine J9 ?_;iterate 2 (try(refine .vr L.Nn I0 ?_;repeat refine .c1 L.Nn rfl ?_))
  refine Ec ?_;refine rj fun w1 K hK hF=>?_;refine jc fun a0 a1 a2 a3=>?_;refine vm ?_ ?_
  ·refine Ta ?_;exact lh
  clear hK K;clear a0 a1 a2 a3;refine um ?_;refine M9 ?_;refine Pn.bB L.Nn rfl I0 hk rfl func129 I0 rfl #[.pointer (Gn ⟨g,0,Hn⟩),.agg #[.int .i64 _,.int .i64 R,.int .i64 A,.int .i64 N],inV] J0 (hex _ hF) ?_ S8;rintro v w2 ⟨rfl,rn1,hN1,Gs⟩;replace hF:=r20 Gs;clear Gs hex;refine um ?_;refine fj fun w1 K hK hF a0 a1 a2 a3=>?_;refine vm ?_ ?_
  ·exact nj
  clear hK K;clear a0 a1 a2 a3;refine um ?_;refine qj ?_;refine Tc fun todo=>?_;exact tt _ todo _ _ rfl (Fp L.Nn I0 _) ⟨I0,rn1,hN1,hF.drop⟩
end
inductive BH where
 |on (op:Int) (iz:Option Int) (z:Nat->Int) (C:Nat->Us)
 |Xr (why:Int) (z:Nat->Int)
def BH.sent:BH->List Dn
 |.on _ (Gn x) _ _=>[iz x]
 |_=>[]
def kU.with(C:Nat->Us):kU->BH
 |.on op e z=>.on op e z C
 |.Xr y z=>.Xr y z
theorem kU.NQ(C:Nat->Us)(o:kU):(o.with C).sent=o.sent:=by
 cases o with
 |on op e z=>cases e<;>rfl
 |Xr y z=>rfl
def pF(op:Int):Prop:=op=10\/op=11\/op=12\/op=13\/op=14\/op=16
instance (op:Int):Decidable (pF op):=by unfold pF;infer_instance
def Pq(n:Nat)(ci:Nat->Int)(ins:List (Int×Int))(z:Nat->Int)(C:Nat->Us):BH:=
 if z 45≠n/\pF (ci ((z 45).toNat*4))then
  let x:=qA ins (ci ((z 45).toNat*4)) (ci ((z 45).toNat*4+1)).toNat (ci ((z 45).toNat*4+2)).toNat (ci ((z 45).toNat*4+3)) (Xn z) C
  .on (ci ((z 45).toNat*4)) Hn x.1 x.2
 else (dp n ci z).with C
def yx(n k:Nat)(ci:Nat->Int):Prop:=∀j,j<n->(0<=ci (j*4)/\ci (j*4)<=16)/\(0<=ci (j*4+1)/\ci (j*4+1)<4)/\(0<=ci (j*4+2)/\ci (j*4+2)<4)/\(ci (j*4)=8\/ci (j*4)=9->0<=ci (j*4+3)/\ci (j*4+3)<n)/\(pF (ci (j*4))->ci (j*4)≠14->0<=ci (j*4+3)/\ci (j*4+3)<k)
def ox(k b:Nat)(C:Nat->Us):Prop:=∀i,i<k->(C i).sent.length<=b/\(C i).wait.length<=b
theorem ox.le{k b b':Nat}{C:Nat->Us}(h:ox k b C)(hb:b<=b'):ox k b' C:=fun i hi=>⟨Qm (h i hi).1 hb,Qm (h i hi).2 hb⟩
theorem ox.set{k b i:Nat}{C:Nat->Us}(h:ox k b C){c:Us}(hc:c.sent.length<=b/\c.wait.length<=b):ox k b (uN C i c):=fun j hj=>by
 by_cases e:j=i
 ·subst e;rw[qt];exact hc
 ·rw[Vy _ _ e];exact h j hj
theorem ox.forget{k b:Nat}{C:Nat->Us}(h:ox k b C)(fr:Nat->Int)(num:Int):ox k b (Ru fr num C):=fun i hi=>by
 unfold Ru;split
 ·exact⟨Pm _,(h i hi).2⟩
 ·exact h i hi
theorem ub0{ins:List (Int×Int)}{op N:Int}{R A k b:Nat}{z:Nat->Int}{C:Nat->Us}(h:ox k b C)(ep:pF op)(hN:op≠14->0<=N/\N<k):ox k (b+1) (qA ins op R A N z C).2:=by
 have h1:ox k (b+1) C:=h.le E0;unfold qA;simp only[];by_cases mU:op=14
 ·subst mU;simpa using h1
 have hc:=h N.toNat (by have:=hN mU;omega);rcases ep with rfl|rfl|rfl|rfl|rfl|rfl
 ·exact h1.set ⟨A1,j7⟩
 ·exact h1.set ⟨l7,j7⟩
 ·cases hw:(C N.toNat).wait with
  |nil=>simpa[hw]using h1
  |cons x l=>
   rw[hw]at hc;have:=hc.2;simp at this;exact h1.set ⟨l7,by show l.length<=_;omega⟩
 ·exact h1
 ·exact absurd rfl mU
 ·exact h1.set ⟨l7,j7⟩
theorem J70{n:Nat}{ins:List (Int×Int)}{op N:Int}{R A:Nat}{z:Nat->Int}{C:Nat->Us}(h:aB n z)(hR:R<4)(hA:A<4):aB n (qA ins op R A N z C).1:=by
 have two:∀x y,aB n (Wn (Wn z (25+R) x) (25+A) y):=fun x y=>(h.set E0 E0 _).set E0 E0 _;unfold qA;simp only[];split
 ·exact h
 split
 ·exact h
 split
 ·split
  ·exact two _ _
  ·exact two _ _
 split
 ·exact two _ _
 split
 ·exact two _ _
 ·exact h.set E0 E0 _
theorem yx.at{n k:Nat}{ci:Nat->Int}(h:yx n k ci){nx:Nat}(yo:nx<n)(Yp:¬pF (ci (nx*4))):((0<=ci (nx*4)/\ci (nx*4)<=9)\/ci (nx*4)=15)/\(0<=ci (nx*4+1)/\ci (nx*4+1)<4)/\(0<=ci (nx*4+2)/\ci (nx*4+2)<4)/\(ci (nx*4)=8\/ci (nx*4)=9->0<=ci (nx*4+3)/\ci (nx*4+3)<n):=by
 obtain⟨h1,h2,h3,h4,_⟩:=h nx yo;refine⟨?_,h2,h3,h4⟩;unfold pF at Yp;omega
theorem g_{n:Nat}{ci z:Nat->Int}(Yr:∀k:Nat,z 45=(k:Int)->k<n->((0<=ci (k*4)/\ci (k*4)<=9)\/ci (k*4)=15)/\(0<=ci (k*4+1)/\ci (k*4+1)<4)/\(0<=ci (k*4+2)/\ci (k*4+2)<4)/\(ci (k*4)=8\/ci (k*4)=9->0<=ci (k*4+3)/\ci (k*4+3)<n))(h:aB n z):match dp n ci z with
  |.on _ _ z'=>aB n z'
  |.Xr _ z'=>z' 24=0:=by
 by_cases hz:z 45=n
 ·have e:dp n ci z=.Xr 3 (Wn z 46 (IntKind.i64.wrap (z 46+1))):=by unfold dp;rw[if_pos hz]
  rw[e];show Wn z 46 _ 24=0;rw[Kr _ _ E0];exact h.first
 ·have hf:=YE h hz;have h1:=h.lo;have h2:=h.hi;obtain⟨nx,Nx⟩:∃nx:Nat,(z 45).toNat=nx:=⟨_,rfl⟩;obtain⟨ho,hR,hA,hj⟩:=Yr nx E0 E0;unfold dp;rw[if_neg hz];simp only[Nx];have lH:(ci (nx*4+1)).toNat<4:=by omega
  have hA':(ci (nx*4+2)).toNat<4:=E0;by_cases e1:ci (nx*4)=1
  ·rw[if_pos e1];exact Vj
  rw[if_neg e1];by_cases e2:ci (nx*4)=2
  ·rw[if_pos e2];exact Vj
  rw[if_neg e2];by_cases e3:ci (nx*4)=3
  ·rw[if_pos e3];exact Vj
  rw[if_neg e3];by_cases e4:ci (nx*4)=4
  ·rw[if_pos e4];exact Vj
  rw[if_neg e4];by_cases e5:ci (nx*4)=5
  ·rw[if_pos e5];by_cases h0:Xn z (25+(ci (nx*4+2)).toNat)=0
   ·rw[if_pos h0];exact hf.first
   ·rw[if_neg h0];exact Vj
  rw[if_neg e5];by_cases e6:ci (nx*4)=6
  ·rw[if_pos e6];by_cases h0:Xn z (25+(ci (nx*4+2)).toNat)<0\/16<=Xn z (25+(ci (nx*4+2)).toNat)
   ·rw[if_pos h0];exact hf.first
   ·rw[if_neg h0];exact Vj
  rw[if_neg e6];by_cases e7:ci (nx*4)=7
  ·rw[if_pos e7];by_cases h0:Xn z (25+(ci (nx*4+2)).toNat)<0\/16<=Xn z (25+(ci (nx*4+2)).toNat)
   ·rw[if_pos h0];exact hf.first
   ·rw[if_neg h0];exact Vj
  rw[if_neg e7];by_cases e8:ci (nx*4)=8
  ·rw[if_pos e8];have:=hj (.inl e8);exact hf.jump E0 E0
  rw[if_neg e8];by_cases e9:ci (nx*4)=9
  ·rw[if_pos e9];have:=hj (.inr e9);show aB n (if _ then _ else _);split
   ·exact hf.jump E0 E0
   ·exact hf
  rw[if_neg e9];by_cases e15:ci (nx*4)=15
  ·rw[if_pos e15];exact hf
  rw[if_neg e15];exact hf
theorem zF{n k:Nat}{ci z:Nat->Int}{ins:List (Int×Int)}{C:Nat->Us}{b:Nat}(Yr:yx n k ci)(h:aB n z)(hl:ox k b C):match Pq n ci ins z C with
  |.on _ _ z' C'=>aB n z'/\ox k (b+1) C'
  |.Xr _ z'=>z' 24=0:=by
 have h1:=h.lo;have h2:=h.hi;unfold Pq;by_cases hx:z 45≠n/\pF (ci ((z 45).toNat*4))
 ·rw[if_pos hx];obtain⟨_,hR,hA,_,hN⟩:=Yr (z 45).toNat E0;exact⟨J70 (YE h hx.1) E0 E0,ub0 hl hx.2 (fun e=>hN hx.2 e)⟩
 ·rw[if_neg hx];have:=g_ (n:=n) (ci:=ci) (z:=z) (fun nx Nx yo=>Yr.at yo fun he=>hx ⟨E0,by rw[Nx];exact he⟩) h;revert this;cases dp n ci z with
  |on op e z'=>exact fun hz=>⟨hz,hl.le E0⟩
  |Xr y z'=>exact id
section
variable {L:Bt}{w0:En}{rn ls:List Jp}{K:Ys}{C:Nat->Us}{g cb co n cc:Nat}{num:Int}{inV:Dn}{z ci:Nat->Int}{ins:List (Int×Int)}
theorem Lg0{FS:En->Prop}(he:Evs L)(hW:UK L w0 K)(iu:InR L w0 inV ins)(YH:ins.length<=1000)(hN:NR K rn C)(hs:Bq L w0 cb)(Np:∀j,j<n*4->w0.cell? ⟨cb,co+j,Hn⟩=Gn (.int .i64 (ci j)))(hn:n<=48)(Yr:yx n K.k ci)(hz:aB n z)(iy:ox K.k 1000000000 C)(w:En)(hF:ko L w0 (Kq K g num (qu cb co n cc) z::rn) ls w):
  lz prog L FS 113 #[.pointer (Gn ⟨g,0,Hn⟩),inV,.chan (Gn L.c)] w (Pq n ci ins z C).sent
   (fun v w'=>∃op e z' C',Pq n ci ins z C=.on op e z' C'/\v=.int .i64 op/\∃Nw,NR K Nw C'/\ko L w0 (Kq K g num (qu cb co n cc) z'::Nw) ls w')
   (fun ch w'=>∃y z',Pq n ci ins z C=.Xr y z'/\ch=brk y/\ko L w0 (Kq K g num (qu cb co n cc) z'::rn) ls w'):=by
 have h1:=hz.lo;have h2:=hz.hi;by_cases hx:z 45≠n/\pF (ci ((z 45).toNat*4))
 ·obtain⟨nx,Nx⟩:∃nx:Nat,z 45=nx:=⟨(z 45).toNat,E0⟩;have ht:(z 45).toNat=nx:=by omega
  have yo:nx<n:=E0;obtain⟨ep,⟨r0,r4⟩,⟨a0,a4⟩,_,hNk⟩:=Yr nx yo;obtain⟨R,hR⟩:∃R:Nat,ci (nx*4+1)=R:=⟨(ci (nx*4+1)).toNat,E0⟩;obtain⟨A,hA⟩:∃A:Nat,ci (nx*4+2)=A:=⟨(ci (nx*4+2)).toNat,E0⟩;have JM:(ci (nx*4+1)).toNat=R:=E0;have GM:(ci (nx*4+2)).toNat=A:=E0;have mF:=hx.2;rw[ht]at mF;have e:Pq n ci ins z C=.on (ci (nx*4)) Hn (qA ins (ci (nx*4)) R A (ci (nx*4+3)) (Wn (Wn z 46 (IntKind.i64.wrap (z 46+1))) 45 ((nx:Int)+1)) C).1 (qA ins (ci (nx*4)) R A (ci (nx*4+3)) (Wn (Wn z 46 (IntKind.i64.wrap (z 46+1))) 45 ((nx:Int)+1)) C).2:=by
   unfold Pq;rw[if_pos hx];simp only[ht,JM,GM,Xn]
  refine(Y90 he hW iu YH hN hs Np nx Nx yo hn R A E0 E0 _ mF rfl hR hA _ rfl (fun h=>hNk mF h) (fun i hi=>⟨(iy i hi).1,(iy i hi).2⟩) (.chan (Gn L.c)) w hF).quiet.mono V2 (fun v w' x=>⟨_,Hn,_,_,e,x.1,x.2⟩) (fun _ _ x=>x.elim)
 ·have e:Pq n ci ins z C=(dp n ci z).with C:=by unfold Pq;rw[if_neg hx]
  rw[e,kU.NQ];refine(yc0 (rows:=(Kq K g num (qu cb co n cc) z::rn)++ls) (ic:=0) he.ins rfl hs Np hn (fun nx Nx yo=>Yr.at yo fun h=>hx ⟨E0,by rw[Nx];exact h⟩) ⟨h1,h2⟩ inV w hF).mono rfl (fun v w' ⟨op,x,z',e1,e2,e3⟩=>⟨op,x,z',C,by rw[e1];rfl,e2,rn,hN,e3⟩) (fun ch w' ⟨y,z',e1,e2,e3⟩=>⟨y,z',by rw[e1];rfl,e2,e3⟩)
end
structure RK where
 hi:Nat
 Kb:Nat
 Gc:Nat
 bo:Nat
 oo:Nat
 cq:Nat
 cb:Nat->Nat
 co:Nat->Nat
 cc:Nat->Nat
 iq:Nat->Option Vm
 ic:Nat->Nat
 nG:Nat->Nat
 img:Nat->Nat->Int
 lim:Nat->Int
 Lb:Nat
 kc:Nat
def du(r:RK)(w:En)(b:Nat):Prop:=b<r.hi/\(b≠r.Gc/\b≠r.Lb)/\r.hi<=w.heap.size
structure Uu(w:En)(k:RA)(r:RK)(Q:Nat->RC)(m:Nat->Nat)(xs:Nat->List Dn):Prop where
 h0:w.cell? ⟨r.Kb,0,Hn⟩=Gn (.slice (Gn ⟨r.bo,r.oo,Hn⟩) k.nC r.cq)
 h4:w.cell? ⟨r.Kb,4,Hn⟩=Gn (.slice (Gn ⟨r.Gc,0,Hn⟩) k.nC k.nC)
 sK:du r w r.Kb
 sb:du r w r.bo
 sc:∀i,i<k.nC->du r w (r.cb i)
 si:∀i,i<k.nC->∀b o,r.iq i=Gn ⟨b,o,Hn⟩->du r w b
 oh:∀i b,i<k.nC->(Q i).v.ownBlock=Gn b->r.hi<=b
 hc:∀i,i<k.nC->w.cell? ⟨r.bo,r.oo+i*3,Hn⟩=Gn (.slice (Gn ⟨r.cb i,r.co i,Hn⟩) (k.n i) (r.cc i))
 hi:∀i,i<k.nC->w.cell? ⟨r.bo,r.oo+i*3+1,Hn⟩=Gn (.slice (r.iq i) (r.nG i) (r.ic i))
 hl:∀i,i<k.nC->w.cell? ⟨r.bo,r.oo+i*3+2,Hn⟩=Gn (.int .i64 (r.lim i))
 code:∀i,i<k.nC->∀j,j<k.n i*4->w.cell? ⟨r.cb i,r.co i+j,Hn⟩=Gn (.int .i64 (k.ci i j))
 qV:∀i,i<k.nC->Sl w (r.iq i) (r.nG i) (fun j=>.int .i64 (r.img i j))
 row:Tn w r.Gc (k.nC*26) 131 (yq Q)
 own:∀i,i<k.nC->w.ownsRow 0 111 3 (Q i).v (m i) (xs i)
 Wu:∀i j,i<k.nC->j<k.nC->i≠j->∀b,(Q i).v.ownBlock=Gn b->(Q j).v.ownBlock≠Gn b
 g16:∀i,i<k.nC->r.nG i<=16
 n48:∀i,i<k.nC->k.n i<=48
 ok:∀i,i<k.nC->yx (k.n i) r.kc (k.ci i)
 fst:∀i,i<k.nC->∀j,3<=j->j<25->(Q i).z j=Az (r.lim i) (r.nG i) (r.img i) j
def gw(l:List (Int×Int)):List Value:=l.flatMap fun x=>[.int .i64 x.1,.int .i64 x.2]
theorem xJ(l:List (Int×Int))(x:Int×Int):gw (l++[x])=gw l++[.int .i64 x.1,.int .i64 x.2]:=by unfold gw;simp
structure lu(w:En)(nC:Nat)(r:RK)(Q:Nat->RC)(nl:Nat->List (Int×Int))(Ls:Nat->Ln)(F:Int)(inV:Dn)(il:List (Int×Int)):Prop where
 h5:w.cell? ⟨r.Kb,5,Hn⟩=Gn (.slice (Gn ⟨r.Lb,0,Hn⟩) r.kc r.kc)
 h6:w.cell? ⟨r.Kb,6,Hn⟩=Gn (.int .i64 F)
 h7:w.cell? ⟨r.Kb,7,Hn⟩=Gn inV
 ino:w.ownsRow 0 59 2 inV il.length (gw il)
 row:Tn w r.Lb (r.kc*5) 175 (eu Ls)
 lo:r.Lb<r.hi/\r.Lb≠r.Gc/\r.Lb≠r.Kb/\r.kc<=1000/\il.length<=1000
 own:∀c,c<r.kc->w.ownsRow 0 2 1 (Ls c).wv (Ls c).ws.length (vE (Ls c).ws)
 Wu:∀c c',c<r.kc->c'<r.kc->c≠c'->∀b,(Ls c).wv.ownBlock=Gn b->(Ls c').wv.ownBlock≠Gn b
 oh:∀c b,c<r.kc->(Ls c).wv.ownBlock=Gn b->r.hi<=b
 yJ:∀i,i<nC->w.ownsRow 0 177 2 (Q i).nt (nl i).length (gw (nl i))
 qL:∀i j,i<nC->j<nC->i≠j->∀b,(Q i).nt.ownBlock=Gn b->(Q j).nt.ownBlock≠Gn b
 noh:∀i b,i<nC->(Q i).nt.ownBlock=Gn b->r.hi<=b
section
variable {w w' w2:En}{k:RA}{r:RK}{Q:Nat->RC}{m:Nat->Nat}{xs:Nat->List Dn}{n m' m2:Nat}{c' c2:RC}{bG xs2:List Dn}{nl:Nat->List (Int×Int)}{Ls:Nat->Ln}{F:Int}{inV:Dn}{il:List (Int×Int)}
section
variable {b:Nat}(h:du r w b)
include b h
theorem du.Kx:b≠r.Gc:=h.2.1.1
theorem du.yz{v:Dn}(ho:∀b,v.ownBlock=Gn b->r.hi<=b):v.ownBlock≠Gn b:=fun e=>by
 have h1:=h.1;have h2:=ho b e;omega
theorem du.to(e:w.heap.size<=w'.heap.size):du r w' b:=⟨h.1,h.2.1,Qm h.2.2 e⟩
theorem du.lt:b<w.heap.size:=Lm h.1 h.2.2
end
theorem ED{b b2 e e2 s s2 n n2 g:Nat}{v v2:Dn}{ys ys2:List Dn}(h:w.ownsRow b e s v n ys)(h2:w.ownsRow b2 e2 s2 v2 n2 ys2)(he:e≠e2)(hg:v.ownBlock=Gn g):v2.ownBlock≠Gn g:=fun hg2=>by
 rcases h.2 with⟨rfl,_⟩|⟨g1,cap,Ov,rfl,_,hh,_⟩
 ·cases hg
 ·rcases h2.2 with⟨rfl,_⟩|⟨g3,dq,Pv0,rfl,_,hh2,_⟩
  ·cases hg2
  ·obtain rfl:g1=g:=by simpa[Value.ownBlock]using hg
   obtain rfl:g3=g1:=by simpa[Value.ownBlock]using hg2
   rw[hh]at hh2;injection hh2 with hh2
   injection hh2 with _ hh2
   exact he hh2
theorem xp{b e s n g t a:Nat}{v:Dn}{ys:List Dn}{f:Nat->Dn}(h:w.ownsRow b e s v n ys)(hr:Tn w g a t f)(he:e≠t):v.ownBlock≠Gn g:=fun hg=>by
 rcases h.2 with⟨rfl,_⟩|⟨g1,cap,Ov,rfl,_,hh,_⟩
 ·cases hg
 ·obtain rfl:g1=g:=by simpa[Value.ownBlock]using hg
  obtain⟨cs,hc,_⟩:=hr;rw[hh]at hc;injection hc with hc
  injection hc with _ hc
  exact he hc
structure uO(w:En)(Gc Lb nC n:Nat)(Q:Nat->RC)(c':RC)(m':Nat)(bG:List Dn)(w':En):Prop where
 row:Tn w' Gc (nC*26) 131 (yq (Qo Q n c'))
 but:Jq (fun j=>(j=Gc\/j=Lb)\/(Q n).v.ownBlock=Gn j\/(Q n).nt.ownBlock=Gn j) w w'
 own:w'.ownsRow 0 111 3 c'.v m' bG
 blk:∀b,c'.v.ownBlock=Gn b->(Q n).v.ownBlock=Gn b\/w.heap.size<=b
 tN:∀b,c'.nt.ownBlock=Gn b->(Q n).nt.ownBlock=Gn b\/w.heap.size<=b
theorem uO.trans{Gc Lb nC:Nat}(h:uO w Gc Lb nC n Q c' m' bG w')(h2:uO w' Gc Lb nC n (Qo Q n c') c2 m2 xs2 w2):uO w Gc Lb nC n Q c2 m2 xs2 w2:=by
 have b2:=h2.blk;have n2:=h2.tN;have t2:=h2.but;rw[Yn]at b2 n2 t2;refine⟨by have:=h2.row;rwa [Es]at this,h.but.trans t2 (fun _ x=>x) (fun j hj x=>?_),h2.own,fun b hb=>?_,fun b hb=>?_⟩
 ·rcases x with x|x|x
  ·exact .inl x
  ·rcases h.blk j x with x|x
   ·exact .inr (.inl x)
   ·omega
  ·rcases h.tN j x with x|x
   ·exact .inr (.inr x)
   ·omega
 ·rcases b2 b hb with x|x
  ·exact h.blk b x
  ·exact .inr y9
 ·rcases n2 b hb with x|x
  ·exact h.tN b x
  ·exact .inr y9
section
variable (h:Uu w k r Q m xs)(hN:lu w k.nC r Q nl Ls F inV il)(hn:n<k.nC)
include h hN hn
theorem Uu.stat(hA:Jq (fun j=>(j=r.Gc\/j=r.Lb)\/(Q n).v.ownBlock=Gn j\/(Q n).nt.ownBlock=Gn j) w w'){b:Nat}(hs:du r w b):w'.heap[b]?=w.heap[b]?:=hA.block b hs.lt (fun e=>by
 rcases e with (e|e)|e|e
 ·exact hs.2.1.1 e
 ·exact hs.2.1.2 e
 ·exact hs.yz (fun b=>h.oh n b hn) e
 ·exact hs.yz (fun b=>hN.noh n b hn) e)
theorem Uu.aft(Ir:Tn w' r.Gc (k.nC*26) 131 (yq (Qo Q n c')))(Yu:Jq (fun j=>(j=r.Gc\/j=r.Lb)\/(Q n).v.ownBlock=Gn j\/(Q n).nt.ownBlock=Gn j) w w')(Io:w'.ownsRow 0 111 3 c'.v m' bG)(eS:∀b,c'.v.ownBlock=Gn b->(Q n).v.ownBlock=Gn b\/w.heap.size<=b)(hz:∀j,3<=j->j<25->c'.z j=(Q n).z j):Uu w' k r (Qo Q n c') (Qo m n m') (Qo xs n bG):=by
 have kk:∀{b:Nat},du r w b->w'.heap[b]?=w.heap[b]?:=fun {b} hs=>h.stat hN hn Yu hs;have kN:∀i,i<k.nC->i≠n->∀b,(Q i).v.ownBlock=Gn b->b<w.heap.size/\w'.heap[b]?=w.heap[b]?:=fun i hi Yp b hb=>by
  have yo:=Qv (h.own i hi) hb;refine⟨yo,Yu.block b yo (fun e=>?_)⟩;rcases e with (e|e)|e|e
  ·exact xp (h.own i hi) h.row U0 G4
  ·exact xp (h.own i hi) hN.row U0 G4
  ·exact h.Wu i n hi hn Yp b hb e
  ·exact ED (h.own i hi) (hN.yJ n hn) U0 hb e
 refine⟨(Zn (a:=⟨r.Kb,0,Hn⟩) (kk h.sK)).trans h.h0,(Zn (a:=⟨r.Kb,4,Hn⟩) (kk h.sK)).trans h.h4,h.sK.to Yu.size,h.sb.to Yu.size,fun i hi=>(h.sc i hi).to Yu.size,fun i hi b o e=>(h.si i hi b o e).to Yu.size,fun i b hi hb=>?_,
  fun i hi=>(Zn (a:=⟨r.bo,r.oo+i*3,Hn⟩) (kk h.sb)).trans (h.hc i hi),fun i hi=>(Zn (a:=⟨r.bo,r.oo+i*3+1,Hn⟩) (kk h.sb)).trans (h.hi i hi),fun i hi=>(Zn (a:=⟨r.bo,r.oo+i*3+2,Hn⟩) (kk h.sb)).trans (h.hl i hi),
  fun i hi j hj=>(Zn (a:=⟨r.cb i,r.co i+j,Hn⟩) (kk (h.sc i hi))).trans (h.code i hi j hj),fun i hi=>?_,Ir,fun i hi=>?_,fun i j hi hj Yp b hb Xq=>?_,h.g16,h.n48,h.ok,fun i hi j h3 dV=>?_⟩
 ·by_cases e:i=n
  ·subst e;rw[Yn]at hb;rcases eS b hb with hb|hb
   ·exact h.oh i b hi hb
   ·exact Qm h.sK.2.2 hb
  ·rw[Oo _ _ e]at hb;exact h.oh i b hi hb
 ·rcases h.qV i hi with e|⟨b,o,e,hc⟩
  ·exact .inl e
  ·exact .inr ⟨b,o,e,fun j hj=>(Zn (a:=⟨b,o+j,Hn⟩) (kk (h.si i hi b o e))).trans (hc j hj)⟩
 ·by_cases e:i=n
  ·subst e;rw[Yn,Yn,Yn];exact Io
  ·rw[Oo _ _ e,Oo _ _ e,Oo _ _ e];exact Lr (h.own i hi) fun b hb=>(kN i hi e b hb).2
 ·by_cases e:i=n
  ·subst e;have kz:j≠i:=fun x=>Yp x.symm;rw[Oo _ _ kz]at Xq;rw[Yn]at hb;rcases eS b hb with hb|hb
   ·exact Hf
   ·have:=(kN j hj kz b Xq).1;omega
  ·rw[Oo _ _ e]at hb;by_cases e2:j=n
   ·subst e2;rw[Yn]at Xq;rcases eS b Xq with Xq|Xq
    ·exact Hf
    ·have:=(kN i hi e b hb).1;omega
   ·rw[Oo _ _ e2]at Xq;exact Hf
 ·by_cases e:i=n
  ·subst e;rw[Yn,hz j h3 dV];exact h.fst i hi j h3 dV
  ·refine Xk ?_;exact h.fst i hi j h3 dV
theorem Uu.after(hA:uO w r.Gc r.Lb k.nC n Q c' m' bG w')(hz:∀j,3<=j->j<25->c'.z j=(Q n).z j):Uu w' k r (Qo Q n c') (Qo m n m') (Qo xs n bG):=h.aft hN hn hA.row hA.but hA.own hA.blk hz
end
theorem lu.same(hN:lu w k.nC r Q nl Ls F inV il)(h:Uu w k r Q m xs)(hn:n<k.nC)(hb:Jq (fun j=>j=r.Gc\/(Q n).v.ownBlock=Gn j) w w')(hc:c'.nt=(Q n).nt):lu w' k.nC r (Qo Q n c') nl Ls F inV il:=by
 have ty:∀{b e s n2:Nat}{v:Dn}{ys:List Dn},w.ownsRow b e s v n2 ys->e≠131->e≠111->w'.ownsRow b e s v n2 ys:=fun ho h1 h2=>Lr ho fun g hg=>hb.block g (Qv ho hg) (fun e=>by
  rcases e with e|e
  ·exact xp ho h.row h1 l5
  ·exact ED ho (h.own n hn) h2 hg e)
 have kK:w'.heap[r.Kb]?=w.heap[r.Kb]?:=hb.block _ h.sK.lt (fun e=>by
  rcases e with e|e
  ·exact h.sK.2.1.1 e
  ·exact h.sK.yz (fun b=>h.oh n b hn) e)
 have kL:w'.heap[r.Lb]?=w.heap[r.Lb]?:=hb.block _ hN.row.lt (fun e=>by
  rcases e with e|e
  ·exact hN.lo.2.1 e
  ·exact xp (h.own n hn) hN.row U0 e)
 have eq:∀i,(Qo Q n c' i).nt=(Q i).nt:=fun i=>by
  by_cases e:i=n
  ·subst e;rw[Yn];exact hc
  ·rw[Oo _ _ e]
 refine⟨(Zn (a:=⟨r.Kb,5,Hn⟩) kK).trans hN.h5,(Zn (a:=⟨r.Kb,6,Hn⟩) kK).trans hN.h6,(Zn (a:=⟨r.Kb,7,Hn⟩) kK).trans hN.h7,ty hN.ino U0 U0,hN.row.of_heap kL,hN.lo,fun c hc=>ty (hN.own c hc) U0 U0,hN.Wu,hN.oh,fun i hi=>?_,fun i j hi hj Yp b=>?_,fun i b hi=>?_⟩
 ·rw[eq];exact ty (hN.yJ i hi) U0 U0
 ·rw[eq,eq];exact hN.qL i j hi hj Yp b
 ·rw[eq];exact hN.noh i b hi
end
def yF:kU->Int×(Nat->Int)
 |.on op _ z=>(if op=0 then -1 else 0,z)
 |.Xr y z=>(y,z)
def xE(c:Nat)(l:List (Int×Int)):List Int:=(l.filter fun x=>x.1==(c:Int)).map (·.2)
theorem PV(c:Nat):xE c []=[]:=rfl
theorem wI(c:Nat)(l:List (Int×Int))(d:Nat)(x:Int):xE c (l++[((d:Int),x)])=if c=d then xE c l++[x]else xE c l:=by
 unfold xE;rw[List.filter_append,List.map_append];by_cases e:c=d
 ·subst e;simp
 ·have:((d:Int)==(c:Int))=false:=by simp;omega
  simp[this,e]
structure l60(kind:Int)(l:List Int)(ln:Ln)(F:Int)(c:Us):Prop where
 q:kind=1->c.wait=ln.ws/\c.lost=ln.lost/\c.sent=l
 s:kind=2->(c.shown=if ln.shown=Um then ln.shows else 0)/\(c.age=if ln.shown=Um then F-ln.since else -1)/\(c.anew=Um↔l≠[])/\(∀x l',l=l'++[x]->c.Hu=x)/\(ln.shown=Um->0<=ln.since/\ln.since<=F)
def Ns(kc:Nat)(kind fr:Nat->Int)(nl:Nat->List (Int×Int))(Ls:Nat->Ln)(F:Int)(C:Nat->Us):Prop:=∀c,c<kc->l60 (kind c) (xE c (nl (fr c).toNat)) (Ls c) F (C c)
def tH(num:Nat)(kind fr:Nat->Int)(nD n:Nat)(ci:Nat->Int):Prop:=∀j,j<n->(ci (j*4)=10->kind (ci (j*4+3)).toNat=1/\fr (ci (j*4+3)).toNat=num)/\(ci (j*4)=11->kind (ci (j*4+3)).toNat=2/\fr (ci (j*4+3)).toNat=num)/\(ci (j*4)=12\/ci (j*4)=16->kind (ci (j*4+3)).toNat=1)/\(ci (j*4)=13->kind (ci (j*4+3)).toNat=2)/\(ci (j*4)=14->0<=ci (j*4+3)/\ci (j*4+3)<nD)
theorem ov{α:Type}(x:Nat->α)(i:Nat):Qo x i (x i)=x:=by
 funext j
 unfold Qo;split
 ·rename_i e;rw[e]
 ·rfl
section
variable {kc n c:Nat}{kind fr:Nat->Int}{nl:Nat->List (Int×Int)}{Ls:Nat->Ln}{F:Int}{C:Nat->Us}{x:Int}
section
variable (h:Ns kc kind fr nl Ls F C)
include h
theorem Ns.send(hf:fr c=n)(hk:kind c=1):Ns kc kind fr (Qo nl n (nl n++[((c:Int),x)])) Ls F (uN C c {C c with sent:=(C c).sent++[x]}):=fun d hd=>by
 by_cases e:d=c
 ·subst e;rw[qt,hf,Int.toNat_natCast,Yn,wI,if_pos rfl];have:=h d hd;rw[hf,Int.toNat_natCast]at this;exact⟨fun _=>⟨(this.q hk).1,(this.q hk).2.1,by show (C d).sent++[x]=_;rw[(this.q hk).2.2]⟩,fun e2=>by rw[hk]at e2;omega⟩
 ·rw[Vy _ _ e];have:=h d hd;by_cases e2:(fr d).toNat=n
  ·rw[e2]at this ⊢;rw[Yn,wI,if_neg e];exact Vh
  ·rw[Oo _ _ e2];exact Vh
theorem Ns.write(hf:fr c=n)(hk:kind c=2):Ns kc kind fr (Qo nl n (nl n++[((c:Int),x)])) Ls F (uN C c {C c with Hu:=x,anew:=Um}):=fun d hd=>by
 by_cases e:d=c
 ·subst e;rw[qt,hf,Int.toNat_natCast,Yn,wI,if_pos rfl];have:=h d hd;rw[hf,Int.toNat_natCast]at this;obtain⟨h1,h2,h3,h4,h5⟩:=this.s hk;exact⟨fun e2=>by rw[hk]at e2;omega,fun _=>⟨h1,h2,P0,fun y l' hl=>(by have:=List.append_inj_right' hl rfl;simpa using this),h5⟩⟩
 ·rw[Vy _ _ e];have:=h d hd;by_cases e2:(fr d).toNat=n
  ·rw[e2]at this ⊢;rw[Yn,wI,if_neg e];exact Vh
  ·rw[Oo _ _ e2];exact Vh
theorem Ns.line(hk:kind c=1){ln:Ln}{d:Us}(h1:d.wait=ln.ws)(h2:d.lost=ln.lost)(h3:d.sent=(C c).sent):Ns kc kind fr nl (Qo Ls c ln) F (uN C c d):=fun e he=>by
 by_cases e1:e=c
 ·subst e1;rw[qt,Yn];exact⟨fun _=>⟨h1,h2,h3.trans ((h e he).q hk).2.2⟩,fun e2=>by rw[hk]at e2;omega⟩
 ·rw[Vy _ _ e1,Oo _ _ e1];exact h e he
theorem Ns.forget(aE:∀c,c<kc->0<=fr c):Ns kc kind fr (Qo nl n []) Ls F (Ru fr n C):=fun d hd=>by
 unfold Ru;have:=h d hd;by_cases e:fr d=n
 ·rw[if_pos e,e,Int.toNat_natCast,Yn,PV];exact⟨fun hk=>⟨(this.q hk).1,(this.q hk).2.1,rfl⟩,fun hk=>⟨(this.s hk).1,(this.s hk).2.1,P0,fun x l' hl=>by simp at hl,(this.s hk).2.2.2.2⟩⟩
 ·rw[if_neg e,Oo _ _ (by have:=aE d hd;omega)];exact Vh
end
end
def jz(w:En)(nC:Nat)(r:RK)(n:Nat)(Q:Nat->RC)(nl:Nat->List (Int×Int))(Ls:Nat->Ln)(kind fr:Nat->Int)(F:Int)(inV:Dn)(il:List (Int×Int))(C':Nat->Us)(z':Nat->Int)(s':Int)(b':Bool)(m':Nat)(bG:List Dn)(d:Nat)(w':En):Prop:=
 ∃v' tZ l' EC,l'.length<=(nl n).length+d/\uO w r.Gc r.Lb nC n Q ⟨z',s',v',b',tZ⟩ m' bG w'/\lu w' nC r (Qo Q n ⟨z',s',v',b',tZ⟩) (Qo nl n l') EC F inV il/\Ns r.kc kind fr (Qo nl n l') EC F C'/\∀c b,c<r.kc->(EC c).wv.ownBlock=Gn b->(Ls c).wv.ownBlock=Gn b\/w.heap.size<=b
theorem jz.trans{w w1 w2:En}{nC n m1 m2 d1 d2:Nat}{r:RK}{Q:Nat->RC}{nl:Nat->List (Int×Int)}{Ls Ls1:Nat->Ln}{kind fr:Nat->Int}{F s2:Int}{inV:Dn}{il l1:List (Int×Int)}{C2:Nat->Us}{z2:Nat->Int}{b2:Bool}{xs1 xs2:List Dn}{c1:RC}(hA:uO w r.Gc r.Lb nC n Q c1 m1 xs1 w1)(hd:l1.length<=(nl n).length+d1)(hw:∀c b,c<r.kc->(Ls1 c).wv.ownBlock=Gn b->(Ls c).wv.ownBlock=Gn b\/w.heap.size<=b)
  (h:jz w1 nC r n (Qo Q n c1) (Qo nl n l1) Ls1 kind fr F inV il C2 z2 s2 b2 m2 xs2 d2 w2):jz w nC r n Q nl Ls kind fr F inV il C2 z2 s2 b2 m2 xs2 (d1+d2) w2:=by
 obtain⟨v',tZ,l',EC,h0,h1,h2,h3,h4⟩:=h;rw[Yn]at h0;rw[Es]at h2 h3;rw[Es]at h2;refine⟨v',tZ,l',EC,E0,hA.trans h1,h2,h3,fun c b hc hb=>?_⟩;rcases h4 c b hc hb with x|x
 ·exact hw c b hc x
 ·exact .inr (Qm hA.but.size x)
def Gx(C:Nat->Us):BH->Int×(Nat->Int)×(Nat->Us)
 |.on op _ z C'=>(if op=0 then -1 else 0,z,C')
 |.Xr y z=>(y,z,C)
theorem bH(C:Nat->Us)(o:kU):Gx C (o.with C)=((yF o).1,(yF o).2,C):=by
 cases o<;>rfl
theorem s30(Kb Gc n nC cq bo oo cb co nI cc:Nat)(Q:Nat->RC)(w:En)(h0:w.cell? ⟨Kb,0,Hn⟩=Gn (.slice (Gn ⟨bo,oo,Hn⟩) nC cq))(h4:w.cell? ⟨Kb,4,Hn⟩=Gn (.slice (Gn ⟨Gc,0,Hn⟩) nC nC))
  (hc:w.cell? ⟨bo,oo+n*3,Hn⟩=Gn (.slice (Gn ⟨cb,co,Hn⟩) nI cc))(hr:Tn w Gc (nC*26) 131 (yq Q))(h45:(Q n).z 45=nI)(hn:n<nC)(_h48:nI<=48):
  Zm prog 88 #[.pointer (Gn ⟨Kb,0,Hn⟩),.int .i64 n] w fun e w'=>e=.returned (.int .i64 3)/\w'=w.drew:=by
 have e20:w.cell? ⟨Gc,n*26+20,Hn⟩=Gn (.int .i64 nI):=by rw[Tn.rat hr (n:=n) (i:=20) E0 rfl E0];show Gn (Value.int .i64 ((Q n).z 45))=_;rw[h45]
 clear hr;have i1:(nI:Int)<=(nI:Int):=E0
 go_enter func88,ntmps88
 go_wp2_with fail
 go_region_held3 (fun W=>W.cell? ⟨Kb,0,Hn⟩=Gn (.slice (Gn ⟨bo,oo,Hn⟩) nC cq)/\W.cell? ⟨bo,oo+n*3,Hn⟩=Gn (.slice (Gn ⟨cb,co,Hn⟩) nI cc)/\W.cell? ⟨Gc,n*26+20,Hn⟩=Gn (.int .i64 nI)) (go_keep) (fail)
 exact Td
section
variable {w w':En}{k:RA}{r:RK}{Q:Nat->RC}{m:Nat->Nat}{xs:Nat->List Dn}{n:Nat}{nl:Nat->List (Int×Int)}{Ls:Nat->Ln}{kind fr:Nat->Int}{F:Int}{inV:Dn}{il:List (Int×Int)}{C:Nat->Us}
theorem aH{Z Z':Nat->Int}(h:Uu w k r Q m xs)(hN:lu w k.nC r Q nl Ls F inV il)(hR:Ns r.kc kind fr nl Ls F C)(hn:n<k.nC)(Ir:Tn w' r.Gc (k.nC*26) 131 (yq (Qo Q n {Q n with z:=Z})))(hb:Jq (fun j=>j=r.Gc) w w')(he:∀j,(25<=j/\j<46)\/j=47->Z j=Z' j):
  jz w k.nC r n Q nl Ls kind fr F inV il C Z' (Q n).s (Q n).b (m n) (xs n) 1 w':=
 ⟨(Q n).v,(Q n).nt,nl n,Ls,Nat.le_add_right _ _,⟨Tn.rc Ir he,hb.mono fun _ x=>.inl (.inl x),Lr (h.own n hn) fun b Xq=>hb.block b (Qv (h.own n hn) Xq) (fun e=>xp (h.own n hn) h.row U0 (by rw[<-e];exact Xq)),fun _ x=>.inl x,fun _ x=>.inl x⟩,by rw[ov];exact hN.same h hn (hb.mono fun _ x=>.inl x) rfl,by rw[ov];exact hR,fun _ _ _ x=>.inl x⟩
theorem w64(x:Int):IntKind.i64.wrap x=wrap64 x:=by rw[IntKind.wrap_i64];unfold wrap64;omega
theorem cF(z:Nat->Int){nx:Nat}(Nx:z 45=nx)(j:Nat)(h:(25<=j/\j<46)\/j=47):Wn z 45 (nx+1) j=Xn z j:=by
 unfold Xn;rw[QA,QA,QA,Nx];by_cases e:j=45
 ·rw[if_pos e,if_pos e];simp
 ·rw[if_neg e,if_neg e,if_neg E0]
theorem dB(z:Nat->Int){nx:Nat}(Nx:z 45=nx)(i:Nat)(v:Int)(j:Nat)(h:(25<=j/\j<46)\/j=47):Wn (Wn z 45 (nx+1)) i v j=Wn (Xn z) i v j:=by
 rw[QA (Wn z 45 _) i v j,QA (Xn z) i v j];by_cases e:j=i
 ·rw[if_pos e,if_pos e]
 ·rw[if_neg e,if_neg e];exact cF z Nx j h
theorem UR(z:Nat->Int){i:Nat}(hi:25<=i)(h2:i<45):Xn z i=z i:=by
 unfold Xn;rw[Kr _ _ E0,Kr _ _ E0]
theorem lW(h:Uu w k r Q m xs)(hN:lu w k.nC r Q nl Ls F inV il)(nU:Ns r.kc kind fr nl Ls F C)(hn:n<k.nC)(h45:0<=(Q n).z 45/\(Q n).z 45<=k.n n)(hm:m n<1000000000)(Yp:(Q n).z 45≠k.n n->¬pF (k.ci n (((Q n).z 45).toNat*4))):
  Zm prog 88 #[.pointer (Gn ⟨r.Kb,0,Hn⟩),.int .i64 n] w fun e w'=>e=.returned (.int .i64 (yF (dp (k.n n) (k.ci n) (Q n).z)).1)/\
   jz w k.nC r n Q nl Ls kind fr F inV il C (yF (dp (k.n n) (k.ci n) (Q n).z)).2 (Q n).s (Q n).b (m n+(dp (k.n n) (k.ci n) (Q n).z).sent.length) (xs n++(dp (k.n n) (k.ci n) (Q n).z).sent.flatMap tq) 1 w':=by
 have gK:=h.sK.Kx;have gb:=h.sb.Kx;have gc:=(h.sc n hn).Kx;by_cases hz:(Q n).z 45=k.n n
 ·have e:dp (k.n n) (k.ci n) (Q n).z=.Xr 3 (Wn (Q n).z 46 (IntKind.i64.wrap ((Q n).z 46+1))):=by unfold dp;rw[if_pos hz]
  rw[e];refine(s30 r.Kb r.Gc n k.nC r.cq r.bo r.oo (r.cb n) (r.co n) (k.n n) (r.cc n) Q w h.h0 h.h4 (h.hc n hn) h.row hz hn (h.n48 n hn)).mono ?_;rintro e w' ⟨rfl,rfl⟩;refine⟨rfl,?_⟩;have:=aH (Z:=(Q n).z) (Z':=Wn (Q n).z 46 (IntKind.i64.wrap ((Q n).z 46+1))) (w':=w.drew) h hN nU hn (Tn.r0 h.row n) (Jq.refl _ _).drew (fun j hj=>by rw[Kr _ _ E0]);simpa[kU.sent,yF]using this
 ·obtain⟨nx,Nx⟩:∃nx:Nat,(Q n).z 45=nx:=⟨((Q n).z 45).toNat,E0⟩;have yo:nx<k.n n:=by omega
  have ht:((Q n).z 45).toNat=nx:=E0;obtain ⟨ho,⟨r0,r4⟩,⟨a0,a4⟩,hj⟩:=(h.ok n hn).at yo (by have:=Yp hz;rw [ht] at this;exact this);obtain ⟨R,hR⟩:∃R:Nat,k.ci n (nx*4+1)=R:=⟨(k.ci n (nx*4+1)).toNat,E0⟩;obtain ⟨A,hA⟩:∃A:Nat,k.ci n (nx*4+2)=A:=⟨(k.ci n (nx*4+2)).toNat,E0⟩;have JM:(k.ci n (nx*4+1)).toNat=R:=E0;have GM:(k.ci n (nx*4+2)).toNat=A:=E0;have xw:R<4:=E0;have vw:A<4:=E0;have c0:=h.code n hn (nx*4) E0;have c1:=h.code n hn (nx*4+1) E0;have c2:=h.code n hn (nx*4+2) E0;have c3:=h.code n hn (nx*4+3) E0;rw [<-Jm] at c1 c2 c3;rw [hR] at c1;rw [hA] at c2;have zR:=UR (Q n).z (i:=25+R) E0 E0;have zA:=UR (Q n).z (i:=25+A) E0 E0;have fin:∀{st:kU} {Z:Nat->Int} {rt:Int} {e:Ending} {w':En},dp (k.n n) (k.ci n) (Q n).z=st->(yF st).1=rt->st.sent=[]->(∀j,(25<=j/\j<46)\/j=47->Z j=(yF st).2 j)->
    (e=.returned (.int .i64 rt)/\Tn w' r.Gc (k.nC*26) 131 (yq (Qo Q n {Q n with z:=Z}))/\Jq (fun j=>j=r.Gc) w w')->
    e=.returned (.int .i64 (yF (dp (k.n n) (k.ci n) (Q n).z)).1)/\jz w k.nC r n Q nl Ls kind fr F inV il C (yF (dp (k.n n) (k.ci n) (Q n).z)).2 (Q n).s (Q n).b (m n+(dp (k.n n) (k.ci n) (Q n).z).sent.length) (xs n++(dp (k.n n) (k.ci n) (Q n).z).sent.flatMap tq) 1 w':=by
   intro st Z rt e w' h1 h2 h3 h4 ⟨h5,h6,h7⟩;rw[h1,h2,h3];exact⟨h5,by simpa using aH h hN nU hn h6 h7 h4⟩
  refine Oc fun st=>?_;have Gf0:k.ci n (nx*4)=0\/k.ci n (nx*4)=1\/k.ci n (nx*4)=2\/k.ci n (nx*4)=3\/k.ci n (nx*4)=4\/k.ci n (nx*4)=5\/k.ci n (nx*4)=6\/k.ci n (nx*4)=7\/k.ci n (nx*4)=8\/k.ci n (nx*4)=9\/k.ci n (nx*4)=15:=E0;rcases Gf0 with ho|ho|ho|ho|ho|ho|ho|ho|ho|ho|ho
  ·rw[ho]at c0;have e:dp (k.n n) (k.ci n) (Q n).z=.on 0 Hn (Xn (Q n).z):=by simp[dp,hz,ht,ho]
   exact(tW (st c0 c3)).mono fun e' w' x=>fin e rfl rfl (fun j hj=>cF _ Nx j hj) x
  ·rw[ho]at c0;have e:dp (k.n n) (k.ci n) (Q n).z=.on 1 Hn (Wn (Xn (Q n).z) (25+R) (k.ci n (nx*4+3))):=by simp[dp,hz,ht,ho,JM]
   exact(y30 (st c0 c3)).mono fun e' w' x=>fin e rfl rfl (fun j hj=>dB _ Nx _ _ j hj) x
  ·rw[ho]at c0;have e:dp (k.n n) (k.ci n) (Q n).z=.on 2 Hn (Wn (Xn (Q n).z) (25+R) (IntKind.i64.wrap (Xn (Q n).z (25+R)+Xn (Q n).z (25+A)))):=by simp[dp,hz,ht,ho,JM,GM]
   rw[zR,zA,w64]at e;exact(o30 (st c0 c3)).mono fun e' w' x=>fin e rfl rfl (fun j hj=>dB _ Nx _ _ j hj) x
  ·rw[ho]at c0;have e:dp (k.n n) (k.ci n) (Q n).z=.on 3 Hn (Wn (Xn (Q n).z) (25+R) (IntKind.i64.wrap (Xn (Q n).z (25+R)-Xn (Q n).z (25+A)))):=by simp[dp,hz,ht,ho,JM,GM]
   rw[zR,zA,w64]at e;exact(A30 (st c0 c3)).mono fun e' w' x=>fin e rfl rfl (fun j hj=>dB _ Nx _ _ j hj) x
  ·rw[ho]at c0;have e:dp (k.n n) (k.ci n) (Q n).z=.on 4 Hn (Wn (Xn (Q n).z) (25+R) (IntKind.i64.wrap (Xn (Q n).z (25+R)*Xn (Q n).z (25+A)))):=by simp[dp,hz,ht,ho,JM,GM]
   rw[zR,zA,w64]at e;exact(x30 (st c0 c3)).mono fun e' w' x=>fin e rfl rfl (fun j hj=>dB _ Nx _ _ j hj) x
  ·rw[ho]at c0;by_cases h0:(Q n).z (25+A)=0
   ·have e:dp (k.n n) (k.ci n) (Q n).z=.Xr 1 (Xn (Q n).z):=by simp[dp,hz,ht,ho,GM,zA,h0]
    exact(JZ (st c0 c3) h0).mono fun e' w' x=>fin e rfl rfl (fun j hj=>cF _ Nx j hj) x
   ·have e:dp (k.n n) (k.ci n) (Q n).z=.on 5 Hn (Wn (Xn (Q n).z) (25+R) (IntKind.i64.wrap ((Xn (Q n).z (25+R)).tdiv (Xn (Q n).z (25+A))))):=by simp[dp,hz,ht,ho,JM,GM,zA,h0]
    rw[zR,zA,w64]at e;exact(r30 (st c0 c3) h0).mono fun e' w' x=>fin e rfl rfl (fun j hj=>dB _ Nx _ _ j hj) x
  ·rw[ho]at c0;by_cases h0:(Q n).z (25+A)<0
   ·have e:dp (k.n n) (k.ci n) (Q n).z=.Xr 2 (Xn (Q n).z):=by simp[dp,hz,ht,ho,GM,zA,h0]
    exact(PT (st c0 c3) h0).mono fun e' w' x=>fin e rfl rfl (fun j hj=>cF _ Nx j hj) x
   ·by_cases h1:16<=(Q n).z (25+A)
    ·have e:dp (k.n n) (k.ci n) (Q n).z=.Xr 2 (Xn (Q n).z):=by simp[dp,hz,ht,ho,GM,zA,h1]
     exact(OT (st c0 c3) h1).mono fun e' w' x=>fin e rfl rfl (fun j hj=>cF _ Nx j hj) x
    ·obtain⟨j,hj⟩:∃j:Nat,(Q n).z (25+A)=j:=⟨((Q n).z (25+A)).toNat,E0⟩;have xf0:j<16:=by omega
     have zM:=UR (Q n).z (i:=29+j) E0 E0;have e:dp (k.n n) (k.ci n) (Q n).z=.on 6 Hn (Wn (Xn (Q n).z) (25+R) (Xn (Q n).z (29+((Q n).z (25+A)).toNat))):=by simp[dp,hz,ht,ho,JM,GM,zA,h0,h1]
     rw[hj,Int.toNat_natCast,zM]at e;exact(LZ (st c0 c3) j xf0 hj).mono fun e' w' x=>fin e rfl rfl (fun j hj=>dB _ Nx _ _ j hj) x
  ·rw[ho]at c0;by_cases h0:(Q n).z (25+A)<0
   ·have e:dp (k.n n) (k.ci n) (Q n).z=.Xr 2 (Xn (Q n).z):=by simp[dp,hz,ht,ho,GM,zA,h0]
    exact(zP (st c0 c3) h0).mono fun e' w' x=>fin e rfl rfl (fun j hj=>cF _ Nx j hj) x
   ·by_cases h1:16<=(Q n).z (25+A)
    ·have e:dp (k.n n) (k.ci n) (Q n).z=.Xr 2 (Xn (Q n).z):=by simp[dp,hz,ht,ho,GM,zA,h1]
     exact(yP (st c0 c3) h1).mono fun e' w' x=>fin e rfl rfl (fun j hj=>cF _ Nx j hj) x
    ·obtain⟨j,hj⟩:∃j:Nat,(Q n).z (25+A)=j:=⟨((Q n).z (25+A)).toNat,E0⟩;have xf0:j<16:=by omega
     have e:dp (k.n n) (k.ci n) (Q n).z=.on 7 Hn (Wn (Xn (Q n).z) (29+((Q n).z (25+A)).toNat) (Xn (Q n).z (25+R))):=by simp[dp,hz,ht,ho,JM,GM,zA,h0,h1]
     rw[hj,Int.toNat_natCast,zR,show 29+j=25+(4+j)by omega]at e;exact(oW (st c0 c3) j xf0 hj).mono fun e' w' x=>fin e rfl rfl (fun j hj=>dB _ Nx _ _ j hj) x
  ·rw[ho]at c0;have e:dp (k.n n) (k.ci n) (Q n).z=.on 8 Hn (Wn (Xn (Q n).z) 45 (k.ci n (nx*4+3))):=by simp[dp,hz,ht,ho]
   exact(KZ (st c0 c3)).mono fun e' w' x=>fin e rfl rfl (fun j hj=>dB _ Nx _ _ j hj) x
  ·rw[ho]at c0;by_cases h0:(Q n).z (25+R)=0
   ·have e:dp (k.n n) (k.ci n) (Q n).z=.on 9 Hn (Wn (Xn (Q n).z) 45 (k.ci n (nx*4+3))):=by simp[dp,hz,ht,ho,JM,zR,h0]
    exact(OZ (st c0 c3) h0).mono fun e' w' x=>fin e rfl rfl (fun j hj=>dB _ Nx _ _ j hj) x
   ·have e:dp (k.n n) (k.ci n) (Q n).z=.on 9 Hn (Xn (Q n).z):=by simp[dp,hz,ht,ho,JM,zR,h0]
    exact(uW (st c0 c3) h0).mono fun e' w' x=>fin e rfl rfl (fun j hj=>cF _ Nx j hj) x
  ·rw[ho]at c0;have e:dp (k.n n) (k.ci n) (Q n).z=.on 15 (Gn (Xn (Q n).z (25+R))) (Xn (Q n).z):=by simp[dp,hz,ht,ho,JM]
   rw[zR]at e;rw[e];refine(w30 (st c0 c3) (m n) (xs n) (h.own n hn) (xp (h.own n hn) h.row U0) hm).mono ?_;rintro e' w' ⟨rfl,v',h1,h2,h3,h4⟩;have Ir:Tn w' r.Gc (k.nC*26) 131 (yq (Qo Q n {Q n with z:=Xn (Q n).z,v:=v'})):=h1.congr fun j _=>by
    unfold yq;by_cases e:j/26=n
    ·rw[e,Yn,Yn];exact qB (c:={Q n with v:=v'}) (fun j hj=>cF _ Nx j hj) _
    ·rw[Oo _ _ e,Oo _ _ e]
   exact⟨rfl,v',(Q n).nt,nl n,Ls,Nat.le_add_right _ _,⟨Ir,h2.mono fun _ x=>x.elim (fun x=>.inl (.inl x)) (fun x=>.inr (.inl x)),h3,h4,fun _ x=>.inl x⟩,by rw[ov];exact hN.same h hn h2 rfl,by rw[ov];exact nU,fun _ _ _ x=>.inl x⟩
end
end Go.Proofs.YtdoghgnifkgfdaaGreat.Mute
