/-
  For every script that holds, all told, at most 1048576 values, All answers true, whatever the schedule, without a data race; the script reads as it did.
-/
import Derived.Test.YtdoghgnifkgfdaaGreatRows
import Derived.Test.YtdoghgnifkgfdaaGreatA21
set_option maxRecDepth 100000
set_option maxHeartbeats 16000000
open Option renaming none->Hn,some->Gn
open Go renaming World->En,Value->Dn,undef->Bn,Goroutine->zn,Calls->Zm,Program->Ym,Frame->Xm,block_lt_of_cell->Wm,Addr->Vm
open Bool renaming true->Um,false->Tm
open Go.RowKit renaming Below->Sm
open Go.Conc renaming run_eq_of->Rm
open Nat renaming le_trans->Qm,zero_le->Pm,le_refl->Om,lt_of_lt_of_le->Lm,add_assoc->Jm
open List renaming range->Hm
namespace Go.Proofs.YtdoghgnifkgfdaaGreat.Mute
open Go.Proofs.Tryz Go Go.Conc Go.RowKit
theorem yZ{Post:zn->En->Prop}{w0:En}{bw:Nat}{lp:Option Vm}{len cap:Nat}{mo:Int}{o:Nat->UI}(hmo:Ce0 mo)(hs:ScR w0 lp len o)(iy:len<=1048576)(cs:List Xm)
  (hp:∀(a:Act)(todo:List Item)(v:Dn)(w':En),a.defers=[]->(∀d,(results Tryz.f7 a.tmps).run prog (w'.at d)=.ok v (w'.at d))->(v=.bool Um/\Jq (fun b=>w0.heap.size<=b) w0 w')->Ko prog Post (G {(base 7).at a todo with mode:=.returning} cs) w'):
  ∀(ez i n:Nat)(w:En)(u2 u3 u8 u9 DF EF RD SD jC kC oC qC tC uC vC lD rB uB vB xB lA mA nA pA QB TB UB VB WB mD II JI KI LI u40 u41 u42 u43 u44 u45 u46 u47 u48 u49 u50 u51 u52 u53 u54 u55 u56 u57 u58 u59 u60 u61 u62 u63 u64 u65 u66 u67 u68 u69 u70 u71 u72 u73 u74 u75 u76 u77 u78 u79 u80 u81 u82 u83 u84 u85 u86 u87 u88 u89 u90 u91 u92 u93 u94 u95 u96 u97 u98 u99 UJ:Dn),i+ez=len->1<=n->n<=i+1->Vs w0 bw n (i*206) i (i*4) w->
   Ko prog Post (G ((base 7).at {tmps:=(List.toArray ((.slice lp len cap)::(.int .i64 mo)::(u2)::(u3)::(.bool Tm)::(.pointer (Gn ⟨bw,0,Hn⟩))::(.bool Um)::(.int .i64 i)::(u8)::(u9)::(DF)::(EF)::(RD)::(SD)::(jC)::(kC)::(oC)::(qC)::(tC)::(uC)::(vC)::(lD)::(rB)::(uB)::(vB)::(xB)::(lA)::(mA)::(nA)::(pA)::(QB)::(TB)::(UB)::(VB)::(WB)::(mD)::(II)::(JI)::(KI)::(LI)::(u40)::(u41)::(u42)::(u43)::(u44)::(u45)::(u46)::(u47)::(u48)::(u49)::(u50)::(u51)::(u52)::(u53)::(u54)::(u55)::(u56)::(u57)::(u58)::(u59)::(u60)::(u61)::(u62)::(u63)::(u64)::(u65)::(u66)::(u67)::(u68)::(u69)::(u70)::(u71)::(u72)::(u73)::(u74)::(u75)::(u76)::(u77)::(u78)::(u79)::(u80)::(u81)::(u82)::(u83)::(u84)::(u85)::(u86)::(u87)::(u88)::(u89)::(u90)::(u91)::(u92)::(u93)::(u94)::(u95)::(u96)::(u97)::(u98)::(u99)::(UJ)::[])),defers:=[]} [.code vF,.inLoop vF,.inBlock 0,.code vT]) cs) w:=by
 have hk:(base 7).kind≠.early:=J1;intro ez;induction ez with
 |zero=>
  intro i n w u2 u3 u8 u9 DF EF RD SD jC kC oC qC tC uC vC lD rB uB vB xB lA mA nA pA QB TB UB VB WB mD II JI KI LI u40 u41 u42 u43 u44 u45 u46 u47 u48 u49 u50 u51 u52 u53 u54 u55 u56 u57 u58 u59 u60 u61 u62 u63 u64 u65 u66 u67 u68 u69 u70 u71 u72 u73 u74 u75 u76 u77 u78 u79 u80 u81 u82 u83 u84 u85 u86 u87 u88 u89 u90 u91 u92 u93 u94 u95 u96 u97 u98 u99 UJ hi mG hn2 hI;obtain rfl:i=len:=E0;refine uc ?_;have hF:=Is.self w;refine S9 ?_;refine .Un Rn [0,1,2,3,4,5,6] I0 ?_;iterate 5 (refine .Yo Rn rfl I0 hk ?_;try walk_nrm)
  refine Pn.unwanted Rn rfl (by first|rfl|simp[Region.wanted,yielded]) ?_;refine Fj ?_;refine Pn.Zq Rn J2 ?_;refine Pn.exit Rn I0 ?_;refine S9 ?_;refine .Un Rn [0,1] I0 ?_;refine Va ?_;refine S9 ?_;have mV:Jq (fun b=>w0.heap.size<=b) w0 w:=by
   obtain⟨_,_,_,_,_,_,_,_,_,h,_⟩:=hI;exact h.ph
  refine .stop rfl fun w9 hR=>?_;obtain⟨d9,rfl⟩:=hF.rely hR;clear hF hR;refine Ko.ret fun todo=>?_;exact hp _ _ _ _ rfl (fun d=>(resultsC_tmp (t:=4) I0 _ _).1) ⟨rfl,mV.os,mV.tape,mV.output,mV.size,mV.block⟩
 |succ ez ih=>
  intro i n w u2 u3 u8 u9 DF EF RD SD jC kC oC qC tC uC vC lD rB uB vB xB lA mA nA pA QB TB UB VB WB mD II JI KI LI u40 u41 u42 u43 u44 u45 u46 u47 u48 u49 u50 u51 u52 u53 u54 u55 u56 u57 u58 u59 u60 u61 u62 u63 u64 u65 u66 u67 u68 u69 u70 u71 u72 u73 u74 u75 u76 u77 u78 u79 u80 u81 u82 u83 u84 u85 u86 u87 u88 u89 u90 u91 u92 u93 u94 u95 u96 u97 u98 u99 UJ hi mG hn2 hI;have yo:i<len:=E0;have lG:(i:Int)<(len:Int):=E0;have LP:∀(n2 mm ff N:Nat)(w2:En)(u2 u3 u8 u9 DF EF RD SD jC kC oC qC tC uC vC lD rB uB vB xB lA mA nA pA QB TB UB VB WB mD II JI KI LI u40 u41 u42 u43 u44 u45 u46 u47 u48 u49 u50 u51 u52 u53 u54 u55 u56 u57 u58 u59 u60 u61 u62 u63 u64 u65 u66 u67 u68 u69 u70 u71 u72 u73 u74 u75 u76 u77 u78 u79 u80 u81 u82 u83 u84 u85 u86 u87 u88 u89 u90 u91 u92 u93 u94 u95 u96 u97 u98 u99 UJ:Dn),1<=n2->n2<=i+2->mm<=(i+1)*206->ff<=i+1->N<=(i+1)*4->Vs w0 bw n2 mm ff N w2->Ko prog Post (G ((base 7).at {tmps:=(List.toArray ((.slice lp len cap)::(.int .i64 mo)::(u2)::(u3)::(.bool Tm)::(.pointer (Gn ⟨bw,0,Hn⟩))::(.bool Um)::(.int .i64 i)::(u8)::(u9)::(DF)::(EF)::(RD)::(SD)::(jC)::(kC)::(oC)::(qC)::(tC)::(uC)::(vC)::(lD)::(rB)::(uB)::(vB)::(xB)::(lA)::(mA)::(nA)::(pA)::(QB)::(TB)::(UB)::(VB)::(WB)::(mD)::(II)::(JI)::(KI)::(LI)::(u40)::(u41)::(u42)::(u43)::(u44)::(u45)::(u46)::(u47)::(u48)::(u49)::(u50)::(u51)::(u52)::(u53)::(u54)::(u55)::(u56)::(u57)::(u58)::(u59)::(u60)::(u61)::(u62)::(u63)::(u64)::(u65)::(u66)::(u67)::(u68)::(u69)::(u70)::(u71)::(u72)::(u73)::(u74)::(u75)::(u76)::(u77)::(u78)::(u79)::(u80)::(u81)::(u82)::(u83)::(u84)::(u85)::(u86)::(u87)::(u88)::(u89)::(u90)::(u91)::(u92)::(u93)::(u94)::(u95)::(u96)::(u97)::(u98)::(u99)::(UJ)::[])),defers:=[]} [.code o90,.inBlock 1,.code Td0,.inLoop vF,.inBlock 0,.code vT]) cs) w2:=fun n2 mm ff N w2 u2 u3 u8 u9 DF EF RD SD jC kC oC qC tC uC vC lD rB uB vB xB lA mA nA pA QB TB UB VB WB mD II JI KI LI u40 u41 u42 u43 u44 u45 u46 u47 u48 u49 u50 u51 u52 u53 u54 u55 u56 u57 u58 u59 u60 u61 u62 u63 u64 u65 u66 u67 u68 u69 u70 u71 u72 u73 u74 u75 u76 u77 u78 u79 u80 u81 u82 u83 u84 u85 u86 u87 u88 u89 u90 u91 u92 u93 u94 u95 u96 u97 u98 u99 UJ h1 h2 h3 h4 h5 h6=>zZ cs i n2 mm ff N w2 u2 u3 u8 u9 DF EF RD SD jC kC oC qC tC uC vC lD rB uB vB xB lA mA nA pA QB TB UB VB WB mD II JI KI LI u40 u41 u42 u43 u44 u45 u46 u47 u48 u49 u50 u51 u52 u53 u54 u55 u56 u57 u58 u59 u60 u61 u62 u63 u64 u65 u66 u67 u68 u69 u70 u71 u72 u73 u74 u75 u76 u77 u78 u79 u80 u81 u82 u83 u84 u85 u86 u87 u88 u89 u90 u91 u92 u93 u94 u95 u96 u97 u98 u99 UJ E0 E0 h6 fun w' u2 u3 u8 u9 DF EF RD SD jC kC oC qC tC uC vC lD rB uB vB xB lA mA nA pA QB TB UB VB WB mD II JI KI LI u40 u41 u42 u43 u44 u45 u46 u47 u48 u49 u50 u51 u52 u53 u54 u55 u56 u57 u58 u59 u60 u61 u62 u63 u64 u65 u66 u67 u68 u69 u70 u71 u72 u73 u74 u75 u76 u77 u78 u79 u80 u81 u82 u83 u84 u85 u86 u87 u88 u89 u90 u91 u92 u93 u94 u95 u96 u97 u98 u99 UJ h=>ih (i+1) n2 w' u2 u3 u8 u9 DF EF RD SD jC kC oC qC tC uC vC lD rB uB vB xB lA mA nA pA QB TB UB VB WB mD II JI KI LI u40 u41 u42 u43 u44 u45 u46 u47 u48 u49 u50 u51 u52 u53 u54 u55 u56 u57 u58 u59 u60 u61 u62 u63 u64 u65 u66 u67 u68 u69 u70 u71 u72 u73 u74 u75 u76 u77 u78 u79 u80 u81 u82 u83 u84 u85 u86 u87 u88 u89 u90 u91 u92 u93 u94 u95 u96 u97 u98 u99 UJ E0 h1 E0 (h.le h3 h4 h5);clear ih hp;obtain⟨lb,lo,rfl,hlb,hc⟩:=hs.at hI yo;have Yr:=hs.ok i yo;generalize o i=p at hc Yr;have c0:w.cell? ⟨lb,lo+i*8,Hn⟩=Gn (.int .i64 p.kd):=hc 0 E0;have c1:w.cell? ⟨lb,lo+i*8+1,Hn⟩=Gn (.int .i64 p.at_):=hc 1 E0;have c2:w.cell? ⟨lb,lo+i*8+2,Hn⟩=Gn (.int .i64 p.q):=hc 2 E0;have c3:w.cell? ⟨lb,lo+i*8+3,Hn⟩=Gn (.slice (p.p 0) (p.l 0) (p.c 0)):=hc 3 E0;have c4:w.cell? ⟨lb,lo+i*8+4,Hn⟩=Gn (.slice (p.p 1) (p.l 1) (p.c 1)):=hc 4 E0;have c5:w.cell? ⟨lb,lo+i*8+5,Hn⟩=Gn (.slice (p.p 2) (p.l 2) (p.c 2)):=hc 5 E0;have c6:w.cell? ⟨lb,lo+i*8+6,Hn⟩=Gn (.slice (p.p 3) (p.l 3) (p.c 3)):=hc 6 E0;have c7:w.cell? ⟨lb,lo+i*8+7,Hn⟩=Gn (.slice (p.p 4) (p.l 4) (p.c 4)):=hc 7 E0;clear hc;refine uc ?_;have hF:=Is.self w;refine S9 ?_;refine .Un Rn [0,1,2,3,4,5,6] I0 ?_;iterate 7 (refine .Yo Rn rfl I0 hk ?_;try walk_nrm)
  refine S9 ?_;refine Pn.vr Rn J2 ?_;refine yl ?_;refine Va ?_;refine K9 fun w1 K hK hF=>?_;refine vm ?_ ?_
  ·exact Ea
  clear hK K;refine um ?_;refine K9 fun w1 K hK hF=>?_;have k0:=(hF.cell _).trans c0;have k1:=(hF.cell _).trans c1;have k2:=(hF.cell _).trans c2;have k3:=(hF.cell _).trans c3;have k4:=(hF.cell _).trans c4;have k5:=(hF.cell _).trans c5;have k6:=(hF.cell _).trans c6;have k7:=(hF.cell _).trans c7;refine vm ?_ ?_
  ·exact Ea
  clear hK K;refine um ?_;refine K9 fun w1 K hK hF=>?_;refine vm ?_ ?_
  ·exact Ea
  clear hK K;obtain⟨d1,rfl⟩:=hF;have jQ:Sm w.heap.size w ((w.at d1).alloc (.cells #[.int .i64 0,.int .i64 0,.int .i64 0,.slice Hn 0 0,.slice Hn 0 0,.slice Hn 0 0,.slice Hn 0 0,.slice Hn 0 0] 31)):=have q:=(Below.refl w.heap.size (w.at d1)).alloc N8 _;⟨q.os,q.tape,q.output,q.size,q.block⟩;have yE:Tn ((w.at d1).alloc (.cells #[.int .i64 0,.int .i64 0,.int .i64 0,.slice Hn 0 0,.slice Hn 0 0,.slice Hn 0 0,.slice Hn 0 0,.slice Hn 0 0] 31)) w.heap.size 8 31 (cells8 (.int .i64 0) (.int .i64 0) (.int .i64 0) (.slice Hn 0 0) (.slice Hn 0 0) (.slice Hn 0 0) (.slice Hn 0 0) (.slice Hn 0 0)):=Tn.new (w.at d1) _ _ _ (fun j hj=>by
   have kz:j<8:=hj;have:j=0\/j=1\/j=2\/j=3\/j=4\/j=5\/j=6\/j=7:=E0;rcases this with rfl|rfl|rfl|rfl|rfl|rfl|rfl|rfl<;>rfl)
  rw[show (w.at d1).heap.size=w.heap.size from rfl];generalize hWB:(w.at d1).alloc (.cells #[.int .i64 0,.int .i64 0,.int .i64 0,.slice Hn 0 0,.slice Hn 0 0,.slice Hn 0 0,.slice Hn 0 0,.slice Hn 0 0] 31)=wB at *;clear hWB;have hF:=Is.self wB;refine um ?_;refine K9 fun w1 K hK hF=>?_;have g0:=(hF.frozen ⟨w.heap.size,0,Hn⟩).trans (yE.frozen 0);have k0:=(hF.cell ⟨w.heap.size,0,Hn⟩).trans (yE.cell (j:=0) E0);have g1:=(hF.frozen ⟨w.heap.size,1,Hn⟩).trans (yE.frozen 1);have k1:=(hF.cell ⟨w.heap.size,1,Hn⟩).trans (yE.cell (j:=1) E0);have g2:=(hF.frozen ⟨w.heap.size,2,Hn⟩).trans (yE.frozen 2);have k2:=(hF.cell ⟨w.heap.size,2,Hn⟩).trans (yE.cell (j:=2) E0);have g3:=(hF.frozen ⟨w.heap.size,3,Hn⟩).trans (yE.frozen 3);have k3:=(hF.cell ⟨w.heap.size,3,Hn⟩).trans (yE.cell (j:=3) E0);have g4:=(hF.frozen ⟨w.heap.size,4,Hn⟩).trans (yE.frozen 4);have k4:=(hF.cell ⟨w.heap.size,4,Hn⟩).trans (yE.cell (j:=4) E0);have g5:=(hF.frozen ⟨w.heap.size,5,Hn⟩).trans (yE.frozen 5);have k5:=(hF.cell ⟨w.heap.size,5,Hn⟩).trans (yE.cell (j:=5) E0);have g6:=(hF.frozen ⟨w.heap.size,6,Hn⟩).trans (yE.frozen 6);have k6:=(hF.cell ⟨w.heap.size,6,Hn⟩).trans (yE.cell (j:=6) E0);have g7:=(hF.frozen ⟨w.heap.size,7,Hn⟩).trans (yE.frozen 7);have k7:=(hF.cell ⟨w.heap.size,7,Hn⟩).trans (yE.cell (j:=7) E0);refine vm ?_ ?_
  ·exact Ea
  clear hK K;clear g0 k0 g1 k1 g2 k2 g3 k3 g4 k4 g5 k5 g6 k6 g7 k7;obtain⟨d2,rfl⟩:=hF;have hRb:Tn (wB.at d2) w.heap.size 8 31 _:=yE;have hBb:Sm w.heap.size w (wB.at d2):=⟨jQ.os,jQ.tape,jQ.output,jQ.size,jQ.block⟩;have hRO:Tn (((((((((wB.at d2).setCell ⟨w.heap.size,0,Hn⟩ (.int .i64 p.kd)).setCell ⟨w.heap.size,1,Hn⟩ (.int .i64 p.at_)).setCell ⟨w.heap.size,2,Hn⟩ (.int .i64 p.q)).setCell ⟨w.heap.size,3,Hn⟩ (.slice (p.p 0) (p.l 0) (p.c 0))).setCell ⟨w.heap.size,4,Hn⟩ (.slice (p.p 1) (p.l 1) (p.c 1))).setCell ⟨w.heap.size,5,Hn⟩ (.slice (p.p 2) (p.l 2) (p.c 2))).setCell ⟨w.heap.size,6,Hn⟩ (.slice (p.p 3) (p.l 3) (p.c 3))).setCell ⟨w.heap.size,7,Hn⟩ (.slice (p.p 4) (p.l 4) (p.c 4))) w.heap.size 8 31 p.cell:=(((((((((hRb.set 0 _).set 1 _).set 2 _).set 3 _).set 4 _).set 5 _).set 6 _).set 7 _).congr fun j hj=>by
   have:j=0\/j=1\/j=2\/j=3\/j=4\/j=5\/j=6\/j=7:=E0;rcases this with rfl|rfl|rfl|rfl|rfl|rfl|rfl|rfl<;>rfl)
  have hBO:Sm w.heap.size w (((((((((wB.at d2).setCell ⟨w.heap.size,0,Hn⟩ (.int .i64 p.kd)).setCell ⟨w.heap.size,1,Hn⟩ (.int .i64 p.at_)).setCell ⟨w.heap.size,2,Hn⟩ (.int .i64 p.q)).setCell ⟨w.heap.size,3,Hn⟩ (.slice (p.p 0) (p.l 0) (p.c 0))).setCell ⟨w.heap.size,4,Hn⟩ (.slice (p.p 1) (p.l 1) (p.c 1))).setCell ⟨w.heap.size,5,Hn⟩ (.slice (p.p 2) (p.l 2) (p.c 2))).setCell ⟨w.heap.size,6,Hn⟩ (.slice (p.p 3) (p.l 3) (p.c 3))).setCell ⟨w.heap.size,7,Hn⟩ (.slice (p.p 4) (p.l 4) (p.c 4))):=(((((((hBb.setCell N8 _).setCell N8 _).setCell N8 _).setCell N8 _).setCell N8 _).setCell N8 _).setCell N8 _).setCell N8 _;have hIO:=hI.below hBO;generalize (((((((((wB.at d2).setCell ⟨w.heap.size,0,Hn⟩ (.int .i64 p.kd)).setCell ⟨w.heap.size,1,Hn⟩ (.int .i64 p.at_)).setCell ⟨w.heap.size,2,Hn⟩ (.int .i64 p.q)).setCell ⟨w.heap.size,3,Hn⟩ (.slice (p.p 0) (p.l 0) (p.c 0))).setCell ⟨w.heap.size,4,Hn⟩ (.slice (p.p 1) (p.l 1) (p.c 1))).setCell ⟨w.heap.size,5,Hn⟩ (.slice (p.p 2) (p.l 2) (p.c 2))).setCell ⟨w.heap.size,6,Hn⟩ (.slice (p.p 3) (p.l 3) (p.c 3))).setCell ⟨w.heap.size,7,Hn⟩ (.slice (p.p 4) (p.l 4) (p.c 4)))=wO at *;clear hRb hBb yE jQ hBO hI c0 c1 c2 c3 c4 c5 c6 c7;have o0:wO.cell? ⟨w.heap.size,0,Hn⟩=Gn (.int .i64 p.kd):=hRO.cell (j:=0) E0;have o1:wO.cell? ⟨w.heap.size,1,Hn⟩=Gn (.int .i64 p.at_):=hRO.cell (j:=1) E0;have o2:wO.cell? ⟨w.heap.size,2,Hn⟩=Gn (.int .i64 p.q):=hRO.cell (j:=2) E0;have o3:wO.cell? ⟨w.heap.size,3,Hn⟩=Gn (.slice (p.p 0) (p.l 0) (p.c 0)):=hRO.cell (j:=3) E0;have o4:wO.cell? ⟨w.heap.size,4,Hn⟩=Gn (.slice (p.p 1) (p.l 1) (p.c 1)):=hRO.cell (j:=4) E0;have o5:wO.cell? ⟨w.heap.size,5,Hn⟩=Gn (.slice (p.p 2) (p.l 2) (p.c 2)):=hRO.cell (j:=5) E0;have o6:wO.cell? ⟨w.heap.size,6,Hn⟩=Gn (.slice (p.p 3) (p.l 3) (p.c 3)):=hRO.cell (j:=6) E0;have o7:wO.cell? ⟨w.heap.size,7,Hn⟩=Gn (.slice (p.p 4) (p.l 4) (p.c 4)):=hRO.cell (j:=7) E0;generalize w.heap.size=b8 at *;clear hRO;have hF:=Is.self wO;refine um ?_;refine S9 ?_;refine Yf ?_;refine V9 ?_;refine Ul fun w1 K hK hF e0=>?_;refine vm ?_ ?_
  ·exact Ea
  clear hK K;clear e0;refine um ?_;refine Va ?_;refine S9 ?_;by_cases h1:p.kd=1
  ·skip;refine Pn.vr Rn (by first|rfl|simp[Act.eval,h1]) ?_;obtain⟨fS,hcw⟩:=Yr.cfg h1;refine S9 ?_;refine Ag ?_;refine Va ?_;refine K9 fun w1 K hK hF=>?_;have e3:=(hF.cell ⟨b8,3,Hn⟩).trans o3;have e4:=(hF.cell ⟨b8,4,Hn⟩).trans o4;have e5:=(hF.cell ⟨b8,5,Hn⟩).trans o5;have e6:=(hF.cell ⟨b8,6,Hn⟩).trans o6;refine vm ?_ ?_
   ·exact Ea
   clear hK K;clear e3 e4 e5 e6;refine um ?_;refine .stop rfl fun w4 hR=>?_;obtain⟨d4,rfl⟩:=hF.rely hR;clear hF hR;refine Ko.call rfl I0 hk (fun d=>?MD) (fun d=>?GR) ((hIO.is (w':=wO.at d4) ⟨d4,rfl⟩).g00 (c:=p.cf) fS hcw E0) (fun v wM hv=>?_)
   case MD=>kernel_rfl
   case GR=>
    exact Ud
   obtain⟨rfl,n',hn3,hn4,hM⟩:=hv;refine uc ?_;have hF:=Is.self wM;refine um ?_;refine Vl fun w9 hR=>?_;exact LP n' (i*206) (i) (i*4) w9 _ _ _ _ _ _ _ _ _ _ _ _ _ _ _ _ _ _ _ _ _ _ _ _ _ _ _ _ _ _ _ _ _ _ _ _ _ _ _ _ _ _ _ _ _ _ _ _ _ _ _ _ _ _ _ _ _ _ _ _ _ _ _ _ _ _ _ _ _ _ _ _ _ _ _ _ _ _ _ _ _ _ _ _ _ _ _ _ _ _ _ _ _ _ _ E0 E0 E0 E0 E0 (hM.is (hF.rely hR))
  ·skip;refine Pn.Zq Rn (by first|rfl|simp[Act.eval,h1]) ?_;refine S9 ?_;refine .Un Rn [0,1,2,3,4,5,6,7,8,9] I0 ?_;refine V9 ?_;refine Ul fun w1 K hK hF e0=>?_;refine vm ?_ ?_
   ·exact Ea
   clear hK K;clear e0;refine um ?_;by_cases h2:p.kd<1
   ·skip;refine Va ?_;iterate 4 (refine Pn.unwanted Rn rfl (by first|rfl|simp[Region.wanted,yielded]) ?_;try walk_nrm)
    refine Va ?_;refine S9 ?_;exact Fb
   ·skip;refine Na ?_;refine Ul fun w1 K hK hF e0=>?_;refine vm ?_ ?_
    ·exact Ea
    clear hK K;clear e0;refine um ?_;refine V9 ?_;by_cases h3:mo<p.kd
    ·skip;refine Na ?_;refine S9 ?_;exact Fb
    ·skip;refine Na ?_;refine S9 ?_;refine Pn.Zq Rn J2 ?_;refine S9 ?_;obtain⟨gk,ck,gr,cr,K,Kb,kc0,kc1,kcc,aE,O10⟩:=hIO.fg0 E0 hmo E0 E0 E0;refine Pn.LH (S:=Is wO) Rn cJ 7 U0 j4 j4 [7,8] I0 hk J0 ((BA _ _).trans E6) fun w1 hR=>?_;replace hF:=(hF.rely hR).drew;clear hR;refine Vn Rn 0 Q8 hF ?_;refine um ?_;refine Jo Rn 1 rfl Q8 hF ?_ fun _ hw=>⟨Rm (by
      intro K hK;have e1:=(hw.cell ⟨b8,1,Hn⟩).trans o1;go_simp;exact hK),by
      have e1:=(hw.cell ⟨b8,1,Hn⟩).trans o1;exact jq plain (zo plain func7 J0 _) J0 _⟩
     refine um ?_;refine Vn Rn 2 Q8 hF ?_;refine um ?_;refine Vn Rn 3 Q8 hF ?_;refine um ?_;refine Vn Rn 4 Q8 hF ?_;refine um ?_;refine Jo Rn 5 rfl Q8 hF ?_ fun _ hw=>⟨Rm (by
      intro K hK;have hc:=(hw.cell _).trans kc0;go_simp;exact hK),by
      have hc:=(hw.cell _).trans kc0;exact jq plain (zo plain func7 J0 _) J0 _⟩
     refine um ?_;refine Vn Rn 6 Q8 hF ?_;refine za ?_;refine .stop rfl fun w4 hR=>?_;obtain⟨d4,rfl⟩:=hF.rely hR;clear hF hR;refine Ko.call rfl I0 hk (fun d=>?cH) (fun d=>?H70) (al0 p.at_ n (wO.at d4) E0 E0 Yr.lo Yr.hi) (fun v wP hv=>?_)
     case cH=>kernel_rfl
     case H70=>
      exact Ud
     obtain⟨rfl,hIs⟩:=hv;refine uc ?_;have hF:=Is.self wP;refine um ?_;obtain⟨d5,rfl⟩:=hIs;replace hF:Is wO ((wO.at d4).at d5):=⟨d5,rfl⟩;have hj:gA p.at_ n<n:=b30 p.at_ E0;have gy:((gA p.at_ n:Nat):Int)<(n:Int):=E0;generalize gA p.at_ n=j at *;obtain⟨kcK,kcR⟩:=kcc j hj;refine Fj ?_;refine Ce ?_;refine V9 ?_;refine Ul fun w1 K hK hF e0=>?_;refine vm ?_ ?_
     ·exact Ea
     clear hK K;clear e0;refine um ?_;refine Fj ?_;by_cases h4:p.kd=2
     ·skip;refine Pn.vr Rn (by first|rfl|simp[Act.eval,h4]) ?_;refine Eg fun w1 hF=>?_;refine um ?_;refine Vn Rn 1 Q8 hF ?_;refine um ?_;refine Vn Rn 2 Q8 hF ?_;refine um ?_;refine Jo Rn 3 rfl Q8 hF ?_ fun _ hw=>⟨Rm (by
       intro K hK;have hc:=(hw.cell _).trans kc0;go_simp;exact hK),by
       have hc:=(hw.cell _).trans kc0;exact jq plain (zo plain func7 J0 _) J0 _⟩
      refine um ?_;refine Vn Rn 4 Q8 hF ?_;refine um ?_;refine Jo Rn 5 rfl Q8 hF ?_ fun _ hw=>⟨Rm (by
       intro K hK;go_simp;exact hK),by
       exact jq plain (zo plain func7 J0 _) J0 _⟩
      refine um ?_;refine Jo Rn 6 rfl Q8 hF ?_ fun _ hw=>⟨Rm (by
       intro K hK;have hc:=(hw.cell _).trans kcK;go_simp;exact hK),by
       have hc:=(hw.cell _).trans kcK;exact jq plain (zo plain func7 J0 _) J0 _⟩
      refine um ?_;refine Vn Rn 7 Q8 hF ?_;refine um ?_;refine Vn Rn 8 Q8 hF ?_;refine um ?_;refine Vn Rn 9 Q8 hF ?_;refine um ?_;refine Jo Rn 10 rfl Q8 hF ?_ fun _ hw=>⟨Rm (by
       intro K hK;have hc:=(hw.cell _).trans kc1;go_simp;exact hK),by
       have hc:=(hw.cell _).trans kc1;exact jq plain (zo plain func7 J0 _) J0 _⟩
      refine um ?_;refine Vn Rn 11 Q8 hF ?_;refine um ?_;refine Jo Rn 12 rfl Q8 hF ?_ fun _ hw=>⟨Rm (by
       intro K hK;go_simp;exact hK),by
       exact jq plain (zo plain func7 J0 _) J0 _⟩
      refine um ?_;refine Jo Rn 13 rfl Q8 hF ?_ fun _ hw=>⟨Rm (by
       intro K hK;have hc:=(hw.cell _).trans kcR;go_simp;exact hK),by
       have hc:=(hw.cell _).trans kcR;exact jq plain (zo plain func7 J0 _) J0 _⟩
      refine um ?_;refine Vn Rn 14 Q8 hF ?_;refine um ?_;refine Jo Rn 15 rfl Q8 hF ?_ fun _ hw=>⟨Rm (by
       intro K hK;have e7:=(hw.cell ⟨b8,7,Hn⟩).trans o7;go_simp;exact hK),by
       have e7:=(hw.cell ⟨b8,7,Hn⟩).trans o7;exact jq plain (zo plain func7 J0 _) J0 _⟩
      refine za ?_;refine .stop rfl fun w4 hR=>?_;obtain⟨d4,rfl⟩:=hF.rely hR;clear hF hR;refine Ko.call rfl I0 hk (fun d=>?IJ) (fun d=>?Ue0) (aE d4 j (p.p 4) (p.l 4) (p.c 4) p.zi hj (Yr.ins wO fun b hb=>hIO.old hb) Yr.inp Yr.inb) (fun v wF hv=>?_)
      case IJ=>kernel_rfl
      case Ue0=>
       exact Ud
      obtain⟨rfl,hM⟩:=hv;refine uc ?_;have hF:=Is.self wF;refine um ?_;refine Vl fun w9 hR=>?_;exact LP n (i*206+206) (i+1) (i*4) w9 _ _ _ _ _ _ _ _ _ _ _ _ _ _ _ _ _ _ _ _ _ _ _ _ _ _ _ _ _ _ _ _ _ _ _ _ _ _ _ _ _ _ _ _ _ _ _ _ _ _ _ _ _ _ _ _ _ _ _ _ _ _ _ _ _ _ _ _ _ _ _ _ _ _ _ _ _ _ _ _ _ _ _ _ _ _ _ _ _ _ _ _ _ _ _ E0 E0 E0 E0 E0 (hM.is (hF.rely hR))
     ·skip;refine Pn.Zq Rn (by first|rfl|simp[Act.eval,h4]) ?_;refine Eg fun w1 hF=>?_;refine um ?_;refine Vn Rn 1 Q8 hF ?_;refine um ?_;refine Vn Rn 2 Q8 hF ?_;refine um ?_;refine Vn Rn 3 Q8 hF ?_;refine um ?_;refine Jo Rn 4 rfl Q8 hF ?_ fun _ hw=>⟨Rm (by
       intro K hK;have hc:=(hw.cell _).trans kc0;go_simp;exact hK),by
       have hc:=(hw.cell _).trans kc0;exact jq plain (zo plain func7 J0 _) J0 _⟩
      refine um ?_;refine Vn Rn 5 Q8 hF ?_;refine um ?_;refine Jo Rn 6 rfl Q8 hF ?_ fun _ hw=>⟨Rm (by
       intro K hK;go_simp;exact hK),by
       exact jq plain (zo plain func7 J0 _) J0 _⟩
      refine um ?_;refine Jo Rn 7 rfl Q8 hF ?_ fun _ hw=>⟨Rm (by
       intro K hK;have hc:=(hw.cell _).trans kcK;go_simp;exact hK),by
       have hc:=(hw.cell _).trans kcK;exact jq plain (zo plain func7 J0 _) J0 _⟩
      refine um ?_;refine Vn Rn 8 Q8 hF ?_;refine um ?_;refine Vn Rn 9 Q8 hF ?_;refine um ?_;refine Vn Rn 10 Q8 hF ?_;refine um ?_;refine Jo Rn 11 rfl Q8 hF ?_ fun _ hw=>⟨Rm (by
       intro K hK;have hc:=(hw.cell _).trans kc1;go_simp;exact hK),by
       have hc:=(hw.cell _).trans kc1;exact jq plain (zo plain func7 J0 _) J0 _⟩
      refine um ?_;refine Vn Rn 12 Q8 hF ?_;refine um ?_;refine Jo Rn 13 rfl Q8 hF ?_ fun _ hw=>⟨Rm (by
       intro K hK;go_simp;exact hK),by
       exact jq plain (zo plain func7 J0 _) J0 _⟩
      refine um ?_;refine Jo Rn 14 rfl Q8 hF ?_ fun _ hw=>⟨Rm (by
       intro K hK;have hc:=(hw.cell _).trans kcR;go_simp;exact hK),by
       have hc:=(hw.cell _).trans kcR;exact jq plain (zo plain func7 J0 _) J0 _⟩
      refine um ?_;refine Jo Rn 15 rfl Q8 hF ?_ fun _ hw=>⟨Rm (by
       intro K hK;refine Ld fun e0 e1 e2 e3 e4 e5 e6 e7=>?_;go_simp;exact hK),by
       refine Ld fun e0 e1 e2 e3 e4 e5 e6 e7=>?_;exact jq plain (zo plain func7 J0 _) J0 _⟩
      refine za ?_;refine .stop rfl fun w4 hR=>?_;obtain⟨d4,rfl⟩:=hF.rely hR;clear hF hR;refine Ko.call rfl I0 hk (fun d=>?JJ) (fun d=>?Ve0) (O10 d4 j p.kd p.at_ p.q (p.p 0) (p.p 1) (p.p 2) (p.p 3) (p.p 4) (p.l 0) (p.l 1) (p.l 2) (p.l 3) (p.l 4) (p.c 0) (p.c 1) (p.c 2) (p.c 3) (p.c 4) hj E0) (fun v wF hv=>?_)
      case JJ=>kernel_rfl
      case Ve0=>
       exact Ud
      obtain⟨rfl,hM⟩:=hv;refine uc ?_;have hF:=Is.self wF;refine um ?_;refine Vl fun w9 hR=>?_;exact LP n (i*206) (i) (i*4+4) w9 _ _ _ _ _ _ _ _ _ _ _ _ _ _ _ _ _ _ _ _ _ _ _ _ _ _ _ _ _ _ _ _ _ _ _ _ _ _ _ _ _ _ _ _ _ _ _ _ _ _ _ _ _ _ _ _ _ _ _ _ _ _ _ _ _ _ _ _ _ _ _ _ _ _ _ _ _ _ _ _ _ _ _ _ _ _ _ _ _ _ _ _ _ _ _ E0 E0 E0 E0 E0 (hM.is (hF.rely hR))
section
variable {w:En}
theorem WV{lp:Option Vm}{len cap:Nat}{mo:Int}{o:Nat->UI}(hmo:Ce0 mo)(hs:ScR w lp len o)(iy:len<=1048576):
  Ip prog 7 #[.slice lp len cap,.int .i64 mo] w (fun v w'=>v=.bool Um/\Jq (fun b=>w.heap.size<=b) w w'):=by
 refine Ip.oJ (List.toArray ((.slice lp len cap)::(.int .i64 mo)::Bn::Bn::Bn::Bn::Bn::Bn::Bn::Bn::Bn::Bn::Bn::Bn::Bn::Bn::Bn::Bn::Bn::Bn::Bn::Bn::Bn::Bn::Bn::Bn::Bn::Bn::Bn::Bn::Bn::Bn::Bn::Bn::Bn::Bn::Bn::Bn::Bn::Bn::Bn::Bn::Bn::Bn::Bn::Bn::Bn::Bn::Bn::Bn::Bn::Bn::Bn::Bn::Bn::Bn::Bn::Bn::Bn::Bn::Bn::Bn::Bn::Bn::Bn::Bn::Bn::Bn::Bn::Bn::Bn::Bn::Bn::Bn::Bn::Bn::Bn::Bn::Bn::Bn::Bn::Bn::Bn::Bn::Bn::Bn::Bn::Bn::Bn::Bn::Bn::Bn::Bn::Bn::Bn::Bn::Bn::Bn::Bn::Bn::Bn::[])) func7 I0 J0 fun cs Post hp=>?_;have hk:(base 7).kind≠.early:=J1;refine uc ?_;have hF:=Is.self w;refine lj ?_;refine Ce ?_;refine V9 ?_;refine K9 fun w1 K hK hF=>?_;refine vm ?_ ?_
 ·exact Ea
 clear hK K;obtain⟨d1,rfl⟩:=hF;have jQ:Sm w.heap.size w ((w.at d1).alloc (.cells #[.slice Hn 0 0,.slice Hn 0 0,.slice Hn 0 0,.slice Hn 0 0,.slice Hn 0 0] 79)):=have q:=(Below.refl w.heap.size (w.at d1)).alloc N8 _;⟨q.os,q.tape,q.output,q.size,q.block⟩;have yE:Tn ((w.at d1).alloc (.cells #[.slice Hn 0 0,.slice Hn 0 0,.slice Hn 0 0,.slice Hn 0 0,.slice Hn 0 0] 79)) w.heap.size 5 79 (cells5 (.slice Hn 0 0) (.slice Hn 0 0) (.slice Hn 0 0) (.slice Hn 0 0) (.slice Hn 0 0)):=Tn.new (w.at d1) _ _ _ (fun j hj=>by
  have kz:j<5:=hj;have:j=0\/j=1\/j=2\/j=3\/j=4:=E0;rcases this with rfl|rfl|rfl|rfl|rfl<;>rfl)
 rw[show (w.at d1).heap.size=w.heap.size from rfl];generalize hWB:(w.at d1).alloc (.cells #[.slice Hn 0 0,.slice Hn 0 0,.slice Hn 0 0,.slice Hn 0 0,.slice Hn 0 0] 79)=wB at *;have hF:=Is.self wB;refine um ?_;refine Fj ?_;refine Yf ?_;refine V9 ?_;refine .stop rfl fun w4 hR=>?_;obtain⟨d4,rfl⟩:=hF.rely hR;clear hF hR;refine Ko.call rfl I0 hk (fun d=>?MD) (fun d=>?GR) (Jg0 (wB.at d4)) (fun v wS hv=>?_)
 case MD=>kernel_rfl
 case GR=>
  exact Ud
 obtain⟨v0,v1,v2,v3,rfl,hS1,LM⟩:=hv;refine uc ?_;have hF:=Is.self wS;refine um ?_;replace LM:Sm wB.heap.size wB wS:=⟨LM.os,LM.tape,LM.output,LM.size,LM.block⟩;have hB2:Sm w.heap.size w wS:=jQ.trans (LM.mono jQ.size);have jv:Tn wS w.heap.size 5 79 (cells5 (.slice Hn 0 0) (.slice Hn 0 0) (.slice Hn 0 0) (.slice Hn 0 0) (.slice Hn 0 0)):=yE.of_heap (LM.block _ yE.lt);have hBS:Jq (fun b=>w.heap.size<=b) w wS:=Jq.of_below hB2 _;have hCF:∀w':En,(∀b,b<wS.heap.size->¬RZ w.heap.size (.slice Hn 0 0) (.slice Hn 0 0) b->w'.heap[b]?=wS.heap[b]?)->Zx w' v0 v1 v2 v3 qq:=fun w' hk=>hS1 w' fun b h1 h2=>hk b h2 (by
  have h3:=yE.lt;have h4:wB.heap.size<=b:=h1;rintro (q|q|q)
  ·omega
  ·simp[Value.ownBlock]at q
  ·simp[Value.ownBlock]at q)
 refine .stop rfl fun w4 hR=>?_;obtain⟨d4,rfl⟩:=hF.rely hR;clear hF hR;refine Ko.call rfl I0 hk (fun d=>?cH) (fun d=>?H70) ((Vr.start (w0:=w) (w:=wS.at d4) (bw:=w.heap.size) jv N8 ⟨hBS.os,hBS.tape,hBS.output,hBS.size,hBS.block⟩).g00 (N:=0) (fun _ _=>Om _) hCF d_ s9) (fun v wM hv=>?_)
 case cH=>kernel_rfl
 case H70=>
  exact Ud
 obtain⟨rfl,hM⟩:=hv;refine uc ?_;have hF:=Is.self wM;refine um ?_;have hI:Vs w w.heap.size 1 0 0 0 wM:=by
  rcases hM with⟨-,q⟩|⟨q,-⟩
  ·exact q
  ·exact absurd T90 q
 clear hM;refine V9 ?_;refine lj ?_;refine Pn.loop Rn ?_;refine .stop rfl fun w9 hR=>?_;obtain⟨d9,rfl⟩:=hF.rely hR;clear hF hR;exact yZ hmo hs iy cs hp len 0 1 (wM.at d9) _ _ _ _ _ _ _ _ _ _ _ _ _ _ _ _ _ _ _ _ _ _ _ _ _ _ _ _ _ _ _ _ _ _ _ _ _ _ _ _ _ _ _ _ _ _ _ _ _ _ _ _ _ _ _ _ _ _ _ _ _ _ _ _ _ _ _ _ _ _ _ _ _ _ _ _ _ _ _ _ _ _ _ _ _ _ _ _ _ _ _ _ _ _ _ E0 N8 E0 (hI.is ⟨d9,rfl⟩)
end
def nc0(c:Ur)(ins:List (Int×Int))(i:Nat):TI:=⟨c.Ho i,c.code i,i,fun j=>c.ch (j*3+1),ins⟩
def Kq0(c:Ur)(ins:List (Int×Int))(p:Nat×Nat)(s:yC):yC:=
 ⟨Qo s.z p.1 (Uo (nc0 c ins p.1) p.2 (s.z p.1) s.D).2.1,Qo s.m p.1 (s.m p.1+(Uo (nc0 c ins p.1) p.2 (s.z p.1) s.D).1.length),Qo s.xs p.1 (s.xs p.1++(Uo (nc0 c ins p.1) p.2 (s.z p.1) s.D).1.flatMap tq),(Uo (nc0 c ins p.1) p.2 (s.z p.1) s.D).2.2⟩
def Bg0(c:Ur)(ins:List (Int×Int))(wn:Nat->Nat×Nat):Nat->Nat->yC->yC
 |0,_,s=>s
 |ez+1,j,s=>Bg0 c ins wn ez (j+1) (Kq0 c ins (wn j) s)
def frameC(c:Ur)(r:Nat)(ins:List (Int×Int))(s:yC):yC:=
 {Bg0 c ins (UD c r) (c.nRow r) 0 s with D:=MH c.Zo (Bg0 c ins (UD c r) (c.nRow r) 0 s).D}
open Go.ChangeShapes Go.WideShapes Go.ChangeAt Go.Deep Go.Joins
section
variable {H:Type}{enc:TypeId×Dn->H}{P:Ym}{w:En}{base:Nat}{Qu:Nat->Bool}{held:Bool}
theorem bU{t:TypeId}{f0 f1 f2 f3 f4:Field}{fuel:Nat}{cs:List Dn}{x:DataW H×List MemPlace}(ht:P.underlying t=Gn (.struct #[f0,f1,f2,f3,f4]))(h:DataW.trod enc P w base Qu held fuel t cs=Gn x):
  ∃y0 y1 y2 y3 y4 n,x=(.agg [y0.1,y1.1,y2.1,y3.1,y4.1],[y0,y1,y2,y3,y4].flatMap (·.2))/\DataW.trod enc P w base Qu held n f0.type ((cs.drop f0.offset).take (P.cellsOf f0.type))=Gn y0/\DataW.trod enc P w base Qu held n f1.type ((cs.drop f1.offset).take (P.cellsOf f1.type))=Gn y1/\DataW.trod enc P w base Qu held n f2.type ((cs.drop f2.offset).take (P.cellsOf f2.type))=Gn y2/\DataW.trod enc P w base Qu held n f3.type ((cs.drop f3.offset).take (P.cellsOf f3.type))=Gn y3/\DataW.trod enc P w base Qu held n f4.type ((cs.drop f4.offset).take (P.cellsOf f4.type))=Gn y4:=by
 obtain⟨xs,n,-,rfl,-,hl,hx⟩:=DataW.trod_struct ht h;have XM:xs.length=5:=hl
 match xs,XM with
 | [y0,y1,y2,y3,y4],_=>exact⟨y0,y1,y2,y3,y4,n,rfl,hx 0 f0 rfl,hx 1 f1 rfl,hx 2 f2 rfl,hx 3 f3 rfl,hx 4 f4 rfl⟩
section
variable {t e fuel n cap:Nat}{p:Option Vm}{x:DataW H×List MemPlace}(ht:P.underlying t=Gn (.slice e))(h:DataW.trod enc P w base Qu held fuel t [.slice p n cap]=Gn x)
include t e fuel n cap p x ht h
theorem P30(VM:AX P t x.1):P.bytesOf e*n<=140737488351232:=by
 rcases open_slice ht h with⟨hcs,rfl⟩|⟨a,len,BU,m,n',D,Pl,hcs,-,hl,-,Y_,rfl,hel⟩
 ·simp at hcs;rw[hcs.2.1];simp
 ·simp at hcs;obtain⟨-,rfl,rfl⟩:=hcs;obtain⟨dE,-⟩:=gQ ht VM;simp only[List.length_map,List.length_range,reachBytes]at dE;rw[Nat.mul_comm];refine Qm (Nat.mul_le_mul_right _ ?_) dE;omega
theorem b_:n<=Rows.uptoBulk x.1:=by
 have ig0:∀l:List (DataW H),l.length<=Rows.uptoBulkAll l:=fun l=>by
  induction l with
  |nil=>simp
  |cons d l ih=>
   have:1<=Rows.uptoBulk d:=by
    cases d with
    |lit l=>cases l<;>simp[Rows.uptoBulk]
    |_=>simp[Rows.uptoBulk]
   simp only[Rows.uptoBulkAll,List.length_cons];omega
 rcases open_slice ht h with⟨hcs,rfl⟩|⟨a,len,BU,m,n',D,Pl,hcs,-,hl,-,Y_,rfl,hel⟩
 ·simp at hcs;omega
 ·simp at hcs;obtain⟨-,rfl,rfl⟩:=hcs;have:=ig0 ((Hm n).map D);simp only[List.length_map,List.length_range]at this;simp only[Rows.uptoBulk];omega
end
end
section
variable {H:Type}{enc:TypeId×Dn->H}{w:En}{base:Nat}{Qu:Nat->Bool}{held:Bool}
theorem c_op:prog.cellsOf 31=8:=J0
theorem Lq0:prog.bytesOf 31=144:=J0
theorem qo0:prog.cellsOf 59=2:=J0
theorem zl0:prog.bytesOf 59=16:=J0
theorem Me0:prog.cellsOf 29=1:=J0
theorem ec0:O00 enc prog w base Qu held 59 2:=by
 intro fuel cs x h r hr;obtain⟨y0,y1,n,-,-,h0,h1⟩:=trod_struct2 underlying59 h;have:r=0\/r=1:=E0;rcases this with rfl|rfl
 ·exact Vg
 ·exact ku underlying2 lR rfl h1
theorem gc0{fuel:Nat}{F:Nat->Dn}{x:DataW H×List MemPlace}(h:DataW.trod enc prog w base Qu held fuel 31 [F 0,F 1,F 2,F 3,F 4,F 5,F 6,F 7]=Gn x)(hf:AX prog 31 x.1):∃o:UI,(∀j,j<8->F j=o.cell j)/\P00 w o:=by
 obtain⟨y0,y1,y2,y3,y4,n,rfl,h0,h1,h2,h3,h4⟩:=bU underlying31 h;have f3:=Ww (j:=3) underlying31 hf rfl rfl;have f4:=Ww (j:=4) underlying31 hf rfl rfl;obtain⟨k0,e0,-,-⟩:=ku underlying3 IB rfl h0;obtain⟨k1,e1,l1,u1⟩:=ku underlying3 IB rfl h1;obtain⟨k2,e2,-,-⟩:=ku underlying3 IB rfl h2;rw[Ji0]at h3;rw[Me0]at h4;have yY:DataW.trod enc prog w base Qu held n 28 [F 3,F 4,F 5,F 6]=Gn y3:=h3;have h4':DataW.trod enc prog w base Qu held n 29 [F 7]=Gn y4:=h4;obtain⟨c,hc,hw⟩:=h90 yY f3;obtain⟨nl,m,z,⟨p,cap,i1,i2,i3,i4,i5,i6⟩,-⟩:=zJ underlying29 qo0 E0 zl0 ec0 h4' f4;obtain⟨p0,c0,G0,s0,-⟩:=hc.cells;obtain⟨p1,c1,G1,s1,-⟩:=hc.table;obtain⟨p2,c2,s2,-⟩:=hc.D_;obtain⟨p3,c3,s3,-⟩:=hc.Ui0;have hb:=P30 underlying29 (by rw[<-i1];exact h4') f4;rw[zl0]at hb;have e0':F 0=.int .i64 k0:=by simpa using e0
 have e1':F 1=.int .i64 k1:=by simpa using e1
 have e2':F 2=.int .i64 k2:=by simpa using e2
 refine⟨⟨k0,k1,k2,fun i=>if i=0 then p0 else if i=1 then p1 else if i=2 then p2 else if i=3 then p3 else p,fun i=>if i=0 then c.nC else if i=1 then c.nT else if i=2 then c.Zo else if i=3 then c.nD else m,fun i=>if i=0 then c0 else if i=1 then c1 else if i=2 then c2 else if i=3 then c3 else cap,c,z⟩,fun j hj=>?_,l1,u1,?_,hw,i6,?_,hb⟩
 ·have:j=0\/j=1\/j=2\/j=3\/j=4\/j=5\/j=6\/j=7:=by omega
  rcases this with rfl|rfl|rfl|rfl|rfl|rfl|rfl|rfl
  ·exact e0'
  ·exact e1'
  ·exact e2'
  ·exact s0
  ·exact s1
  ·exact s2
  ·exact s3
  ·exact i1
 ·show Zx w (.slice p0 c.nC c0) (.slice p1 c.nT c1) (.slice p2 c.Zo c2) (.slice p3 c.nD c3) c;rw[<-s0,<-s1,<-s2,<-s3];exact hc
 ·show (p=Hn/\m=0)\/∃ad,p=Gn ad/\(m=0\/ad.block<w.heap.size);cases p with
  |none=>exact .inl ⟨rfl,(i4 rfl).1⟩
  |some ad=>
   refine .inr ⟨ad,rfl,?_⟩;by_cases hm:m=0
   ·exact .inl hm
   ·obtain⟨b,off,e,W_⟩:=i6.at E0;obtain rfl:=Option.some.inj e;exact .inr (Wm (W_ 0 E0))
theorem i90{fuel:Nat}{v:Dn}{x:DataW H×List MemPlace}(h:DataW.trod enc prog w base Qu held fuel 22 [v]=Gn x)(hf:AX prog 22 x.1):
  ∃(p:Option Vm)(n cap:Nat)(o:Nat->UI),v=.slice p n cap/\n<=Rows.uptoBulk x.1/\(∀i,i<n->∃lb lo,p=Gn ⟨lb,lo,Hn⟩/\lb<w.heap.size/\∀j,j<8->w.cell? ⟨lb,lo+i*8+j,Hn⟩=Gn ((o i).cell j))/\∀i,i<n->P00 w (o i):=by
 obtain⟨l0,p,n,cap,F,D,m,rfl,a2,a3,a4,a5,a6,a7⟩:=OL underlying22 c_op E0 Lq0 h hf;have d0:UI:=⟨0,0,0,fun _=>Hn,fun _=>0,fun _=>0,⟨Um,0,fun _=>0,fun _=>Um,fun _=>0,fun _ _=>0,fun _=>Um,fun _=>0,fun _ _=>0,Um,0,fun _=>Um,fun _=>0,fun _ _=>0,Um,0,fun _=>0,Um,0,fun _=>0⟩,fun _=>0⟩;obtain⟨O,hO⟩:=choose_lt d0 (n:=n) (P:=fun i o=>(∀j,j<8->F (i*8+j)=o.cell j)/\P00 w o) (fun i hi=>by
  obtain⟨q1,q2⟩:=a7 i hi;exact gc0 (F:=fun j=>F (i*8+j)) q1 q2)
 refine⟨p,n,cap,O,rfl,b_ underlying22 h,fun i hi=>?_,fun i hi=>(hO i hi).2⟩;obtain⟨b,off,rfl,hc⟩:=a6.at E0;refine⟨b,off,rfl,Wm (hc (i*8) E0),fun j hj=>?_⟩;have:=hc (i*8+j) E0;rw[(hO i hi).1 j hj,<-Jm]at this;exact Vh
end
end Go.Proofs.YtdoghgnifkgfdaaGreat.Mute
namespace Go.Proofs
open Go.Shelf
def Tryz.sortInts_ren:Ren:=⟨fun|5=>55|8=>82|7=>81|19=>109|20=>110|10=>100|11=>101|12=>102|13=>103|14=>104|15=>105|16=>106|17=>107|18=>108|30=>119|31=>120|32=>121|33=>122|34=>123|35=>124|40=>134|n=>n,fun|23=>26|25=>3|32=>189|22=>26|44=>218|46=>220|36=>211|35=>210|41=>215|53=>234|57=>238|63=>249|64=>115|n=>n,fun n=>n⟩
theorem Tryz.sortInts:SlLaysM.n5 Tryz.prog Tryz.sortInts_ren:=by
 have h:=fun{f B}a b=>show Bears Tryz.prog f B from⟨(Tryz.prog.funcs[f]?.getD Tryz.f0).name,a,b⟩
 constructor
 all_goals first|kernel_rfl|(intro _;kernel_rfl)|exact h (by kernel_rfl) (by kernel_rfl)
end Go.Proofs
namespace Go.Proofs.YtdoghgnifkgfdaaGreat
open Go.Proofs.Tryz Go.RowKit Go.Sort
theorem S30:GX prog 55:=by
 intro base g c n L w hn mJ hb ZD Io;have yS:=yI Io hn;have hg:g<w.heap.size/\base<=g:=by have:=Io.lt g rfl;omega
 have aE:∀a:Nat,w.frozen? ⟨g,a,Hn⟩=false:=fun a=>by
  rcases Io.2 with⟨e,_⟩|⟨g',cap,Ov,e,_,hh,_⟩
  ·cases e
  ·injection e with e1
   injection e1 with e1
   injection e1 with e1
   subst e1;unfold World.frozen?;rw[hh];simp
 have hcell:∀j,j<n->w.cell? ⟨g,0+j,Hn⟩=Gn (.int .i64 (L.getD j 0)):=fun j hj=>by
  obtain⟨b,o,e,hc⟩:=yS.at mJ;have e2:=Option.some.inj e;injection e2 with e3 e4
  subst e3 e4;exact hc j hj
 have hH:Holds (Value.int .i64) w g 0 L.toArray:=fun j hj=>by
  have hj:j<L.length:=E2;refine⟨?_,aE _⟩;rw[hcell j E0];simp[hj]
 have hC:=AnyM.slices_Sort_int Tryz.sortInts g 0 c L w hH hg.1 E0;rw[hn]at hC;refine Calls.mono hC ?_;rintro e w' ⟨rfl,k,os,rfl⟩;have y80:(L.mergeSort fun x y=>decide (x<=y)).Perm L:=List.mergeSort_perm ..;have iy:(L.mergeSort fun x y=>decide (x<=y)).length=n:=by rw[y80.length_eq,hn]
 have ju:(putRow (Value.int .i64) (Sort.ahead w k) g 0 (L.mergeSort fun x y=>decide (x<=y)).toArray).heap.size=w.heap.size:=by
  unfold putRow mapBlock;simp[Sort.ahead]
 have ZM:∀b,b<w.heap.size->b≠g->(putRow (Value.int .i64) (Sort.ahead w k) g 0 (L.mergeSort fun x y=>decide (x<=y)).toArray).heap[b]?=w.heap[b]?:=fun b _ Yp=>by
  unfold putRow mapBlock;simp only[Sort.ahead,Array.getElem?_modify];rw[if_neg (fun e=>Yp e.symm)]
 refine⟨rfl,⟨rfl,rfl,rfl,?_,fun b Vx=>?_⟩,_,iy,fun x=>y80.mem_iff,?_,fun hnd=>?_⟩
 ·unfold grow;simp[ju]
 ·rw[heap_grow_old _ os (by rw[ju];omega)];exact ZM b E0 E0
 ·have h1:=holds_putRow (Value.int .i64) (Sort.ahead w k) g 0 L.toArray (L.mergeSort fun x y=>decide (x<=y)).toArray (holds_ahead _ _ _ _ _ _ hH) P0;have h2:=holds_grow (Value.int .i64) _ os g 0 _ (by rw[ju];exact hg.1) h1;rcases Io.2 with⟨e,_⟩|⟨g',cap,Ov,e,Dx,hh,QM,mH,hc3,hc4⟩
  ·cases e
  ·injection e with e1 e3 e2
   injection e1 with e1
   injection e1 with e1
   subst e1 e2;have hh':(grow (putRow (Value.int .i64) (Sort.ahead w k) g 0 (L.mergeSort fun x y=>decide (x<=y)).toArray) os).heap[g]?=Gn (.cells (putCells (Value.int .i64) 0 (L.mergeSort fun x y=>decide (x<=y)).toArray Ov) 3 (0,0)):=by
    rw[heap_grow_old _ os (by rw[ju];exact hg.1)];unfold putRow mapBlock;simp only[Sort.ahead,Array.getElem?_modify,if_true,hh];rfl
   have uy:(putCells (Value.int .i64) 0 (L.mergeSort fun x y=>decide (x<=y)).toArray Ov).size=Ov.size:=by unfold putCells;exact Array.size_mapIdx
   refine⟨by rw[List.length_map,iy,Nat.mul_one],.inr ⟨g,c,_,rfl,Dx,hh',QM,mH,by rw[uy];exact hc3,List.ext_getElem? fun j=>?_⟩⟩;rw[Nat.mul_one,List.getElem?_take,List.getElem?_map];by_cases hj:j<n
   ·rw[if_pos hj];have h3:=(h2 j A1).1;unfold World.cell? at h3;rw[hh']at h3;simp[iy,hj]at h3 ⊢;exact h3
   ·rw[if_neg hj,List.getElem?_eq_none E0];rfl
 ·have h1:=List.pairwise_mergeSort (le:=fun x y:Int=>decide (x<=y)) (fun a b c h1 h2=>by simp at *;omega) (fun a b=>A1) L;exact(h1.and (y80.nodup_iff.2 hnd)).imp fun ⟨h1,h2⟩=>by simp at h1;omega
theorem cZ(kb nb eb k nC cC ce:Nat)(a q:Option Vm)(fr Au:Nat->Int)(cell:Nat)(w:En)(h2:w.cell? ⟨kb,2,Hn⟩=Gn (.slice q nC cC))(h3:w.cell? ⟨kb,3,Hn⟩=Gn (.pointer (Gn ⟨nb,0,Hn⟩)))(h0:w.cell? ⟨nb,0,Hn⟩=Gn (.slice a k ce))(ha:0<k->a=Gn ⟨eb,0,Hn⟩)(he:∀j,j<k->w.cell? ⟨eb,j*2,Hn⟩=Gn (.int .i64 (fr j))/\w.cell? ⟨eb,j*2+1,Hn⟩=Gn (.int .i64 (Au j)))(hk:k<=1000)(hr:∀j,j<k->0<=fr j/\fr j<nC)(hnC:nC<=1000)(hcell:cell<nC):
  Zm prog 11 #[.pointer (Gn ⟨kb,0,Hn⟩),.int .i64 cell] w fun e w'=>∃g c n,∃L:List Int,e=.returned (.tuple #[.slice (Gn ⟨g,0,Hn⟩) n c,.int .i64 0])/\w.heap.size<=g/\L.length=n/\n<=1000/\Sm w.heap.size w w'/\w'.ownsRow w.heap.size 3 1 (.slice (Gn ⟨g,0,Hn⟩) n c) n (L.map (Value.int .i64 ·))/\AbX nC k fr Au cell L:=by
 have hd:decide (0<=(cell:Int)/\(cell:Int)<nC)=true:=by simp;omega
 have HC:=JX S30 nb eb k nC ce a fr Au cell w h0 ha he hk hr hnC hcell;clear h0 ha he hr
 go_enter func11,ntmps11
 go_wp2_with fail
 refine(MB kb nC cC _ cell _ h2).mono ?_;rintro e w1 ⟨rfl,rfl⟩;rw[hd];go_wp2_with fail;refine HC.mono ?_;rintro e w' ⟨g,c,n,L,rfl,q0,q1,q2,q3,q4,q5⟩;have HQ:Hid (w1.heap.size<=g/\L.length=n/\n<=1000/\Sm w1.heap.size w1 w'/\w'.ownsRow w1.heap.size 3 1 (.slice (Gn ⟨g,0,Hn⟩) n c) n (L.map (Value.int .i64 ·))/\AbX nC k fr Au cell L):=⟨q0,q1,q2,q3,q4,q5⟩;clear q0 q1 q2 q3 q4 q5 HC;go_wp2_with fail
 go_ret2
 exact⟨g,c,n,L,rfl,HQ.out⟩
end Go.Proofs.YtdoghgnifkgfdaaGreat
namespace Go.Proofs.YtdoghgnifkgfdaaGreat.Mute
open Go.Proofs.Tryz Go Go.Conc Go.RowKit
end Go.Proofs.YtdoghgnifkgfdaaGreat.Mute
namespace Go.Proofs.YtdoghgnifkgfdaaGreat
open Go.Proofs.Tryz Go.RowKit
theorem M60(kb nC cC:Nat)(q:Option Vm)(cell:Int)(w:En)(h2:w.cell? ⟨kb,2,Hn⟩=Gn (.slice q nC cC))(hc:¬(0<=cell/\cell<nC)):
  Zm prog 11 #[.pointer (Gn ⟨kb,0,Hn⟩),.int .i64 cell] w fun e w'=>e=.returned (.tuple #[.slice Hn 0 0,.int .i64 7])/\w'=w:=by
 have hd:decide (0<=cell/\cell<nC)=false:=X5
 go_enter func11,ntmps11
 exact Bc
theorem xO(bw K Kb Gc nC cC cG nE:Nat)(q:Option Vm)(a n:Int)(p0 p1 p2 p3 p4:Option Vm)(l0 l1 l2 l3 l4 c0 c1 c2 c3 c4:Nat)(ve:Dn)(iw:List Dn)(fB:Nat->Dn)(w:En)
  (hB:Tn w bw 5 79 fB)(hf:fB 4=ve)(hE:w.ownsRow 0 26 1 ve nE iw)(eI:ve.ownBlock≠Gn bw)(bE:nE<=1000000000)
  (h2:w.cell? ⟨K,2,Hn⟩=Gn (.slice q nC cC))(h4:w.cell? ⟨Kb,4,Hn⟩=Gn (.slice (Gn ⟨Gc,0,Hn⟩) nC cG))(hn:¬(0<=n/\n<nC)):
  Zm prog 22 #[.pointer (Gn ⟨bw,0,Hn⟩),.pointer (Gn ⟨K,0,Hn⟩),.pointer (Gn ⟨Kb,0,Hn⟩),.agg #[.int .i64 6,.int .i64 a,.int .i64 n,.slice p0 l0 c0,.slice p1 l1 c1,.slice p2 l2 c2,.slice p3 l3 c3,.slice p4 l4 c4]] w fun e w'=>e=.returned (.bool Um)/\∃oD us S base,us.length=4/\w.heap.size<=base/\base<=S/\lx w base S bw 4 79 26 1 nE fB ve us oD (nE+4) (iw++us) w':=by
 have Aw:Hid (Tn w bw 5 79 fB):=hB;have pO:Hid (fB 4=ve):=hf;have HE:Hid (w.ownsRow 0 26 1 ve nE iw):=hE;refine Ua fun kX=>?_;clear hB hf hE eI;refine Ol fun HA lK pJ nK nKb=>?_;have HN:Hid (¬(0<=n/\n<nC)):=hn;clear hn;obtain⟨h0,hge⟩|h0:((0<=n)=True/\(n<(nC:Int))=False)\/(0<=n)=False:=by
  have:=HN.out;by_cases h:0<=n
  ·exact .inl ⟨X2,K6⟩
  ·exact .inr X2
 all_goals
  go_enter func22,ntmps22
  go_wp2_with fail
  go_quiet (fail)
  have Ox:Hid (Sm w.heap.size w ((w.alloc (.cells #[.int .i64 6,.int .i64 a,.int .i64 n,.slice p0 l0 c0,.slice p1 l1 c1,.slice p2 l2 c2,.slice p3 l3 c3,.slice p4 l4 c4] 31)).drewN nq)):=below_drewN (HA.out _) _;have rE:Hid (Tn ((w.alloc (.cells #[.int .i64 6,.int .i64 a,.int .i64 n,.slice p0 l0 c0,.slice p1 l1 c1,.slice p2 l2 c2,.slice p3 l3 c3,.slice p4 l4 c4] 31)).drewN nq) w.heap.size 8 31 (cells8 (.int .i64 6) (.int .i64 a) (.int .i64 n) (.slice p0 l0 c0) (.slice p1 l1 c1) (.slice p2 l2 c2) (.slice p3 l3 c3) (.slice p4 l4 c4))):=row8 w _ _ _ _ _ _ _ _ _;have sA:w.heap.size<((w.alloc (.cells #[.int .i64 6,.int .i64 a,.int .i64 n,.slice p0 l0 c0,.slice p1 l1 c1,.slice p2 l2 c2,.slice p3 l3 c3,.slice p4 l4 c4] 31)).drewN nq).heap.size:=rE.out.lt;refine sd fun x0 x2=>?_;simp only[cells8,reduceIte,Nat.reduceEqDiff]at x0 x2;refine Aa fun d2 d4=>?_;generalize ((w.alloc (.cells #[.int .i64 6,.int .i64 a,.int .i64 n,.slice p0 l0 c0,.slice p1 l1 c1,.slice p2 l2 c2,.slice p3 l3 c3,.slice p4 l4 c4] 31)).drewN nq)=w0 at *;go_wp2_with fail;refine(M60 K nC cC q n _ d2 HN.out).mono ?_;rintro e w1 ⟨rfl,dE⟩;replace dE:=dE.symm;subst dE;go_wp2_with fail;refine(OB 7 _).mono ?_;rintro e w1 ⟨rfl,dE⟩;replace dE:=dE.symm;subst dE;go_wp2_with fail;refine(yG bw 0 nE w.heap.size (.slice Hn 0 0) ve (fun _=>0) iw fB _ (Aw.out.below Ox.out Aw.out.lt) pO.out (xo HE.out Ox.out) (World.ownsRow_nil _ _ _ _) Aw.out.lt kX.out Ox.out.size bE E0).mono ?_;rintro e w2 ⟨rfl,oD,us,S,r1,r2,r3⟩;have R1:Hid (us.length=4):=r1;have R2:Hid (w0.heap.size<=S):=r2;have R3:Hid _:=r3;clear r1 r2 r3;go_wp2_with fail;go_ret;exact⟨rfl,oD,us,S,w.heap.size,R1.out,Om _,Qm Ox.out.size R2.out,R3.out.back Ox.out⟩
theorem eM(bw K Kb Gc nb eb k nC cC ce cG nE cell d0c d1c d2c d3c n1 n3:Nat)(q ea q0 q1 q2 q3:Option Vm)(fr Au ch:Nat->Int)(fn tn:Nat->Nat)(a:Int)(p0 p1 p2 p3 p4:Option Vm)(l0 l1 l2 l3 l4 c0 c1 c2 c3 c4:Nat)(ve:Dn)(iw:List Dn)(fB:Nat->Dn)(w:En)
  (hB:Tn w bw 5 79 fB)(hf:fB 4=ve)(hE:w.ownsRow 0 26 1 ve nE iw)(eI:ve.ownBlock≠Gn bw)(bE:nE<=1000000000)
  (h2:w.cell? ⟨K,2,Hn⟩=Gn (.slice q nC cC))(h3:w.cell? ⟨K,3,Hn⟩=Gn (.pointer (Gn ⟨nb,0,Hn⟩)))(h0:w.cell? ⟨nb,0,Hn⟩=Gn (.slice ea k ce))(ha:0<k->ea=Gn ⟨eb,0,Hn⟩)(he:∀j,j<k->w.cell? ⟨eb,j*2,Hn⟩=Gn (.int .i64 (fr j))/\w.cell? ⟨eb,j*2+1,Hn⟩=Gn (.int .i64 (Au j)))
  (h4:w.cell? ⟨Kb,4,Hn⟩=Gn (.slice (Gn ⟨Gc,0,Hn⟩) nC cG))(r0:w.cell? ⟨Kb,0,Hn⟩=Gn (.slice q0 nC d0c))(r1:w.cell? ⟨Kb,1,Hn⟩=Gn (.slice q1 n1 d1c))(r2:w.cell? ⟨Kb,2,Hn⟩=Gn (.slice q2 k d2c))(r3:w.cell? ⟨Kb,3,Hn⟩=Gn (.slice q3 n3 d3c))(hs:Sl w q2 (k*3) (fun j=>.int .i64 (ch j)))
  (hr:∀j,j<k->fr j=fn j/\Au j=tn j/\(ch (j*3+1)=fn j/\fn j<nC)/\ch (j*3+2)=tn j/\tn j<nC)(hk:k<=1000)(hnC:nC<=1000)(hc:cell<nC):
  Zm prog 22 #[.pointer (Gn ⟨bw,0,Hn⟩),.pointer (Gn ⟨K,0,Hn⟩),.pointer (Gn ⟨Kb,0,Hn⟩),.agg #[.int .i64 6,.int .i64 a,.int .i64 (cell:Int),.slice p0 l0 c0,.slice p1 l1 c1,.slice p2 l2 c2,.slice p3 l3 c3,.slice p4 l4 c4]] w fun e w'=>e=.returned (.bool Um)/\∃oD us S base,us.length=4/\w.heap.size<=base/\base<=S/\lx w base S bw 4 79 26 1 nE fB ve us oD (nE+4) (iw++us) w':=by
 have Aw:Hid (Tn w bw 5 79 fB):=hB;have pO:Hid (fB 4=ve):=hf;have HE:Hid (w.ownsRow 0 26 1 ve nE iw):=hE;refine Ua fun kX=>?_;clear hB hf hE eI;refine Ol fun HA lK pJ nK nKb=>?_;have lG:(cell:Int)<(nC:Int):=E0;have WL:Hid ((0<k->ea=Gn ⟨eb,0,Hn⟩)/\(∀j,j<k->w.cell? ⟨eb,j*2,Hn⟩=Gn (.int .i64 (fr j))/\w.cell? ⟨eb,j*2+1,Hn⟩=Gn (.int .i64 (Au j)))/\∀j,j<k->fr j=fn j/\Au j=tn j/\(ch (j*3+1)=fn j/\fn j<nC)/\ch (j*3+2)=tn j/\tn j<nC):=⟨ha,he,hr⟩;have HS:Hid (Sl w q2 (k*3) (fun j=>.int .i64 (ch j))):=hs;clear ha he hr hs
 go_enter func22,ntmps22
 go_wp2_with fail
 go_quiet (fail)
 have Ox:Hid (Sm w.heap.size w ((w.alloc (.cells #[.int .i64 6,.int .i64 a,.int .i64 (cell:Int),.slice p0 l0 c0,.slice p1 l1 c1,.slice p2 l2 c2,.slice p3 l3 c3,.slice p4 l4 c4] 31)).drewN nq)):=below_drewN (HA.out _) _;have rE:Hid (Tn ((w.alloc (.cells #[.int .i64 6,.int .i64 a,.int .i64 (cell:Int),.slice p0 l0 c0,.slice p1 l1 c1,.slice p2 l2 c2,.slice p3 l3 c3,.slice p4 l4 c4] 31)).drewN nq) w.heap.size 8 31 (cells8 (.int .i64 6) (.int .i64 a) (.int .i64 (cell:Int)) (.slice p0 l0 c0) (.slice p1 l1 c1) (.slice p2 l2 c2) (.slice p3 l3 c3) (.slice p4 l4 c4))):=row8 w _ _ _ _ _ _ _ _ _;have sA:w.heap.size<((w.alloc (.cells #[.int .i64 6,.int .i64 a,.int .i64 (cell:Int),.slice p0 l0 c0,.slice p1 l1 c1,.slice p2 l2 c2,.slice p3 l3 c3,.slice p4 l4 c4] 31)).drewN nq).heap.size:=rE.out.lt;refine sd fun x0 x2=>?_;simp only[cells8,reduceIte,Nat.reduceEqDiff]at x0 x2;refine Aa fun d2 d4=>?_;generalize ((w.alloc (.cells #[.int .i64 6,.int .i64 a,.int .i64 (cell:Int),.slice p0 l0 c0,.slice p1 l1 c1,.slice p2 l2 c2,.slice p3 l3 c3,.slice p4 l4 c4] 31)).drewN nq)=w0 at *;go_wp2_with fail;refine(cZ K nb eb k nC cC ce ea q fr Au cell _ d2 ((Ox.out.cell (p:=⟨K,3,Hn⟩) lK).trans h3) ((Ox.out.cell (p:=⟨nb,0,Hn⟩) (Wm h0)).trans h0) WL.out.1 (fun j hj=>⟨(Ox.out.cell (p:=⟨eb,j*2,Hn⟩) (Wm (WL.out.2.1 j hj).1)).trans (WL.out.2.1 j hj).1,(Ox.out.cell (p:=⟨eb,j*2+1,Hn⟩) (Wm (WL.out.2.1 j hj).2)).trans (WL.out.2.1 j hj).2⟩) hk (fun j hj=>by rw[(WL.out.2.2 j hj).1];have:=(WL.out.2.2 j hj).2.2.1.2;omega) hnC hc).mono ?_;rintro e w1 ⟨gu,cu,n,L,rfl,hg1,YH,mG,Dx,hu,YR⟩;have Ax:Hid (Sm w0.heap.size w0 w1):=Dx;have HU:Hid (w1.ownsRow w0.heap.size 3 1 (.slice (Gn ⟨gu,0,Hn⟩) n cu) n (L.map (Value.int .i64 ·))):=hu;have HLN:Hid (L.length=n):=YH;have HAB:Hid (AbX nC k fr Au cell L):=YR;have mJ:0<n:=by rw[<-YH];exact List.length_pos_of_mem YR.1
 have hmi:¬(n:Int)=0:=E0;clear hg1 YH Dx hu YR x0 x2 d2 d4;have HX1:Hid (Tn w1 w.heap.size 8 31 (cells8 (.int .i64 6) (.int .i64 a) (.int .i64 (cell:Int)) (.slice p0 l0 c0) (.slice p1 l1 c1) (.slice p2 l2 c2) (.slice p3 l3 c3) (.slice p4 l4 c4))):=rE.out.below Ax.out sA;have x2:=HX1.out.cell (j:=2) E0;simp only[cells8,reduceIte,Nat.reduceEqDiff]at x2;refine kh fun z0=>?_;have HBx:Hid (Sm w.heap.size w w1):=Ox.out.trans (Ax.out.mono E9);have g0:=(HBx.out.cell (p:=⟨Kb,0,Hn⟩) pJ).trans r0;have g1:=(HBx.out.cell (p:=⟨Kb,1,Hn⟩) pJ).trans r1;have g2:=(HBx.out.cell (p:=⟨Kb,2,Hn⟩) pJ).trans r2;have g3:=(HBx.out.cell (p:=⟨Kb,3,Hn⟩) pJ).trans r3;have z4:Kb<w1.heap.size:=Nat.lt_trans pJ z0;have HSx:Hid (Sl w1 q2 (k*3) (fun j=>.int .i64 (ch j))):=HS.out.below HBx.out;go_wp2_with fail;go_region_held3 (fun W=>W.cell? ⟨w.heap.size,2,Hn⟩=Gn (.int .i64 (cell:Int))/\W.cell? ⟨Kb,0,Hn⟩=Gn (.slice q0 nC d0c)/\W.cell? ⟨Kb,1,Hn⟩=Gn (.slice q1 n1 d1c)/\W.cell? ⟨Kb,2,Hn⟩=Gn (.slice q2 k d2c)/\W.cell? ⟨Kb,3,Hn⟩=Gn (.slice q3 n3 d3c)) (go_keep)
  (first
   |(go_at_call 48
     refine(DT nC k cell d0c d2c q0 q2 _ _ ch fn tn _ ⟨_,_,_,rfl⟩ ⟨_,_,_,rfl⟩ (by exact HSx.out) (fun j hj=>(WL.out.2.2 j hj).2.2.1) (fun j hj=>(WL.out.2.2 j hj).2.2.2) hk hnC hc).mono ?_;rintro e w2 ⟨pm,m,cm,b,rfl,hm,Vx,GL,b1,b2,b3⟩;have y2:w2.cell? ⟨w.heap.size,2,Hn⟩=Gn (.int .i64 (cell:Int)):=(Vx.cell (p:=⟨w.heap.size,2,Hn⟩) z0).trans x2;have k0:w2.cell? ⟨Kb,0,Hn⟩=Gn (.slice q0 nC d0c):=(Vx.cell (p:=⟨Kb,0,Hn⟩) z4).trans g0;have k1:w2.cell? ⟨Kb,1,Hn⟩=Gn (.slice q1 n1 d1c):=(Vx.cell (p:=⟨Kb,1,Hn⟩) z4).trans g1;have k2:w2.cell? ⟨Kb,2,Hn⟩=Gn (.slice q2 k d2c):=(Vx.cell (p:=⟨Kb,2,Hn⟩) z4).trans g2;have k3:w2.cell? ⟨Kb,3,Hn⟩=Gn (.slice q3 n3 d3c):=(Vx.cell (p:=⟨Kb,3,Hn⟩) z4).trans g3;replace Vx:Sm w1.heap.size w1 w2:=Below.trans (Below.drew k9) Vx;have HP:Hid (m=(vL b nC).length/\Sm w1.heap.size w1 w2/\Sl w2 pm m (fun j=>.int .i64 ((vL b nC).getD j 0))/\b cell=Um/\Shut k fn tn b/\∀P:Nat->Prop,P cell->(∀j,j<k->P (tn j)->P (fn j))->∀x,b x=Um->P x):=⟨hm,Vx,GL,b1,b2,b3⟩;clear hm Vx GL b1 b2 b3))
 obtain⟨hm,Vx,GL,b1,b2,b3⟩:=HP.out;clear HP;have HEQ:Hid (L=vL b nC):=L60 (fun j hj=>(WL.out.2.2 j hj).1) (fun j hj=>(WL.out.2.2 j hj).2.1) HAB.out.2.2.1 HAB.out.2.2.2.1 HAB.out.1 HAB.out.2.1 HAB.out.2.2.2.2 b1 b2 b3;obtain rfl:m=n:=by rw[hm,<-HEQ.out];exact HLN.out
 rw[<-HEQ.out]at GL;have HSM:Hid (Sl w2 pm m (fun j=>.int .i64 (L.getD j 0))):=GL;have Pz:Hid (Sm w1.heap.size w1 w2):=Vx;have HSU:Hid (Sl w2 (Gn ⟨gu,0,Hn⟩) m (fun j=>.int .i64 (L.getD j 0))):=(yI HU.out HLN.out).below Pz.out;clear hm Vx GL b1 b2 b3 g0 g1 g2 g3 x2 y2 k0 k1 k2 k3;go_wp2_with fail;go_loopw [21,23] (fun ok i wr=>∃j:Nat,j<=m/\i=.int .i64 j/\ok=.bool Um/\∃d,wr=w2.drewN d) (fun _ i _=>m-(intOf i).toNat)
 case atStart=>exact⟨0,Pm _,rfl,rfl,0,rfl⟩
 case round=>
  obtain⟨j,hj,rfl,rfl,d,rfl⟩:=hrel;by_cases yo:j<m
  ·have gy:(j:Int)<(m:Int):=by omega
   obtain⟨b,o,rfl,QM⟩:=HSM.out.at E0;obtain⟨b',o',e',mH⟩:=HSU.out.at E0;have e2:=Option.some.inj e';injection e2 with e3 e4
   subst e3 e4;have cm:=QM j yo;have cu:=mH j yo;rw[Nat.zero_add]at cu;clear QM mH e';generalize L.getD j 0=x at *;go_wp2_with fail;go_region_held3 (fun W=>W.cell? ⟨gu,j,Hn⟩=Gn (.int .i64 x)/\W.cell? ⟨b,o+j,Hn⟩=Gn (.int .i64 x)) (go_keep) (fail);go_wp2_with fail;exact⟨⟨j+1,E0,E1,rfl,d+1,rfl⟩,U1⟩
  ·obtain rfl:j=m:=by omega
   have IG:Hid (Sm w1.heap.size w1 (w2.drewN d)):=below_drewN Pz.out _;generalize w2.drewN d=wl at *;have kD:Hid (Sm w.heap.size w wl):=HBx.out.trans (IG.out.mono (Nat.le_of_lt z0));have HUL:Hid (wl.ownsRow w0.heap.size 3 1 (.slice (Gn ⟨gu,0,Hn⟩) j cu) j ((Hm (j*1)).map fun i=>.int .i64 (L.getD i 0))):=by
    have h:=xo HU.out IG.out;rw[show L.map (Value.int .i64 ·)=(Hm (j*1)).map fun i=>.int .i64 (L.getD i 0)from List.ext_getElem? fun i=>by
     have:=HLN.out;by_cases hi:i<j
     ·simp[hi,show i<L.length by omega]
     ·simp[hi,show ¬i<L.length by omega]]at h
    exact h
   refine Xf fun YQ=>?_;go_wp2_with fail;refine(yG bw j nE w0.heap.size (.slice (Gn ⟨gu,0,Hn⟩) j cu) ve (fun i=>L.getD i 0) iw fB _ (Aw.out.below kD.out Aw.out.lt) pO.out (xo HE.out kD.out) HUL.out G9 (fun b hb=>⟨Nat.lt_trans (kX.out b hb).1 sA,(kX.out b hb).2⟩) YQ.out bE E0).mono ?_;exact ia
end Go.Proofs.YtdoghgnifkgfdaaGreat
namespace Go.Proofs.YtdoghgnifkgfdaaGreat.Mute
open Go.Proofs.Tryz Go Go.Conc Go.RowKit
theorem Yz.above{w:En}{K Kb mm ff:Nat}{S S':Nat->Prop}(h:Yz w K Kb mm ff S S')(bw nE:Nat)(a n:Int)(p0 p1 p2 p3 p4:Option Vm)(l0 l1 l2 l3 l4 c0 c1 c2 c3 c4:Nat)(ve:Dn)(iw:List Dn)(fB:Nat->Dn)(hB:Tn w bw 5 79 fB)(hf:fB 4=ve)(hE:w.ownsRow 0 26 1 ve nE iw)(eI:ve.ownBlock≠Gn bw)(bE:nE<=1000000000):
  Zm prog 22 #[.pointer (Gn ⟨bw,0,Hn⟩),.pointer (Gn ⟨K,0,Hn⟩),.pointer (Gn ⟨Kb,0,Hn⟩),.agg #[.int .i64 6,.int .i64 a,.int .i64 n,.slice p0 l0 c0,.slice p1 l1 c1,.slice p2 l2 c2,.slice p3 l3 c3,.slice p4 l4 c4]] w fun e w'=>e=.returned (.bool Um)/\∃oD us S base,us.length=4/\w.heap.size<=base/\base<=S/\lx w base S bw 4 79 26 1 nE fB ve us oD (nE+4) (iw++us) w':=by
 obtain⟨⟨k,N,t,s,f,lr,rr,r,t',x,vs,Ls,inV,jl,fr,h1,h2,rfl,rfl,h5,h6,h7,h8,h9,fO,iO⟩,ha⟩:=h;by_cases hn:0<=n/\n<k.nC
 ·obtain⟨cell,rfl⟩:∃cell:Nat,n=cell:=⟨n.toNat,E0⟩;obtain⟨ea,ce,n0,na⟩:=h1.OI.nc.n0;have hk:=h2.tb.kk;refine eM bw k.kb r.Kb r.Gc N.nb N.eb N.k k.nC k.cC ce k.nC nE cell _ _ _ _ _ _ _ ea _ _ x.qc _ N.fr N.Au x.ch (fun j=>(N.fr j).toNat) (fun j=>(N.Au j).toNat) a p0 p1 p2 p3 p4 l0 l1 l2 l3 l4 c0 c1 c2 c3 c4 ve iw fB w hB hf hE eI bE h1.OI.k2 (h1.qG.cell (j:=3) E0) n0 na (fun j hj=>⟨h1.OI.nc.e0 j hj,h1.OI.nc.e1 j hj⟩) h2.kn.h4 (h2.qG.cell (j:=0) E0) (h2.qG.cell (j:=1) E0) (by rw[hk];exact h2.qG.cell (j:=2) E0) (h2.qG.cell (j:=3) E0) (by rw[hk];exact h2.tb.chs) (fun j hj=>?_) h1.OI.nc.hk h2.tb.nC E0;have q1:=h2.tb.kf j (by rw[<-hk];exact hj);have q2:=h9.2.2 j;have q3:=q2.2 hj;rw[<-q1.1,<-q2.1];omega
 ·exact xO bw k.kb r.Kb r.Gc k.nC k.cC k.nC nE _ a n p0 p1 p2 p3 p4 l0 l1 l2 l3 l4 c0 c1 c2 c3 c4 ve iw fB w hB hf hE eI bE h1.OI.k2 h2.kn.h4 hn
theorem Ei0:Hc0:=fun w0 w bw n mm ff N ks rs v m K Kb S S' xs h hN hN' i hi a q p0 p1 p2 p3 p4 l0 l1 l2 l3 l4 c0 c1 c2 c3 c4=>by
 refine h.T60 (sM _ _ _ _) fun τ hr=>?_;have o2:=hr.own 2 E0;have n2:=hN 2 E0;refine((hr.pr i hi).above bw (m 2) a q p0 p1 p2 p3 p4 l0 l1 l2 l3 l4 c0 c1 c2 c3 c4 (v 2) (xs 2) _ hr.win.row rfl o2 (bD o2 hr.win.row (mI 2).1) E0).mono ?_;rintro e w' ⟨rfl,oD,us,Sz,base,h1,h2,h3,h4⟩;exact⟨rfl,_,_,_,_,_,_,_,_,_,hr.keep (l:=2) E0 h1 h2 h3 h4,q_ hN E0⟩
theorem R00(W:En)(p:Option Vm)(n cap:Nat)(o:Nat->UI)(hn:n<=1048576)(hc:∀i,i<n->∃lb lo,p=Gn ⟨lb,lo,Hn⟩/\lb<W.heap.size/\∀j,j<8->W.cell? ⟨lb,lo+i*8+j,Hn⟩=Gn ((o i).cell j))(iu:∀i,i<n->P00 W (o i)):
  Ip prog 6 #[.slice p n cap] W (fun v w'=>v=.bool Um/\Sm W.heap.size W w'):=by
 refine Ip.oJ (List.toArray (.slice p n cap::Bn::Bn::Bn::Bn::[])) func6 I0 J0 fun cs Post hp=>?_;have hk:(base 6).kind≠.early:=J1;refine uc ?_;have hF:=Is.self W;refine lj ?_;refine Ce ?_;refine V9 ?_;refine .stop rfl fun w4 hR=>?_;obtain⟨d4,rfl⟩:=hF.rely hR;clear hF hR;refine Ko.call rfl I0 hk (fun d=>?MD) (fun d=>?GR) (WV (w:=W.at d4) (lp:=p) (len:=n) (cap:=cap) (o:=o) (.inr ⟨rfl,Ei0⟩) ⟨hc,fun i hi=>(iu i hi).ok N8 (fun _ _=>rfl)⟩ hn) (fun v wP hv=>?_)
 case MD=>kernel_rfl
 case GR=>
  exact Ud
 obtain⟨rfl,hB⟩:=hv;refine uc ?_;have hF:=Is.self wP;refine um ?_;refine Fj ?_;refine Pn.ret Rn fun todo=>?_;refine .stop rfl fun w9 hR=>?_;obtain⟨d9,rfl⟩:=hF.rely hR;exact hp _ _ _ _ rfl (fun d=>(resultsC_tmp (t:=2) I0 _ _).1) ⟨rfl,hB.os,hB.tape,hB.output,hB.size,fun b hb=>hB.block b hb (by show ¬(W.heap.size<=b);omega)⟩
end Go.Proofs.YtdoghgnifkgfdaaGreat.Mute
namespace Go.Proofs.YtdoghgnifkgfdaaGreat
open Go.Proofs.Tryz Go.ChangeShapes Go.WideShapes Go.ChangeAt Go.RowKit Go.Conc
theorem Tryz.own:ownKnob prog.godebug=Option.none:=J0
theorem Tryz.laidOut:laidOutB prog=true:=J0
theorem OX(os:Os)(started:os.Started)(H:Type)(enc:TypeId×Dn->H)(F:Stop.Interp):
  ReturnsInLeavingWide {} Tryz.checked os 6 .any ((Rows.OpenSpec.upto Rows.allSpec).pre6 enc prog Tryz.f6 Rows.allUptoRow.domain Tm) (((Rows.OpenSpec.upto Rows.allSpec).at F).post enc prog Tryz.f6 Tm Um Tm Tm):=by
 refine returnsInLeavingWide_of_good (C:=Tryz.checked) Tryz.own started
  (OpenSpec.witness (enc:=enc) (C:=Tryz.checked) (s:=Rows.OpenSpec.upto Rows.allSpec) (k:=Rows.uptoSmall) rfl Tm ⟨#[],#[.slice Option.none 0 0],[]⟩ 8 J0 J0 J0 (x:=([.nil],[],[])) J0 rfl J0) ?_
 intro w tape i _ _ _ Yr hpre _;obtain⟨_,_,_,MR,wp0,_,_,_,_,Nd0⟩:=Yr;obtain rfl:MR=Tryz.f6:=Option.some.inj (wp0.symm.trans func6);obtain⟨ds,gs,before,hw0,_,hkk⟩:=(OpenSpec.pre_some (s:=Rows.OpenSpec.upto Rows.allSpec) (k:=Rows.uptoSmall) rfl _ _ _ _).1 hpre.1;have ju:(DataW.weightsEach prog (Tryz.f6.params.toList++(Rows.OpenSpec.upto Rows.allSpec).bare.plain.varTypes prog) (ds++gs)).all (·<=reachBytes)=true:=hpre.2.weights hw0;have hW:DataW.Whole enc prog Tryz.f6.params.toList [] Tm (w.forCall tape i) i.args.toList ds gs before:=DataW.Whole.of_heap (w':=w.forCall tape i) I0 hw0;have hval:∀(j:Nat) t v,Tryz.f6.params[j]?=Gn t->i.args[j]?=Gn v->Value.okWide prog (w.forCall tape i) .any w.heap.size t v:=Nd0;clear hw0 Nd0 hpre;generalize w.forCall tape i=W at *;generalize i.args=args at *;have hW':=hW;obtain⟨p,q,hA0,hV,rfl,_,_⟩:=hW;have hA:DataW.TrodAll enc prog W 0 (fun _=>Um) Um Tryz.f6.params.toList args.toList ds p:=hA0;rw[params6]at hA hval ju;obtain⟨v0,d0,rfl,rfl,h0⟩:=trodAll_one hA;obtain⟨rfl,rfl⟩:=trodVars_none hV;obtain⟨a0,Q80,yp,rfl⟩:=okWide_slice underlying22 (hval 0 22 v0 rfl rfl);have h0k:=h0;obtain⟨fuel,hf⟩:=h0;clear hA0;simp only[List.append_nil]at hW';have yo:∀x∈p,x.block<W.heap.size:=fun x hx=>by simpa using hW'.lt x hx
 have Ij0:∀(W':En),Sm W.heap.size W W'->DataW.Trod enc prog W' 0 (fun b=>decide (b<W.heap.size)) Um 22 (.slice a0 Q80 yp) d0 p:=
  fun W' hn=>Below.trod Tryz.laidOut J0 (of_decide_eq_true J0) h0k hn yo
 have VM:AX prog 22 d0:=fun n hn=>by
  have hh:=List.all_eq_true.1 ju n (DataW.weights_mem_each (j:=0) (t:=22) (d:=d0) rfl rfl n hn);simpa using hh
 obtain⟨po,n,cap,o,hv,hb,hs,iu⟩:=Mute.i90 (by simpa[Value.cells]using hf) VM;simp only[Value.slice.injEq]at hv;obtain⟨rfl,rfl,rfl⟩:=hv;have hn:Q80<=1048576:=by
  have hk:=of_decide_eq_true hkk;simp only[List.append_nil,Rows.uptoBulkAll]at hk;have Xq:Q80<=Rows.uptoBulk d0:=hb;omega
 obtain⟨M,qJ,oc,w',t',r1,r2,r3,r4⟩:=Mute.Ip.good (Post:=fun v W'=>((Rows.OpenSpec.upto Rows.allSpec).at F).post enc prog Tryz.f6 Tm Um Tm Tm W #[.slice a0 Q80 yp] v W') (Mute.R00 W a0 Q80 yp o hn hs iu) J0 (fun v w' d hR=>by
  obtain⟨rfl,hB⟩:=hR;have Nx:Sm W.heap.size W (w'.at d):=⟨hB.os,hB.tape,hB.output,hB.size,hB.block⟩;refine⟨_,_,_,[],p,[],hW',?_,trodAll_mk1 (Ij0 _ Nx),rfl,Nx.frame _,fun h=>X3⟩;exact trodAll_mk1 (shut_bool underlying4 Um))
 exact⟨M,qJ,oc,w',t',r1,r2,r3,r4.mono fun v hp=>ChangeSpec.post_blind hp⟩
theorem all_upto:Rows.AllUptoSaid:=by
 have oK:prog.stopKnobs=[]:=J0;have dy:∀t∈Tryz.f6.params,prog.readableRec t=true:=fun t ht=>by
  obtain rfl:t=22:=by simpa[params6]using ht
  kernel_rfl
 have jP:∀t∈Tryz.f6.resultTypes,prog.readableRec t=Um/\t<prog.types.size:=fun t ht=>by
  have ht':t∈#[4]:=ht;obtain rfl:t=4:=by simpa using ht'
  exact⟨J0,of_decide_eq_true J0⟩
 refine⟨J0,rfl,rfl,rfl,J0,J0,show prog.mayEnter=Um by kernel_rfl,⟨rfl,rfl,rfl,rfl,rfl,rfl,rfl⟩,6,Tryz.f6,J0,func6,⟨dy,jP⟩,(fun h=>X3),J0,of_decide_eq_true J0,
  (by unfold Func.isWrapper;first|(rw[if_pos j4];kernel_rfl)|(rw[if_neg j4];exact⟨rfl,rfl⟩)),J0,⟨J0,J0,J0⟩,J0,J0,J0,J0,J0,⟨J0,J0,J0⟩,⟨J0,J0⟩,⟨J0,J0,J0,J0⟩,⟨J0,J0,J0,J0⟩,rfl,(fun n hn=>by cases hn),
  ⟨_,WideRow.started_initial,fun k hk=>by
   have jK:k∈prog.stopKnobs:=hk;rw[oK]at jK;cases jK⟩,[],rfl,fun os st _ H enc _=>?_⟩
 rw[OpenClaim.post_not_still rfl,OpenClaim.pre_of_none' rfl];intro F;exact OX os st H enc F J0
#print axioms all_upto
end Go.Proofs.YtdoghgnifkgfdaaGreat
