import Derived.Test.YtdoghgnifkgfdaaGreatP48
set_option maxRecDepth 100000
set_option maxHeartbeats 4000000
namespace Go.Proofs.YtdoghgnifkgfdaaGreat.Mute
open Go Go.Conc Go.RowKit
theorem Y8s {Post:Goroutine→World→Prop} {w0:World} {bw:Nat} {lp:Option Addr} {len cap:Nat} {o:Nat→ScOp} (hs:ScR w0 lp len o) (hlen:len≤1048576) (cs:List Frame)
  (hp:∀(a:Act) (todo:List Item) (v:Value) (w':World),a.defers=[]→(∀d,(results Tryz.f7 a.tmps).run Tryz.prog (w'.at d)=.ok v (w'.at d))→(v=.bool true∧But (fun b=>w0.heap.size≤b) w0 w')→Y3 Tryz.prog Post (G {(base 7).at a todo with mode:=.returning} cs) w'):
  ∀(rem i n:Nat) (w:World) (u2 u3 u8 u9 u10 u11 u12 u13 u14 u15 u16 u17 u18 u19 u20 u21 u22 u23 u24 u25 u26 u27 u28 u29 u30 u31 u32 u33 u34 u35 u36 u37 u38 u39 u40 u41 u42 u43 u44 u45 u46 u47 u48 u49 u50 u51 u52 u53 u54 u55 u56 u57 u58 u59 u60 u61 u62 u63 u64 u65 u66 u67 u68 u69 u70 u71 u72 u73 u74 u75 u76 u77 u78 u79 u80 u81 u82 u83 u84 u85 u86 u87 u88 u89 u90 u91 u92 u93 u94 u95 u96 u97 u98 u99 u100:Value),i+rem=len→1≤n→n≤i+1→Yr w0 bw n (i*206) i (i*4) w→
   Y3 Tryz.prog Post (G ((base 7).at {tmps:=(List.toArray ((.slice lp len cap)::(.int .i64 5)::(u2)::(u3)::(.bool false)::(.pointer (some ⟨bw,0,none⟩))::(.bool true)::(.int .i64 i)::(u8)::(u9)::(u10)::(u11)::(u12)::(u13)::(u14)::(u15)::(u16)::(u17)::(u18)::(u19)::(u20)::(u21)::(u22)::(u23)::(u24)::(u25)::(u26)::(u27)::(u28)::(u29)::(u30)::(u31)::(u32)::(u33)::(u34)::(u35)::(u36)::(u37)::(u38)::(u39)::(u40)::(u41)::(u42)::(u43)::(u44)::(u45)::(u46)::(u47)::(u48)::(u49)::(u50)::(u51)::(u52)::(u53)::(u54)::(u55)::(u56)::(u57)::(u58)::(u59)::(u60)::(u61)::(u62)::(u63)::(u64)::(u65)::(u66)::(u67)::(u68)::(u69)::(u70)::(u71)::(u72)::(u73)::(u74)::(u75)::(u76)::(u77)::(u78)::(u79)::(u80)::(u81)::(u82)::(u83)::(u84)::(u85)::(u86)::(u87)::(u88)::(u89)::(u90)::(u91)::(u92)::(u93)::(u94)::(u95)::(u96)::(u97)::(u98)::(u99)::(u100)::[])),defers:=[]} [.code ZU,.inLoop ZU,.inBlock 0,.code Y0M]) cs) w:=by
 have hk:(base 7).kind≠.early:=by simp [base]
 intro rem;induction rem with
 |zero=>
  intro i n w u2 u3 u8 u9 u10 u11 u12 u13 u14 u15 u16 u17 u18 u19 u20 u21 u22 u23 u24 u25 u26 u27 u28 u29 u30 u31 u32 u33 u34 u35 u36 u37 u38 u39 u40 u41 u42 u43 u44 u45 u46 u47 u48 u49 u50 u51 u52 u53 u54 u55 u56 u57 u58 u59 u60 u61 u62 u63 u64 u65 u66 u67 u68 u69 u70 u71 u72 u73 u74 u75 u76 u77 u78 u79 u80 u81 u82 u83 u84 u85 u86 u87 u88 u89 u90 u91 u92 u93 u94 u95 u96 u97 u98 u99 u100 hi hn1 hn2 hI;obtain rfl:i=len:=by omega
  refine Y3.of_goes ?_;have hF:=Is.self w;repeat refine .c1 Y2 rfl ?_
  refine .regionL Y2 [0,1,2,3,4,5,6] (by rfl) ?_;iterate 5 (refine .opV Y2 rfl (by rfl) hk ?_;try walk_nrm)
  refine Y1.unwanted Y2 rfl (by first|rfl|simp [Region.wanted,yielded]) ?_;refine .opV Y2 rfl (by rfl) hk ?_;try walk_nrm
  repeat refine .c1 Y2 rfl ?_
  refine Y1.condF Y2 (by first|rfl|simp [Act.eval]) ?_;refine Y1.exit Y2 (by rfl) ?_;repeat refine .c1 Y2 rfl ?_
  refine .regionL Y2 [0,1] (by rfl) ?_;iterate 2 (refine .opV Y2 rfl (by rfl) hk ?_;try walk_nrm)
  repeat refine .c1 Y2 rfl ?_
  have hph:But (fun b=>w0.heap.size≤b) w0 w:=by
   obtain ⟨_,_,_,_,_,_,_,_,_,_,_,_,_,_,h,_⟩:=hI;exact h.ph
  refine .stop rfl fun w9 hR=>?_;obtain ⟨d9,rfl⟩:=hF.rely hR;clear hF hR;refine Y3.ret fun todo=>?_;exact hp _ _ _ _ rfl (fun d=>(resultsC_tmp (t:=4) (by rfl) _ _).1) ⟨rfl,hph.os,hph.tape,hph.output,hph.size,hph.block⟩
 |succ rem ih=>
  intro i n w u2 u3 u8 u9 u10 u11 u12 u13 u14 u15 u16 u17 u18 u19 u20 u21 u22 u23 u24 u25 u26 u27 u28 u29 u30 u31 u32 u33 u34 u35 u36 u37 u38 u39 u40 u41 u42 u43 u44 u45 u46 u47 u48 u49 u50 u51 u52 u53 u54 u55 u56 u57 u58 u59 u60 u61 u62 u63 u64 u65 u66 u67 u68 u69 u70 u71 u72 u73 u74 u75 u76 u77 u78 u79 u80 u81 u82 u83 u84 u85 u86 u87 u88 u89 u90 u91 u92 u93 u94 u95 u96 u97 u98 u99 u100 hi hn1 hn2 hI;have hlt:i<len:=by omega
  have hli:(i:Int)<(len:Int):=by omega
  have tail:∀(n2 mm ff N:Nat) (w2:World) (u2 u3 u8 u9 u10 u11 u12 u13 u14 u15 u16 u17 u18 u19 u20 u21 u22 u23 u24 u25 u26 u27 u28 u29 u30 u31 u32 u33 u34 u35 u36 u37 u38 u39 u40 u41 u42 u43 u44 u45 u46 u47 u48 u49 u50 u51 u52 u53 u54 u55 u56 u57 u58 u59 u60 u61 u62 u63 u64 u65 u66 u67 u68 u69 u70 u71 u72 u73 u74 u75 u76 u77 u78 u79 u80 u81 u82 u83 u84 u85 u86 u87 u88 u89 u90 u91 u92 u93 u94 u95 u96 u97 u98 u99 u100:Value),1≤n2→n2≤i+2→mm≤(i+1)*206→ff≤i+1→N≤(i+1)*4→Yr w0 bw n2 mm ff N w2→Y3 Tryz.prog Post (G ((base 7).at {tmps:=(List.toArray ((.slice lp len cap)::(.int .i64 5)::(u2)::(u3)::(.bool false)::(.pointer (some ⟨bw,0,none⟩))::(.bool true)::(.int .i64 i)::(u8)::(u9)::(u10)::(u11)::(u12)::(u13)::(u14)::(u15)::(u16)::(u17)::(u18)::(u19)::(u20)::(u21)::(u22)::(u23)::(u24)::(u25)::(u26)::(u27)::(u28)::(u29)::(u30)::(u31)::(u32)::(u33)::(u34)::(u35)::(u36)::(u37)::(u38)::(u39)::(u40)::(u41)::(u42)::(u43)::(u44)::(u45)::(u46)::(u47)::(u48)::(u49)::(u50)::(u51)::(u52)::(u53)::(u54)::(u55)::(u56)::(u57)::(u58)::(u59)::(u60)::(u61)::(u62)::(u63)::(u64)::(u65)::(u66)::(u67)::(u68)::(u69)::(u70)::(u71)::(u72)::(u73)::(u74)::(u75)::(u76)::(u77)::(u78)::(u79)::(u80)::(u81)::(u82)::(u83)::(u84)::(u85)::(u86)::(u87)::(u88)::(u89)::(u90)::(u91)::(u92)::(u93)::(u94)::(u95)::(u96)::(u97)::(u98)::(u99)::(u100)::[])),defers:=[]} [.code Y2d,.inBlock 1,.code Y2e,.inLoop ZU,.inBlock 0,.code Y0M]) cs) w2:=fun n2 mm ff N w2 u2 u3 u8 u9 u10 u11 u12 u13 u14 u15 u16 u17 u18 u19 u20 u21 u22 u23 u24 u25 u26 u27 u28 u29 u30 u31 u32 u33 u34 u35 u36 u37 u38 u39 u40 u41 u42 u43 u44 u45 u46 u47 u48 u49 u50 u51 u52 u53 u54 u55 u56 u57 u58 u59 u60 u61 u62 u63 u64 u65 u66 u67 u68 u69 u70 u71 u72 u73 u74 u75 u76 u77 u78 u79 u80 u81 u82 u83 u84 u85 u86 u87 u88 u89 u90 u91 u92 u93 u94 u95 u96 u97 u98 u99 u100 h1 h2 h3 h4 h5 h6=>Ya6 cs i n2 mm ff N w2 u2 u3 u8 u9 u10 u11 u12 u13 u14 u15 u16 u17 u18 u19 u20 u21 u22 u23 u24 u25 u26 u27 u28 u29 u30 u31 u32 u33 u34 u35 u36 u37 u38 u39 u40 u41 u42 u43 u44 u45 u46 u47 u48 u49 u50 u51 u52 u53 u54 u55 u56 u57 u58 u59 u60 u61 u62 u63 u64 u65 u66 u67 u68 u69 u70 u71 u72 u73 u74 u75 u76 u77 u78 u79 u80 u81 u82 u83 u84 u85 u86 u87 u88 u89 u90 u91 u92 u93 u94 u95 u96 u97 u98 u99 u100 (by omega) (by omega) h6 fun w' u2 u3 u8 u9 u10 u11 u12 u13 u14 u15 u16 u17 u18 u19 u20 u21 u22 u23 u24 u25 u26 u27 u28 u29 u30 u31 u32 u33 u34 u35 u36 u37 u38 u39 u40 u41 u42 u43 u44 u45 u46 u47 u48 u49 u50 u51 u52 u53 u54 u55 u56 u57 u58 u59 u60 u61 u62 u63 u64 u65 u66 u67 u68 u69 u70 u71 u72 u73 u74 u75 u76 u77 u78 u79 u80 u81 u82 u83 u84 u85 u86 u87 u88 u89 u90 u91 u92 u93 u94 u95 u96 u97 u98 u99 u100 h=>ih (i+1) n2 w' u2 u3 u8 u9 u10 u11 u12 u13 u14 u15 u16 u17 u18 u19 u20 u21 u22 u23 u24 u25 u26 u27 u28 u29 u30 u31 u32 u33 u34 u35 u36 u37 u38 u39 u40 u41 u42 u43 u44 u45 u46 u47 u48 u49 u50 u51 u52 u53 u54 u55 u56 u57 u58 u59 u60 u61 u62 u63 u64 u65 u66 u67 u68 u69 u70 u71 u72 u73 u74 u75 u76 u77 u78 u79 u80 u81 u82 u83 u84 u85 u86 u87 u88 u89 u90 u91 u92 u93 u94 u95 u96 u97 u98 u99 u100 (by omega) h1 (by omega) (h.le h3 h4 h5);clear ih hp;obtain ⟨lb,lo,rfl,hlb,hc⟩:=hs.at hI hlt;have hok:=hs.ok i hlt;generalize o i=p at hc hok;have c0:w.cell? ⟨lb,lo+i*8,none⟩=some (.int .i64 p.kd):=hc 0 (by omega);have c1:w.cell? ⟨lb,lo+i*8+1,none⟩=some (.int .i64 p.at_):=hc 1 (by omega);have c2:w.cell? ⟨lb,lo+i*8+2,none⟩=some (.int .i64 p.q):=hc 2 (by omega);have c3:w.cell? ⟨lb,lo+i*8+3,none⟩=some (.slice (p.p 0) (p.l 0) (p.c 0)):=hc 3 (by omega);have c4:w.cell? ⟨lb,lo+i*8+4,none⟩=some (.slice (p.p 1) (p.l 1) (p.c 1)):=hc 4 (by omega);have c5:w.cell? ⟨lb,lo+i*8+5,none⟩=some (.slice (p.p 2) (p.l 2) (p.c 2)):=hc 5 (by omega);have c6:w.cell? ⟨lb,lo+i*8+6,none⟩=some (.slice (p.p 3) (p.l 3) (p.c 3)):=hc 6 (by omega);have c7:w.cell? ⟨lb,lo+i*8+7,none⟩=some (.slice (p.p 4) (p.l 4) (p.c 4)):=hc 7 (by omega);clear hc;refine Y3.of_goes ?_;have hF:=Is.self w;repeat refine .c1 Y2 rfl ?_
  refine .regionL Y2 [0,1,2,3,4,5,6] (by rfl) ?_;iterate 7 (refine .opV Y2 rfl (by rfl) hk ?_;try walk_nrm)
  repeat refine .c1 Y2 rfl ?_
  refine Y1.condT Y2 (by first|rfl|simp [Act.eval]) ?_;repeat refine .c1 Y2 rfl ?_
  refine .regionL Y2 [0,1,2,3,4,5] (by rfl) ?_;iterate 2 (refine .opV Y2 rfl (by rfl) hk ?_;try walk_nrm)
  refine .op rfl (by rfl) hk fun w1 hR K hK=>?_;replace hF:=hF.rely hR;clear hR;go_simp;try (unfold stored;go_simp)
  refine hK _ _ ⟨?_,?_⟩
  ·exact Yw plain (Yi plain Tryz.func7 (by kernel_rfl) _) (by kernel_rfl) _
  clear hK K;try walk_nrm
  refine .op rfl (by rfl) hk fun w1 hR K hK=>?_;replace hF:=hF.rely hR;clear hR;have k0:=(hF.cell _).trans c0;have k1:=(hF.cell _).trans c1;have k2:=(hF.cell _).trans c2;have k3:=(hF.cell _).trans c3;have k4:=(hF.cell _).trans c4;have k5:=(hF.cell _).trans c5;have k6:=(hF.cell _).trans c6;have k7:=(hF.cell _).trans c7;go_simp;try (unfold stored;go_simp)
  refine hK _ _ ⟨?_,?_⟩
  ·exact Yw plain (Yi plain Tryz.func7 (by kernel_rfl) _) (by kernel_rfl) _
  clear hK K;try walk_nrm
  refine .op rfl (by rfl) hk fun w1 hR K hK=>?_;replace hF:=hF.rely hR;clear hR;go_simp;try (unfold stored;go_simp)
  refine hK _ _ ⟨?_,?_⟩
  ·exact Yw plain (Yi plain Tryz.func7 (by kernel_rfl) _) (by kernel_rfl) _
  clear hK K;obtain ⟨d1,rfl⟩:=hF;have hB1:Below w.heap.size w ((w.at d1).alloc (.cells #[.int .i64 0,.int .i64 0,.int .i64 0,.slice none 0 0,.slice none 0 0,.slice none 0 0,.slice none 0 0,.slice none 0 0] 31)):=have q:=(Below.refl w.heap.size (w.at d1)).alloc (Nat.le_refl _) _;⟨q.os,q.tape,q.output,q.size,q.block⟩;have hR1:RowF ((w.at d1).alloc (.cells #[.int .i64 0,.int .i64 0,.int .i64 0,.slice none 0 0,.slice none 0 0,.slice none 0 0,.slice none 0 0,.slice none 0 0] 31)) w.heap.size 8 31 (YI (.int .i64 0) (.int .i64 0) (.int .i64 0) (.slice none 0 0) (.slice none 0 0) (.slice none 0 0) (.slice none 0 0) (.slice none 0 0)):=RowF.new (w.at d1) _ _ _ (fun j hj=>by
   have hj':j<8:=hj;have:j=0∨j=1∨j=2∨j=3∨j=4∨j=5∨j=6∨j=7:=by omega
   rcases this with rfl|rfl|rfl|rfl|rfl|rfl|rfl|rfl<;>rfl)
  rw [show (w.at d1).heap.size=w.heap.size from rfl];generalize hWB:(w.at d1).alloc (.cells #[.int .i64 0,.int .i64 0,.int .i64 0,.slice none 0 0,.slice none 0 0,.slice none 0 0,.slice none 0 0,.slice none 0 0] 31)=wB at *;clear hWB;have hF:=Is.self wB;try walk_nrm
  refine .op rfl (by rfl) hk fun w1 hR K hK=>?_;replace hF:=hF.rely hR;clear hR;have g0:=(hF.frozen ⟨w.heap.size,0,none⟩).trans (hR1.frozen 0);have k0:=(hF.cell ⟨w.heap.size,0,none⟩).trans (hR1.cell (j:=0) (by omega));have g1:=(hF.frozen ⟨w.heap.size,1,none⟩).trans (hR1.frozen 1);have k1:=(hF.cell ⟨w.heap.size,1,none⟩).trans (hR1.cell (j:=1) (by omega));have g2:=(hF.frozen ⟨w.heap.size,2,none⟩).trans (hR1.frozen 2);have k2:=(hF.cell ⟨w.heap.size,2,none⟩).trans (hR1.cell (j:=2) (by omega));have g3:=(hF.frozen ⟨w.heap.size,3,none⟩).trans (hR1.frozen 3);have k3:=(hF.cell ⟨w.heap.size,3,none⟩).trans (hR1.cell (j:=3) (by omega));have g4:=(hF.frozen ⟨w.heap.size,4,none⟩).trans (hR1.frozen 4);have k4:=(hF.cell ⟨w.heap.size,4,none⟩).trans (hR1.cell (j:=4) (by omega));have g5:=(hF.frozen ⟨w.heap.size,5,none⟩).trans (hR1.frozen 5);have k5:=(hF.cell ⟨w.heap.size,5,none⟩).trans (hR1.cell (j:=5) (by omega));have g6:=(hF.frozen ⟨w.heap.size,6,none⟩).trans (hR1.frozen 6);have k6:=(hF.cell ⟨w.heap.size,6,none⟩).trans (hR1.cell (j:=6) (by omega));have g7:=(hF.frozen ⟨w.heap.size,7,none⟩).trans (hR1.frozen 7);have k7:=(hF.cell ⟨w.heap.size,7,none⟩).trans (hR1.cell (j:=7) (by omega));go_simp;try (unfold stored;go_simp)
  refine hK _ _ ⟨?_,?_⟩
  ·exact Yw plain (Yi plain Tryz.func7 (by kernel_rfl) _) (by kernel_rfl) _
  clear hK K;clear g0 k0 g1 k1 g2 k2 g3 k3 g4 k4 g5 k5 g6 k6 g7 k7;obtain ⟨d2,rfl⟩:=hF;have hRb:RowF (wB.at d2) w.heap.size 8 31 _:=hR1;have hBb:Below w.heap.size w (wB.at d2):=⟨hB1.os,hB1.tape,hB1.output,hB1.size,hB1.block⟩;have hRO:RowF (((((((((wB.at d2).setCell ⟨w.heap.size,0,none⟩ (.int .i64 p.kd)).setCell ⟨w.heap.size,1,none⟩ (.int .i64 p.at_)).setCell ⟨w.heap.size,2,none⟩ (.int .i64 p.q)).setCell ⟨w.heap.size,3,none⟩ (.slice (p.p 0) (p.l 0) (p.c 0))).setCell ⟨w.heap.size,4,none⟩ (.slice (p.p 1) (p.l 1) (p.c 1))).setCell ⟨w.heap.size,5,none⟩ (.slice (p.p 2) (p.l 2) (p.c 2))).setCell ⟨w.heap.size,6,none⟩ (.slice (p.p 3) (p.l 3) (p.c 3))).setCell ⟨w.heap.size,7,none⟩ (.slice (p.p 4) (p.l 4) (p.c 4))) w.heap.size 8 31 p.cell:=(((((((((hRb.set 0 _).set 1 _).set 2 _).set 3 _).set 4 _).set 5 _).set 6 _).set 7 _).congr fun j hj=>by
   have:j=0∨j=1∨j=2∨j=3∨j=4∨j=5∨j=6∨j=7:=by omega
   rcases this with rfl|rfl|rfl|rfl|rfl|rfl|rfl|rfl<;>rfl)
  have hBO:Below w.heap.size w (((((((((wB.at d2).setCell ⟨w.heap.size,0,none⟩ (.int .i64 p.kd)).setCell ⟨w.heap.size,1,none⟩ (.int .i64 p.at_)).setCell ⟨w.heap.size,2,none⟩ (.int .i64 p.q)).setCell ⟨w.heap.size,3,none⟩ (.slice (p.p 0) (p.l 0) (p.c 0))).setCell ⟨w.heap.size,4,none⟩ (.slice (p.p 1) (p.l 1) (p.c 1))).setCell ⟨w.heap.size,5,none⟩ (.slice (p.p 2) (p.l 2) (p.c 2))).setCell ⟨w.heap.size,6,none⟩ (.slice (p.p 3) (p.l 3) (p.c 3))).setCell ⟨w.heap.size,7,none⟩ (.slice (p.p 4) (p.l 4) (p.c 4))):=(((((((hBb.setCell (Nat.le_refl _) _).setCell (Nat.le_refl _) _).setCell (Nat.le_refl _) _).setCell (Nat.le_refl _) _).setCell (Nat.le_refl _) _).setCell (Nat.le_refl _) _).setCell (Nat.le_refl _) _).setCell (Nat.le_refl _) _;have hIO:=hI.below hBO;generalize (((((((((wB.at d2).setCell ⟨w.heap.size,0,none⟩ (.int .i64 p.kd)).setCell ⟨w.heap.size,1,none⟩ (.int .i64 p.at_)).setCell ⟨w.heap.size,2,none⟩ (.int .i64 p.q)).setCell ⟨w.heap.size,3,none⟩ (.slice (p.p 0) (p.l 0) (p.c 0))).setCell ⟨w.heap.size,4,none⟩ (.slice (p.p 1) (p.l 1) (p.c 1))).setCell ⟨w.heap.size,5,none⟩ (.slice (p.p 2) (p.l 2) (p.c 2))).setCell ⟨w.heap.size,6,none⟩ (.slice (p.p 3) (p.l 3) (p.c 3))).setCell ⟨w.heap.size,7,none⟩ (.slice (p.p 4) (p.l 4) (p.c 4)))=wO at *;clear hRb hBb hR1 hB1 hBO hI c0 c1 c2 c3 c4 c5 c6 c7 wB;have o0:wO.cell? ⟨w.heap.size,0,none⟩=some (.int .i64 p.kd):=hRO.cell (j:=0) (by omega);have o1:wO.cell? ⟨w.heap.size,1,none⟩=some (.int .i64 p.at_):=hRO.cell (j:=1) (by omega);have o2:wO.cell? ⟨w.heap.size,2,none⟩=some (.int .i64 p.q):=hRO.cell (j:=2) (by omega);have o3:wO.cell? ⟨w.heap.size,3,none⟩=some (.slice (p.p 0) (p.l 0) (p.c 0)):=hRO.cell (j:=3) (by omega);have o4:wO.cell? ⟨w.heap.size,4,none⟩=some (.slice (p.p 1) (p.l 1) (p.c 1)):=hRO.cell (j:=4) (by omega);have o5:wO.cell? ⟨w.heap.size,5,none⟩=some (.slice (p.p 2) (p.l 2) (p.c 2)):=hRO.cell (j:=5) (by omega);have o6:wO.cell? ⟨w.heap.size,6,none⟩=some (.slice (p.p 3) (p.l 3) (p.c 3)):=hRO.cell (j:=6) (by omega);have o7:wO.cell? ⟨w.heap.size,7,none⟩=some (.slice (p.p 4) (p.l 4) (p.c 4)):=hRO.cell (j:=7) (by omega);generalize w.heap.size=b8 at *;clear hRO;have hF:=Is.self wO;try walk_nrm
  repeat refine .c1 Y2 rfl ?_
  refine .regionL Y2 [0,1,2,3] (by rfl) ?_;refine .opV Y2 rfl (by rfl) hk ?_;try walk_nrm
  refine .op rfl (by rfl) hk fun w1 hR K hK=>?_;replace hF:=hF.rely hR;clear hR;have e0:=(hF.cell ⟨b8,0,none⟩).trans o0;go_simp;try (unfold stored;go_simp)
  refine hK _ _ ⟨?_,?_⟩
  ·exact Yw plain (Yi plain Tryz.func7 (by kernel_rfl) _) (by kernel_rfl) _
  clear hK K;clear e0;try walk_nrm
  iterate 2 (refine .opV Y2 rfl (by rfl) hk ?_;try walk_nrm)
  repeat refine .c1 Y2 rfl ?_
  by_cases h1:p.kd=1
  ·skip;refine Y1.condT Y2 (by first|rfl|simp [Act.eval,h1]) ?_;obtain ⟨hcf,hcw,hch,hcd⟩:=hok.cfg h1;repeat refine .c1 Y2 rfl ?_
   refine .regionL Y2 [0,1,2,3,4] (by rfl) ?_;iterate 2 (refine .opV Y2 rfl (by rfl) hk ?_;try walk_nrm)
   refine .op rfl (by rfl) hk fun w1 hR K hK=>?_;replace hF:=hF.rely hR;clear hR;have e3:=(hF.cell ⟨b8,3,none⟩).trans o3;have e4:=(hF.cell ⟨b8,4,none⟩).trans o4;have e5:=(hF.cell ⟨b8,5,none⟩).trans o5;have e6:=(hF.cell ⟨b8,6,none⟩).trans o6;go_simp;try (unfold stored;go_simp)
   refine hK _ _ ⟨?_,?_⟩
   ·exact Yw plain (Yi plain Tryz.func7 (by kernel_rfl) _) (by kernel_rfl) _
   clear hK K;clear e3 e4 e5 e6;try walk_nrm
   refine .stop rfl fun w4 hR=>?_;obtain ⟨d4,rfl⟩:=hF.rely hR;clear hF hR;refine Y3.call rfl (by rfl) hk (fun d=>?run1) (fun d=>?evs1) ((hIO.is (w':=wO.at d4) ⟨d4,rfl⟩).madeC (c:=p.cf) hcf hcw hch hcd (by omega)) (fun v wM hv=>?_)
   case run1=>kernel_rfl
   case evs1=>
    rw [listed_nil (by kernel_rfl)];simp
   obtain ⟨rfl,n',hn3,hn4,hM⟩:=hv;refine Y3.of_goes ?_;have hF:=Is.self wM;try walk_nrm
   refine .opV Y2 rfl (by rfl) hk ?_;try walk_nrm
   iterate 2 refine .c1 Y2 rfl ?_
   refine .stop rfl fun w9 hR=>?_;exact tail n' (i*206) (i) (i*4) w9 _ _ _ _ _ _ _ _ _ _ _ _ _ _ _ _ _ _ _ _ _ _ _ _ _ _ _ _ _ _ _ _ _ _ _ _ _ _ _ _ _ _ _ _ _ _ _ _ _ _ _ _ _ _ _ _ _ _ _ _ _ _ _ _ _ _ _ _ _ _ _ _ _ _ _ _ _ _ _ _ _ _ _ _ _ _ _ _ _ _ _ _ _ _ _ (by omega) (by omega) (by omega) (by omega) (by omega) (hM.is (hF.rely hR))
  ·skip;refine Y1.condF Y2 (by first|rfl|simp [Act.eval,h1]) ?_;repeat refine .c1 Y2 rfl ?_
   refine .regionL Y2 [0,1,2,3,4,5,6,7,8,9] (by rfl) ?_;refine .opV Y2 rfl (by rfl) hk ?_;try walk_nrm
   refine .op rfl (by rfl) hk fun w1 hR K hK=>?_;replace hF:=hF.rely hR;clear hR;have e0:=(hF.cell ⟨b8,0,none⟩).trans o0;go_simp;try (unfold stored;go_simp)
   refine hK _ _ ⟨?_,?_⟩
   ·exact Yw plain (Yi plain Tryz.func7 (by kernel_rfl) _) (by kernel_rfl) _
   clear hK K;clear e0;try walk_nrm
   by_cases h2:p.kd<1
   ·skip;iterate 2 (refine .opV Y2 rfl (by rfl) hk ?_;try walk_nrm)
    iterate 4 (refine Y1.unwanted Y2 rfl (by first|rfl|simp [Region.wanted,yielded]) ?_;try walk_nrm)
    iterate 2 (refine .opV Y2 rfl (by rfl) hk ?_;try walk_nrm)
    repeat refine .c1 Y2 rfl ?_
    refine Y1.condT Y2 (by first|rfl|simp [Act.eval]) ?_;iterate 2 refine .c1 Y2 rfl ?_
    refine .stop rfl fun w9 hR=>?_;exact tail n (i*206) (i) (i*4) w9 _ _ _ _ _ _ _ _ _ _ _ _ _ _ _ _ _ _ _ _ _ _ _ _ _ _ _ _ _ _ _ _ _ _ _ _ _ _ _ _ _ _ _ _ _ _ _ _ _ _ _ _ _ _ _ _ _ _ _ _ _ _ _ _ _ _ _ _ _ _ _ _ _ _ _ _ _ _ _ _ _ _ _ _ _ _ _ _ _ _ _ _ _ _ _ (by omega) (by omega) (by omega) (by omega) (by omega) (hIO.is (hF.rely hR))
   ·skip;iterate 3 (refine .opV Y2 rfl (by rfl) hk ?_;try walk_nrm)
    refine .op rfl (by rfl) hk fun w1 hR K hK=>?_;replace hF:=hF.rely hR;clear hR;have e0:=(hF.cell ⟨b8,0,none⟩).trans o0;go_simp;try (unfold stored;go_simp)
    refine hK _ _ ⟨?_,?_⟩
    ·exact Yw plain (Yi plain Tryz.func7 (by kernel_rfl) _) (by kernel_rfl) _
    clear hK K;clear e0;try walk_nrm
    refine .opV Y2 rfl (by rfl) hk ?_;try walk_nrm
    by_cases h3:5<p.kd
    ·skip;iterate 3 (refine .opV Y2 rfl (by rfl) hk ?_;try walk_nrm)
     repeat refine .c1 Y2 rfl ?_
     refine Y1.condT Y2 (by first|rfl|simp [Act.eval]) ?_;iterate 2 refine .c1 Y2 rfl ?_
     refine .stop rfl fun w9 hR=>?_;exact tail n (i*206) (i) (i*4) w9 _ _ _ _ _ _ _ _ _ _ _ _ _ _ _ _ _ _ _ _ _ _ _ _ _ _ _ _ _ _ _ _ _ _ _ _ _ _ _ _ _ _ _ _ _ _ _ _ _ _ _ _ _ _ _ _ _ _ _ _ _ _ _ _ _ _ _ _ _ _ _ _ _ _ _ _ _ _ _ _ _ _ _ _ _ _ _ _ _ _ _ _ _ _ _ (by omega) (by omega) (by omega) (by omega) (by omega) (hIO.is (hF.rely hR))
    ·skip;iterate 3 (refine .opV Y2 rfl (by rfl) hk ?_;try walk_nrm)
     repeat refine .c1 Y2 rfl ?_
     refine Y1.condF Y2 (by first|rfl|simp [Act.eval]) ?_;repeat refine .c1 Y2 rfl ?_
     obtain ⟨gk,ck,gr,cr,K,Kb,kc0,kc1,kcc,hfr,hask⟩:=hIO.kern (by omega) (by omega) (by omega) (by omega);refine Y1.drawnCut (S:=Is wO) Y2 Ju 7 (by decide) (by decide +kernel) (by decide +kernel) [7,8] (by rfl) hk (by kernel_rfl) ((Y1O _ _).trans (by simp only [List.take_succ_cons,List.take_zero]<;>rfl)) fun w1 hR=>?_;replace hF:=(hF.rely hR).drew;clear hR;refine Y4 Y2 0 (fun _ _ h r=>Is.rely h r) hF ?_;try walk_nrm
     refine Ye Y2 1 rfl (fun _ _ h r=>Is.rely h r) hF ?_ fun _ hw=>⟨run_eq_of (by
      intro K hK;have e1:=(hw.cell ⟨b8,1,none⟩).trans o1;go_simp;exact hK),by
      have e1:=(hw.cell ⟨b8,1,none⟩).trans o1;exact Yw plain (Yi plain Tryz.func7 (by kernel_rfl) _) (by kernel_rfl) _⟩
     try walk_nrm
     refine Y4 Y2 2 (fun _ _ h r=>Is.rely h r) hF ?_;try walk_nrm
     refine Y4 Y2 3 (fun _ _ h r=>Is.rely h r) hF ?_;try walk_nrm
     refine Y4 Y2 4 (fun _ _ h r=>Is.rely h r) hF ?_;try walk_nrm
     refine Ye Y2 5 rfl (fun _ _ h r=>Is.rely h r) hF ?_ fun _ hw=>⟨run_eq_of (by
      intro K hK;have hc:=(hw.cell _).trans kc0;go_simp;exact hK),by
      have hc:=(hw.cell _).trans kc0;exact Yw plain (Yi plain Tryz.func7 (by kernel_rfl) _) (by kernel_rfl) _⟩
     try walk_nrm
     refine Y4 Y2 6 (fun _ _ h r=>Is.rely h r) hF ?_;try walk_nrm
     refine Xi (by first|kernel_rfl|decide +kernel) ?_ _;refine .stop rfl fun w4 hR=>?_;obtain ⟨d4,rfl⟩:=hF.rely hR;clear hF hR;refine Y3.call rfl (by rfl) hk (fun d=>?run2) (fun d=>?evs2) (Y4S p.at_ n (wO.at d4) (by omega) (by omega) hok.lo hok.hi) (fun v wP hv=>?_)
     case run2=>kernel_rfl
     case evs2=>
      rw [listed_nil (by kernel_rfl)];simp
     obtain ⟨rfl,hIs⟩:=hv;refine Y3.of_goes ?_;have hF:=Is.self wP;try walk_nrm
     obtain ⟨d5,rfl⟩:=hIs;replace hF:Is wO ((wO.at d4).at d5):=⟨d5,rfl⟩;have hj:XX p.at_ n<n:=Y7y p.at_ (by omega);have hji:((XX p.at_ n:Nat):Int)<(n:Int):=by omega
     generalize XX p.at_ n=j at *;obtain ⟨kcK,kcR⟩:=kcc j hj;refine .opV Y2 rfl (by rfl) hk ?_;try walk_nrm
     repeat refine .c1 Y2 rfl ?_
     refine .regionL Y2 [0,1,2] (by rfl) ?_;refine .opV Y2 rfl (by rfl) hk ?_;try walk_nrm
     refine .op rfl (by rfl) hk fun w1 hR K hK=>?_;replace hF:=hF.rely hR;clear hR;have e0:=(hF.cell ⟨b8,0,none⟩).trans o0;go_simp;try (unfold stored;go_simp)
     refine hK _ _ ⟨?_,?_⟩
     ·exact Yw plain (Yi plain Tryz.func7 (by kernel_rfl) _) (by kernel_rfl) _
     clear hK K;clear e0;try walk_nrm
     refine .opV Y2 rfl (by rfl) hk ?_;try walk_nrm
     repeat refine .c1 Y2 rfl ?_
     by_cases h4:p.kd=2
     ·skip;refine Y1.condT Y2 (by first|rfl|simp [Act.eval,h4]) ?_;refine Y1.drawnCut (S:=Is wO) Y2 Ju 16 (by decide) (by decide +kernel) (by decide +kernel) [16,17] (by rfl) hk (by kernel_rfl) ((Y1O _ _).trans (by simp only [List.take_succ_cons,List.take_zero]<;>rfl)) fun w1 hR=>?_;replace hF:=(hF.rely hR).drew;clear hR;refine Y4 Y2 0 (fun _ _ h r=>Is.rely h r) hF ?_;try walk_nrm
      refine Y4 Y2 1 (fun _ _ h r=>Is.rely h r) hF ?_;try walk_nrm
      refine Y4 Y2 2 (fun _ _ h r=>Is.rely h r) hF ?_;try walk_nrm
      refine Ye Y2 3 rfl (fun _ _ h r=>Is.rely h r) hF ?_ fun _ hw=>⟨run_eq_of (by
       intro K hK;have hc:=(hw.cell _).trans kc0;go_simp;exact hK),by
       have hc:=(hw.cell _).trans kc0;exact Yw plain (Yi plain Tryz.func7 (by kernel_rfl) _) (by kernel_rfl) _⟩
      try walk_nrm
      refine Y4 Y2 4 (fun _ _ h r=>Is.rely h r) hF ?_;try walk_nrm
      refine Ye Y2 5 rfl (fun _ _ h r=>Is.rely h r) hF ?_ fun _ hw=>⟨run_eq_of (by
       intro K hK;go_simp;exact hK),by
       exact Yw plain (Yi plain Tryz.func7 (by kernel_rfl) _) (by kernel_rfl) _⟩
      try walk_nrm
      refine Ye Y2 6 rfl (fun _ _ h r=>Is.rely h r) hF ?_ fun _ hw=>⟨run_eq_of (by
       intro K hK;have hc:=(hw.cell _).trans kcK;go_simp;exact hK),by
       have hc:=(hw.cell _).trans kcK;exact Yw plain (Yi plain Tryz.func7 (by kernel_rfl) _) (by kernel_rfl) _⟩
      try walk_nrm
      refine Y4 Y2 7 (fun _ _ h r=>Is.rely h r) hF ?_;try walk_nrm
      refine Y4 Y2 8 (fun _ _ h r=>Is.rely h r) hF ?_;try walk_nrm
      refine Y4 Y2 9 (fun _ _ h r=>Is.rely h r) hF ?_;try walk_nrm
      refine Ye Y2 10 rfl (fun _ _ h r=>Is.rely h r) hF ?_ fun _ hw=>⟨run_eq_of (by
       intro K hK;have hc:=(hw.cell _).trans kc1;go_simp;exact hK),by
       have hc:=(hw.cell _).trans kc1;exact Yw plain (Yi plain Tryz.func7 (by kernel_rfl) _) (by kernel_rfl) _⟩
      try walk_nrm
      refine Y4 Y2 11 (fun _ _ h r=>Is.rely h r) hF ?_;try walk_nrm
      refine Ye Y2 12 rfl (fun _ _ h r=>Is.rely h r) hF ?_ fun _ hw=>⟨run_eq_of (by
       intro K hK;go_simp;exact hK),by
       exact Yw plain (Yi plain Tryz.func7 (by kernel_rfl) _) (by kernel_rfl) _⟩
      try walk_nrm
      refine Ye Y2 13 rfl (fun _ _ h r=>Is.rely h r) hF ?_ fun _ hw=>⟨run_eq_of (by
       intro K hK;have hc:=(hw.cell _).trans kcR;go_simp;exact hK),by
       have hc:=(hw.cell _).trans kcR;exact Yw plain (Yi plain Tryz.func7 (by kernel_rfl) _) (by kernel_rfl) _⟩
      try walk_nrm
      refine Y4 Y2 14 (fun _ _ h r=>Is.rely h r) hF ?_;try walk_nrm
      refine Ye Y2 15 rfl (fun _ _ h r=>Is.rely h r) hF ?_ fun _ hw=>⟨run_eq_of (by
       intro K hK;have e7:=(hw.cell ⟨b8,7,none⟩).trans o7;go_simp;exact hK),by
       have e7:=(hw.cell ⟨b8,7,none⟩).trans o7;exact Yw plain (Yi plain Tryz.func7 (by kernel_rfl) _) (by kernel_rfl) _⟩
      try walk_nrm
      refine Xi (by first|kernel_rfl|decide +kernel) ?_ _;refine .stop rfl fun w4 hR=>?_;obtain ⟨d4,rfl⟩:=hF.rely hR;clear hF hR;refine Y3.call rfl (by rfl) hk (fun d=>?run3) (fun d=>?evs3) (hfr d4 j (p.p 4) (p.l 4) (p.c 4) p.zi hj (hok.ins wO fun b hb=>hIO.old hb) hok.inp hok.inb) (fun v wF hv=>?_)
      case run3=>kernel_rfl
      case evs3=>
       rw [listed_nil (by kernel_rfl)];simp
      obtain ⟨rfl,hM⟩:=hv;refine Y3.of_goes ?_;have hF:=Is.self wF;try walk_nrm
      refine .opV Y2 rfl (by rfl) hk ?_;try walk_nrm
      iterate 2 refine .c1 Y2 rfl ?_
      refine .stop rfl fun w9 hR=>?_;exact tail n (i*206+206) (i+1) (i*4) w9 _ _ _ _ _ _ _ _ _ _ _ _ _ _ _ _ _ _ _ _ _ _ _ _ _ _ _ _ _ _ _ _ _ _ _ _ _ _ _ _ _ _ _ _ _ _ _ _ _ _ _ _ _ _ _ _ _ _ _ _ _ _ _ _ _ _ _ _ _ _ _ _ _ _ _ _ _ _ _ _ _ _ _ _ _ _ _ _ _ _ _ _ _ _ _ (by omega) (by omega) (by omega) (by omega) (by omega) (hM.is (hF.rely hR))
     ·skip;refine Y1.condF Y2 (by first|rfl|simp [Act.eval,h4]) ?_;refine Y1.drawnCut (S:=Is wO) Y2 Ju 16 (by decide) (by decide +kernel) (by decide +kernel) [16,17] (by rfl) hk (by kernel_rfl) ((Y1O _ _).trans (by simp only [List.take_succ_cons,List.take_zero]<;>rfl)) fun w1 hR=>?_;replace hF:=(hF.rely hR).drew;clear hR;refine Y4 Y2 0 (fun _ _ h r=>Is.rely h r) hF ?_;try walk_nrm
      refine Y4 Y2 1 (fun _ _ h r=>Is.rely h r) hF ?_;try walk_nrm
      refine Y4 Y2 2 (fun _ _ h r=>Is.rely h r) hF ?_;try walk_nrm
      refine Y4 Y2 3 (fun _ _ h r=>Is.rely h r) hF ?_;try walk_nrm
      refine Ye Y2 4 rfl (fun _ _ h r=>Is.rely h r) hF ?_ fun _ hw=>⟨run_eq_of (by
       intro K hK;have hc:=(hw.cell _).trans kc0;go_simp;exact hK),by
       have hc:=(hw.cell _).trans kc0;exact Yw plain (Yi plain Tryz.func7 (by kernel_rfl) _) (by kernel_rfl) _⟩
      try walk_nrm
      refine Y4 Y2 5 (fun _ _ h r=>Is.rely h r) hF ?_;try walk_nrm
      refine Ye Y2 6 rfl (fun _ _ h r=>Is.rely h r) hF ?_ fun _ hw=>⟨run_eq_of (by
       intro K hK;go_simp;exact hK),by
       exact Yw plain (Yi plain Tryz.func7 (by kernel_rfl) _) (by kernel_rfl) _⟩
      try walk_nrm
      refine Ye Y2 7 rfl (fun _ _ h r=>Is.rely h r) hF ?_ fun _ hw=>⟨run_eq_of (by
       intro K hK;have hc:=(hw.cell _).trans kcK;go_simp;exact hK),by
       have hc:=(hw.cell _).trans kcK;exact Yw plain (Yi plain Tryz.func7 (by kernel_rfl) _) (by kernel_rfl) _⟩
      try walk_nrm
      refine Y4 Y2 8 (fun _ _ h r=>Is.rely h r) hF ?_;try walk_nrm
      refine Y4 Y2 9 (fun _ _ h r=>Is.rely h r) hF ?_;try walk_nrm
      refine Y4 Y2 10 (fun _ _ h r=>Is.rely h r) hF ?_;try walk_nrm
      refine Ye Y2 11 rfl (fun _ _ h r=>Is.rely h r) hF ?_ fun _ hw=>⟨run_eq_of (by
       intro K hK;have hc:=(hw.cell _).trans kc1;go_simp;exact hK),by
       have hc:=(hw.cell _).trans kc1;exact Yw plain (Yi plain Tryz.func7 (by kernel_rfl) _) (by kernel_rfl) _⟩
      try walk_nrm
      refine Y4 Y2 12 (fun _ _ h r=>Is.rely h r) hF ?_;try walk_nrm
      refine Ye Y2 13 rfl (fun _ _ h r=>Is.rely h r) hF ?_ fun _ hw=>⟨run_eq_of (by
       intro K hK;go_simp;exact hK),by
       exact Yw plain (Yi plain Tryz.func7 (by kernel_rfl) _) (by kernel_rfl) _⟩
      try walk_nrm
      refine Ye Y2 14 rfl (fun _ _ h r=>Is.rely h r) hF ?_ fun _ hw=>⟨run_eq_of (by
       intro K hK;have hc:=(hw.cell _).trans kcR;go_simp;exact hK),by
       have hc:=(hw.cell _).trans kcR;exact Yw plain (Yi plain Tryz.func7 (by kernel_rfl) _) (by kernel_rfl) _⟩
      try walk_nrm
      refine Ye Y2 15 rfl (fun _ _ h r=>Is.rely h r) hF ?_ fun _ hw=>⟨run_eq_of (by
       intro K hK;have e0:=(hw.cell ⟨b8,0,none⟩).trans o0;have e1:=(hw.cell ⟨b8,1,none⟩).trans o1;have e2:=(hw.cell ⟨b8,2,none⟩).trans o2;have e3:=(hw.cell ⟨b8,3,none⟩).trans o3;have e4:=(hw.cell ⟨b8,4,none⟩).trans o4;have e5:=(hw.cell ⟨b8,5,none⟩).trans o5;have e6:=(hw.cell ⟨b8,6,none⟩).trans o6;have e7:=(hw.cell ⟨b8,7,none⟩).trans o7;go_simp;exact hK),by
       have e0:=(hw.cell ⟨b8,0,none⟩).trans o0;have e1:=(hw.cell ⟨b8,1,none⟩).trans o1;have e2:=(hw.cell ⟨b8,2,none⟩).trans o2;have e3:=(hw.cell ⟨b8,3,none⟩).trans o3;have e4:=(hw.cell ⟨b8,4,none⟩).trans o4;have e5:=(hw.cell ⟨b8,5,none⟩).trans o5;have e6:=(hw.cell ⟨b8,6,none⟩).trans o6;have e7:=(hw.cell ⟨b8,7,none⟩).trans o7;exact Yw plain (Yi plain Tryz.func7 (by kernel_rfl) _) (by kernel_rfl) _⟩
      try walk_nrm
      refine Xi (by first|kernel_rfl|decide +kernel) ?_ _;refine .stop rfl fun w4 hR=>?_;obtain ⟨d4,rfl⟩:=hF.rely hR;clear hF hR;refine Y3.call rfl (by rfl) hk (fun d=>?run4) (fun d=>?evs4) (hask d4 j p.kd p.at_ p.q (p.p 0) (p.p 1) (p.p 2) (p.p 3) (p.p 4) (p.l 0) (p.l 1) (p.l 2) (p.l 3) (p.l 4) (p.c 0) (p.c 1) (p.c 2) (p.c 3) (p.c 4) hj (by omega)) (fun v wF hv=>?_)
      case run4=>kernel_rfl
      case evs4=>
       rw [listed_nil (by kernel_rfl)];simp
      obtain ⟨rfl,hM⟩:=hv;refine Y3.of_goes ?_;have hF:=Is.self wF;try walk_nrm
      refine .opV Y2 rfl (by rfl) hk ?_;try walk_nrm
      iterate 2 refine .c1 Y2 rfl ?_
      refine .stop rfl fun w9 hR=>?_;exact tail n (i*206) (i) (i*4+4) w9 _ _ _ _ _ _ _ _ _ _ _ _ _ _ _ _ _ _ _ _ _ _ _ _ _ _ _ _ _ _ _ _ _ _ _ _ _ _ _ _ _ _ _ _ _ _ _ _ _ _ _ _ _ _ _ _ _ _ _ _ _ _ _ _ _ _ _ _ _ _ _ _ _ _ _ _ _ _ _ _ _ _ _ _ _ _ _ _ _ _ _ _ _ _ _ (by omega) (by omega) (by omega) (by omega) (by omega) (hM.is (hF.rely hR))
end Go.Proofs.YtdoghgnifkgfdaaGreat.Mute
