import Derived.Test.YtdoghgnifkgfdaaP44
set_option maxRecDepth 100000
set_option maxHeartbeats 16000000
namespace Go.Proofs.Ytdoghgnifkgfdaa.Mute
open Go Go.Conc Go.RowKit
section
variable {W0 w w':World} {G:Nat→Prop} {A B X:KId} {sa sb sx:KSq} {ra rb rx:Nat}
theorem Ap3.noG (h:Ap3 W0 G A B X sa sb sx ra rb rx w):Ap3 W0 (fun _=>False) A B X sa sb sx ra rb rx w:=by
 obtain ⟨⟨SA,SB,SX,h1,h2,h3,h4,h5,h6,h7⟩,h8⟩:=h;exact ⟨⟨SA,SB,SX,h1,h2,h3,h4,h5,h6,fun _ h=>h.elim⟩,h8⟩
theorem Ap3.flip (h:Ap3 W0 G A B X sa sb sx ra rb rx w):Ap3 W0 G X B A sx sb sa rx rb ra w:=by
 obtain ⟨⟨SA,SB,SX,h1,h2,h3,h4,h5,h6,h7⟩,h8⟩:=h;exact ⟨⟨SX,SB,SA,h3,h2,h1,fun b hb=>⟨fun hs=>h5 b hs hb,fun hs=>(h4 b hs).2 hb⟩,fun b hb hs=>(h4 b hs).1 hb,fun b hb=>h6 b (by rcases hb with hb|hb|hb;exact .inr (.inr hb);exact .inr (.inl hb);exact .inl hb),fun b hb=>⟨(h7 b hb).2.2.1,(h7 b hb).2.1,(h7 b hb).1,(h7 b hb).2.2.2⟩⟩,h8⟩
theorem Ap3.run {cf:Cfg} (h:Ap3 W0 G A B X (sq0 cf) sb sx 0 rb rx w) {S:Sh} {q:Option Addr} {cq:Nat} (hO:Of cf A.k A.N A.t) (hT:TabOk cf) (hsh:ShotR W0 q S):
  CallsR Try.prog 13 #[.pointer (some ⟨A.k.kb,0,none⟩),.slice q S.n cq] w (fun v w'=>v=.bool true∧Ap3 W0 (fun _=>False) A B X (frS cf (insS S) (min S.n 40)) sb sx (min S.n 40 % cf.nT) rb rx w'):=by
 obtain ⟨⟨SA,SB,SX,h1,h2,h3,h4,h5,h6,h7⟩,h8⟩:=h;refine (run_calls hO hT hsh h1 (fun b hb=>h6 b (.inl hb)) h8).mono ?_;rintro v w' ⟨rfl,⟨⟨S',q1,q2⟩,q3,q4,q5,q6⟩⟩;refine ⟨rfl,⟨S',SB,SX,q1,h2.keep (fun b hb=>q3.block b (h2.sz hb) fun hs=>(h4 b hs).1 hb) q3.size,h3.keep (fun b hb=>q3.block b (h3.sz hb) fun hs=>(h4 b hs).2 hb) q3.size,fun b hb=>?_,h5,fun b hb=>?_,fun _ h=>h.elim⟩,q5⟩
 ·rcases q2 b hb with h|h
  ·exact h4 b h
  ·exact ⟨fun hs=>by have:=h2.sz hs;omega,fun hs=>by have:=h3.sz hs;omega⟩
 ·rcases hb with hb|hb
  ·rcases q2 b hb with h|h
   ·exact h6 b (.inl h)
   ·exact Nat.le_trans q6 h
  ·exact h6 b (.inr hb)
end
noncomputable def apBody:Code:=match Try.f7.body with
 |some c=>c
 |none=>.skip
noncomputable def apL:Code:=clo (cbl (cs2 (cs1 (cs2 (cs2 (cs2 (cs2 (cs2 (cs2 (apBody))))))))))
section
variable {Post:Goroutine→World→Prop} {W0:World} {A B X:KId} {cp cr:Cfg} {S:Sh} {q:Option Addr} {cq f cell:Nat}
theorem ap_loop (hOp:Of cp A.k A.N A.t) (hTp:TabOk cp) (hCp:cp.nC=4) (hOr:Of cr B.k B.N B.t) (hTr:TabOk cr) (hCr:cr.nC=4) (hcell:cell<4) (hf:f≤S.n∧f≤40∧(f=S.n∨f=40)) (hsh:ShotR W0 q S) (cs:List Frame) (kk:List Item):
  ∀(rem i:Nat) (w:World) (u0 u1 u3 u4 u5 u6 u7 u11 u13 u15 u17 u18 u19 u20 u21 u22 u23 u24 u25 u26 u27 u28 u29 u30 u31 u32 u33 u34 u35 u36 u37 u38 u39 u40 u41 u42 u43 u44 u45 u46 u47 u48 u49 u50 u51 u52 u53 u54 u55 u56 u57 u58 u59 u60 u61 u62 u63 u64 u65 u66 u67 u68 u69 u70 u71 u72 u73 u74 u75 u76 u77 u78 u79 u80 u81 u82 u83 u84 u85 u86 u87 u88 u89 u90 u91 u92 u93 u94 u95 u96 u97 u98 u99 u100 u101 u102 u103 u104 u105 u106 u107 u108 u109 u110 u111 u112 u113 u114 u115 u116 u117 u118 u119 u120 u121 u122 u123 u124 u125 u126 u127 u128 u129 u130 u131 u132:Value),i+rem=f→Ap3 W0 (fun _=>False) A B X (frS cp (insS S) i) (frS cr (insS S) i) (sq0 cp) (i % cp.nT) (i % cr.nT) 0 w→
   (∀(w':World) (u0 u1 u3 u4 u5 u6 u7 u11 u13 u15 u17 u18 u19 u20 u21 u22 u23 u24 u25 u26 u27 u28 u29 u30 u31 u32 u33 u34 u35 u36 u37 u38 u39 u40 u41 u42 u43 u44 u45 u46 u47 u48 u49 u50 u51 u52 u53 u54 u55 u56 u57 u58 u59 u60 u61 u62 u63 u64 u65 u66 u67 u68 u69 u70 u71 u72 u73 u74 u75 u76 u77 u78 u79 u80 u81 u82 u83 u84 u85 u86 u87 u88 u89 u90 u91 u92 u93 u94 u95 u96 u97 u98 u99 u100 u101 u102 u103 u104 u105 u106 u107 u108 u109 u110 u111 u112 u113 u114 u115 u116 u117 u118 u119 u120 u121 u122 u123 u124 u125 u126 u127 u128 u129 u130 u131 u132:Value),Ap3 W0 (fun _=>False) A B X (frS cp (insS S) f) (frS cr (insS S) f) (sq0 cp) (f % cp.nT) (f % cr.nT) 0 w'→RunsB Try.prog Post (G ((base 7).at {tmps:=(List.toArray ((u0)::(u1)::(.slice q S.n cq)::(u3)::(u4)::(u5)::(u6)::(u7)::(.bool false)::(.int .i64 cell)::(.pointer (some ⟨A.k.kb,0,none⟩))::(u11)::(.pointer (some ⟨B.k.kb,0,none⟩))::(u13)::(.pointer (some ⟨X.k.kb,0,none⟩))::(u15)::(.int .i64 f)::(u17)::(u18)::(u19)::(u20)::(u21)::(u22)::(u23)::(u24)::(u25)::(u26)::(u27)::(u28)::(u29)::(u30)::(u31)::(u32)::(u33)::(u34)::(u35)::(u36)::(u37)::(u38)::(u39)::(u40)::(u41)::(u42)::(u43)::(u44)::(u45)::(u46)::(u47)::(u48)::(u49)::(u50)::(u51)::(u52)::(u53)::(u54)::(u55)::(u56)::(u57)::(u58)::(u59)::(u60)::(u61)::(u62)::(u63)::(u64)::(u65)::(u66)::(u67)::(u68)::(u69)::(u70)::(u71)::(u72)::(u73)::(u74)::(u75)::(u76)::(u77)::(u78)::(u79)::(u80)::(u81)::(u82)::(u83)::(u84)::(u85)::(u86)::(u87)::(u88)::(u89)::(u90)::(u91)::(u92)::(u93)::(u94)::(u95)::(u96)::(u97)::(u98)::(u99)::(u100)::(u101)::(u102)::(u103)::(u104)::(u105)::(u106)::(u107)::(u108)::(u109)::(u110)::(u111)::(u112)::(u113)::(u114)::(u115)::(u116)::(u117)::(u118)::(u119)::(u120)::(u121)::(u122)::(u123)::(u124)::(u125)::(u126)::(u127)::(u128)::(u129)::(u130)::(u131)::(u132)::[])),defers:=[]} (kk)) cs) w')→
   RunsB Try.prog Post (G ((base 7).at {tmps:=(List.toArray ((u0)::(u1)::(.slice q S.n cq)::(u3)::(u4)::(u5)::(u6)::(u7)::(.bool false)::(.int .i64 cell)::(.pointer (some ⟨A.k.kb,0,none⟩))::(u11)::(.pointer (some ⟨B.k.kb,0,none⟩))::(u13)::(.pointer (some ⟨X.k.kb,0,none⟩))::(u15)::(.int .i64 i)::(u17)::(u18)::(u19)::(u20)::(u21)::(u22)::(u23)::(u24)::(u25)::(u26)::(u27)::(u28)::(u29)::(u30)::(u31)::(u32)::(u33)::(u34)::(u35)::(u36)::(u37)::(u38)::(u39)::(u40)::(u41)::(u42)::(u43)::(u44)::(u45)::(u46)::(u47)::(u48)::(u49)::(u50)::(u51)::(u52)::(u53)::(u54)::(u55)::(u56)::(u57)::(u58)::(u59)::(u60)::(u61)::(u62)::(u63)::(u64)::(u65)::(u66)::(u67)::(u68)::(u69)::(u70)::(u71)::(u72)::(u73)::(u74)::(u75)::(u76)::(u77)::(u78)::(u79)::(u80)::(u81)::(u82)::(u83)::(u84)::(u85)::(u86)::(u87)::(u88)::(u89)::(u90)::(u91)::(u92)::(u93)::(u94)::(u95)::(u96)::(u97)::(u98)::(u99)::(u100)::(u101)::(u102)::(u103)::(u104)::(u105)::(u106)::(u107)::(u108)::(u109)::(u110)::(u111)::(u112)::(u113)::(u114)::(u115)::(u116)::(u117)::(u118)::(u119)::(u120)::(u121)::(u122)::(u123)::(u124)::(u125)::(u126)::(u127)::(u128)::(u129)::(u130)::(u131)::(u132)::[])),defers:=[]} (.code apL::.inLoop apL::.inBlock 0::kk)) cs) w:=by
 have hk:(base 7).kind≠.early:=by simp [base]
 intro rem;induction rem with
 |zero=>
  intro i w u0 u1 u3 u4 u5 u6 u7 u11 u13 u15 u17 u18 u19 u20 u21 u22 u23 u24 u25 u26 u27 u28 u29 u30 u31 u32 u33 u34 u35 u36 u37 u38 u39 u40 u41 u42 u43 u44 u45 u46 u47 u48 u49 u50 u51 u52 u53 u54 u55 u56 u57 u58 u59 u60 u61 u62 u63 u64 u65 u66 u67 u68 u69 u70 u71 u72 u73 u74 u75 u76 u77 u78 u79 u80 u81 u82 u83 u84 u85 u86 u87 u88 u89 u90 u91 u92 u93 u94 u95 u96 u97 u98 u99 u100 u101 u102 u103 u104 u105 u106 u107 u108 u109 u110 u111 u112 u113 u114 u115 u116 u117 u118 u119 u120 u121 u122 u123 u124 u125 u126 u127 u128 u129 u130 u131 u132 hi hM hp;obtain rfl:i=f:=by omega
  by_cases hin:i<S.n
  ·obtain rfl:i=40:=by omega
   have hinI:(40:Int)<(S.n:Int):=by omega
   refine RunsB.of_goes ?_;have hF:=Is.self w;repeat refine .c1 termsS rfl ?_
   refine .regionL termsS [0,1,2,3,4,5,6,7] (by rfl) ?_;iterate 8 (refine .opV termsS rfl (by rfl) hk ?_;try walk_nrm)
   repeat refine .c1 termsS rfl ?_
   refine GoesW.condF termsS (by first|rfl|simp [Act.eval]) ?_;refine GoesW.exit termsS rfl ?_;refine .stop rfl fun w1 hR=>?_;obtain ⟨d,rfl⟩:=hF.rely hR;clear hF hR;exact hp _ _ _ _ _ _ _ _ _ _ _ _ _ _ _ _ _ _ _ _ _ _ _ _ _ _ _ _ _ _ _ _ _ _ _ _ _ _ _ _ _ _ _ _ _ _ _ _ _ _ _ _ _ _ _ _ _ _ _ _ _ _ _ _ _ _ _ _ _ _ _ _ _ _ _ _ _ _ _ _ _ _ _ _ _ _ _ _ _ _ _ _ _ _ _ _ _ _ _ _ _ _ _ _ _ _ _ _ _ _ _ _ _ _ _ _ _ _ _ _ _ _ _ _ _ _ _ (hM.at d)
  ·have hinI:¬(i:Int)<(S.n:Int):=by omega
   refine RunsB.of_goes ?_;have hF:=Is.self w;repeat refine .c1 termsS rfl ?_
   refine .regionL termsS [0,1,2,3,4,5,6,7] (by rfl) ?_;iterate 5 (refine .opV termsS rfl (by rfl) hk ?_;try walk_nrm)
   iterate 2 (refine GoesW.unwanted termsS rfl (by rfl) ?_;try walk_nrm)
   refine .opV termsS rfl (by rfl) hk ?_;try walk_nrm
   repeat refine .c1 termsS rfl ?_
   refine GoesW.condF termsS (by first|rfl|simp [Act.eval]) ?_;refine GoesW.exit termsS rfl ?_;refine .stop rfl fun w1 hR=>?_;obtain ⟨d,rfl⟩:=hF.rely hR;clear hF hR;exact hp _ _ _ _ _ _ _ _ _ _ _ _ _ _ _ _ _ _ _ _ _ _ _ _ _ _ _ _ _ _ _ _ _ _ _ _ _ _ _ _ _ _ _ _ _ _ _ _ _ _ _ _ _ _ _ _ _ _ _ _ _ _ _ _ _ _ _ _ _ _ _ _ _ _ _ _ _ _ _ _ _ _ _ _ _ _ _ _ _ _ _ _ _ _ _ _ _ _ _ _ _ _ _ _ _ _ _ _ _ _ _ _ _ _ _ _ _ _ _ _ _ _ _ _ _ _ _ (hM.at d)
 |succ rem ih=>
  intro i w u0 u1 u3 u4 u5 u6 u7 u11 u13 u15 u17 u18 u19 u20 u21 u22 u23 u24 u25 u26 u27 u28 u29 u30 u31 u32 u33 u34 u35 u36 u37 u38 u39 u40 u41 u42 u43 u44 u45 u46 u47 u48 u49 u50 u51 u52 u53 u54 u55 u56 u57 u58 u59 u60 u61 u62 u63 u64 u65 u66 u67 u68 u69 u70 u71 u72 u73 u74 u75 u76 u77 u78 u79 u80 u81 u82 u83 u84 u85 u86 u87 u88 u89 u90 u91 u92 u93 u94 u95 u96 u97 u98 u99 u100 u101 u102 u103 u104 u105 u106 u107 u108 u109 u110 u111 u112 u113 u114 u115 u116 u117 u118 u119 u120 u121 u122 u123 u124 u125 u126 u127 u128 u129 u130 u131 u132 hi hM hp;have hin:i<S.n:=by omega
  have hinI:(i:Int)<(S.n:Int):=by omega
  have h40:i<40:=by omega
  have h40I:(i:Int)<40:=by omega
  have hwr:IntKind.i64.wrap ((i:Int)+1)=((i+1:Nat):Int):=by rw [IntKind.wrap_i64];omega
  obtain ⟨SF,hs,hfi⟩:=hsh.below hM.bel;obtain ⟨qb,qo,rfl,hq⟩:=hs.at (show 0<S.n by omega);obtain ⟨pi,ci,e,hpi⟩:=hfi i hin;have hsw:=hq i hin;rw [e] at hsw;clear hq hs hfi e;have Hm:∀x,(frS cp (insS S) i).m x+1300≤1000000000:=fun x=>by have:=frS_m (insS S) hTp i x;omega
  have Hr:∀x,(frS cr (insS S) i).m x+1300≤1000000000:=fun x=>by have:=frS_m (insS S) hTr i x;omega
  have Hm1:(frS cp (insS S) (i+1)).m cell≤1000000000:=by have:=frS_m (insS S) hTp (i+1) cell;omega
  have Hr1:(frS cr (insS S) (i+1)).m cell≤1000000000:=by have:=frS_m (insS S) hTr (i+1) cell;omega
  obtain ⟨ta,xa⟩:=xs_tz (frS_xs cp (insS S) (i+1)) cell;obtain ⟨tb,xb⟩:=xs_tz (frS_xs cr (insS S) (i+1)) cell;have hcA:cell<A.k.nC:=by rw [hOp.nC,hCp];exact hcell
  have hcB:cell<B.k.nC:=by rw [hOr.nC,hCr];exact hcell
  refine RunsB.of_goes ?_;have hF:=Is.self w;repeat refine .c1 termsS rfl ?_
  refine .regionL termsS [0,1,2,3,4,5,6,7] (by rfl) ?_;iterate 8 (refine .opV termsS rfl (by rfl) hk ?_;try walk_nrm)
  repeat refine .c1 termsS rfl ?_
  refine GoesW.condT termsS (by first|rfl|simp [Act.eval]) ?_;repeat refine .c1 termsS rfl ?_
  refine .regionL termsS [0,1,2,3,4,5] (by rfl) ?_;iterate 2 (refine .opV termsS rfl (by rfl) hk ?_;try walk_nrm)
  refine .op rfl (by rfl) hk fun w1 hR K_ hK=>?_;replace hF:=hF.rely hR;clear hR;go_simp;try (unfold stored;go_simp)
  refine hK _ _ ⟨?_,?_⟩
  ·exact listed_ok plain (slots_noSlots plain Try.func7 (by kernel_rfl) _) (by kernel_rfl) _
  clear hK K_;try walk_nrm
  refine .op rfl (by rfl) hk fun w1 hR K_ hK=>?_;replace hF:=hF.rely hR;clear hR;have hc:World.cell? w1 ⟨qb,qo+i,none⟩=some (.slice pi (S.m i) ci):=(hF.cell _).trans (hsw);go_simp;try (unfold stored;go_simp)
  refine hK _ _ ⟨?_,?_⟩
  ·exact listed_ok plain (slots_noSlots plain Try.func7 (by kernel_rfl) _) (by kernel_rfl) _
  clear hK K_;clear hc;try walk_nrm
  refine .stop rfl fun w4 hR=>?_;obtain ⟨d4,rfl⟩:=hF.rely hR;clear hF hR;refine RunsB.call rfl (by rfl) hk (fun d=>?run1) (fun d=>?evs1) (inputs_calls (w:=w.at d4) (c:=ci) (S:=S) (i:=i) hpi) (fun v wI hv=>?_)
  case run1=>kernel_rfl
  case evs1=>
   rw [listed_nil (by kernel_rfl)];simp
  obtain ⟨hI,ip,il,ic,rfl,hil,hin4⟩:=hv;refine RunsB.of_goes ?_;have hF:=Is.self wI;try walk_nrm
  replace hI:Below w.heap.size w wI:=⟨hI.os,hI.tape,hI.output,hI.size,hI.block⟩;have hM1:=hM.fresh hI;clear hM hI hpi hsw;refine .opV termsS rfl (by rfl) hk ?_;try walk_nrm
  repeat refine .c1 termsS rfl ?_
  refine .regionL termsS [0,1,2,3] (by rfl) ?_;iterate 2 (refine .opV termsS rfl (by rfl) hk ?_;try walk_nrm)
  refine .stop rfl fun w4 hR=>?_;obtain ⟨d4,rfl⟩:=hF.rely hR;clear hF hR;refine RunsB.call rfl (by rfl) hk (fun d=>?run2) (fun d=>?evs2) ((hM1.at d4).frame hOp Hm (hin4.keep (w':=wI.at d4) (fun _ _=>rfl) (fun b hb _=>hb.2)) hil) (fun r wF hv=>?_)
  case run2=>kernel_rfl
  case evs2=>
   rw [listed_nil (by kernel_rfl)];simp
  obtain ⟨rfl,hM2,hkp⟩:=hv;refine RunsB.of_goes ?_;have hF:=Is.self wF;try walk_nrm
  rw [Nat.mod_add_mod] at hM2;have in2:=hin4.keep (w':=wF) (F':=fun b=>(w.heap.size≤b∧b<wI.heap.size)∧StatQ wF b) (fun b hb=>hkp b hb.1) (fun b hb _=>⟨hb.1,hb.2.of_heap (hkp b hb.1)⟩);clear hM1 hin4 hkp;refine .opV termsS rfl (by rfl) hk ?_;try walk_nrm
  repeat refine .c1 termsS rfl ?_
  refine .regionL termsS [0,1,2,3] (by rfl) ?_;iterate 2 (refine .opV termsS rfl (by rfl) hk ?_;try walk_nrm)
  refine .stop rfl fun w4 hR=>?_;obtain ⟨d4,rfl⟩:=hF.rely hR;clear hF hR;refine RunsB.call rfl (by rfl) hk (fun d=>?run3) (fun d=>?evs3) ((hM2.swap.at d4).frame hOr Hr (in2.keep (w':=wF.at d4) (fun _ _=>rfl) (fun b hb _=>hb.2)) hil) (fun r wG hv=>?_)
  case run3=>kernel_rfl
  case evs3=>
   rw [listed_nil (by kernel_rfl)];simp
  obtain ⟨rfl,hM3,hkp⟩:=hv;refine RunsB.of_goes ?_;have hF:=Is.self wG;try walk_nrm
  rw [Nat.mod_add_mod] at hM3;change Ap3 W0 _ B A X (frS cr (insS S) (i+1)) (frS cp (insS S) (i+1)) _ _ _ _ wG at hM3;clear hM2 in2 hkp;replace hM3:=hM3.noG;have hvb:=fun W (h:Ap3 W0 (fun _=>False) B A X (frS cr (insS S) (i+1)) (frS cp (insS S) (i+1)) (sq0 cp) ((i+1) % cr.nT) ((i+1) % cp.nT) 0 W)=>h.view hcB xb Hr1;have hva:=fun W (h:Ap3 W0 (fun _=>False) B A X (frS cr (insS S) (i+1)) (frS cp (insS S) (i+1)) (sq0 cp) ((i+1) % cr.nT) ((i+1) % cp.nT) 0 W)=>h.swap.view hcA xa Hm1;generalize (frS cr (insS S) (i+1)).m cell=mb at hvb;generalize (frS cr (insS S) (i+1)).z cell=zb at hvb;generalize (frS cp (insS S) (i+1)).m cell=ma at hva;generalize (frS cp (insS S) (i+1)).z cell=za at hva;clear xa xb Hm Hr Hm1 Hr1;refine .opV termsS rfl (by rfl) hk ?_;try walk_nrm
  repeat refine .c1 termsS rfl ?_
  refine .regionL termsS [0,1,2,3,4,5,6,7,8] (by rfl) ?_;iterate 2 (refine .opV termsS rfl (by rfl) hk ?_;try walk_nrm)
  refine .stop rfl fun w4 hR=>?_;obtain ⟨d4,rfl⟩:=hF.rely hR;clear hF hR;refine RunsB.call rfl (by rfl) hk (fun d=>?run4) (fun d=>?evs4) (hvb _ (hM3.at d4)) (fun v wV hv=>?_)
  case run4=>kernel_rfl
  case evs4=>
   rw [listed_nil (by kernel_rfl)];simp
  obtain ⟨hV,pu1,cu1,pm1,cm1,rfl,-,-⟩:=hv;refine RunsB.of_goes ?_;have hF:=Is.self wV;try walk_nrm
  replace hV:Below wG.heap.size wG wV:=⟨hV.os,hV.tape,hV.output,hV.size,hV.block⟩;replace hM3:=hM3.below hV;clear hV hvb;iterate 3 (refine .opV termsS rfl (by rfl) hk ?_;try walk_nrm)
  refine .op rfl (by rfl) hk fun w1 hR K_ hK=>?_;replace hF:=hF.rely hR;clear hR;go_simp;try (unfold stored;go_simp)
  refine hK _ _ ⟨?_,?_⟩
  ·exact listed_ok plain (slots_noSlots plain Try.func7 (by kernel_rfl) _) (by kernel_rfl) _
  clear hK K_;have hz:=hF.size;replace hF:Is (wV.alloc (.cells #[.slice none 0 0,.slice none 0 0,.int .i64 0,.int .i64 0,.bool false] 60)) (w1.alloc (.cells #[.slice none 0 0,.slice none 0 0,.int .i64 0,.int .i64 0,.bool false] 60)):=hF.alloc _;rw [hz];generalize w1.alloc (.cells #[.slice none 0 0,.slice none 0 0,.int .i64 0,.int .i64 0,.bool false] 60)=w2 at *;clear hz;have b0:RowF (wV.alloc (.cells #[.slice none 0 0,.slice none 0 0,.int .i64 0,.int .i64 0,.bool false] 60)) wV.heap.size 5 60 (cells5 (.slice none 0 0) (.slice none 0 0) (.int .i64 0) (.int .i64 0) (.bool false)):=row5 wV _ _ _ _ _ _;have hA:Below wV.heap.size wV (wV.alloc (.cells #[.slice none 0 0,.slice none 0 0,.int .i64 0,.int .i64 0,.bool false] 60)):=(Below.refl _ _).alloc (Nat.le_refl _) _;generalize wV.alloc (.cells #[.slice none 0 0,.slice none 0 0,.int .i64 0,.int .i64 0,.bool false] 60)=wA at *;obtain ⟨G1,HG⟩:∃G,G=wV.heap.size:=⟨_,rfl⟩;rw [←HG] at b0 ⊢;have HG1:Hid (G1=wV.heap.size):=HG;clear HG;try walk_nrm
  refine .op rfl (by rfl) hk fun w1 hR K_ hK=>?_;replace hF:=hF.rely hR;clear hR;have c0:World.cell? w1 ⟨G1,0,none⟩=some (.slice none 0 0):=(hF.cell _).trans (b0.cell (j:=0) (by omega));have c1:World.cell? w1 ⟨G1,1,none⟩=some (.slice none 0 0):=(hF.cell _).trans (b0.cell (j:=1) (by omega));have c2:World.cell? w1 ⟨G1,2,none⟩=some (.int .i64 0):=(hF.cell _).trans (b0.cell (j:=2) (by omega));have c3:World.cell? w1 ⟨G1,3,none⟩=some (.int .i64 0):=(hF.cell _).trans (b0.cell (j:=3) (by omega));have c4:World.cell? w1 ⟨G1,4,none⟩=some (.bool false):=(hF.cell _).trans (b0.cell (j:=4) (by omega));have f0:World.frozen? w1 ⟨G1,0,none⟩=false:=(hF.frozen _).trans (b0.frozen 0);have f1:World.frozen? w1 ⟨G1,1,none⟩=false:=(hF.frozen _).trans (b0.frozen 1);have f2:World.frozen? w1 ⟨G1,2,none⟩=false:=(hF.frozen _).trans (b0.frozen 2);have f3:World.frozen? w1 ⟨G1,3,none⟩=false:=(hF.frozen _).trans (b0.frozen 3);have f4:World.frozen? w1 ⟨G1,4,none⟩=false:=(hF.frozen _).trans (b0.frozen 4);go_simp;try (unfold stored;go_simp)
  refine hK _ _ ⟨?_,?_⟩
  ·exact listed_ok plain (slots_noSlots plain Try.func7 (by kernel_rfl) _) (by kernel_rfl) _
  clear hK K_;clear c0 c1 c2 c3 c4 f0 f1 f2 f3 f4;replace hF:Is (((((wA.setCell ⟨G1,0,none⟩ (.slice pu1 mb cu1)).setCell ⟨G1,1,none⟩ (.slice pm1 16 cm1)).setCell ⟨G1,2,none⟩ (.int .i64 (zb 46))).setCell ⟨G1,3,none⟩ (.int .i64 (zb 47))).setCell ⟨G1,4,none⟩ (.bool (decide (zb 3<zb 47)))) (((((w1.setCell ⟨G1,0,none⟩ (.slice pu1 mb cu1)).setCell ⟨G1,1,none⟩ (.slice pm1 16 cm1)).setCell ⟨G1,2,none⟩ (.int .i64 (zb 46))).setCell ⟨G1,3,none⟩ (.int .i64 (zb 47))).setCell ⟨G1,4,none⟩ (.bool (decide (zb 3<zb 47)))):=((((hF.set _ _).set _ _).set _ _).set _ _).set _ _;generalize (((((w1.setCell ⟨G1,0,none⟩ (.slice pu1 mb cu1)).setCell ⟨G1,1,none⟩ (.slice pm1 16 cm1)).setCell ⟨G1,2,none⟩ (.int .i64 (zb 46))).setCell ⟨G1,3,none⟩ (.int .i64 (zb 47))).setCell ⟨G1,4,none⟩ (.bool (decide (zb 3<zb 47))))=w2 at *;obtain ⟨t1,t2,t3⟩:=box5_set (a':=.slice pu1 mb cu1) (b':=.slice pm1 16 cm1) (c':=.int .i64 (zb 46)) (d':=.int .i64 (zb 47)) (e':=.bool (decide (zb 3<zb 47))) b0;have hV1:Below wV.heap.size wV (((((wA.setCell ⟨G1,0,none⟩ (.slice pu1 mb cu1)).setCell ⟨G1,1,none⟩ (.slice pm1 16 cm1)).setCell ⟨G1,2,none⟩ (.int .i64 (zb 46))).setCell ⟨G1,3,none⟩ (.int .i64 (zb 47))).setCell ⟨G1,4,none⟩ (.bool (decide (zb 3<zb 47)))):=⟨hA.os,hA.tape,hA.output,by rw [t3];exact hA.size,fun b hb=>(t2 b (by have:=HG1.out;omega)).trans (hA.block b hb)⟩;clear b0 t2 t3 hA;have b1:=t1;clear t1;generalize (((((wA.setCell ⟨G1,0,none⟩ (.slice pu1 mb cu1)).setCell ⟨G1,1,none⟩ (.slice pm1 16 cm1)).setCell ⟨G1,2,none⟩ (.int .i64 (zb 46))).setCell ⟨G1,3,none⟩ (.int .i64 (zb 47))).setCell ⟨G1,4,none⟩ (.bool (decide (zb 3<zb 47))))=wB1 at *;try walk_nrm
  refine .opV termsS rfl (by rfl) hk ?_;try walk_nrm
  replace hM3:=hM3.below hV1;clear hV1 b1 HG1;repeat refine .c1 termsS rfl ?_
  refine .regionL termsS [0,1,2,3,4,5,6,7,8] (by rfl) ?_;iterate 2 (refine .opV termsS rfl (by rfl) hk ?_;try walk_nrm)
  refine .stop rfl fun w4 hR=>?_;obtain ⟨d4,rfl⟩:=hF.rely hR;clear hF hR;refine RunsB.call rfl (by rfl) hk (fun d=>?run5) (fun d=>?evs5) (hva _ (hM3.at d4)) (fun v wU hv=>?_)
  case run5=>kernel_rfl
  case evs5=>
   rw [listed_nil (by kernel_rfl)];simp
  obtain ⟨hV,pu2,cu2,pm2,cm2,rfl,-,-⟩:=hv;refine RunsB.of_goes ?_;have hF:=Is.self wU;try walk_nrm
  replace hV:Below wB1.heap.size wB1 wU:=⟨hV.os,hV.tape,hV.output,hV.size,hV.block⟩;replace hM3:=hM3.below hV;clear hV hva;iterate 3 (refine .opV termsS rfl (by rfl) hk ?_;try walk_nrm)
  refine .op rfl (by rfl) hk fun w1 hR K_ hK=>?_;replace hF:=hF.rely hR;clear hR;go_simp;try (unfold stored;go_simp)
  refine hK _ _ ⟨?_,?_⟩
  ·exact listed_ok plain (slots_noSlots plain Try.func7 (by kernel_rfl) _) (by kernel_rfl) _
  clear hK K_;have hz:=hF.size;replace hF:Is (wU.alloc (.cells #[.slice none 0 0,.slice none 0 0,.int .i64 0,.int .i64 0,.bool false] 60)) (w1.alloc (.cells #[.slice none 0 0,.slice none 0 0,.int .i64 0,.int .i64 0,.bool false] 60)):=hF.alloc _;rw [hz];generalize w1.alloc (.cells #[.slice none 0 0,.slice none 0 0,.int .i64 0,.int .i64 0,.bool false] 60)=w2 at *;clear hz;have b0:RowF (wU.alloc (.cells #[.slice none 0 0,.slice none 0 0,.int .i64 0,.int .i64 0,.bool false] 60)) wU.heap.size 5 60 (cells5 (.slice none 0 0) (.slice none 0 0) (.int .i64 0) (.int .i64 0) (.bool false)):=row5 wU _ _ _ _ _ _;have hA:Below wU.heap.size wU (wU.alloc (.cells #[.slice none 0 0,.slice none 0 0,.int .i64 0,.int .i64 0,.bool false] 60)):=(Below.refl _ _).alloc (Nat.le_refl _) _;generalize wU.alloc (.cells #[.slice none 0 0,.slice none 0 0,.int .i64 0,.int .i64 0,.bool false] 60)=wA at *;obtain ⟨G2,HG⟩:∃G,G=wU.heap.size:=⟨_,rfl⟩;rw [←HG] at b0 ⊢;have HG2:Hid (G2=wU.heap.size):=HG;clear HG;try walk_nrm
  refine .op rfl (by rfl) hk fun w1 hR K_ hK=>?_;replace hF:=hF.rely hR;clear hR;have c0:World.cell? w1 ⟨G2,0,none⟩=some (.slice none 0 0):=(hF.cell _).trans (b0.cell (j:=0) (by omega));have c1:World.cell? w1 ⟨G2,1,none⟩=some (.slice none 0 0):=(hF.cell _).trans (b0.cell (j:=1) (by omega));have c2:World.cell? w1 ⟨G2,2,none⟩=some (.int .i64 0):=(hF.cell _).trans (b0.cell (j:=2) (by omega));have c3:World.cell? w1 ⟨G2,3,none⟩=some (.int .i64 0):=(hF.cell _).trans (b0.cell (j:=3) (by omega));have c4:World.cell? w1 ⟨G2,4,none⟩=some (.bool false):=(hF.cell _).trans (b0.cell (j:=4) (by omega));have f0:World.frozen? w1 ⟨G2,0,none⟩=false:=(hF.frozen _).trans (b0.frozen 0);have f1:World.frozen? w1 ⟨G2,1,none⟩=false:=(hF.frozen _).trans (b0.frozen 1);have f2:World.frozen? w1 ⟨G2,2,none⟩=false:=(hF.frozen _).trans (b0.frozen 2);have f3:World.frozen? w1 ⟨G2,3,none⟩=false:=(hF.frozen _).trans (b0.frozen 3);have f4:World.frozen? w1 ⟨G2,4,none⟩=false:=(hF.frozen _).trans (b0.frozen 4);go_simp;try (unfold stored;go_simp)
  refine hK _ _ ⟨?_,?_⟩
  ·exact listed_ok plain (slots_noSlots plain Try.func7 (by kernel_rfl) _) (by kernel_rfl) _
  clear hK K_;clear c0 c1 c2 c3 c4 f0 f1 f2 f3 f4;replace hF:Is (((((wA.setCell ⟨G2,0,none⟩ (.slice pu2 ma cu2)).setCell ⟨G2,1,none⟩ (.slice pm2 16 cm2)).setCell ⟨G2,2,none⟩ (.int .i64 (za 46))).setCell ⟨G2,3,none⟩ (.int .i64 (za 47))).setCell ⟨G2,4,none⟩ (.bool (decide (za 3<za 47)))) (((((w1.setCell ⟨G2,0,none⟩ (.slice pu2 ma cu2)).setCell ⟨G2,1,none⟩ (.slice pm2 16 cm2)).setCell ⟨G2,2,none⟩ (.int .i64 (za 46))).setCell ⟨G2,3,none⟩ (.int .i64 (za 47))).setCell ⟨G2,4,none⟩ (.bool (decide (za 3<za 47)))):=((((hF.set _ _).set _ _).set _ _).set _ _).set _ _;generalize (((((w1.setCell ⟨G2,0,none⟩ (.slice pu2 ma cu2)).setCell ⟨G2,1,none⟩ (.slice pm2 16 cm2)).setCell ⟨G2,2,none⟩ (.int .i64 (za 46))).setCell ⟨G2,3,none⟩ (.int .i64 (za 47))).setCell ⟨G2,4,none⟩ (.bool (decide (za 3<za 47))))=w2 at *;obtain ⟨t1,t2,t3⟩:=box5_set (a':=.slice pu2 ma cu2) (b':=.slice pm2 16 cm2) (c':=.int .i64 (za 46)) (d':=.int .i64 (za 47)) (e':=.bool (decide (za 3<za 47))) b0;have hV2:Below wU.heap.size wU (((((wA.setCell ⟨G2,0,none⟩ (.slice pu2 ma cu2)).setCell ⟨G2,1,none⟩ (.slice pm2 16 cm2)).setCell ⟨G2,2,none⟩ (.int .i64 (za 46))).setCell ⟨G2,3,none⟩ (.int .i64 (za 47))).setCell ⟨G2,4,none⟩ (.bool (decide (za 3<za 47)))):=⟨hA.os,hA.tape,hA.output,by rw [t3];exact hA.size,fun b hb=>(t2 b (by have:=HG2.out;omega)).trans (hA.block b hb)⟩;clear b0 t2 t3 hA;have b2:=t1;clear t1;generalize (((((wA.setCell ⟨G2,0,none⟩ (.slice pu2 ma cu2)).setCell ⟨G2,1,none⟩ (.slice pm2 16 cm2)).setCell ⟨G2,2,none⟩ (.int .i64 (za 46))).setCell ⟨G2,3,none⟩ (.int .i64 (za 47))).setCell ⟨G2,4,none⟩ (.bool (decide (za 3<za 47))))=wB2 at *;try walk_nrm
  refine .opV termsS rfl (by rfl) hk ?_;try walk_nrm
  replace hM3:=hM3.below hV2;clear hV2 b2 HG2;repeat refine .c1 termsS rfl ?_
  refine .regionL termsS [0,1,2,3,4,5,6,7,8,9,10,11,12,13] (by rfl) ?_;iterate 14 (refine .opV termsS rfl (by rfl) hk ?_;try walk_nrm)
  repeat refine .c1 termsS rfl ?_
  refine GoesW.condF termsS (by first|rfl|simp [Act.eval]) ?_;repeat refine .c1 termsS rfl ?_
  refine .regionL termsS [0,1,2] (by rfl) ?_;iterate 2 (refine .opV termsS rfl (by rfl) hk ?_;try walk_nrm)
  try rw [hwr]
  refine .opV termsS rfl (by rfl) hk ?_;try walk_nrm
  repeat refine .c1 termsS rfl ?_
  refine GoesW.inLoop termsS ?_;refine .stop rfl fun w1 hR=>?_;obtain ⟨d,rfl⟩:=hF.rely hR;clear hF hR;exact ih (i+1) _ _ _ _ _ _ _ _ _ _ _ _ _ _ _ _ _ _ _ _ _ _ _ _ _ _ _ _ _ _ _ _ _ _ _ _ _ _ _ _ _ _ _ _ _ _ _ _ _ _ _ _ _ _ _ _ _ _ _ _ _ _ _ _ _ _ _ _ _ _ _ _ _ _ _ _ _ _ _ _ _ _ _ _ _ _ _ _ _ _ _ _ _ _ _ _ _ _ _ _ _ _ _ _ _ _ _ _ _ _ _ _ _ _ _ _ _ _ _ _ _ _ _ _ _ _ _ (by omega) (hM3.swap.at d) hp
end
end Go.Proofs.Ytdoghgnifkgfdaa.Mute
