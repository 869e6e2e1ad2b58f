import Derived.Test.YtdoghgnifkgfdaaP42
set_option maxRecDepth 100000
set_option maxHeartbeats 16000000
namespace Go.Proofs.Ytdoghgnifkgfdaa.Mute
open Go Go.Conc Go.RowKit
section
variable {Post:Goroutine→World→Prop} {W1:World} {G0 cu:Nat} {vW a1 a2 a3 a4:Value} {pu:Option Addr} {E:List (Int×Int×Int)}
theorem saids_take (E:List (Int×Int×Int)) {j:Nat} (h:j<E.length):saids (E.take (j+1))=saids (E.take j)++(if (E.getD j (0,0,0)).1=1 then [(E.getD j (0,0,0)).2.1] else []):=by
 have ht:E.take (j+1)=E.take j++[E.getD j (0,0,0)]:=by rw [List.take_add_one];simp [h]
 rw [ht,saids_append];congr 1;by_cases e:(E.getD j (0,0,0)).1=1
 ·rw [if_pos e];simp only [saids,List.filterMap_cons,if_pos e,List.filterMap_nil]
 ·rw [if_neg e];simp only [saids,List.filterMap_cons,if_neg e,List.filterMap_nil]
theorem rl_loopG (hE:E.length≤900) (b0:RowF W1 G0 5 60 (cells5 (.slice pu E.length cu) a1 a2 a3 a4)) (hu:Sl W1 pu (E.length*3) (fun j=>.int .i64 (if j % 3=0 then (E.getD (j / 3) (0,0,0)).1 else if j % 3=1 then (E.getD (j / 3) (0,0,0)).2.1 else (E.getD (j / 3) (0,0,0)).2.2))) (cs:List Frame) (kk:List Item):
  ∀(rem j:Nat) (pg:Option Addr) (cg ng:Nat) (w:World) (u0 u1 u2 u3 u4 u5 u7 u8 u9 u10 u11 u12 u13 u14 u15 u17 u18 u19 u20 u21 u23 u26 u27 u28 u29 u30 u31 u32 u33 u34 u35 u36 u37 u38 u39 u40 u41 u42 u43 u44 u45 u46 u47 u48 u49 u50 u51 u52 u53 u54 u55 u56 u57 u58 u59 u60 u61 u62 u63 u64 u65 u66 u67 u68 u69 u70 u71 u72 u73 u74 u75 u76 u77 u78 u79 u80 u81 u82 u83 u84 u85 u86 u87 u88 u89 u90 u91 u92 u93 u94 u95 u96 u97 u98 u99 u100 u101 u102 u103 u104 u105 u106 u107 u108 u109 u110 u111 u112 u113 u114 u115 u116 u117 u118 u119 u120 u121 u122 u123 u124 u125 u126 u127 u128 u129 u130 u131 u132 u133 u134 u135 u136 u137 u138 u139 u140 u141 u142 u143 u144 u145 u146 u147 u148 u149 u150 u151 u152 u153 u154 u155 u156 u157 u158 u159 u160 u161 u162 u163 u164 u165 u166 u167 u168 u169 u170 u171 u172 u173 u174 u175 u176 u177 u178 u179 u180 u181 u182 u183 u184 u185 u186 u187 u188 u189 u190 u191 u192 u193 u194 u195:Value),j+rem=E.length→Hid (ng≤j)→Below W1.heap.size W1 w→w.ownsRow W1.heap.size 2 1 (.slice pg ng cg) ng ((saids (E.take j)).map (Value.int .i64 ·))→
   (∀(pg:Option Addr) (cg ng:Nat) (w':World) (u0 u1 u2 u3 u4 u5 u7 u8 u9 u10 u11 u12 u13 u14 u15 u17 u18 u19 u20 u21 u22 u23 u25 u26 u27 u28 u29 u30 u31 u32 u33 u34 u35 u36 u37 u38 u39 u40 u41 u42 u43 u44 u45 u46 u47 u48 u49 u50 u51 u52 u53 u54 u55 u56 u57 u58 u59 u60 u61 u62 u63 u64 u65 u66 u67 u68 u69 u70 u71 u72 u73 u74 u75 u76 u77 u78 u79 u80 u81 u82 u83 u84 u85 u86 u87 u88 u89 u90 u91 u92 u93 u94 u95 u96 u97 u98 u99 u100 u101 u102 u103 u104 u105 u106 u107 u108 u109 u110 u111 u112 u113 u114 u115 u116 u117 u118 u119 u120 u121 u122 u123 u124 u125 u126 u127 u128 u129 u130 u131 u132 u133 u134 u135 u136 u137 u138 u139 u140 u141 u142 u143 u144 u145 u146 u147 u148 u149 u150 u151 u152 u153 u154 u155 u156 u157 u158 u159 u160 u161 u162 u163 u164 u165 u166 u167 u168 u169 u170 u171 u172 u173 u174 u175 u176 u177 u178 u179 u180 u181 u182 u183 u184 u185 u186 u187 u188 u189 u190 u191 u192 u193 u194 u195:Value),Below W1.heap.size W1 w'→w'.ownsRow W1.heap.size 2 1 (.slice pg ng cg) ng ((saids (E)).map (Value.int .i64 ·))→RunsB Try.prog Post (G ((base 5).at {tmps:=(List.toArray ((u0)::(u1)::(u2)::(u3)::(u4)::(u5)::(.bool false)::(u7)::(u8)::(u9)::(u10)::(u11)::(u12)::(u13)::(u14)::(u15)::(vW)::(u17)::(u18)::(u19)::(u20)::(u21)::(u22)::(u23)::(.slice pg (ng:Nat) cg)::(u25)::(u26)::(u27)::(u28)::(u29)::(u30)::(u31)::(u32)::(u33)::(u34)::(u35)::(u36)::(u37)::(u38)::(u39)::(u40)::(u41)::(u42)::(u43)::(u44)::(u45)::(u46)::(u47)::(u48)::(u49)::(u50)::(u51)::(u52)::(u53)::(u54)::(u55)::(u56)::(u57)::(u58)::(u59)::(u60)::(u61)::(u62)::(u63)::(u64)::(u65)::(u66)::(u67)::(u68)::(u69)::(u70)::(u71)::(u72)::(u73)::(u74)::(u75)::(u76)::(u77)::(u78)::(u79)::(u80)::(u81)::(u82)::(u83)::(u84)::(u85)::(u86)::(u87)::(u88)::(u89)::(u90)::(u91)::(u92)::(u93)::(u94)::(u95)::(u96)::(u97)::(u98)::(u99)::(u100)::(u101)::(u102)::(u103)::(u104)::(u105)::(u106)::(u107)::(u108)::(u109)::(u110)::(u111)::(u112)::(u113)::(u114)::(u115)::(u116)::(u117)::(u118)::(u119)::(u120)::(u121)::(u122)::(u123)::(u124)::(u125)::(u126)::(u127)::(u128)::(u129)::(u130)::(u131)::(u132)::(u133)::(u134)::(u135)::(u136)::(u137)::(u138)::(u139)::(u140)::(u141)::(u142)::(u143)::(u144)::(u145)::(u146)::(u147)::(u148)::(u149)::(u150)::(u151)::(u152)::(u153)::(u154)::(u155)::(u156)::(u157)::(u158)::(u159)::(u160)::(u161)::(u162)::(u163)::(u164)::(u165)::(u166)::(u167)::(u168)::(u169)::(u170)::(u171)::(u172)::(u173)::(u174)::(u175)::(u176)::(u177)::(u178)::(u179)::(u180)::(u181)::(u182)::(u183)::(u184)::(u185)::(u186)::(u187)::(u188)::(u189)::(u190)::(u191)::(u192)::(u193)::(u194)::(u195)::[])),defers:=[]} (kk)) cs) w')→
   RunsB Try.prog Post (G ((base 5).at {tmps:=(List.toArray ((u0)::(u1)::(u2)::(u3)::(u4)::(u5)::(.bool false)::(u7)::(u8)::(u9)::(u10)::(u11)::(u12)::(u13)::(u14)::(u15)::(vW)::(u17)::(u18)::(u19)::(u20)::(u21)::(.pointer (some ⟨G0,0,none⟩))::(u23)::(.slice pg (ng:Nat) cg)::(.int .i64 j)::(u26)::(u27)::(u28)::(u29)::(u30)::(u31)::(u32)::(u33)::(u34)::(u35)::(u36)::(u37)::(u38)::(u39)::(u40)::(u41)::(u42)::(u43)::(u44)::(u45)::(u46)::(u47)::(u48)::(u49)::(u50)::(u51)::(u52)::(u53)::(u54)::(u55)::(u56)::(u57)::(u58)::(u59)::(u60)::(u61)::(u62)::(u63)::(u64)::(u65)::(u66)::(u67)::(u68)::(u69)::(u70)::(u71)::(u72)::(u73)::(u74)::(u75)::(u76)::(u77)::(u78)::(u79)::(u80)::(u81)::(u82)::(u83)::(u84)::(u85)::(u86)::(u87)::(u88)::(u89)::(u90)::(u91)::(u92)::(u93)::(u94)::(u95)::(u96)::(u97)::(u98)::(u99)::(u100)::(u101)::(u102)::(u103)::(u104)::(u105)::(u106)::(u107)::(u108)::(u109)::(u110)::(u111)::(u112)::(u113)::(u114)::(u115)::(u116)::(u117)::(u118)::(u119)::(u120)::(u121)::(u122)::(u123)::(u124)::(u125)::(u126)::(u127)::(u128)::(u129)::(u130)::(u131)::(u132)::(u133)::(u134)::(u135)::(u136)::(u137)::(u138)::(u139)::(u140)::(u141)::(u142)::(u143)::(u144)::(u145)::(u146)::(u147)::(u148)::(u149)::(u150)::(u151)::(u152)::(u153)::(u154)::(u155)::(u156)::(u157)::(u158)::(u159)::(u160)::(u161)::(u162)::(u163)::(u164)::(u165)::(u166)::(u167)::(u168)::(u169)::(u170)::(u171)::(u172)::(u173)::(u174)::(u175)::(u176)::(u177)::(u178)::(u179)::(u180)::(u181)::(u182)::(u183)::(u184)::(u185)::(u186)::(u187)::(u188)::(u189)::(u190)::(u191)::(u192)::(u193)::(u194)::(u195)::[])),defers:=[]} (.code rlG::.inLoop rlG::.inBlock 10::kk)) cs) w:=by
 have hk:(base 5).kind≠.early:=by simp [base]
 intro rem;induction rem with
 |zero=>
  intro j pg cg ng w u0 u1 u2 u3 u4 u5 u7 u8 u9 u10 u11 u12 u13 u14 u15 u17 u18 u19 u20 u21 u23 u26 u27 u28 u29 u30 u31 u32 u33 u34 u35 u36 u37 u38 u39 u40 u41 u42 u43 u44 u45 u46 u47 u48 u49 u50 u51 u52 u53 u54 u55 u56 u57 u58 u59 u60 u61 u62 u63 u64 u65 u66 u67 u68 u69 u70 u71 u72 u73 u74 u75 u76 u77 u78 u79 u80 u81 u82 u83 u84 u85 u86 u87 u88 u89 u90 u91 u92 u93 u94 u95 u96 u97 u98 u99 u100 u101 u102 u103 u104 u105 u106 u107 u108 u109 u110 u111 u112 u113 u114 u115 u116 u117 u118 u119 u120 u121 u122 u123 u124 u125 u126 u127 u128 u129 u130 u131 u132 u133 u134 u135 u136 u137 u138 u139 u140 u141 u142 u143 u144 u145 u146 u147 u148 u149 u150 u151 u152 u153 u154 u155 u156 u157 u158 u159 u160 u161 u162 u163 u164 u165 u166 u167 u168 u169 u170 u171 u172 u173 u174 u175 u176 u177 u178 u179 u180 u181 u182 u183 u184 u185 u186 u187 u188 u189 u190 u191 u192 u193 u194 u195 hi HN hB hv hp;have hje:j=E.length:=by omega
  have hjI:¬(j:Int)<(E.length:Int):=by omega
  have rB:=b0.below hB b0.lt;refine RunsB.of_goes ?_;have hF:=Is.self w;repeat refine .c1 termsS rfl ?_
  refine .regionL termsS [0,1,2,3,4] (by rfl) ?_;iterate 2 (refine .opV termsS rfl (by rfl) hk ?_;try walk_nrm)
  refine .op rfl (by rfl) hk fun w1 hR K_ hK=>?_;replace hF:=hF.rely hR;clear hR;have hc:World.cell? w1 ⟨G0,0,none⟩=some (.slice pu E.length cu):=(hF.cell _).trans (rB.cell (j:=0) (by omega));go_simp;try (unfold stored;go_simp)
  refine hK _ _ ⟨?_,?_⟩
  ·exact listed_ok plain (slots_noSlots plain Try.func5 (by kernel_rfl) _) (by kernel_rfl) _
  clear hK K_;clear hc;try walk_nrm
  iterate 2 (refine .opV termsS rfl (by rfl) hk ?_;try walk_nrm)
  repeat refine .c1 termsS rfl ?_
  refine GoesW.condF termsS (by first|rfl|(simp [Act.eval];omega)) ?_;refine GoesW.exit termsS rfl ?_;refine .stop rfl fun w1 hR=>?_;obtain ⟨d,rfl⟩:=hF.rely hR;clear hF hR;rw [hje,List.take_length] at hv;exact hp pg cg ng _ _ _ _ _ _ _ _ _ _ _ _ _ _ _ _ _ _ _ _ _ _ _ _ _ _ _ _ _ _ _ _ _ _ _ _ _ _ _ _ _ _ _ _ _ _ _ _ _ _ _ _ _ _ _ _ _ _ _ _ _ _ _ _ _ _ _ _ _ _ _ _ _ _ _ _ _ _ _ _ _ _ _ _ _ _ _ _ _ _ _ _ _ _ _ _ _ _ _ _ _ _ _ _ _ _ _ _ _ _ _ _ _ _ _ _ _ _ _ _ _ _ _ _ _ _ _ _ _ _ _ _ _ _ _ _ _ _ _ _ _ _ _ _ _ _ _ _ _ _ _ _ _ _ _ _ _ _ _ _ _ _ _ _ _ _ _ _ _ _ _ _ _ _ _ _ _ _ _ _ _ _ _ _ _ _ _ _ _ _ _ _ _ _ ⟨hB.os,hB.tape,hB.output,hB.size,hB.block⟩ hv
 |succ rem ih=>
  intro j pg cg ng w u0 u1 u2 u3 u4 u5 u7 u8 u9 u10 u11 u12 u13 u14 u15 u17 u18 u19 u20 u21 u23 u26 u27 u28 u29 u30 u31 u32 u33 u34 u35 u36 u37 u38 u39 u40 u41 u42 u43 u44 u45 u46 u47 u48 u49 u50 u51 u52 u53 u54 u55 u56 u57 u58 u59 u60 u61 u62 u63 u64 u65 u66 u67 u68 u69 u70 u71 u72 u73 u74 u75 u76 u77 u78 u79 u80 u81 u82 u83 u84 u85 u86 u87 u88 u89 u90 u91 u92 u93 u94 u95 u96 u97 u98 u99 u100 u101 u102 u103 u104 u105 u106 u107 u108 u109 u110 u111 u112 u113 u114 u115 u116 u117 u118 u119 u120 u121 u122 u123 u124 u125 u126 u127 u128 u129 u130 u131 u132 u133 u134 u135 u136 u137 u138 u139 u140 u141 u142 u143 u144 u145 u146 u147 u148 u149 u150 u151 u152 u153 u154 u155 u156 u157 u158 u159 u160 u161 u162 u163 u164 u165 u166 u167 u168 u169 u170 u171 u172 u173 u174 u175 u176 u177 u178 u179 u180 u181 u182 u183 u184 u185 u186 u187 u188 u189 u190 u191 u192 u193 u194 u195 hi HN hB hv hp;have hlt:j<E.length:=by omega
  have hjI:(j:Int)<(E.length:Int):=by omega
  have hwr:IntKind.i64.wrap ((j:Int)+1)=((j+1:Nat):Int):=by rw [IntKind.wrap_i64];omega
  have rB:=b0.below hB b0.lt;obtain ⟨ub,uo,rfl,hc⟩:=(hu.below hB).at (show 0<E.length*3 by omega);have c0:=hc (j*3) (by omega);have c1:=hc (j*3+1) (by omega);clear hc;rw [show (j*3) % 3=0 by omega,show (j*3) / 3=j by omega,if_pos rfl] at c0;rw [show (j*3+1) % 3=1 by omega,show (j*3+1) / 3=j by omega,if_neg (by omega),if_pos rfl,←Nat.add_assoc] at c1;have HT:Hid (saids (E.take (j+1))=saids (E.take j)++(if (E.getD j (0,0,0)).1=1 then [(E.getD j (0,0,0)).2.1] else [])):=saids_take E hlt;generalize (E.getD j (0,0,0)).1=x0 at *;generalize (E.getD j (0,0,0)).2.1=x1 at *;by_cases h1:x0=1
  ·subst h1;have HT2:Hid (saids (E.take (j+1))=saids (E.take j)++[x1]):=HT.out.trans (by rw [if_pos rfl]);refine RunsB.of_goes ?_;have hF:=Is.self w;repeat refine .c1 termsS rfl ?_
   refine .regionL termsS [0,1,2,3,4] (by rfl) ?_;iterate 2 (refine .opV termsS rfl (by rfl) hk ?_;try walk_nrm)
   refine .op rfl (by rfl) hk fun w1 hR K_ hK=>?_;replace hF:=hF.rely hR;clear hR;have hc:World.cell? w1 ⟨G0,0,none⟩=some (.slice (some ⟨ub,uo,none⟩) E.length cu):=(hF.cell _).trans (rB.cell (j:=0) (by omega));go_simp;try (unfold stored;go_simp)
   refine hK _ _ ⟨?_,?_⟩
   ·exact listed_ok plain (slots_noSlots plain Try.func5 (by kernel_rfl) _) (by kernel_rfl) _
   clear hK K_;clear hc;try walk_nrm
   iterate 2 (refine .opV termsS rfl (by rfl) hk ?_;try walk_nrm)
   repeat refine .c1 termsS rfl ?_
   refine GoesW.condT termsS (by first|rfl|simp [Act.eval,hlt]) ?_;repeat refine .c1 termsS rfl ?_
   refine .regionL termsS [0,1,2,3,4,5,6] (by rfl) ?_;refine .opV termsS rfl (by rfl) hk ?_;try walk_nrm
   refine .op rfl (by rfl) hk fun w1 hR K_ hK=>?_;replace hF:=hF.rely hR;clear hR;have hc:World.cell? w1 ⟨G0,0,none⟩=some (.slice (some ⟨ub,uo,none⟩) E.length cu):=(hF.cell _).trans (rB.cell (j:=0) (by omega));go_simp;try (unfold stored;go_simp)
   refine hK _ _ ⟨?_,?_⟩
   ·exact listed_ok plain (slots_noSlots plain Try.func5 (by kernel_rfl) _) (by kernel_rfl) _
   clear hK K_;clear hc;try walk_nrm
   refine .opV termsS rfl (by rfl) hk ?_;try walk_nrm
   refine .op rfl (by rfl) hk fun w1 hR K_ hK=>?_;replace hF:=hF.rely hR;clear hR;go_simp;try (unfold stored;go_simp)
   refine hK _ _ ⟨?_,?_⟩
   ·exact listed_ok plain (slots_noSlots plain Try.func5 (by kernel_rfl) _) (by kernel_rfl) _
   clear hK K_;try walk_nrm
   refine .opV termsS rfl (by rfl) hk ?_;try walk_nrm
   refine .op rfl (by rfl) hk fun w1 hR K_ hK=>?_;replace hF:=hF.rely hR;clear hR;have hc:World.cell? w1 ⟨ub,uo+j*3,none⟩=some (.int .i64 1):=(hF.cell _).trans (c0);go_simp;try (unfold stored;go_simp)
   refine hK _ _ ⟨?_,?_⟩
   ·exact listed_ok plain (slots_noSlots plain Try.func5 (by kernel_rfl) _) (by kernel_rfl) _
   clear hK K_;clear hc;try walk_nrm
   refine .opV termsS rfl (by rfl) hk ?_;try walk_nrm
   repeat refine .c1 termsS rfl ?_
   refine GoesW.condT termsS (by first|rfl|simp [Act.eval]) ?_;repeat refine .c1 termsS rfl ?_
   refine .regionL termsS [0,1,2,3,4,5,6,7,8,9] (by rfl) ?_;iterate 2 (refine .opV termsS rfl (by rfl) hk ?_;try walk_nrm)
   refine .op rfl (by rfl) hk fun w1 hR K_ hK=>?_;replace hF:=hF.rely hR;clear hR;have hc:World.cell? w1 ⟨G0,0,none⟩=some (.slice (some ⟨ub,uo,none⟩) E.length cu):=(hF.cell _).trans (rB.cell (j:=0) (by omega));go_simp;try (unfold stored;go_simp)
   refine hK _ _ ⟨?_,?_⟩
   ·exact listed_ok plain (slots_noSlots plain Try.func5 (by kernel_rfl) _) (by kernel_rfl) _
   clear hK K_;clear hc;try walk_nrm
   refine .opV termsS rfl (by rfl) hk ?_;try walk_nrm
   refine .op rfl (by rfl) hk fun w1 hR K_ hK=>?_;replace hF:=hF.rely hR;clear hR;go_simp;try (unfold stored;go_simp)
   refine hK _ _ ⟨?_,?_⟩
   ·exact listed_ok plain (slots_noSlots plain Try.func5 (by kernel_rfl) _) (by kernel_rfl) _
   clear hK K_;try walk_nrm
   refine .opV termsS rfl (by rfl) hk ?_;try walk_nrm
   refine .op rfl (by rfl) hk fun w1 hR K_ hK=>?_;replace hF:=hF.rely hR;clear hR;have hc:World.cell? w1 ⟨ub,uo+j*3+1,none⟩=some (.int .i64 x1):=(hF.cell _).trans (c1);go_simp;try (unfold stored;go_simp)
   refine hK _ _ ⟨?_,?_⟩
   ·exact listed_ok plain (slots_noSlots plain Try.func5 (by kernel_rfl) _) (by kernel_rfl) _
   clear hK K_;clear hc;try walk_nrm
   refine .op rfl (by rfl) hk fun w1 hR K_ hK=>?_;replace hF:=hF.rely hR;clear hR;go_simp;try (unfold stored;go_simp)
   refine hK _ _ ⟨?_,?_⟩
   ·exact listed_ok plain (slots_noSlots plain Try.func5 (by kernel_rfl) _) (by kernel_rfl) _
   clear hK K_;have hz:=hF.size;replace hF:Is (w.alloc (.cells (([x1]:List Int).map (Value.int .i64 ·)).toArray 2)) (w1.alloc (.cells #[.int .i64 x1] 2)):=hF.alloc _;rw [hz];generalize w1.alloc (.cells #[.int .i64 x1] 2)=w2 at *;clear hz;try walk_nrm
   have hvA:=hv.alloc (.cells (([x1]:List Int).map (Value.int .i64 ·)).toArray 2);have hBA:=hB.alloc hB.size (.cells (([x1]:List Int).map (Value.int .i64 ·)).toArray 2);have rA:=ints_row w [x1] 2;clear hv;generalize w.alloc (.cells (([x1]:List Int).map (Value.int .i64 ·)).toArray 2)=wA at *;generalize w.heap.size=G at *;refine .op rfl (by rfl) hk fun w1 hR K_ hK=>?_;obtain ⟨d,rfl⟩:=hF.rely hR;clear hF hR;obtain ⟨v',wg,hrun,hown,hgrow⟩:=own_append (w:=wA.at d) hvA [x1] (m:=1) rfl (RowF.of_heap (w':=wA.at d) rA rfl) (by have:=HN.out;omega) (by exact hBA.size) 56;refine uponK_append (.tmp 167) (.tmp 174) 56 rfl rfl rfl hrun (hK _ _ ⟨by exact listed_ok plain (slots_noSlots plain Try.func5 (by kernel_rfl) _) (by kernel_rfl) _,?_⟩);clear hK K_ hrun;have hBg:Below W1.heap.size W1 wg:=grown_below (w:=wA.at d) ⟨hBA.os,hBA.tape,hBA.output,hBA.size,hBA.block⟩ hvA hgrow (Nat.le_refl _) hBA.size;clear hgrow hvA hBA rA hB;have hF:=Is.self wg;rw [←List.map_append,←HT2.out] at hown;obtain ⟨p',c',rfl⟩:=own_form hown;have HN2:Hid (ng+1≤j+1):=show ng+1≤j+1 by have:=HN.out;omega
   try walk_nrm
   refine .opV termsS rfl (by rfl) hk ?_;try walk_nrm
   repeat refine .c1 termsS rfl ?_
   refine .regionL termsS [0,1,2] (by rfl) ?_;iterate 2 (refine .opV termsS rfl (by rfl) hk ?_;try walk_nrm)
   try rw [hwr]
   refine .opV termsS rfl (by rfl) hk ?_;try walk_nrm
   repeat refine .c1 termsS rfl ?_
   refine GoesW.inLoop termsS ?_;refine .stop rfl fun w1 hR=>?_;obtain ⟨d,rfl⟩:=hF.rely hR;clear hF hR;exact ih (j+1) p' c' (ng+1) _ _ _ _ _ _ _ _ _ _ _ _ _ _ _ _ _ _ _ _ _ _ _ _ _ _ _ _ _ _ _ _ _ _ _ _ _ _ _ _ _ _ _ _ _ _ _ _ _ _ _ _ _ _ _ _ _ _ _ _ _ _ _ _ _ _ _ _ _ _ _ _ _ _ _ _ _ _ _ _ _ _ _ _ _ _ _ _ _ _ _ _ _ _ _ _ _ _ _ _ _ _ _ _ _ _ _ _ _ _ _ _ _ _ _ _ _ _ _ _ _ _ _ _ _ _ _ _ _ _ _ _ _ _ _ _ _ _ _ _ _ _ _ _ _ _ _ _ _ _ _ _ _ _ _ _ _ _ _ _ _ _ _ _ _ _ _ _ _ _ _ _ _ _ _ _ _ _ _ _ _ _ _ _ _ _ _ _ _ _ _ _ (by omega) HN2 ⟨hBg.os,hBg.tape,hBg.output,hBg.size,hBg.block⟩ hown hp
  ·have HT2:Hid (saids (E.take (j+1))=saids (E.take j)):=HT.out.trans (by rw [if_neg h1,List.append_nil]);have HN2:Hid (ng≤j+1):=show ng≤j+1 by have:=HN.out;omega
   refine RunsB.of_goes ?_;have hF:=Is.self w;repeat refine .c1 termsS rfl ?_
   refine .regionL termsS [0,1,2,3,4] (by rfl) ?_;iterate 2 (refine .opV termsS rfl (by rfl) hk ?_;try walk_nrm)
   refine .op rfl (by rfl) hk fun w1 hR K_ hK=>?_;replace hF:=hF.rely hR;clear hR;have hc:World.cell? w1 ⟨G0,0,none⟩=some (.slice (some ⟨ub,uo,none⟩) E.length cu):=(hF.cell _).trans (rB.cell (j:=0) (by omega));go_simp;try (unfold stored;go_simp)
   refine hK _ _ ⟨?_,?_⟩
   ·exact listed_ok plain (slots_noSlots plain Try.func5 (by kernel_rfl) _) (by kernel_rfl) _
   clear hK K_;clear hc;try walk_nrm
   iterate 2 (refine .opV termsS rfl (by rfl) hk ?_;try walk_nrm)
   repeat refine .c1 termsS rfl ?_
   refine GoesW.condT termsS (by first|rfl|simp [Act.eval,hlt]) ?_;repeat refine .c1 termsS rfl ?_
   refine .regionL termsS [0,1,2,3,4,5,6] (by rfl) ?_;refine .opV termsS rfl (by rfl) hk ?_;try walk_nrm
   refine .op rfl (by rfl) hk fun w1 hR K_ hK=>?_;replace hF:=hF.rely hR;clear hR;have hc:World.cell? w1 ⟨G0,0,none⟩=some (.slice (some ⟨ub,uo,none⟩) E.length cu):=(hF.cell _).trans (rB.cell (j:=0) (by omega));go_simp;try (unfold stored;go_simp)
   refine hK _ _ ⟨?_,?_⟩
   ·exact listed_ok plain (slots_noSlots plain Try.func5 (by kernel_rfl) _) (by kernel_rfl) _
   clear hK K_;clear hc;try walk_nrm
   refine .opV termsS rfl (by rfl) hk ?_;try walk_nrm
   refine .op rfl (by rfl) hk fun w1 hR K_ hK=>?_;replace hF:=hF.rely hR;clear hR;go_simp;try (unfold stored;go_simp)
   refine hK _ _ ⟨?_,?_⟩
   ·exact listed_ok plain (slots_noSlots plain Try.func5 (by kernel_rfl) _) (by kernel_rfl) _
   clear hK K_;try walk_nrm
   refine .opV termsS rfl (by rfl) hk ?_;try walk_nrm
   refine .op rfl (by rfl) hk fun w1 hR K_ hK=>?_;replace hF:=hF.rely hR;clear hR;have hc:World.cell? w1 ⟨ub,uo+j*3,none⟩=some (.int .i64 x0):=(hF.cell _).trans (c0);go_simp;try (unfold stored;go_simp)
   refine hK _ _ ⟨?_,?_⟩
   ·exact listed_ok plain (slots_noSlots plain Try.func5 (by kernel_rfl) _) (by kernel_rfl) _
   clear hK K_;clear hc;try walk_nrm
   refine .opV termsS rfl (by rfl) hk ?_;try walk_nrm
   repeat refine .c1 termsS rfl ?_
   refine GoesW.condF termsS (by first|rfl|simp [Act.eval,h1]) ?_;rw [←HT2.out] at hv;repeat refine .c1 termsS rfl ?_
   refine .regionL termsS [0,1,2] (by rfl) ?_;iterate 2 (refine .opV termsS rfl (by rfl) hk ?_;try walk_nrm)
   try rw [hwr]
   refine .opV termsS rfl (by rfl) hk ?_;try walk_nrm
   repeat refine .c1 termsS rfl ?_
   refine GoesW.inLoop termsS ?_;refine .stop rfl fun w1 hR=>?_;obtain ⟨d,rfl⟩:=hF.rely hR;clear hF hR;exact ih (j+1) pg cg ng _ _ _ _ _ _ _ _ _ _ _ _ _ _ _ _ _ _ _ _ _ _ _ _ _ _ _ _ _ _ _ _ _ _ _ _ _ _ _ _ _ _ _ _ _ _ _ _ _ _ _ _ _ _ _ _ _ _ _ _ _ _ _ _ _ _ _ _ _ _ _ _ _ _ _ _ _ _ _ _ _ _ _ _ _ _ _ _ _ _ _ _ _ _ _ _ _ _ _ _ _ _ _ _ _ _ _ _ _ _ _ _ _ _ _ _ _ _ _ _ _ _ _ _ _ _ _ _ _ _ _ _ _ _ _ _ _ _ _ _ _ _ _ _ _ _ _ _ _ _ _ _ _ _ _ _ _ _ _ _ _ _ _ _ _ _ _ _ _ _ _ _ _ _ _ _ _ _ _ _ _ _ _ _ _ _ _ _ _ _ _ _ (by omega) HN2 ⟨hB.os,hB.tape,hB.output,hB.size,hB.block⟩ hv hp
theorem rl_loopE {m:Nat} {z:Nat→Int} {pg pv:Option Addr} {cg cv:Nat} (hm:m≤1000000) (h1:Sl W1 pg m (fun j=>.int .i64 (z j))) (h2:Sl W1 pv m (fun j=>.int .i64 (z j))) (cs:List Frame) (kk:List Item):
  ∀(rem j:Nat) (w:World) (u0 u1 u2 u3 u4 u5 u7 u8 u9 u10 u11 u12 u13 u14 u15 u17 u18 u19 u20 u21 u22 u23 u25 u27 u28 u29 u30 u31 u32 u33 u34 u35 u36 u37 u38 u39 u40 u41 u42 u43 u44 u45 u46 u47 u48 u49 u50 u51 u52 u53 u54 u55 u56 u57 u58 u59 u60 u61 u62 u63 u64 u65 u66 u67 u68 u69 u70 u71 u72 u73 u74 u75 u76 u77 u78 u79 u80 u81 u82 u83 u84 u85 u86 u87 u88 u89 u90 u91 u92 u93 u94 u95 u96 u97 u98 u99 u100 u101 u102 u103 u104 u105 u106 u107 u108 u109 u110 u111 u112 u113 u114 u115 u116 u117 u118 u119 u120 u121 u122 u123 u124 u125 u126 u127 u128 u129 u130 u131 u132 u133 u134 u135 u136 u137 u138 u139 u140 u141 u142 u143 u144 u145 u146 u147 u148 u149 u150 u151 u152 u153 u154 u155 u156 u157 u158 u159 u160 u161 u162 u163 u164 u165 u166 u167 u168 u169 u170 u171 u172 u173 u174 u175 u176 u177 u178 u179 u180 u181 u182 u183 u184 u185 u186 u187 u188 u189 u190 u191 u192 u193 u194 u195:Value),j+rem=m→Below W1.heap.size W1 w→
   (∀(w':World) (u0 u1 u2 u3 u4 u5 u7 u8 u9 u10 u11 u12 u13 u14 u15 u16 u17 u18 u19 u20 u21 u22 u23 u24 u25 u26 u27 u28 u29 u30 u31 u32 u33 u34 u35 u36 u37 u38 u39 u40 u41 u42 u43 u44 u45 u46 u47 u48 u49 u50 u51 u52 u53 u54 u55 u56 u57 u58 u59 u60 u61 u62 u63 u64 u65 u66 u67 u68 u69 u70 u71 u72 u73 u74 u75 u76 u77 u78 u79 u80 u81 u82 u83 u84 u85 u86 u87 u88 u89 u90 u91 u92 u93 u94 u95 u96 u97 u98 u99 u100 u101 u102 u103 u104 u105 u106 u107 u108 u109 u110 u111 u112 u113 u114 u115 u116 u117 u118 u119 u120 u121 u122 u123 u124 u125 u126 u127 u128 u129 u130 u131 u132 u133 u134 u135 u136 u137 u138 u139 u140 u141 u142 u143 u144 u145 u146 u147 u148 u149 u150 u151 u152 u153 u154 u155 u156 u157 u158 u159 u160 u161 u162 u163 u164 u165 u166 u167 u168 u169 u170 u171 u172 u173 u174 u175 u176 u177 u178 u179 u180 u181 u182 u183 u184 u185 u186 u187 u188 u189 u190 u191 u192 u193 u194 u195:Value),Below W1.heap.size W1 w'→RunsB Try.prog Post (G ((base 5).at {tmps:=(List.toArray ((u0)::(u1)::(u2)::(u3)::(u4)::(u5)::(.bool false)::(u7)::(u8)::(u9)::(u10)::(u11)::(u12)::(u13)::(u14)::(u15)::(u16)::(u17)::(u18)::(u19)::(u20)::(u21)::(u22)::(u23)::(u24)::(u25)::(u26)::(u27)::(u28)::(u29)::(u30)::(u31)::(u32)::(u33)::(u34)::(u35)::(u36)::(u37)::(u38)::(u39)::(u40)::(u41)::(u42)::(u43)::(u44)::(u45)::(u46)::(u47)::(u48)::(u49)::(u50)::(u51)::(u52)::(u53)::(u54)::(u55)::(u56)::(u57)::(u58)::(u59)::(u60)::(u61)::(u62)::(u63)::(u64)::(u65)::(u66)::(u67)::(u68)::(u69)::(u70)::(u71)::(u72)::(u73)::(u74)::(u75)::(u76)::(u77)::(u78)::(u79)::(u80)::(u81)::(u82)::(u83)::(u84)::(u85)::(u86)::(u87)::(u88)::(u89)::(u90)::(u91)::(u92)::(u93)::(u94)::(u95)::(u96)::(u97)::(u98)::(u99)::(u100)::(u101)::(u102)::(u103)::(u104)::(u105)::(u106)::(u107)::(u108)::(u109)::(u110)::(u111)::(u112)::(u113)::(u114)::(u115)::(u116)::(u117)::(u118)::(u119)::(u120)::(u121)::(u122)::(u123)::(u124)::(u125)::(u126)::(u127)::(u128)::(u129)::(u130)::(u131)::(u132)::(u133)::(u134)::(u135)::(u136)::(u137)::(u138)::(u139)::(u140)::(u141)::(u142)::(u143)::(u144)::(u145)::(u146)::(u147)::(u148)::(u149)::(u150)::(u151)::(u152)::(u153)::(u154)::(u155)::(u156)::(u157)::(u158)::(u159)::(u160)::(u161)::(u162)::(u163)::(u164)::(u165)::(u166)::(u167)::(u168)::(u169)::(u170)::(u171)::(u172)::(u173)::(u174)::(u175)::(u176)::(u177)::(u178)::(u179)::(u180)::(u181)::(u182)::(u183)::(u184)::(u185)::(u186)::(u187)::(u188)::(u189)::(u190)::(u191)::(u192)::(u193)::(u194)::(u195)::[])),defers:=[]} (kk)) cs) w')→
   RunsB Try.prog Post (G ((base 5).at {tmps:=(List.toArray ((u0)::(u1)::(u2)::(u3)::(u4)::(u5)::(.bool false)::(u7)::(u8)::(u9)::(u10)::(u11)::(u12)::(u13)::(u14)::(u15)::(.slice pv (m:Nat) cv)::(u17)::(u18)::(u19)::(u20)::(u21)::(u22)::(u23)::(.slice pg (m:Nat) cg)::(u25)::(.int .i64 j)::(u27)::(u28)::(u29)::(u30)::(u31)::(u32)::(u33)::(u34)::(u35)::(u36)::(u37)::(u38)::(u39)::(u40)::(u41)::(u42)::(u43)::(u44)::(u45)::(u46)::(u47)::(u48)::(u49)::(u50)::(u51)::(u52)::(u53)::(u54)::(u55)::(u56)::(u57)::(u58)::(u59)::(u60)::(u61)::(u62)::(u63)::(u64)::(u65)::(u66)::(u67)::(u68)::(u69)::(u70)::(u71)::(u72)::(u73)::(u74)::(u75)::(u76)::(u77)::(u78)::(u79)::(u80)::(u81)::(u82)::(u83)::(u84)::(u85)::(u86)::(u87)::(u88)::(u89)::(u90)::(u91)::(u92)::(u93)::(u94)::(u95)::(u96)::(u97)::(u98)::(u99)::(u100)::(u101)::(u102)::(u103)::(u104)::(u105)::(u106)::(u107)::(u108)::(u109)::(u110)::(u111)::(u112)::(u113)::(u114)::(u115)::(u116)::(u117)::(u118)::(u119)::(u120)::(u121)::(u122)::(u123)::(u124)::(u125)::(u126)::(u127)::(u128)::(u129)::(u130)::(u131)::(u132)::(u133)::(u134)::(u135)::(u136)::(u137)::(u138)::(u139)::(u140)::(u141)::(u142)::(u143)::(u144)::(u145)::(u146)::(u147)::(u148)::(u149)::(u150)::(u151)::(u152)::(u153)::(u154)::(u155)::(u156)::(u157)::(u158)::(u159)::(u160)::(u161)::(u162)::(u163)::(u164)::(u165)::(u166)::(u167)::(u168)::(u169)::(u170)::(u171)::(u172)::(u173)::(u174)::(u175)::(u176)::(u177)::(u178)::(u179)::(u180)::(u181)::(u182)::(u183)::(u184)::(u185)::(u186)::(u187)::(u188)::(u189)::(u190)::(u191)::(u192)::(u193)::(u194)::(u195)::[])),defers:=[]} (.code rlE::.inLoop rlE::.inBlock 12::kk)) cs) w:=by
 have hk:(base 5).kind≠.early:=by simp [base]
 intro rem;induction rem with
 |zero=>
  intro j w u0 u1 u2 u3 u4 u5 u7 u8 u9 u10 u11 u12 u13 u14 u15 u17 u18 u19 u20 u21 u22 u23 u25 u27 u28 u29 u30 u31 u32 u33 u34 u35 u36 u37 u38 u39 u40 u41 u42 u43 u44 u45 u46 u47 u48 u49 u50 u51 u52 u53 u54 u55 u56 u57 u58 u59 u60 u61 u62 u63 u64 u65 u66 u67 u68 u69 u70 u71 u72 u73 u74 u75 u76 u77 u78 u79 u80 u81 u82 u83 u84 u85 u86 u87 u88 u89 u90 u91 u92 u93 u94 u95 u96 u97 u98 u99 u100 u101 u102 u103 u104 u105 u106 u107 u108 u109 u110 u111 u112 u113 u114 u115 u116 u117 u118 u119 u120 u121 u122 u123 u124 u125 u126 u127 u128 u129 u130 u131 u132 u133 u134 u135 u136 u137 u138 u139 u140 u141 u142 u143 u144 u145 u146 u147 u148 u149 u150 u151 u152 u153 u154 u155 u156 u157 u158 u159 u160 u161 u162 u163 u164 u165 u166 u167 u168 u169 u170 u171 u172 u173 u174 u175 u176 u177 u178 u179 u180 u181 u182 u183 u184 u185 u186 u187 u188 u189 u190 u191 u192 u193 u194 u195 hi hB hp;obtain rfl:j=m:=by omega
  refine RunsB.of_goes ?_;have hF:=Is.self w;repeat refine .c1 termsS rfl ?_
  refine .regionL termsS [0,1,2,3] (by rfl) ?_;iterate 4 (refine .opV termsS rfl (by rfl) hk ?_;try walk_nrm)
  repeat refine .c1 termsS rfl ?_
  refine GoesW.condF termsS (by first|rfl|simp [Act.eval]) ?_;refine GoesW.exit termsS rfl ?_;refine .stop rfl fun w1 hR=>?_;obtain ⟨d,rfl⟩:=hF.rely hR;clear hF hR;exact hp _ _ _ _ _ _ _ _ _ _ _ _ _ _ _ _ _ _ _ _ _ _ _ _ _ _ _ _ _ _ _ _ _ _ _ _ _ _ _ _ _ _ _ _ _ _ _ _ _ _ _ _ _ _ _ _ _ _ _ _ _ _ _ _ _ _ _ _ _ _ _ _ _ _ _ _ _ _ _ _ _ _ _ _ _ _ _ _ _ _ _ _ _ _ _ _ _ _ _ _ _ _ _ _ _ _ _ _ _ _ _ _ _ _ _ _ _ _ _ _ _ _ _ _ _ _ _ _ _ _ _ _ _ _ _ _ _ _ _ _ _ _ _ _ _ _ _ _ _ _ _ _ _ _ _ _ _ _ _ _ _ _ _ _ _ _ _ _ _ _ _ _ _ _ _ _ _ _ _ _ _ _ _ _ _ _ _ _ _ _ _ _ _ _ _ _ ⟨hB.os,hB.tape,hB.output,hB.size,hB.block⟩
 |succ rem ih=>
  intro j w u0 u1 u2 u3 u4 u5 u7 u8 u9 u10 u11 u12 u13 u14 u15 u17 u18 u19 u20 u21 u22 u23 u25 u27 u28 u29 u30 u31 u32 u33 u34 u35 u36 u37 u38 u39 u40 u41 u42 u43 u44 u45 u46 u47 u48 u49 u50 u51 u52 u53 u54 u55 u56 u57 u58 u59 u60 u61 u62 u63 u64 u65 u66 u67 u68 u69 u70 u71 u72 u73 u74 u75 u76 u77 u78 u79 u80 u81 u82 u83 u84 u85 u86 u87 u88 u89 u90 u91 u92 u93 u94 u95 u96 u97 u98 u99 u100 u101 u102 u103 u104 u105 u106 u107 u108 u109 u110 u111 u112 u113 u114 u115 u116 u117 u118 u119 u120 u121 u122 u123 u124 u125 u126 u127 u128 u129 u130 u131 u132 u133 u134 u135 u136 u137 u138 u139 u140 u141 u142 u143 u144 u145 u146 u147 u148 u149 u150 u151 u152 u153 u154 u155 u156 u157 u158 u159 u160 u161 u162 u163 u164 u165 u166 u167 u168 u169 u170 u171 u172 u173 u174 u175 u176 u177 u178 u179 u180 u181 u182 u183 u184 u185 u186 u187 u188 u189 u190 u191 u192 u193 u194 u195 hi hB hp;have hlt:j<m:=by omega
  have hjI:(j:Int)<(m:Int):=by omega
  have hwr:IntKind.i64.wrap ((j:Int)+1)=((j+1:Nat):Int):=by rw [IntKind.wrap_i64];omega
  obtain ⟨gb,go,rfl,hc⟩:=(h1.below hB).at (show 0<m by omega);obtain ⟨vb,vo,rfl,hc'⟩:=(h2.below hB).at (show 0<m by omega);have c0:=hc j hlt;have c1:=hc' j hlt;clear hc hc';generalize z j=zj at *;refine RunsB.of_goes ?_;have hF:=Is.self w;repeat refine .c1 termsS rfl ?_
  refine .regionL termsS [0,1,2,3] (by rfl) ?_;iterate 4 (refine .opV termsS rfl (by rfl) hk ?_;try walk_nrm)
  repeat refine .c1 termsS rfl ?_
  refine GoesW.condT termsS (by first|rfl|simp [Act.eval,hlt]) ?_;repeat refine .c1 termsS rfl ?_
  refine GoesW.drawnN (S:=Is w) (Die:=fun _ _=>False) termsS drawsS 9 (by rfl) hk (by kernel_rfl) (fun _ _ _ h=>h) (fun _ _ _ h=>h.elim) fun w1 hR=>?_;replace hF:=(hF.rely hR).drew;clear hR;refine anyD_tk termsS 0 (fun _ _ h r=>Is.rely h r) hF ?_;try walk_nrm
  refine anyD_tk termsS 1 (fun _ _ h r=>Is.rely h r) hF ?_;try walk_nrm
  refine anyD_tl termsS 2 rfl (fun _ _ h r=>Is.rely h r) hF ?_ fun _ hw=>⟨run_eq_of (by
   intro K_ hK;go_simp;exact hK),by
   exact listed_ok plain (slots_noSlots plain Try.func5 (by kernel_rfl) _) (by kernel_rfl) _⟩
  try walk_nrm
  refine anyD_tl termsS 3 rfl (fun _ _ h r=>Is.rely h r) hF ?_ fun _ hw=>⟨run_eq_of (by
   intro K_ hK;have hc:World.cell? _ ⟨gb,go+j,none⟩=some (.int .i64 zj):=(hw.cell _).trans (c0);go_simp;exact hK),by
   exact listed_ok plain (slots_noSlots plain Try.func5 (by kernel_rfl) _) (by kernel_rfl) _⟩
  try walk_nrm
  refine anyD_tk termsS 4 (fun _ _ h r=>Is.rely h r) hF ?_;try walk_nrm
  refine anyD_tk termsS 5 (fun _ _ h r=>Is.rely h r) hF ?_;try walk_nrm
  refine anyD_tl termsS 6 rfl (fun _ _ h r=>Is.rely h r) hF ?_ fun _ hw=>⟨run_eq_of (by
   intro K_ hK;go_simp;exact hK),by
   exact listed_ok plain (slots_noSlots plain Try.func5 (by kernel_rfl) _) (by kernel_rfl) _⟩
  try walk_nrm
  refine anyD_tl termsS 7 rfl (fun _ _ h r=>Is.rely h r) hF ?_ fun _ hw=>⟨run_eq_of (by
   intro K_ hK;have hc:World.cell? _ ⟨vb,vo+j,none⟩=some (.int .i64 zj):=(hw.cell _).trans (c1);go_simp;exact hK),by
   exact listed_ok plain (slots_noSlots plain Try.func5 (by kernel_rfl) _) (by kernel_rfl) _⟩
  try walk_nrm
  refine anyD_tk termsS 8 (fun _ _ h r=>Is.rely h r) hF ?_;try walk_nrm
  refine anyD_done (by first|kernel_rfl|decide +kernel) ?_ _;repeat refine .c1 termsS rfl ?_
  refine GoesW.condF termsS (by first|rfl|simp [Act.eval]) ?_;repeat refine .c1 termsS rfl ?_
  refine .regionL termsS [0,1,2] (by rfl) ?_;iterate 2 (refine .opV termsS rfl (by rfl) hk ?_;try walk_nrm)
  try rw [hwr]
  refine .opV termsS rfl (by rfl) hk ?_;try walk_nrm
  repeat refine .c1 termsS rfl ?_
  refine GoesW.inLoop termsS ?_;refine .stop rfl fun w1 hR=>?_;obtain ⟨d,rfl⟩:=hF.rely hR;clear hF hR;exact ih (j+1) _ _ _ _ _ _ _ _ _ _ _ _ _ _ _ _ _ _ _ _ _ _ _ _ _ _ _ _ _ _ _ _ _ _ _ _ _ _ _ _ _ _ _ _ _ _ _ _ _ _ _ _ _ _ _ _ _ _ _ _ _ _ _ _ _ _ _ _ _ _ _ _ _ _ _ _ _ _ _ _ _ _ _ _ _ _ _ _ _ _ _ _ _ _ _ _ _ _ _ _ _ _ _ _ _ _ _ _ _ _ _ _ _ _ _ _ _ _ _ _ _ _ _ _ _ _ _ _ _ _ _ _ _ _ _ _ _ _ _ _ _ _ _ _ _ _ _ _ _ _ _ _ _ _ _ _ _ _ _ _ _ _ _ _ _ _ _ _ _ _ _ _ _ _ _ _ _ _ _ _ _ _ _ _ _ _ _ _ _ _ _ _ _ (by omega) ⟨hB.os,hB.tape,hB.output,hB.size,hB.block⟩ hp
end
end Go.Proofs.Ytdoghgnifkgfdaa.Mute
