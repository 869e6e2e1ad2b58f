import Derived.Test.YtdoghgnifkgfdaaP41
set_option maxRecDepth 100000
set_option maxHeartbeats 16000000
namespace Go.Proofs.Ytdoghgnifkgfdaa.Mute
open Go Go.Conc Go.RowKit
section
variable {Post:Goroutine→World→Prop} {W0:World} {r x f G0 G1:Nat}
theorem an_loop2 (hr:1≤r∧r≤6) (hx:x≤5) (hf:f≤40) (cs:List Frame):
  ∀(rem i:Nat) (p:Option Addr) (c:Nat) (w:World) (u0 u1 u2 u3 u4 u5 u9 u10 u11 u12 u14 u15 u17 u19 u23 u24 u25 u26 u27 u28 u29 u30 u31 u32 u33 u34 u35 u36 u37 u38 u39 u40 u41 u42 u43 u44 u45 u46 u47 u48 u49 u50 u51 u52 u53 u54 u55 u56 u57 u58 u59 u60 u61 u62 u63 u64 u65 u66 u67 u68 u69 u70 u71 u72 u73 u74 u75 u76 u77 u78 u79 u80 u81 u82 u83 u84 u85 u86 u87 u88 u89 u90 u91 u92 u93 u94 u95 u96 u97 u98 u99 u100 u101 u102 u103 u104 u105 u106 u107 u108 u109 u110 u111 u112 u113 u114 u115 u116 u117 u118 u119 u120 u121 u122 u123 u124 u125 u126 u127 u128 u129 u130 u131 u132 u133 u134 u135 u136 u137 u138 u139 u140 u141 u142 u143 u144 u145 u146 u147 u148 u149 u150 u151 u152 u153 u154 u155 u156 u157 u158 u159 u160 u161 u162 u163 u164 u165 u166 u167 u168 u169 u170 u171 u172 u173 u174 u175 u176 u177 u178 u179 u180 u181 u182 u183 u184 u185 u186 u187 u188 u189 u190 u191 u192 u193 u194 u195 u196 u197 u198 u199 u200 u201 u202 u203 u204 u205 u206:Value),i+rem=f→i≤r*(x+1)→Below W0.heap.size W0 w→w.ownsRow W0.heap.size 2 1 (.slice p i c) i ((saidA r x i).map (Value.int .i64 ·))→
   (∀(p:Option Addr) (c:Nat) (w':World) (u0 u1 u2 u3 u4 u5 u9 u10 u11 u12 u14 u15 u17 u19 u22 u23 u24 u25 u26 u27 u28 u29 u30 u31 u32 u33 u34 u35 u36 u37 u38 u39 u40 u41 u42 u43 u44 u45 u46 u47 u48 u49 u50 u51 u52 u53 u54 u55 u56 u57 u58 u59 u60 u61 u62 u63 u64 u65 u66 u67 u68 u69 u70 u71 u72 u73 u74 u75 u76 u77 u78 u79 u80 u81 u82 u83 u84 u85 u86 u87 u88 u89 u90 u91 u92 u93 u94 u95 u96 u97 u98 u99 u100 u101 u102 u103 u104 u105 u106 u107 u108 u109 u110 u111 u112 u113 u114 u115 u116 u117 u118 u119 u120 u121 u122 u123 u124 u125 u126 u127 u128 u129 u130 u131 u132 u133 u134 u135 u136 u137 u138 u139 u140 u141 u142 u143 u144 u145 u146 u147 u148 u149 u150 u151 u152 u153 u154 u155 u156 u157 u158 u159 u160 u161 u162 u163 u164 u165 u166 u167 u168 u169 u170 u171 u172 u173 u174 u175 u176 u177 u178 u179 u180 u181 u182 u183 u184 u185 u186 u187 u188 u189 u190 u191 u192 u193 u194 u195 u196 u197 u198 u199 u200 u201 u202 u203 u204 u205 u206:Value),Below W0.heap.size W0 w'→w'.ownsRow W0.heap.size 2 1 (.slice p (saidA r x f).length c) (saidA r x f).length ((saidA r x f).map (Value.int .i64 ·))→RunsB Try.prog Post (G ((base 6).at {tmps:=(List.toArray ((u0)::(u1)::(u2)::(u3)::(u4)::(u5)::(.bool false)::(.int .i64 r)::(.int .i64 x)::(u9)::(u10)::(u11)::(u12)::(.int .i64 f)::(u14)::(u15)::(.pointer (some ⟨G0,0,none⟩))::(u17)::(.pointer (some ⟨G1,0,none⟩))::(u19)::(.slice p (saidA r x f).length c)::(.slice none 0 0)::(u22)::(u23)::(u24)::(u25)::(u26)::(u27)::(u28)::(u29)::(u30)::(u31)::(u32)::(u33)::(u34)::(u35)::(u36)::(u37)::(u38)::(u39)::(u40)::(u41)::(u42)::(u43)::(u44)::(u45)::(u46)::(u47)::(u48)::(u49)::(u50)::(u51)::(u52)::(u53)::(u54)::(u55)::(u56)::(u57)::(u58)::(u59)::(u60)::(u61)::(u62)::(u63)::(u64)::(u65)::(u66)::(u67)::(u68)::(u69)::(u70)::(u71)::(u72)::(u73)::(u74)::(u75)::(u76)::(u77)::(u78)::(u79)::(u80)::(u81)::(u82)::(u83)::(u84)::(u85)::(u86)::(u87)::(u88)::(u89)::(u90)::(u91)::(u92)::(u93)::(u94)::(u95)::(u96)::(u97)::(u98)::(u99)::(u100)::(u101)::(u102)::(u103)::(u104)::(u105)::(u106)::(u107)::(u108)::(u109)::(u110)::(u111)::(u112)::(u113)::(u114)::(u115)::(u116)::(u117)::(u118)::(u119)::(u120)::(u121)::(u122)::(u123)::(u124)::(u125)::(u126)::(u127)::(u128)::(u129)::(u130)::(u131)::(u132)::(u133)::(u134)::(u135)::(u136)::(u137)::(u138)::(u139)::(u140)::(u141)::(u142)::(u143)::(u144)::(u145)::(u146)::(u147)::(u148)::(u149)::(u150)::(u151)::(u152)::(u153)::(u154)::(u155)::(u156)::(u157)::(u158)::(u159)::(u160)::(u161)::(u162)::(u163)::(u164)::(u165)::(u166)::(u167)::(u168)::(u169)::(u170)::(u171)::(u172)::(u173)::(u174)::(u175)::(u176)::(u177)::(u178)::(u179)::(u180)::(u181)::(u182)::(u183)::(u184)::(u185)::(u186)::(u187)::(u188)::(u189)::(u190)::(u191)::(u192)::(u193)::(u194)::(u195)::(u196)::(u197)::(u198)::(u199)::(u200)::(u201)::(u202)::(u203)::(u204)::(u205)::(u206)::[])),defers:=[]} [.code anR2]) cs) w')→
   RunsB Try.prog Post (G ((base 6).at {tmps:=(List.toArray ((u0)::(u1)::(u2)::(u3)::(u4)::(u5)::(.bool false)::(.int .i64 r)::(.int .i64 x)::(u9)::(u10)::(u11)::(u12)::(.int .i64 f)::(u14)::(u15)::(.pointer (some ⟨G0,0,none⟩))::(u17)::(.pointer (some ⟨G1,0,none⟩))::(u19)::(.slice p i c)::(.slice none 0 0)::(.int .i64 i)::(u23)::(u24)::(u25)::(u26)::(u27)::(u28)::(u29)::(u30)::(u31)::(u32)::(u33)::(u34)::(u35)::(u36)::(u37)::(u38)::(u39)::(u40)::(u41)::(u42)::(u43)::(u44)::(u45)::(u46)::(u47)::(u48)::(u49)::(u50)::(u51)::(u52)::(u53)::(u54)::(u55)::(u56)::(u57)::(u58)::(u59)::(u60)::(u61)::(u62)::(u63)::(u64)::(u65)::(u66)::(u67)::(u68)::(u69)::(u70)::(u71)::(u72)::(u73)::(u74)::(u75)::(u76)::(u77)::(u78)::(u79)::(u80)::(u81)::(u82)::(u83)::(u84)::(u85)::(u86)::(u87)::(u88)::(u89)::(u90)::(u91)::(u92)::(u93)::(u94)::(u95)::(u96)::(u97)::(u98)::(u99)::(u100)::(u101)::(u102)::(u103)::(u104)::(u105)::(u106)::(u107)::(u108)::(u109)::(u110)::(u111)::(u112)::(u113)::(u114)::(u115)::(u116)::(u117)::(u118)::(u119)::(u120)::(u121)::(u122)::(u123)::(u124)::(u125)::(u126)::(u127)::(u128)::(u129)::(u130)::(u131)::(u132)::(u133)::(u134)::(u135)::(u136)::(u137)::(u138)::(u139)::(u140)::(u141)::(u142)::(u143)::(u144)::(u145)::(u146)::(u147)::(u148)::(u149)::(u150)::(u151)::(u152)::(u153)::(u154)::(u155)::(u156)::(u157)::(u158)::(u159)::(u160)::(u161)::(u162)::(u163)::(u164)::(u165)::(u166)::(u167)::(u168)::(u169)::(u170)::(u171)::(u172)::(u173)::(u174)::(u175)::(u176)::(u177)::(u178)::(u179)::(u180)::(u181)::(u182)::(u183)::(u184)::(u185)::(u186)::(u187)::(u188)::(u189)::(u190)::(u191)::(u192)::(u193)::(u194)::(u195)::(u196)::(u197)::(u198)::(u199)::(u200)::(u201)::(u202)::(u203)::(u204)::(u205)::(u206)::[])),defers:=[]} [.code anB2,.inLoop anB2,.inBlock 2,.code anR2]) cs) w:=by
 have hk:(base 6).kind≠.early:=by simp [base]
 intro rem;induction rem with
 |zero=>
  intro i p c w u0 u1 u2 u3 u4 u5 u9 u10 u11 u12 u14 u15 u17 u19 u23 u24 u25 u26 u27 u28 u29 u30 u31 u32 u33 u34 u35 u36 u37 u38 u39 u40 u41 u42 u43 u44 u45 u46 u47 u48 u49 u50 u51 u52 u53 u54 u55 u56 u57 u58 u59 u60 u61 u62 u63 u64 u65 u66 u67 u68 u69 u70 u71 u72 u73 u74 u75 u76 u77 u78 u79 u80 u81 u82 u83 u84 u85 u86 u87 u88 u89 u90 u91 u92 u93 u94 u95 u96 u97 u98 u99 u100 u101 u102 u103 u104 u105 u106 u107 u108 u109 u110 u111 u112 u113 u114 u115 u116 u117 u118 u119 u120 u121 u122 u123 u124 u125 u126 u127 u128 u129 u130 u131 u132 u133 u134 u135 u136 u137 u138 u139 u140 u141 u142 u143 u144 u145 u146 u147 u148 u149 u150 u151 u152 u153 u154 u155 u156 u157 u158 u159 u160 u161 u162 u163 u164 u165 u166 u167 u168 u169 u170 u171 u172 u173 u174 u175 u176 u177 u178 u179 u180 u181 u182 u183 u184 u185 u186 u187 u188 u189 u190 u191 u192 u193 u194 u195 u196 u197 u198 u199 u200 u201 u202 u203 u204 u205 u206 hi hir hB hv hp;obtain rfl:i=f:=by omega
  refine RunsB.of_goes ?_;have hF:=Is.self w;have hl:=saidA_len r x i hir;repeat refine .c1 termsS rfl ?_
  refine .regionL termsS [0,1,2,3,4,5,6,7,8,9,10] (by rfl) ?_;refine .op rfl (by rfl) hk fun w1 hR K_ hK=>?_;replace hF:=hF.rely hR;clear hR;go_simp;try (unfold stored;go_simp)
  refine hK _ _ ⟨?_,?_⟩
  ·exact listed_ok plain (slots_noSlots plain Try.func6 (by kernel_rfl) _) (by kernel_rfl) _
  clear hK K_;try walk_nrm
  refine .op rfl (by rfl) hk fun w1 hR K_ hK=>?_;replace hF:=hF.rely hR;clear hR;go_simp;try (unfold stored;go_simp)
  refine hK _ _ ⟨?_,?_⟩
  ·exact listed_ok plain (slots_noSlots plain Try.func6 (by kernel_rfl) _) (by kernel_rfl) _
  clear hK K_;try walk_nrm
  refine .op rfl (by rfl) hk fun w1 hR K_ hK=>?_;replace hF:=hF.rely hR;clear hR;go_simp;try (unfold stored;go_simp)
  refine hK _ _ ⟨?_,?_⟩
  ·exact listed_ok plain (slots_noSlots plain Try.func6 (by kernel_rfl) _) (by kernel_rfl) _
  clear hK K_;try walk_nrm
  refine .op rfl (by rfl) hk fun w1 hR K_ hK=>?_;replace hF:=hF.rely hR;clear hR;go_simp;try (unfold stored;go_simp)
  refine hK _ _ ⟨?_,?_⟩
  ·exact listed_ok plain (slots_noSlots plain Try.func6 (by kernel_rfl) _) (by kernel_rfl) _
  clear hK K_;try walk_nrm
  iterate 6 (refine GoesW.unwanted termsS rfl (by rfl) ?_;try walk_nrm)
  refine .op rfl (by rfl) hk fun w1 hR K_ hK=>?_;replace hF:=hF.rely hR;clear hR;go_simp;try (unfold stored;go_simp)
  refine hK _ _ ⟨?_,?_⟩
  ·exact listed_ok plain (slots_noSlots plain Try.func6 (by kernel_rfl) _) (by kernel_rfl) _
  clear hK K_;try walk_nrm
  repeat refine .c1 termsS rfl ?_
  refine GoesW.condF termsS (by first|rfl|simp [Act.eval]) ?_;refine GoesW.exit termsS rfl ?_;refine .stop rfl fun w1 hR=>?_;obtain ⟨d,rfl⟩:=hF.rely hR;rw [show (Value.slice p i c)=.slice p (saidA r x i).length c by rw [hl]];exact hp p c _ _ _ _ _ _ _ _ _ _ _ _ _ _ _ _ _ _ _ _ _ _ _ _ _ _ _ _ _ _ _ _ _ _ _ _ _ _ _ _ _ _ _ _ _ _ _ _ _ _ _ _ _ _ _ _ _ _ _ _ _ _ _ _ _ _ _ _ _ _ _ _ _ _ _ _ _ _ _ _ _ _ _ _ _ _ _ _ _ _ _ _ _ _ _ _ _ _ _ _ _ _ _ _ _ _ _ _ _ _ _ _ _ _ _ _ _ _ _ _ _ _ _ _ _ _ _ _ _ _ _ _ _ _ _ _ _ _ _ _ _ _ _ _ _ _ _ _ _ _ _ _ _ _ _ _ _ _ _ _ _ _ _ _ _ _ _ _ _ _ _ _ _ _ _ _ _ _ _ _ _ _ _ _ _ _ _ _ _ _ _ _ _ _ _ _ _ _ _ _ ⟨hB.os,hB.tape,hB.output,hB.size,hB.block⟩ (by rw [hl];exact hv)
 |succ rem ih=>
  intro i p c w u0 u1 u2 u3 u4 u5 u9 u10 u11 u12 u14 u15 u17 u19 u23 u24 u25 u26 u27 u28 u29 u30 u31 u32 u33 u34 u35 u36 u37 u38 u39 u40 u41 u42 u43 u44 u45 u46 u47 u48 u49 u50 u51 u52 u53 u54 u55 u56 u57 u58 u59 u60 u61 u62 u63 u64 u65 u66 u67 u68 u69 u70 u71 u72 u73 u74 u75 u76 u77 u78 u79 u80 u81 u82 u83 u84 u85 u86 u87 u88 u89 u90 u91 u92 u93 u94 u95 u96 u97 u98 u99 u100 u101 u102 u103 u104 u105 u106 u107 u108 u109 u110 u111 u112 u113 u114 u115 u116 u117 u118 u119 u120 u121 u122 u123 u124 u125 u126 u127 u128 u129 u130 u131 u132 u133 u134 u135 u136 u137 u138 u139 u140 u141 u142 u143 u144 u145 u146 u147 u148 u149 u150 u151 u152 u153 u154 u155 u156 u157 u158 u159 u160 u161 u162 u163 u164 u165 u166 u167 u168 u169 u170 u171 u172 u173 u174 u175 u176 u177 u178 u179 u180 u181 u182 u183 u184 u185 u186 u187 u188 u189 u190 u191 u192 u193 u194 u195 u196 u197 u198 u199 u200 u201 u202 u203 u204 u205 u206 hi hir hB hv hp;have hlt:i<f:=by omega
  have hli:(i:Int)<(f:Int):=by omega
  obtain ⟨q,HQ⟩:∃q:Nat,Hid (q=r*(x+1)):=⟨_,rfl⟩;have hq36:q≤36:=by rw [HQ.out];exact Nat.mul_le_mul (show r≤6 from hr.2) (show x+1≤6 by omega)
  have hx1:IntKind.i64.wrap ((x:Int)+1)=((x+1:Nat):Int):=by rw [IntKind.wrap_i64];omega
  have hx2:IntKind.i64.wrap ((r:Int)*((x:Int)+1))=(q:Int):=by
   have e:(r:Int)*((x:Int)+1)=(q:Int):=by rw [HQ.out];simp
   rw [e,IntKind.wrap_i64];omega
  have hwr:IntKind.i64.wrap ((i:Int)+1)=((i+1:Nat):Int):=by rw [IntKind.wrap_i64];omega
  have hrz:¬(r:Int)=0:=by omega
  have hrz2:r≠0:=by omega
  obtain ⟨md,HMD⟩:∃md:Nat,Hid (md=i % r):=⟨_,rfl⟩;have hml:i % r<r:=Nat.mod_lt i (show 0<r by omega);have htm:(i:Int).tmod (r:Int)=(md:Int):=by rw [HMD.out,Int.tmod_eq_emod_of_nonneg (by omega)];simp
  have hmd:IntKind.i64.wrap ((md:Int)+1)=(md:Int)+1:=by have:=HMD.out;rw [IntKind.wrap_i64];omega
  rw [←HQ.out] at hir;by_cases hin:i<q
  ·refine RunsB.of_goes ?_;have hF:=Is.self w;repeat refine .c1 termsS rfl ?_
   refine .regionL termsS [0,1,2,3,4,5,6,7,8,9,10] (by rfl) ?_;refine .op rfl (by rfl) hk fun w1 hR K_ hK=>?_;replace hF:=hF.rely hR;clear hR;go_simp;try (unfold stored;go_simp)
   refine hK _ _ ⟨?_,?_⟩
   ·exact listed_ok plain (slots_noSlots plain Try.func6 (by kernel_rfl) _) (by kernel_rfl) _
   clear hK K_;try walk_nrm
   refine .op rfl (by rfl) hk fun w1 hR K_ hK=>?_;replace hF:=hF.rely hR;clear hR;go_simp;try (unfold stored;go_simp)
   refine hK _ _ ⟨?_,?_⟩
   ·exact listed_ok plain (slots_noSlots plain Try.func6 (by kernel_rfl) _) (by kernel_rfl) _
   clear hK K_;try walk_nrm
   refine .op rfl (by rfl) hk fun w1 hR K_ hK=>?_;replace hF:=hF.rely hR;clear hR;go_simp;try (unfold stored;go_simp)
   refine hK _ _ ⟨?_,?_⟩
   ·exact listed_ok plain (slots_noSlots plain Try.func6 (by kernel_rfl) _) (by kernel_rfl) _
   clear hK K_;try walk_nrm
   refine .op rfl (by rfl) hk fun w1 hR K_ hK=>?_;replace hF:=hF.rely hR;clear hR;go_simp;try (unfold stored;go_simp)
   refine hK _ _ ⟨?_,?_⟩
   ·exact listed_ok plain (slots_noSlots plain Try.func6 (by kernel_rfl) _) (by kernel_rfl) _
   clear hK K_;try walk_nrm
   refine .op rfl (by rfl) hk fun w1 hR K_ hK=>?_;replace hF:=hF.rely hR;clear hR;go_simp;try (unfold stored;go_simp)
   refine hK _ _ ⟨?_,?_⟩
   ·exact listed_ok plain (slots_noSlots plain Try.func6 (by kernel_rfl) _) (by kernel_rfl) _
   clear hK K_;try walk_nrm
   refine .op rfl (by rfl) hk fun w1 hR K_ hK=>?_;replace hF:=hF.rely hR;clear hR;go_simp;try (unfold stored;go_simp)
   refine hK _ _ ⟨?_,?_⟩
   ·exact listed_ok plain (slots_noSlots plain Try.func6 (by kernel_rfl) _) (by kernel_rfl) _
   clear hK K_;try walk_nrm
   refine .op rfl (by rfl) hk fun w1 hR K_ hK=>?_;replace hF:=hF.rely hR;clear hR;go_simp;try (unfold stored;go_simp)
   refine hK _ _ ⟨?_,?_⟩
   ·exact listed_ok plain (slots_noSlots plain Try.func6 (by kernel_rfl) _) (by kernel_rfl) _
   clear hK K_;try walk_nrm
   refine .op rfl (by rfl) hk fun w1 hR K_ hK=>?_;replace hF:=hF.rely hR;clear hR;go_simp;try (unfold stored;go_simp)
   refine hK _ _ ⟨?_,?_⟩
   ·exact listed_ok plain (slots_noSlots plain Try.func6 (by kernel_rfl) _) (by kernel_rfl) _
   clear hK K_;try walk_nrm
   try rw [hx1]
   refine .op rfl (by rfl) hk fun w1 hR K_ hK=>?_;replace hF:=hF.rely hR;clear hR;go_simp;try (unfold stored;go_simp)
   refine hK _ _ ⟨?_,?_⟩
   ·exact listed_ok plain (slots_noSlots plain Try.func6 (by kernel_rfl) _) (by kernel_rfl) _
   clear hK K_;try walk_nrm
   try rw [hx2]
   refine .op rfl (by rfl) hk fun w1 hR K_ hK=>?_;replace hF:=hF.rely hR;clear hR;go_simp;try (unfold stored;go_simp)
   refine hK _ _ ⟨?_,?_⟩
   ·exact listed_ok plain (slots_noSlots plain Try.func6 (by kernel_rfl) _) (by kernel_rfl) _
   clear hK K_;try walk_nrm
   refine .op rfl (by rfl) hk fun w1 hR K_ hK=>?_;replace hF:=hF.rely hR;clear hR;go_simp;try (unfold stored;go_simp)
   refine hK _ _ ⟨?_,?_⟩
   ·exact listed_ok plain (slots_noSlots plain Try.func6 (by kernel_rfl) _) (by kernel_rfl) _
   clear hK K_;try walk_nrm
   repeat refine .c1 termsS rfl ?_
   refine GoesW.condT termsS (by first|rfl|simp [Act.eval,hin]) ?_;repeat refine .c1 termsS rfl ?_
   refine .regionL termsS [0,1,2,3,4,5,6,7] (by rfl) ?_;refine .op rfl (by rfl) hk fun w1 hR K_ hK=>?_;replace hF:=hF.rely hR;clear hR;go_simp;try (unfold stored;go_simp)
   refine hK _ _ ⟨?_,?_⟩
   ·exact listed_ok plain (slots_noSlots plain Try.func6 (by kernel_rfl) _) (by kernel_rfl) _
   clear hK K_;try walk_nrm
   refine .op rfl (by rfl) hk fun w1 hR K_ hK=>?_;replace hF:=hF.rely hR;clear hR;go_simp;try (unfold stored;go_simp)
   refine hK _ _ ⟨?_,?_⟩
   ·exact listed_ok plain (slots_noSlots plain Try.func6 (by kernel_rfl) _) (by kernel_rfl) _
   clear hK K_;try walk_nrm
   refine .op rfl (by rfl) hk fun w1 hR K_ hK=>?_;replace hF:=hF.rely hR;clear hR;go_simp;try (unfold stored;go_simp)
   refine hK _ _ ⟨?_,?_⟩
   ·exact listed_ok plain (slots_noSlots plain Try.func6 (by kernel_rfl) _) (by kernel_rfl) _
   clear hK K_;try walk_nrm
   refine .op rfl (by rfl) hk fun w1 hR K_ hK=>?_;replace hF:=hF.rely hR;clear hR;go_simp;try (unfold stored;go_simp)
   refine hK _ _ ⟨?_,?_⟩
   ·exact listed_ok plain (slots_noSlots plain Try.func6 (by kernel_rfl) _) (by kernel_rfl) _
   clear hK K_;try walk_nrm
   try rw [htm]
   refine .op rfl (by rfl) hk fun w1 hR K_ hK=>?_;replace hF:=hF.rely hR;clear hR;go_simp;try (unfold stored;go_simp)
   refine hK _ _ ⟨?_,?_⟩
   ·exact listed_ok plain (slots_noSlots plain Try.func6 (by kernel_rfl) _) (by kernel_rfl) _
   clear hK K_;try walk_nrm
   try rw [hmd]
   refine .op rfl (by rfl) hk fun w1 hR K_ hK=>?_;replace hF:=hF.rely hR;clear hR;go_simp;try (unfold stored;go_simp)
   refine hK _ _ ⟨?_,?_⟩
   ·exact listed_ok plain (slots_noSlots plain Try.func6 (by kernel_rfl) _) (by kernel_rfl) _
   clear hK K_;have hz:=hF.size;replace hF:Is (w.alloc (.cells (([(md:Int)+1]:List Int).map (Value.int .i64 ·)).toArray 2)) (w1.alloc (.cells #[.int .i64 ((md:Int)+1)] 2)):=hF.alloc _;rw [hz];generalize w1.alloc (.cells #[.int .i64 ((md:Int)+1)] 2)=w2 at *;clear hz;have rA:=ints_row w [(md:Int)+1] 2;have hvA:=hv.alloc (.cells (([(md:Int)+1]:List Int).map (Value.int .i64 ·)).toArray 2);have hBA:=hB.alloc hB.size (.cells (([(md:Int)+1]:List Int).map (Value.int .i64 ·)).toArray 2);clear hv;generalize w.alloc (.cells (([(md:Int)+1]:List Int).map (Value.int .i64 ·)).toArray 2)=wA at *;generalize w.heap.size=G at *;try walk_nrm
   refine .op rfl (by rfl) hk fun w1 hR K_ hK=>?_;obtain ⟨d,rfl⟩:=hF.rely hR;clear hF hR;obtain ⟨v',wg,hrun,hown,hgrow⟩:=own_append (w:=wA.at d) hvA [(md:Int)+1] (m:=1) rfl rA (by omega) (by exact hBA.size) 56;refine uponK_append (.tmp 114) (.tmp 119) 56 rfl rfl rfl hrun (hK _ _ ⟨by exact listed_ok plain (slots_noSlots plain Try.func6 (by kernel_rfl) _) (by kernel_rfl) _,?_⟩);have hBg:Below W0.heap.size W0 wg:=grown_below (w:=wA.at d) ⟨hBA.os,hBA.tape,hBA.output,hBA.size,hBA.block⟩ hvA hgrow (Nat.le_refl _) hBA.size;clear hK K_ hrun hgrow hvA hBA rA hB;have hF:=Is.self wg;have e2:i+1=i+1:=by omega
   rw [e2] at hown;obtain ⟨p',c',rfl⟩:=own_form hown;clear e2;try walk_nrm
   have hst:saidA r x (i+1)=saidA r x i++[(md:Int)+1]:=by show _++(if _ then _ else _)=_;rw [if_pos (by have:=HQ.out;omega),HMD.out]
   rw [←List.map_append,←hst] at hown;refine .op rfl (by rfl) hk fun w1 hR K_ hK=>?_;replace hF:=hF.rely hR;clear hR;go_simp;try (unfold stored;go_simp)
   refine hK _ _ ⟨?_,?_⟩
   ·exact listed_ok plain (slots_noSlots plain Try.func6 (by kernel_rfl) _) (by kernel_rfl) _
   clear hK K_;try walk_nrm
   repeat refine .c1 termsS rfl ?_
   refine .regionL termsS [0,1,2] (by rfl) ?_;refine .op rfl (by rfl) hk fun w1 hR K_ hK=>?_;replace hF:=hF.rely hR;clear hR;go_simp;try (unfold stored;go_simp)
   refine hK _ _ ⟨?_,?_⟩
   ·exact listed_ok plain (slots_noSlots plain Try.func6 (by kernel_rfl) _) (by kernel_rfl) _
   clear hK K_;try walk_nrm
   refine .op rfl (by rfl) hk fun w1 hR K_ hK=>?_;replace hF:=hF.rely hR;clear hR;go_simp;try (unfold stored;go_simp)
   refine hK _ _ ⟨?_,?_⟩
   ·exact listed_ok plain (slots_noSlots plain Try.func6 (by kernel_rfl) _) (by kernel_rfl) _
   clear hK K_;try walk_nrm
   refine .op rfl (by rfl) hk fun w1 hR K_ hK=>?_;replace hF:=hF.rely hR;clear hR;go_simp;try (unfold stored;go_simp)
   refine hK _ _ ⟨?_,?_⟩
   ·exact listed_ok plain (slots_noSlots plain Try.func6 (by kernel_rfl) _) (by kernel_rfl) _
   clear hK K_;try walk_nrm
   try rw [hwr]
   repeat refine .c1 termsS rfl ?_
   refine GoesW.inLoop termsS ?_;refine .stop rfl fun w1 hR=>?_;obtain ⟨d,rfl⟩:=hF.rely hR;exact ih (i+1) p' c' _ _ _ _ _ _ _ _ _ _ _ _ _ _ _ _ _ _ _ _ _ _ _ _ _ _ _ _ _ _ _ _ _ _ _ _ _ _ _ _ _ _ _ _ _ _ _ _ _ _ _ _ _ _ _ _ _ _ _ _ _ _ _ _ _ _ _ _ _ _ _ _ _ _ _ _ _ _ _ _ _ _ _ _ _ _ _ _ _ _ _ _ _ _ _ _ _ _ _ _ _ _ _ _ _ _ _ _ _ _ _ _ _ _ _ _ _ _ _ _ _ _ _ _ _ _ _ _ _ _ _ _ _ _ _ _ _ _ _ _ _ _ _ _ _ _ _ _ _ _ _ _ _ _ _ _ _ _ _ _ _ _ _ _ _ _ _ _ _ _ _ _ _ _ _ _ _ _ _ _ _ _ _ _ _ _ _ _ _ _ _ _ _ _ _ _ _ _ _ (by omega) (by rw [←HQ.out];omega) ⟨hBg.os,hBg.tape,hBg.output,hBg.size,hBg.block⟩ hown hp
  ·have HIQ:Hid (i=r*(x+1)):=(by have:=HQ.out;omega:i=r*(x+1));refine RunsB.of_goes ?_;have hF:=Is.self w;have HL:Hid ((saidA r x f).length=i):=show (saidA r x f).length=i by rw [saidA_more r x f (by have:=HIQ.out;omega),saidA_len r x _ (Nat.le_refl _),←HIQ.out]
   have HM:Hid (saidA r x f=saidA r x i):=show saidA r x f=saidA r x i by rw [saidA_more r x f (by have:=HIQ.out;omega),←HIQ.out]
   repeat refine .c1 termsS rfl ?_
   refine .regionL termsS [0,1,2,3,4,5,6,7,8,9,10] (by rfl) ?_;refine .op rfl (by rfl) hk fun w1 hR K_ hK=>?_;replace hF:=hF.rely hR;clear hR;go_simp;try (unfold stored;go_simp)
   refine hK _ _ ⟨?_,?_⟩
   ·exact listed_ok plain (slots_noSlots plain Try.func6 (by kernel_rfl) _) (by kernel_rfl) _
   clear hK K_;try walk_nrm
   refine .op rfl (by rfl) hk fun w1 hR K_ hK=>?_;replace hF:=hF.rely hR;clear hR;go_simp;try (unfold stored;go_simp)
   refine hK _ _ ⟨?_,?_⟩
   ·exact listed_ok plain (slots_noSlots plain Try.func6 (by kernel_rfl) _) (by kernel_rfl) _
   clear hK K_;try walk_nrm
   refine .op rfl (by rfl) hk fun w1 hR K_ hK=>?_;replace hF:=hF.rely hR;clear hR;go_simp;try (unfold stored;go_simp)
   refine hK _ _ ⟨?_,?_⟩
   ·exact listed_ok plain (slots_noSlots plain Try.func6 (by kernel_rfl) _) (by kernel_rfl) _
   clear hK K_;try walk_nrm
   refine .op rfl (by rfl) hk fun w1 hR K_ hK=>?_;replace hF:=hF.rely hR;clear hR;go_simp;try (unfold stored;go_simp)
   refine hK _ _ ⟨?_,?_⟩
   ·exact listed_ok plain (slots_noSlots plain Try.func6 (by kernel_rfl) _) (by kernel_rfl) _
   clear hK K_;try walk_nrm
   refine .op rfl (by rfl) hk fun w1 hR K_ hK=>?_;replace hF:=hF.rely hR;clear hR;go_simp;try (unfold stored;go_simp)
   refine hK _ _ ⟨?_,?_⟩
   ·exact listed_ok plain (slots_noSlots plain Try.func6 (by kernel_rfl) _) (by kernel_rfl) _
   clear hK K_;try walk_nrm
   refine .op rfl (by rfl) hk fun w1 hR K_ hK=>?_;replace hF:=hF.rely hR;clear hR;go_simp;try (unfold stored;go_simp)
   refine hK _ _ ⟨?_,?_⟩
   ·exact listed_ok plain (slots_noSlots plain Try.func6 (by kernel_rfl) _) (by kernel_rfl) _
   clear hK K_;try walk_nrm
   refine .op rfl (by rfl) hk fun w1 hR K_ hK=>?_;replace hF:=hF.rely hR;clear hR;go_simp;try (unfold stored;go_simp)
   refine hK _ _ ⟨?_,?_⟩
   ·exact listed_ok plain (slots_noSlots plain Try.func6 (by kernel_rfl) _) (by kernel_rfl) _
   clear hK K_;try walk_nrm
   refine .op rfl (by rfl) hk fun w1 hR K_ hK=>?_;replace hF:=hF.rely hR;clear hR;go_simp;try (unfold stored;go_simp)
   refine hK _ _ ⟨?_,?_⟩
   ·exact listed_ok plain (slots_noSlots plain Try.func6 (by kernel_rfl) _) (by kernel_rfl) _
   clear hK K_;try walk_nrm
   try rw [hx1]
   refine .op rfl (by rfl) hk fun w1 hR K_ hK=>?_;replace hF:=hF.rely hR;clear hR;go_simp;try (unfold stored;go_simp)
   refine hK _ _ ⟨?_,?_⟩
   ·exact listed_ok plain (slots_noSlots plain Try.func6 (by kernel_rfl) _) (by kernel_rfl) _
   clear hK K_;try walk_nrm
   try rw [hx2]
   refine .op rfl (by rfl) hk fun w1 hR K_ hK=>?_;replace hF:=hF.rely hR;clear hR;go_simp;try (unfold stored;go_simp)
   refine hK _ _ ⟨?_,?_⟩
   ·exact listed_ok plain (slots_noSlots plain Try.func6 (by kernel_rfl) _) (by kernel_rfl) _
   clear hK K_;try walk_nrm
   refine .op rfl (by rfl) hk fun w1 hR K_ hK=>?_;replace hF:=hF.rely hR;clear hR;go_simp;try (unfold stored;go_simp)
   refine hK _ _ ⟨?_,?_⟩
   ·exact listed_ok plain (slots_noSlots plain Try.func6 (by kernel_rfl) _) (by kernel_rfl) _
   clear hK K_;try walk_nrm
   repeat refine .c1 termsS rfl ?_
   refine GoesW.condF termsS (by first|rfl|simp [Act.eval]) ?_;refine GoesW.exit termsS rfl ?_;refine .stop rfl fun w1 hR=>?_;obtain ⟨d,rfl⟩:=hF.rely hR;rw [show (Value.slice p i c)=.slice p (saidA r x f).length c by rw [HL.out]];exact hp p c _ _ _ _ _ _ _ _ _ _ _ _ _ _ _ _ _ _ _ _ _ _ _ _ _ _ _ _ _ _ _ _ _ _ _ _ _ _ _ _ _ _ _ _ _ _ _ _ _ _ _ _ _ _ _ _ _ _ _ _ _ _ _ _ _ _ _ _ _ _ _ _ _ _ _ _ _ _ _ _ _ _ _ _ _ _ _ _ _ _ _ _ _ _ _ _ _ _ _ _ _ _ _ _ _ _ _ _ _ _ _ _ _ _ _ _ _ _ _ _ _ _ _ _ _ _ _ _ _ _ _ _ _ _ _ _ _ _ _ _ _ _ _ _ _ _ _ _ _ _ _ _ _ _ _ _ _ _ _ _ _ _ _ _ _ _ _ _ _ _ _ _ _ _ _ _ _ _ _ _ _ _ _ _ _ _ _ _ _ _ _ _ _ _ _ _ _ _ _ _ ⟨hB.os,hB.tape,hB.output,hB.size,hB.block⟩ (by rw [HL.out,HM.out];exact hv)
end
end Go.Proofs.Ytdoghgnifkgfdaa.Mute
