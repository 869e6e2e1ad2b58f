import Derived.Test.YtdoghgnifkgfdaaP42
set_option maxRecDepth 100000
set_option maxHeartbeats 16000000
namespace Go.Proofs.Ytdoghgnifkgfdaa.Mute
open Go Go.Conc Go.RowKit
section
variable {Post:Goroutine→World→Prop} {W0:World} {k:Ker} {N:NetK} {t:Tab} {st:KSq} {q:Option Addr} {n cq sn tk i:Nat} {vlo:Value}
theorem rl_loopI (l y0:List Int) (ht:tk≤6) (hy:y0.length≤900) (cs:List Frame) (kk:List Item):
  ∀(rem x:Nat) (p pv:Option Addr) (c cv nx ny:Nat) (xs ys:List Int) (w:World) (u1 u2 u3 u4 u5 u9 u10 u11 u12 u14 u19 u21 u22 u23 u24 u25 u26 u27 u28 u29 u30 u31 u32 u33 u34 u35 u36 u37 u38 u39 u40 u41 u42 u43 u44 u45 u46 u47 u48 u49 u50 u51 u52 u53 u54 u55 u56 u57 u58 u59 u60 u61 u62 u63 u64 u65 u66 u67 u68 u69 u70 u71 u72 u73 u74 u75 u76 u77 u78 u79 u80 u81 u82 u83 u84 u85 u86 u87 u88 u89 u90 u91 u92 u93 u94 u95 u96 u97 u98 u99 u100 u101 u102 u103 u104 u105 u106 u107 u108 u109 u110 u111 u112 u113 u114 u115 u116 u117 u118 u119 u120 u121 u122 u123 u124 u125 u126 u127 u128 u129 u130 u131 u132 u133 u134 u135 u136 u137 u138 u139 u140 u141 u142 u143 u144 u145 u146 u147 u148 u149 u150 u151 u152 u153 u154 u155 u156 u157 u158 u159 u160 u161 u162 u163 u164 u165 u166 u167 u168 u169 u170 u171 u172 u173 u174 u175 u176 u177 u178 u179 u180 u181 u182 u183 u184 u185 u186 u187 u188 u189 u190 u191 u192 u193 u194 u195:Value),x+rem=tk→Hid (nx=xs.length)→Hid (ny=ys.length)→Hid (xs=l.drop x)→Hid (ys=y0++heardR x l)→MI W0 k N t st p c xs (.slice pv ny cv) ys w→
   (∀(p pv:Option Addr) (c cv nx ny:Nat) (w':World) (u1 u2 u3 u4 u5 u9 u10 u11 u12 u14 u19 u21 u22 u23 u24 u25 u26 u27 u28 u29 u30 u31 u32 u33 u34 u35 u36 u37 u38 u39 u40 u41 u42 u43 u44 u45 u46 u47 u48 u49 u50 u51 u52 u53 u54 u55 u56 u57 u58 u59 u60 u61 u62 u63 u64 u65 u66 u67 u68 u69 u70 u71 u72 u73 u74 u75 u76 u77 u78 u79 u80 u81 u82 u83 u84 u85 u86 u87 u88 u89 u90 u91 u92 u93 u94 u95 u96 u97 u98 u99 u100 u101 u102 u103 u104 u105 u106 u107 u108 u109 u110 u111 u112 u113 u114 u115 u116 u117 u118 u119 u120 u121 u122 u123 u124 u125 u126 u127 u128 u129 u130 u131 u132 u133 u134 u135 u136 u137 u138 u139 u140 u141 u142 u143 u144 u145 u146 u147 u148 u149 u150 u151 u152 u153 u154 u155 u156 u157 u158 u159 u160 u161 u162 u163 u164 u165 u166 u167 u168 u169 u170 u171 u172 u173 u174 u175 u176 u177 u178 u179 u180 u181 u182 u183 u184 u185 u186 u187 u188 u189 u190 u191 u192 u193 u194 u195:Value),Hid (nx=(l.drop tk).length)→Hid (ny=(y0++heardR tk l).length)→MI W0 k N t st p c (l.drop tk) (.slice pv ny cv) (y0++heardR tk l) w'→RunsB Try.prog Post (G ((base 5).at {tmps:=(List.toArray ((.slice q n cq)::(u1)::(u2)::(u3)::(u4)::(u5)::(.bool false)::(.int .i64 sn)::(.int .i64 tk)::(u9)::(u10)::(u11)::(u12)::(.pointer (some ⟨k.kb,0,none⟩))::(u14)::(.slice p (nx:Nat) c)::(.slice pv (ny:Nat) cv)::(vlo)::(.int .i64 i)::(u19)::(.int .i64 tk)::(u21)::(u22)::(u23)::(u24)::(u25)::(u26)::(u27)::(u28)::(u29)::(u30)::(u31)::(u32)::(u33)::(u34)::(u35)::(u36)::(u37)::(u38)::(u39)::(u40)::(u41)::(u42)::(u43)::(u44)::(u45)::(u46)::(u47)::(u48)::(u49)::(u50)::(u51)::(u52)::(u53)::(u54)::(u55)::(u56)::(u57)::(u58)::(u59)::(u60)::(u61)::(u62)::(u63)::(u64)::(u65)::(u66)::(u67)::(u68)::(u69)::(u70)::(u71)::(u72)::(u73)::(u74)::(u75)::(u76)::(u77)::(u78)::(u79)::(u80)::(u81)::(u82)::(u83)::(u84)::(u85)::(u86)::(u87)::(u88)::(u89)::(u90)::(u91)::(u92)::(u93)::(u94)::(u95)::(u96)::(u97)::(u98)::(u99)::(u100)::(u101)::(u102)::(u103)::(u104)::(u105)::(u106)::(u107)::(u108)::(u109)::(u110)::(u111)::(u112)::(u113)::(u114)::(u115)::(u116)::(u117)::(u118)::(u119)::(u120)::(u121)::(u122)::(u123)::(u124)::(u125)::(u126)::(u127)::(u128)::(u129)::(u130)::(u131)::(u132)::(u133)::(u134)::(u135)::(u136)::(u137)::(u138)::(u139)::(u140)::(u141)::(u142)::(u143)::(u144)::(u145)::(u146)::(u147)::(u148)::(u149)::(u150)::(u151)::(u152)::(u153)::(u154)::(u155)::(u156)::(u157)::(u158)::(u159)::(u160)::(u161)::(u162)::(u163)::(u164)::(u165)::(u166)::(u167)::(u168)::(u169)::(u170)::(u171)::(u172)::(u173)::(u174)::(u175)::(u176)::(u177)::(u178)::(u179)::(u180)::(u181)::(u182)::(u183)::(u184)::(u185)::(u186)::(u187)::(u188)::(u189)::(u190)::(u191)::(u192)::(u193)::(u194)::(u195)::[])),defers:=[]} (kk)) cs) w')→
   RunsB Try.prog Post (G ((base 5).at {tmps:=(List.toArray ((.slice q n cq)::(u1)::(u2)::(u3)::(u4)::(u5)::(.bool false)::(.int .i64 sn)::(.int .i64 tk)::(u9)::(u10)::(u11)::(u12)::(.pointer (some ⟨k.kb,0,none⟩))::(u14)::(.slice p (nx:Nat) c)::(.slice pv (ny:Nat) cv)::(vlo)::(.int .i64 i)::(u19)::(.int .i64 x)::(u21)::(u22)::(u23)::(u24)::(u25)::(u26)::(u27)::(u28)::(u29)::(u30)::(u31)::(u32)::(u33)::(u34)::(u35)::(u36)::(u37)::(u38)::(u39)::(u40)::(u41)::(u42)::(u43)::(u44)::(u45)::(u46)::(u47)::(u48)::(u49)::(u50)::(u51)::(u52)::(u53)::(u54)::(u55)::(u56)::(u57)::(u58)::(u59)::(u60)::(u61)::(u62)::(u63)::(u64)::(u65)::(u66)::(u67)::(u68)::(u69)::(u70)::(u71)::(u72)::(u73)::(u74)::(u75)::(u76)::(u77)::(u78)::(u79)::(u80)::(u81)::(u82)::(u83)::(u84)::(u85)::(u86)::(u87)::(u88)::(u89)::(u90)::(u91)::(u92)::(u93)::(u94)::(u95)::(u96)::(u97)::(u98)::(u99)::(u100)::(u101)::(u102)::(u103)::(u104)::(u105)::(u106)::(u107)::(u108)::(u109)::(u110)::(u111)::(u112)::(u113)::(u114)::(u115)::(u116)::(u117)::(u118)::(u119)::(u120)::(u121)::(u122)::(u123)::(u124)::(u125)::(u126)::(u127)::(u128)::(u129)::(u130)::(u131)::(u132)::(u133)::(u134)::(u135)::(u136)::(u137)::(u138)::(u139)::(u140)::(u141)::(u142)::(u143)::(u144)::(u145)::(u146)::(u147)::(u148)::(u149)::(u150)::(u151)::(u152)::(u153)::(u154)::(u155)::(u156)::(u157)::(u158)::(u159)::(u160)::(u161)::(u162)::(u163)::(u164)::(u165)::(u166)::(u167)::(u168)::(u169)::(u170)::(u171)::(u172)::(u173)::(u174)::(u175)::(u176)::(u177)::(u178)::(u179)::(u180)::(u181)::(u182)::(u183)::(u184)::(u185)::(u186)::(u187)::(u188)::(u189)::(u190)::(u191)::(u192)::(u193)::(u194)::(u195)::[])),defers:=[]} (.code rlI::.inLoop rlI::.inBlock 6::kk)) cs) w:=by
 have hk:(base 5).kind≠.early:=by simp [base]
 intro rem;induction rem with
 |zero=>
  intro x p pv c cv nx ny xs ys w u1 u2 u3 u4 u5 u9 u10 u11 u12 u14 u19 u21 u22 u23 u24 u25 u26 u27 u28 u29 u30 u31 u32 u33 u34 u35 u36 u37 u38 u39 u40 u41 u42 u43 u44 u45 u46 u47 u48 u49 u50 u51 u52 u53 u54 u55 u56 u57 u58 u59 u60 u61 u62 u63 u64 u65 u66 u67 u68 u69 u70 u71 u72 u73 u74 u75 u76 u77 u78 u79 u80 u81 u82 u83 u84 u85 u86 u87 u88 u89 u90 u91 u92 u93 u94 u95 u96 u97 u98 u99 u100 u101 u102 u103 u104 u105 u106 u107 u108 u109 u110 u111 u112 u113 u114 u115 u116 u117 u118 u119 u120 u121 u122 u123 u124 u125 u126 u127 u128 u129 u130 u131 u132 u133 u134 u135 u136 u137 u138 u139 u140 u141 u142 u143 u144 u145 u146 u147 u148 u149 u150 u151 u152 u153 u154 u155 u156 u157 u158 u159 u160 u161 u162 u163 u164 u165 u166 u167 u168 u169 u170 u171 u172 u173 u174 u175 u176 u177 u178 u179 u180 u181 u182 u183 u184 u185 u186 u187 u188 u189 u190 u191 u192 u193 u194 u195 hi HX HY EX EY hM hp;obtain rfl:x=tk:=by omega
  refine RunsB.of_goes ?_;have hF:=Is.self w;repeat refine .c1 termsS rfl ?_
  refine .regionL termsS [0,1,2] (by rfl) ?_;iterate 3 (refine .opV termsS rfl (by rfl) hk ?_;try walk_nrm)
  repeat refine .c1 termsS rfl ?_
  refine GoesW.condF termsS (by first|rfl|simp [Act.eval]) ?_;refine GoesW.exit termsS rfl ?_;refine .stop rfl fun w1 hR=>?_;obtain ⟨d,rfl⟩:=hF.rely hR;clear hF hR;rw [EX.out,EY.out] at hM;rw [EX.out] at HX;rw [EY.out] at HY;exact hp p pv c cv nx ny _ _ _ _ _ _ _ _ _ _ _ _ _ _ _ _ _ _ _ _ _ _ _ _ _ _ _ _ _ _ _ _ _ _ _ _ _ _ _ _ _ _ _ _ _ _ _ _ _ _ _ _ _ _ _ _ _ _ _ _ _ _ _ _ _ _ _ _ _ _ _ _ _ _ _ _ _ _ _ _ _ _ _ _ _ _ _ _ _ _ _ _ _ _ _ _ _ _ _ _ _ _ _ _ _ _ _ _ _ _ _ _ _ _ _ _ _ _ _ _ _ _ _ _ _ _ _ _ _ _ _ _ _ _ _ _ _ _ _ _ _ _ _ _ _ _ _ _ _ _ _ _ _ _ _ _ _ _ _ _ _ _ _ _ _ _ _ _ _ _ _ _ _ _ _ _ _ _ _ _ _ _ _ _ _ _ _ HX HY (hM.at d)
 |succ rem ih=>
  intro x p pv c cv nx ny xs ys w u1 u2 u3 u4 u5 u9 u10 u11 u12 u14 u19 u21 u22 u23 u24 u25 u26 u27 u28 u29 u30 u31 u32 u33 u34 u35 u36 u37 u38 u39 u40 u41 u42 u43 u44 u45 u46 u47 u48 u49 u50 u51 u52 u53 u54 u55 u56 u57 u58 u59 u60 u61 u62 u63 u64 u65 u66 u67 u68 u69 u70 u71 u72 u73 u74 u75 u76 u77 u78 u79 u80 u81 u82 u83 u84 u85 u86 u87 u88 u89 u90 u91 u92 u93 u94 u95 u96 u97 u98 u99 u100 u101 u102 u103 u104 u105 u106 u107 u108 u109 u110 u111 u112 u113 u114 u115 u116 u117 u118 u119 u120 u121 u122 u123 u124 u125 u126 u127 u128 u129 u130 u131 u132 u133 u134 u135 u136 u137 u138 u139 u140 u141 u142 u143 u144 u145 u146 u147 u148 u149 u150 u151 u152 u153 u154 u155 u156 u157 u158 u159 u160 u161 u162 u163 u164 u165 u166 u167 u168 u169 u170 u171 u172 u173 u174 u175 u176 u177 u178 u179 u180 u181 u182 u183 u184 u185 u186 u187 u188 u189 u190 u191 u192 u193 u194 u195 hi HX HY EX EY hM hp;have hlt:x<tk:=by omega
  have hli:(x:Int)<(tk:Int):=by omega
  have hwr:IntKind.i64.wrap ((x:Int)+1)=((x+1:Nat):Int):=by rw [IntKind.wrap_i64];omega
  have HB:Hid (ys.length≤912):=show ys.length≤912 by rw [EY.out,List.length_append,heardR_len];omega
  cases xs with
  |nil=>
   obtain rfl:nx=0:=HX.out;refine RunsB.of_goes ?_;have hF:=Is.self w;repeat refine .c1 termsS rfl ?_
   refine .regionL termsS [0,1,2] (by rfl) ?_;iterate 3 (refine .opV termsS rfl (by rfl) hk ?_;try walk_nrm)
   repeat refine .c1 termsS rfl ?_
   refine GoesW.condT termsS (by first|rfl|simp [Act.eval,hlt]) ?_;repeat refine .c1 termsS rfl ?_
   refine .regionL termsS [0,1,2] (by rfl) ?_;iterate 3 (refine .opV termsS rfl (by rfl) hk ?_;try walk_nrm)
   repeat refine .c1 termsS rfl ?_
   refine GoesW.condF termsS (by first|rfl|simp [Act.eval]) ?_;repeat refine .c1 termsS rfl ?_
   refine .regionL termsS [0,1,2,3] (by rfl) ?_;refine .opV termsS rfl (by rfl) hk ?_;try walk_nrm
   refine .op rfl (by rfl) hk fun w1 hR K_ hK=>?_;replace hF:=hF.rely hR;clear hR;go_simp;try (unfold stored;go_simp)
   refine hK _ _ ⟨?_,?_⟩
   ·exact listed_ok plain (slots_noSlots plain Try.func5 (by kernel_rfl) _) (by kernel_rfl) _
   clear hK K_;have hz:=hF.size;replace hF:Is (w.alloc (.cells (([0,0]:List Int).map (Value.int .i64 ·)).toArray 2)) (w1.alloc (.cells #[.int .i64 0,.int .i64 0] 2)):=hF.alloc _;rw [hz];generalize w1.alloc (.cells #[.int .i64 0,.int .i64 0] 2)=w2 at *;clear hz;try walk_nrm
   refine .op rfl (by rfl) hk fun w1 hR K_ hK=>?_;obtain ⟨d,rfl⟩:=hF.rely hR;clear hF hR;obtain ⟨p',c',wg,hrun,hM2⟩:=hM.more [0,0] (m:=2) rfl (by have:=HB.out;omega) 56 d;refine uponK_append (.tmp 122) (.tmp 123) 56 rfl rfl rfl hrun (hK _ _ ⟨by exact listed_ok plain (slots_noSlots plain Try.func5 (by kernel_rfl) _) (by kernel_rfl) _,?_⟩);clear hK K_ hrun;have hF:=Is.self wg;have EX2:Hid (([]:List Int)=l.drop (x+1)):=show []=l.drop (x+1) by have:=EX.out;rw [List.nil_eq,List.drop_eq_nil_iff] at this ⊢;omega
   have EY2:Hid (ys++[0,0]=y0++heardR (x+1) l):=show ys++[0,0]=_ by rw [EY.out,heardR_nil x l (by have:=EX.out;rw [List.nil_eq,List.drop_eq_nil_iff] at this;omega),List.append_assoc]
   have HY2:Hid (ys.length+2=(ys++[0,0]).length):=by show ys.length+2=(ys++[0,0]).length;simp
   generalize ys.length+2=ny2 at *;try walk_nrm
   refine .opV termsS rfl (by rfl) hk ?_;try walk_nrm
   repeat refine .c1 termsS rfl ?_
   refine .regionL termsS [0,1,2] (by rfl) ?_;iterate 2 (refine .opV termsS rfl (by rfl) hk ?_;try walk_nrm)
   try rw [hwr]
   refine .opV termsS rfl (by rfl) hk ?_;try walk_nrm
   repeat refine .c1 termsS rfl ?_
   refine GoesW.inLoop termsS ?_;refine .stop rfl fun w1 hR=>?_;obtain ⟨d,rfl⟩:=hF.rely hR;clear hF hR;exact ih (x+1) p p' c c' 0 ny2 [] _ _ _ _ _ _ _ _ _ _ _ _ _ _ _ _ _ _ _ _ _ _ _ _ _ _ _ _ _ _ _ _ _ _ _ _ _ _ _ _ _ _ _ _ _ _ _ _ _ _ _ _ _ _ _ _ _ _ _ _ _ _ _ _ _ _ _ _ _ _ _ _ _ _ _ _ _ _ _ _ _ _ _ _ _ _ _ _ _ _ _ _ _ _ _ _ _ _ _ _ _ _ _ _ _ _ _ _ _ _ _ _ _ _ _ _ _ _ _ _ _ _ _ _ _ _ _ _ _ _ _ _ _ _ _ _ _ _ _ _ _ _ _ _ _ _ _ _ _ _ _ _ _ _ _ _ _ _ _ _ _ _ _ _ _ _ _ _ _ _ _ _ _ _ _ _ _ _ _ _ _ _ _ _ _ _ _ _ (by omega) HX HY2 EX2 EY2 (hM2.at d) hp
  |cons a xs=>
   have hpos:0<nx:=by rw [HX.out];simp
   have hposI:(0:Int)<(nx:Int):=by omega
   obtain ⟨g,o,rfl,hcell,hc0⟩:=hM.two.wt.head;have hnc:nx≤c:=by rw [HX.out];exact hM.two.wt.1
   refine RunsB.of_goes ?_;have hF:=Is.self w;repeat refine .c1 termsS rfl ?_
   refine .regionL termsS [0,1,2] (by rfl) ?_;iterate 3 (refine .opV termsS rfl (by rfl) hk ?_;try walk_nrm)
   repeat refine .c1 termsS rfl ?_
   refine GoesW.condT termsS (by first|rfl|simp [Act.eval,hlt]) ?_;repeat refine .c1 termsS rfl ?_
   refine .regionL termsS [0,1,2] (by rfl) ?_;iterate 3 (refine .opV termsS rfl (by rfl) hk ?_;try walk_nrm)
   repeat refine .c1 termsS rfl ?_
   refine GoesW.condT termsS (by first|rfl|simp [Act.eval,hpos]) ?_;repeat refine .c1 termsS rfl ?_
   refine .regionL termsS [0,1,2,3,4,5,6] (by rfl) ?_;iterate 2 (refine .opV termsS rfl (by rfl) hk ?_;try walk_nrm)
   refine .op rfl (by rfl) hk fun w1 hR K_ hK=>?_;replace hF:=hF.rely hR;clear hR;go_simp;try (unfold stored;go_simp)
   refine hK _ _ ⟨?_,?_⟩
   ·exact listed_ok plain (slots_noSlots plain Try.func5 (by kernel_rfl) _) (by kernel_rfl) _
   clear hK K_;try walk_nrm
   refine .op rfl (by rfl) hk fun w1 hR K_ hK=>?_;replace hF:=hF.rely hR;clear hR;have hc:World.cell? w1 ⟨g,o,none⟩=some (.int .i64 a):=(hF.cell _).trans (hcell);go_simp;try (unfold stored;go_simp)
   refine hK _ _ ⟨?_,?_⟩
   ·exact listed_ok plain (slots_noSlots plain Try.func5 (by kernel_rfl) _) (by kernel_rfl) _
   clear hK K_;clear hc;try walk_nrm
   refine .op rfl (by rfl) hk fun w1 hR K_ hK=>?_;replace hF:=hF.rely hR;clear hR;go_simp;try (unfold stored;go_simp)
   refine hK _ _ ⟨?_,?_⟩
   ·exact listed_ok plain (slots_noSlots plain Try.func5 (by kernel_rfl) _) (by kernel_rfl) _
   clear hK K_;have hz:=hF.size;replace hF:Is (w.alloc (.cells (([a,1]:List Int).map (Value.int .i64 ·)).toArray 2)) (w1.alloc (.cells #[.int .i64 a,.int .i64 1] 2)):=hF.alloc _;rw [hz];generalize w1.alloc (.cells #[.int .i64 a,.int .i64 1] 2)=w2 at *;clear hz;try walk_nrm
   refine .op rfl (by rfl) hk fun w1 hR K_ hK=>?_;obtain ⟨d,rfl⟩:=hF.rely hR;clear hF hR;obtain ⟨p',c',wg,hrun,hM2⟩:=hM.more [a,1] (m:=2) rfl (by have:=HB.out;omega) 56 d;refine uponK_append (.tmp 114) (.tmp 118) 56 rfl rfl rfl hrun (hK _ _ ⟨by exact listed_ok plain (slots_noSlots plain Try.func5 (by kernel_rfl) _) (by kernel_rfl) _,?_⟩);clear hK K_ hrun;have hF:=Is.self wg;have EX2:Hid (xs=l.drop (x+1)):=show xs=l.drop (x+1) by have:=congrArg (List.drop 1) EX.out;rw [List.drop_drop] at this;simpa [Nat.add_comm] using this
   have EY2:Hid (ys++[a,1]=y0++heardR (x+1) l):=show ys++[a,1]=_ by rw [EY.out,heardR_cons x l a xs EX.out.symm,List.append_assoc]
   have HX2:Hid (nx-1=xs.length):=show nx-1=xs.length by rw [HX.out];simp
   have HY2:Hid (ys.length+2=(ys++[a,1]).length):=by show ys.length+2=(ys++[a,1]).length;simp
   generalize ys.length+2=ny2 at *;replace hM2:=hM2.tail;try walk_nrm
   refine .opV termsS rfl (by rfl) hk ?_;try walk_nrm
   repeat refine .c1 termsS rfl ?_
   refine .regionL termsS [0,1,2] (by rfl) ?_;refine .opV termsS rfl (by rfl) hk ?_;try walk_nrm
   refine GoesW.opV (v:=.slice (if c=1 then some ⟨g,o,none⟩ else (some (⟨g,o,none⟩:Addr)).map (·.add 1)) (nx-1:Nat) (c-1:Nat)) termsS rfl (by rfl) hk ?_ (fun w₁=>run_tail w₁ rfl rfl rfl hpos hnc);generalize (if c=1 then some (⟨g,o,none⟩:Addr) else (some (⟨g,o,none⟩:Addr)).map (·.add 1))=pz at *;try walk_nrm
   refine .opV termsS rfl (by rfl) hk ?_;try walk_nrm
   repeat refine .c1 termsS rfl ?_
   refine .regionL termsS [0,1,2] (by rfl) ?_;iterate 2 (refine .opV termsS rfl (by rfl) hk ?_;try walk_nrm)
   try rw [hwr]
   refine .opV termsS rfl (by rfl) hk ?_;try walk_nrm
   repeat refine .c1 termsS rfl ?_
   refine GoesW.inLoop termsS ?_;refine .stop rfl fun w1 hR=>?_;obtain ⟨d,rfl⟩:=hF.rely hR;clear hF hR;exact ih (x+1) _ p' _ c' _ ny2 xs _ _ _ _ _ _ _ _ _ _ _ _ _ _ _ _ _ _ _ _ _ _ _ _ _ _ _ _ _ _ _ _ _ _ _ _ _ _ _ _ _ _ _ _ _ _ _ _ _ _ _ _ _ _ _ _ _ _ _ _ _ _ _ _ _ _ _ _ _ _ _ _ _ _ _ _ _ _ _ _ _ _ _ _ _ _ _ _ _ _ _ _ _ _ _ _ _ _ _ _ _ _ _ _ _ _ _ _ _ _ _ _ _ _ _ _ _ _ _ _ _ _ _ _ _ _ _ _ _ _ _ _ _ _ _ _ _ _ _ _ _ _ _ _ _ _ _ _ _ _ _ _ _ _ _ _ _ _ _ _ _ _ _ _ _ _ _ _ _ _ _ _ _ _ _ _ _ _ _ _ _ _ _ _ _ _ _ _ (by omega) HX2 HY2 EX2 EY2 (hM2.at d) hp
theorem rl_loopJ {qb qo:Nat} {v:Int} (l ys:List Int) (hs:sn≤6) (hl:l.length≤4) (hin:i<n) (hsay:W0.cell? ⟨qb,qo+i,none⟩=some (.int .i64 v)) (cs:List Frame) (kk:List Item):
  ∀(rem x lo:Nat) (p pv:Option Addr) (c cv nx ny:Nat) (xs:List Int) (w:World) (u1 u2 u3 u4 u5 u9 u10 u11 u12 u14 u19 u20 u22 u23 u24 u25 u26 u27 u28 u29 u30 u31 u32 u33 u34 u35 u36 u37 u38 u39 u40 u41 u42 u43 u44 u45 u46 u47 u48 u49 u50 u51 u52 u53 u54 u55 u56 u57 u58 u59 u60 u61 u62 u63 u64 u65 u66 u67 u68 u69 u70 u71 u72 u73 u74 u75 u76 u77 u78 u79 u80 u81 u82 u83 u84 u85 u86 u87 u88 u89 u90 u91 u92 u93 u94 u95 u96 u97 u98 u99 u100 u101 u102 u103 u104 u105 u106 u107 u108 u109 u110 u111 u112 u113 u114 u115 u116 u117 u118 u119 u120 u121 u122 u123 u124 u125 u126 u127 u128 u129 u130 u131 u132 u133 u134 u135 u136 u137 u138 u139 u140 u141 u142 u143 u144 u145 u146 u147 u148 u149 u150 u151 u152 u153 u154 u155 u156 u157 u158 u159 u160 u161 u162 u163 u164 u165 u166 u167 u168 u169 u170 u171 u172 u173 u174 u175 u176 u177 u178 u179 u180 u181 u182 u183 u184 u185 u186 u187 u188 u189 u190 u191 u192 u193 u194 u195:Value),x+rem=sn→Hid (nx=xs.length)→Hid (xs=((l++List.replicate x v).take 4))→Hid (lo=l.length+x-4)→MI W0 k N t st p c xs (.slice pv ny cv) ys w→
   (∀(p pv:Option Addr) (c cv nx:Nat) (w':World) (u1 u2 u3 u4 u5 u9 u10 u11 u12 u14 u19 u20 u22 u23 u24 u25 u26 u27 u28 u29 u30 u31 u32 u33 u34 u35 u36 u37 u38 u39 u40 u41 u42 u43 u44 u45 u46 u47 u48 u49 u50 u51 u52 u53 u54 u55 u56 u57 u58 u59 u60 u61 u62 u63 u64 u65 u66 u67 u68 u69 u70 u71 u72 u73 u74 u75 u76 u77 u78 u79 u80 u81 u82 u83 u84 u85 u86 u87 u88 u89 u90 u91 u92 u93 u94 u95 u96 u97 u98 u99 u100 u101 u102 u103 u104 u105 u106 u107 u108 u109 u110 u111 u112 u113 u114 u115 u116 u117 u118 u119 u120 u121 u122 u123 u124 u125 u126 u127 u128 u129 u130 u131 u132 u133 u134 u135 u136 u137 u138 u139 u140 u141 u142 u143 u144 u145 u146 u147 u148 u149 u150 u151 u152 u153 u154 u155 u156 u157 u158 u159 u160 u161 u162 u163 u164 u165 u166 u167 u168 u169 u170 u171 u172 u173 u174 u175 u176 u177 u178 u179 u180 u181 u182 u183 u184 u185 u186 u187 u188 u189 u190 u191 u192 u193 u194 u195:Value),Hid (nx=((l++List.replicate sn v).take 4).length)→MI W0 k N t st p c ((l++List.replicate sn v).take 4) (.slice pv ny cv) ys w'→RunsB Try.prog Post (G ((base 5).at {tmps:=(List.toArray ((.slice (some ⟨qb,qo,none⟩) n cq)::(u1)::(u2)::(u3)::(u4)::(u5)::(.bool false)::(.int .i64 sn)::(.int .i64 tk)::(u9)::(u10)::(u11)::(u12)::(.pointer (some ⟨k.kb,0,none⟩))::(u14)::(.slice p (nx:Nat) c)::(.slice pv (ny:Nat) cv)::(.int .i64 (l.length+sn-4:Nat))::(.int .i64 i)::(u19)::(u20)::(.int .i64 sn)::(u22)::(u23)::(u24)::(u25)::(u26)::(u27)::(u28)::(u29)::(u30)::(u31)::(u32)::(u33)::(u34)::(u35)::(u36)::(u37)::(u38)::(u39)::(u40)::(u41)::(u42)::(u43)::(u44)::(u45)::(u46)::(u47)::(u48)::(u49)::(u50)::(u51)::(u52)::(u53)::(u54)::(u55)::(u56)::(u57)::(u58)::(u59)::(u60)::(u61)::(u62)::(u63)::(u64)::(u65)::(u66)::(u67)::(u68)::(u69)::(u70)::(u71)::(u72)::(u73)::(u74)::(u75)::(u76)::(u77)::(u78)::(u79)::(u80)::(u81)::(u82)::(u83)::(u84)::(u85)::(u86)::(u87)::(u88)::(u89)::(u90)::(u91)::(u92)::(u93)::(u94)::(u95)::(u96)::(u97)::(u98)::(u99)::(u100)::(u101)::(u102)::(u103)::(u104)::(u105)::(u106)::(u107)::(u108)::(u109)::(u110)::(u111)::(u112)::(u113)::(u114)::(u115)::(u116)::(u117)::(u118)::(u119)::(u120)::(u121)::(u122)::(u123)::(u124)::(u125)::(u126)::(u127)::(u128)::(u129)::(u130)::(u131)::(u132)::(u133)::(u134)::(u135)::(u136)::(u137)::(u138)::(u139)::(u140)::(u141)::(u142)::(u143)::(u144)::(u145)::(u146)::(u147)::(u148)::(u149)::(u150)::(u151)::(u152)::(u153)::(u154)::(u155)::(u156)::(u157)::(u158)::(u159)::(u160)::(u161)::(u162)::(u163)::(u164)::(u165)::(u166)::(u167)::(u168)::(u169)::(u170)::(u171)::(u172)::(u173)::(u174)::(u175)::(u176)::(u177)::(u178)::(u179)::(u180)::(u181)::(u182)::(u183)::(u184)::(u185)::(u186)::(u187)::(u188)::(u189)::(u190)::(u191)::(u192)::(u193)::(u194)::(u195)::[])),defers:=[]} (kk)) cs) w')→
   RunsB Try.prog Post (G ((base 5).at {tmps:=(List.toArray ((.slice (some ⟨qb,qo,none⟩) n cq)::(u1)::(u2)::(u3)::(u4)::(u5)::(.bool false)::(.int .i64 sn)::(.int .i64 tk)::(u9)::(u10)::(u11)::(u12)::(.pointer (some ⟨k.kb,0,none⟩))::(u14)::(.slice p (nx:Nat) c)::(.slice pv (ny:Nat) cv)::(.int .i64 (lo:Nat))::(.int .i64 i)::(u19)::(u20)::(.int .i64 x)::(u22)::(u23)::(u24)::(u25)::(u26)::(u27)::(u28)::(u29)::(u30)::(u31)::(u32)::(u33)::(u34)::(u35)::(u36)::(u37)::(u38)::(u39)::(u40)::(u41)::(u42)::(u43)::(u44)::(u45)::(u46)::(u47)::(u48)::(u49)::(u50)::(u51)::(u52)::(u53)::(u54)::(u55)::(u56)::(u57)::(u58)::(u59)::(u60)::(u61)::(u62)::(u63)::(u64)::(u65)::(u66)::(u67)::(u68)::(u69)::(u70)::(u71)::(u72)::(u73)::(u74)::(u75)::(u76)::(u77)::(u78)::(u79)::(u80)::(u81)::(u82)::(u83)::(u84)::(u85)::(u86)::(u87)::(u88)::(u89)::(u90)::(u91)::(u92)::(u93)::(u94)::(u95)::(u96)::(u97)::(u98)::(u99)::(u100)::(u101)::(u102)::(u103)::(u104)::(u105)::(u106)::(u107)::(u108)::(u109)::(u110)::(u111)::(u112)::(u113)::(u114)::(u115)::(u116)::(u117)::(u118)::(u119)::(u120)::(u121)::(u122)::(u123)::(u124)::(u125)::(u126)::(u127)::(u128)::(u129)::(u130)::(u131)::(u132)::(u133)::(u134)::(u135)::(u136)::(u137)::(u138)::(u139)::(u140)::(u141)::(u142)::(u143)::(u144)::(u145)::(u146)::(u147)::(u148)::(u149)::(u150)::(u151)::(u152)::(u153)::(u154)::(u155)::(u156)::(u157)::(u158)::(u159)::(u160)::(u161)::(u162)::(u163)::(u164)::(u165)::(u166)::(u167)::(u168)::(u169)::(u170)::(u171)::(u172)::(u173)::(u174)::(u175)::(u176)::(u177)::(u178)::(u179)::(u180)::(u181)::(u182)::(u183)::(u184)::(u185)::(u186)::(u187)::(u188)::(u189)::(u190)::(u191)::(u192)::(u193)::(u194)::(u195)::[])),defers:=[]} (.code rlJ::.inLoop rlJ::.inBlock 8::kk)) cs) w:=by
 have hk:(base 5).kind≠.early:=by simp [base]
 have hinI:(i:Int)<(n:Int):=by omega
 intro rem;induction rem with
 |zero=>
  intro x lo p pv c cv nx ny xs w u1 u2 u3 u4 u5 u9 u10 u11 u12 u14 u19 u20 u22 u23 u24 u25 u26 u27 u28 u29 u30 u31 u32 u33 u34 u35 u36 u37 u38 u39 u40 u41 u42 u43 u44 u45 u46 u47 u48 u49 u50 u51 u52 u53 u54 u55 u56 u57 u58 u59 u60 u61 u62 u63 u64 u65 u66 u67 u68 u69 u70 u71 u72 u73 u74 u75 u76 u77 u78 u79 u80 u81 u82 u83 u84 u85 u86 u87 u88 u89 u90 u91 u92 u93 u94 u95 u96 u97 u98 u99 u100 u101 u102 u103 u104 u105 u106 u107 u108 u109 u110 u111 u112 u113 u114 u115 u116 u117 u118 u119 u120 u121 u122 u123 u124 u125 u126 u127 u128 u129 u130 u131 u132 u133 u134 u135 u136 u137 u138 u139 u140 u141 u142 u143 u144 u145 u146 u147 u148 u149 u150 u151 u152 u153 u154 u155 u156 u157 u158 u159 u160 u161 u162 u163 u164 u165 u166 u167 u168 u169 u170 u171 u172 u173 u174 u175 u176 u177 u178 u179 u180 u181 u182 u183 u184 u185 u186 u187 u188 u189 u190 u191 u192 u193 u194 u195 hi HX EX HL hM hp;obtain rfl:x=sn:=by omega
  refine RunsB.of_goes ?_;have hF:=Is.self w;repeat refine .c1 termsS rfl ?_
  refine .regionL termsS [0,1,2] (by rfl) ?_;iterate 3 (refine .opV termsS rfl (by rfl) hk ?_;try walk_nrm)
  repeat refine .c1 termsS rfl ?_
  refine GoesW.condF termsS (by first|rfl|simp [Act.eval]) ?_;refine GoesW.exit termsS rfl ?_;refine .stop rfl fun w1 hR=>?_;obtain ⟨d,rfl⟩:=hF.rely hR;clear hF hR;rw [EX.out] at hM HX;obtain rfl:=HL.out;exact hp p pv c cv nx _ _ _ _ _ _ _ _ _ _ _ _ _ _ _ _ _ _ _ _ _ _ _ _ _ _ _ _ _ _ _ _ _ _ _ _ _ _ _ _ _ _ _ _ _ _ _ _ _ _ _ _ _ _ _ _ _ _ _ _ _ _ _ _ _ _ _ _ _ _ _ _ _ _ _ _ _ _ _ _ _ _ _ _ _ _ _ _ _ _ _ _ _ _ _ _ _ _ _ _ _ _ _ _ _ _ _ _ _ _ _ _ _ _ _ _ _ _ _ _ _ _ _ _ _ _ _ _ _ _ _ _ _ _ _ _ _ _ _ _ _ _ _ _ _ _ _ _ _ _ _ _ _ _ _ _ _ _ _ _ _ _ _ _ _ _ _ _ _ _ _ _ _ _ _ _ _ _ _ _ _ _ _ _ _ _ _ HX (hM.at d)
 |succ rem ih=>
  intro x lo p pv c cv nx ny xs w u1 u2 u3 u4 u5 u9 u10 u11 u12 u14 u19 u20 u22 u23 u24 u25 u26 u27 u28 u29 u30 u31 u32 u33 u34 u35 u36 u37 u38 u39 u40 u41 u42 u43 u44 u45 u46 u47 u48 u49 u50 u51 u52 u53 u54 u55 u56 u57 u58 u59 u60 u61 u62 u63 u64 u65 u66 u67 u68 u69 u70 u71 u72 u73 u74 u75 u76 u77 u78 u79 u80 u81 u82 u83 u84 u85 u86 u87 u88 u89 u90 u91 u92 u93 u94 u95 u96 u97 u98 u99 u100 u101 u102 u103 u104 u105 u106 u107 u108 u109 u110 u111 u112 u113 u114 u115 u116 u117 u118 u119 u120 u121 u122 u123 u124 u125 u126 u127 u128 u129 u130 u131 u132 u133 u134 u135 u136 u137 u138 u139 u140 u141 u142 u143 u144 u145 u146 u147 u148 u149 u150 u151 u152 u153 u154 u155 u156 u157 u158 u159 u160 u161 u162 u163 u164 u165 u166 u167 u168 u169 u170 u171 u172 u173 u174 u175 u176 u177 u178 u179 u180 u181 u182 u183 u184 u185 u186 u187 u188 u189 u190 u191 u192 u193 u194 u195 hi HX EX HL hM hp;have hlt:x<sn:=by omega
  have hli:(x:Int)<(sn:Int):=by omega
  have hwr:IntKind.i64.wrap ((x:Int)+1)=((x+1:Nat):Int):=by rw [IntKind.wrap_i64];omega
  have HXL:Hid (nx=min 4 (l.length+x)):=show nx=min 4 (l.length+x) by rw [HX.out,EX.out];simp
  by_cases h4:nx<4
  ·have h4I:(nx:Int)<4:=by omega
   have EX2:Hid (xs++[v]=((l++List.replicate (x+1) v).take 4)):=show xs++[v]=_ by
    have h:=HXL.out;rw [EX.out,List.take_of_length_le (by simp;omega),List.take_of_length_le (by simp;omega),List.replicate_succ',List.append_assoc]
   have HL2:Hid (lo=l.length+(x+1)-4):=show lo=_ by have h:=HXL.out;have h2:=HL.out;omega
   have HX5:Hid (xs.length≤1000):=show xs.length≤1000 by rw [←HX.out];omega
   have hsw:w.cell? ⟨qb,qo+i,none⟩=some (.int .i64 v):=by rw [←hsay];exact World.cell?_of_block (hM.bel.block qb (by have:=cell_lt hsay;exact this))
   refine RunsB.of_goes ?_;have hF:=Is.self w;repeat refine .c1 termsS rfl ?_
   refine .regionL termsS [0,1,2] (by rfl) ?_;iterate 3 (refine .opV termsS rfl (by rfl) hk ?_;try walk_nrm)
   repeat refine .c1 termsS rfl ?_
   refine GoesW.condT termsS (by first|rfl|simp [Act.eval,hlt]) ?_;repeat refine .c1 termsS rfl ?_
   refine .regionL termsS [0,1,2] (by rfl) ?_;iterate 3 (refine .opV termsS rfl (by rfl) hk ?_;try walk_nrm)
   repeat refine .c1 termsS rfl ?_
   refine GoesW.condT termsS (by first|rfl|simp [Act.eval,h4]) ?_;repeat refine .c1 termsS rfl ?_
   refine .regionL termsS [0,1,2,3,4,5,6,7] (by rfl) ?_;iterate 3 (refine .opV termsS rfl (by rfl) hk ?_;try walk_nrm)
   refine .op rfl (by rfl) hk fun w1 hR K_ hK=>?_;replace hF:=hF.rely hR;clear hR;go_simp;try (unfold stored;go_simp)
   refine hK _ _ ⟨?_,?_⟩
   ·exact listed_ok plain (slots_noSlots plain Try.func5 (by kernel_rfl) _) (by kernel_rfl) _
   clear hK K_;try walk_nrm
   refine .op rfl (by rfl) hk fun w1 hR K_ hK=>?_;replace hF:=hF.rely hR;clear hR;have hc:World.cell? w1 ⟨qb,qo+i,none⟩=some (.int .i64 v):=(hF.cell _).trans (hsw);go_simp;try (unfold stored;go_simp)
   refine hK _ _ ⟨?_,?_⟩
   ·exact listed_ok plain (slots_noSlots plain Try.func5 (by kernel_rfl) _) (by kernel_rfl) _
   clear hK K_;clear hc;try walk_nrm
   refine .op rfl (by rfl) hk fun w1 hR K_ hK=>?_;replace hF:=hF.rely hR;clear hR;go_simp;try (unfold stored;go_simp)
   refine hK _ _ ⟨?_,?_⟩
   ·exact listed_ok plain (slots_noSlots plain Try.func5 (by kernel_rfl) _) (by kernel_rfl) _
   clear hK K_;have hz:=hF.size;replace hF:Is (w.alloc (.cells (([v]:List Int).map (Value.int .i64 ·)).toArray 2)) (w1.alloc (.cells #[.int .i64 v] 2)):=hF.alloc _;rw [hz];generalize w1.alloc (.cells #[.int .i64 v] 2)=w2 at *;clear hz;try walk_nrm
   refine .op rfl (by rfl) hk fun w1 hR K_ hK=>?_;obtain ⟨d,rfl⟩:=hF.rely hR;clear hF hR;have HXe:=HX.out;obtain ⟨p',c',wg,hrun,hM2⟩:=hM.push (x:=v) HX5.out 56 d;rw [←HXe] at hrun;clear HXe;refine uponK_append (.tmp 137) (.tmp 142) 56 rfl rfl rfl hrun (hK _ _ ⟨by exact listed_ok plain (slots_noSlots plain Try.func5 (by kernel_rfl) _) (by kernel_rfl) _,?_⟩);clear hK K_ hrun;have hF:=Is.self wg;have HX2:Hid (nx+1=(xs++[v]).length):=by show nx+1=(xs++[v]).length;rw [HX.out];simp
   generalize nx+1=nx2 at *;try walk_nrm
   refine .opV termsS rfl (by rfl) hk ?_;try walk_nrm
   repeat refine .c1 termsS rfl ?_
   refine .regionL termsS [0,1,2] (by rfl) ?_;iterate 2 (refine .opV termsS rfl (by rfl) hk ?_;try walk_nrm)
   try rw [hwr]
   refine .opV termsS rfl (by rfl) hk ?_;try walk_nrm
   repeat refine .c1 termsS rfl ?_
   refine GoesW.inLoop termsS ?_;refine .stop rfl fun w1 hR=>?_;obtain ⟨d,rfl⟩:=hF.rely hR;clear hF hR;exact ih (x+1) lo p' pv c' cv nx2 ny _ _ _ _ _ _ _ _ _ _ _ _ _ _ _ _ _ _ _ _ _ _ _ _ _ _ _ _ _ _ _ _ _ _ _ _ _ _ _ _ _ _ _ _ _ _ _ _ _ _ _ _ _ _ _ _ _ _ _ _ _ _ _ _ _ _ _ _ _ _ _ _ _ _ _ _ _ _ _ _ _ _ _ _ _ _ _ _ _ _ _ _ _ _ _ _ _ _ _ _ _ _ _ _ _ _ _ _ _ _ _ _ _ _ _ _ _ _ _ _ _ _ _ _ _ _ _ _ _ _ _ _ _ _ _ _ _ _ _ _ _ _ _ _ _ _ _ _ _ _ _ _ _ _ _ _ _ _ _ _ _ _ _ _ _ _ _ _ _ _ _ _ _ _ _ _ _ _ _ _ _ _ _ _ _ _ _ _ (by omega) HX2 EX2 HL2 (hM2.at d) hp
  ·have h4I:¬(nx:Int)<4:=by omega
   have EX2:Hid (xs=((l++List.replicate (x+1) v).take 4)):=show xs=_ by
    have h:=HXL.out;have h5:4≤(l++List.replicate x v).length:=by simp;omega
    rw [EX.out,List.replicate_succ',←List.append_assoc];exact (List.take_append_of_le_length h5).symm
   have HL2:Hid (lo+1=l.length+(x+1)-4):=show lo+1=_ by have h:=HXL.out;have h2:=HL.out;omega
   have hlo:IntKind.i64.wrap ((lo:Int)+1)=((lo+1:Nat):Int):=by have h2:=HL.out;rw [IntKind.wrap_i64];omega
   refine RunsB.of_goes ?_;have hF:=Is.self w;repeat refine .c1 termsS rfl ?_
   refine .regionL termsS [0,1,2] (by rfl) ?_;iterate 3 (refine .opV termsS rfl (by rfl) hk ?_;try walk_nrm)
   repeat refine .c1 termsS rfl ?_
   refine GoesW.condT termsS (by first|rfl|simp [Act.eval,hlt]) ?_;repeat refine .c1 termsS rfl ?_
   refine .regionL termsS [0,1,2] (by rfl) ?_;iterate 3 (refine .opV termsS rfl (by rfl) hk ?_;try walk_nrm)
   repeat refine .c1 termsS rfl ?_
   refine GoesW.condF termsS (by first|rfl|(simp [Act.eval];omega)) ?_;repeat refine .c1 termsS rfl ?_
   refine .regionL termsS [0,1,2] (by rfl) ?_;iterate 2 (refine .opV termsS rfl (by rfl) hk ?_;try walk_nrm)
   try rw [hlo]
   refine .opV termsS rfl (by rfl) hk ?_;try walk_nrm
   repeat refine .c1 termsS rfl ?_
   refine .regionL termsS [0,1,2] (by rfl) ?_;iterate 2 (refine .opV termsS rfl (by rfl) hk ?_;try walk_nrm)
   try rw [hwr]
   refine .opV termsS rfl (by rfl) hk ?_;try walk_nrm
   repeat refine .c1 termsS rfl ?_
   refine GoesW.inLoop termsS ?_;refine .stop rfl fun w1 hR=>?_;obtain ⟨d,rfl⟩:=hF.rely hR;clear hF hR;exact ih (x+1) (lo+1) p pv c cv nx ny _ _ _ _ _ _ _ _ _ _ _ _ _ _ _ _ _ _ _ _ _ _ _ _ _ _ _ _ _ _ _ _ _ _ _ _ _ _ _ _ _ _ _ _ _ _ _ _ _ _ _ _ _ _ _ _ _ _ _ _ _ _ _ _ _ _ _ _ _ _ _ _ _ _ _ _ _ _ _ _ _ _ _ _ _ _ _ _ _ _ _ _ _ _ _ _ _ _ _ _ _ _ _ _ _ _ _ _ _ _ _ _ _ _ _ _ _ _ _ _ _ _ _ _ _ _ _ _ _ _ _ _ _ _ _ _ _ _ _ _ _ _ _ _ _ _ _ _ _ _ _ _ _ _ _ _ _ _ _ _ _ _ _ _ _ _ _ _ _ _ _ _ _ _ _ _ _ _ _ _ _ _ _ _ _ _ _ _ (by omega) HX EX2 HL2 (hM.at d) hp
end
end Go.Proofs.Ytdoghgnifkgfdaa.Mute
