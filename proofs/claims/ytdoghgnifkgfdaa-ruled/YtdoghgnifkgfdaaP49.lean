import Derived.Test.YtdoghgnifkgfdaaP48
set_option maxRecDepth 100000
set_option maxHeartbeats 16000000
namespace Go.Proofs.Ytdoghgnifkgfdaa.Mute
open Go Go.Conc Go.RowKit
noncomputable def ruldQ1:Code:=cs2 (cs2 (cs2 (cs2 (cs2 (cs2 (cs2 (cs2 (cs2 (cs2 (ruldBody))))))))))
noncomputable def ruldQ2:Code:=cs2 (cs2 (cs2 (cs2 (cs2 (cs2 (cs2 (cs2 (cs2 (cs2 (cs2 (cs2 (cs2 (cs2 (cs2 (ruldBody)))))))))))))))
noncomputable def ruldQ3:Code:=cs2 (cs2 (cs2 (cs2 (cs2 (cs2 (cs2 (cs2 (cs2 (cs2 (cs2 (cs2 (cs2 (cs2 (cs2 (cs2 (ruldBody))))))))))))))))
theorem act254 (a:Act) (h:a.tmps.size=254) (hd:a.defers=[]):a={tmps:=#[a.tmps.toList.getD 0 undef,a.tmps.toList.getD 1 undef,a.tmps.toList.getD 2 undef,a.tmps.toList.getD 3 undef,a.tmps.toList.getD 4 undef,a.tmps.toList.getD 5 undef,a.tmps.toList.getD 6 undef,a.tmps.toList.getD 7 undef,a.tmps.toList.getD 8 undef,a.tmps.toList.getD 9 undef,a.tmps.toList.getD 10 undef,a.tmps.toList.getD 11 undef,a.tmps.toList.getD 12 undef,a.tmps.toList.getD 13 undef,a.tmps.toList.getD 14 undef,a.tmps.toList.getD 15 undef,a.tmps.toList.getD 16 undef,a.tmps.toList.getD 17 undef,a.tmps.toList.getD 18 undef,a.tmps.toList.getD 19 undef,a.tmps.toList.getD 20 undef,a.tmps.toList.getD 21 undef,a.tmps.toList.getD 22 undef,a.tmps.toList.getD 23 undef,a.tmps.toList.getD 24 undef,a.tmps.toList.getD 25 undef,a.tmps.toList.getD 26 undef,a.tmps.toList.getD 27 undef,a.tmps.toList.getD 28 undef,a.tmps.toList.getD 29 undef,a.tmps.toList.getD 30 undef,a.tmps.toList.getD 31 undef,a.tmps.toList.getD 32 undef,a.tmps.toList.getD 33 undef,a.tmps.toList.getD 34 undef,a.tmps.toList.getD 35 undef,a.tmps.toList.getD 36 undef,a.tmps.toList.getD 37 undef,a.tmps.toList.getD 38 undef,a.tmps.toList.getD 39 undef,a.tmps.toList.getD 40 undef,a.tmps.toList.getD 41 undef,a.tmps.toList.getD 42 undef,a.tmps.toList.getD 43 undef,a.tmps.toList.getD 44 undef,a.tmps.toList.getD 45 undef,a.tmps.toList.getD 46 undef,a.tmps.toList.getD 47 undef,a.tmps.toList.getD 48 undef,a.tmps.toList.getD 49 undef,a.tmps.toList.getD 50 undef,a.tmps.toList.getD 51 undef,a.tmps.toList.getD 52 undef,a.tmps.toList.getD 53 undef,a.tmps.toList.getD 54 undef,a.tmps.toList.getD 55 undef,a.tmps.toList.getD 56 undef,a.tmps.toList.getD 57 undef,a.tmps.toList.getD 58 undef,a.tmps.toList.getD 59 undef,a.tmps.toList.getD 60 undef,a.tmps.toList.getD 61 undef,a.tmps.toList.getD 62 undef,a.tmps.toList.getD 63 undef,a.tmps.toList.getD 64 undef,a.tmps.toList.getD 65 undef,a.tmps.toList.getD 66 undef,a.tmps.toList.getD 67 undef,a.tmps.toList.getD 68 undef,a.tmps.toList.getD 69 undef,a.tmps.toList.getD 70 undef,a.tmps.toList.getD 71 undef,a.tmps.toList.getD 72 undef,a.tmps.toList.getD 73 undef,a.tmps.toList.getD 74 undef,a.tmps.toList.getD 75 undef,a.tmps.toList.getD 76 undef,a.tmps.toList.getD 77 undef,a.tmps.toList.getD 78 undef,a.tmps.toList.getD 79 undef,a.tmps.toList.getD 80 undef,a.tmps.toList.getD 81 undef,a.tmps.toList.getD 82 undef,a.tmps.toList.getD 83 undef,a.tmps.toList.getD 84 undef,a.tmps.toList.getD 85 undef,a.tmps.toList.getD 86 undef,a.tmps.toList.getD 87 undef,a.tmps.toList.getD 88 undef,a.tmps.toList.getD 89 undef,a.tmps.toList.getD 90 undef,a.tmps.toList.getD 91 undef,a.tmps.toList.getD 92 undef,a.tmps.toList.getD 93 undef,a.tmps.toList.getD 94 undef,a.tmps.toList.getD 95 undef,a.tmps.toList.getD 96 undef,a.tmps.toList.getD 97 undef,a.tmps.toList.getD 98 undef,a.tmps.toList.getD 99 undef,a.tmps.toList.getD 100 undef,a.tmps.toList.getD 101 undef,a.tmps.toList.getD 102 undef,a.tmps.toList.getD 103 undef,a.tmps.toList.getD 104 undef,a.tmps.toList.getD 105 undef,a.tmps.toList.getD 106 undef,a.tmps.toList.getD 107 undef,a.tmps.toList.getD 108 undef,a.tmps.toList.getD 109 undef,a.tmps.toList.getD 110 undef,a.tmps.toList.getD 111 undef,a.tmps.toList.getD 112 undef,a.tmps.toList.getD 113 undef,a.tmps.toList.getD 114 undef,a.tmps.toList.getD 115 undef,a.tmps.toList.getD 116 undef,a.tmps.toList.getD 117 undef,a.tmps.toList.getD 118 undef,a.tmps.toList.getD 119 undef,a.tmps.toList.getD 120 undef,a.tmps.toList.getD 121 undef,a.tmps.toList.getD 122 undef,a.tmps.toList.getD 123 undef,a.tmps.toList.getD 124 undef,a.tmps.toList.getD 125 undef,a.tmps.toList.getD 126 undef,a.tmps.toList.getD 127 undef,a.tmps.toList.getD 128 undef,a.tmps.toList.getD 129 undef,a.tmps.toList.getD 130 undef,a.tmps.toList.getD 131 undef,a.tmps.toList.getD 132 undef,a.tmps.toList.getD 133 undef,a.tmps.toList.getD 134 undef,a.tmps.toList.getD 135 undef,a.tmps.toList.getD 136 undef,a.tmps.toList.getD 137 undef,a.tmps.toList.getD 138 undef,a.tmps.toList.getD 139 undef,a.tmps.toList.getD 140 undef,a.tmps.toList.getD 141 undef,a.tmps.toList.getD 142 undef,a.tmps.toList.getD 143 undef,a.tmps.toList.getD 144 undef,a.tmps.toList.getD 145 undef,a.tmps.toList.getD 146 undef,a.tmps.toList.getD 147 undef,a.tmps.toList.getD 148 undef,a.tmps.toList.getD 149 undef,a.tmps.toList.getD 150 undef,a.tmps.toList.getD 151 undef,a.tmps.toList.getD 152 undef,a.tmps.toList.getD 153 undef,a.tmps.toList.getD 154 undef,a.tmps.toList.getD 155 undef,a.tmps.toList.getD 156 undef,a.tmps.toList.getD 157 undef,a.tmps.toList.getD 158 undef,a.tmps.toList.getD 159 undef,a.tmps.toList.getD 160 undef,a.tmps.toList.getD 161 undef,a.tmps.toList.getD 162 undef,a.tmps.toList.getD 163 undef,a.tmps.toList.getD 164 undef,a.tmps.toList.getD 165 undef,a.tmps.toList.getD 166 undef,a.tmps.toList.getD 167 undef,a.tmps.toList.getD 168 undef,a.tmps.toList.getD 169 undef,a.tmps.toList.getD 170 undef,a.tmps.toList.getD 171 undef,a.tmps.toList.getD 172 undef,a.tmps.toList.getD 173 undef,a.tmps.toList.getD 174 undef,a.tmps.toList.getD 175 undef,a.tmps.toList.getD 176 undef,a.tmps.toList.getD 177 undef,a.tmps.toList.getD 178 undef,a.tmps.toList.getD 179 undef,a.tmps.toList.getD 180 undef,a.tmps.toList.getD 181 undef,a.tmps.toList.getD 182 undef,a.tmps.toList.getD 183 undef,a.tmps.toList.getD 184 undef,a.tmps.toList.getD 185 undef,a.tmps.toList.getD 186 undef,a.tmps.toList.getD 187 undef,a.tmps.toList.getD 188 undef,a.tmps.toList.getD 189 undef,a.tmps.toList.getD 190 undef,a.tmps.toList.getD 191 undef,a.tmps.toList.getD 192 undef,a.tmps.toList.getD 193 undef,a.tmps.toList.getD 194 undef,a.tmps.toList.getD 195 undef,a.tmps.toList.getD 196 undef,a.tmps.toList.getD 197 undef,a.tmps.toList.getD 198 undef,a.tmps.toList.getD 199 undef,a.tmps.toList.getD 200 undef,a.tmps.toList.getD 201 undef,a.tmps.toList.getD 202 undef,a.tmps.toList.getD 203 undef,a.tmps.toList.getD 204 undef,a.tmps.toList.getD 205 undef,a.tmps.toList.getD 206 undef,a.tmps.toList.getD 207 undef,a.tmps.toList.getD 208 undef,a.tmps.toList.getD 209 undef,a.tmps.toList.getD 210 undef,a.tmps.toList.getD 211 undef,a.tmps.toList.getD 212 undef,a.tmps.toList.getD 213 undef,a.tmps.toList.getD 214 undef,a.tmps.toList.getD 215 undef,a.tmps.toList.getD 216 undef,a.tmps.toList.getD 217 undef,a.tmps.toList.getD 218 undef,a.tmps.toList.getD 219 undef,a.tmps.toList.getD 220 undef,a.tmps.toList.getD 221 undef,a.tmps.toList.getD 222 undef,a.tmps.toList.getD 223 undef,a.tmps.toList.getD 224 undef,a.tmps.toList.getD 225 undef,a.tmps.toList.getD 226 undef,a.tmps.toList.getD 227 undef,a.tmps.toList.getD 228 undef,a.tmps.toList.getD 229 undef,a.tmps.toList.getD 230 undef,a.tmps.toList.getD 231 undef,a.tmps.toList.getD 232 undef,a.tmps.toList.getD 233 undef,a.tmps.toList.getD 234 undef,a.tmps.toList.getD 235 undef,a.tmps.toList.getD 236 undef,a.tmps.toList.getD 237 undef,a.tmps.toList.getD 238 undef,a.tmps.toList.getD 239 undef,a.tmps.toList.getD 240 undef,a.tmps.toList.getD 241 undef,a.tmps.toList.getD 242 undef,a.tmps.toList.getD 243 undef,a.tmps.toList.getD 244 undef,a.tmps.toList.getD 245 undef,a.tmps.toList.getD 246 undef,a.tmps.toList.getD 247 undef,a.tmps.toList.getD 248 undef,a.tmps.toList.getD 249 undef,a.tmps.toList.getD 250 undef,a.tmps.toList.getD 251 undef,a.tmps.toList.getD 252 undef,a.tmps.toList.getD 253 undef],defers:=[]}:=by
 obtain ⟨⟨l⟩,ds⟩:=a;obtain rfl:ds=[]:=hd;have hl:l.length=254:=h;have e:l=(List.range 254).map fun j=>l.getD j undef:=by
  apply List.ext_getElem?;intro j;by_cases hj:j<254
  ·simp [hj,hl]
  ·simp [hj,hl]
 exact congrArg (fun x=>(⟨⟨x⟩,[]⟩:Act)) e
def BelT (w w':World):Prop:=w'.os=w.os∧w'.output=w.output∧w.heap.size≤w'.heap.size∧∀b,b<w.heap.size→w'.heap[b]?=w.heap[b]?
section
variable {Post:Goroutine→World→Prop} {cs:List Frame} {w:World} {gc gv cell cc nb cb kb ko:Nat} {pb:Option Addr} {lim sf bf:Int}
theorem ruld_t3 (hp:∀(a:Act) (todo:List Item) (v:Value) (w':World),a.defers=[]→(∀d:Nat,Sem.run Try.prog (results Try.f4 a.tmps) (w'.at d)=.ok v (w'.at d))→v=.bool true∧Below w.heap.size w w'→RunsB Try.prog Post (G {(base 4).at a todo with mode:=.returning} cs) w') (wH:World) (hB:Below w.heap.size w wH) (hc4:cell<4) (g0:wH.cell? ⟨gc,0,none⟩=some (.slice (some ⟨kb,ko,none⟩) 4 cc)) (l0:wH.cell? ⟨kb,ko+cell*3+2,none⟩=some (.int .i64 lim)) (v2:wH.cell? ⟨gv,2,none⟩=some (.int .i64 sf)) (v3:wH.cell? ⟨gv,3,none⟩=some (.int .i64 bf)) (v4:wH.cell? ⟨gv,4,none⟩=some (.bool (decide (lim<bf)))) (u0 u1 u2 u3 u4 u5 u6 u9 u10 u12 u14 u15 u16 u21 u22 u23 u24 u25 u26 u27 u28 u29 u30 u31 u32 u33 u34 u35 u36 u37 u38 u39 u40 u41 u42 u43 u44 u45 u46 u47 u48 u49 u50 u51 u52 u53 u54 u55 u56 u57 u58 u59 u60 u61 u62 u63 u64 u65 u66 u67 u68 u69 u70 u71 u72 u73 u74 u75 u76 u77 u78 u79 u80 u81 u82 u83 u84 u85 u86 u87 u88 u89 u90 u91 u92 u93 u94 u95 u96 u97 u98 u99 u100 u101 u102 u103 u104 u105 u106 u107 u108 u109 u110 u111 u112 u113 u114 u115 u116 u117 u118 u119 u120 u121 u122 u123 u124 u125 u126 u127 u128 u129 u130 u131 u132 u133 u134 u135 u136 u137 u138 u139 u140 u141 u142 u143 u144 u145 u146 u147 u148 u149 u150 u151 u152 u153 u154 u155 u156 u157 u158 u159 u160 u161 u162 u163 u164 u165 u166 u167 u168 u169 u170 u171 u172 u173 u174 u175 u176 u177 u178 u179 u180 u181 u182 u183 u184 u185 u186 u187 u188 u189 u190 u191 u192 u193 u194 u195 u196 u197 u198 u199 u200 u201 u202 u203 u204 u205 u206 u207 u208 u209 u210 u211 u212 u213 u214 u215 u216 u217 u218 u219 u220 u221 u222 u223 u224 u225 u226 u227 u228 u229 u230 u231 u232 u233 u234 u235 u236 u237 u238 u239 u240 u241 u242 u243 u244 u245 u246 u247 u248 u249 u250 u251 u252 u253:Value):
  RunsB Try.prog Post (G ((base 4).at {tmps:=#[u0,u1,u2,u3,u4,u5,u6,.pointer (some ⟨gc,0,none⟩),.int .i64 cell,u9,u10,.pointer (some ⟨gv,0,none⟩),u12,.slice pb nb cb,u14,u15,u16,.int .i64 sf,.int .i64 bf,.bool false,.int .i64 nb,u21,u22,u23,u24,u25,u26,u27,u28,u29,u30,u31,u32,u33,u34,u35,u36,u37,u38,u39,u40,u41,u42,u43,u44,u45,u46,u47,u48,u49,u50,u51,u52,u53,u54,u55,u56,u57,u58,u59,u60,u61,u62,u63,u64,u65,u66,u67,u68,u69,u70,u71,u72,u73,u74,u75,u76,u77,u78,u79,u80,u81,u82,u83,u84,u85,u86,u87,u88,u89,u90,u91,u92,u93,u94,u95,u96,u97,u98,u99,u100,u101,u102,u103,u104,u105,u106,u107,u108,u109,u110,u111,u112,u113,u114,u115,u116,u117,u118,u119,u120,u121,u122,u123,u124,u125,u126,u127,u128,u129,u130,u131,u132,u133,u134,u135,u136,u137,u138,u139,u140,u141,u142,u143,u144,u145,u146,u147,u148,u149,u150,u151,u152,u153,u154,u155,u156,u157,u158,u159,u160,u161,u162,u163,u164,u165,u166,u167,u168,u169,u170,u171,u172,u173,u174,u175,u176,u177,u178,u179,u180,u181,u182,u183,u184,u185,u186,u187,u188,u189,u190,u191,u192,u193,u194,u195,u196,u197,u198,u199,u200,u201,u202,u203,u204,u205,u206,u207,u208,u209,u210,u211,u212,u213,u214,u215,u216,u217,u218,u219,u220,u221,u222,u223,u224,u225,u226,u227,u228,u229,u230,u231,u232,u233,u234,u235,u236,u237,u238,u239,u240,u241,u242,u243,u244,u245,u246,u247,u248,u249,u250,u251,u252,u253],defers:=[]} (.code ruldP3::.code ruldQ3::[])) cs) wH:=by
 have hk:(base 4).kind≠.early:=by simp [base]
 refine RunsB.piece plain no_stepOf (Qn:=fun a' w'=>∃(y230 y231 y232 y233 y234 y235 y236 y237 y238 y239 y240 y241 y242 y243 y244 y245 y246 y247 y248 y249 y250 y251 y252 y253:Value),a'={tmps:=#[u0,u1,u2,u3,u4,u5,.bool true,.pointer (some ⟨gc,0,none⟩),.int .i64 cell,u9,u10,.pointer (some ⟨gv,0,none⟩),u12,.slice pb nb cb,u14,u15,u16,.int .i64 sf,.int .i64 bf,.bool false,.int .i64 nb,u21,u22,u23,u24,u25,u26,u27,u28,u29,u30,u31,u32,u33,u34,u35,u36,u37,u38,u39,u40,u41,u42,u43,u44,u45,u46,u47,u48,u49,u50,u51,u52,u53,u54,u55,u56,u57,u58,u59,u60,u61,u62,u63,u64,u65,u66,u67,u68,u69,u70,u71,u72,u73,u74,u75,u76,u77,u78,u79,u80,u81,u82,u83,u84,u85,u86,u87,u88,u89,u90,u91,u92,u93,u94,u95,u96,u97,u98,u99,u100,u101,u102,u103,u104,u105,u106,u107,u108,u109,u110,u111,u112,u113,u114,u115,u116,u117,u118,u119,u120,u121,u122,u123,u124,u125,u126,u127,u128,u129,u130,u131,u132,u133,u134,u135,u136,u137,u138,u139,u140,u141,u142,u143,u144,u145,u146,u147,u148,u149,u150,u151,u152,u153,u154,u155,u156,u157,u158,u159,u160,u161,u162,u163,u164,u165,u166,u167,u168,u169,u170,u171,u172,u173,u174,u175,u176,u177,u178,u179,u180,u181,u182,u183,u184,u185,u186,u187,u188,u189,u190,u191,u192,u193,u194,u195,u196,u197,u198,u199,u200,u201,u202,u203,u204,u205,u206,u207,u208,u209,u210,u211,u212,u213,u214,u215,u216,u217,u218,u219,u220,u221,u222,u223,u224,u225,u226,u227,u228,u229,y230,y231,y232,y233,y234,y235,y236,y237,y238,y239,y240,y241,y242,y243,y244,y245,y246,y247,y248,y249,y250,y251,y252,y253],defers:=[]}∧BelT wH w') (by kernel_rfl) (by kernel_rfl) ⟨_,Try.func4⟩ rfl (slots_noSlots plain Try.func4 (by kernel_rfl) _) rfl (fun τ=>?_) (fun a9 w9 τ9 e9 d9 hq=>?_)
 ·refine Code.wp_mono (fun e a' w' h=>?_) (ruld_P3 (lim:=lim) (sf:=sf) (bf:=bf) (reW wH τ 0) hc4 g0 l0 v2 v3 v4 u0 u1 u2 u3 u4 u5 u6 u9 u10 u12 u14 u15 u16 u21 u22 u23 u24 u25 u26 u27 u28 u29 u30 u31 u32 u33 u34 u35 u36 u37 u38 u39 u40 u41 u42 u43 u44 u45 u46 u47 u48 u49 u50 u51 u52 u53 u54 u55 u56 u57 u58 u59 u60 u61 u62 u63 u64 u65 u66 u67 u68 u69 u70 u71 u72 u73 u74 u75 u76 u77 u78 u79 u80 u81 u82 u83 u84 u85 u86 u87 u88 u89 u90 u91 u92 u93 u94 u95 u96 u97 u98 u99 u100 u101 u102 u103 u104 u105 u106 u107 u108 u109 u110 u111 u112 u113 u114 u115 u116 u117 u118 u119 u120 u121 u122 u123 u124 u125 u126 u127 u128 u129 u130 u131 u132 u133 u134 u135 u136 u137 u138 u139 u140 u141 u142 u143 u144 u145 u146 u147 u148 u149 u150 u151 u152 u153 u154 u155 u156 u157 u158 u159 u160 u161 u162 u163 u164 u165 u166 u167 u168 u169 u170 u171 u172 u173 u174 u175 u176 u177 u178 u179 u180 u181 u182 u183 u184 u185 u186 u187 u188 u189 u190 u191 u192 u193 u194 u195 u196 u197 u198 u199 u200 u201 u202 u203 u204 u205 u206 u207 u208 u209 u210 u211 u212 u213 u214 u215 u216 u217 u218 u219 u220 u221 u222 u223 u224 u225 u226 u227 u228 u229 u230 u231 u232 u233 u234 u235 u236 u237 u238 u239 u240 u241 u242 u243 u244 u245 u246 u247 u248 u249 u250 u251 u252 u253);obtain ⟨he,y230,y231,y232,y233,y234,y235,y236,y237,y238,y239,y240,y241,y242,y243,y244,y245,y246,y247,y248,y249,y250,y251,y252,y253,ha,hb⟩:=h;exact ⟨he,y230,y231,y232,y233,y234,y235,y236,y237,y238,y239,y240,y241,y242,y243,y244,y245,y246,y247,y248,y249,y250,y251,y252,y253,ha,hb.os,hb.output,hb.size,hb.block⟩
 ·obtain ⟨y230,y231,y232,y233,y234,y235,y236,y237,y238,y239,y240,y241,y242,y243,y244,y245,y246,y247,y248,y249,y250,y251,y252,y253,rfl,hb9⟩:=hq;have hBZ:Below wH.heap.size wH (reW w9 wH.tape d9):=⟨hb9.1,rfl,hb9.2.1,hb9.2.2.1,hb9.2.2.2⟩;clear hb9;generalize reW w9 wH.tape d9=wZ at *;replace hB:=Below.then hB hBZ hB.size;clear hBZ;refine RunsB.of_goes ?_;have hF:=Is.self wZ;repeat refine .c1 termsS rfl ?_
  refine GoesW.ret termsS fun todo=>?_;refine .stop rfl fun w6 hR=>?_;obtain ⟨d,rfl⟩:=hF.rely hR;exact hp _ _ _ _ rfl (fun d=>(resultsC_tmp (t:=6) (by rfl) _ _).1) ⟨rfl,⟨hB.os,hB.tape,hB.output,hB.size,hB.block⟩⟩
theorem ruld_o2 {wE:World} {τ:Tape} {a':Act} {w':World} {u0 u1 u2 u3 u4 u5 u9 u10 u12 u14 u15 u16 u24 u25 u26 u27 u28 u29 u30 u31 u32 u33 u34 u35 u36 u37 u38 u39 u40 u41 u42 u43 u44 u45 u46 u47 u48 u49 u50 u51 u52 u53 u54 u55 u56 u57 u58 u59 u60 u61 u62 u63 u64 u65 u66 u67 u68 u69 u70 u71 u72 u73 u74 u75 u76 u77 u78 u79 u80 u81 u82 u83 u84 u85 u86 u230 u231 u232 u233 u234 u235 u236 u237 u238 u239 u240 u241 u242 u243 u244 u245 u246 u247 u248 u249 u250 u251 u252 u253:Value} (h:∃(y6 y21 y22 y23 y87 y88 y89 y90 y91 y92 y93 y94 y95 y96 y97 y98 y99 y100 y101 y102 y103 y104 y105 y106 y107 y108 y109 y110 y111 y112 y113 y114 y115 y116 y117 y118 y119 y120 y121 y122 y123 y124 y125 y126 y127 y128 y129 y130 y131 y132 y133 y134 y135 y136 y137 y138 y139 y140 y141 y142 y143 y144 y145 y146 y147 y148 y149 y150 y151 y152 y153 y154 y155 y156 y157 y158 y159 y160 y161 y162 y163 y164 y165 y166 y167 y168 y169 y170 y171 y172 y173 y174 y175 y176 y177 y178 y179 y180 y181 y182 y183 y184 y185 y186 y187 y188 y189 y190 y191 y192 y193 y194 y195 y196 y197 y198 y199 y200 y201 y202 y203 y204 y205 y206 y207 y208 y209 y210 y211 y212 y213 y214 y215 y216 y217 y218 y219 y220 y221 y222 y223 y224 y225 y226 y227 y228 y229:Value),a'={tmps:=#[u0,u1,u2,u3,u4,u5,y6,.pointer (some ⟨gc,0,none⟩),.int .i64 cell,u9,u10,.pointer (some ⟨gv,0,none⟩),u12,.slice pb nb cb,u14,u15,u16,.int .i64 sf,.int .i64 bf,.bool false,.int .i64 nb,y21,y22,y23,u24,u25,u26,u27,u28,u29,u30,u31,u32,u33,u34,u35,u36,u37,u38,u39,u40,u41,u42,u43,u44,u45,u46,u47,u48,u49,u50,u51,u52,u53,u54,u55,u56,u57,u58,u59,u60,u61,u62,u63,u64,u65,u66,u67,u68,u69,u70,u71,u72,u73,u74,u75,u76,u77,u78,u79,u80,u81,u82,u83,u84,u85,u86,y87,y88,y89,y90,y91,y92,y93,y94,y95,y96,y97,y98,y99,y100,y101,y102,y103,y104,y105,y106,y107,y108,y109,y110,y111,y112,y113,y114,y115,y116,y117,y118,y119,y120,y121,y122,y123,y124,y125,y126,y127,y128,y129,y130,y131,y132,y133,y134,y135,y136,y137,y138,y139,y140,y141,y142,y143,y144,y145,y146,y147,y148,y149,y150,y151,y152,y153,y154,y155,y156,y157,y158,y159,y160,y161,y162,y163,y164,y165,y166,y167,y168,y169,y170,y171,y172,y173,y174,y175,y176,y177,y178,y179,y180,y181,y182,y183,y184,y185,y186,y187,y188,y189,y190,y191,y192,y193,y194,y195,y196,y197,y198,y199,y200,y201,y202,y203,y204,y205,y206,y207,y208,y209,y210,y211,y212,y213,y214,y215,y216,y217,y218,y219,y220,y221,y222,y223,y224,y225,y226,y227,y228,y229,u230,u231,u232,u233,u234,u235,u236,u237,u238,u239,u240,u241,u242,u243,u244,u245,u246,u247,u248,u249,u250,u251,u252,u253],defers:=[]}∧Below (reW wE τ 0).heap.size (reW wE τ 0) w'):(fun a' w'=>(a'.tmps.size=254∧a'.defers=[]∧a'.tmps.toList.getD 7 undef=.pointer (some ⟨gc,0,none⟩)∧a'.tmps.toList.getD 8 undef=.int .i64 cell∧a'.tmps.toList.getD 11 undef=.pointer (some ⟨gv,0,none⟩)∧a'.tmps.toList.getD 13 undef=.slice pb nb cb∧a'.tmps.toList.getD 17 undef=.int .i64 sf∧a'.tmps.toList.getD 18 undef=.int .i64 bf∧a'.tmps.toList.getD 19 undef=.bool false∧a'.tmps.toList.getD 20 undef=.int .i64 nb)∧BelT wE w') a' w':=
 Exists.elim h fun _ h=>
 Exists.elim h fun _ h=>
 Exists.elim h fun _ h=>
 Exists.elim h fun _ h=>
 Exists.elim h fun _ h=>
 Exists.elim h fun _ h=>
 Exists.elim h fun _ h=>
 Exists.elim h fun _ h=>
 Exists.elim h fun _ h=>
 Exists.elim h fun _ h=>
 Exists.elim h fun _ h=>
 Exists.elim h fun _ h=>
 Exists.elim h fun _ h=>
 Exists.elim h fun _ h=>
 Exists.elim h fun _ h=>
 Exists.elim h fun _ h=>
 Exists.elim h fun _ h=>
 Exists.elim h fun _ h=>
 Exists.elim h fun _ h=>
 Exists.elim h fun _ h=>
 Exists.elim h fun _ h=>
 Exists.elim h fun _ h=>
 Exists.elim h fun _ h=>
 Exists.elim h fun _ h=>
 Exists.elim h fun _ h=>
 Exists.elim h fun _ h=>
 Exists.elim h fun _ h=>
 Exists.elim h fun _ h=>
 Exists.elim h fun _ h=>
 Exists.elim h fun _ h=>
 Exists.elim h fun _ h=>
 Exists.elim h fun _ h=>
 Exists.elim h fun _ h=>
 Exists.elim h fun _ h=>
 Exists.elim h fun _ h=>
 Exists.elim h fun _ h=>
 Exists.elim h fun _ h=>
 Exists.elim h fun _ h=>
 Exists.elim h fun _ h=>
 Exists.elim h fun _ h=>
 Exists.elim h fun _ h=>
 Exists.elim h fun _ h=>
 Exists.elim h fun _ h=>
 Exists.elim h fun _ h=>
 Exists.elim h fun _ h=>
 Exists.elim h fun _ h=>
 Exists.elim h fun _ h=>
 Exists.elim h fun _ h=>
 Exists.elim h fun _ h=>
 Exists.elim h fun _ h=>
 Exists.elim h fun _ h=>
 Exists.elim h fun _ h=>
 Exists.elim h fun _ h=>
 Exists.elim h fun _ h=>
 Exists.elim h fun _ h=>
 Exists.elim h fun _ h=>
 Exists.elim h fun _ h=>
 Exists.elim h fun _ h=>
 Exists.elim h fun _ h=>
 Exists.elim h fun _ h=>
 Exists.elim h fun _ h=>
 Exists.elim h fun _ h=>
 Exists.elim h fun _ h=>
 Exists.elim h fun _ h=>
 Exists.elim h fun _ h=>
 Exists.elim h fun _ h=>
 Exists.elim h fun _ h=>
 Exists.elim h fun _ h=>
 Exists.elim h fun _ h=>
 Exists.elim h fun _ h=>
 Exists.elim h fun _ h=>
 Exists.elim h fun _ h=>
 Exists.elim h fun _ h=>
 Exists.elim h fun _ h=>
 Exists.elim h fun _ h=>
 Exists.elim h fun _ h=>
 Exists.elim h fun _ h=>
 Exists.elim h fun _ h=>
 Exists.elim h fun _ h=>
 Exists.elim h fun _ h=>
 Exists.elim h fun _ h=>
 Exists.elim h fun _ h=>
 Exists.elim h fun _ h=>
 Exists.elim h fun _ h=>
 Exists.elim h fun _ h=>
 Exists.elim h fun _ h=>
 Exists.elim h fun _ h=>
 Exists.elim h fun _ h=>
 Exists.elim h fun _ h=>
 Exists.elim h fun _ h=>
 Exists.elim h fun _ h=>
 Exists.elim h fun _ h=>
 Exists.elim h fun _ h=>
 Exists.elim h fun _ h=>
 Exists.elim h fun _ h=>
 Exists.elim h fun _ h=>
 Exists.elim h fun _ h=>
 Exists.elim h fun _ h=>
 Exists.elim h fun _ h=>
 Exists.elim h fun _ h=>
 Exists.elim h fun _ h=>
 Exists.elim h fun _ h=>
 Exists.elim h fun _ h=>
 Exists.elim h fun _ h=>
 Exists.elim h fun _ h=>
 Exists.elim h fun _ h=>
 Exists.elim h fun _ h=>
 Exists.elim h fun _ h=>
 Exists.elim h fun _ h=>
 Exists.elim h fun _ h=>
 Exists.elim h fun _ h=>
 Exists.elim h fun _ h=>
 Exists.elim h fun _ h=>
 Exists.elim h fun _ h=>
 Exists.elim h fun _ h=>
 Exists.elim h fun _ h=>
 Exists.elim h fun _ h=>
 Exists.elim h fun _ h=>
 Exists.elim h fun _ h=>
 Exists.elim h fun _ h=>
 Exists.elim h fun _ h=>
 Exists.elim h fun _ h=>
 Exists.elim h fun _ h=>
 Exists.elim h fun _ h=>
 Exists.elim h fun _ h=>
 Exists.elim h fun _ h=>
 Exists.elim h fun _ h=>
 Exists.elim h fun _ h=>
 Exists.elim h fun _ h=>
 Exists.elim h fun _ h=>
 Exists.elim h fun _ h=>
 Exists.elim h fun _ h=>
 Exists.elim h fun _ h=>
 Exists.elim h fun _ h=>
 Exists.elim h fun _ h=>
 Exists.elim h fun _ h=>
 Exists.elim h fun _ h=>
 Exists.elim h fun _ h=>
 Exists.elim h fun _ h=>
 Exists.elim h fun _ h=>
 Exists.elim h fun _ h=>
 Exists.elim h fun _ h=>
 Exists.elim h fun _ h=>
 Exists.elim h fun _ h=>
 Exists.elim h fun _ h=>
 Exists.elim h fun _ h=>
 Exists.elim h fun _ h=>
 ⟨h.1▸⟨rfl,rfl,rfl,rfl,rfl,rfl,rfl,rfl,rfl,rfl⟩,h.2.os,h.2.output,h.2.size,h.2.block⟩
theorem ruld_t2 (hp:∀(a:Act) (todo:List Item) (v:Value) (w':World),a.defers=[]→(∀d:Nat,Sem.run Try.prog (results Try.f4 a.tmps) (w'.at d)=.ok v (w'.at d))→v=.bool true∧Below w.heap.size w w'→RunsB Try.prog Post (G {(base 4).at a todo with mode:=.returning} cs) w') {m cu:Nat} {pc pu:Option Addr} {E:List (Int×Int×Int)} {B:List Int} (wE:World) (hB:Below w.heap.size w wE) (hTr:TrM wE gc gv cell pc cc lim pu m cu E pb nb B) (hR:Rd lim B ⟨0,0,false,0⟩ E ⟨sf,bf,false,B.length⟩) (hm:E.length=m) (hnb:B.length=nb) (hl:0≤lim∧lim≤5) (hb:0≤bf∧bf≤6) (hs:0≤sf∧sf≤1000000) (hnb2:nb≤1000) (hm2:m≤1000000000) (hc4:cell<4) (hBB:∀j,j<nb→1≤B.getD j 0∧B.getD j 0≤200) (v2:wE.cell? ⟨gv,2,none⟩=some (.int .i64 sf)) (v3:wE.cell? ⟨gv,3,none⟩=some (.int .i64 bf)) (v4:wE.cell? ⟨gv,4,none⟩=some (.bool (decide (lim<bf)))) (u0 u1 u2 u3 u4 u5 u6 u9 u10 u12 u14 u15 u16 u21 u22 u23 u24 u25 u26 u27 u28 u29 u30 u31 u32 u33 u34 u35 u36 u37 u38 u39 u40 u41 u42 u43 u44 u45 u46 u47 u48 u49 u50 u51 u52 u53 u54 u55 u56 u57 u58 u59 u60 u61 u62 u63 u64 u65 u66 u67 u68 u69 u70 u71 u72 u73 u74 u75 u76 u77 u78 u79 u80 u81 u82 u83 u84 u85 u86 u87 u88 u89 u90 u91 u92 u93 u94 u95 u96 u97 u98 u99 u100 u101 u102 u103 u104 u105 u106 u107 u108 u109 u110 u111 u112 u113 u114 u115 u116 u117 u118 u119 u120 u121 u122 u123 u124 u125 u126 u127 u128 u129 u130 u131 u132 u133 u134 u135 u136 u137 u138 u139 u140 u141 u142 u143 u144 u145 u146 u147 u148 u149 u150 u151 u152 u153 u154 u155 u156 u157 u158 u159 u160 u161 u162 u163 u164 u165 u166 u167 u168 u169 u170 u171 u172 u173 u174 u175 u176 u177 u178 u179 u180 u181 u182 u183 u184 u185 u186 u187 u188 u189 u190 u191 u192 u193 u194 u195 u196 u197 u198 u199 u200 u201 u202 u203 u204 u205 u206 u207 u208 u209 u210 u211 u212 u213 u214 u215 u216 u217 u218 u219 u220 u221 u222 u223 u224 u225 u226 u227 u228 u229 u230 u231 u232 u233 u234 u235 u236 u237 u238 u239 u240 u241 u242 u243 u244 u245 u246 u247 u248 u249 u250 u251 u252 u253:Value):
  RunsB Try.prog Post (G ((base 4).at {tmps:=#[u0,u1,u2,u3,u4,u5,u6,.pointer (some ⟨gc,0,none⟩),.int .i64 cell,u9,u10,.pointer (some ⟨gv,0,none⟩),u12,.slice pb nb cb,u14,u15,u16,.int .i64 0,.int .i64 0,.bool false,.int .i64 0,u21,u22,u23,u24,u25,u26,u27,u28,u29,u30,u31,u32,u33,u34,u35,u36,u37,u38,u39,u40,u41,u42,u43,u44,u45,u46,u47,u48,u49,u50,u51,u52,u53,u54,u55,u56,u57,u58,u59,u60,u61,u62,u63,u64,u65,u66,u67,u68,u69,u70,u71,u72,u73,u74,u75,u76,u77,u78,u79,u80,u81,u82,u83,u84,u85,u86,u87,u88,u89,u90,u91,u92,u93,u94,u95,u96,u97,u98,u99,u100,u101,u102,u103,u104,u105,u106,u107,u108,u109,u110,u111,u112,u113,u114,u115,u116,u117,u118,u119,u120,u121,u122,u123,u124,u125,u126,u127,u128,u129,u130,u131,u132,u133,u134,u135,u136,u137,u138,u139,u140,u141,u142,u143,u144,u145,u146,u147,u148,u149,u150,u151,u152,u153,u154,u155,u156,u157,u158,u159,u160,u161,u162,u163,u164,u165,u166,u167,u168,u169,u170,u171,u172,u173,u174,u175,u176,u177,u178,u179,u180,u181,u182,u183,u184,u185,u186,u187,u188,u189,u190,u191,u192,u193,u194,u195,u196,u197,u198,u199,u200,u201,u202,u203,u204,u205,u206,u207,u208,u209,u210,u211,u212,u213,u214,u215,u216,u217,u218,u219,u220,u221,u222,u223,u224,u225,u226,u227,u228,u229,u230,u231,u232,u233,u234,u235,u236,u237,u238,u239,u240,u241,u242,u243,u244,u245,u246,u247,u248,u249,u250,u251,u252,u253],defers:=[]} (.code ruldP2::.code ruldQ2::[])) cs) wE:=by
 have hk:(base 4).kind≠.early:=by simp [base]
 refine RunsB.piece plain no_stepOf (Qn:=fun a' w'=>(a'.tmps.size=254∧a'.defers=[]∧a'.tmps.toList.getD 7 undef=.pointer (some ⟨gc,0,none⟩)∧a'.tmps.toList.getD 8 undef=.int .i64 cell∧a'.tmps.toList.getD 11 undef=.pointer (some ⟨gv,0,none⟩)∧a'.tmps.toList.getD 13 undef=.slice pb nb cb∧a'.tmps.toList.getD 17 undef=.int .i64 sf∧a'.tmps.toList.getD 18 undef=.int .i64 bf∧a'.tmps.toList.getD 19 undef=.bool false∧a'.tmps.toList.getD 20 undef=.int .i64 nb)∧BelT wE w') (by kernel_rfl) (by kernel_rfl) ⟨_,Try.func4⟩ rfl (slots_noSlots plain Try.func4 (by kernel_rfl) _) rfl (fun τ=>?_) (fun a9 w9 τ9 e9 d9 hq=>?_)
 ·exact Code.wp_mono (fun e a' w' h=>⟨h.1,ruld_o2 h.2⟩) (ruld_P2 (lim:=lim) (sf:=sf) (bf:=bf) (B:=B) (reW wE τ 0) (hTr.keep fun _ _ h=>h) hR hm hnb hl hb hs hnb2 hm2 hc4 hBB u0 u1 u2 u3 u4 u5 u6 u9 u10 u12 u14 u15 u16 u21 u22 u23 u24 u25 u26 u27 u28 u29 u30 u31 u32 u33 u34 u35 u36 u37 u38 u39 u40 u41 u42 u43 u44 u45 u46 u47 u48 u49 u50 u51 u52 u53 u54 u55 u56 u57 u58 u59 u60 u61 u62 u63 u64 u65 u66 u67 u68 u69 u70 u71 u72 u73 u74 u75 u76 u77 u78 u79 u80 u81 u82 u83 u84 u85 u86 u87 u88 u89 u90 u91 u92 u93 u94 u95 u96 u97 u98 u99 u100 u101 u102 u103 u104 u105 u106 u107 u108 u109 u110 u111 u112 u113 u114 u115 u116 u117 u118 u119 u120 u121 u122 u123 u124 u125 u126 u127 u128 u129 u130 u131 u132 u133 u134 u135 u136 u137 u138 u139 u140 u141 u142 u143 u144 u145 u146 u147 u148 u149 u150 u151 u152 u153 u154 u155 u156 u157 u158 u159 u160 u161 u162 u163 u164 u165 u166 u167 u168 u169 u170 u171 u172 u173 u174 u175 u176 u177 u178 u179 u180 u181 u182 u183 u184 u185 u186 u187 u188 u189 u190 u191 u192 u193 u194 u195 u196 u197 u198 u199 u200 u201 u202 u203 u204 u205 u206 u207 u208 u209 u210 u211 u212 u213 u214 u215 u216 u217 u218 u219 u220 u221 u222 u223 u224 u225 u226 u227 u228 u229 u230 u231 u232 u233 u234 u235 u236 u237 u238 u239 u240 u241 u242 u243 u244 u245 u246 u247 u248 u249 u250 u251 u252 u253)
 ·obtain ⟨⟨hsz,hdf,k7,k8,k11,k13,k17,k18,k19,k20⟩,hb9⟩:=hq;have hBH:Below wE.heap.size wE (reW w9 wE.tape d9):=⟨hb9.1,rfl,hb9.2.1,hb9.2.2.1,hb9.2.2.2⟩;clear hb9;generalize reW w9 wE.tape d9=wH at *;have hTH:=hTr.below hBH;replace v2:=below_keep hBH _ _ v2;replace v3:=below_keep hBH _ _ v3;replace v4:=below_keep hBH _ _ v4;replace hB:=Below.then hB hBH hB.size;clear hBH hTr;have g0:=hTH.box;obtain ⟨kb,ko,e,l0⟩:=hTH.lim_;subst e;clear hTH;rw [act254 a9 hsz hdf,k7,k8,k11,k13,k17,k18,k19,k20];refine RunsB.of_goes ?_;have hF:=Is.self wH;iterate 1 refine .c1 termsS rfl ?_
  refine .stop rfl fun w1 hR=>?_;obtain ⟨d,rfl⟩:=hF.rely hR;clear hF hR;exact ruld_t3 hp (wH.at d) ⟨hB.os,hB.tape,hB.output,hB.size,hB.block⟩ hc4 g0 l0 v2 v3 v4 _ _ _ _ _ _ _ _ _ _ _ _ _ _ _ _ _ _ _ _ _ _ _ _ _ _ _ _ _ _ _ _ _ _ _ _ _ _ _ _ _ _ _ _ _ _ _ _ _ _ _ _ _ _ _ _ _ _ _ _ _ _ _ _ _ _ _ _ _ _ _ _ _ _ _ _ _ _ _ _ _ _ _ _ _ _ _ _ _ _ _ _ _ _ _ _ _ _ _ _ _ _ _ _ _ _ _ _ _ _ _ _ _ _ _ _ _ _ _ _ _ _ _ _ _ _ _ _ _ _ _ _ _ _ _ _ _ _ _ _ _ _ _ _ _ _ _ _ _ _ _ _ _ _ _ _ _ _ _ _ _ _ _ _ _ _ _ _ _ _ _ _ _ _ _ _ _ _ _ _ _ _ _ _ _ _ _ _ _ _ _ _ _ _ _ _ _ _ _ _ _ _ _ _ _ _ _ _ _ _ _ _ _ _ _ _ _ _ _ _ _ _ _ _ _ _ _ _ _ _ _ _ _ _ _ _ _ _ _ _ _ _ _ _ _ _
theorem ruld_o1 {n cq f:Nat} {q:Option Addr} {c:Cfg} {wB:World} {τ:Tape} {a':Act} {w':World} {u0 u1 u3 u4 u5 u6 u9 u10 u12 u17 u18 u19 u20 u21 u22 u23 u24 u25 u26 u27 u28 u29 u30 u31 u32 u33 u34 u35 u36 u37 u38 u39 u40 u41 u42 u43 u44 u45 u46 u47 u48 u49 u87 u88 u89 u90 u91 u92 u93 u94 u95 u96 u97 u98 u99 u100 u101 u102 u103 u104 u105 u106 u107 u108 u109 u110 u111 u112 u113 u114 u115 u116 u117 u118 u119 u120 u121 u122 u123 u124 u125 u126 u127 u128 u129 u130 u131 u132 u133 u134 u135 u136 u137 u138 u139 u140 u141 u142 u143 u144 u145 u146 u147 u148 u149 u150 u151 u152 u153 u154 u155 u156 u157 u158 u159 u160 u161 u162 u163 u164 u165 u166 u167 u168 u169 u170 u171 u172 u173 u174 u175 u176 u177 u178 u179 u180 u181 u182 u183 u184 u185 u186 u187 u188 u189 u190 u191 u192 u193 u194 u195 u196 u197 u198 u199 u200 u201 u202 u203 u204 u205 u206 u207 u208 u209 u210 u211 u212 u213 u214 u215 u216 u217 u218 u219 u220 u221 u222 u223 u224 u225 u226 u227 u228 u229 u230 u231 u232 u233 u234 u235 u236 u237 u238 u239 u240 u241 u242 u243 u244 u245 u246 u247 u248 u249 u250 u251 u252 u253:Value} (h:∃(pb:Option Addr) (cb:Nat) (y14 y15 y16 y50 y51 y52 y53 y54 y55 y56 y57 y58 y59 y60 y61 y62 y63 y64 y65 y66 y67 y68 y69 y70 y71 y72 y73 y74 y75 y76 y77 y78 y79 y80 y81 y82 y83 y84 y85 y86:Value),a'={tmps:=#[u0,u1,.slice q n cq,u3,u4,u5,u6,.pointer (some ⟨gc,0,none⟩),.int .i64 cell,u9,u10,.pointer (some ⟨gv,0,none⟩),u12,.slice pb (budF c cell f).length cb,y14,y15,y16,u17,u18,u19,u20,u21,u22,u23,u24,u25,u26,u27,u28,u29,u30,u31,u32,u33,u34,u35,u36,u37,u38,u39,u40,u41,u42,u43,u44,u45,u46,u47,u48,u49,y50,y51,y52,y53,y54,y55,y56,y57,y58,y59,y60,y61,y62,y63,y64,y65,y66,y67,y68,y69,y70,y71,y72,y73,y74,y75,y76,y77,y78,y79,y80,y81,y82,y83,y84,y85,y86,u87,u88,u89,u90,u91,u92,u93,u94,u95,u96,u97,u98,u99,u100,u101,u102,u103,u104,u105,u106,u107,u108,u109,u110,u111,u112,u113,u114,u115,u116,u117,u118,u119,u120,u121,u122,u123,u124,u125,u126,u127,u128,u129,u130,u131,u132,u133,u134,u135,u136,u137,u138,u139,u140,u141,u142,u143,u144,u145,u146,u147,u148,u149,u150,u151,u152,u153,u154,u155,u156,u157,u158,u159,u160,u161,u162,u163,u164,u165,u166,u167,u168,u169,u170,u171,u172,u173,u174,u175,u176,u177,u178,u179,u180,u181,u182,u183,u184,u185,u186,u187,u188,u189,u190,u191,u192,u193,u194,u195,u196,u197,u198,u199,u200,u201,u202,u203,u204,u205,u206,u207,u208,u209,u210,u211,u212,u213,u214,u215,u216,u217,u218,u219,u220,u221,u222,u223,u224,u225,u226,u227,u228,u229,u230,u231,u232,u233,u234,u235,u236,u237,u238,u239,u240,u241,u242,u243,u244,u245,u246,u247,u248,u249,u250,u251,u252,u253],defers:=[]}∧Below (reW wB τ 0).heap.size (reW wB τ 0) w'∧w'.ownsRow wB.heap.size 3 1 (.slice pb (budF c cell f).length cb) (budF c cell f).length ((budF c cell f).map (Value.int .i64 ·))):(fun a' w'=>∃(pb:Option Addr) (cb:Nat),(a'.tmps.size=254∧a'.defers=[]∧a'.tmps.toList.getD 7 undef=.pointer (some ⟨gc,0,none⟩)∧a'.tmps.toList.getD 8 undef=.int .i64 cell∧a'.tmps.toList.getD 11 undef=.pointer (some ⟨gv,0,none⟩)∧a'.tmps.toList.getD 13 undef=.slice pb (budF c cell f).length cb)∧BelT wB w'∧w'.ownsRow wB.heap.size 3 1 (.slice pb (budF c cell f).length cb) (budF c cell f).length ((budF c cell f).map (Value.int .i64 ·))) a' w':=
 Exists.elim h fun pb h=>
 Exists.elim h fun cb h=>
 Exists.elim h fun _ h=>
 Exists.elim h fun _ h=>
 Exists.elim h fun _ h=>
 Exists.elim h fun _ h=>
 Exists.elim h fun _ h=>
 Exists.elim h fun _ h=>
 Exists.elim h fun _ h=>
 Exists.elim h fun _ h=>
 Exists.elim h fun _ h=>
 Exists.elim h fun _ h=>
 Exists.elim h fun _ h=>
 Exists.elim h fun _ h=>
 Exists.elim h fun _ h=>
 Exists.elim h fun _ h=>
 Exists.elim h fun _ h=>
 Exists.elim h fun _ h=>
 Exists.elim h fun _ h=>
 Exists.elim h fun _ h=>
 Exists.elim h fun _ h=>
 Exists.elim h fun _ h=>
 Exists.elim h fun _ h=>
 Exists.elim h fun _ h=>
 Exists.elim h fun _ h=>
 Exists.elim h fun _ h=>
 Exists.elim h fun _ h=>
 Exists.elim h fun _ h=>
 Exists.elim h fun _ h=>
 Exists.elim h fun _ h=>
 Exists.elim h fun _ h=>
 Exists.elim h fun _ h=>
 Exists.elim h fun _ h=>
 Exists.elim h fun _ h=>
 Exists.elim h fun _ h=>
 Exists.elim h fun _ h=>
 Exists.elim h fun _ h=>
 Exists.elim h fun _ h=>
 Exists.elim h fun _ h=>
 Exists.elim h fun _ h=>
 Exists.elim h fun _ h=>
 Exists.elim h fun _ h=>
 ⟨pb,cb,h.1▸⟨rfl,rfl,rfl,rfl,rfl,rfl⟩,⟨h.2.1.os,h.2.1.output,h.2.1.size,h.2.1.block⟩,h.2.2⟩
theorem ruld_t1 (hp:∀(a:Act) (todo:List Item) (v:Value) (w':World),a.defers=[]→(∀d:Nat,Sem.run Try.prog (results Try.f4 a.tmps) (w'.at d)=.ok v (w'.at d))→v=.bool true∧Below w.heap.size w w'→RunsB Try.prog Post (G {(base 4).at a todo with mode:=.returning} cs) w') {n cq f ct cu p0c:Nat} {q pt pu p0:Option Addr} {c:Cfg} {Fr:Nat→Option Addr×Nat} {E:List (Int×Int×Int)} (wB:World) (hB:Below w.heap.size w wB) (hf3:f≤n∧f≤40∧(f=n∨f=40)) (hTM:TabM wB gc c pt ct Fr) (hn3:c.nT=3) (hn6:∀r,c.nRow r≤6) (hTR:TabR c) (hcs:CellsR wB (.slice p0 4 p0c) c) (hnC:c.nC=4) (g0:wB.cell? ⟨gc,0,none⟩=some (.slice p0 4 p0c)) (gv0:wB.cell? ⟨gv,0,none⟩=some (.slice pu E.length cu)) (su:Sl wB pu (E.length*3) (fun j=>.int .i64 (if j % 3=0 then (E.getD (j / 3) (0,0,0)).1 else if j % 3=1 then (E.getD (j / 3) (0,0,0)).2.1 else (E.getD (j / 3) (0,0,0)).2.2)))
  (hRd:Rd (c.lim cell) (budF c cell f) ⟨0,0,false,0⟩ E ⟨sf,bf,false,(budF c cell f).length⟩) (hl:0≤c.lim cell∧c.lim cell≤5) (hb:0≤bf∧bf≤6) (hs:0≤sf∧sf≤1000000) (hm2:E.length≤1000000000) (hc4:cell<4) (v2:wB.cell? ⟨gv,2,none⟩=some (.int .i64 sf)) (v3:wB.cell? ⟨gv,3,none⟩=some (.int .i64 bf)) (v4:wB.cell? ⟨gv,4,none⟩=some (.bool (decide (c.lim cell<bf)))) (u0 u1 u3 u4 u5 u6 u9 u10 u12 u14 u15 u16 u17 u18 u19 u20 u21 u22 u23 u24 u25 u26 u27 u28 u29 u30 u31 u32 u33 u34 u35 u36 u37 u38 u39 u40 u41 u42 u43 u44 u45 u46 u47 u48 u49 u50 u51 u52 u53 u54 u55 u56 u57 u58 u59 u60 u61 u62 u63 u64 u65 u66 u67 u68 u69 u70 u71 u72 u73 u74 u75 u76 u77 u78 u79 u80 u81 u82 u83 u84 u85 u86 u87 u88 u89 u90 u91 u92 u93 u94 u95 u96 u97 u98 u99 u100 u101 u102 u103 u104 u105 u106 u107 u108 u109 u110 u111 u112 u113 u114 u115 u116 u117 u118 u119 u120 u121 u122 u123 u124 u125 u126 u127 u128 u129 u130 u131 u132 u133 u134 u135 u136 u137 u138 u139 u140 u141 u142 u143 u144 u145 u146 u147 u148 u149 u150 u151 u152 u153 u154 u155 u156 u157 u158 u159 u160 u161 u162 u163 u164 u165 u166 u167 u168 u169 u170 u171 u172 u173 u174 u175 u176 u177 u178 u179 u180 u181 u182 u183 u184 u185 u186 u187 u188 u189 u190 u191 u192 u193 u194 u195 u196 u197 u198 u199 u200 u201 u202 u203 u204 u205 u206 u207 u208 u209 u210 u211 u212 u213 u214 u215 u216 u217 u218 u219 u220 u221 u222 u223 u224 u225 u226 u227 u228 u229 u230 u231 u232 u233 u234 u235 u236 u237 u238 u239 u240 u241 u242 u243 u244 u245 u246 u247 u248 u249 u250 u251 u252 u253:Value):
  RunsB Try.prog Post (G ((base 4).at {tmps:=#[u0,u1,.slice q n cq,u3,u4,u5,u6,.pointer (some ⟨gc,0,none⟩),.int .i64 cell,u9,u10,.pointer (some ⟨gv,0,none⟩),u12,.slice none 0 0,u14,u15,u16,u17,u18,u19,u20,u21,u22,u23,u24,u25,u26,u27,u28,u29,u30,u31,u32,u33,u34,u35,u36,u37,u38,u39,u40,u41,u42,u43,u44,u45,u46,u47,u48,u49,u50,u51,u52,u53,u54,u55,u56,u57,u58,u59,u60,u61,u62,u63,u64,u65,u66,u67,u68,u69,u70,u71,u72,u73,u74,u75,u76,u77,u78,u79,u80,u81,u82,u83,u84,u85,u86,u87,u88,u89,u90,u91,u92,u93,u94,u95,u96,u97,u98,u99,u100,u101,u102,u103,u104,u105,u106,u107,u108,u109,u110,u111,u112,u113,u114,u115,u116,u117,u118,u119,u120,u121,u122,u123,u124,u125,u126,u127,u128,u129,u130,u131,u132,u133,u134,u135,u136,u137,u138,u139,u140,u141,u142,u143,u144,u145,u146,u147,u148,u149,u150,u151,u152,u153,u154,u155,u156,u157,u158,u159,u160,u161,u162,u163,u164,u165,u166,u167,u168,u169,u170,u171,u172,u173,u174,u175,u176,u177,u178,u179,u180,u181,u182,u183,u184,u185,u186,u187,u188,u189,u190,u191,u192,u193,u194,u195,u196,u197,u198,u199,u200,u201,u202,u203,u204,u205,u206,u207,u208,u209,u210,u211,u212,u213,u214,u215,u216,u217,u218,u219,u220,u221,u222,u223,u224,u225,u226,u227,u228,u229,u230,u231,u232,u233,u234,u235,u236,u237,u238,u239,u240,u241,u242,u243,u244,u245,u246,u247,u248,u249,u250,u251,u252,u253],defers:=[]} (.code ruldP1::.code ruldQ1::[])) cs) wB:=by
 have hk:(base 4).kind≠.early:=by simp [base]
 refine RunsB.piece plain no_stepOf (Qn:=fun a' w'=>∃(pb:Option Addr) (cb:Nat),(a'.tmps.size=254∧a'.defers=[]∧a'.tmps.toList.getD 7 undef=.pointer (some ⟨gc,0,none⟩)∧a'.tmps.toList.getD 8 undef=.int .i64 cell∧a'.tmps.toList.getD 11 undef=.pointer (some ⟨gv,0,none⟩)∧a'.tmps.toList.getD 13 undef=.slice pb (budF c cell f).length cb)∧BelT wB w'∧w'.ownsRow wB.heap.size 3 1 (.slice pb (budF c cell f).length cb) (budF c cell f).length ((budF c cell f).map (Value.int .i64 ·))) (by kernel_rfl) (by kernel_rfl) ⟨_,Try.func4⟩ rfl (slots_noSlots plain Try.func4 (by kernel_rfl) _) rfl (fun τ=>?_) (fun a9 w9 τ9 e9 d9 hq=>?_)
 ·exact Code.wp_mono (fun e a' w' h=>⟨h.1,ruld_o1 h.2⟩) (ruld_P1 (c:=c) (cell:=cell) (f:=f) hf3 hn3 hn6 (reW wB τ 0) ⟨hTM.box,hTM.rows,hTM.row,hTM.lt⟩ u0 u1 u3 u4 u5 u6 u9 u10 (.pointer (some ⟨gv,0,none⟩)) u12 u14 u15 u16 u17 u18 u19 u20 u21 u22 u23 u24 u25 u26 u27 u28 u29 u30 u31 u32 u33 u34 u35 u36 u37 u38 u39 u40 u41 u42 u43 u44 u45 u46 u47 u48 u49 u50 u51 u52 u53 u54 u55 u56 u57 u58 u59 u60 u61 u62 u63 u64 u65 u66 u67 u68 u69 u70 u71 u72 u73 u74 u75 u76 u77 u78 u79 u80 u81 u82 u83 u84 u85 u86 u87 u88 u89 u90 u91 u92 u93 u94 u95 u96 u97 u98 u99 u100 u101 u102 u103 u104 u105 u106 u107 u108 u109 u110 u111 u112 u113 u114 u115 u116 u117 u118 u119 u120 u121 u122 u123 u124 u125 u126 u127 u128 u129 u130 u131 u132 u133 u134 u135 u136 u137 u138 u139 u140 u141 u142 u143 u144 u145 u146 u147 u148 u149 u150 u151 u152 u153 u154 u155 u156 u157 u158 u159 u160 u161 u162 u163 u164 u165 u166 u167 u168 u169 u170 u171 u172 u173 u174 u175 u176 u177 u178 u179 u180 u181 u182 u183 u184 u185 u186 u187 u188 u189 u190 u191 u192 u193 u194 u195 u196 u197 u198 u199 u200 u201 u202 u203 u204 u205 u206 u207 u208 u209 u210 u211 u212 u213 u214 u215 u216 u217 u218 u219 u220 u221 u222 u223 u224 u225 u226 u227 u228 u229 u230 u231 u232 u233 u234 u235 u236 u237 u238 u239 u240 u241 u242 u243 u244 u245 u246 u247 u248 u249 u250 u251 u252 u253)
 ·obtain ⟨pb,cb,⟨hsz,hdf,k7,k8,k11,k13⟩,hb9,ho9⟩:=hq;have hBE:Below wB.heap.size wB (reW w9 wB.tape d9):=⟨hb9.1,rfl,hb9.2.1,hb9.2.2.1,hb9.2.2.2⟩;have hoE:(reW w9 wB.tape d9).ownsRow wB.heap.size 3 1 (.slice pb (budF c cell f).length cb) (budF c cell f).length ((budF c cell f).map (Value.int .i64 ·)):=own_at_heap ho9 fun _ _=>rfl;clear hb9 ho9 hTM;generalize reW w9 wB.tape d9=wE at *;have hBL:=budF_len c cell hn6 f;have hsb:=rl_slL hoE rfl;have hBB:∀j,j<(budF c cell f).length→1≤(budF c cell f).getD j 0∧(budF c cell f).getD j 0≤200:=fun j hj=>budF_bd hTR f _ (by rw [List.getD_eq_getElem?_getD,List.getElem?_eq_getElem hj];exact List.getElem_mem hj);replace g0:=below_keep hBE _ _ g0;replace gv0:=below_keep hBE _ _ gv0;replace v2:=below_keep hBE _ _ v2;replace v3:=below_keep hBE _ _ v3;replace v4:=below_keep hBE _ _ v4;replace hcs:=hcs.keep (below_keep hBE);replace su:=su.below hBE;replace hB:=Below.then hB hBE hB.size;clear hBE hoE;have hTr:=trM_of hcs hnC hc4 g0 gv0 su hsb;clear su hsb g0 gv0 hcs;rw [act254 a9 hsz hdf,k7,k8,k11,k13];clear k7 k8 k11 k13;generalize HNB:(budF c cell f).length=nb at *;refine RunsB.of_goes ?_;have hF:=Is.self wE;repeat refine .c1 termsS rfl ?_
  refine .regionL termsS [0] (by rfl) ?_;refine .opV termsS rfl (by rfl) hk ?_;try walk_nrm
  repeat refine .c1 termsS rfl ?_
  refine .regionL termsS [0] (by rfl) ?_;refine .opV termsS rfl (by rfl) hk ?_;try walk_nrm
  repeat refine .c1 termsS rfl ?_
  refine .regionL termsS [0] (by rfl) ?_;refine .opV termsS rfl (by rfl) hk ?_;try walk_nrm
  repeat refine .c1 termsS rfl ?_
  refine .regionL termsS [0] (by rfl) ?_;refine .opV termsS rfl (by rfl) hk ?_;try walk_nrm
  iterate 2 refine .c1 termsS rfl ?_
  refine .stop rfl fun w1 hR=>?_;obtain ⟨d,rfl⟩:=hF.rely hR;clear hF hR;exact ruld_t2 hp (wE.at d) ⟨hB.os,hB.tape,hB.output,hB.size,hB.block⟩ (hTr.keep fun _ _ h=>h) (by rw [HNB];exact hRd) rfl HNB hl hb hs (by omega) hm2 hc4 hBB v2 v3 v4 _ _ _ _ _ _ _ _ _ _ _ _ _ _ _ _ _ _ _ _ _ _ _ _ _ _ _ _ _ _ _ _ _ _ _ _ _ _ _ _ _ _ _ _ _ _ _ _ _ _ _ _ _ _ _ _ _ _ _ _ _ _ _ _ _ _ _ _ _ _ _ _ _ _ _ _ _ _ _ _ _ _ _ _ _ _ _ _ _ _ _ _ _ _ _ _ _ _ _ _ _ _ _ _ _ _ _ _ _ _ _ _ _ _ _ _ _ _ _ _ _ _ _ _ _ _ _ _ _ _ _ _ _ _ _ _ _ _ _ _ _ _ _ _ _ _ _ _ _ _ _ _ _ _ _ _ _ _ _ _ _ _ _ _ _ _ _ _ _ _ _ _ _ _ _ _ _ _ _ _ _ _ _ _ _ _ _ _ _ _ _ _ _ _ _ _ _ _ _ _ _ _ _ _ _ _ _ _ _ _ _ _ _ _ _ _ _ _ _ _ _ _ _ _ _ _ _ _ _ _ _ _ _ _ _ _ _ _ _ _ _ _ _ _ _ _
end
end Go.Proofs.Ytdoghgnifkgfdaa.Mute
