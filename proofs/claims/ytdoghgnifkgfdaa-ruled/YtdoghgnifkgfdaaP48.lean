import Derived.Test.YtdoghgnifkgfdaaP46
import Derived.Test.YtdoghgnifkgfdaaP47
set_option maxRecDepth 100000
set_option maxHeartbeats 16000000
namespace Go.Proofs.Ytdoghgnifkgfdaa
open Go.RowKit
noncomputable def ruldP3:Code:=Mute.cs1 (Mute.cs2 (Mute.cs2 (Mute.cs2 (Mute.cs2 (Mute.cs2 (Mute.cs2 (Mute.cs2 (Mute.cs2 (Mute.cs2 (Mute.cs2 (Mute.cs2 (Mute.cs2 (Mute.cs2 (Mute.cs2 (Mute.cs2 (ruldBody))))))))))))))))
theorem ruld_P3 {gc gv cell cc nb cb kb ko:Nat} {pb:Option Addr} {lim sf bf:Int} (w:World) (hc4:cell<4) (g0:w.cell? ⟨gc,0,none⟩=some (.slice (some ⟨kb,ko,none⟩) 4 cc)) (l0:w.cell? ⟨kb,ko+cell*3+2,none⟩=some (.int .i64 lim)) (v2:w.cell? ⟨gv,2,none⟩=some (.int .i64 sf)) (v3:w.cell? ⟨gv,3,none⟩=some (.int .i64 bf)) (v4:w.cell? ⟨gv,4,none⟩=some (.bool (decide (lim<bf)))) (u0 u1 u2 u3 u4 u5 u6 u9 u10 u12 u14 u15 u16 u21 u22 u23 u24 u25 u26 u27 u28 u29 u30 u31 u32 u33 u34 u35 u36 u37 u38 u39 u40 u41 u42 u43 u44 u45 u46 u47 u48 u49 u50 u51 u52 u53 u54 u55 u56 u57 u58 u59 u60 u61 u62 u63 u64 u65 u66 u67 u68 u69 u70 u71 u72 u73 u74 u75 u76 u77 u78 u79 u80 u81 u82 u83 u84 u85 u86 u87 u88 u89 u90 u91 u92 u93 u94 u95 u96 u97 u98 u99 u100 u101 u102 u103 u104 u105 u106 u107 u108 u109 u110 u111 u112 u113 u114 u115 u116 u117 u118 u119 u120 u121 u122 u123 u124 u125 u126 u127 u128 u129 u130 u131 u132 u133 u134 u135 u136 u137 u138 u139 u140 u141 u142 u143 u144 u145 u146 u147 u148 u149 u150 u151 u152 u153 u154 u155 u156 u157 u158 u159 u160 u161 u162 u163 u164 u165 u166 u167 u168 u169 u170 u171 u172 u173 u174 u175 u176 u177 u178 u179 u180 u181 u182 u183 u184 u185 u186 u187 u188 u189 u190 u191 u192 u193 u194 u195 u196 u197 u198 u199 u200 u201 u202 u203 u204 u205 u206 u207 u208 u209 u210 u211 u212 u213 u214 u215 u216 u217 u218 u219 u220 u221 u222 u223 u224 u225 u226 u227 u228 u229 u230 u231 u232 u233 u234 u235 u236 u237 u238 u239 u240 u241 u242 u243 u244 u245 u246 u247 u248 u249 u250 u251 u252 u253:Value):
  Code.wp Try.prog ruldP3 (fun e a' w'=>e=.normal∧∃(y230 y231 y232 y233 y234 y235 y236 y237 y238 y239 y240 y241 y242 y243 y244 y245 y246 y247 y248 y249 y250 y251 y252 y253:Value),a'={tmps:=#[u0,u1,u2,u3,u4,u5,.bool true,.pointer (some ⟨gc,0,none⟩),.int .i64 cell,u9,u10,.pointer (some ⟨gv,0,none⟩),u12,.slice pb nb cb,u14,u15,u16,.int .i64 sf,.int .i64 bf,.bool false,.int .i64 nb,u21,u22,u23,u24,u25,u26,u27,u28,u29,u30,u31,u32,u33,u34,u35,u36,u37,u38,u39,u40,u41,u42,u43,u44,u45,u46,u47,u48,u49,u50,u51,u52,u53,u54,u55,u56,u57,u58,u59,u60,u61,u62,u63,u64,u65,u66,u67,u68,u69,u70,u71,u72,u73,u74,u75,u76,u77,u78,u79,u80,u81,u82,u83,u84,u85,u86,u87,u88,u89,u90,u91,u92,u93,u94,u95,u96,u97,u98,u99,u100,u101,u102,u103,u104,u105,u106,u107,u108,u109,u110,u111,u112,u113,u114,u115,u116,u117,u118,u119,u120,u121,u122,u123,u124,u125,u126,u127,u128,u129,u130,u131,u132,u133,u134,u135,u136,u137,u138,u139,u140,u141,u142,u143,u144,u145,u146,u147,u148,u149,u150,u151,u152,u153,u154,u155,u156,u157,u158,u159,u160,u161,u162,u163,u164,u165,u166,u167,u168,u169,u170,u171,u172,u173,u174,u175,u176,u177,u178,u179,u180,u181,u182,u183,u184,u185,u186,u187,u188,u189,u190,u191,u192,u193,u194,u195,u196,u197,u198,u199,u200,u201,u202,u203,u204,u205,u206,u207,u208,u209,u210,u211,u212,u213,u214,u215,u216,u217,u218,u219,u220,u221,u222,u223,u224,u225,u226,u227,u228,u229,y230,y231,y232,y233,y234,y235,y236,y237,y238,y239,y240,y241,y242,y243,y244,y245,y246,y247,y248,y249,y250,y251,y252,y253],defers:=[]}∧Below w.heap.size w w') {tmps:=#[u0,u1,u2,u3,u4,u5,u6,.pointer (some ⟨gc,0,none⟩),.int .i64 cell,u9,u10,.pointer (some ⟨gv,0,none⟩),u12,.slice pb nb cb,u14,u15,u16,.int .i64 sf,.int .i64 bf,.bool false,.int .i64 nb,u21,u22,u23,u24,u25,u26,u27,u28,u29,u30,u31,u32,u33,u34,u35,u36,u37,u38,u39,u40,u41,u42,u43,u44,u45,u46,u47,u48,u49,u50,u51,u52,u53,u54,u55,u56,u57,u58,u59,u60,u61,u62,u63,u64,u65,u66,u67,u68,u69,u70,u71,u72,u73,u74,u75,u76,u77,u78,u79,u80,u81,u82,u83,u84,u85,u86,u87,u88,u89,u90,u91,u92,u93,u94,u95,u96,u97,u98,u99,u100,u101,u102,u103,u104,u105,u106,u107,u108,u109,u110,u111,u112,u113,u114,u115,u116,u117,u118,u119,u120,u121,u122,u123,u124,u125,u126,u127,u128,u129,u130,u131,u132,u133,u134,u135,u136,u137,u138,u139,u140,u141,u142,u143,u144,u145,u146,u147,u148,u149,u150,u151,u152,u153,u154,u155,u156,u157,u158,u159,u160,u161,u162,u163,u164,u165,u166,u167,u168,u169,u170,u171,u172,u173,u174,u175,u176,u177,u178,u179,u180,u181,u182,u183,u184,u185,u186,u187,u188,u189,u190,u191,u192,u193,u194,u195,u196,u197,u198,u199,u200,u201,u202,u203,u204,u205,u206,u207,u208,u209,u210,u211,u212,u213,u214,u215,u216,u217,u218,u219,u220,u221,u222,u223,u224,u225,u226,u227,u228,u229,u230,u231,u232,u233,u234,u235,u236,u237,u238,u239,u240,u241,u242,u243,u244,u245,u246,u247,u248,u249,u250,u251,u252,u253],defers:=[]} w:=by
 have hci:(cell:Int)<4:=by omega
 simp only [ruldP3,ruldBody,Try.f4,Mute.cs1,Mute.cs2];by_cases hlb:lim<bf
 ·rw [decide_eq_true hlb] at v4;go_quiet (fail)
  exact ⟨rfl,_,_,_,_,_,_,_,_,_,_,_,_,_,_,_,_,_,_,_,_,_,_,_,_,rfl,below_drewN (Below.refl _ _) _⟩
 ·rw [decide_eq_false hlb] at v4;go_quiet (fail)
  exact ⟨rfl,_,_,_,_,_,_,_,_,_,_,_,_,_,_,_,_,_,_,_,_,_,_,_,_,rfl,below_drewN (Below.refl _ _) _⟩
theorem budF_bd {c:Cfg} {cell:Nat} (h:Mute.TabR c):∀i,∀b∈Mute.budF c cell i,1≤b∧b≤200
 |0,b,hb=>absurd hb (by simp [Mute.budF])
 |i+1,b,hb=>by
  rcases List.mem_append.1 hb with hb|hb
  ·exact budF_bd h i b hb
  ·obtain ⟨-,h3⟩:=h.2 (i % c.nT) (Nat.mod_lt _ h.1);have key:∀x,x≤c.nRow (i % c.nT)→∀b∈Mute.budR c cell (i % c.nT) x,1≤b∧b≤200:=fun x=>by
    induction x with
    |zero=>intro _ b hb;exact absurd hb (by simp [Mute.budR])
    |succ x ih=>
     intro hx b hb;rcases List.mem_append.1 hb with hb|hb
     ·exact ih (by omega) b hb
     ·split at hb
      ·rw [List.mem_singleton] at hb;subst hb;exact (h3 x (by omega)).2
      ·exact absurd hb (by simp)
   exact key _ (Nat.le_refl _) b hb
theorem tabM_of {w:World} {gc:Nat} {c:Cfg} {v:Value} (h:TableR w v c) (hn:c.nT=3) (hb:w.cell? ⟨gc,1,none⟩=some v):∃pt ct Fr,TabM w gc c pt ct Fr:=by
 obtain ⟨p,cap,G,rfl,-,-,-,-,h6,h7⟩:=h;rw [hn] at h6 h7 hb;have key:∀r,r<3→G r=.slice (match G r with|.slice p _ c=>(p,c)|_=>(none,0)).1 (c.nRow r) (match G r with|.slice p _ c=>(p,c)|_=>(none,0)).2∧Sl w (match G r with|.slice p _ c=>(p,c)|_=>(none,0)).1 (c.nRow r*2) (fun j=>.int .i64 (c.row r j)):=fun r hr=>by
  obtain ⟨q,d,e,-,-,-,-,g⟩:=h7 r hr;rw [e];exact ⟨rfl,g⟩
 exact ⟨p,cap,fun r=>(match G r with|.slice p _ c=>(p,c)|_=>(none,0)),hb,h6.congr fun r hr=>(key r hr).1,fun r hr=>(key r hr).2,block_lt_of_cell hb⟩
theorem cfg_forms {w:World} {v0 v1 v2 v3:Value} {c:Cfg} (h:CfgR w v0 v1 v2 v3 c):∃p0 c0 p1 c1 p2 c2 p3 c3,v0=.slice p0 c.nC c0∧v1=.slice p1 c.nT c1∧v2=.slice p2 c.nCh c2∧v3=.slice p3 c.nD c3:=by
 obtain ⟨p0,c0,G0,s0,-⟩:=h.cells;obtain ⟨p1,c1,G1,s1,-⟩:=h.table;obtain ⟨p2,c2,s2,-⟩:=h.chans;obtain ⟨p3,c3,s3,-⟩:=h.devs;exact ⟨p0,c0,p1,c1,p2,c2,p3,c3,s0,s1,s2,s3⟩
theorem cfgP_forms {w:World} {v0 v1 v2 v3:Value} {P:Pl} {Q:Nat→Pl} (h:CfgR w v0 v1 v2 v3 (cfgP P Q)):∃p0 c0 p1 c1 p2 c2 p3 c3,v0=.slice p0 4 c0∧v1=.slice p1 3 c1∧v2=.slice p2 (plK P) c2∧v3=.slice p3 (plD P) c3:=cfg_forms h
theorem trM_of {w:World} {gc gv cell cc m cu nb:Nat} {pc pu pb:Option Addr} {c:Cfg} {E:List (Int×Int×Int)} {B:List Int} (hc:CellsR w (.slice pc 4 cc) c) (hn:c.nC=4) (hcell:cell<4) (h0:w.cell? ⟨gc,0,none⟩=some (.slice pc 4 cc)) (hv:w.cell? ⟨gv,0,none⟩=some (.slice pu m cu))
  (ht:Sl w pu (m*3) (fun j=>.int .i64 (if j % 3=0 then (E.getD (j / 3) (0,0,0)).1 else if j % 3=1 then (E.getD (j / 3) (0,0,0)).2.1 else (E.getD (j / 3) (0,0,0)).2.2))) (hb:Sl w pb nb (fun j=>.int .i64 (B.getD j 0))):TrM w gc gv cell pc cc (c.lim cell) pu m cu E pb nb B:=by
 obtain ⟨p,cap,G,e,-,-,-,-,h6,h7⟩:=hc;rw [hn] at h6 h7;injection e with e1 _ _
 subst e1;refine ⟨h0,?_,hv,fun k hk=>?_,fun j hj=>?_⟩
 ·obtain ⟨b,o,e,hcc⟩:=h6.at (by omega);refine ⟨b,o,e,?_⟩;have:=hcc (cell*3+2) (by omega);rw [(h7 cell hcell).2.2,←Nat.add_assoc] at this;exact this
 ·obtain ⟨b,o,e,hcc⟩:=ht.at (by omega);have a0:=hcc (k*3) (by omega);have a1:=hcc (k*3+1) (by omega);have a2:=hcc (k*3+2) (by omega);have m0:k*3 % 3=0:=by omega
  have m1:(k*3+1) % 3=1:=by omega
  have m2:(k*3+2) % 3=2:=by omega
  have d0:k*3 / 3=k:=by omega
  have d1:(k*3+1) / 3=k:=by omega
  have d2:(k*3+2) / 3=k:=by omega
  rw [m0,d0,if_pos rfl] at a0;rw [m1,d1,if_neg (by omega),if_pos rfl,←Nat.add_assoc] at a1;rw [m2,d2,if_neg (by omega),if_neg (by omega),←Nat.add_assoc] at a2;exact ⟨b,o,e,a0,a1,a2⟩
 ·obtain ⟨b,o,e,hcc⟩:=hb.at (by omega);exact ⟨b,o,e,hcc j hj⟩
end Go.Proofs.Ytdoghgnifkgfdaa
namespace Go.Proofs.Ytdoghgnifkgfdaa.Mute
open Go Go.Conc Go.RowKit
end Go.Proofs.Ytdoghgnifkgfdaa.Mute
