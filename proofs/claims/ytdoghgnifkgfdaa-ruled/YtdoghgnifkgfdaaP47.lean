import Derived.Test.YtdoghgnifkgfdaaP46
set_option maxRecDepth 100000
set_option maxHeartbeats 16000000
namespace Go.Proofs.Ytdoghgnifkgfdaa
open Go.RowKit
noncomputable def ruldP2:Code:=Mute.cs1 (Mute.cs2 (Mute.cs2 (Mute.cs2 (Mute.cs2 (Mute.cs2 (Mute.cs2 (Mute.cs2 (Mute.cs2 (Mute.cs2 (Mute.cs2 (Mute.cs2 (Mute.cs2 (Mute.cs2 (Mute.cs2 (ruldBody)))))))))))))))
structure TrM (w:World) (gc gv cell:Nat) (pc:Option Addr) (cc:Nat) (lim:Int) (pu:Option Addr) (m cu:Nat) (E:List (Int×Int×Int)) (pb:Option Addr) (nb:Nat) (B:List Int):Prop where
 box:w.cell? ⟨gc,0,none⟩=some (.slice pc 4 cc)
 lim_:∃kb ko,pc=some ⟨kb,ko,none⟩∧w.cell? ⟨kb,ko+cell*3+2,none⟩=some (.int .i64 lim)
 view:w.cell? ⟨gv,0,none⟩=some (.slice pu m cu)
 tr:∀k,k<m→∃ub uo,pu=some ⟨ub,uo,none⟩∧w.cell? ⟨ub,uo+k*3,none⟩=some (.int .i64 (E.getD k (0,0,0)).1)∧w.cell? ⟨ub,uo+k*3+1,none⟩=some (.int .i64 (E.getD k (0,0,0)).2.1)∧w.cell? ⟨ub,uo+k*3+2,none⟩=some (.int .i64 (E.getD k (0,0,0)).2.2)
 bud:∀j,j<nb→∃bb bo,pb=some ⟨bb,bo,none⟩∧w.cell? ⟨bb,bo+j,none⟩=some (.int .i64 (B.getD j 0))
section
variable {w w':World} {gc gv cell cc m cu nb:Nat} {pc pu pb:Option Addr} {lim:Int} {E:List (Int×Int×Int)} {B:List Int}
theorem TrM.keep (h:TrM w gc gv cell pc cc lim pu m cu E pb nb B) (hk:∀a v,w.cell? a=some v→w'.cell? a=some v):TrM w' gc gv cell pc cc lim pu m cu E pb nb B:=by
 obtain ⟨h1,⟨kb,ko,h2,h3⟩,h4,h5,h6⟩:=h;refine ⟨hk _ _ h1,⟨kb,ko,h2,hk _ _ h3⟩,hk _ _ h4,fun k hk'=>?_,fun j hj=>?_⟩
 ·obtain ⟨ub,uo,q1,q2,q3,q4⟩:=h5 k hk';exact ⟨ub,uo,q1,hk _ _ q2,hk _ _ q3,hk _ _ q4⟩
 ·obtain ⟨bb,bo,q1,q2⟩:=h6 j hj;exact ⟨bb,bo,q1,hk _ _ q2⟩
theorem TrM.below (h:TrM w gc gv cell pc cc lim pu m cu E pb nb B) (hb:Below w.heap.size w w'):TrM w' gc gv cell pc cc lim pu m cu E pb nb B:=h.keep (below_keep hb)
end
theorem ruld_P2 {gc gv cell cc m cu nb cb:Nat} {pc pu pb:Option Addr} {lim sf bf:Int} {E:List (Int×Int×Int)} {B:List Int} (w:World) (ht:TrM w gc gv cell pc cc lim pu m cu E pb nb B) (hR:Mute.Rd lim B ⟨0,0,false,0⟩ E ⟨sf,bf,false,B.length⟩) (hm:E.length=m) (hnb:B.length=nb) (hl:0≤lim∧lim≤5) (_hb:0≤bf∧bf≤6) (hs:0≤sf∧sf≤1000000) (hnb2:nb≤1000) (hm2:m≤1000000000) (hc4:cell<4) (hBB:∀j,j<nb→1≤B.getD j 0∧B.getD j 0≤200) (u0 u1 u2 u3 u4 u5 u6 u9 u10 u12 u14 u15 u16 u21 u22 u23 u24 u25 u26 u27 u28 u29 u30 u31 u32 u33 u34 u35 u36 u37 u38 u39 u40 u41 u42 u43 u44 u45 u46 u47 u48 u49 u50 u51 u52 u53 u54 u55 u56 u57 u58 u59 u60 u61 u62 u63 u64 u65 u66 u67 u68 u69 u70 u71 u72 u73 u74 u75 u76 u77 u78 u79 u80 u81 u82 u83 u84 u85 u86 u87 u88 u89 u90 u91 u92 u93 u94 u95 u96 u97 u98 u99 u100 u101 u102 u103 u104 u105 u106 u107 u108 u109 u110 u111 u112 u113 u114 u115 u116 u117 u118 u119 u120 u121 u122 u123 u124 u125 u126 u127 u128 u129 u130 u131 u132 u133 u134 u135 u136 u137 u138 u139 u140 u141 u142 u143 u144 u145 u146 u147 u148 u149 u150 u151 u152 u153 u154 u155 u156 u157 u158 u159 u160 u161 u162 u163 u164 u165 u166 u167 u168 u169 u170 u171 u172 u173 u174 u175 u176 u177 u178 u179 u180 u181 u182 u183 u184 u185 u186 u187 u188 u189 u190 u191 u192 u193 u194 u195 u196 u197 u198 u199 u200 u201 u202 u203 u204 u205 u206 u207 u208 u209 u210 u211 u212 u213 u214 u215 u216 u217 u218 u219 u220 u221 u222 u223 u224 u225 u226 u227 u228 u229 u230 u231 u232 u233 u234 u235 u236 u237 u238 u239 u240 u241 u242 u243 u244 u245 u246 u247 u248 u249 u250 u251 u252 u253:Value):
  Code.wp Try.prog ruldP2 (fun e a' w'=>e=.normal∧∃(y6 y21 y22 y23 y87 y88 y89 y90 y91 y92 y93 y94 y95 y96 y97 y98 y99 y100 y101 y102 y103 y104 y105 y106 y107 y108 y109 y110 y111 y112 y113 y114 y115 y116 y117 y118 y119 y120 y121 y122 y123 y124 y125 y126 y127 y128 y129 y130 y131 y132 y133 y134 y135 y136 y137 y138 y139 y140 y141 y142 y143 y144 y145 y146 y147 y148 y149 y150 y151 y152 y153 y154 y155 y156 y157 y158 y159 y160 y161 y162 y163 y164 y165 y166 y167 y168 y169 y170 y171 y172 y173 y174 y175 y176 y177 y178 y179 y180 y181 y182 y183 y184 y185 y186 y187 y188 y189 y190 y191 y192 y193 y194 y195 y196 y197 y198 y199 y200 y201 y202 y203 y204 y205 y206 y207 y208 y209 y210 y211 y212 y213 y214 y215 y216 y217 y218 y219 y220 y221 y222 y223 y224 y225 y226 y227 y228 y229:Value),a'={tmps:=#[u0,u1,u2,u3,u4,u5,y6,.pointer (some ⟨gc,0,none⟩),.int .i64 cell,u9,u10,.pointer (some ⟨gv,0,none⟩),u12,.slice pb nb cb,u14,u15,u16,.int .i64 sf,.int .i64 bf,.bool false,.int .i64 nb,y21,y22,y23,u24,u25,u26,u27,u28,u29,u30,u31,u32,u33,u34,u35,u36,u37,u38,u39,u40,u41,u42,u43,u44,u45,u46,u47,u48,u49,u50,u51,u52,u53,u54,u55,u56,u57,u58,u59,u60,u61,u62,u63,u64,u65,u66,u67,u68,u69,u70,u71,u72,u73,u74,u75,u76,u77,u78,u79,u80,u81,u82,u83,u84,u85,u86,y87,y88,y89,y90,y91,y92,y93,y94,y95,y96,y97,y98,y99,y100,y101,y102,y103,y104,y105,y106,y107,y108,y109,y110,y111,y112,y113,y114,y115,y116,y117,y118,y119,y120,y121,y122,y123,y124,y125,y126,y127,y128,y129,y130,y131,y132,y133,y134,y135,y136,y137,y138,y139,y140,y141,y142,y143,y144,y145,y146,y147,y148,y149,y150,y151,y152,y153,y154,y155,y156,y157,y158,y159,y160,y161,y162,y163,y164,y165,y166,y167,y168,y169,y170,y171,y172,y173,y174,y175,y176,y177,y178,y179,y180,y181,y182,y183,y184,y185,y186,y187,y188,y189,y190,y191,y192,y193,y194,y195,y196,y197,y198,y199,y200,y201,y202,y203,y204,y205,y206,y207,y208,y209,y210,y211,y212,y213,y214,y215,y216,y217,y218,y219,y220,y221,y222,y223,y224,y225,y226,y227,y228,y229,u230,u231,u232,u233,u234,u235,u236,u237,u238,u239,u240,u241,u242,u243,u244,u245,u246,u247,u248,u249,u250,u251,u252,u253],defers:=[]}∧Below w.heap.size w w') {tmps:=#[u0,u1,u2,u3,u4,u5,u6,.pointer (some ⟨gc,0,none⟩),.int .i64 cell,u9,u10,.pointer (some ⟨gv,0,none⟩),u12,.slice pb nb cb,u14,u15,u16,.int .i64 0,.int .i64 0,.bool false,.int .i64 0,u21,u22,u23,u24,u25,u26,u27,u28,u29,u30,u31,u32,u33,u34,u35,u36,u37,u38,u39,u40,u41,u42,u43,u44,u45,u46,u47,u48,u49,u50,u51,u52,u53,u54,u55,u56,u57,u58,u59,u60,u61,u62,u63,u64,u65,u66,u67,u68,u69,u70,u71,u72,u73,u74,u75,u76,u77,u78,u79,u80,u81,u82,u83,u84,u85,u86,u87,u88,u89,u90,u91,u92,u93,u94,u95,u96,u97,u98,u99,u100,u101,u102,u103,u104,u105,u106,u107,u108,u109,u110,u111,u112,u113,u114,u115,u116,u117,u118,u119,u120,u121,u122,u123,u124,u125,u126,u127,u128,u129,u130,u131,u132,u133,u134,u135,u136,u137,u138,u139,u140,u141,u142,u143,u144,u145,u146,u147,u148,u149,u150,u151,u152,u153,u154,u155,u156,u157,u158,u159,u160,u161,u162,u163,u164,u165,u166,u167,u168,u169,u170,u171,u172,u173,u174,u175,u176,u177,u178,u179,u180,u181,u182,u183,u184,u185,u186,u187,u188,u189,u190,u191,u192,u193,u194,u195,u196,u197,u198,u199,u200,u201,u202,u203,u204,u205,u206,u207,u208,u209,u210,u211,u212,u213,u214,u215,u216,u217,u218,u219,u220,u221,u222,u223,u224,u225,u226,u227,u228,u229,u230,u231,u232,u233,u234,u235,u236,u237,u238,u239,u240,u241,u242,u243,u244,u245,u246,u247,u248,u249,u250,u251,u252,u253],defers:=[]} w:=by
 have HT:Hid (TrM w gc gv cell pc cc lim pu m cu E pb nb B):=ht;obtain ⟨st,s0,s1,s2,s3⟩:=hR.fn;rw [hm] at s1 s2 s3;have HS:Hid (st 0=⟨0,0,false,0⟩∧st m=⟨sf,bf,false,nb⟩∧(∀k,k<m→Mute.OkE lim B (st k) (E.getD k (0,0,0)) (st (k+1)))∧∀k,k≤m→((0:Int)≤(st k).steps∧(0:Int)≤(st k).broken)∧(st k).steps≤sf∧(st k).broken≤bf∧(st k).at_≤nb):=⟨s0,hnb▸s1,s2,hnb▸s3⟩;have HBB:Hid (B.length=nb∧∀j,j<nb→1≤B.getD j 0∧B.getD j 0≤200):=⟨hnb,hBB⟩;clear ht hR s0 s1 s2 s3 hm hnb hBB;have hci:(cell:Int)<4:=by omega
 simp only [ruldP2,ruldBody,Try.f4,Mute.cs1,Mute.cs2];go_wp2_with fail
 go_loopw [17,18,19,20,21] (fun s b l a i wr=>∃(k sa:Nat) (ss sb:Int) (sl:Bool),k≤m∧i=.int .i64 k∧s=.int .i64 ss∧b=.int .i64 sb∧l=.bool sl∧a=.int .i64 sa∧Hid (st k=⟨ss,sb,sl,sa⟩∧Below w.heap.size w wr)) (fun _ _ _ _ i _=>m-(intOf i).toNat)
 case atStart=>exact ⟨0,0,0,0,false,Nat.zero_le _,rfl,rfl,rfl,rfl,rfl,HS.out.1,Below.refl _ _⟩
 case round=>
  obtain ⟨k,sa,ss,sb,sl,hk,rfl,rfl,rfl,rfl,rfl,HR⟩:=hrel;have hT:=HT.out.below HR.out.2;have g0:=hT.view;by_cases hlt:k<m
  ·have hki:(k:Int)<(m:Int):=by omega
   obtain ⟨ub,uo,epu,t0,t1,t2⟩:=hT.tr k hlt;rw [epu] at g0;have hok:=HS.out.2.2.1 k hlt;have hbd:=HS.out.2.2.2 k hk;rw [HR.out.1] at hok hbd;replace hbd:(0≤ss∧0≤sb)∧ss≤sf∧sb≤bf∧sa≤nb:=hbd;generalize hEE:E.getD k (0,0,0)=ee at *;obtain ⟨e0,e1,e2⟩:=ee;have t0:wr.cell? ⟨ub,uo+k*3,none⟩=some (.int .i64 e0):=t0;have t1:wr.cell? ⟨ub,uo+k*3+1,none⟩=some (.int .i64 e1):=t1;have t2:wr.cell? ⟨ub,uo+k*3+2,none⟩=some (.int .i64 e2):=t2;clear hEE epu
   go_upto_region 28 with fail
   have HX:Hid (Below w.heap.size w (wr.alloc (.cells #[.int .i64 e0,.int .i64 e1,.int .i64 e2] 67))∧RowF (wr.alloc (.cells #[.int .i64 e0,.int .i64 e1,.int .i64 e2] 67)) wr.heap.size 3 67 (cells3 (.int .i64 e0) (.int .i64 e1) (.int .i64 e2))):=⟨HR.out.2.alloc HR.out.2.size _,row3 wr _ _ _ _⟩;clear hT t0 t1 t2 g0;have HST:Hid (st k=⟨ss,sb,sl,sa⟩):=HR.out.1;clear HR;generalize wr.alloc (.cells #[.int .i64 e0,.int .i64 e1,.int .i64 e2] 67)=W3 at *;generalize wr.heap.size=gX at *;have x0:W3.cell? ⟨gX,0,none⟩=some (.int .i64 e0):=HX.out.2.cell (j:=0) (by omega);have x1:W3.cell? ⟨gX,1,none⟩=some (.int .i64 e1):=HX.out.2.cell (j:=1) (by omega);have x2:W3.cell? ⟨gX,2,none⟩=some (.int .i64 e2):=HX.out.2.cell (j:=2) (by omega);have hT:=HT.out.below HX.out.1;have g3:=hT.box;obtain ⟨kb,ko,epc,l0⟩:=hT.lim_;rw [epc] at g3;clear epc;rcases hok with ⟨q1,q2,q3,q4⟩|⟨q1,q2,q3,q5,q6,q7,q4⟩|⟨q1,q2,q4,q5⟩
   ·replace q1:e0=1:=q1;replace q2:sl=false:=q2;replace q3:sb≤lim:=q3;have HN:Hid (st (k+1)=⟨ss,sb,sl,sa⟩∧Below w.heap.size w W3):=⟨q4,HX.out.1⟩;clear q4 hT;subst q1 q2;have h1:¬lim<sb:=by omega
    go_wp2_with fail
    exact ⟨⟨k+1,sa,ss,sb,false,by omega,by go_num,rfl,rfl,rfl,rfl,HN⟩,by simp [intOf];omega⟩
   ·replace q1:e0=2:=q1;replace q2:sl=false:=q2;replace q3:e2=sb+1:=q3;replace q5:1≤e1:=q5;replace q6:e1≤3:=q6;replace q7:sb≤lim:=q7;have HN:Hid (st (k+1)=⟨ss,sb+1,true,sa⟩∧Below w.heap.size w W3):=⟨q4,HX.out.1⟩;clear q4 hT;subst q1 q2 q3;have h1:¬lim<sb:=by omega
    have h2:IntKind.i64.wrap (sb+1)=sb+1:=by rw [IntKind.wrap_i64];omega
    have h3:IntKind.i64.wrap (lim+1)=lim+1:=by rw [IntKind.wrap_i64];omega
    have h4:¬e1<1:=by omega
    have h5:¬3<e1:=by omega
    have h6:¬lim+1<sb+1:=by omega
    go_wp2_with fail
    exact ⟨⟨k+1,sa,ss,sb+1,true,by omega,by go_num,rfl,by go_num,rfl,rfl,HN⟩,by simp [intOf];omega⟩
   ·replace q1:e0=3:=q1;replace q2:sa<nb:=by have:=HBB.out.1;have q2:sa<B.length:=q2;omega
    obtain ⟨bb,bo,epb,b0⟩:=hT.bud sa q2;have hbv:=HBB.out.2 sa q2;obtain ⟨bv,HBV⟩:∃bv,Hid (B.getD sa 0=bv):=⟨_,rfl⟩;replace q5:(sl=false∧lim<sb∧e1=0∧e2=4)∨(sl=true∧e2=3∧1≤e1∧e1≤B.getD sa 0)∨(sl=false∧sb≤lim∧e2=1∧1≤e1∧e1≤B.getD sa 0)∨(sl=false∧sb≤lim∧e2=2∧1≤e1∧e1=B.getD sa 0):=q5;rw [HBV.out] at b0 hbv q5;have HN:Hid (st (k+1)=⟨ss+e1,sb,false,sa+1⟩∧Below w.heap.size w W3):=⟨q4,HX.out.1⟩;have hsi:(sa:Int)<(nb:Int):=by omega
    have hsg:¬(nb:Int)≤(sa:Int):=by omega
    have hsn:¬nb≤sa:=by omega
    clear q4 hT;subst epb q1;rcases q5 with ⟨p1,p2,p3,p4⟩|⟨p1,p4,p5,p6⟩|⟨p1,p2,p4,p5,p6⟩|⟨p1,p2,p4,p5,p6⟩
    ·subst p1 p3 p4;have h2:¬sb≤lim:=by omega
     have h9:IntKind.i64.wrap (ss+0)=ss+0:=by rw [IntKind.wrap_i64];omega
     go_upto_region 42 with fail
     go_quiet (fail)
     go_upto_region 44 with fail
     go_quiet (fail)
     go_wp2_with fail
     exact ⟨⟨k+1,sa+1,ss+0,sb,false,by omega,by go_num,by go_num,rfl,rfl,by go_num,HN.out.1,by first|exact below_drewN HN.out.2 _|exact below_drewN (below_drewN HN.out.2 _) _⟩,by simp [intOf];omega⟩
    ·subst p1 p4;have h2:¬e1<1:=by omega
     have h3:¬bv<e1:=by omega
     have h4:¬e1=0:=by omega
     by_cases hsl:lim<sb
     ·have h9:IntKind.i64.wrap (ss+e1)=ss+e1:=by rw [IntKind.wrap_i64];omega
      go_upto_region 42 with fail
      go_quiet (fail)
      go_upto_region 44 with fail
      go_quiet (fail)
      go_wp2_with fail
      exact ⟨⟨k+1,sa+1,ss+e1,sb,false,by omega,by go_num,by go_num,rfl,rfl,by go_num,HN.out.1,by first|exact below_drewN HN.out.2 _|exact below_drewN (below_drewN HN.out.2 _) _⟩,by simp [intOf];omega⟩
     ·have h9:IntKind.i64.wrap (ss+e1)=ss+e1:=by rw [IntKind.wrap_i64];omega
      go_upto_region 42 with fail
      go_quiet (fail)
      go_upto_region 44 with fail
      go_quiet (fail)
      go_wp2_with fail
      exact ⟨⟨k+1,sa+1,ss+e1,sb,false,by omega,by go_num,by go_num,rfl,rfl,by go_num,HN.out.1,by first|exact below_drewN HN.out.2 _|exact below_drewN (below_drewN HN.out.2 _) _⟩,by simp [intOf];omega⟩
    ·subst p1 p4;have h1:¬lim<sb:=by omega
     have h2:¬e1<1:=by omega
     have h3:¬bv<e1:=by omega
     have h4:¬e1=0:=by omega
     have h9:IntKind.i64.wrap (ss+e1)=ss+e1:=by rw [IntKind.wrap_i64];omega
     go_upto_region 42 with fail
     go_quiet (fail)
     go_upto_region 44 with fail
     go_quiet (fail)
     go_wp2_with fail
     exact ⟨⟨k+1,sa+1,ss+e1,sb,false,by omega,by go_num,by go_num,rfl,rfl,by go_num,HN.out.1,by first|exact below_drewN HN.out.2 _|exact below_drewN (below_drewN HN.out.2 _) _⟩,by simp [intOf];omega⟩
    ·subst p1 p4 p6;have h1:¬lim<sb:=by omega
     have h2:¬e1<1:=by omega
     have h4:¬e1=0:=by omega
     have h9:IntKind.i64.wrap (ss+e1)=ss+e1:=by rw [IntKind.wrap_i64];omega
     clear hbv p5
     go_upto_region 42 with fail
     go_quiet (fail)
     go_upto_region 44 with fail
     go_quiet (fail)
     go_wp2_with fail
     exact ⟨⟨k+1,sa+1,ss+e1,sb,false,by omega,by go_num,by go_num,rfl,rfl,by go_num,HN.out.1,by first|exact below_drewN HN.out.2 _|exact below_drewN (below_drewN HN.out.2 _) _⟩,by simp [intOf];omega⟩
  ·obtain rfl:k=m:=by omega
   have hst:=HR.out.1;rw [HS.out.2.1] at hst;injection hst with x1 x2 x3 x4
   subst x1 x2 x3 x4;have HE:Hid (Below w.heap.size w wr):=HR.out.2;clear hT;go_wp2_with fail
   exact ⟨rfl,_,_,_,_,_,_,_,_,_,_,_,_,_,_,_,_,_,_,_,_,_,_,_,_,_,_,_,_,_,_,_,_,_,_,_,_,_,_,_,_,_,_,_,_,_,_,_,_,_,_,_,_,_,_,_,_,_,_,_,_,_,_,_,_,_,_,_,_,_,_,_,_,_,_,_,_,_,_,_,_,_,_,_,_,_,_,_,_,_,_,_,_,_,_,_,_,_,_,_,_,_,_,_,_,_,_,_,_,_,_,_,_,_,_,_,_,_,_,_,_,_,_,_,_,_,_,_,_,_,_,_,_,_,_,_,_,_,_,_,_,_,_,_,_,_,_,_,rfl,HE.out⟩
end Go.Proofs.Ytdoghgnifkgfdaa
