import Derived.Test.YtdoghgnifkgfdaaP38
import Derived.Test.YtdoghgnifkgfdaaP40
set_option maxRecDepth 100000
set_option maxHeartbeats 16000000
namespace Go.Proofs.Ytdoghgnifkgfdaa.Mute
open Go Go.Conc Go.RowKit
theorem cfg2_ok {L0 L1 rw dv:List Int} {n0 n1:Nat} {lm:Int} {dvn:Bool} (h0:1≤n0∧n0≤48) (h1:1≤n1∧n1≤48) (hl:0≤lm∧lm≤5) (hrw:RowOk 2 2 (fun j=>rw.getD j 0)) (hd:dv.length≤4) (hdv:∀j,j<dv.length→0≤dv.getD j 0∧dv.getD j 0<2)
  (hi0:∀k,k<n0→InsAt (cfg2 L0 L1 n0 n1 lm rw dvn dv) 0 k) (hi1:∀k,k<n1→InsAt (cfg2 L0 L1 n0 n1 lm rw dvn dv) 1 k):CheckIs (cfg2 L0 L1 n0 n1 lm rw dvn dv) 0 0:=by
 refine check_of ⟨by show 1≤2;omega,by show 2≤6;omega⟩ ⟨by show 1≤1;omega,by show 1≤8;omega⟩ (fun i hi=>hrw) (by show 1≤8;omega) (fun i hi=>?_) hd (fun i hi=>hdv i hi) (fun i hi=>?_)
 ·have hi:i<1:=hi;obtain rfl:i=0:=by omega
  exact ⟨.inl rfl,⟨by show (0:Int)≤0;omega,by show (0:Int)<2;omega⟩,⟨by show (0:Int)≤1;omega,by show (1:Int)<2;omega⟩,by show (0:Int)≠1;omega⟩
 ·have hi:i<2:=hi;have:i=0∨i=1:=by omega
  rcases this with rfl|rfl
  ·exact ⟨hl,by show 0≤16;omega,h0,hi0⟩
  ·exact ⟨⟨by show (0:Int)≤0;omega,by show (0:Int)≤5;omega⟩,by show 0≤16;omega,h1,hi1⟩
theorem anew_ok {r x:Nat} (hx:x≤5):CheckIs (anewC r x) 0 0:=by
 refine cfg2_ok ⟨by omega,by omega⟩ ⟨by omega,by omega⟩ ⟨by omega,by omega⟩ ⟨by omega,fun j hj=>?_,by decide⟩ (by decide) (fun j hj=>absurd hj (Nat.not_lt_zero j)) (fun j hj=>?_) (fun j hj=>?_)
 ·have:j=0∨j=1:=by omega
  rcases this with rfl|rfl
  ·exact ⟨by decide,by decide,by decide⟩
  ·exact ⟨by decide,by decide,by decide⟩
 ·have:j=0∨j=1∨j=2∨j=3∨j=4∨j=5∨j=6∨j=7∨j=8∨j=9∨j=10∨j=11∨j=12:=by omega
  unfold InsAt InsOk UseOk;rcases this with rfl|rfl|rfl|rfl|rfl|rfl|rfl|rfl|rfl|rfl|rfl|rfl|rfl<;>simp [cfg2,anewL0]
 ·have:j=0∨j=1∨j=2∨j=3∨j=4:=by omega
  unfold InsAt InsOk UseOk;rcases this with rfl|rfl|rfl|rfl|rfl<;>simp [cfg2,anewL1]
theorem anew_cfgW {r x:Nat} (hr:r≤6):CfgW (anewC r x):=cfgW_of fun i hi=>by
 have hi:i<2:=hi;have:i=0∨i=1:=by omega
 rcases this with rfl|rfl
 ·refine ⟨anewL0 r,rfl,fun y hy=>?_⟩;simp only [anewL0,List.mem_cons,List.not_mem_nil,or_false] at hy;omega
 ·exact ⟨anewL1,rfl,by decide⟩
def stA (r x:Nat):Nat→KSq
 |0=>sq0 (anewC r x)
 |i+1=>frameC (anewC r x) 0 [] (stA r x i)
theorem sa_st {r x:Nat} (hr:1≤r∧r≤6) (hx:x≤5):∀i,SA r x i (stA r x i)
 |0=>sa0 r x hr.1
 |i+1=>(sa_st hr hx i).frame hr hx
theorem SA.m_le {r x i:Nat} {s:KSq} (h:SA r x i s) (hi:i≤40) (j:Nat):s.m j+1300≤1000000000:=by
 by_cases h0:j=0
 ·subst h0;obtain ⟨E,_,e,l,_⟩:=h.e0;omega
 by_cases h1:j=1
 ·subst h1;obtain ⟨E,_,e,l,_⟩:=h.e1;omega
 ·have:=h.mO j (by omega);omega
theorem own_append {w:World} {base n b m:Nat} {v:Value} {xs:List Value} (h:w.ownsRow base 2 1 v n xs) (L:List Int) (hm:L.length=m) (hr:RowF w b m 2 (intsF L)) (hb:n+m≤1000) (hbase:base≤w.heap.size) (ty:TypeId):
  ∃v' w',(Builtin.append_ #[56,56] ty #[v,.slice (some ⟨b,0,none⟩) m m]).run Try.prog w=.ok v' w'∧w'.ownsRow base 2 1 v' (n+m) (xs++L.map (Value.int .i64 ·))∧w.grownBy w' v.ownBlock:=by
 obtain ⟨i,hi,hz,hsz,hby⟩:=info_parts info_i64;obtain ⟨v',w',h1,h2,h3,_⟩:=run_append_own (P:=Try.prog) (w:=w) base 56 ty 2 i (.int .i64 0) 1 8 Try.underlying56 hi hz hsz hby rfl (by omega) v n xs h ⟨b,0,none⟩ m m (L.map (Value.int .i64 ·)) (by simp [hm]) (fun j u hu=>by
  have hj:j<m:=by have:=(List.getElem?_eq_some_iff.1 hu).1;simpa [hm] using this
  rw [Addr.add_lit,Nat.zero_add,hr.cell hj];unfold intsF;have hj':j<L.length:=by omega
  simp [hj'] at hu ⊢;exact hu) (fun u hu=>by
  obtain ⟨y,_,rfl⟩:=List.mem_map.1 hu;rfl) (by simp only [maxLen];omega) (by omega) hbase
 exact ⟨v',w',h1,h2,h3⟩
theorem grown_below {n:Nat} {a w w':World} {v:Value} {base e s k:Nat} {xs:List Value} (h:Below n a w) (ho:w.ownsRow base e s v k xs) (hg:w.grownBy w' v.ownBlock) (hb:n≤base) (hn:n≤w.heap.size):Below n a w':=
 ⟨hg.os.trans h.os,hg.tape.trans h.tape,hg.output.trans h.output,Nat.le_trans h.size hg.size,fun x hx=>(hg.block x (by omega) fun e=>by have:=(ho.lt x e.symm).1;omega).trans (h.block x hx)⟩
theorem saidA_more (r x:Nat):∀i,r*(x+1)≤i→saidA r x i=saidA r x (r*(x+1))
 |0,h=>by have:r*(x+1)=0:=by omega
          rw [this]
 |i+1,h=>by
  by_cases e:r*(x+1)=i+1
  ·rw [e]
  ·show saidA r x i++(if i<r*(x+1) then _ else _)=_;rw [if_neg (by omega),List.append_nil];exact saidA_more r x i (by omega)
theorem saidA_len (r x:Nat):∀i,i≤r*(x+1)→(saidA r x i).length=i
 |0,_=>rfl
 |i+1,h=>by
  show (saidA r x i++(if i<r*(x+1) then _ else _)).length=_;rw [if_pos (by omega),List.length_append,saidA_len r x i (by omega)];rfl
theorem heardA_len (r x:Nat):∀i,(heardA r x i).length=i*2
 |0=>rfl
 |i+1=>by
  show (heardA r x i++(if waitA r x i=[] then _ else _)).length=_;rw [List.length_append,heardA_len r x i];split
  ·simp;omega
  ·simp;omega
noncomputable def anB1:Code:=match Try.f6.body with
 |some (.seq _ (.seq _ (.seq _ (.seq _ (.seq _ (.seq _ (.seq _ (.seq _ (.seq (.seq _ (.block _ (.loop c))) _)))))))))=>c
 |_=>.skip
noncomputable def anR1:Code:=match Try.f6.body with
 |some (.seq _ (.seq _ (.seq _ (.seq _ (.seq _ (.seq _ (.seq _ (.seq _ (.seq _ c)))))))))=>c
 |_=>.skip
noncomputable def anB2:Code:=match anR1 with
 |.seq _ (.seq _ (.seq _ (.seq _ (.seq _ (.seq (.seq _ (.block _ (.loop c))) _)))))=>c
 |_=>.skip
noncomputable def anR2:Code:=match anR1 with
 |.seq _ (.seq _ (.seq _ (.seq _ (.seq _ (.seq _ c)))))=>c
 |_=>.skip
noncomputable def anB3:Code:=match anR2 with
 |.seq (.seq _ (.block _ (.loop c))) _=>c
 |_=>.skip
noncomputable def anR3:Code:=match anR2 with
 |.seq _ c=>c
 |_=>.skip
section
variable {Post:Goroutine→World→Prop} {W0:World} {k:Ker} {N:NetK} {t:Tab} {r x f:Nat}
theorem an_loop1 (hO:Of (anewC r x) k N t) (hr:1≤r∧r≤6) (hx:x≤5) (hf:f≤40) (cs:List Frame):
  ∀(rem i:Nat) (fT:Nat→Value) (lr:Nat→Option Row) (S:Nat→Prop) (w:World) (u0 u1 u2 u3 u4 u5 u9 u10 u12 u15 u16 u17 u18 u19 u20 u21 u22 u23 u24 u25 u26 u27 u28 u29 u30 u31 u32 u33 u34 u35 u36 u37 u38 u39 u40 u41 u42 u43 u44 u45 u46 u47 u48 u49 u50 u51 u52 u53 u54 u55 u56 u57 u58 u59 u60 u61 u62 u63 u64 u65 u66 u67 u68 u69 u70 u71 u72 u73 u74 u75 u76 u77 u78 u79 u80 u81 u82 u83 u84 u85 u86 u87 u88 u89 u90 u91 u92 u93 u94 u95 u96 u97 u98 u99 u100 u101 u102 u103 u104 u105 u106 u107 u108 u109 u110 u111 u112 u113 u114 u115 u116 u117 u118 u119 u120 u121 u122 u123 u124 u125 u126 u127 u128 u129 u130 u131 u132 u133 u134 u135 u136 u137 u138 u139 u140 u141 u142 u143 u144 u145 u146 u147 u148 u149 u150 u151 u152 u153 u154 u155 u156 u157 u158 u159 u160 u161 u162 u163 u164 u165 u166 u167 u168 u169 u170 u171 u172 u173 u174 u175 u176 u177 u178 u179 u180 u181 u182 u183 u184 u185 u186 u187 u188 u189 u190 u191 u192 u193 u194 u195 u196 u197 u198 u199 u200 u201 u202 u203 u204 u205 u206:Value),i+rem=f→KFullQ w k N t (stA r x i) fT lr 0 S→Below W0.heap.size W0 w→(∀b,S b→W0.heap.size≤b)→
   (∀(fT:Nat→Value) (lr:Nat→Option Row) (S:Nat→Prop) (w':World) (u0 u1 u2 u3 u4 u5 u9 u10 u12 u15 u16 u17 u18 u19 u20 u21 u22 u23 u24 u25 u26 u27 u28 u29 u30 u31 u32 u33 u34 u35 u36 u37 u38 u39 u40 u41 u42 u43 u44 u45 u46 u47 u48 u49 u50 u51 u52 u53 u54 u55 u56 u57 u58 u59 u60 u61 u62 u63 u64 u65 u66 u67 u68 u69 u70 u71 u72 u73 u74 u75 u76 u77 u78 u79 u80 u81 u82 u83 u84 u85 u86 u87 u88 u89 u90 u91 u92 u93 u94 u95 u96 u97 u98 u99 u100 u101 u102 u103 u104 u105 u106 u107 u108 u109 u110 u111 u112 u113 u114 u115 u116 u117 u118 u119 u120 u121 u122 u123 u124 u125 u126 u127 u128 u129 u130 u131 u132 u133 u134 u135 u136 u137 u138 u139 u140 u141 u142 u143 u144 u145 u146 u147 u148 u149 u150 u151 u152 u153 u154 u155 u156 u157 u158 u159 u160 u161 u162 u163 u164 u165 u166 u167 u168 u169 u170 u171 u172 u173 u174 u175 u176 u177 u178 u179 u180 u181 u182 u183 u184 u185 u186 u187 u188 u189 u190 u191 u192 u193 u194 u195 u196 u197 u198 u199 u200 u201 u202 u203 u204 u205 u206:Value),KFullQ w' k N t (stA r x f) fT lr 0 S→Below W0.heap.size W0 w'→(∀b,S b→W0.heap.size≤b)→RunsB Try.prog Post (G ((base 6).at {tmps:=(List.toArray ((u0)::(u1)::(u2)::(u3)::(u4)::(u5)::(.bool false)::(.int .i64 r)::(.int .i64 x)::(u9)::(u10)::(.pointer (some ⟨k.kb,0,none⟩))::(u12)::(.int .i64 f)::(.int .i64 f)::(u15)::(u16)::(u17)::(u18)::(u19)::(u20)::(u21)::(u22)::(u23)::(u24)::(u25)::(u26)::(u27)::(u28)::(u29)::(u30)::(u31)::(u32)::(u33)::(u34)::(u35)::(u36)::(u37)::(u38)::(u39)::(u40)::(u41)::(u42)::(u43)::(u44)::(u45)::(u46)::(u47)::(u48)::(u49)::(u50)::(u51)::(u52)::(u53)::(u54)::(u55)::(u56)::(u57)::(u58)::(u59)::(u60)::(u61)::(u62)::(u63)::(u64)::(u65)::(u66)::(u67)::(u68)::(u69)::(u70)::(u71)::(u72)::(u73)::(u74)::(u75)::(u76)::(u77)::(u78)::(u79)::(u80)::(u81)::(u82)::(u83)::(u84)::(u85)::(u86)::(u87)::(u88)::(u89)::(u90)::(u91)::(u92)::(u93)::(u94)::(u95)::(u96)::(u97)::(u98)::(u99)::(u100)::(u101)::(u102)::(u103)::(u104)::(u105)::(u106)::(u107)::(u108)::(u109)::(u110)::(u111)::(u112)::(u113)::(u114)::(u115)::(u116)::(u117)::(u118)::(u119)::(u120)::(u121)::(u122)::(u123)::(u124)::(u125)::(u126)::(u127)::(u128)::(u129)::(u130)::(u131)::(u132)::(u133)::(u134)::(u135)::(u136)::(u137)::(u138)::(u139)::(u140)::(u141)::(u142)::(u143)::(u144)::(u145)::(u146)::(u147)::(u148)::(u149)::(u150)::(u151)::(u152)::(u153)::(u154)::(u155)::(u156)::(u157)::(u158)::(u159)::(u160)::(u161)::(u162)::(u163)::(u164)::(u165)::(u166)::(u167)::(u168)::(u169)::(u170)::(u171)::(u172)::(u173)::(u174)::(u175)::(u176)::(u177)::(u178)::(u179)::(u180)::(u181)::(u182)::(u183)::(u184)::(u185)::(u186)::(u187)::(u188)::(u189)::(u190)::(u191)::(u192)::(u193)::(u194)::(u195)::(u196)::(u197)::(u198)::(u199)::(u200)::(u201)::(u202)::(u203)::(u204)::(u205)::(u206)::[])),defers:=[]} [.code anR1]) cs) w')→
   RunsB Try.prog Post (G ((base 6).at {tmps:=(List.toArray ((u0)::(u1)::(u2)::(u3)::(u4)::(u5)::(.bool false)::(.int .i64 r)::(.int .i64 x)::(u9)::(u10)::(.pointer (some ⟨k.kb,0,none⟩))::(u12)::(.int .i64 f)::(.int .i64 i)::(u15)::(u16)::(u17)::(u18)::(u19)::(u20)::(u21)::(u22)::(u23)::(u24)::(u25)::(u26)::(u27)::(u28)::(u29)::(u30)::(u31)::(u32)::(u33)::(u34)::(u35)::(u36)::(u37)::(u38)::(u39)::(u40)::(u41)::(u42)::(u43)::(u44)::(u45)::(u46)::(u47)::(u48)::(u49)::(u50)::(u51)::(u52)::(u53)::(u54)::(u55)::(u56)::(u57)::(u58)::(u59)::(u60)::(u61)::(u62)::(u63)::(u64)::(u65)::(u66)::(u67)::(u68)::(u69)::(u70)::(u71)::(u72)::(u73)::(u74)::(u75)::(u76)::(u77)::(u78)::(u79)::(u80)::(u81)::(u82)::(u83)::(u84)::(u85)::(u86)::(u87)::(u88)::(u89)::(u90)::(u91)::(u92)::(u93)::(u94)::(u95)::(u96)::(u97)::(u98)::(u99)::(u100)::(u101)::(u102)::(u103)::(u104)::(u105)::(u106)::(u107)::(u108)::(u109)::(u110)::(u111)::(u112)::(u113)::(u114)::(u115)::(u116)::(u117)::(u118)::(u119)::(u120)::(u121)::(u122)::(u123)::(u124)::(u125)::(u126)::(u127)::(u128)::(u129)::(u130)::(u131)::(u132)::(u133)::(u134)::(u135)::(u136)::(u137)::(u138)::(u139)::(u140)::(u141)::(u142)::(u143)::(u144)::(u145)::(u146)::(u147)::(u148)::(u149)::(u150)::(u151)::(u152)::(u153)::(u154)::(u155)::(u156)::(u157)::(u158)::(u159)::(u160)::(u161)::(u162)::(u163)::(u164)::(u165)::(u166)::(u167)::(u168)::(u169)::(u170)::(u171)::(u172)::(u173)::(u174)::(u175)::(u176)::(u177)::(u178)::(u179)::(u180)::(u181)::(u182)::(u183)::(u184)::(u185)::(u186)::(u187)::(u188)::(u189)::(u190)::(u191)::(u192)::(u193)::(u194)::(u195)::(u196)::(u197)::(u198)::(u199)::(u200)::(u201)::(u202)::(u203)::(u204)::(u205)::(u206)::[])),defers:=[]} [.code anB1,.inLoop anB1,.inBlock 0,.code anR1]) cs) w:=by
 have hk:(base 6).kind≠.early:=by simp [base]
 intro rem;induction rem with
 |zero=>
  intro i fT lr S w u0 u1 u2 u3 u4 u5 u9 u10 u12 u15 u16 u17 u18 u19 u20 u21 u22 u23 u24 u25 u26 u27 u28 u29 u30 u31 u32 u33 u34 u35 u36 u37 u38 u39 u40 u41 u42 u43 u44 u45 u46 u47 u48 u49 u50 u51 u52 u53 u54 u55 u56 u57 u58 u59 u60 u61 u62 u63 u64 u65 u66 u67 u68 u69 u70 u71 u72 u73 u74 u75 u76 u77 u78 u79 u80 u81 u82 u83 u84 u85 u86 u87 u88 u89 u90 u91 u92 u93 u94 u95 u96 u97 u98 u99 u100 u101 u102 u103 u104 u105 u106 u107 u108 u109 u110 u111 u112 u113 u114 u115 u116 u117 u118 u119 u120 u121 u122 u123 u124 u125 u126 u127 u128 u129 u130 u131 u132 u133 u134 u135 u136 u137 u138 u139 u140 u141 u142 u143 u144 u145 u146 u147 u148 u149 u150 u151 u152 u153 u154 u155 u156 u157 u158 u159 u160 u161 u162 u163 u164 u165 u166 u167 u168 u169 u170 u171 u172 u173 u174 u175 u176 u177 u178 u179 u180 u181 u182 u183 u184 u185 u186 u187 u188 u189 u190 u191 u192 u193 u194 u195 u196 u197 u198 u199 u200 u201 u202 u203 u204 u205 u206 hi hK hB hS hp;obtain rfl:i=f:=by omega
  refine RunsB.of_goes ?_;have hF:=Is.self w;repeat refine .c1 termsS rfl ?_
  refine .regionL termsS [0,1,2] (by rfl) ?_;refine .op rfl (by rfl) hk fun w1 hR K_ hK=>?_;replace hF:=hF.rely hR;clear hR;go_simp;try (unfold stored;go_simp)
  refine hK _ _ ⟨?_,?_⟩
  ·exact listed_ok plain (slots_noSlots plain Try.func6 (by kernel_rfl) _) (by kernel_rfl) _
  clear hK K_;try walk_nrm
  refine .op rfl (by rfl) hk fun w1 hR K_ hK=>?_;replace hF:=hF.rely hR;clear hR;go_simp;try (unfold stored;go_simp)
  refine hK _ _ ⟨?_,?_⟩
  ·exact listed_ok plain (slots_noSlots plain Try.func6 (by kernel_rfl) _) (by kernel_rfl) _
  clear hK K_;try walk_nrm
  refine .op rfl (by rfl) hk fun w1 hR K_ hK=>?_;replace hF:=hF.rely hR;clear hR;go_simp;try (unfold stored;go_simp)
  refine hK _ _ ⟨?_,?_⟩
  ·exact listed_ok plain (slots_noSlots plain Try.func6 (by kernel_rfl) _) (by kernel_rfl) _
  clear hK K_;try walk_nrm
  repeat refine .c1 termsS rfl ?_
  refine GoesW.condF termsS (by first|rfl|simp [Act.eval]) ?_;refine GoesW.exit termsS rfl ?_;refine .stop rfl fun w1 hR=>?_;obtain ⟨d,rfl⟩:=hF.rely hR;exact hp fT lr S _ _ _ _ _ _ _ _ _ _ _ _ _ _ _ _ _ _ _ _ _ _ _ _ _ _ _ _ _ _ _ _ _ _ _ _ _ _ _ _ _ _ _ _ _ _ _ _ _ _ _ _ _ _ _ _ _ _ _ _ _ _ _ _ _ _ _ _ _ _ _ _ _ _ _ _ _ _ _ _ _ _ _ _ _ _ _ _ _ _ _ _ _ _ _ _ _ _ _ _ _ _ _ _ _ _ _ _ _ _ _ _ _ _ _ _ _ _ _ _ _ _ _ _ _ _ _ _ _ _ _ _ _ _ _ _ _ _ _ _ _ _ _ _ _ _ _ _ _ _ _ _ _ _ _ _ _ _ _ _ _ _ _ _ _ _ _ _ _ _ _ _ _ _ _ _ _ _ _ _ _ _ _ _ _ _ _ _ _ _ _ _ _ _ _ _ _ _ _ _ _ _ (hK.keep (w':=w.at d) (fun _ _=>rfl) (Nat.le_refl _)) ⟨hB.os,hB.tape,hB.output,hB.size,hB.block⟩ hS
 |succ rem ih=>
  intro i fT lr S w u0 u1 u2 u3 u4 u5 u9 u10 u12 u15 u16 u17 u18 u19 u20 u21 u22 u23 u24 u25 u26 u27 u28 u29 u30 u31 u32 u33 u34 u35 u36 u37 u38 u39 u40 u41 u42 u43 u44 u45 u46 u47 u48 u49 u50 u51 u52 u53 u54 u55 u56 u57 u58 u59 u60 u61 u62 u63 u64 u65 u66 u67 u68 u69 u70 u71 u72 u73 u74 u75 u76 u77 u78 u79 u80 u81 u82 u83 u84 u85 u86 u87 u88 u89 u90 u91 u92 u93 u94 u95 u96 u97 u98 u99 u100 u101 u102 u103 u104 u105 u106 u107 u108 u109 u110 u111 u112 u113 u114 u115 u116 u117 u118 u119 u120 u121 u122 u123 u124 u125 u126 u127 u128 u129 u130 u131 u132 u133 u134 u135 u136 u137 u138 u139 u140 u141 u142 u143 u144 u145 u146 u147 u148 u149 u150 u151 u152 u153 u154 u155 u156 u157 u158 u159 u160 u161 u162 u163 u164 u165 u166 u167 u168 u169 u170 u171 u172 u173 u174 u175 u176 u177 u178 u179 u180 u181 u182 u183 u184 u185 u186 u187 u188 u189 u190 u191 u192 u193 u194 u195 u196 u197 u198 u199 u200 u201 u202 u203 u204 u205 u206 hi hK hB hS hp;have hlt:i<f:=by omega
  have hli:(i:Int)<(f:Int):=by omega
  have hwr:IntKind.i64.wrap ((i:Int)+1)=((i+1:Nat):Int):=by rw [IntKind.wrap_i64];omega
  have e0:(0+1) % t.nT=0:=by rw [hO.nT];show (0+1) % 1=0;rfl
  refine RunsB.of_goes ?_;have hF:=Is.self w;repeat refine .c1 termsS rfl ?_
  refine .regionL termsS [0,1,2] (by rfl) ?_;refine .op rfl (by rfl) hk fun w1 hR K_ hK=>?_;replace hF:=hF.rely hR;clear hR;go_simp;try (unfold stored;go_simp)
  refine hK _ _ ⟨?_,?_⟩
  ·exact listed_ok plain (slots_noSlots plain Try.func6 (by kernel_rfl) _) (by kernel_rfl) _
  clear hK K_;try walk_nrm
  refine .op rfl (by rfl) hk fun w1 hR K_ hK=>?_;replace hF:=hF.rely hR;clear hR;go_simp;try (unfold stored;go_simp)
  refine hK _ _ ⟨?_,?_⟩
  ·exact listed_ok plain (slots_noSlots plain Try.func6 (by kernel_rfl) _) (by kernel_rfl) _
  clear hK K_;try walk_nrm
  refine .op rfl (by rfl) hk fun w1 hR K_ hK=>?_;replace hF:=hF.rely hR;clear hR;go_simp;try (unfold stored;go_simp)
  refine hK _ _ ⟨?_,?_⟩
  ·exact listed_ok plain (slots_noSlots plain Try.func6 (by kernel_rfl) _) (by kernel_rfl) _
  clear hK K_;try walk_nrm
  repeat refine .c1 termsS rfl ?_
  refine GoesW.condT termsS (by first|rfl|simp [Act.eval,hlt]) ?_;repeat refine .c1 termsS rfl ?_
  refine .regionL termsS [0,1,2] (by rfl) ?_;refine .op rfl (by rfl) hk fun w1 hR K_ hK=>?_;replace hF:=hF.rely hR;clear hR;go_simp;try (unfold stored;go_simp)
  refine hK _ _ ⟨?_,?_⟩
  ·exact listed_ok plain (slots_noSlots plain Try.func6 (by kernel_rfl) _) (by kernel_rfl) _
  clear hK K_;try walk_nrm
  refine .stop rfl fun w4 hR=>?_;obtain ⟨d4,rfl⟩:=hF.rely hR;clear hF hR;refine RunsB.call rfl (by rfl) hk (fun d=>?run1) (fun d=>?evs1) ((hK.keep (w':=w.at d4) (fun _ _=>rfl) (Nat.le_refl _)).frame ((sa_st hr hx i).m_le (by omega)) in_nil (by omega)) (fun v wF hv=>?_)
  case run1=>kernel_rfl
  case evs1=>
   rw [listed_nil (by kernel_rfl)];simp
  obtain ⟨rfl,f1,lr1,hK1,hB1⟩:=hv;refine RunsB.of_goes ?_;have hF:=Is.self wF;try walk_nrm
  rw [hO.frame,e0] at hK1;change KFullQ wF k N t (stA r x (i+1)) f1 lr1 0 _ at hK1;have hBF:Below W0.heap.size W0 wF:=but_below (a:=w) hB ⟨hB1.os,hB1.tape,hB1.output,hB1.size,hB1.block⟩ hS hB.size;clear hB1 hK;refine .op rfl (by rfl) hk fun w1 hR K_ hK=>?_;replace hF:=hF.rely hR;clear hR;go_simp;try (unfold stored;go_simp)
  refine hK _ _ ⟨?_,?_⟩
  ·exact listed_ok plain (slots_noSlots plain Try.func6 (by kernel_rfl) _) (by kernel_rfl) _
  clear hK K_;try walk_nrm
  repeat refine .c1 termsS rfl ?_
  refine .regionL termsS [0,1] (by rfl) ?_;refine .op rfl (by rfl) hk fun w1 hR K_ hK=>?_;replace hF:=hF.rely hR;clear hR;go_simp;try (unfold stored;go_simp)
  refine hK _ _ ⟨?_,?_⟩
  ·exact listed_ok plain (slots_noSlots plain Try.func6 (by kernel_rfl) _) (by kernel_rfl) _
  clear hK K_;try walk_nrm
  refine .op rfl (by rfl) hk fun w1 hR K_ hK=>?_;replace hF:=hF.rely hR;clear hR;go_simp;try (unfold stored;go_simp)
  refine hK _ _ ⟨?_,?_⟩
  ·exact listed_ok plain (slots_noSlots plain Try.func6 (by kernel_rfl) _) (by kernel_rfl) _
  clear hK K_;try walk_nrm
  repeat refine .c1 termsS rfl ?_
  refine GoesW.condF termsS (by first|rfl|simp [Act.eval]) ?_;repeat refine .c1 termsS rfl ?_
  refine .regionL termsS [0,1,2] (by rfl) ?_;refine .op rfl (by rfl) hk fun w1 hR K_ hK=>?_;replace hF:=hF.rely hR;clear hR;go_simp;try (unfold stored;go_simp)
  refine hK _ _ ⟨?_,?_⟩
  ·exact listed_ok plain (slots_noSlots plain Try.func6 (by kernel_rfl) _) (by kernel_rfl) _
  clear hK K_;try walk_nrm
  refine .op rfl (by rfl) hk fun w1 hR K_ hK=>?_;replace hF:=hF.rely hR;clear hR;go_simp;try (unfold stored;go_simp)
  refine hK _ _ ⟨?_,?_⟩
  ·exact listed_ok plain (slots_noSlots plain Try.func6 (by kernel_rfl) _) (by kernel_rfl) _
  clear hK K_;try walk_nrm
  refine .op rfl (by rfl) hk fun w1 hR K_ hK=>?_;replace hF:=hF.rely hR;clear hR;go_simp;try (unfold stored;go_simp)
  refine hK _ _ ⟨?_,?_⟩
  ·exact listed_ok plain (slots_noSlots plain Try.func6 (by kernel_rfl) _) (by kernel_rfl) _
  clear hK K_;try walk_nrm
  try rw [hwr]
  repeat refine .c1 termsS rfl ?_
  refine GoesW.inLoop termsS ?_;refine .stop rfl fun w1 hR=>?_;obtain ⟨d,rfl⟩:=hF.rely hR;exact ih (i+1) f1 lr1 _ _ _ _ _ _ _ _ _ _ _ _ _ _ _ _ _ _ _ _ _ _ _ _ _ _ _ _ _ _ _ _ _ _ _ _ _ _ _ _ _ _ _ _ _ _ _ _ _ _ _ _ _ _ _ _ _ _ _ _ _ _ _ _ _ _ _ _ _ _ _ _ _ _ _ _ _ _ _ _ _ _ _ _ _ _ _ _ _ _ _ _ _ _ _ _ _ _ _ _ _ _ _ _ _ _ _ _ _ _ _ _ _ _ _ _ _ _ _ _ _ _ _ _ _ _ _ _ _ _ _ _ _ _ _ _ _ _ _ _ _ _ _ _ _ _ _ _ _ _ _ _ _ _ _ _ _ _ _ _ _ _ _ _ _ _ _ _ _ _ _ _ _ _ _ _ _ _ _ _ _ _ _ _ _ _ _ _ _ _ _ _ _ _ _ _ _ _ _ _ _ _ _ (by omega) (hK1.keep (w':=wF.at d) (fun _ _=>rfl) (Nat.le_refl _)) ⟨hBF.os,hBF.tape,hBF.output,hBF.size,hBF.block⟩ (fun b hb=>hb.elim (hS b) fun h=>Nat.le_trans hB.size h.1) hp
end
end Go.Proofs.Ytdoghgnifkgfdaa.Mute
