import Derived.Test.YtdoghgnifkgfdaaGreatP43
import Derived.Test.YtdoghgnifkgfdaaGreatP44
import Derived.Test.YtdoghgnifkgfdaaGreatP45
import Derived.Test.YtdoghgnifkgfdaaGreatP47
set_option maxRecDepth 100000
set_option maxHeartbeats 16000000
namespace Go.Proofs.YtdoghgnifkgfdaaGreat.Mute
open Go Go.Conc Go.RowKit
structure KId where
 k:Ker
 N:NetK
 t:Tab
def KIn (w:World) (K:KId) (s:KSq) (r:Nat) (S:Nat→Prop):Prop:=∃f lr,YbS w K.k K.N K.t s f lr r S
section
variable {w w':World} {K:KId} {s:KSq} {r:Nat} {S:Nat→Prop}
theorem KIn.keep (h:KIn w K s r S) (hk:∀b,S b→w'.heap[b]?=w.heap[b]?) (hs:w.heap.size≤w'.heap.size):KIn w' K s r S:=by
 obtain ⟨f,lr,h⟩:=h;exact ⟨f,lr,h.keep hk hs⟩
theorem KIn.sz (h:KIn w K s r S) {b:Nat} (hb:S b):b<w.heap.size:=by
 obtain ⟨f,lr,h⟩:=h;exact h.sz b hb
theorem KIn.below (h:KIn w K s r S) (hb:Below w.heap.size w w'):KIn w' K s r S:=h.keep (fun b hS=>hb.block b (h.sz hS)) hb.size
end
def ShotR (w:World) (p:Option Addr) (S:Sh):Prop:=∃F:Nat→Value,Sl w p S.n F∧∀i,i<S.n→∃pi ci,F i=.slice pi (S.m i) ci∧Sl w pi (S.m i) (fun j=>.int .i64 (S.z i j))
theorem ShotR.below {w w':World} {p:Option Addr} {S:Sh} (h:ShotR w p S) (hb:Below w.heap.size w w'):ShotR w' p S:=by
 obtain ⟨F,h1,h2⟩:=h;refine ⟨F,h1.below hb,fun i hi=>?_⟩;obtain ⟨pi,ci,h3,h4⟩:=h2 i hi;exact ⟨pi,ci,h3,h4.below hb⟩
theorem Ydw (S:Sh) (i:Nat):(insS S i).length=min (S.m i) 4:=by simp [insS]
theorem Ygq {w:World} {base:Nat} {v:Value} {S:Sh} {i:Nat} (h:w.ownsRow base 59 2 v (min (S.m i) 4) ((List.range (min (S.m i) 4*2)).map fun j=>.int .i64 (if j % 2=0 then ((j / 2:Nat):Int) else S.z i (j / 2)))):InW w v (insS S i) (fun b=>(base≤b∧b<w.heap.size)∧YbM w b):=by
 have hh:=h;obtain ⟨p,c,rfl⟩:=JK h;rcases h.2 with ⟨e,h0⟩|⟨g,cap,cur,e,hb,hg,_⟩
 ·have hl:insS S i=[]:=List.eq_nil_of_length_eq_zero (by rw [Ydw];exact h0);rw [hl,h0];exact ⟨p,c,rfl,fun j x hj=>by simp at hj⟩
 ·injection e with e1 _ e3
  subst e1 e3;have key:∀(j:Nat) (x:Int×Int),(insS S i)[j]?=some x→w.cell? ⟨g,0+j*2,none⟩=some (.int .i64 x.1)∧w.cell? ⟨g,0+j*2+1,none⟩=some (.int .i64 x.2):=fun j x hj=>by
   have hj2:j<min (S.m i) 4:=by have:=(List.getElem?_eq_some_iff.1 hj).1;rw [Ydw] at this;exact this
   have hx:x=((j:Int),S.z i j):=by
    unfold insS at hj;rw [List.getElem?_map,List.getElem?_range hj2] at hj;exact (Option.some.inj hj).symm
   subst hx;have a0:j*2 % 2=0:=by omega
   have a1:(j*2+1) % 2=1:=by omega
   have a2:j*2 / 2=j:=by omega
   have a3:(j*2+1) / 2=j:=by omega
   rw [Nat.zero_add];exact ⟨XC hh (by rw [List.getElem?_map,List.getElem?_range (by omega)];simp [a0]),XC hh (by rw [List.getElem?_map,List.getElem?_range (by omega)];simp [a1,a3])⟩
  have hlen:=Ydw S i;exact ⟨some ⟨g,0,none⟩,c,by rw [hlen],fun j x hj=>⟨g,0,rfl,⟨⟨hb,(Array.getElem?_eq_some_iff.1 hg).1⟩,cur,_,_,hg,by decide,by decide,by decide,by decide,by decide,by decide⟩,(key j x hj).1,(key j x hj).2⟩⟩
theorem YgB (x y:Value):Xn Tryz.prog plan 9 #[x,y]:=⟨by kernel_rfl,Yi plain Tryz.func9 (by kernel_rfl) _⟩
theorem Ygm (x:Value):Xn Tryz.prog plan 8 #[x]:=⟨by kernel_rfl,Yi plain Tryz.func8 (by kernel_rfl) _⟩
theorem Ygw (x:Value):Xn Tryz.prog plan 14 #[x]:=⟨by kernel_rfl,Yi plain Tryz.func14 (by kernel_rfl) _⟩
theorem Yew (x y:Value):Xn Tryz.prog plan 17 #[x,y]:=⟨by kernel_rfl,Yi plain Tryz.func17 (by kernel_rfl) _⟩
theorem YgM (c:Int) (n:Nat) (w:World) (hn:0<n) (h1:-9223372036854775808≤c) (h2:c≤9223372036854775807):
  CallsR Tryz.prog 9 #[.int .i64 c,.int .i64 n] w (fun v w'=>Below w.heap.size w w'∧v=.int .i64 (pk c n)):=by
 refine CallsR.ofBelow (YgB _ _) (fun v _=>v=.int .i64 (pk c n)) (fun τ=>(Ycv c n (reW w τ 0) hn h1 h2).mono ?_) fun v w₁ τ d d' h=>h;rintro e w' ⟨rfl,rfl⟩;exact ⟨_,rfl,Below.refl _ _,rfl⟩
theorem YcN {w w':World} {A:Nat→Option Addr} {P:Pl} (h:Yc4 w A P) (hk:∀a v,w.cell? a=some v→w'.cell? a=some v):Yc4 w' A P:=
 ⟨fun i hi=>⟨(h.code i hi).1.keep hk,(h.code i hi).2⟩,⟨h.ways.1.keep hk,h.ways.2⟩,⟨h.devs.1.keep hk,h.devs.2⟩,h.lim⟩
theorem YfX {pa pb pm pn:Option Addr} {m ca cb cm cn:Nat} {z y:Nat→Int} {s b:Int} {st:Bool} {w:World} (ha:Sl w pa (m*3) (fun j=>.int .i64 (z j))) (hb:Sl w pb (m*3) (fun j=>.int .i64 (z j))) (hm:Sl w pm 16 (fun j=>.int .i64 (y j))) (hn:Sl w pn 16 (fun j=>.int .i64 (y j))) (hml:m≤1000000000):
  CallsR Tryz.prog 17 #[.agg #[.slice pa m ca,.slice pm 16 cm,.int .i64 s,.int .i64 b,.bool st],.agg #[.slice pb m cb,.slice pn 16 cn,.int .i64 s,.int .i64 b,.bool st]] w (fun v w'=>Below w.heap.size w w'∧v=.bool true):=by
 refine CallsR.ofBelow (Yew _ _) (fun v _=>v=.bool true) (fun τ=>(YfZ pa pb pm pn m ca cb cm cn z y s b st (reW w τ 0) (ha.keep fun _ _ h=>h) (hb.keep fun _ _ h=>h) (hm.keep fun _ _ h=>h) (hn.keep fun _ _ h=>h) hml).mono ?_) fun v w₁ τ d d' h=>h;rintro e w' ⟨rfl,h1⟩;exact ⟨_,rfl,h1,rfl⟩
theorem YeV {w:World} {P:Pl} {v0 v1 v2 v3:Value} (h:CfgR w v0 v1 v2 v3 (cfgP P (fun _=>P))) (hw:∀i,i<4→Wf (P.nC i*4) (P.code i)):
  CallsR Tryz.prog 10 #[.agg #[v0,v1,v2,v3]] w (fun v w'=>Below w.heap.size w w'∧∃K:KId,v=.tuple #[.pointer (some ⟨K.k.kb,0,none⟩),.bool true]∧Of (cfgP P (fun _=>P)) K.k K.N K.t∧KIn w' K (sq0 (cfgP P (fun _=>P))) 0 (fun b=>w.heap.size≤b∧b<w'.heap.size)):=by
 refine (YdM h (Yeg P _ hw) (fun _ _=>rfl) (YcJ P _)).mono ?_;rintro v w' ⟨hb,k,N,t,f,rfl,hO,hK⟩;exact ⟨hb,⟨k,N,t⟩,rfl,hO,f,_,hK⟩
end Go.Proofs.YtdoghgnifkgfdaaGreat.Mute
namespace Go.Proofs.YtdoghgnifkgfdaaGreat
open Go.RowKit
def unB:Code→Code
 |.block _ c=>c
 |c=>c
def unL:Code→Code
 |.loop c=>c
 |c=>c
noncomputable def unLoop:Code:=unL (unB (un2 (un1 (un2 (un2 (un2 (un2 (un2 (un2 (un2 (un2 (un2 (un2 (un2 (Ycy)))))))))))))))
noncomputable def unX:Code:=unB (un1 (un2 unLoop))
noncomputable def unPB:Code:=un1 (un2 (un2 unX))
def outV (l:List (Int×Int)):List Value:=l.flatMap fun p=>[.int .i64 p.1,.int .i64 p.2]
theorem YdD (l m:List (Int×Int)):outV (l++m)=outV l++outV m:=by simp [outV]
theorem Yef:(Tryz.prog.info? 59).map (fun i=>(i.zero,i.size,i.bytes))=some (some (.agg #[.int .i64 0,.int .i64 0]),2,16):=by kernel_rfl
theorem Yfd {gc ga na ca co i nD c3 ic:Nat} {ip qo p3c:Option Addr} {S S':Mute.Sh} {L:List Int} {dv:Nat→Int} (w:World) (hL:L.length=na∧na≤1000) (hla:Sl w (some ⟨ga,0,none⟩) na (fun j=>.int .i64 (L.getD j 0))) (hnD:nD≤1000) (hi40:i≤40)
  (hb:w.cell? ⟨gc,3,none⟩=some (.slice p3c nD c3)) (hd:Sl w p3c nD (fun j=>.int .i64 (dv j))) (hin:Sl w ip (min (S.m i) 4*2) (fun j=>.int .i64 (if j % 2=0 then ((j / 2:Nat):Int) else S.z i (j / 2)))) (ho:Mute.ShotR w qo S') (u0 u1 u2 u3 u5 u6 u7 u8 u9 u10 u12 u13 u14 u15 u17 u18 u19 u20 u21 u25 u26 u27 u28 u29 u30 u31 u32 u33 u34 u35 u36 u37 u38 u39 u40 u41 u42 u43 u44 u45 u46 u47 u48 u49 u50 u51 u52 u53 u54 u55 u56 u57 u58 u59 u60 u61 u62 u63 u64 u65 u66 u67 u68 u69 u70 u71 u72 u73 u74 u75 u76 u77 u78 u79 u80 u81 u82 u83 u84 u85 u86 u87 u88 u89 u90 u91 u92 u93 u94 u95 u96 u97 u98 u99 u100 u101 u102 u103 u104 u105 u106 u107 u108 u109 u110 u111 u112 u113 u114 u115 u116 u117 u118 u119 u120 u121 u122 u123 u124 u125 u126 u127 u128 u129 u130 u131 u132 u133 u134 u135 u136 u137 u138 u139 u140 u141 u142 u143 u144 u145 u146 u147 u148 u149 u150 u151 u152 u153 u154 u155 u156 u157 u158 u159 u160 u161 u162 u163 u164 u165 u166 u167 u168 u169 u170 u171 u172 u173 u174 u175 u176 u177 u178 u179 u180 u181 u182 u183 u184 u185 u186:Value):
  Code.wp Tryz.prog unPB (fun e a' w'=>e=.normal∧∃(po:Option Addr) (cp:Nat),(a'.tmps.size=187∧a'.defers=[]∧a'.tmps.toList.getD 2 undef=u2∧a'.tmps.toList.getD 3 undef=u3∧a'.tmps.toList.getD 4 undef=.slice qo S'.n co∧a'.tmps.toList.getD 11 undef=.pointer (some ⟨gc,0,none⟩)∧a'.tmps.toList.getD 12 undef=u12∧a'.tmps.toList.getD 13 undef=u13∧a'.tmps.toList.getD 14 undef=u14∧a'.tmps.toList.getD 16 undef=.slice (some ⟨ga,0,none⟩) na ca∧a'.tmps.toList.getD 21 undef=u21∧a'.tmps.toList.getD 22 undef=.int .i64 i∧a'.tmps.toList.getD 23 undef=.slice ip (min (S.m i) 4) ic∧a'.tmps.toList.getD 24 undef=.slice po (Mute.outF S S' L dv i nD).length cp)∧Below w.heap.size w w'∧w'.ownsRow w.heap.size 59 2 (.slice po (Mute.outF S S' L dv i nD).length cp) (Mute.outF S S' L dv i nD).length (outV (Mute.outF S S' L dv i nD))) {tmps:=#[u0,u1,u2,u3,.slice qo S'.n co,u5,u6,u7,u8,u9,u10,.pointer (some ⟨gc,0,none⟩),u12,u13,u14,u15,.slice (some ⟨ga,0,none⟩) na ca,u17,u18,u19,u20,u21,.int .i64 i,.slice ip (min (S.m i) 4) ic,.slice none 0 0,u25,u26,u27,u28,u29,u30,u31,u32,u33,u34,u35,u36,u37,u38,u39,u40,u41,u42,u43,u44,u45,u46,u47,u48,u49,u50,u51,u52,u53,u54,u55,u56,u57,u58,u59,u60,u61,u62,u63,u64,u65,u66,u67,u68,u69,u70,u71,u72,u73,u74,u75,u76,u77,u78,u79,u80,u81,u82,u83,u84,u85,u86,u87,u88,u89,u90,u91,u92,u93,u94,u95,u96,u97,u98,u99,u100,u101,u102,u103,u104,u105,u106,u107,u108,u109,u110,u111,u112,u113,u114,u115,u116,u117,u118,u119,u120,u121,u122,u123,u124,u125,u126,u127,u128,u129,u130,u131,u132,u133,u134,u135,u136,u137,u138,u139,u140,u141,u142,u143,u144,u145,u146,u147,u148,u149,u150,u151,u152,u153,u154,u155,u156,u157,u158,u159,u160,u161,u162,u163,u164,u165,u166,u167,u168,u169,u170,u171,u172,u173,u174,u175,u176,u177,u178,u179,u180,u181,u182,u183,u184,u185,u186],defers:=[]} w:=by
 have HW:Hid (Sl w (some ⟨ga,0,none⟩) na (fun j=>.int .i64 (L.getD j 0))∧w.cell? ⟨gc,3,none⟩=some (.slice p3c nD c3)∧Sl w p3c nD (fun j=>.int .i64 (dv j))∧Sl w ip (min (S.m i) 4*2) (fun j=>.int .i64 (if j % 2=0 then ((j / 2:Nat):Int) else S.z i (j / 2)))∧Mute.ShotR w qo S'):=⟨hla,hb,hd,hin,ho⟩;have HL:Hid (L.length=na∧na≤1000):=hL;clear hla hb hd hin ho hL;obtain ⟨il,HIL⟩:∃il,Hid (min (S.m i) 4=il):=⟨_,rfl⟩;have hil:il≤4:=by have:=HIL.out;omega
 rw [HIL.out] at HW ⊢;simp only [unPB,unX,unLoop,Ycy,Tryz.f5,un1,un2,unB,unL];go_wp2_with fail
 go_loopw [24,25] (fun l y wr=>∃(x m:Nat) (po:Option Addr) (cp:Nat),x≤nD∧y=.int .i64 x∧l=.slice po m cp∧Hid ((Mute.outF S S' L dv i x).length=m∧wr.ownsRow w.heap.size 59 2 (.slice po m cp) m (outV (Mute.outF S S' L dv i x))∧Below w.heap.size w wr)) (fun _ y _=>nD-(intOf y).toNat)
 case atStart=>exact ⟨0,0,none,0,Nat.zero_le _,rfl,rfl,rfl,World.ownsRow_nil _ _ _ _,Below.refl _ _⟩
 case round=>
  obtain ⟨x,m,po,cp,hx,rfl,rfl,HR⟩:=hrel;have g3:wr.cell? ⟨gc,3,none⟩=some (.slice p3c nD c3):=Zc HR.out.2.2 _ _ HW.out.2.1;have hm:m≤1000:=by have h1:=Mute.outF_len (S:=S) (S':=S') (L:=L) (dv:=dv) (i:=i) x;have:=HR.out.1;omega
  by_cases hlt:x<nD
  ·have hli:(x:Int)<(nD:Int):=by omega
   obtain ⟨db,dof,edp,hdc⟩:=(HW.out.2.2.1.below HR.out.2.2).at (show 0<nD by omega);have d0:=hdc x hlt;rw [edp] at g3;clear hdc edp;obtain ⟨dx,HDX⟩:∃dx,Hid (dv x=dx):=⟨_,rfl⟩;rw [HDX.out] at d0;have HSL:Hid (Sl wr (some ⟨ga,0,none⟩) na (fun j=>.int .i64 (L.getD j 0))):=HW.out.1.below HR.out.2.2;go_wp2_with fail
   refine (YdJ (some ⟨ga,0,none⟩) na ca L dx _ HL.out.1 (by have:=HL.out.2;omega) HSL.out).mono ?_;rintro e w' ⟨rfl,rfl⟩;by_cases hinL:dx∈L
   ·by_cases hxi:x<il
    ·have HX:Hid ((Mute.outF S S' L dv i (x+1))=(Mute.outF S S' L dv i x)++[((x:Int),S.z i x)]):=by
      show _++Mute.outP S S' L dv i x=_;unfold Mute.outP;rw [HDX.out,if_pos hinL,HIL.out,if_pos hxi]
     have hxI:(x:Int)<(il:Int):=by omega
     obtain ⟨ib,io,rfl,hic⟩:=(HW.out.2.2.2.1.below HR.out.2.2).at (show 0<il*2 by omega);have i0:=hic (x*2) (by omega);have i1:=hic (x*2+1) (by omega);have m0:x*2 % 2=0:=by omega
     have m1:(x*2+1) % 2=1:=by omega
     have q0:x*2 / 2=x:=by omega
     have q1:(x*2+1) / 2=x:=by omega
     rw [m0,q0,if_pos rfl] at i0;rw [m1,q1,if_neg (by omega),←Nat.add_assoc] at i1;clear hic m0 m1 q0 q1;have OW:Hid (∀a,(w'.alloc a).ownsRow w.heap.size 59 2 (.slice po m cp) m (outV (Mute.outF S S' L dv i x))):=fun a=>own_below HR.out.2.1 ((Below.refl _ _).alloc (Nat.le_refl _) a);have HSz:Hid (∀a,w.heap.size≤(w'.alloc a).heap.size):=fun a=>by have:=HR.out.2.2.size;simp;omega
     go_wp2_with (at_builtin;refine YX _ rfl _ _ 29 rfl w.heap.size 59 _ 2 16 Tryz.underlying29 Yef rfl (by omega) (.slice po m cp) m (outV (Mute.outF S S' L dv i x)) rfl (by exact OW.out _) w'.heap.size [_,_] 59 rfl rfl (by exact alloc_at rfl) (by intro u hu;simp at hu;rcases hu with rfl|rfl<;>rfl) (by simp only [maxLen];omega) (by omega) (by exact HSz.out _) ?_)
     intro g2 cp2 w1 hown hgrow _ _;have HN:Hid ((Mute.outF S S' L dv i (x+1)).length=m+1∧w1.ownsRow w.heap.size 59 2 (.slice (some ⟨g2,0,none⟩) (m+1) cp2) (m+1) (outV (Mute.outF S S' L dv i (x+1)))∧Below w.heap.size w w1):=⟨by rw [HX.out,List.length_append,HR.out.1];rfl,by rw [HX.out,YdD];exact hown,(HR.out.2.2.alloc HR.out.2.2.size _).grown hgrow (by have:=HR.out.2.2.size;simp;omega) (fun j hj=>(HR.out.2.1.lt j hj).1)⟩;clear hown hgrow;go_wp2_with fail
     exact ⟨⟨x+1,m+1,some ⟨g2,0,none⟩,cp2,by omega,by go_num,by simp,HN⟩,by simp [intOf];omega⟩
    ·have HX:Hid ((Mute.outF S S' L dv i (x+1))=(Mute.outF S S' L dv i x)++[]):=by
      show _++Mute.outP S S' L dv i x=_;unfold Mute.outP;rw [HDX.out,if_pos hinL,HIL.out,if_neg hxi]
     have hxI:¬(x:Int)<(il:Int):=by omega
     have HN:Hid ((Mute.outF S S' L dv i (x+1)).length=m∧w'.ownsRow w.heap.size 59 2 (.slice po m cp) m (outV (Mute.outF S S' L dv i (x+1)))∧Below w.heap.size w w'):=by
      show _∧_;rw [HX.out,List.append_nil];exact HR.out
     go_wp2_with fail
     exact ⟨⟨x+1,m,po,cp,by omega,by go_num,rfl,HN⟩,by simp [intOf];omega⟩
   ·by_cases hyn:i<S'.n
    ·obtain ⟨G,hs1,hs2⟩:=HW.out.2.2.2.2.below HR.out.2.2;obtain ⟨qb,qof,rfl,hqc⟩:=hs1.at (show 0<S'.n by omega);obtain ⟨pi,ci,e9,hpi⟩:=hs2 i hyn;have o0:=hqc i hyn;rw [e9] at o0;clear hqc e9 hs1 hs2;have hyI:(i:Int)<(S'.n:Int):=by omega
     by_cases hxm:x<S'.m i
     ·have HX:Hid ((Mute.outF S S' L dv i (x+1))=(Mute.outF S S' L dv i x)++[((x:Int),S'.z i x)]):=by
       show _++Mute.outP S S' L dv i x=_;unfold Mute.outP;rw [HDX.out,if_neg hinL,if_pos ⟨hyn,hxm⟩]
      have hxI:(x:Int)<(S'.m i:Int):=by omega
      obtain ⟨pb,pof,rfl,hpc⟩:=hpi.at (show 0<S'.m i by omega);have p0:=hpc x hxm;clear hpc;have OW:Hid (∀a,(w'.alloc a).ownsRow w.heap.size 59 2 (.slice po m cp) m (outV (Mute.outF S S' L dv i x))):=fun a=>own_below HR.out.2.1 ((Below.refl _ _).alloc (Nat.le_refl _) a);have HSz:Hid (∀a,w.heap.size≤(w'.alloc a).heap.size):=fun a=>by have:=HR.out.2.2.size;simp;omega
      go_wp2_with (at_builtin;refine YX _ rfl _ _ 29 rfl w.heap.size 59 _ 2 16 Tryz.underlying29 Yef rfl (by omega) (.slice po m cp) m (outV (Mute.outF S S' L dv i x)) rfl (by exact OW.out _) w'.heap.size [_,_] 59 rfl rfl (by exact alloc_at rfl) (by intro u hu;simp at hu;rcases hu with rfl|rfl<;>rfl) (by simp only [maxLen];omega) (by omega) (by exact HSz.out _) ?_)
      intro g2 cp2 w1 hown hgrow _ _;have HN:Hid ((Mute.outF S S' L dv i (x+1)).length=m+1∧w1.ownsRow w.heap.size 59 2 (.slice (some ⟨g2,0,none⟩) (m+1) cp2) (m+1) (outV (Mute.outF S S' L dv i (x+1)))∧Below w.heap.size w w1):=⟨by rw [HX.out,List.length_append,HR.out.1];rfl,by rw [HX.out,YdD];exact hown,(HR.out.2.2.alloc HR.out.2.2.size _).grown hgrow (by have:=HR.out.2.2.size;simp;omega) (fun j hj=>(HR.out.2.1.lt j hj).1)⟩;clear hown hgrow;go_wp2_with fail
      exact ⟨⟨x+1,m+1,some ⟨g2,0,none⟩,cp2,by omega,by go_num,by simp,HN⟩,by simp [intOf];omega⟩
     ·have HX:Hid ((Mute.outF S S' L dv i (x+1))=(Mute.outF S S' L dv i x)++[]):=by
       show _++Mute.outP S S' L dv i x=_;unfold Mute.outP;rw [HDX.out,if_neg hinL,if_neg (fun q=>hxm q.2)]
      have hxI:¬(x:Int)<(S'.m i:Int):=by omega
      have HN:Hid ((Mute.outF S S' L dv i (x+1)).length=m∧w'.ownsRow w.heap.size 59 2 (.slice po m cp) m (outV (Mute.outF S S' L dv i (x+1)))∧Below w.heap.size w w'):=by
       show _∧_;rw [HX.out,List.append_nil];exact HR.out
      go_wp2_with fail
      exact ⟨⟨x+1,m,po,cp,by omega,by go_num,rfl,HN⟩,by simp [intOf];omega⟩
    ·have HX:Hid ((Mute.outF S S' L dv i (x+1))=(Mute.outF S S' L dv i x)++[]):=by
      show _++Mute.outP S S' L dv i x=_;unfold Mute.outP;rw [HDX.out,if_neg hinL,if_neg (fun q=>hyn q.1)]
     have hyI:¬(i:Int)<(S'.n:Int):=by omega
     have HN:Hid ((Mute.outF S S' L dv i (x+1)).length=m∧w'.ownsRow w.heap.size 59 2 (.slice po m cp) m (outV (Mute.outF S S' L dv i (x+1)))∧Below w.heap.size w w'):=by
      show _∧_;rw [HX.out,List.append_nil];exact HR.out
     go_wp2_with fail
     exact ⟨⟨x+1,m,po,cp,by omega,by go_num,rfl,HN⟩,by simp [intOf];omega⟩
  ·obtain rfl:x=nD:=by omega
   obtain ⟨hml,hown,hB⟩:=HR.out;subst hml;have HO:Hid (Below w.heap.size w wr∧wr.ownsRow w.heap.size 59 2 (.slice po (Mute.outF S S' L dv i x).length cp) (Mute.outF S S' L dv i x).length (outV (Mute.outF S S' L dv i x))):=⟨hB,hown⟩;clear hB hown HR;go_wp2_with fail
   first|exact ⟨po,cp,⟨rfl,rfl⟩,HO.out⟩|exact ⟨po,cp,⟨rfl,rfl,rfl⟩,HO.out⟩
end Go.Proofs.YtdoghgnifkgfdaaGreat
namespace Go.Proofs.YtdoghgnifkgfdaaGreat.Mute
open Go Go.Conc Go.RowKit
structure Ap2 (W0:World) (G:Nat→Prop) (A B:KId) (sa sb:KSq) (ra rb:Nat) (w:World):Prop where
 ex:∃SA SB:Nat→Prop,KIn w A sa ra SA∧KIn w B sb rb SB∧(∀b,SA b→¬SB b)∧(∀b,SA b∨SB b→W0.heap.size≤b)∧∀b,G b→¬SA b∧¬SB b∧b<w.heap.size
 bel:Below W0.heap.size W0 w
section
variable {W0 w w':World} {G:Nat→Prop} {A B:KId} {sa sb:KSq} {ra rb:Nat}
theorem Ap2.swap (h:Ap2 W0 G A B sa sb ra rb w):Ap2 W0 G B A sb sa rb ra w:=by
 obtain ⟨⟨SA,SB,h1,h2,h4,h6,h7⟩,h8⟩:=h;exact ⟨⟨SB,SA,h2,h1,fun b hb ha=>h4 b ha hb,fun b hb=>h6 b hb.symm,fun b hb=>⟨(h7 b hb).2.1,(h7 b hb).1,(h7 b hb).2.2⟩⟩,h8⟩
theorem Ap2.fresh (h:Ap2 W0 G A B sa sb ra rb w) (hb:Below w.heap.size w w'):Ap2 W0 (fun b=>G b∨(w.heap.size≤b∧b<w'.heap.size)) A B sa sb ra rb w':=by
 obtain ⟨⟨SA,SB,h1,h2,h4,h6,h7⟩,h8⟩:=h;refine ⟨⟨SA,SB,h1.below hb,h2.below hb,h4,h6,fun b hg=>?_⟩,Below.then h8 hb h8.size⟩;rcases hg with hg|hg
 ·exact ⟨(h7 b hg).1,(h7 b hg).2.1,Nat.lt_of_lt_of_le (h7 b hg).2.2 hb.size⟩
 ·exact ⟨fun hs=>by have:=h1.sz hs;omega,fun hs=>by have:=h2.sz hs;omega,hg.2⟩
theorem Ap2.sub {G':Nat→Prop} (h:Ap2 W0 G A B sa sb ra rb w) (hs:∀b,G' b→G b):Ap2 W0 G' A B sa sb ra rb w:=by
 obtain ⟨⟨SA,SB,h1,h2,h4,h6,h7⟩,h8⟩:=h;exact ⟨⟨SA,SB,h1,h2,h4,h6,fun b hb=>h7 b (hs b hb)⟩,h8⟩
theorem Ap2.below (h:Ap2 W0 G A B sa sb ra rb w) (hb:Below w.heap.size w w'):Ap2 W0 G A B sa sb ra rb w':=(h.fresh hb).sub fun _ h=>.inl h
theorem Ap2.at (h:Ap2 W0 G A B sa sb ra rb w) (d:Nat):Ap2 W0 G A B sa sb ra rb (w.at d):=h.below ⟨rfl,rfl,rfl,Nat.le_refl _,fun _ _=>rfl⟩
theorem Ap2.lt (h:Ap2 W0 G A B sa sb ra rb w) {b:Nat} (hb:G b):b<w.heap.size:=by
 obtain ⟨⟨SA,SB,h1,h2,h4,h6,h7⟩,h8⟩:=h;exact (h7 b hb).2.2
theorem Ap2.frame (h:Ap2 W0 G A B sa sb ra rb w) {cf:Cfg} (hO:Of cf A.k A.N A.t) (hm:∀i,sa.m i+1300≤1000000000) {ip:Option Addr} {il ic:Nat} {ins:List (Int×Int)} (hin:InW w (.slice ip il ic) ins (YbM w)) (hil:il≤4):
  CallsR Tryz.prog 15 #[.pointer (some ⟨A.k.kb,0,none⟩),.slice ip il ic] w (fun r w'=>r=.int .i64 0∧Ap2 W0 G A B (frameC cf ra ins sa) sb ((ra+1) % cf.nT) rb w'∧∀b,G b→w'.heap[b]?=w.heap[b]?):=by
 obtain ⟨⟨SA,SB,⟨f,lr,h1⟩,h2,h4,h6,h7⟩,h8⟩:=h;refine (h1.frame hm hin hil).mono ?_;rintro v w' ⟨rfl,f',lr',q1,q2⟩;rw [hO.frame,hO.nT] at q1;refine ⟨rfl,⟨⟨_,SB,⟨f',lr',q1⟩,h2.keep (fun b hb=>q2.block b (h2.sz hb) fun hs=>h4 b hs hb) q2.size,fun b hb=>?_,fun b hb=>?_,fun b hb=>?_⟩,?_⟩,fun b hb=>q2.block b (h7 b hb).2.2 (h7 b hb).1⟩
 ·rcases hb with hb|hb
  ·exact h4 b hb
  ·exact fun hs=>by have:=h2.sz hs;omega
 ·rcases hb with (hb|hb)|hb
  ·exact h6 b (.inl hb)
  ·exact Nat.le_trans h8.size hb.1
  ·exact h6 b (.inr hb)
 ·obtain ⟨g1,g2,g4⟩:=h7 b hb;exact ⟨fun hs=>by rcases hs with hs|hs;exact g1 hs;omega,g2,Nat.lt_of_lt_of_le g4 q2.size⟩
 ·exact Ydj h8 q2 (fun b hb=>h6 b (.inl hb)) h8.size
theorem Ap2.view (h:Ap2 W0 G A B sa sb ra rb w) {cell:Nat} (hc:cell<A.k.nC) {tz:Nat→Int} (hx:sa.xs cell=((List.range (sa.m cell*3)).map fun j=>.int .i64 (tz j))) (hm:sa.m cell≤1000000000):
  CallsR Tryz.prog 16 #[.pointer (some ⟨A.k.kb,0,none⟩),.int .i64 cell] w (fun v w'=>Below w.heap.size w w'∧∃pu cu p cap,v=.tuple #[.agg #[.slice pu (sa.m cell) cu,.slice p 16 cap,.int .i64 (sa.z cell 46),.int .i64 (sa.z cell 47),.bool (decide (sa.z cell 3<sa.z cell 47))],.bool true]∧Sl w' pu (sa.m cell*3) (fun j=>.int .i64 (tz j))∧Sl w' p 16 (fun j=>.int .i64 (sa.z cell (29+j)))):=by
 obtain ⟨⟨SA,SB,⟨f,lr,h1⟩,_⟩,_⟩:=h;refine (YgZ h1 hc hx hm).mono ?_;rintro v w' ⟨hb,u,p,cap,rfl,q1,q2⟩;obtain ⟨pu,cu,rfl,_,_,q3⟩:=Zk q1;obtain ⟨p2,c2,e,_,_,q4⟩:=Zk (size:=1) (F:=fun j=>.int .i64 (sa.z cell (29+j))) (n:=16) q2;injection e with e1 _ e2
 subst e1 e2;exact ⟨hb,pu,cu,p,cap,rfl,q3,q4⟩
end
theorem Ydv:∀(l:List (Int×Int)) (j:Nat) (x:Int×Int),l[j]?=some x→(outV l)[j*2]?=some (.int .i64 x.1)∧(outV l)[j*2+1]?=some (.int .i64 x.2)
 | [],j,x,h=>by simp at h
 |p::l,0,x,h=>by
  have:p=x:=by simpa using h
  subst this;exact ⟨rfl,rfl⟩
 |p::l,j+1,x,h=>by
  obtain ⟨h1,h2⟩:=Ydv l j x (by simpa using h);have e:outV (p::l)=.int .i64 p.1::.int .i64 p.2::outV l:=rfl;rw [e,show (j+1)*2=j*2+1+1 by omega,show j*2+1+1+1=j*2+1+1+1 from rfl];exact ⟨by simpa using h1,by simpa using h2⟩
theorem Yf1 {w:World} {base:Nat} {v:Value} {l:List (Int×Int)} (h:w.ownsRow base 59 2 v l.length (outV l)):InW w v l (fun b=>(base≤b∧b<w.heap.size)∧YbM w b):=by
 have hh:=h;obtain ⟨p,c,rfl⟩:=JK h;rcases h.2 with ⟨e,h0⟩|⟨g,cap,cur,e,hb,hg,_⟩
 ·have hl:l=[]:=List.eq_nil_of_length_eq_zero h0;subst hl;exact ⟨p,c,rfl,fun j x hj=>by simp at hj⟩
 ·injection e with e1 _ e3
  subst e1 e3;refine ⟨some ⟨g,0,none⟩,c,rfl,fun j x hj=>⟨g,0,rfl,⟨⟨hb,(Array.getElem?_eq_some_iff.1 hg).1⟩,cur,_,_,hg,by decide,by decide,by decide,by decide,by decide,by decide⟩,?_,?_⟩⟩
  ·rw [Nat.zero_add];exact XC hh (Ydv l j x hj).1
  ·rw [Nat.zero_add];exact XC hh (Ydv l j x hj).2
theorem YgN {P R:Pl} {L:List Int} (hcl:∀j,j<plK P→plCh P (j*3+2)∈L→plCh P (j*3+1)∈L):UnC (cfgP P (fun _=>P)) (cfgP P (unQ P R L 4)) (fun x=>x∈L):=
 ⟨rfl,rfl,rfl,rfl,rfl,rfl,fun i hi ha=>by
  have e:unQ P R L 4 i=P:=by unfold unQ;rw [if_neg (fun q=>q.2 ha)]
  refine ⟨?_,?_,?_,rfl,?_⟩
  ·show plN (unQ P R L 4 i) i+1=plN P i+1;rw [e]
  ·show YbV _ _ _ _ (unQ P R L 4 i) i=YbV _ _ _ _ P i;rw [e]
  ·show ((pk ((unQ P R L 4 i).lim i) 6:Nat):Int)=(pk (P.lim i) 6:Nat);rw [e]
  ·show (fun j=>if j=0 then (unQ P R L 4 i).img i else 3)=fun j=>if j=0 then P.img i else 3;rw [e],fun i hi=>(YcJ P (fun _=>P)).sizes.2.2 i hi,fun i hi=>(YcJ P (unQ P R L 4)).sizes.2.2 i hi,hcl⟩
theorem YfG {w:World} {P:Pl} {Q:Nat→Pl} {v0 v1 v2 v3:Value} (h:CfgR w v0 v1 v2 v3 (cfgP P Q)) (hw:∀i,i<4→Wf ((Q i).nC i*4) ((Q i).code i)):
  CallsR Tryz.prog 10 #[.agg #[v0,v1,v2,v3]] w (fun v w'=>Below w.heap.size w w'∧∃K:KId,v=.tuple #[.pointer (some ⟨K.k.kb,0,none⟩),.bool true]∧Of (cfgP P Q) K.k K.N K.t∧KIn w' K (sq0 (cfgP P Q)) 0 (fun b=>w.heap.size≤b∧b<w'.heap.size)):=by
 refine (YdM h (Yeg P Q hw) (fun _ _=>rfl) (YcJ P Q)).mono ?_;rintro v w' ⟨hb,k,N,t,f,rfl,hO,hK⟩;exact ⟨hb,⟨k,N,t⟩,rfl,hO,f,_,hK⟩
theorem Ye8 {A:Nat→Option Addr} {K:Nat→Nat} {P:Pl} {w:World} (h:Yc4 w A P):
  CallsR Tryz.prog 8 #[Yci A K P] w (fun v w'=>Below w.heap.size w w'∧∃BT g cap vw vd cv gi,v=.agg #[.slice (some ⟨g,0,none⟩) 4 cap,.slice (some ⟨BT+1+1+1,0,none⟩) 3 3,vw,vd]∧CfU w w' P (fun _=>P) BT (.slice (some ⟨g,0,none⟩) 4 cap) vw vd cv gi):=by
 refine CallsR.ofBelow (Ygm _) (fun v w'=>∃BT g cap vw vd cv gi,v=.agg #[.slice (some ⟨g,0,none⟩) 4 cap,.slice (some ⟨BT+1+1+1,0,none⟩) 3 3,vw,vd]∧CfU w w' P (fun _=>P) BT (.slice (some ⟨g,0,none⟩) 4 cap) vw vd cv gi) (fun τ=>(Yf2 A K P (reW w τ 0) (YcN h fun _ _ h=>h)).mono ?_) ?_
 ·rintro e w' ⟨BT,v0,vw,vd,cv,gi,rfl,h1,h2⟩;have h3:=h2.u;have ho:=h2.cells.own;rcases ho.2 with ⟨_,h0⟩|⟨g,cap,cur,e,_⟩
  ·omega
  ·subst e;exact ⟨_,rfl,h1,BT,g,cap,vw,vd,cv,gi,rfl,⟨⟨h3.cells.own,h3.cells.code,h3.cells.img⟩,h3.t0,h3.t1,h3.t2,h3.t3,h3.ch,h3.dv,h3.hw,h3.hn⟩⟩
 ·rintro v w₁ τ d d' ⟨BT,g,cap,vw,vd,cv,gi,e,hh⟩;have key:∀{b m t:Nat} {f:Nat→Value},RowF (reW w₁ τ d) b m t f→RowF (reW w₁ w.tape d') b m t f:=fun hr=>hr.of_heap rfl;have lst:∀{b e s m:Nat} {u:Value} {xs:List Value},(reW w₁ τ d).ownsRow b e s u m xs→(reW w₁ w.tape d').ownsRow b e s u m xs:=fun ho=>Yc6 ho fun _ _=>rfl;exact ⟨BT,g,cap,vw,vd,cv,gi,e,⟨⟨lst hh.cells.own,fun i hi=>lst (hh.cells.code i hi),fun i hi=>⟨key (hh.cells.img i hi).1,(hh.cells.img i hi).2⟩⟩,key hh.t0,key hh.t1,key hh.t2,key hh.t3,lst hh.ch,lst hh.dv,hh.hw,hh.hn⟩⟩
end Go.Proofs.YtdoghgnifkgfdaaGreat.Mute
