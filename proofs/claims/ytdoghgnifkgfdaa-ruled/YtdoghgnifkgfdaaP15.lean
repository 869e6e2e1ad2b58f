import Derived.Test.YtdoghgnifkgfdaaP10
import Derived.Test.YtdoghgnifkgfdaaP14
set_option maxRecDepth 100000
set_option maxHeartbeats 16000000
namespace Go.Proofs.Ytdoghgnifkgfdaa
open Go.RowKit
def CellNewO (w:World) (num:Int) (np:Option Addr) (lim:Int) (m0 m1:Nat) (z0 z1:Nat→Int) (kb:Nat) (w':World):Prop:=
 ∃cv,w.heap.size≤kb∧RowF w' kb 48 163 (cellV num (.pointer np) cv (newZ lim m1 z1))∧w'.ownsRow w.heap.size 73 4 cv m0 ((List.range (m0*4)).map fun j=>.int .i64 (z0 j))
theorem own_lower {w:World} {b b' e size n:Nat} {v:Value} {xs:List Value} (h:w.ownsRow b e size v n xs) (hb:b'≤b):w.ownsRow b' e size v n xs:=by
 rcases h with ⟨hl,h|⟨g,cap,cur,hv,hg,h1⟩⟩
 ·exact ⟨hl,.inl h⟩
 ·exact ⟨hl,.inr ⟨g,cap,cur,hv,Nat.le_trans hb hg,h1⟩⟩
theorem cellsNew_own (num:Int) (np:Option Addr) (v0 v1:Value) (n0 n1:Bool) (m0 m1:Nat) (z0 z1:Nat→Int) (lim:Int) (w:World) (h0:SlZ w v0 n0 m0 4 z0 32) (h1:SlZ w v1 n1 m1 1 z1 8) (h16:m1≤16):
  Calls Try.prog 44 #[.int .i64 num,.agg #[v0,v1,.int .i64 lim],.pointer np] w fun e w'=>∃kb,e=.returned (.pointer (some ⟨kb,0,none⟩))∧Below w.heap.size w w'∧CellNewO w num np lim m0 m1 z0 z1 kb w':=by
 obtain ⟨p0,cap0,rfl,-,-,y0,b0,s0⟩:=h0;obtain ⟨p1,cap1,rfl,-,-,y1,b1,s1⟩:=h1;have HB:Hid (∀o,Below w.heap.size w (w.alloc o)):=fun o=>(Below.refl _ _).alloc (Nat.le_refl _) _;have HX:Hid (RowF (w.alloc (.cells #[.slice p0 m0 cap0,.slice p1 m1 cap1,.int .i64 lim] 70)) w.heap.size 3 70 (cells3 (.slice p0 m0 cap0) (.slice p1 m1 cap1) (.int .i64 lim))):=row3 w _ _ _ _;have S0:Hid (Sl w p0 (m0*4) (fun j=>.int .i64 (z0 j))):=s0;have S1:Hid (Sl w p1 (m1*1) (fun j=>.int .i64 (z1 j))):=s1;have Y0:Hid (p0=none→m0=0∧cap0=0):=y0;have B0:Hid (32*m0≤140737488355328):=b0;clear s0 s1 y0 b0
 go_enter Try.func44,Try.ntmps44
 go_wp2_with fail
 go_region_law
  (first
   |(refine step_call_go1 rfl 63 _ _ rfl _ rfl Try.f63 Try.func63 nameCloneIns bodyCloneIns (fun r w'=>∃q cc,r=.slice q m0 cc∧Below (w.heap.size+1) (w.alloc (.cells #[.slice p0 m0 cap0,.slice p1 m1 cap1,.int .i64 lim] 70)) w'∧w'.ownsRow w.heap.size 73 4 (.slice q m0 cc) m0 ((List.range (m0*4)).map fun j=>.int .i64 (z0 j))) ?_ ?_
     ·refine (cloneIns_own p0 m0 cap0 z0 (w.alloc (.cells #[.slice p0 m0 cap0,.slice p1 m1 cap1,.int .i64 lim] 70)).drew (S0.out.below (HB.out _).drew) Y0.out B0.out).mono ?_;rintro e w' ⟨v,h1,h2,h3⟩;obtain ⟨q,cc,rfl,-⟩:=own_sl h3;exact ⟨_,h1,q,cc,rfl,⟨h2.os,h2.tape,h2.output,by simpa using h2.size,fun j hj=>h2.block j (by simpa using hj)⟩,own_lower h3 (by simp)⟩
     rintro r wl ⟨q,cc,rfl,hbl,hql⟩;have HBl:Hid (Below (w.heap.size+1) (w.alloc (.cells #[.slice p0 m0 cap0,.slice p1 m1 cap1,.int .i64 lim] 70)) wl):=hbl;have HQl:Hid (wl.ownsRow w.heap.size 73 4 (.slice q m0 cc) m0 ((List.range (m0*4)).map fun j=>.int .i64 (z0 j))):=hql;obtain ⟨j0,j1,j2⟩:=(HX.out.below HBl.out (by omega)).at3;clear hbl hql))
 all_goals
  have HC:Hid (RowF (wl.alloc (.cells (List.toArray (.int .i64 num::.pointer np::.slice q m0 cc::.int .i64 lim::.int .i64 0::.int .i64 0::.int .i64 0::.int .i64 0::.int .i64 0::.int .i64 0::.int .i64 0::.int .i64 0::.int .i64 0::.int .i64 0::.int .i64 0::.int .i64 0::.int .i64 0::.int .i64 0::.int .i64 0::.int .i64 0::.int .i64 0::.int .i64 0::.int .i64 0::.int .i64 0::.int .i64 0::.int .i64 0::.int .i64 0::.int .i64 0::.int .i64 0::.int .i64 0::.int .i64 0::.int .i64 0::.int .i64 0::.int .i64 0::.int .i64 0::.int .i64 0::.int .i64 0::.int .i64 0::.int .i64 0::.int .i64 0::.int .i64 0::.int .i64 0::.int .i64 0::.int .i64 0::.int .i64 0::.int .i64 0::.int .i64 0::.int .i64 0::[])) 163)) wl.heap.size 48 163 (fun j=>if j=0 then .int .i64 num else if j=1 then .pointer np else if j=2 then .slice q m0 cc else .int .i64 (if j=3 then lim else 0))):=(row48 wl _ _ _ _ _).congr fun j _=>by
   by_cases h0:j=0
   ·simp [h0]
   ·by_cases h1:j=1
    ·simp [h1]
    ·by_cases h2:j=2
     ·simp [h2]
     ·by_cases h3:j=3
      ·simp [h3]
      ·simp [h0,h1,h2,h3]
  have HBw:Hid (Below w.heap.size w (wl.alloc (.cells (List.toArray (.int .i64 num::.pointer np::.slice q m0 cc::.int .i64 lim::.int .i64 0::.int .i64 0::.int .i64 0::.int .i64 0::.int .i64 0::.int .i64 0::.int .i64 0::.int .i64 0::.int .i64 0::.int .i64 0::.int .i64 0::.int .i64 0::.int .i64 0::.int .i64 0::.int .i64 0::.int .i64 0::.int .i64 0::.int .i64 0::.int .i64 0::.int .i64 0::.int .i64 0::.int .i64 0::.int .i64 0::.int .i64 0::.int .i64 0::.int .i64 0::.int .i64 0::.int .i64 0::.int .i64 0::.int .i64 0::.int .i64 0::.int .i64 0::.int .i64 0::.int .i64 0::.int .i64 0::.int .i64 0::.int .i64 0::.int .i64 0::.int .i64 0::.int .i64 0::.int .i64 0::.int .i64 0::.int .i64 0::.int .i64 0::[])) 163))):=(((HB.out _).trans (HBl.out.mono (by omega))).alloc (by have:=HBl.out.size;simp at this;omega) _);have HBq:Hid (Below wl.heap.size wl (wl.alloc (.cells (List.toArray (.int .i64 num::.pointer np::.slice q m0 cc::.int .i64 lim::.int .i64 0::.int .i64 0::.int .i64 0::.int .i64 0::.int .i64 0::.int .i64 0::.int .i64 0::.int .i64 0::.int .i64 0::.int .i64 0::.int .i64 0::.int .i64 0::.int .i64 0::.int .i64 0::.int .i64 0::.int .i64 0::.int .i64 0::.int .i64 0::.int .i64 0::.int .i64 0::.int .i64 0::.int .i64 0::.int .i64 0::.int .i64 0::.int .i64 0::.int .i64 0::.int .i64 0::.int .i64 0::.int .i64 0::.int .i64 0::.int .i64 0::.int .i64 0::.int .i64 0::.int .i64 0::.int .i64 0::.int .i64 0::.int .i64 0::.int .i64 0::.int .i64 0::.int .i64 0::.int .i64 0::.int .i64 0::.int .i64 0::.int .i64 0::[])) 163))):=(Below.refl _ _).alloc (Nat.le_refl _) _;have hwl:w.heap.size<wl.heap.size:=by have:=HBl.out.size;simp at this;omega
  have hk1:(wl.alloc (.cells (List.toArray (.int .i64 num::.pointer np::.slice q m0 cc::.int .i64 lim::.int .i64 0::.int .i64 0::.int .i64 0::.int .i64 0::.int .i64 0::.int .i64 0::.int .i64 0::.int .i64 0::.int .i64 0::.int .i64 0::.int .i64 0::.int .i64 0::.int .i64 0::.int .i64 0::.int .i64 0::.int .i64 0::.int .i64 0::.int .i64 0::.int .i64 0::.int .i64 0::.int .i64 0::.int .i64 0::.int .i64 0::.int .i64 0::.int .i64 0::.int .i64 0::.int .i64 0::.int .i64 0::.int .i64 0::.int .i64 0::.int .i64 0::.int .i64 0::.int .i64 0::.int .i64 0::.int .i64 0::.int .i64 0::.int .i64 0::.int .i64 0::.int .i64 0::.int .i64 0::.int .i64 0::.int .i64 0::.int .i64 0::.int .i64 0::[])) 163)).cell? ⟨w.heap.size,1,none⟩=some (.slice p1 m1 cap1):=(((Below.refl _ wl).alloc (Nat.le_refl _) _).cell (p:=⟨w.heap.size,1,none⟩) hwl).trans j1;have hZ:(wl.alloc (.cells (List.toArray (.int .i64 num::.pointer np::.slice q m0 cc::.int .i64 lim::.int .i64 0::.int .i64 0::.int .i64 0::.int .i64 0::.int .i64 0::.int .i64 0::.int .i64 0::.int .i64 0::.int .i64 0::.int .i64 0::.int .i64 0::.int .i64 0::.int .i64 0::.int .i64 0::.int .i64 0::.int .i64 0::.int .i64 0::.int .i64 0::.int .i64 0::.int .i64 0::.int .i64 0::.int .i64 0::.int .i64 0::.int .i64 0::.int .i64 0::.int .i64 0::.int .i64 0::.int .i64 0::.int .i64 0::.int .i64 0::.int .i64 0::.int .i64 0::.int .i64 0::.int .i64 0::.int .i64 0::.int .i64 0::.int .i64 0::.int .i64 0::.int .i64 0::.int .i64 0::.int .i64 0::.int .i64 0::.int .i64 0::.int .i64 0::[])) 163)).heap.size=wl.heap.size+1:=by simp
  clear HBl j0 j1 j2 HX;generalize (wl.alloc (.cells (List.toArray (.int .i64 num::.pointer np::.slice q m0 cc::.int .i64 lim::.int .i64 0::.int .i64 0::.int .i64 0::.int .i64 0::.int .i64 0::.int .i64 0::.int .i64 0::.int .i64 0::.int .i64 0::.int .i64 0::.int .i64 0::.int .i64 0::.int .i64 0::.int .i64 0::.int .i64 0::.int .i64 0::.int .i64 0::.int .i64 0::.int .i64 0::.int .i64 0::.int .i64 0::.int .i64 0::.int .i64 0::.int .i64 0::.int .i64 0::.int .i64 0::.int .i64 0::.int .i64 0::.int .i64 0::.int .i64 0::.int .i64 0::.int .i64 0::.int .i64 0::.int .i64 0::.int .i64 0::.int .i64 0::.int .i64 0::.int .i64 0::.int .i64 0::.int .i64 0::.int .i64 0::.int .i64 0::.int .i64 0::.int .i64 0::[])) 163))=wc at *;generalize (Value.agg (List.toArray (.int .i64 num::.pointer np::.slice q m0 cc::.int .i64 lim::.int .i64 0::.int .i64 0::.int .i64 0::.int .i64 0::.int .i64 0::.int .i64 0::.int .i64 0::.int .i64 0::.int .i64 0::.int .i64 0::.int .i64 0::.int .i64 0::.int .i64 0::.int .i64 0::.int .i64 0::.int .i64 0::.int .i64 0::.int .i64 0::.int .i64 0::.int .i64 0::.int .i64 0::.int .i64 0::.int .i64 0::.int .i64 0::.int .i64 0::.int .i64 0::.int .i64 0::.int .i64 0::.int .i64 0::.int .i64 0::.int .i64 0::.int .i64 0::.int .i64 0::.int .i64 0::.int .i64 0::.int .i64 0::.int .i64 0::.int .i64 0::.int .i64 0::.int .i64 0::.int .i64 0::.int .i64 0::.int .i64 0::.int .i64 0::[])))=V;go_wp2_with fail
  go_region_law
   (refine step_copy_at rfl _ _ 56 56 rfl 2 _ 1 8 Try.underlying56 info_numbers wl.heap.size 8 16 16 p1 m1 cap1 rfl rfl 48 163 (fun j=>if j=0 then .int .i64 num else if j=1 then .pointer np else if j=2 then .slice q m0 cc else .int .i64 (if j=3 then lim else 0)) (fun j=>.int .i64 (z1 j)) h16 ?_ (by omega) ?_ (fun _ _=>rfl) (fun h=>(y1 h).1) ?_
    ·exact HC.out
    ·exact (S1.out.below HBw.out.drew)
    intro w2 hr2 hg2 hs2;have HG2:Hid (World.grownBy _ w2 (some wl.heap.size)):=hg2;have HE:Hid (RowF w2 wl.heap.size 48 163 (fun j=>if j=0 then .int .i64 num else if j=1 then .pointer np else if j=2 then .slice q m0 cc else .int .i64 (if j=3 then lim else if 8≤j∧j<8+m1*1 then z1 (j-8) else 0))):=hr2.congr (fun j hj=>by
     show (if 8≤j∧j<8+m1*1 then (.int .i64 (z1 (j-8)):Value) else if j=0 then _ else if j=1 then _ else if j=2 then _ else _)=_;by_cases h:8≤j∧j<8+m1*1
     ·rw [if_pos h,if_neg (by omega),if_neg (by omega),if_neg (by omega),if_neg (by omega),if_pos h]
     ·rw [if_neg h];by_cases h3:j=3
      ·simp [h3]
      ·simp only [h3,if_false,h])
    clear hr2 hg2 hs2)
 all_goals
  have HF:Hid (Below w.heap.size w w2):=HBw.out.drew.grown HG2.out (by show w.heap.size≤wc.heap.size;omega) (fun j hj=>by simp at hj;omega);have HFq:Hid (Below wl.heap.size wl w2):=HBq.out.drew.grown HG2.out (by show wl.heap.size≤wc.heap.size;omega) (fun j hj=>by simp at hj;omega);clear HC HG2 hk1 HBq;have hL1:((List.range 21).map (fun j=>Value.int .i64 (if 4+j=3 then lim else if 8≤4+j∧4+j<8+m1*1 then z1 (4+j-8) else 0))).length=21:=by simp
  have hL2:∀v∈(List.range 21).map (fun j=>Value.int .i64 (if 4+j=3 then lim else if 8≤4+j∧4+j<8+m1*1 then z1 (4+j-8) else 0)),v.oneCell'=true:=fun v hv=>by obtain ⟨y,_,rfl⟩:=List.mem_map.1 hv;rfl
  have hL3:=row48_range HE.out;have HEL:Hid (∀j,j<21→((List.range 21).map (fun j=>Value.int .i64 (if 4+j=3 then lim else if 8≤4+j∧4+j<8+m1*1 then z1 (4+j-8) else 0))).getD j undef=.int .i64 (if 4+j=3 then lim else if 8≤4+j∧4+j<8+m1*1 then z1 (4+j-8) else 0)):=fun j hj=>by simp [hj]
  generalize (List.range 21).map (fun j=>Value.int .i64 (if 4+j=3 then lim else if 8≤4+j∧4+j<8+m1*1 then z1 (4+j-8) else 0))=L at *;have HL1:Hid (L.length=21):=hL1;have HL2:Hid (∀v∈L,v.oneCell'=true):=hL2;have HL3:Hid (w2.rangeAt wl.heap.size 4 L):=hL3;have HSZ:Hid (Option.map (fun x=>x.size) (Try.prog.info? 161)=some L.length):=by show _=_;rw [hL1];exact size_state
  clear hL1 hL2 hL3;go_wp2_with (first|(refine wpList_load_mid rfl 161 _ rfl wl.heap.size 4 rfl L _ HL3.out Try.underlying161 rfl HSZ.out ?_)|(refine wpList_store_mid rfl 161 _ _ rfl wl.heap.size 25 L.toArray rfl rfl ?_ ?_ ?_ ?_))
  ·exact row48_there HE.out HL1.out
  ·rw [List.size_toArray];exact HSZ.out
  ·exact all_oneCell_toArray HL2.out
  have HF2:Hid (Below w.heap.size w (w2.setCells wl.heap.size 25 L)):=below_setCells HF.out (by omega) _ _;have HF3:Hid (Below wl.heap.size wl (w2.setCells wl.heap.size 25 L)):=below_setCells HFq.out (Nat.le_refl _) _ _;have HN:Hid (CellNewO w num np lim m0 m1 z0 z1 wl.heap.size (w2.setCells wl.heap.size 25 L)):=by
   refine ⟨.slice q m0 cc,by omega,(HE.out.setCells L 25).congr fun j _=>?_,own_below HQl.out HF3.out⟩
   ·rw [HL1.out];unfold cellV newZ;by_cases h:25≤j∧j<25+21
    ·rw [if_pos h,HEL.out (j-25) (by omega)];repeat' split
     all_goals first
      |rfl
      |(exfalso;omega)
      |(congr 2;omega)
    ·rw [if_neg h];repeat' split
     all_goals first
      |rfl
      |(exfalso;omega)
      |(congr 2;omega)
  go_wp2_with fail
  go_ret;exact ⟨_,rfl,HF2.out,HN.out⟩
end Go.Proofs.Ytdoghgnifkgfdaa
