import Derived.BigQuiet
import Derived.Deep.QuietTactic
import Derived.Test.YtdoghgnifkgfdaaGreatP36
set_option maxRecDepth 100000
set_option maxHeartbeats 4000000
namespace Go.Proofs.YtdoghgnifkgfdaaGreat.Mute
open Go Go.Conc Go.RowKit
def rcOf (s:KSt) (vs:Nat→Value) (i:Nat):RC:=⟨s.z i,s.z i 46,vs i,decide (s.z i 3<s.z i 47)⟩
def SOk (k:Ker) (s:KSt):Prop:=∀i,i<k.nC→Zok (k.n i) (s.z i)∧IntKind.i64.wrap (s.z i 46)=s.z i 46
theorem wrap_wrap (x:Int):IntKind.i64.wrap (IntKind.i64.wrap x)=IntKind.i64.wrap x:=by
 rw [IntKind.wrap_i64,IntKind.wrap_i64];omega
theorem Y3p {n:Nat} {ci:Nat→Int} (hok:Xc n ci):∀(k:Nat) (z:Nat→Int),Zok n z→IntKind.i64.wrap (z 46)=z 46→IntKind.i64.wrap ((runF n ci k z).2.2 46)=(runF n ci k z).2.2 46
 |0,_,_,h=>h
 |k+1,z,hz,h=>by
  obtain ⟨-,k2,-⟩:=Y29 hok hz;have hzk:=Y06 hok hz;simp only [runF];revert k2 hzk;cases Y7 n ci z with
  |on op e z'=>
   intro k2 hzk;have h46:IntKind.i64.wrap (z' 46)=z' 46:=by
    have:z' 46=IntKind.i64.wrap (z 46+1):=k2;rw [this,wrap_wrap]
   by_cases h0:op=0
   ·simp only [h0,if_true];exact h46
   ·simp only [h0,if_false];exact Y3p hok k z' hzk h46
  |broke y z'=>
   intro k2 _;have:z' 46=IntKind.i64.wrap (z 46+1):=k2;show IntKind.i64.wrap (z' 46)=z' 46;rw [this,wrap_wrap]
theorem Y63 {n:Nat} {ci z:Nat→Int} (hok:Xc n ci) (hz:Zok n z) (h:IntKind.i64.wrap (z 46)=z 46) (b:Nat):IntKind.i64.wrap ((Yf n ci b z).2 46)=(Yf n ci b z).2 46:=by
 show IntKind.i64.wrap ((goF n ci b z).2.2 46)=(goF n ci b z).2.2 46;unfold goF;split
 ·exact h
 ·exact Y3p hok b z hz h
theorem SOk.win {k:Ker} {s:KSt} {p:Nat×Nat} (h:SOk k s) (hok:∀i,i<k.nC→Xc (k.n i) (k.ci i)):SOk k (winS k p s):=fun i hi=>by
 show Zok (k.n i) (updN s.z p.1 _ i)∧IntKind.i64.wrap (updN s.z p.1 _ i 46)=updN s.z p.1 _ i 46;by_cases e:i=p.1
 ·subst e;rw [Yh];exact ⟨Y2A (hok _ hi) (h _ hi).1 _,Y63 (hok _ hi) (h _ hi).1 (h _ hi).2 _⟩
 ·rw [YG _ _ e];exact h i hi
section
variable {w0 w w':World} {k:Ker} {r:RK} {s:KSt} {vs vs0:Nat→Value} {p:Nat×Nat} {v':Value}
structure RFw (w0:World) (vs0:Nat→Value) (k:Ker) (r:RK) (s:KSt) (vs:Nat→Value) (w:World):Prop where
 kn:RNow w k r (rcOf s vs) s.m s.xs
 but:But (fun j=>j=r.Gc∨∃i,i<k.nC∧(vs0 i).ownBlock=some j) w0 w
 blk:∀i b,i<k.nC→(vs i).ownBlock=some b→(vs0 i).ownBlock=some b∨w0.heap.size≤b
theorem Y9l (k:Ker) (s:KSt) (vs:Nat→Value) (p:Nat×Nat) (v':Value):updN (rcOf s vs) p.1 ⟨(Yf (k.n p.1) (k.ci p.1) p.2 (s.z p.1)).2,(Yf (k.n p.1) (k.ci p.1) p.2 (s.z p.1)).2 46,v',decide ((Yf (k.n p.1) (k.ci p.1) p.2 (s.z p.1)).2 3<(Yf (k.n p.1) (k.ci p.1) p.2 (s.z p.1)).2 47)⟩=rcOf (winS k p s) (updN vs p.1 v'):=by
 funext i
 unfold rcOf winS;by_cases e:i=p.1
 ·subst e;simp only [Yh]
 ·simp only [YG _ _ e]
theorem Y7q {n:Nat} {ci z:Nat→Int} (hok:Xc n ci) (hz:Zok n z) (b:Nat) (i:Nat) (hi:i<25):(Yf n ci b z).2 i=z i:=by
 show (goF n ci b z).2.2 i=z i;unfold goF;split
 ·rfl
 ·have:∀(k:Nat) (z:Nat→Int),Zok n z→(runF n ci k z).2.2 i=z i:=by
   intro k;induction k with
   |zero=>exact fun _ _=>rfl
   |succ k ih=>
    intro z hz;obtain ⟨k1,-,-⟩:=Y29 hok hz;have hzk:=Y06 hok hz;simp only [runF];revert k1 hzk;cases Y7 n ci z with
    |on op e z'=>
     intro k1 hzk;by_cases h0:op=0
     ·simp only [h0,if_true];exact k1 i (.inl hi)
     ·simp only [h0,if_false];exact (ih z' hzk).trans (k1 i (.inl hi))
    |broke y z'=>
     intro k1 _;have:Yo z' i=z' i:=by unfold Yo;rw [if_neg (by omega),if_neg (by omega)]
     exact this.trans (k1 i (.inl hi))
  exact this b z hz
theorem RFw.after (h:RFw w0 vs0 k r s vs w) (hp:p.1<k.nC) (hz:Zok (k.n p.1) (s.z p.1)) (hA:RAft w r.Gc k.nC p.1 (rcOf s vs) ⟨(Yf (k.n p.1) (k.ci p.1) p.2 (s.z p.1)).2,(Yf (k.n p.1) (k.ci p.1) p.2 (s.z p.1)).2 46,v',decide ((Yf (k.n p.1) (k.ci p.1) p.2 (s.z p.1)).2 3<(Yf (k.n p.1) (k.ci p.1) p.2 (s.z p.1)).2 47)⟩ (s.m p.1+(Yf (k.n p.1) (k.ci p.1) p.2 (s.z p.1)).1.length) (s.xs p.1++(Yf (k.n p.1) (k.ci p.1) p.2 (s.z p.1)).1.flatMap Yv) w'):
  RFw w0 vs0 k r (winS k p s) (updN vs p.1 v') w':=by
 refine ⟨?_,h.but.trans hA.but (fun _ x=>x) (fun j hj x=>?_),fun i b hi hb=>?_⟩
 ·have:=h.kn.after hp hA (fun j _ h25=>Y7q (h.kn.ok _ hp) hz _ j h25);rw [Y9l] at this;exact this
 ·rcases x with x|x
  ·exact .inl x
  ·rcases h.blk p.1 j hp x with x|x
   ·exact .inr ⟨p.1,hp,x⟩
   ·omega
 ·by_cases e:i=p.1
  ·subst e;rw [Yh] at hb;rcases hA.blk b hb with x|x
   ·exact h.blk _ b hi x
   ·exact .inr (Nat.le_trans h.but.size x)
  ·rw [YG _ _ e] at hb;exact h.blk i b hi hb
theorem RFw.stat (h:RFw w0 vs0 k r s vs w) {b:Nat} (hs:YM r w0 b) (hown:∀i b,i<k.nC→(vs0 i).ownBlock=some b→r.hi≤b):w.heap[b]?=w0.heap[b]?:=by
 refine h.but.block b hs.lt (fun e=>?_);rcases e with e|⟨i,hi,e⟩
 ·exact hs.2.1 e
 ·exact hs.ne_own (fun b=>hown i b hi) e
end
def kf8 (a b c d e f g h:Value) (j:Nat):Value:=if j=0 then a else if j=1 then b else if j=2 then c else if j=3 then d else if j=4 then e else if j=5 then f else if j=6 then g else h
theorem RowF.set8 {w:World} {g0 t:Nat} {a b c d e f g h:Value} (hr:RowF w g0 8 t (kf8 a b c d e f g h)) (v:Value):RowF (w.setCell ⟨g0,6,none⟩ v) g0 8 t (kf8 a b c d e f v h)∧RowF (w.setCell ⟨g0,7,none⟩ v) g0 8 t (kf8 a b c d e f g v):=by
 refine ⟨(hr.set 6 v).congr ?_,(hr.set 7 v).congr ?_⟩
 all_goals
  intro j hj;have:j=0∨j=1∨j=2∨j=3∨j=4∨j=5∨j=6∨j=7:=by omega
  rcases this with rfl|rfl|rfl|rfl|rfl|rfl|rfl|rfl<;>rfl
theorem YaF (Kb:Nat) (ip:Option Addr) (il ic:Nat) (w:World) (h:4<il):
  Calls Tryz.prog 44 #[.pointer (some ⟨Kb,0,none⟩),.slice ip il ic] w fun e w'=>e=.returned (.int .i64 6)∧w'=w:=by
 have hi:(4:Int)<(il:Int):=by omega
 go_enter Tryz.func44,Tryz.ntmps44
 go_wp2_with fail
 go_ret;exact ⟨rfl,rfl⟩
section
variable {w:World} {k:Ker} {r:RK} {s:KSt} {vs:Nat→Value}
theorem RNow.at {Q:Nat→RC} {m:Nat→Nat} {xs:Nat→List Value} (h:RNow w k r Q m xs) (d:Nat):RNow (w.at d) k r Q m xs:=
 ⟨h.h0,h.h4,h.sK,h.sb,h.sc,h.si,h.oh,h.hc,h.hi,h.hl,h.code,h.imgs,h.row,h.own,h.ownNe,h.g16,h.n48,h.ok,h.fst⟩
theorem Y1A {α:Type} (x:Nat→α) (i:Nat):updN x i (x i)=x:=by
 funext j
 unfold updN;split
 ·rename_i e;rw [e]
 ·rfl
theorem RNow.note {Q:Nat→RC} {m:Nat→Nat} {xs:Nat→List Value} (h:RNow w k r Q m xs) {n a:Nat} (hn:n<k.nC) (ha:a=n*26+21):RNow (w.setCell ⟨r.Gc,a,none⟩ (.slice none 0 0)) k r Q m xs:=by
 have h1:=(RAft.refl h hn).setG (c':=Q n) (j:=a) (v:=.slice none 0 0) (RowF.rn (RAft.refl h hn).row ha) rfl;have h2:=h.after hn h1 (fun _ _ _=>rfl);rwa [Y1A,Y1A,Y1A] at h2
theorem RFw.at {w0:World} {vs0:Nat→Value} (h:RFw w0 vs0 k r s vs w) (d:Nat):RFw w0 vs0 k r s vs (w.at d):=
 ⟨h.kn.at d,⟨h.but.os,h.but.tape,h.but.output,h.but.size,h.but.block⟩,h.blk⟩
structure Y0R (k:Ker) (r:RK):Prop where
 b:r.bo≠r.Kb
 c:∀i,i<k.nC→r.cb i≠r.Kb
 i:∀i,i<k.nC→∀b o,r.iq i=some ⟨b,o,none⟩→b≠r.Kb
theorem RNow.setK {Q:Nat→RC} {m:Nat→Nat} {xs:Nat→List Value} (h:RNow w k r Q m xs) {j:Nat} {v:Value} (hj:j≠0∧j≠4) (ha:Y0R k r) {fK:Nat→Value} (hK:RowF w r.Kb 8 126 fK):RNow (w.setCell ⟨r.Kb,j,none⟩ v) k r Q m xs:=by
 have ne:∀{b:Nat},b≠r.Kb→(w.setCell ⟨r.Kb,j,none⟩ v).heap[b]?=w.heap[b]?:=fun hb=>heap_setCell_other _ _ _ _ hb;have hcell:∀i,i≠j→(w.setCell ⟨r.Kb,j,none⟩ v).cell? ⟨r.Kb,i,none⟩=w.cell? ⟨r.Kb,i,none⟩:=fun i hi=>World.cell?_setCell_other _ _ _ _ (fun e=>by have:=congrArg Addr.off e;exact hi this.symm);have gen:∀{b:Nat},YM r w b→YM r (w.setCell ⟨r.Kb,j,none⟩ v) b:=fun hs=>hs.to (by rw [size_setCell];exact Nat.le_refl _);have tyne:∀{b n t:Nat} {f:Nat→Value},RowF w b n t f→t≠126→b≠r.Kb:=fun hr ht e=>by
  subst e;exact Y0w hr hK ht rfl
 refine ⟨(hcell 0 (fun e=>hj.1 e.symm)).trans h.h0,(hcell 4 (fun e=>hj.2 e.symm)).trans h.h4,gen h.sK,gen h.sb,fun i hi=>gen (h.sc i hi),fun i hi b o e=>gen (h.si i hi b o e),h.oh,fun i hi=>(cell_of_heap (a:=⟨r.bo,r.oo+i*3,none⟩) (ne ha.b)).trans (h.hc i hi),fun i hi=>(cell_of_heap (a:=⟨r.bo,r.oo+i*3+1,none⟩) (ne ha.b)).trans (h.hi i hi),fun i hi=>(cell_of_heap (a:=⟨r.bo,r.oo+i*3+2,none⟩) (ne ha.b)).trans (h.hl i hi),fun i hi j' hj'=>(cell_of_heap (a:=⟨r.cb i,r.co i+j',none⟩) (ne (ha.c i hi))).trans (h.code i hi j' hj'),fun i hi=>?_,h.row.other _ _ (fun e=>tyne h.row (by decide) e.symm),fun i hi=>Xd (L:=⟨0,0,111,fun _=>False,fun _=>False⟩) (h.own i hi) fun b hb=>ne (fun e=>Zh hK (by decide) (h.own i hi) (by rw [←e];exact hb)),h.ownNe,h.g16,h.n48,h.ok,h.fst⟩;rcases h.imgs i hi with e|⟨b,o,e,hc⟩
 ·exact .inl e
 ·exact .inr ⟨b,o,e,fun j' hj'=>(cell_of_heap (a:=⟨b,o+j',none⟩) (ne (ha.i i hi b o e))).trans (hc j' hj')⟩
theorem Y77 {nT cT tb to_ nW cW wsB wo fr il ic c3 c5:Nat} {wn:Nat→Nat×Nat} {ip q3 q5:Option Addr} {zi:Nat→Int} {v2 v7:Value} (h:RNow w k r (rcOf s vs) s.m s.xs) (hS:SOk k s) (ha:Y0R k r)
  (hK:RowF w r.Kb 8 126 (kf8 (.slice (some ⟨r.bo,r.oo,none⟩) k.nC r.cq) (.slice (some ⟨tb,to_,none⟩) nT cT) v2 (.slice q3 0 c3) (.slice (some ⟨r.Gc,0,none⟩) k.nC k.nC) (.slice q5 0 c5) (.int .i64 fr) v7))
  (st:YM r w tb) (htK:tb≠r.Kb) (hrow:w.cell? ⟨tb,to_+fr % nT,none⟩=some (.slice (some ⟨wsB,wo,none⟩) nW cW)) (sW:YM r w wsB) (hwK:wsB≠r.Kb) (c0:∀j,j<nW→w.cell? ⟨wsB,wo+j*2,none⟩=some (.int .i64 (wn j).1)) (c1:∀j,j<nW→w.cell? ⟨wsB,wo+j*2+1,none⟩=some (.int .i64 (wn j).2))
  (hin:Sl w ip (il*2) (fun j=>.int .i64 (zi j))) (hiK:il=0∨∀b o,ip=some ⟨b,o,none⟩→b≠r.Kb) (hil:il≤4) (hnT:1≤nT) (hnT':nT≤1000) (hfr:fr≤1000000000000) (hnW:nW≤1000) (hwn:∀j,j<nW→(wn j).1<k.nC∧(wn j).2≤200) (hnC:k.nC≤1000) (hm:∀i,s.m i+nW*201+300≤1000000000):
  Calls Tryz.prog 44 #[.pointer (some ⟨r.Kb,0,none⟩),.slice ip il ic] w fun e w'=>e=.returned (.int .i64 0)∧
   ∃vs',RNow w' k r (rcOf (rowS k wn nW 0 s) vs') (rowS k wn nW 0 s).m (rowS k wn nW 0 s).xs∧SOk k (rowS k wn nW 0 s)∧RowF w' r.Kb 8 126 (kf8 (.slice (some ⟨r.bo,r.oo,none⟩) k.nC r.cq) (.slice (some ⟨tb,to_,none⟩) nT cT) v2 (.slice q3 0 c3) (.slice (some ⟨r.Gc,0,none⟩) k.nC k.nC) (.slice q5 0 c5) (.int .i64 (fr+1:Nat)) (.slice none 0 0))∧
    But (fun j=>j=r.Kb∨j=r.Gc∨∃i,i<k.nC∧(vs i).ownBlock=some j) w w'∧∀i b,i<k.nC→(vs' i).ownBlock=some b→(vs i).ownBlock=some b∨w.heap.size≤b:=by
 have x7:=hK.cell (j:=7) (by omega);have f7:=hK.frozen 7;have hI4:¬((4:Int)<(il:Int)):=by omega
 have HRN:Hid (RNow (w.setCell ⟨r.Kb,7,none⟩ (.slice none 0 0)) k r (rcOf s vs) s.m s.xs):=h.setK (by omega) ha hK;have HK7:Hid (RowF (w.setCell ⟨r.Kb,7,none⟩ (.slice none 0 0)) r.Kb 8 126 (kf8 (.slice (some ⟨r.bo,r.oo,none⟩) k.nC r.cq) (.slice (some ⟨tb,to_,none⟩) nT cT) v2 (.slice q3 0 c3) (.slice (some ⟨r.Gc,0,none⟩) k.nC k.nC) (.slice q5 0 c5) (.int .i64 fr) (.slice none 0 0))):=(RowF.set8 hK _).2;have HG7:Hid (But (fun j=>j=r.Kb) w (w.setCell ⟨r.Kb,7,none⟩ (.slice none 0 0))):=Ym (But.refl _ _) _ _;have HIN:Hid (Sl (w.setCell ⟨r.Kb,7,none⟩ (.slice none 0 0)) ip (il*2) (fun j=>.int .i64 (zi j))):=by
  rcases hin with e|⟨b,o,e,hc⟩
  ·exact .inl e
  ·rcases hiK with e0|hiK
   ·exact .inl (by omega)
   ·exact .inr ⟨b,o,e,fun j hj=>(cell_of_heap (a:=⟨b,o+j,none⟩) (heap_setCell_other _ _ _ _ (hiK b o e))).trans (hc j hj)⟩
 have HTB:Hid (YM r (w.setCell ⟨r.Kb,7,none⟩ (.slice none 0 0)) tb∧(w.setCell ⟨r.Kb,7,none⟩ (.slice none 0 0)).cell? ⟨tb,to_+fr % nT,none⟩=some (.slice (some ⟨wsB,wo,none⟩) nW cW)):=⟨st.to (by rw [size_setCell];exact Nat.le_refl _),(cell_of_heap (a:=⟨tb,to_+fr % nT,none⟩) (heap_setCell_other _ _ _ _ htK)).trans hrow⟩;have HWS:Hid (YM r (w.setCell ⟨r.Kb,7,none⟩ (.slice none 0 0)) wsB∧(∀j,j<nW→(w.setCell ⟨r.Kb,7,none⟩ (.slice none 0 0)).cell? ⟨wsB,wo+j*2,none⟩=some (.int .i64 (wn j).1))∧(∀j,j<nW→(w.setCell ⟨r.Kb,7,none⟩ (.slice none 0 0)).cell? ⟨wsB,wo+j*2+1,none⟩=some (.int .i64 (wn j).2))):=⟨sW.to (by rw [size_setCell];exact Nat.le_refl _),fun j hj=>(cell_of_heap (a:=⟨wsB,wo+j*2,none⟩) (heap_setCell_other _ _ _ _ hwK)).trans (c0 j hj),fun j hj=>(cell_of_heap (a:=⟨wsB,wo+j*2+1,none⟩) (heap_setCell_other _ _ _ _ hwK)).trans (c1 j hj)⟩;clear h hK st hrow sW c0 c1 hin
 go_enter Tryz.func44,Tryz.ntmps44
 go_wp2_with fail
 generalize (w.setCell ⟨r.Kb,7,none⟩ (.slice none 0 0))=w7 at *;clear x7 f7;go_loopw [5] (fun i wr=>∃j:Nat,j≤il∧i=.int .i64 j∧Hid (∃d,wr=w7.at d)) (fun i _=>il-(intOf i).toNat)
 case atStart=>exact ⟨0,Nat.zero_le _,rfl,w7.drawn,rfl⟩
 case round=>
  obtain ⟨j,hj,rfl,HD⟩:=hrel;have x3:wr.cell? ⟨r.Kb,3,none⟩=some (.slice q3 0 c3):=by
   obtain ⟨d,rfl⟩:=HD.out;exact HK7.out.cell (j:=3) (by omega)
  by_cases hlt:j<il
  ·obtain ⟨b,o,rfl,hc⟩:=HIN.out.at (by omega);have d0:wr.cell? ⟨b,o+j*2,none⟩=some (.int .i64 (zi (j*2))):=by
    obtain ⟨d,rfl⟩:=HD.out;exact hc (j*2) (by omega)
   clear hc;have hli:(j:Int)<(il:Int):=by omega
   by_cases hd:0≤zi (j*2)
   ·generalize zi (j*2)=dv at *;go_wp2_with fail
    go_quiet (fail)
    go_wp2_with fail
    all_goals exact ⟨⟨j+1,by omega,by go_num,by obtain ⟨d,rfl⟩:=HD.out;exact ⟨_,rfl⟩⟩,by simp [intOf];omega⟩
   ·generalize zi (j*2)=dv at *;obtain ⟨dn,rfl⟩:∃dn:Nat,dv=Int.negSucc dn:=⟨(-dv-1).toNat,by omega⟩;clear hd;go_wp2_with fail
    go_quiet (fail)
    go_wp2_with fail
    all_goals exact ⟨⟨j+1,by omega,by go_num,by obtain ⟨d,rfl⟩:=HD.out;exact ⟨_,rfl⟩⟩,by simp [intOf];omega⟩
  ·obtain rfl:j=il:=by omega
   have x1:wr.cell? ⟨r.Kb,1,none⟩=some (.slice (some ⟨tb,to_,none⟩) nT cT):=by
    obtain ⟨d,rfl⟩:=HD.out;exact HK7.out.cell (j:=1) (by omega)
   have x6:wr.cell? ⟨r.Kb,6,none⟩=some (.int .i64 fr):=by
    obtain ⟨d,rfl⟩:=HD.out;exact HK7.out.cell (j:=6) (by omega)
   have xt:wr.cell? ⟨tb,to_+fr % nT,none⟩=some (.slice (some ⟨wsB,wo,none⟩) nW cW):=by
    obtain ⟨d,rfl⟩:=HD.out;exact HTB.out.2
   have hmlt:fr % nT<nT:=Nat.mod_lt _ (by omega);have hnz:¬((nT:Int)=0):=by omega
   clear hlt hj;go_wp2_with fail
   go_quiet (fail)
   go_wp2_with fail
   have HD8:Hid (∃d,wr.drewN nq=w7.at d):=by
    obtain ⟨d,rfl⟩:=HD.out;exact ⟨_,rfl⟩
   generalize wr.drewN nq=w8 at *;have HK8:Hid (RowF w8 r.Kb 8 126 (kf8 (.slice (some ⟨r.bo,r.oo,none⟩) k.nC r.cq) (.slice (some ⟨tb,to_,none⟩) nT cT) v2 (.slice q3 0 c3) (.slice (some ⟨r.Gc,0,none⟩) k.nC k.nC) (.slice q5 0 c5) (.int .i64 fr) (.slice none 0 0))):=by
    obtain ⟨d,rfl⟩:=HD8.out;exact HK7.out
   have HR8:Hid (RNow w8 k r (rcOf s vs) s.m s.xs):=by
    obtain ⟨d,rfl⟩:=HD8.out;exact HRN.out.at d
   have HG8:Hid (But (fun j=>j=r.Kb) w w8):=by
    obtain ⟨d,rfl⟩:=HD8.out;exact ⟨HG7.out.os,HG7.out.tape,HG7.out.output,HG7.out.size,HG7.out.block⟩
   have HW8:Hid (YM r w8 wsB∧(∀j,j<nW→w8.cell? ⟨wsB,wo+j*2,none⟩=some (.int .i64 (wn j).1))∧(∀j,j<nW→w8.cell? ⟨wsB,wo+j*2+1,none⟩=some (.int .i64 (wn j).2))):=by
    obtain ⟨d,rfl⟩:=HD8.out;exact HWS.out
   clear HD HD8 HK7 HRN HG7 HWS HTB HIN x1 x3 x6 xt;have HSK:Hid (∀{s':KSt} {vs':Nat→Value} {wr:World},RFw w8 vs k r s' vs' wr→∀b,YM r w8 b→wr.heap[b]?=w8.heap[b]?):=fun h b hs=>h.stat hs (fun i b hi hb=>HR8.out.oh i b hi hb);have HSO:Hid (SOk k s):=hS;have HMM:Hid (∀i,s.m i+nW*201+300≤1000000000):=hm;have HWN:Hid (∀j,j<nW→(wn j).1<k.nC∧(wn j).2≤200):=hwn;have HAP:Hid (Y0R k r):=ha;clear hS hm hwn ha;go_loopw [7] (fun i wr=>∃(j:Nat) (s':KSt) (vs':Nat→Value),j≤nW∧i=.int .i64 j∧Hid (rowS k wn (nW-j) j s'=rowS k wn nW 0 s)∧Hid (SOk k s')∧Hid (∀i,s'.m i+(nW-j)*201+300≤1000000000)∧Hid (RFw w8 vs k r s' vs' wr)) (fun i _=>nW-(intOf i).toNat)
   case atStart=>exact ⟨0,s,vs,Nat.zero_le _,rfl,by show rowS k wn (nW-0) 0 s=_;rw [Nat.sub_zero],HSO,by show ∀i,_;simpa using HMM.out,⟨HR8.out,But.refl _ _,fun _ _ _ x=>.inl x⟩⟩
   case round=>
    obtain ⟨j,s',vs',hj,rfl,HRS,HSS,HM,HF⟩:=hrel;by_cases hlt:j<nW
    ·have y0:wr.cell? ⟨wsB,wo+j*2,none⟩=some (.int .i64 (wn j).1):=(cell_of_heap (a:=⟨wsB,wo+j*2,none⟩) (HSK.out HF.out _ HW8.out.1)).trans (HW8.out.2.1 j hlt);have y1:wr.cell? ⟨wsB,wo+j*2+1,none⟩=some (.int .i64 (wn j).2):=(cell_of_heap (a:=⟨wsB,wo+j*2+1,none⟩) (HSK.out HF.out _ HW8.out.1)).trans (HW8.out.2.2 j hlt);obtain ⟨hp1,hp2⟩:=HWN.out j hlt;have hli:(j:Int)<(nW:Int):=by omega
     have HFd:Hid (RFw w8 vs k r s' vs' wr.drew):=HF.out.at _;have hz:=HSS.out _ hp1;have hmm:=HM.out (wn j).1;have hev:=(JW (k.n (wn j).1) (k.ci (wn j).1) (wn j).2 (s'.z (wn j).1)).2;go_wp2_with fail
     go_region_held3 (fun W=>W.cell? ⟨wsB,wo+j*2,none⟩=some (.int .i64 (wn j).1)∧W.cell? ⟨wsB,wo+j*2+1,none⟩=some (.int .i64 (wn j).2)) (go_keep)
      (first
       |(go_at_call 74
         refine (Y8U HFd.out.kn hp1 hz.1 rfl rfl hz.2 (wn j).2 hp2 (by omega)).mono ?_;rintro e wl ⟨rfl,v',hA⟩;have HF2:Hid (RFw w8 vs k r (winS k (wn j) s') (updN vs' (wn j).1 v') wl):=HFd.out.after hp1 hz.1 hA;clear hA;have z0:wl.cell? ⟨wsB,wo+j*2,none⟩=some (.int .i64 (wn j).1):=(cell_of_heap (a:=⟨wsB,wo+j*2,none⟩) (HSK.out HF2.out _ HW8.out.1)).trans (HW8.out.2.1 j hlt);have z1:wl.cell? ⟨wsB,wo+j*2+1,none⟩=some (.int .i64 (wn j).2):=(cell_of_heap (a:=⟨wsB,wo+j*2+1,none⟩) (HSK.out HF2.out _ HW8.out.1)).trans (HW8.out.2.2 j hlt)))
     go_wp2_with fail
     refine ⟨⟨j+1,winS k (wn j) s',updN vs' (wn j).1 v',by omega,by go_num,?_,?_,?_,HF2⟩,by simp [intOf];omega⟩
     ·show rowS k wn (nW-(j+1)) (j+1) (winS k (wn j) s')=_;have:=HRS.out;rw [show nW-j=(nW-(j+1))+1 by omega] at this;exact this
     ·exact HSS.out.win HF.out.kn.ok
     ·show ∀i,updN s'.m (wn j).1 _ i+(nW-(j+1))*201+300≤1000000000;intro i;have hi:=HM.out i;by_cases e:i=(wn j).1
      ·rw [e,Yh];rw [e] at hi;have hm1:(nW-(j+1))*201+201=(nW-j)*201:=by omega
       omega
      ·rw [YG _ _ e];omega
    ·obtain rfl:j=nW:=by omega
     have HFE:Hid (RFw w8 vs k r (rowS k wn j 0 s) vs' wr∧SOk k (rowS k wn j 0 s)):=by
      have:s'=rowS k wn j 0 s:=by
       have:=HRS.out;rw [Nat.sub_self] at this;exact this
      rw [←this];exact ⟨HF.out,HSS.out⟩
     have HKr:Hid (RowF wr r.Kb 8 126 (kf8 (.slice (some ⟨r.bo,r.oo,none⟩) k.nC r.cq) (.slice (some ⟨tb,to_,none⟩) nT cT) v2 (.slice q3 0 c3) (.slice (some ⟨r.Gc,0,none⟩) k.nC k.nC) (.slice q5 0 c5) (.int .i64 fr) (.slice none 0 0))):=HK8.out.of_heap (HSK.out HF.out _ HR8.out.sK);clear HF HRS HSS HM hlt hj HSK HW8;have x6:wr.cell? ⟨r.Kb,6,none⟩=some (.int .i64 fr):=HKr.out.cell (j:=6) (by omega);have f6:=HKr.out.frozen 6;have HN9:Hid (∀X,RNow (wr.setCell ⟨r.Kb,6,none⟩ (.int .i64 X)) k r (rcOf (rowS k wn j 0 s) vs') (rowS k wn j 0 s).m (rowS k wn j 0 s).xs):=fun X=>HFE.out.1.kn.setK (by omega) HAP.out HKr.out;have HK9:Hid (∀X,RowF (wr.setCell ⟨r.Kb,6,none⟩ (.int .i64 X)) r.Kb 8 126 (kf8 (.slice (some ⟨r.bo,r.oo,none⟩) k.nC r.cq) (.slice (some ⟨tb,to_,none⟩) nT cT) v2 (.slice q3 0 c3) (.slice (some ⟨r.Gc,0,none⟩) k.nC k.nC) (.slice q5 0 c5) (.int .i64 X) (.slice none 0 0))):=fun X=>(RowF.set8 HKr.out _).1;have HB9:Hid (∀X,But (fun j=>j=r.Kb∨j=r.Gc∨∃i,i<k.nC∧(vs i).ownBlock=some j) w (wr.setCell ⟨r.Kb,6,none⟩ (.int .i64 X))):=fun X=>(HG8.out.trans HFE.out.1.but (fun _ x=>.inl x) (fun _ _ x=>.inr x)).trans (Ym (But.refl _ _) _ _) (fun _ x=>x) (fun _ _ x=>.inl x);go_wp2_with fail
     have HN10:=HN9.out ((fr+1:Nat):Int);have HK10:=HK9.out ((fr+1:Nat):Int);have HB10:=HB9.out ((fr+1:Nat):Int);have ecast:((fr+1:Nat):Int)=(fr:Int)+1:=by omega
     rw [ecast] at HN10 HK10 HB10;generalize (wr.setCell ⟨r.Kb,6,none⟩ (.int .i64 ((fr:Int)+1)))=w9 at *;have HN9':Hid (RNow w9 k r (rcOf (rowS k wn j 0 s) vs') (rowS k wn j 0 s).m (rowS k wn j 0 s).xs):=HN10;have HK9':Hid (RowF w9 r.Kb 8 126 (kf8 (.slice (some ⟨r.bo,r.oo,none⟩) k.nC r.cq) (.slice (some ⟨tb,to_,none⟩) nT cT) v2 (.slice q3 0 c3) (.slice (some ⟨r.Gc,0,none⟩) k.nC k.nC) (.slice q5 0 c5) (.int .i64 ((fr:Int)+1)) (.slice none 0 0))):=HK10;have HB9':Hid (But (fun j=>j=r.Kb∨j=r.Gc∨∃i,i<k.nC∧(vs i).ownBlock=some j) w w9):=HB10;clear HN10 HK10 HB10 ecast HN9 HK9 HB9 x6 f6 HKr;go_loopw [8] (fun i wr=>i=.int .i64 0∧wr=w9) (fun _ _=>0)
     case atStart=>exact ⟨rfl,rfl⟩
     case round=>
      obtain ⟨rfl,rfl⟩:=hrel;have x5:wr.cell? ⟨r.Kb,5,none⟩=some (.slice q5 0 c5):=HK9'.out.cell (j:=5) (by omega);go_wp2_with fail
      clear x5;go_loopw [12] (fun i wr'=>∃q:Nat,q≤k.nC∧i=.int .i64 q∧Hid (RNow wr' k r (rcOf (rowS k wn j 0 s) vs') (rowS k wn j 0 s).m (rowS k wn j 0 s).xs∧RowF wr' r.Kb 8 126 (kf8 (.slice (some ⟨r.bo,r.oo,none⟩) k.nC r.cq) (.slice (some ⟨tb,to_,none⟩) nT cT) v2 (.slice q3 0 c3) (.slice (some ⟨r.Gc,0,none⟩) k.nC k.nC) (.slice q5 0 c5) (.int .i64 ((fr:Int)+1)) (.slice none 0 0))∧But (fun j=>j=r.Kb∨j=r.Gc∨∃i,i<k.nC∧(vs i).ownBlock=some j) w wr')) (fun i _=>k.nC-(intOf i).toNat)
      case atStart=>exact ⟨0,Nat.zero_le _,rfl,HN9'.out,HK9'.out,HB9'.out⟩
      case round=>
       obtain ⟨q,hq,rfl,HA⟩:=hrel;have x4:wr.cell? ⟨r.Kb,4,none⟩=some (.slice (some ⟨r.Gc,0,none⟩) k.nC k.nC):=HA.out.2.1.cell (j:=4) (by omega);by_cases hl:q<k.nC
       ·have x21:=RowF.rat HA.out.1.row (n:=q) (i:=21) (by omega) rfl (by omega);have f21:=HA.out.1.row.frozen (q*26+21);have hqi:(q:Int)<(k.nC:Int):=by omega
        have HKG:Hid (r.Gc≠r.Kb):=fun e=>by
         have h1:=HA.out.1.row;rw [e] at h1;exact Y0w h1 HA.out.2.1 (by decide) rfl
        go_wp2_with fail
        exact ⟨⟨q+1,by omega,by go_num,HA.out.1.note hl rfl,HA.out.2.1.other _ _ HKG.out,(HA.out.2.2.trans (Ym (But.refl _ _) _ _) (fun _ x=>x) (fun _ _ x=>.inr (.inl x)))⟩,by simp [intOf];omega⟩
       ·obtain rfl:q=k.nC:=by omega
        go_wp2_with fail
        go_ret;refine ⟨rfl,vs',HA.out.1,HFE.out.2,?_,HA.out.2.2,fun i b hi hb=>(HFE.out.1.blk i b hi hb).imp id (Nat.le_trans HG8.out.size)⟩;have e:((fr+1:Nat):Int)=(fr:Int)+1:=by omega
        rw [e];exact HA.out.2.1
end
def newR (c:Cfg) (k i:Nat):RC:=if i<k then ⟨newZ (c.lim i) (c.nImg i) (c.img i),0,.slice none 0 0,false⟩ else ⟨fun _=>0,0,.slice none 0 0,false⟩
theorem Y2C (c:Cfg) (k:Nat) (h16:c.nImg k≤16) (j:Nat):refC (updN (newR c k) k {newR c k k with z:=Zf (c.nImg k) (c.img k) (newR c k k).z}) j=refC (newR c (k+1)) j:=by
 unfold refC;by_cases e:j / 26=k
 ·rw [e,Yh];have e1:newR c k k=⟨fun _=>0,0,.slice none 0 0,false⟩:=if_neg (Nat.lt_irrefl _);have e2:newR c (k+1) k=⟨newZ (c.lim k) (c.nImg k) (c.img k),0,.slice none 0 0,false⟩:=if_pos (Nat.lt_succ_self _);rw [e1,e2];refine Y0j (c:=⟨fun _=>0,0,.slice none 0 0,false⟩) (fun i hi=>?_) _;unfold Zf newZ;by_cases h:25≤i∧i<46
  ·rw [if_pos h];by_cases h2:29≤i∧i<29+c.nImg k
   ·rw [if_pos h2,if_neg (show ¬i=3 by omega),if_neg (by omega)]
   ·rw [if_neg h2,if_neg (show ¬i=3 by omega),if_neg (by omega)]
  ·rw [if_neg h,if_neg (by omega),if_neg (by omega),if_neg (by omega)]
 ·rw [YG _ _ e];have:newR c k (j / 26)=newR c (k+1) (j / 26):=by
   unfold newR;by_cases h:j / 26<k
   ·rw [if_pos h,if_pos (by omega)]
   ·rw [if_neg h,if_neg (by omega)]
  rw [this]
theorem Y48 (A:World) (t:Nat) (a b c d e f g h:Value) (G:Nat) (hG:A.heap.size=G):RowF (A.alloc (.cells #[a,b,c,d,e,f,g,h] t)).drew G 8 t (kf8 a b c d e f g h):=by
 subst hG;exact RowF.new A #[a,b,c,d,e,f,g,h] t _ (fun j hj=>by
  have:j=0∨j=1∨j=2∨j=3∨j=4∨j=5∨j=6∨j=7:=by simp at hj;omega
  rcases this with rfl|rfl|rfl|rfl|rfl|rfl|rfl|rfl<;>rfl)
theorem rowM {A:World} {M:Array Value} {c:Cfg} {G:Nat} (hG:A.heap.size=G) (hs:M.size=c.nC*26) (hM:∀j,j<c.nC*26→M[j]?=some (refC (newR c 0) j)):RowF (A.alloc (.cells M 131)) G (c.nC*26) 131 (refC (newR c 0)):=by
 subst hG;rw [←hs];exact RowF.new A M _ _ (fun j hj=>hM j (by omega))
theorem Y7D {P:Program} (t e:TypeId) (z:Value) (size bytes n:Nat) (ht:P.underlying t=some (.slice e)) (hinfo:(P.info? e).map (fun i=>(i.zero,i.size,i.bytes))=some (some z,size,bytes)) (hb:bytes*n≤281474976710656) (hn:n≤9223372036854775807):
  ∃MC:Array Value,MC.size=n*size∧(∀j,j<n*size→MC[j]?=some (z.cells[j % z.cells.size]!))∧∀W:World,(Instr.makeSlice t (.int .i64 n) (.int .i64 n)).run P W=.ok (.slice (some ⟨W.heap.size,0,none⟩) n n) (W.alloc (.cells MC e)):=by
 obtain ⟨i,h2,h3,h4,h5⟩:=info_parts hinfo;subst h4 h5;refine ⟨madeCells z.cells (n*i.size),size_madeCells _ _,fun j hj=>by simp [madeCells,hj],fun W=>?_⟩;have hb':(i.bytes:Int)*(n:Int)≤281474976710656:=by
  have h:((i.bytes*n:Nat):Int)≤281474976710656:=by omega
  rwa [Int.natCast_mul] at h
 have hr:=run_make (P:=P) W t e i z ht h2 h3 .i64 .i64 n n (by omega) (Int.le_refl _) hb' (by omega);simpa only [Int.toNat_natCast] using hr
theorem Y5N (c:Cfg) (j:Nat):(Value.agg #[.int .i64 0,.int .i64 0,.int .i64 0,.int .i64 0,.int .i64 0,.int .i64 0,.int .i64 0,.int .i64 0,.int .i64 0,.int .i64 0,.int .i64 0,.int .i64 0,.int .i64 0,.int .i64 0,.int .i64 0,.int .i64 0,.int .i64 0,.int .i64 0,.int .i64 0,.int .i64 0,.int .i64 0,.slice none 0 0,.slice none 0 0,.int .i64 0,.int .i64 0,.bool false]).cells[j % (Value.agg #[.int .i64 0,.int .i64 0,.int .i64 0,.int .i64 0,.int .i64 0,.int .i64 0,.int .i64 0,.int .i64 0,.int .i64 0,.int .i64 0,.int .i64 0,.int .i64 0,.int .i64 0,.int .i64 0,.int .i64 0,.int .i64 0,.int .i64 0,.int .i64 0,.int .i64 0,.int .i64 0,.int .i64 0,.slice none 0 0,.slice none 0 0,.int .i64 0,.int .i64 0,.bool false]).cells.size]! = refC (newR c 0) j:=by
 have e1:newR c 0 (j / 26)=⟨fun _=>0,0,.slice none 0 0,false⟩:=if_neg (Nat.not_lt_zero _);unfold refC;rw [e1];show (#[Value.int .i64 0,.int .i64 0,.int .i64 0,.int .i64 0,.int .i64 0,.int .i64 0,.int .i64 0,.int .i64 0,.int .i64 0,.int .i64 0,.int .i64 0,.int .i64 0,.int .i64 0,.int .i64 0,.int .i64 0,.int .i64 0,.int .i64 0,.int .i64 0,.int .i64 0,.int .i64 0,.int .i64 0,.slice none 0 0,.slice none 0 0,.int .i64 0,.int .i64 0,.bool false]:Array Value)[j % 26]! = _;have h:j % 26<26:=Nat.mod_lt _ (by omega);generalize j % 26=i at h;have:i=0∨i=1∨i=2∨i=3∨i=4∨i=5∨i=6∨i=7∨i=8∨i=9∨i=10∨i=11∨i=12∨i=13∨i=14∨i=15∨i=16∨i=17∨i=18∨i=19∨i=20∨i=21∨i=22∨i=23∨i=24∨i=25:=by omega
 rcases this with rfl|rfl|rfl|rfl|rfl|rfl|rfl|rfl|rfl|rfl|rfl|rfl|rfl|rfl|rfl|rfl|rfl|rfl|rfl|rfl|rfl|rfl|rfl|rfl|rfl|rfl<;>rfl
theorem YaM (c:Cfg) (o0 o1 o2 o3:Value) (B:Nat) (w:World) (hl:X5 w c B o0 o1 o2 o3) (h16:∀i,i<c.nC→c.nImg i≤16) (h6:c.nC≤6) (h8:c.nCh≤8) (hc0:1≤c.nC) (hz2:c.chN=true→c.nCh=0) (hz3:c.dvN=true→c.nD=0) (hzi:∀i,i<c.nC→c.imgN i=true→c.nImg i=0):
  Calls Tryz.prog 42 #[.agg #[o0,o1,o2,o3]] w fun e w'=>∃kb Gc L,e=.returned (.pointer (some ⟨kb,0,none⟩))∧Below w.heap.size w w'∧w.heap.size≤kb∧w.heap.size≤Gc∧kb≠Gc∧RowF w' kb 8 126 (kf8 o0 o1 o2 o3 (.slice (some ⟨Gc,0,none⟩) c.nC c.nC) (.slice (some ⟨L,0,none⟩) c.nCh c.nCh) (.int .i64 0) (.slice none 0 0))∧RowF w' Gc (c.nC*26) 131 (refC (newR c c.nC)):=by
 obtain ⟨cb,rb,hbl,dbl,q0,cq0,q1,cq1,hi,hi2,rfl,lq0,zq0,sq0,rfl,lq1,zq1,sq1,rfl,rfl,hin,hB1,hB2,hrow,hord,hch,hdv,hh1,hh2,hh3⟩:=hl.ex;obtain ⟨q2,cq2,e2⟩:∃q cc,Y6 c.chN hbl c.nCh=.slice q c.nCh cc:=Jn _ _ _ hz2;obtain ⟨q3,cq3,e3⟩:∃q cc,Y6 c.dvN dbl c.nD=.slice q c.nD cc:=Jn _ _ _ hz3;obtain ⟨bo,oo,rfl,hq⟩:=sq0.at (by omega);obtain ⟨M1,hM1,hMC,hm1⟩:=Y7D (P:=Tryz.prog) 123 131 _ 26 240 c.nC Tryz.underlying123 Yb2 (by omega) (by omega);obtain ⟨M2,hM2,hm2⟩:=Y4G (P:=Tryz.prog) 124 175 _ 5 56 c.nCh Tryz.underlying124 Y5P (by omega) (by omega);rw [e2,e3];have HQ:Hid (∀j,j<c.nC*3→w.cell? ⟨bo,oo+j,none⟩=some (Yy c cb j)):=hq;have HI:Hid (YJ w c c.nC B hi cb):=hin;have H16:Hid (∀i,i<c.nC→c.nImg i≤16):=h16;have HM1:Hid (M1.size=c.nC*26):=hM1;have HMC:Hid (∀j,j<c.nC*26→M1[j]?=some (refC (newR c 0) j)):=fun j hj=>by rw [hMC j hj];exact congrArg some (Y5N c j)
 have HZI:Hid (∀i,i<c.nC→c.imgN i=true→c.nImg i=0):=hzi;have hbo:bo<w.heap.size:=by
  have:=block_lt_of_cell (hq 0 (by omega));exact this
 clear hl lq0 zq0 sq0 lq1 zq1 sq1 hin hB1 hB2 hrow hord hch hdv hh1 hh2 hh3 hq h16 hM1 hM2 e2 e3 hzi hz2 hz3 hMC
 go_enter Tryz.func42,Tryz.ntmps42
 go_wp2_with fail
 go_region_held3 (fun W=>W.cell? ⟨w.heap.size,0,none⟩=some (.slice (some ⟨bo,oo,none⟩) c.nC cq0)∧W.cell? ⟨w.heap.size,1,none⟩=some (.slice q1 c.nT cq1)∧W.cell? ⟨w.heap.size,2,none⟩=some (.slice q2 c.nCh cq2)∧W.cell? ⟨w.heap.size,3,none⟩=some (.slice q3 c.nD cq3)) (go_keep) (fail)
 ·go_wp2_with fail
  go_loopw [4] (fun i wr=>∃k:Nat,k≤c.nC∧i=.int .i64 k∧Hid (Below w.heap.size w wr)∧Hid (wr.cell? ⟨w.heap.size,0,none⟩=some (.slice (some ⟨bo,oo,none⟩) c.nC cq0))∧Hid (RowF wr (w.heap.size+1+1+1) 8 126 (kf8 (.slice (some ⟨bo,oo,none⟩) c.nC cq0) (.slice q1 c.nT cq1) (.slice q2 c.nCh cq2) (.slice q3 c.nD cq3) (.slice (some ⟨w.heap.size+1,0,none⟩) c.nC c.nC) (.slice (some ⟨w.heap.size+1+1,0,none⟩) c.nCh c.nCh) (.int .i64 0) (.slice none 0 0)))∧Hid (RowF wr (w.heap.size+1) (c.nC*26) 131 (refC (newR c k)))) (fun i _=>c.nC-(intOf i).toNat)
  case atStart=>
   refine ⟨0,Nat.zero_le _,rfl,?_,?_,?_,?_⟩
   ·show Below _ _ _;exact (((((Below.refl _ _).alloc (Nat.le_refl _) _).alloc (by simp) _).alloc (by simp;omega) _).alloc (by simp;omega) _).drew
   ·show _=_;simp [go_sem]
   ·exact Y48 _ _ _ _ _ _ _ _ _ _ _ (by simp)
   ·exact ((rowM (A:=w.alloc _) (by simp) HM1.out HMC.out).alloc _).alloc _
  case round=>
   obtain ⟨k,hk,rfl,HB,X0,HKb,HR⟩:=hrel;have x0:=X0.out;by_cases hlt:k<c.nC
   ·have c1:=(HB.out.cell (p:=⟨bo,oo+(k*3+1),none⟩) hbo).trans (HQ.out (k*3+1) (by omega));obtain ⟨-,ef,-⟩:=XP c cb k;rw [ef,←Nat.add_assoc] at c1;obtain ⟨qi,ci,e1,hsl,hqb⟩:∃qi ci,Y6 (c.imgN k) (cb k+1) (c.nImg k)=.slice qi (c.nImg k) ci∧Sl wr qi (c.nImg k) (fun j=>.int .i64 (c.img k j))∧∀b o,qi=some ⟨b,o,none⟩→b<w.heap.size:=Y4i (HI.out.img k hlt) HB.out (HZI.out k hlt);rw [e1] at c1;go_wp2_with fail
    refine (Y1v (w.heap.size+1+1+1) (w.heap.size+1) k c.nC cq0 bo oo (c.nImg k) ci 131 qi (c.img k) (newR c k) _ (HKb.out.cell (j:=0) (by omega)) (HKb.out.cell (j:=4) (by omega)) c1 hsl HR.out hlt (H16.out k hlt) (by omega) (by omega) (fun b o h=>by have:=hqb b o h;omega)).mono ?_;rintro e w' ⟨rfl,hgr,hrs⟩;have y0:Hid (w'.cell? ⟨w.heap.size,0,none⟩=_):=hgr.cell x0 (fun e=>by have:=Option.some.inj e;simp only at this;omega);have y1:Hid (RowF w' (w.heap.size+1+1+1) 8 126 (kf8 (.slice (some ⟨bo,oo,none⟩) c.nC cq0) (.slice q1 c.nT cq1) (.slice q2 c.nCh cq2) (.slice q3 c.nD cq3) (.slice (some ⟨w.heap.size+1,0,none⟩) c.nC c.nC) (.slice (some ⟨w.heap.size+1+1,0,none⟩) c.nCh c.nCh) (.int .i64 0) (.slice none 0 0))):=HKb.out.of_heap (hgr.block _ HKb.out.lt (fun e=>by have:=Option.some.inj e;omega));have HB':Hid (Below w.heap.size w w'):=HB.out.grown hgr HB.out.size (fun j hj=>by simp at hj;omega);have HR':Hid (RowF w' (w.heap.size+1) (c.nC*26) 131 (refC (newR c (k+1)))):=hrs.congr fun j _=>Y2C c k (H16.out k hlt) j;clear hgr hrs c1 ef e1 hsl hqb x0;go_wp2_with fail
    exact ⟨⟨k+1,by omega,by go_num,HB',y0,y1,HR'⟩,by simp [intOf];omega⟩
   ·obtain rfl:k=c.nC:=by omega
    go_wp2_with fail
    go_ret;exact ⟨w.heap.size+1+1+1,w.heap.size+1,w.heap.size+1+1,rfl,HB.out,by omega,by omega,by omega,HKb.out,HR.out⟩
 ·go_wp2_with fail
  go_loopw [4] (fun i wr=>∃k:Nat,k≤c.nC∧i=.int .i64 k∧Hid (Below w.heap.size w wr)∧Hid (wr.cell? ⟨w.heap.size,0,none⟩=some (.slice (some ⟨bo,oo,none⟩) c.nC cq0))∧Hid (RowF wr (w.heap.size+1+1+1) 8 126 (kf8 (.slice (some ⟨bo,oo,none⟩) c.nC cq0) (.slice q1 c.nT cq1) (.slice q2 c.nCh cq2) (.slice q3 c.nD cq3) (.slice (some ⟨w.heap.size+1+1,0,none⟩) c.nC c.nC) (.slice (some ⟨w.heap.size+1,0,none⟩) c.nCh c.nCh) (.int .i64 0) (.slice none 0 0)))∧Hid (RowF wr (w.heap.size+1+1) (c.nC*26) 131 (refC (newR c k)))) (fun i _=>c.nC-(intOf i).toNat)
  case atStart=>
   refine ⟨0,Nat.zero_le _,rfl,?_,?_,?_,?_⟩
   ·show Below _ _ _;exact (((((Below.refl _ _).alloc (Nat.le_refl _) _).alloc (by simp) _).alloc (by simp;omega) _).alloc (by simp;omega) _).drew
   ·show _=_;simp [go_sem]
   ·exact Y48 _ _ _ _ _ _ _ _ _ _ _ (by simp)
   ·exact (rowM (A:=(w.alloc _).alloc _) (by simp) HM1.out HMC.out).alloc _
  case round=>
   obtain ⟨k,hk,rfl,HB,X0,HKb,HR⟩:=hrel;have x0:=X0.out;by_cases hlt:k<c.nC
   ·have c1:=(HB.out.cell (p:=⟨bo,oo+(k*3+1),none⟩) hbo).trans (HQ.out (k*3+1) (by omega));obtain ⟨-,ef,-⟩:=XP c cb k;rw [ef,←Nat.add_assoc] at c1;obtain ⟨qi,ci,e1,hsl,hqb⟩:∃qi ci,Y6 (c.imgN k) (cb k+1) (c.nImg k)=.slice qi (c.nImg k) ci∧Sl wr qi (c.nImg k) (fun j=>.int .i64 (c.img k j))∧∀b o,qi=some ⟨b,o,none⟩→b<w.heap.size:=Y4i (HI.out.img k hlt) HB.out (HZI.out k hlt);rw [e1] at c1;go_wp2_with fail
    refine (Y1v (w.heap.size+1+1+1) (w.heap.size+1+1) k c.nC cq0 bo oo (c.nImg k) ci 131 qi (c.img k) (newR c k) _ (HKb.out.cell (j:=0) (by omega)) (HKb.out.cell (j:=4) (by omega)) c1 hsl HR.out hlt (H16.out k hlt) (by omega) (by omega) (fun b o h=>by have:=hqb b o h;omega)).mono ?_;rintro e w' ⟨rfl,hgr,hrs⟩;have y0:Hid (w'.cell? ⟨w.heap.size,0,none⟩=_):=hgr.cell x0 (fun e=>by have:=Option.some.inj e;simp only at this;omega);have y1:Hid (RowF w' (w.heap.size+1+1+1) 8 126 (kf8 (.slice (some ⟨bo,oo,none⟩) c.nC cq0) (.slice q1 c.nT cq1) (.slice q2 c.nCh cq2) (.slice q3 c.nD cq3) (.slice (some ⟨w.heap.size+1+1,0,none⟩) c.nC c.nC) (.slice (some ⟨w.heap.size+1,0,none⟩) c.nCh c.nCh) (.int .i64 0) (.slice none 0 0))):=HKb.out.of_heap (hgr.block _ HKb.out.lt (fun e=>by have:=Option.some.inj e;omega));have HB':Hid (Below w.heap.size w w'):=HB.out.grown hgr HB.out.size (fun j hj=>by simp at hj;omega);have HR':Hid (RowF w' (w.heap.size+1+1) (c.nC*26) 131 (refC (newR c (k+1)))):=hrs.congr fun j _=>Y2C c k (H16.out k hlt) j;clear hgr hrs c1 ef e1 hsl hqb x0;go_wp2_with fail
    exact ⟨⟨k+1,by omega,by go_num,HB',y0,y1,HR'⟩,by simp [intOf];omega⟩
   ·obtain rfl:k=c.nC:=by omega
    go_wp2_with fail
    go_ret;exact ⟨w.heap.size+1+1+1,w.heap.size+1+1,w.heap.size+1,rfl,HB.out,by omega,by omega,by omega,HKb.out,HR.out⟩
end Go.Proofs.YtdoghgnifkgfdaaGreat.Mute
