import Derived.Test.YtdoghgnifkgfdaaGreatP09
import Derived.Test.YtdoghgnifkgfdaaGreatP43
set_option maxRecDepth 100000
set_option maxHeartbeats 16000000
namespace Go.Proofs.YtdoghgnifkgfdaaGreat.Mute
open Go Go.Conc Go.RowKit
structure Sh where
 n:Nat
 m:Nat→Nat
 z:Nat→Nat→Int
def insS (S:Sh) (i:Nat):List (Int×Int):=(List.range (min (S.m i) 4)).map fun d:Nat=>((d:Int),S.z i d)
def frS (c:Cfg) (I:Nat→List (Int×Int)):Nat→KSq
 |0=>sq0 c
 |i+1=>frameC c (i % c.nT) (I i) (frS c I i)
def XsOk (s:KSq):Prop:=∀i,∃L:List Int,s.xs i=L.map (Value.int .i64 ·)∧L.length=s.m i*3
theorem YdI:∀(vs:List Value),(∀v∈vs,Jo v)→∃L:List Int,vs.flatMap Yv=L.map (Value.int .i64 ·)∧L.length=vs.length*3
 | [],_=>⟨[],rfl,rfl⟩
 |v::vs,h=>by
  obtain ⟨L,h1,h2⟩:=YdI vs fun u hu=>h u (List.mem_cons_of_mem _ hu);obtain ⟨k,a,b,rfl⟩:=h v (List.mem_cons_self ..);refine ⟨k::a::b::L,?_,by simp [h2];omega⟩;rw [List.flatMap_cons,h1];rfl
section
variable {c:Cfg} {ins:List (Int×Int)} {p:Nat×Nat} {s:KSq} {wn:Nat→Nat×Nat}
theorem XsOk.win (h:XsOk s):XsOk (winC c ins p s):=fun i=>by
 by_cases e:i=p.1
 ·subst e;obtain ⟨L,h1,h2⟩:=h p.1;obtain ⟨M,h3,h4⟩:=YdI _ (YcU (prgC c ins p.1) p.2 (s.z p.1) s.D).1;refine ⟨L++M,?_,?_⟩
  ·show updN s.xs p.1 _ p.1=_;rw [Yh,h1,h3,List.map_append]
  ·show _=updN s.m p.1 _ p.1*3;rw [Yh,List.length_append,h2,h4];omega
 ·obtain ⟨L,h1,h2⟩:=h i;exact ⟨L,by show updN s.xs p.1 _ i=_;rw [YG _ _ e];exact h1,by show _=updN s.m p.1 _ i*3;rw [YG _ _ e];exact h2⟩
theorem Yfz (i:Nat):(winC c ins p s).m i≤s.m i+(p.2+1):=by
 show updN s.m p.1 _ i≤_;by_cases e:i=p.1
 ·subst e;rw [Yh];have:=(YcU (prgC c ins p.1) p.2 (s.z p.1) s.D).2;omega
 ·rw [YG _ _ e];omega
theorem XsOk.row:∀(rem j:Nat) (s:KSq),XsOk s→XsOk (rowC c ins wn rem j s)
 |0,_,_,h=>h
 |rem+1,j,_,h=>XsOk.row rem (j+1) _ h.win
theorem Yeh {B:Nat}:∀(rem j:Nat) (s:KSq),(∀i,j≤i→i<j+rem→(wn i).2≤B)→∀i,(rowC c ins wn rem j s).m i≤s.m i+rem*(B+1)
 |0,_,_,_,i=>by simp [rowC]
 |rem+1,j,s,h,i=>by
  have h1:=Yeh rem (j+1) (winC c ins (wn j) s) (fun i a b=>h i (by omega) (by omega)) i;have h2:=Yfz (c:=c) (ins:=ins) (p:=wn j) (s:=s) i;have h3:=h j (Nat.le_refl _) (by omega);show (rowC c ins wn rem (j+1) (winC c ins (wn j) s)).m i≤_;rw [Nat.add_mul,Nat.one_mul];omega
theorem XsOk.frame (h:XsOk s) (r:Nat):XsOk (frameC c r ins s):=fun i=>XsOk.row (c:=c) (ins:=ins) (wn:=wnOf c r) (c.nRow r) 0 s h i
end
section
variable (c:Cfg) (I:Nat→List (Int×Int))
theorem Yec:∀i,XsOk (frS c I i)
 |0=>fun _=>⟨[],rfl,by show 0=0*3;omega⟩
 |i+1=>(Yec i).frame _
def YdO:Prop:=0<c.nT∧∀r,r<c.nT→c.nRow r≤6∧∀j,j<c.nRow r→(wnOf c r j).2≤200
variable {c}
theorem YcO (h:YdO c):∀i x,(frS c I i).m x≤i*1206
 |0,_=>Nat.zero_le _
 |i+1,x=>by
  have h1:=YcO h i x;obtain ⟨h2,h3⟩:=h.2 (i % c.nT) (Nat.mod_lt _ h.1);have h4:=Yeh (c:=c) (ins:=I i) (wn:=wnOf c (i % c.nT)) (B:=200) (c.nRow (i % c.nT)) 0 (frS c I i) (fun j _ hj=>h3 j (by omega)) x;show (rowC c (I i) (wnOf c (i % c.nT)) (c.nRow (i % c.nT)) 0 (frS c I i)).m x≤_;have h5:c.nRow (i % c.nT)*(200+1)≤6*201:=Nat.mul_le_mul_right _ h2;omega
end
theorem Yfl {s:KSq} (h:XsOk s) (i:Nat):∃tz:Nat→Int,s.xs i=(List.range (s.m i*3)).map fun j=>.int .i64 (tz j):=by
 obtain ⟨L,h1,h2⟩:=h i;refine ⟨fun j=>L.getD j 0,?_⟩;rw [h1,←h2];apply List.ext_getElem?;intro j;by_cases hj:j<L.length
 ·simp [hj]
 ·simp [hj]
theorem Ydm (P:Pl) (Q:Nat→Pl):YdO (cfgP P Q):=by
 refine ⟨by show 0<3;omega,fun r hr=>?_⟩;have hr:r<3:=hr;have:r=0∨r=1∨r=2:=by omega
 rcases this with rfl|rfl|rfl
 ·refine ⟨by show 4≤6;omega,fun j hj=>?_⟩;have hj:j<4:=hj;show (((tabL 0).getD (j*2+1) 0).toNat)≤200;have:j=0∨j=1∨j=2∨j=3:=by omega
  rcases this with rfl|rfl|rfl|rfl<;>decide
 ·refine ⟨by show 3≤6;omega,fun j hj=>?_⟩;have hj:j<3:=hj;show (((tabL 1).getD (j*2+1) 0).toNat)≤200;have:j=0∨j=1∨j=2:=by omega
  rcases this with rfl|rfl|rfl<;>decide
 ·refine ⟨by show 4≤6;omega,fun j hj=>?_⟩;have hj:j<4:=hj;show (((tabL 2).getD (j*2+1) 0).toNat)≤200;have:j=0∨j=1∨j=2∨j=3:=by omega
  rcases this with rfl|rfl|rfl|rfl<;>decide
theorem Yh0 {k:Nat} {ch:Nat→Int} {n kind cell:Int} {e i:Nat} (hk:k≤8):YbO k ch n kind cell e k i≤100:=by
 rcases Int.lt_or_le (YbO k ch n kind cell e k i) 0 with h|h
 ·omega
 ·by_cases h0:0<k
  ·obtain ⟨x,h1,h2,_⟩:=Ydg h0 _ _ h;omega
  ·obtain rfl:k=0:=by omega
   simp [YbO]
theorem YfB {k nd cell words:Nat} {ch dv:Nat→Int} {o r a n:Int} (hk:k≤8) (hnd:nd≤4) (hw:words≤48) (hw0:0<words) (hn:-9223372036854775808≤n∧n≤9223372036854775807) (j:Nat):-9223372036854775808≤insF k ch nd dv cell words o r a n j∧insF k ch nd dv cell words o r a n j≤9223372036854775807:=by
 have h1:=Yc5 o (show 0<17 by omega);have h2:=Yc5 r (show 0<4 by omega);have h3:=Yc5 a (show 0<4 by omega);have h4:=Yc5 n hw0;unfold insF;split
 ·omega
 ·rename_i hz
  split
  ·omega
  ·split
   ·omega
   ·split
    ·omega
    ·split
     ·rename_i hkey
      have h0:0≤insN k ch nd dv cell words (pk o 17) n:=by
       rcases Int.lt_or_le (insN k ch nd dv cell words (pk o 17) n) 0 with h|h
       ·exact absurd ⟨hkey,h⟩ hz
       ·exact h
      have h5:insN k ch nd dv cell words (pk o 17) n≤100:=by
       unfold insN;have h6:=fun kind e=>Yh0 (ch:=ch) (n:=n) (kind:=kind) (cell:=cell) (e:=e) (i:=0) hk;have h7:devF dv cell nd≤100:=by
        rcases Int.lt_or_le (devF dv cell nd) 0 with h|h
        ·omega
        ·obtain ⟨x,e1,e2,_⟩:=Yde _ h;omega
       split
       ·omega
       ·split
        ·exact h6 _ _
        ·split
         ·exact h6 _ _
         ·split
          ·exact h6 _ _
          ·split
           ·exact h6 _ _
           ·exact h7
      omega
     ·exact hn
theorem Yeg (P:Pl) (Q:Nat→Pl) (h:∀i,i<4→∀j,j<(Q i).nC i*4→-9223372036854775808≤(Q i).code i j∧(Q i).code i j≤9223372036854775807):CfgW (cfgP P Q):=fun i hi j hj=>by
 have hi:i<4:=hi;have hk:plK P≤8:=by unfold plK;omega
 have hd:plD P≤4:=by unfold plD;omega
 have hN:plN (Q i) i≤47∧plN (Q i) i≤(Q i).nC i:=by unfold plN;omega
 show -9223372036854775808≤YbV (plK P) (plCh P) (plD P) (plDv P) (Q i) i j∧YbV (plK P) (plCh P) (plD P) (plDv P) (Q i) i j≤9223372036854775807;unfold YbV;split
 ·exact YfB hk hd (by omega) (by omega) (h i hi (j / 4*4+3) (by omega)) _
 ·split<;>omega
def Ends (n:Nat) (ci:Nat→Int) (k:Nat) (fr to_:Nat→Int) (i:Int):Prop:=
 ∀j,j<n→(ci (j*4)=10∨ci (j*4)=11→(ci (j*4+3)).toNat<k∧fr (ci (j*4+3)).toNat=i)∧(ci (j*4)=12∨ci (j*4)=13∨ci (j*4)=16→(ci (j*4+3)).toNat<k∧to_ (ci (j*4+3)).toNat=i)
def YdY (n:Nat) (ci:Nat→Int) (ins ins':List (Int×Int)):Prop:=∀j,j<n→ci (j*4)=14→Yc0 ins (ci (j*4+3))=Yc0 ins' (ci (j*4+3))
def YbR (k:Nat) (to_:Nat→Int) (A:Int→Prop) (C C':Nat→Chn):Prop:=∀j,j<k→A (to_ j)→C j=C' j
section
variable {k:Nat} {fr to_:Nat→Int} {A:Int→Prop} {C C':Nat→Chn}
theorem YbR.put (h:YbR k to_ A C C') {N:Nat} {f:Chn→Chn}:YbR k to_ A (uN C N (f (C N))) (uN C' N (f (C' N))):=fun j hj ha=>by
 by_cases e:j=N
 ·subst e;rw [YbU,YbU,h j hj ha]
 ·rw [Yc2 _ _ e,Yc2 _ _ e];exact h j hj ha
theorem YbR.left (h:YbR k to_ A C C') {N:Nat} {c:Chn} (hN:¬A (to_ N)):YbR k to_ A (uN C N c) C':=fun j hj ha=>by
 by_cases e:j=N
 ·subst e;exact absurd ha hN
 ·rw [Yc2 _ _ e];exact h j hj ha
theorem YbR.forget (h:YbR k to_ A C C') (num:Int):YbR k to_ A (Yc9 fr num C) (Yc9 fr num C'):=fun j hj ha=>by
 unfold Yc9;rw [h j hj ha]
theorem YbR.forgetL (h:YbR k to_ A C C') {num:Int} (hc:∀j,j<k→A (to_ j)→A (fr j)) (hn:¬A num):YbR k to_ A (Yc9 fr num C) C':=fun j hj ha=>by
 unfold Yc9;rw [if_neg (show ¬fr j=num from fun e=>hn (e▸hc j hj ha))];exact h j hj ha
end
theorem Yfp {k:Nat} {to_:Nat→Int} {A:Int→Prop} {C C':Nat→Chn} {ins ins':List (Int×Int)} {op N:Int} {R B:Nat} {z:Nat→Int} {i:Int} (hA:A i) (h:YbR k to_ A C C') (h1:op=12∨op=13∨op=16→N.toNat<k∧to_ N.toNat=i) (h2:op=14→Yc0 ins N=Yc0 ins' N) (hx:isEx op):
  (exF ins op R B N z C).1=(exF ins' op R B N z C').1∧YbR k to_ A (exF ins op R B N z C).2 (exF ins' op R B N z C').2:=by
 have hN:op=12∨op=13∨op=16→C N.toNat=C' N.toNat:=fun e=>h _ (h1 e).1 (by rw [(h1 e).2];exact hA);unfold exF;rcases hx with rfl|rfl|rfl|rfl|rfl|rfl
 ·exact ⟨rfl,h.put (f:=fun c=>{c with sent:=c.sent++[z (25+R)]})⟩
 ·exact ⟨rfl,h.put (f:=fun c=>{c with writ:=z (25+R),anew:=true})⟩
 ·have e:=hN (.inl rfl);simp only [e];cases hw:(C' N.toNat).wait with
  |nil=>exact ⟨rfl,h⟩
  |cons x l=>
   refine ⟨rfl,?_⟩;have:=h.put (N:=N.toNat) (f:=fun c=>{c with wait:=l});simpa [e] using this
 ·have e:=hN (.inr (.inl rfl));simp only [e];exact ⟨rfl,h⟩
 ·have e:=h2 rfl;simp only [e];exact ⟨rfl,h⟩
 ·have e:=hN (.inr (.inr rfl));simp only [e];refine ⟨rfl,?_⟩;have:=h.put (N:=N.toNat) (f:=fun c=>{c with lost:=0});simpa [e] using this
theorem Yg5 {k:Nat} {fr to_:Nat→Int} {A:Int→Prop} {C C':Nat→Chn} {ins:List (Int×Int)} {op N:Int} {R B:Nat} {z:Nat→Int} {i:Int} (hA:¬A i) (hc:∀j,j<k→A (to_ j)→A (fr j)) (h:YbR k to_ A C C') (h0:op=10∨op=11→N.toNat<k∧fr N.toNat=i) (h1:op=12∨op=13∨op=16→N.toNat<k∧to_ N.toNat=i) (hx:isEx op):YbR k to_ A (exF ins op R B N z C).2 C':=by
 have hf:op=10∨op=11→¬A (to_ N.toNat):=fun e ha=>hA (by have:=hc _ (h0 e).1 ha;rw [(h0 e).2] at this;exact this);have ht:op=12∨op=13∨op=16→¬A (to_ N.toNat):=fun e ha=>hA (by rw [(h1 e).2] at ha;exact ha);unfold exF;rcases hx with rfl|rfl|rfl|rfl|rfl|rfl
 ·exact h.left (hf (.inl rfl))
 ·exact h.left (hf (.inr rfl))
 ·simp only [];cases hw:(C N.toNat).wait with
  |nil=>exact h
  |cons x l=>exact h.left (ht (.inl rfl))
 ·exact h
 ·exact h
 ·exact h.left (ht (.inr (.inr rfl)))
theorem Yd5 {p p':Prg} {k:Nat} {to_:Nat→Int} {A:Int→Prop} (hok:Yc8 p.n k p.ci) (hn:p'.n=p.n) (hci:p'.ci=p.ci) (hnum:p'.num=p.num) (hfr:p'.fr=p.fr) (hA:A p.num) (he:Ends p.n p.ci k p.fr to_ p.num) (hi:YdY p.n p.ci p.ins p'.ins):
  ∀(b:Nat) (z:Nat→Int) (C C':Nat→Chn),Zok p.n z→YbR k to_ A C C'→(runQ p b z C).1=(runQ p' b z C').1∧(runQ p b z C).2.1=(runQ p' b z C').2.1∧(runQ p b z C).2.2.1=(runQ p' b z C').2.2.1∧YbR k to_ A (runQ p b z C).2.2.2 (runQ p' b z C').2.2.2
 |0,_,_,_,_,h=>⟨rfl,rfl,rfl,h⟩
 |b+1,z,C,C',hz,h=>by
  obtain ⟨bb,hb⟩:=Ycs k C;have ho:=YcC (ins:=p.ins) hok hz hb;have h1:=hz.lo;have h2:=hz.hi;simp only [runQ];rw [hn,hci];by_cases hx:z 45≠p.n∧isEx (p.ci ((z 45).toNat*4))
  ·have hj:(z 45).toNat<p.n:=by omega
   obtain ⟨e1,e2⟩:=Yfp (R:=(p.ci ((z 45).toNat*4+1)).toNat) (B:=(p.ci ((z 45).toNat*4+2)).toNat) (z:=Y9 z) hA h (he _ hj).2 (hi _ hj) hx.2;have s1:YbQ p.n p.ci p.ins z C=.on (p.ci ((z 45).toNat*4)) none (exF p.ins (p.ci ((z 45).toNat*4)) (p.ci ((z 45).toNat*4+1)).toNat (p.ci ((z 45).toNat*4+2)).toNat (p.ci ((z 45).toNat*4+3)) (Y9 z) C).1 (exF p.ins (p.ci ((z 45).toNat*4)) (p.ci ((z 45).toNat*4+1)).toNat (p.ci ((z 45).toNat*4+2)).toNat (p.ci ((z 45).toNat*4+3)) (Y9 z) C).2:=by unfold YbQ;rw [if_pos hx]
   have s2:YbQ p.n p.ci p'.ins z C'=.on (p.ci ((z 45).toNat*4)) none (exF p'.ins (p.ci ((z 45).toNat*4)) (p.ci ((z 45).toNat*4+1)).toNat (p.ci ((z 45).toNat*4+2)).toNat (p.ci ((z 45).toNat*4+3)) (Y9 z) C').1 (exF p'.ins (p.ci ((z 45).toNat*4)) (p.ci ((z 45).toNat*4+1)).toNat (p.ci ((z 45).toNat*4+2)).toNat (p.ci ((z 45).toNat*4+3)) (Y9 z) C').2:=by unfold YbQ;rw [if_pos hx]
   rw [s1] at ho ⊢;rw [s2,←e1];by_cases h0:p.ci ((z 45).toNat*4)=0
   ·simp only [h0,if_true];rw [h0] at e2;refine ⟨?_,?_,?_,e2⟩<;>first|rfl|trivial
   ·simp only [h0,if_false];obtain ⟨i1,i2,i3,i4⟩:=Yd5 hok hn hci hnum hfr hA he hi b _ _ _ ho.1 e2;refine ⟨?_,i2,i3,i4⟩;rw [i1];rfl
  ·have s1:∀(ins:List (Int×Int)) (D:Nat→Chn),YbQ p.n p.ci ins z D=(Y7 p.n p.ci z).with D:=fun ins D=>by unfold YbQ;rw [if_neg hx]
   rw [s1] at ho ⊢;rw [s1];revert ho;cases Y7 p.n p.ci z with
   |on op e z'=>
    intro ho;have es:∀(o:Int) (D D':Nat→Chn),(OutQ.on o e z' D).sent=(OutQ.on o e z' D').sent:=fun _ _ _=>by cases e<;>rfl
    by_cases h0:op=0
    ·simp only [Out.with,h0,if_true];refine ⟨es _ _ _,?_,?_,h⟩<;>first|rfl|trivial
    ·simp only [Out.with,h0,if_false];obtain ⟨i1,i2,i3,i4⟩:=Yd5 hok hn hci hnum hfr hA he hi b _ _ _ ho.1 h;refine ⟨?_,i2,i3,i4⟩;rw [i1,es op C C']
   |broke y z'=>
    intro _;simp only [Out.with];rw [hfr,hnum];refine ⟨?_,?_,?_,h.forget _⟩<;>first|rfl|trivial
theorem YcM {p:Prg} {k:Nat} {to_:Nat→Int} {A:Int→Prop} {C':Nat→Chn} (hok:Yc8 p.n k p.ci) (hA:¬A p.num) (hc:∀j,j<k→A (to_ j)→A (p.fr j)) (he:Ends p.n p.ci k p.fr to_ p.num):
  ∀(b:Nat) (z:Nat→Int) (C:Nat→Chn),Zok p.n z→YbR k to_ A C C'→YbR k to_ A (runQ p b z C).2.2.2 C'
 |0,_,_,_,h=>h
 |b+1,z,C,hz,h=>by
  obtain ⟨bb,hb⟩:=Ycs k C;have ho:=YcC (ins:=p.ins) hok hz hb;have h1:=hz.lo;have h2:=hz.hi;simp only [runQ];by_cases hx:z 45≠p.n∧isEx (p.ci ((z 45).toNat*4))
  ·have hj:(z 45).toNat<p.n:=by omega
   have e2:=Yg5 (ins:=p.ins) (R:=(p.ci ((z 45).toNat*4+1)).toNat) (B:=(p.ci ((z 45).toNat*4+2)).toNat) (z:=Y9 z) hA hc h (he _ hj).1 (he _ hj).2 hx.2;have s1:YbQ p.n p.ci p.ins z C=.on (p.ci ((z 45).toNat*4)) none (exF p.ins (p.ci ((z 45).toNat*4)) (p.ci ((z 45).toNat*4+1)).toNat (p.ci ((z 45).toNat*4+2)).toNat (p.ci ((z 45).toNat*4+3)) (Y9 z) C).1 (exF p.ins (p.ci ((z 45).toNat*4)) (p.ci ((z 45).toNat*4+1)).toNat (p.ci ((z 45).toNat*4+2)).toNat (p.ci ((z 45).toNat*4+3)) (Y9 z) C).2:=by unfold YbQ;rw [if_pos hx]
   rw [s1] at ho ⊢;by_cases h0:p.ci ((z 45).toNat*4)=0
   ·simp only [h0,if_true];rw [h0] at e2;exact e2
   ·simp only [h0,if_false];exact YcM hok hA hc he b _ _ ho.1 e2
  ·have s1:YbQ p.n p.ci p.ins z C=(Y7 p.n p.ci z).with C:=by unfold YbQ;rw [if_neg hx]
   rw [s1] at ho ⊢;revert ho;cases Y7 p.n p.ci z with
   |on op e z'=>
    intro ho;by_cases h0:op=0
    ·simp only [Out.with,h0,if_true];exact h
    ·simp only [Out.with,h0,if_false];exact YcM hok hA hc he b _ _ ho.1 h
   |broke y z'=>exact fun _=>h.forgetL hc hA
structure UnC (c d:Cfg) (A:Int→Prop):Prop where
 nT:d.nT=c.nT
 nRow:d.nRow=c.nRow
 row:d.row=c.row
 nCh:d.nCh=c.nCh
 ch:d.ch=c.ch
 nC:d.nC=c.nC
 cell:∀i:Nat,i<c.nC→A i→d.nCode i=c.nCode i∧d.code i=c.code i∧d.lim i=c.lim i∧d.nImg i=c.nImg i∧d.img i=c.img i
 okc:∀i,i<c.nC→X3 c i
 okd:∀i,i<c.nC→X3 d i
 clos:∀j,j<c.nCh→A (c.ch (j*3+2))→A (c.ch (j*3+1))
theorem YdC {c:Cfg} {i:Nat} (h:X3 c i):Ends (c.nCode i) (c.code i) c.nCh (fun j=>c.ch (j*3+1)) (fun j=>c.ch (j*3+2)) i:=fun j hj=>by
 obtain ⟨-,-,-,-,h10,h11,h12,h13,-⟩:=h.2.2.2 j hj;refine ⟨fun e=>?_,fun e=>?_⟩
 ·rcases e with e|e
  ·obtain ⟨a,b,_,d⟩:=h10 e;exact ⟨by omega,d⟩
  ·obtain ⟨a,b,_,d⟩:=h11 e;exact ⟨by omega,d⟩
 ·rcases e with e|e|e
  ·obtain ⟨a,b,_,d⟩:=h12 (.inl e);exact ⟨by omega,d⟩
  ·obtain ⟨a,b,_,d⟩:=h13 e;exact ⟨by omega,d⟩
  ·obtain ⟨a,b,_,d⟩:=h12 (.inr e);exact ⟨by omega,d⟩
structure UnS (c d:Cfg) (A:Int→Prop) (s s':KSq):Prop where
 same:∀i:Nat,i<c.nC→A i→s.z i=s'.z i∧s.m i=s'.m i∧s.xs i=s'.xs i
 chs:YbR c.nCh (fun j=>c.ch (j*3+2)) A s.D s'.D
 zc:∀i,i<c.nC→Zok (c.nCode i) (s.z i)
 zd:∀i,i<c.nC→Zok (d.nCode i) (s'.z i)
def UnI (c:Cfg) (A:Int→Prop) (ins ins':List (Int×Int)):Prop:=∀x:Nat,x<c.nD→A (c.dv x)→Yc0 ins x=Yc0 ins' x
section
variable {c d:Cfg} {A:Int→Prop} {s s':KSq} {ins ins':List (Int×Int)}
theorem YfI (h:UnI c A ins ins') {i:Nat} (hok:X3 c i) (hA:A i):YdY (c.nCode i) (c.code i) ins ins':=fun j hj e=>by
 obtain ⟨-,-,-,-,-,-,-,-,h14⟩:=hok.2.2.2 j hj;obtain ⟨a,b,q⟩:=h14 e;have:=h (c.code i (j*4+3)).toNat (by omega) (by rw [q];exact hA);rw [show (((c.code i (j*4+3)).toNat:Nat):Int)=c.code i (j*4+3) by omega] at this;exact this
theorem UnS.win (hC:UnC c d A) (h:UnS c d A s s') (hI:UnI c A ins ins') {p:Nat×Nat} (hp:p.1<c.nC):UnS c d A (winC c ins p s) (winC d ins' p s'):=by
 have hokc:=Ydq (hC.okc p.1 hp);have hokd:=Ydq (hC.okd p.1 hp);have hec:=YdC (hC.okc p.1 hp);have hed:=YdC (hC.okd p.1 hp);rw [hC.nCh] at hokd hed;rw [hC.ch] at hed;have zc:=h.zc p.1 hp;have zd:=h.zd p.1 hp;obtain ⟨bc,hbc⟩:=Ycs c.nCh s.D;obtain ⟨bd,hbd⟩:=Ycs c.nCh s'.D;have wc:=(Yd0 (p:=prgC c ins p.1) hokc p.2 zc hbc).1;have wd:=(Yd0 (p:=prgC d ins' p.1) hokd p.2 zd hbd).1;have gen:∀(zz:Nat→Nat→Int) (v:Nat→Int) (n:Nat→Nat),(∀i,i<c.nC→Zok (n i) (zz i))→Zok (n p.1) v→∀i,i<c.nC→Zok (n i) (updN zz p.1 v i):=fun zz v n h1 h2 i hi=>by
  by_cases e:i=p.1
  ·subst e;rw [Yh];exact h2
  ·rw [YG _ _ e];exact h1 i hi
 by_cases hA:A p.1
 ·obtain ⟨e1,e2,e3,e4,e5⟩:=hC.cell p.1 hp hA;obtain ⟨q1,q2,q3⟩:=h.same p.1 hp hA;have key:(YbN (prgC c ins p.1) p.2 (s.z p.1) s.D).1=(YbN (prgC d ins' p.1) p.2 (s'.z p.1) s'.D).1∧(YbN (prgC c ins p.1) p.2 (s.z p.1) s.D).2.1=(YbN (prgC d ins' p.1) p.2 (s'.z p.1) s'.D).2.1∧YbR c.nCh (fun j=>c.ch (j*3+2)) A (YbN (prgC c ins p.1) p.2 (s.z p.1) s.D).2.2 (YbN (prgC d ins' p.1) p.2 (s'.z p.1) s'.D).2.2:=by
   rw [←q1];unfold YbN goQ;by_cases hs:s.z p.1 3<s.z p.1 47
   ·simp only [if_pos hs];exact ⟨by first|rfl|trivial,by first|rfl|trivial,h.chs⟩
   ·simp only [if_neg hs];obtain ⟨i1,i2,i3,i4⟩:=Yd5 (p:=prgC c ins p.1) (p':=prgC d ins' p.1) (A:=A) hokc e1 e2 rfl (by show (fun j=>d.ch (j*3+1))=_;rw [hC.ch];rfl) hA hec (YfI hI (hC.okc p.1 hp) hA) p.2 (s.z p.1) s.D s'.D zc h.chs;exact ⟨by rw [i1,i2,i3],i3,i4⟩
  obtain ⟨k1,k2,k3⟩:=key;refine ⟨fun i hi ha=>?_,k3,gen _ _ _ h.zc wc,gen _ _ _ h.zd wd⟩;by_cases e:i=p.1
  ·subst e;refine ⟨?_,?_,?_⟩
   ·show updN s.z p.1 _ p.1=updN s'.z p.1 _ p.1;rw [Yh,Yh,k2]
   ·show updN s.m p.1 _ p.1=updN s'.m p.1 _ p.1;rw [Yh,Yh,k1,q2]
   ·show updN s.xs p.1 _ p.1=updN s'.xs p.1 _ p.1;rw [Yh,Yh,k1,q3]
  ·refine ⟨?_,?_,?_⟩
   ·show updN s.z p.1 _ i=updN s'.z p.1 _ i;rw [YG _ _ e,YG _ _ e];exact (h.same i hi ha).1
   ·show updN s.m p.1 _ i=updN s'.m p.1 _ i;rw [YG _ _ e,YG _ _ e];exact (h.same i hi ha).2.1
   ·show updN s.xs p.1 _ i=updN s'.xs p.1 _ i;rw [YG _ _ e,YG _ _ e];exact (h.same i hi ha).2.2
 ·have o1:YbR c.nCh (fun j=>c.ch (j*3+2)) A (YbN (prgC c ins p.1) p.2 (s.z p.1) s.D).2.2 s'.D:=by
   show YbR _ _ _ (goQ (prgC c ins p.1) p.2 (s.z p.1) s.D).2.2.2 _;unfold goQ;split
   ·exact h.chs
   ·exact YcM (p:=prgC c ins p.1) hokc hA hC.clos hec p.2 _ _ zc h.chs
  have o2:YbR c.nCh (fun j=>c.ch (j*3+2)) A (YbN (prgC d ins' p.1) p.2 (s'.z p.1) s'.D).2.2 (YbN (prgC c ins p.1) p.2 (s.z p.1) s.D).2.2:=by
   show YbR _ _ _ (goQ (prgC d ins' p.1) p.2 (s'.z p.1) s'.D).2.2.2 _;have hsym:YbR c.nCh (fun j=>c.ch (j*3+2)) A s'.D (YbN (prgC c ins p.1) p.2 (s.z p.1) s.D).2.2:=fun j hj ha=>(o1 j hj ha).symm;unfold goQ;split
   ·exact hsym
   ·exact YcM (p:=prgC d ins' p.1) hokd hA (fun j hj ha=>by show A (d.ch (j*3+1));rw [hC.ch];exact hC.clos j hj ha) (by show Ends _ _ _ (fun j=>d.ch (j*3+1)) _ _;rw [hC.ch];exact hed) p.2 _ _ zd hsym
  refine ⟨fun i hi ha=>?_,fun j hj ha=>(o2 j hj ha).symm,gen _ _ _ h.zc wc,gen _ _ _ h.zd wd⟩;have e:i≠p.1:=fun e=>hA (by rw [←e];exact ha);refine ⟨?_,?_,?_⟩
  ·show updN s.z p.1 _ i=updN s'.z p.1 _ i;rw [YG _ _ e,YG _ _ e];exact (h.same i hi ha).1
  ·show updN s.m p.1 _ i=updN s'.m p.1 _ i;rw [YG _ _ e,YG _ _ e];exact (h.same i hi ha).2.1
  ·show updN s.xs p.1 _ i=updN s'.xs p.1 _ i;rw [YG _ _ e,YG _ _ e];exact (h.same i hi ha).2.2
theorem UnS.row (hC:UnC c d A) (hI:UnI c A ins ins') {wn:Nat→Nat×Nat}:∀(rem j:Nat) (s s':KSq),(∀i,j≤i→i<j+rem→(wn i).1<c.nC)→UnS c d A s s'→UnS c d A (rowC c ins wn rem j s) (rowC d ins' wn rem j s')
 |0,_,_,_,_,h=>h
 |rem+1,j,_,_,hw,h=>UnS.row hC hI rem (j+1) _ _ (fun i a b=>hw i (by omega) (by omega)) (h.win hC hI (hw j (Nat.le_refl _) (by omega)))
theorem UnS.frame (hC:UnC c d A) (h:UnS c d A s s') (hI:UnI c A ins ins') {r:Nat} (hw:∀i,i<c.nRow r→(wnOf c r i).1<c.nC):UnS c d A (frameC c r ins s) (frameC d r ins' s'):=by
 have e1:wnOf d r=wnOf c r:=by unfold wnOf;rw [hC.row]
 have hr:=UnS.row hC hI (wn:=wnOf c r) (c.nRow r) 0 s s' (fun i _ hi=>hw i (by omega)) h;unfold frameC;rw [e1,hC.nRow,hC.nCh];refine ⟨hr.same,fun j hj ha=>?_,hr.zc,hr.zd⟩;show endC c.nCh _ j=endC c.nCh _ j;have e:∀C:Nat→Chn,endC c.nCh C j=endS (endQ (C j)):=fun C=>by unfold endC Ycg;rw [if_pos hj,if_pos hj]
 rw [e,e,hr.chs j hj ha]
end
theorem YdX {c d:Cfg} {A:Int→Prop} {I I':Nat→List (Int×Int)} (hC:UnC c d A) (hI:∀i,UnI c A (I i) (I' i)) (hT:0<c.nT) (hw:∀r,r<c.nT→∀i,i<c.nRow r→(wnOf c r i).1<c.nC):∀i,UnS c d A (frS c I i) (frS d I' i)
 |0=>by
  refine ⟨fun i hi ha=>?_,fun _ _ _=>rfl,fun i hi=>?_,fun i hi=>?_⟩
  ·obtain ⟨_,_,e3,e4,e5⟩:=hC.cell i hi ha;refine ⟨?_,rfl,rfl⟩;show newZ (c.lim i) (c.nImg i) (c.img i)=newZ (d.lim i) (d.nImg i) (d.img i);rw [e3,e4,e5]
  ·exact (Y1M (c.lim i) (c.nImg i) (c.img i) (c.nCode i) (hC.okc i hi).2.1).1
  ·exact (Y1M (d.lim i) (d.nImg i) (d.img i) (d.nCode i) (hC.okd i hi).2.1).1
 |i+1=>by
  show UnS c d A (frameC c (i % c.nT) (I i) (frS c I i)) (frameC d (i % d.nT) (I' i) (frS d I' i));rw [hC.nT];exact (YdX hC hI hT hw i).frame hC (hI i) (hw _ (Nat.mod_lt _ hT))
def outP (S S':Sh) (L:List Int) (dv:Nat→Int) (i x:Nat):List (Int×Int):=
 if dv x∈L then (if x<min (S.m i) 4 then [((x:Int),S.z i x)] else []) else (if i<S'.n∧x<S'.m i then [((x:Int),S'.z i x)] else [])
def outF (S S':Sh) (L:List Int) (dv:Nat→Int) (i:Nat):Nat→List (Int×Int)
 |0=>[]
 |x+1=>outF S S' L dv i x++outP S S' L dv i x
section
variable {S S':Sh} {L:List Int} {dv:Nat→Int} {i:Nat}
theorem Yep {x:Nat}:∀y∈outP S S' L dv i x,y.1=(x:Int):=fun y hy=>by
 unfold outP at hy;split at hy
 ·split at hy
  ·rw [List.mem_singleton] at hy;subst hy;rfl
  ·exact absurd hy (by simp)
 ·split at hy
  ·rw [List.mem_singleton] at hy;subst hy;rfl
  ·exact absurd hy (by simp)
theorem Yfc {x:Nat}:(outP S S' L dv i x).length≤1:=by
 unfold outP;split<;>split<;>simp
theorem outF_len:∀n,(outF S S' L dv i n).length≤n
 |0=>Nat.le_refl _
 |n+1=>by
  have h1:=outF_len n;have h2:=Yfc (S:=S) (S':=S') (L:=L) (dv:=dv) (i:=i) (x:=n);show (outF S S' L dv i n++outP S S' L dv i n).length≤_;rw [List.length_append];omega
theorem Ygt {x y:Nat} (h:y≠x):(outP S S' L dv i y).find? (fun p=>p.1==(x:Int))=none:=by
 rw [List.find?_eq_none];intro p hp e;have h1:=Yep p hp;have h2:p.1=(x:Int):=by simpa using e
 omega
theorem YdT (x:Nat):∀n,(outF S S' L dv i n).find? (fun p=>p.1==(x:Int))=if x<n then (outP S S' L dv i x).find? (fun p=>p.1==(x:Int)) else none
 |0=>rfl
 |n+1=>by
  show (outF S S' L dv i n++outP S S' L dv i n).find? _=_;rw [List.find?_append,YdT x n];by_cases e:n=x
  ·subst e;rw [if_neg (Nat.lt_irrefl _),if_pos (Nat.lt_succ_self _)];rfl
  ·rw [Ygt e];by_cases h:x<n
   ·rw [if_pos h,if_pos (by omega)];simp
   ·rw [if_neg h,if_neg (by omega)];rfl
theorem Yfy (S:Sh) (i x:Nat):(insS S i).find? (fun p=>p.1==(x:Int))=if x<min (S.m i) 4 then some ((x:Int),S.z i x) else none:=by
 unfold insS;generalize min (S.m i) 4=n;induction n with
 |zero=>rfl
 |succ n ih=>
  rw [List.range_succ,List.map_append,List.find?_append,ih];by_cases e:n=x
  ·subst e;rw [if_neg (Nat.lt_irrefl _),if_pos (Nat.lt_succ_self _)];simp
  ·have hne:¬((n:Int)=(x:Int)):=by omega
   by_cases h:x<n
   ·rw [if_pos h,if_pos (by omega)];simp
   ·rw [if_neg h,if_neg (by omega)];simp [hne]
theorem YfE {c:Cfg} (hdv:c.dv=dv):UnI c (fun x=>x∈L) (insS S i) (outF S S' L dv i c.nD):=fun x hx ha=>by
 rw [hdv] at ha;unfold Yc0;rw [YdT,Yfy,if_pos hx];unfold outP;rw [if_pos ha];by_cases h:x<min (S.m i) 4
 ·rw [if_pos h,if_pos h];simp
 ·rw [if_neg h,if_neg h];rfl
end
end Go.Proofs.YtdoghgnifkgfdaaGreat.Mute
