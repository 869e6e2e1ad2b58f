import Derived.Test.YtdoghgnifkgfdaaGreatP00
import Derived.Test.YtdoghgnifkgfdaaGreatP07
set_option maxRecDepth 100000
set_option maxHeartbeats 16000000
open Option renaming none->Ai,some->yi
open Go renaming World->ui,Value->ti,undef->ri
open Bool renaming true->ji,false->gi
namespace Go.Proofs.YtdoghgnifkgfdaaGreat
open Tryz Go.RowKit
theorem yw{w w':ui}{row:Option Nat}(h:w.grownBy w' row)(n:Nat):w.grownBy (w'.drewN n) row:=⟨h.os,h.tape,h.output,h.size,h.block⟩
theorem Ei.drewN{w:ui}{g m t:Nat}{f:Nat->ti}(h:Ei w g m t f)(n:Nat):Ei (w.drewN n) g m t f:=h
theorem below_grown{w w':ui}(h:Below w.heap.size w w')(row:Option Nat):w.grownBy w' row:=⟨h.os,h.tape,h.output,h.size,fun k hk _=>h.block k hk⟩
def uo(K k:Nat)(f:Nat->ti)(j:Nat):Value:=if j<k*K then .int .i64 (if j%K=0 then -99 else 0)else f j
theorem XV(k j:Nat)(f:Nat->ti):(if j=k then Value.int .i64 (-99)else uo 1 k f j)=uo 1 (k+1) f j:=by
 unfold uo;repeat' split
 all_goals first
  |rfl
  |(exfalso;omega)
theorem YX(k j:Nat)(f:Nat->ti):(if j=k*2+1 then Value.int .i64 0 else if j=k*2 then Value.int .i64 (-99)else uo 2 k f j)=uo 2 (k+1) f j:=by
 unfold uo;repeat' split
 all_goals first
  |rfl
  |(exfalso;omega)
theorem NZ(k j:Nat)(f:Nat->ti):(if j=k*4+3 then Value.int .i64 0 else if j=k*4+2 then Value.int .i64 0 else if j=k*4+1 then Value.int .i64 0 else if j=k*4 then Value.int .i64 (-99)else uo 4 k f j)=uo 4 (k+1) f j:=by
 unfold uo;repeat' split
 all_goals first
  |rfl
  |(exfalso;omega)
theorem DJ(w:ui):Calls prog 70 #[.slice Ai 0 0,.slice Ai 0 0] w fun e w'=>e=.returned (.bool ji)/\w'=w:=by
 refine Eb fun heq=>?_
 go_enter func70,ntmps70
 exact Wc
theorem rJ(g n cap b off ty:Nat)(sp:Option Nat)(z:Nat->Int)(w:ui)(hr:Ei w g ((n+2)*4) ty (fun j=>.int .i64 (Pj 4 n z j)))(hs:Sl w (yi ⟨b,off,sp⟩) (n*4) (fun j=>.int .i64 (z j)))(hb:32*n<=140737488355328):
  Calls prog 70 #[.slice (yi ⟨g,0,Ai⟩) n (n+2:Nat),.slice (yi ⟨b,off,sp⟩) n cap] w fun e w'=>e=.returned (.bool ji)/\w.grownBy w' (yi g):=by
 have hB:n<=17592186044416:=E0;have hg:g<w.heap.size:=hr.lt;have GR:Hid (Ei w g ((n+2)*4) ty (fun j=>.int .i64 (Pj 4 n z j))):=hr;have HS:Hid (Sl w (yi ⟨b,off,sp⟩) (n*4) (fun j=>.int .i64 (z j))):=hs;have HN:Hid (32*n<=140737488355328):=hb;clear hr hs hb;refine Eb fun heq=>?_
 go_enter func70,ntmps70
 go_wp2_with (go_at_call 63;refine(YD (yi ⟨b,off,sp⟩) n cap z _ HS.out P0 HN.out).mono ?_;rintro e w1 ⟨rfl,Aq,Pn,xo⟩;have YB:Hid (w1.heap.size=w.heap.size+1):=Aq;have Xq:Hid (Below w.heap.size w w1):=Pn;have HV1:Hid (Ei w1 w.heap.size ((n+2)*4) 97 (fun j=>.int .i64 (Pj 4 n z j))):=xo;clear Aq Pn xo)
 go_loopw [7,8] (fun o i wr=>∃k:Nat,k<=n+2/\i=.int .i64 k/\o=.bool ji/\Hid (w.grownBy wr (yi g))/\Hid (Ei wr g ((n+2)*4) ty (uo 4 k (fun j=>.int .i64 (Pj 4 n z j))))/\Hid (Ei wr w.heap.size ((n+2)*4) 97 (fun j=>.int .i64 (Pj 4 n z j)))) (fun _ i _=>n+2-(intOf i).toNat)
 case atStart=>exact⟨0,Nat.zero_le _,rfl,P0,below_grown Xq.out _,(GR.out.below Xq.out hg).congr (fun j _=>by simp[uo]),HV1⟩
 case round=>
  obtain⟨k,hk,rfl,rfl,HG,HR,HV⟩:=hrel;by_cases Wi:k<n+2
  ·have HP:Hid (∀j,_):=fun j=>NZ k j (fun j=>.int .i64 (Pj 4 n z j));have c0:=HR.out.cell (j:=k*4) E0;have d0:=HV.out.cell (j:=k*4) E0;have f0:=HR.out.frozen (k*4);have c1:=HR.out.cell (j:=k*4+1) E0;have d1:=HV.out.cell (j:=k*4+1) E0;have f1:=HR.out.frozen (k*4+1);have c2:=HR.out.cell (j:=k*4+2) E0;have d2:=HV.out.cell (j:=k*4+2) E0;have f2:=HR.out.frozen (k*4+2);have c3:=HR.out.cell (j:=k*4+3) E0;have d3:=HV.out.cell (j:=k*4+3) E0;have f3:=HR.out.frozen (k*4+3);have o0:uo 4 k (fun j=>.int .i64 (Pj 4 n z j)) (k*4)=.int .i64 (Pj 4 n z (k*4)):=by unfold uo;rw[if_neg E0]
   rw[o0]at c0;have o1:uo 4 k (fun j=>.int .i64 (Pj 4 n z j)) (k*4+1)=.int .i64 (Pj 4 n z (k*4+1)):=by unfold uo;rw[if_neg E0]
   rw[o1]at c1;have o2:uo 4 k (fun j=>.int .i64 (Pj 4 n z j)) (k*4+2)=.int .i64 (Pj 4 n z (k*4+2)):=by unfold uo;rw[if_neg E0]
   rw[o2]at c2;have o3:uo 4 k (fun j=>.int .i64 (Pj 4 n z j)) (k*4+3)=.int .i64 (Pj 4 n z (k*4+3)):=by unfold uo;rw[if_neg E0]
   rw[o3]at c3;generalize Pj 4 n z (k*4)=x0 at c0 d0;generalize Pj 4 n z (k*4+1)=x1 at c1 d1;generalize Pj 4 n z (k*4+2)=x2 at c2 d2;generalize Pj 4 n z (k*4+3)=x3 at c3 d3;clear o0 o1 o2 o3;go_wp2_with fail;go_quiet (fail)
   go_wp2_with fail
   exact⟨⟨k+1,E0,J1,rfl,(grownBy_setCell (grownBy_setCell (grownBy_setCell (grownBy_setCell (yw HG.out nq) (k*4) _) (k*4+1) _) (k*4+2) _) (k*4+3) _),(((((HR.out.drewN nq).set (k*4) _).set (k*4+1) _).set (k*4+2) _).set (k*4+3) _).congr (fun j _=>HP.out j),(((((HV.out.drewN nq).other _ _ A1).other _ _ A1).other _ _ A1).other _ _ A1)⟩,U1⟩
  ·obtain rfl:k=n+2:=by omega
   exact Vh
theorem FH(w:ui):Calls prog 71 #[.slice Ai 0 0,.slice Ai 0 0] w fun e w'=>e=.returned (.bool ji)/\w'=w:=by
 refine Nb fun heq=>?_
 go_enter func71,ntmps71
 exact Wc
theorem xH(g n cap b off ty:Nat)(sp:Option Nat)(z:Nat->Int)(w:ui)(hr:Ei w g ((n+2)*1) ty (fun j=>.int .i64 (Pj 1 n z j)))(hs:Sl w (yi ⟨b,off,sp⟩) (n) (fun j=>.int .i64 (z j)))(hb:8*n<=140737488355328):
  Calls prog 71 #[.slice (yi ⟨g,0,Ai⟩) n (n+2:Nat),.slice (yi ⟨b,off,sp⟩) n cap] w fun e w'=>e=.returned (.bool ji)/\w.grownBy w' (yi g):=by
 have hB:n<=17592186044416:=E0;have hg:g<w.heap.size:=hr.lt;have GR:Hid (Ei w g ((n+2)*1) ty (fun j=>.int .i64 (Pj 1 n z j))):=hr;have HS:Hid (Sl w (yi ⟨b,off,sp⟩) (n) (fun j=>.int .i64 (z j))):=hs;have HN:Hid (8*n<=140737488355328):=hb;clear hr hs hb;refine Nb fun heq=>?_
 go_enter func71,ntmps71
 go_wp2_with (go_at_call 64;refine(Bz (yi ⟨b,off,sp⟩) n cap z _ HS.out P0 HN.out).mono ?_;rintro e w1 ⟨rfl,Aq,Pn,xo⟩;have YB:Hid (w1.heap.size=w.heap.size+1):=Aq;have Xq:Hid (Below w.heap.size w w1):=Pn;have HV1:Hid (Ei w1 w.heap.size ((n+2)*1) 2 (fun j=>.int .i64 (Pj 1 n z j))):=xo;clear Aq Pn xo)
 go_loopw [7,8] (fun o i wr=>∃k:Nat,k<=n+2/\i=.int .i64 k/\o=.bool ji/\Hid (w.grownBy wr (yi g))/\Hid (Ei wr g ((n+2)*1) ty (uo 1 k (fun j=>.int .i64 (Pj 1 n z j))))/\Hid (Ei wr w.heap.size ((n+2)*1) 2 (fun j=>.int .i64 (Pj 1 n z j)))) (fun _ i _=>n+2-(intOf i).toNat)
 case atStart=>exact⟨0,Nat.zero_le _,rfl,P0,below_grown Xq.out _,(GR.out.below Xq.out hg).congr (fun j _=>by simp[uo]),HV1⟩
 case round=>
  obtain⟨k,hk,rfl,rfl,HG,HR,HV⟩:=hrel;by_cases Wi:k<n+2
  ·have HP:Hid (∀j,_):=fun j=>XV k j (fun j=>.int .i64 (Pj 1 n z j));have c0:=HR.out.cell (j:=k) E0;have d0:=HV.out.cell (j:=k) E0;have f0:=HR.out.frozen (k);have o0:uo 1 k (fun j=>.int .i64 (Pj 1 n z j)) (k)=.int .i64 (Pj 1 n z (k)):=by unfold uo;rw[if_neg E0]
   rw[o0]at c0;generalize Pj 1 n z (k)=x0 at c0 d0;clear o0;go_wp2_with fail;go_quiet (fail)
   go_wp2_with fail
   exact⟨⟨k+1,E0,J1,rfl,(grownBy_setCell (yw HG.out nq) (k) _),((HR.out.drewN nq).set (k) _).congr (fun j _=>HP.out j),((HV.out.drewN nq).other _ _ A1)⟩,U1⟩
  ·obtain rfl:k=n+2:=by omega
   exact Vh
theorem pN(g n cap ty:Nat)(p:Option Addr)(hp:p=Ai->n=0)(z:Nat->Int)(w:ui)(hr:Ei w g ((n+2)*2) ty (fun j=>.int .i64 (Pj 2 n z j)))(hs:Sl w p (n*2) (fun j=>.int .i64 (z j)))(hb:16*n<=140737488355328):
  Calls prog 72 #[.slice (yi ⟨g,0,Ai⟩) n (n+2:Nat),.slice p n cap] w fun e w'=>e=.returned (.bool ji)/\w.grownBy w' (yi g):=by
 have hB:n<=17592186044416:=E0;have hg:g<w.heap.size:=hr.lt;have GR:Hid (Ei w g ((n+2)*2) ty (fun j=>.int .i64 (Pj 2 n z j))):=hr;have HS:Hid (Sl w p (n*2) (fun j=>.int .i64 (z j))):=hs;have HN:Hid (16*n<=140737488355328):=hb;clear hr hs hb
 go_enter func72,ntmps72
 go_wp2_with (go_at_call 65;refine(WE p n cap z _ HS.out hp HN.out).mono ?_;rintro e w1 ⟨rfl,Aq,Pn,xo⟩;have YB:Hid (w1.heap.size=w.heap.size+1):=Aq;have Xq:Hid (Below w.heap.size w w1):=Pn;have HV1:Hid (Ei w1 w.heap.size ((n+2)*2) 102 (fun j=>.int .i64 (Pj 2 n z j))):=xo;clear Aq Pn xo)
 go_loopw [7,8] (fun o i wr=>∃k:Nat,k<=n+2/\i=.int .i64 k/\o=.bool ji/\Hid (w.grownBy wr (yi g))/\Hid (Ei wr g ((n+2)*2) ty (uo 2 k (fun j=>.int .i64 (Pj 2 n z j))))/\Hid (Ei wr w.heap.size ((n+2)*2) 102 (fun j=>.int .i64 (Pj 2 n z j)))) (fun _ i _=>n+2-(intOf i).toNat)
 case atStart=>exact⟨0,Nat.zero_le _,rfl,P0,below_grown Xq.out _,(GR.out.below Xq.out hg).congr (fun j _=>by simp[uo]),HV1⟩
 case round=>
  obtain⟨k,hk,rfl,rfl,HG,HR,HV⟩:=hrel;by_cases Wi:k<n+2
  ·have HP:Hid (∀j,_):=fun j=>YX k j (fun j=>.int .i64 (Pj 2 n z j));have c0:=HR.out.cell (j:=k*2) E0;have d0:=HV.out.cell (j:=k*2) E0;have f0:=HR.out.frozen (k*2);have c1:=HR.out.cell (j:=k*2+1) E0;have d1:=HV.out.cell (j:=k*2+1) E0;have f1:=HR.out.frozen (k*2+1);have o0:uo 2 k (fun j=>.int .i64 (Pj 2 n z j)) (k*2)=.int .i64 (Pj 2 n z (k*2)):=by unfold uo;rw[if_neg E0]
   rw[o0]at c0;have o1:uo 2 k (fun j=>.int .i64 (Pj 2 n z j)) (k*2+1)=.int .i64 (Pj 2 n z (k*2+1)):=by unfold uo;rw[if_neg E0]
   rw[o1]at c1;generalize Pj 2 n z (k*2)=x0 at c0 d0;generalize Pj 2 n z (k*2+1)=x1 at c1 d1;clear o0 o1;go_wp2_with fail;go_quiet (fail)
   go_wp2_with fail
   exact⟨⟨k+1,E0,J1,rfl,(grownBy_setCell (grownBy_setCell (yw HG.out nq) (k*2) _) (k*2+1) _),(((HR.out.drewN nq).set (k*2) _).set (k*2+1) _).congr (fun j _=>HP.out j),(((HV.out.drewN nq).other _ _ A1).other _ _ A1)⟩,U1⟩
  ·obtain rfl:k=n+2:=by omega
   exact Vh
def zj(nl:Bool)(b n:Nat):Value:=if nl then .slice Ai 0 0 else .slice (yi ⟨b,0,Ai⟩) n (n+2)
def Yu(w:ui)(nl:Bool)(b n k:Nat)(z:Nat->Int):Prop:=nl=gi->∃ty,Ei w b ((n+2)*k) ty (fun j=>.int .i64 (Pj k n z j))
theorem Yu.keep{w w':ui}{nl:Bool}{b n k:Nat}{z:Nat->Int}(h:Yu w nl b n k z)(he:nl=gi->w'.heap[b]?=w.heap[b]?):Yu w' nl b n k z:=fun hn=>by
 obtain⟨ty,hr⟩:=h hn;exact⟨ty,hr.of_heap (he hn)⟩
structure Ik(w:ui)(c:vl)(k lo hi:Nat)(cb:Nat->Nat):Prop where
 code:∀i,i<k->Yu w (c.Xl i) (cb i) (c.Zi i) 4 (c.code i)
 img:∀i,i<k->Yu w (c.Yl i) (cb i+1) (c.Vj i) 1 (c.img i)
 lo:∀i,i<k->lo<=cb i/\cb i+2<=hi
 ord:∀i j,i<j->j<k->cb i+2<=cb j
theorem Ik.zero(w:ui)(c:vl)(lo hi:Nat)(cb:Nat->Nat):Ik w c 0 lo hi cb:=
 ⟨fun i h=>absurd h E0,fun i h=>absurd h E0,fun i h=>absurd h E0,fun i j _ h=>absurd h E0⟩
theorem Ik.keep{w w':ui}{c:vl}{k lo hi uI:Nat}{cb:Nat->Nat}(h:Ik w c k lo hi cb)(hh:hi<=uI)(he:∀i,i<k->w'.heap[cb i]?=w.heap[cb i]?/\w'.heap[cb i+1]?=w.heap[cb i+1]?):Ik w' c k lo uI cb:=
 ⟨fun i hi=>(h.code i hi).keep (fun _=>(he i hi).1),fun i hi=>(h.img i hi).keep (fun _=>(he i hi).2),fun i hi=>⟨(h.lo i hi).1,Nat.le_trans (h.lo i hi).2 hh⟩,h.ord⟩
def setAt(cb:Nat->Nat)(k b:Nat)(i:Nat):Nat:=if i<k then cb i else b
theorem Ik.step{w:ui}{c:vl}{k lo hi uI b:Nat}{cb:Nat->Nat}(h:Ik w c k lo hi cb)(h1:Yu w (c.Xl k) b (c.Zi k) 4 (c.code k))(h2:Yu w (c.Yl k) (b+1) (c.Vj k) 1 (c.img k))(hb:hi<=b)(hlo:lo<=b)(hh:b+2<=uI):Ik w c (k+1) lo uI (setAt cb k b):=by
 have e:∀i,i<k->setAt cb k b i=cb i:=fun i hi=>by simp[setAt,hi]
 have e':setAt cb k b k=b:=by simp[setAt]
 refine⟨fun i hi=>?_,fun i hi=>?_,fun i hi=>?_,fun i j hij hj=>?_⟩
 ·rcases Nat.lt_or_ge i k with hl|hl
  ·rw[e i hl];exact h.code i hl
  ·obtain rfl:i=k:=by omega
   rw[e'];exact h1
 ·rcases Nat.lt_or_ge i k with hl|hl
  ·rw[e i hl];exact h.img i hl
  ·obtain rfl:i=k:=by omega
   rw[e'];exact h2
 ·rcases Nat.lt_or_ge i k with hl|hl
  ·rw[e i hl];have:=h.lo i hl;omega
  ·obtain rfl:i=k:=by omega
   rw[e'];omega
 ·rcases Nat.lt_or_ge j k with hl|hl
  ·rw[e i E0,e j hl];exact h.ord i j hij hl
  ·obtain rfl:j=k:=by omega
   rw[e i hij,e'];have:=h.lo i hij;omega
def Rm(c:vl)(cb:Nat->Nat)(j:Nat):Value:=
 if j%3=0 then zj (c.Xl (j/3)) (cb (j/3)) (c.Zi (j/3))else if j%3=1 then zj (c.Yl (j/3)) (cb (j/3)+1) (c.Vj (j/3))else .int .i64 (c.lim (j/3))
theorem Kq(c:vl)(cb:Nat->Nat)(i:Nat):Rm c cb (i*3)=zj (c.Xl i) (cb i) (c.Zi i)/\Rm c cb (i*3+1)=zj (c.Yl i) (cb i+1) (c.Vj i)/\Rm c cb (i*3+2)=.int .i64 (c.lim i):=by
 have a1:i*3%3=0:=E0;have a2:i*3/3=i:=E0;have b1:(i*3+1)%3=1:=E0;have b2:(i*3+1)/3=i:=E0;have c1:(i*3+2)%3=2:=E0;have c2:(i*3+2)/3=i:=E0;exact⟨by simp[Rm,a1,a2],by simp[Rm,b1,b2],by simp[Rm,c1,c2]⟩
def Jr(c:vl)(cb:Nat->Nat)(k:Nat):List Value:=(List.range (k*3)).map (Rm c cb)
theorem xO(c:vl)(cb:Nat->Nat)(k b:Nat):Jr c cb k++[zj (c.Xl k) b (c.Zi k),zj (c.Yl k) (b+1) (c.Vj k),.int .i64 (c.lim k)]=Jr c (setAt cb k b) (k+1):=by
 unfold Jr;have e:(k+1)*3=k*3+1+1+1:=E0;rw[e,List.range_succ,List.range_succ,List.range_succ];simp only[List.map_append,List.map_cons,List.map_nil,List.append_assoc];obtain⟨g1,g2,g3⟩:=Kq c (setAt cb k b) k;have s:setAt cb k b k=b:=by simp[setAt]
 rw[s]at g1 g2;rw[g1,g2,g3];congr 1;apply List.map_congr_left;intro j hj;have Vs:j<k*3:=E2;have:j/3<k:=E0;simp[Rm,setAt,this]
theorem D10{W w1:ui}(hb:Below W.heap.size W w1):(∀b o,b<W.heap.size->w1.cell? ⟨b,o,Ai⟩=W.cell? ⟨b,o,Ai⟩)/\(∀b o,b<W.heap.size->w1.frozen? ⟨b,o,Ai⟩=W.frozen? ⟨b,o,Ai⟩):=
 ⟨fun b o h=>hb.cell (p:=⟨b,o,Ai⟩) h,fun b o h=>hb.frozen (p:=⟨b,o,Ai⟩) h⟩
def cells4(a b c d:ti)(j:Nat):Value:=if j=0 then a else if j=1 then b else if j=2 then c else d
theorem row4(w:ui)(a b c d:ti)(t:Nat):Ei (w.alloc (.cells #[a,b,c,d] t)) w.heap.size 4 t (cells4 a b c d):=
 Ei.new w #[a,b,c,d] t _ (fun j hj=>by
  have:j=0\/j=1\/j=2\/j=3:=by simp at hj;omega
  rcases this with rfl|rfl|rfl|rfl<;>rfl)
theorem Ei.at4{w:ui}{g t:Nat}{a b c d:ti}(h:Ei w g 4 t (cells4 a b c d)):w.cell? ⟨g,0,Ai⟩=yi a/\w.cell? ⟨g,1,Ai⟩=yi b/\w.cell? ⟨g,2,Ai⟩=yi c/\w.cell? ⟨g,3,Ai⟩=yi d:=
 ⟨h.cell E0,h.cell E0,h.cell E0,h.cell E0⟩
theorem Ei.Vv{w:ui}{g t:Nat}{a b c d:ti}(h:Ei w g 4 t (cells4 a b c d))(v:ti):
  Ei (w.setCell ⟨g,0,Ai⟩ v) g 4 t (cells4 v b c d)/\Ei (w.setCell ⟨g,1,Ai⟩ v) g 4 t (cells4 a v c d)/\Ei (w.setCell ⟨g,2,Ai⟩ v) g 4 t (cells4 a b v d)/\Ei (w.setCell ⟨g,3,Ai⟩ v) g 4 t (cells4 a b c v):=by
 refine⟨(h.set 0 v).congr ?_,(h.set 1 v).congr ?_,(h.set 2 v).congr ?_,(h.set 3 v).congr ?_⟩
 all_goals
  intro j hj;have:j=0\/j=1\/j=2\/j=3:=E0;rcases this with rfl|rfl|rfl|rfl<;>rfl
theorem kj{P:Program}(w:ui){ops:Array Oper}{rest:List Oper}{o:Oper}{a:Act}{Q:Exit->Act->ui->Prop}(UK:o.guard=Ai)(s x:Operand)(t:TypeId)
  (ho:o.op=.call {callee:=.builtin .append,args:=#[s,x],argTypes:=#[t,t]})
  (base:Nat)(e:TypeId)(z:ti)(size bytes:Nat)(ht:P.underlying t=yi (.slice e))(Xr:(P.info? e).map (fun i=>(i.zero,i.size,i.bytes))=yi (yi z,size,bytes))
  (hzs:z.cells.size=size)(hsz:0<size)(v:ti)(n:Nat)(xs:List ti)(hs:a.eval s=v)(rj:w.ownsRow base e size v n xs)
  (B:Nat)(news:List ti)(ty:TypeId)(hx:a.eval x=.slice (yi ⟨B,0,Ai⟩) 1 1)(hl:news.length=size)(Nk:w.heap[B]?=yi (.cells news.toArray ty (0,0)))(h1:∀u∈news,u.oneCell'=ji)
  (zV:n+1<=maxLen)(iu:(n+1)*bytes<=140737488355328)(iz:base<=w.heap.size)
  (h:∀g cap w',w'.ownsRow base e size (.slice (yi ⟨g,0,Ai⟩) (n+1) cap) (n+1) (xs++news)->w.grownBy w' v.ownBlock->(v.ownBlock=yi g\/g=w.heap.size)->g<w'.heap.size->wpList P ops Q rest (a.put o.dst (.slice (yi ⟨g,0,Ai⟩) (n+1) cap)) w'):wpList P ops Q (o::rest) a w:=by
 obtain⟨i,h2,h3,h4,h5⟩:=info_parts Xr;exact wpList_append_lies w UK s x t ho base e i z size bytes ht h2 h3 h4 h5 hzs hsz v n xs hs rj ⟨B,0,Ai⟩ 1 1 news hx (by rw[hl,Nat.one_mul]) (by
  have:=World.news_of_block Nk;simpa using this) h1 E0 zV iu iz _ rfl h
def cells3(a b c:ti)(j:Nat):Value:=if j=0 then a else if j=1 then b else c
theorem row3(w:ui)(a b c:ti)(t:Nat):Ei (w.alloc (.cells #[a,b,c] t)) w.heap.size 3 t (cells3 a b c):=
 Ei.new w #[a,b,c] t _ (fun j hj=>by
  have:j=0\/j=1\/j=2:=by simp at hj;omega
  rcases this with rfl|rfl|rfl<;>rfl)
theorem Ei.at3{w:ui}{g t:Nat}{a b c:ti}(h:Ei w g 3 t (cells3 a b c)):w.cell? ⟨g,0,Ai⟩=yi a/\w.cell? ⟨g,1,Ai⟩=yi b/\w.cell? ⟨g,2,Ai⟩=yi c:=
 ⟨h.cell E0,h.cell E0,h.cell E0⟩
theorem Ei.mR{w:ui}{g t:Nat}{a b c:ti}(h:Ei w g 3 t (cells3 a b c))(v:ti):
  Ei (w.setCell ⟨g,0,Ai⟩ v) g 3 t (cells3 v b c)/\Ei (w.setCell ⟨g,1,Ai⟩ v) g 3 t (cells3 a v c)/\Ei (w.setCell ⟨g,2,Ai⟩ v) g 3 t (cells3 a b v):=by
 refine⟨(h.set 0 v).congr ?_,(h.set 1 v).congr ?_,(h.set 2 v).congr ?_⟩
 all_goals
  intro j hj;have:j=0\/j=1\/j=2:=E0;rcases this with rfl|rfl|rfl<;>rfl
theorem ox{w:ui}{g t:Nat}{a b c d:ti}(h:Ei w g 4 t (cells4 a b c d)):w.heap[g]?=yi (.cells #[a,b,c,d] t (0,0)):=by
 obtain⟨cs,h1,h2,h3⟩:=h;rw[h1];congr 2;apply Array.ext
 ·simp[h2]
 ·intro i hi uI;have mU:=h3 i E0;have:i=0\/i=1\/i=2\/i=3:=by omega
  rw[Array.getElem?_eq_getElem hi]at mU;rcases this with rfl|rfl|rfl|rfl<;>simpa[cells4]using mU
theorem Wu:(prog.info? 53).map (fun i=>(i.zero,i.size,i.bytes))=yi (yi (.agg #[.slice Ai 0 0,.slice Ai 0 0,.int .i64 0]),3,56):=J0
theorem AB:(prog.info? 100).map (fun i=>(i.zero,i.size,i.bytes))=yi (yi (.slice Ai 0 0),1,24):=J0
def Hn(c:vl)(w:ui)(a0 a1 a2 a3:ti)(k:Nat)(wr:ui):Prop:=
 ∃cb v,Below w.heap.size w wr/\w.heap.size+3<=wr.heap.size/\Ei wr w.heap.size 4 28 (cells4 a0 a1 a2 a3)/\
  Ei wr (w.heap.size+1) 4 28 (cells4 (.slice Ai 0 0) (.slice Ai 0 0) (.slice Ai 0 0) (.slice Ai 0 0))/\
  Ei wr (w.heap.size+1+1) 4 28 (cells4 v (.slice Ai 0 0) (.slice Ai 0 0) (.slice Ai 0 0))/\
  Ik wr c k (w.heap.size+3) wr.heap.size cb/\wr.ownsRow (w.heap.size+3) 53 3 v k (Jr c cb k)/\∀g,v.ownBlock=yi g->∀i,i<k->g≠cb i/\g≠cb i+1
theorem TR{w:ui}{base e size n:Nat}{v:ti}{xs:List ti}(h:w.ownsRow base e size v n xs){j:Nat}(hj:j<base):yi j≠v.ownBlock:=fun e=>by
 have:=(h.lt j e.symm).1;omega
theorem own_below{w w':ui}{base e size n:Nat}{v:ti}{xs:List ti}(h:w.ownsRow base e size v n xs)(hb:Below w.heap.size w w'):w'.ownsRow base e size v n xs:=
 h.kept (row:=Ai) ⟨hb.os,hb.tape,hb.output,hb.size,fun k hk _=>hb.block k hk⟩ (by cases v.ownBlock<;>simp)
theorem alloc_at{A:ui}{o:Obj}{B:Nat}(h:A.heap.size=B):(A.alloc o).heap[B]?=yi o:=by subst h;exact heap_alloc_new A o
theorem Ek{P:Program}{w:ui}{ops:Array Oper}{o:Oper}{a:Act}{K:Act->ui->Prop}{Q:Exit->Act->ui->Prop}{E:Prop}(UK:o.guard=Ai)(s x:Operand)(t:TypeId)
  (ho:o.op=.call {callee:=.builtin .append,args:=#[s,x],argTypes:=#[t,t]})
  (base:Nat)(e:TypeId)(z:ti)(size bytes:Nat)(ht:P.underlying t=yi (.slice e))(Xr:(P.info? e).map (fun i=>(i.zero,i.size,i.bytes))=yi (yi z,size,bytes))
  (hzs:z.cells.size=size)(hsz:0<size)(v:ti)(n:Nat)(xs:List ti)(hs:a.eval s=v)(rj:w.ownsRow base e size v n xs)
  (B:Nat)(news:List ti)(ty:TypeId)(hx:a.eval x=.slice (yi ⟨B,0,Ai⟩) 1 1)(hl:news.length=size)(Nk:w.heap[B]?=yi (.cells news.toArray ty (0,0)))(h1:∀u∈news,u.oneCell'=ji)
  (zV:n+1<=maxLen)(iu:(n+1)*bytes<=140737488355328)(iz:base<=w.heap.size)
  (h:∀g cap w',w'.ownsRow base e size (.slice (yi ⟨g,0,Ai⟩) (n+1) cap) (n+1) (xs++news)->w.grownBy w' v.ownBlock->(v.ownBlock=yi g\/g=w.heap.size)->g<w'.heap.size->K (a.put o.dst (.slice (yi ⟨g,0,Ai⟩) (n+1) cap)) w'):
  if Region.wanted o (yielded ops a.tmps)=ji then Oper.wp P o a w K Q else E:=by
 obtain⟨i,h2,h3,h4,h5⟩:=info_parts Xr;exact step_append_lies w UK s x t ho base e i z size bytes ht h2 h3 h4 h5 hzs hsz v n xs hs rj ⟨B,0,Ai⟩ 1 1 news hx (by rw[hl,Nat.one_mul]) (by
  have:=World.news_of_block Nk;simpa using this) h1 E0 zV iu iz _ rfl h
theorem Hn.mid{c:vl}{w wr W w1:ui}{k:Nat}{cb:Nat->Nat}{v:ti}{B t:Nat}{f:Nat->ti}(ho:wr.ownsRow (w.heap.size+3) 53 3 v k (Jr c cb k))(hW:Below wr.heap.size wr W)
  (hg:W.grownBy w1 v.ownBlock)(hr:Ei wr B 4 t f)(hB:B<w.heap.size+3):Ei w1 B 4 t f:=
 (hr.of_heap (hW.block B hr.lt)).of_heap (hg.block B (Nat.lt_of_lt_of_le hr.lt hW.size) (TR ho hB))
theorem Hn.step{c:vl}{w wr W w1:ui}{a0 a1 a2 a3:ti}{k b g cap:Nat}{cb:Nat->Nat}{v:ti}
  (hB:Below w.heap.size w wr)(hsz:w.heap.size+3<=wr.heap.size)(r0:Ei wr w.heap.size 4 28 (cells4 a0 a1 a2 a3))
  (r1:Ei wr (w.heap.size+1) 4 28 (cells4 (.slice Ai 0 0) (.slice Ai 0 0) (.slice Ai 0 0) (.slice Ai 0 0)))(r2:Ei wr (w.heap.size+1+1) 4 28 (cells4 v (.slice Ai 0 0) (.slice Ai 0 0) (.slice Ai 0 0)))
  (hi:Ik wr c k (w.heap.size+3) wr.heap.size cb)(ho:wr.ownsRow (w.heap.size+3) 53 3 v k (Jr c cb k))(hp:∀g,v.ownBlock=yi g->∀i,i<k->g≠cb i/\g≠cb i+1)
  (hW:Below wr.heap.size wr W)(hb:wr.heap.size<=b)(Xu:b+2<=W.heap.size)(i1:Yu W (c.Xl k) b (c.Zi k) 4 (c.code k))(i2:Yu W (c.Yl k) (b+1) (c.Vj k) 1 (c.img k))
  (oI:w1.ownsRow (w.heap.size+3) 53 3 (.slice (yi ⟨g,0,Ai⟩) (k+1:Nat) cap) (k+1) (Jr c cb k++[zj (c.Xl k) b (c.Zi k),zj (c.Yl k) (b+1) (c.Vj k),.int .i64 (c.lim k)]))
  (hg:W.grownBy w1 v.ownBlock)(hat:v.ownBlock=yi g\/g=W.heap.size):
  Hn c w a0 a1 a2 a3 (k+1) (w1.setCell ⟨w.heap.size+1+1,0,Ai⟩ (.slice (yi ⟨g,0,Ai⟩) (k+1:Nat) cap)):=by
 have Qh0:=hW.size;have Jk0:=hg.size;have Wi:∀j,v.ownBlock=yi j->w.heap.size+3<=j/\j<wr.heap.size:=ho.lt;have JK:Below w.heap.size w w1:=(hB.trans (hW.mono E0)).grown hg E0 (fun j hj=>by have:=Wi j hj;omega);have TW:∀j,wr.heap.size<=j->yi j≠v.ownBlock:=fun j hj e=>by have:=Wi j e.symm;omega
 have e0:(w1.setCell ⟨w.heap.size+1+1,0,Ai⟩ (.slice (yi ⟨g,0,Ai⟩) (k+1:Nat) cap)).heap.size=w1.heap.size:=size_setCell _ _ _;have KN:∀j,w.heap.size+3<=j->(w1.setCell ⟨w.heap.size+1+1,0,Ai⟩ (.slice (yi ⟨g,0,Ai⟩) (k+1:Nat) cap)).heap[j]?=w1.heap[j]?:=fun j hj=>heap_setCell_other _ _ _ _ A1;refine⟨setAt cb k b,.slice (yi ⟨g,0,Ai⟩) (k+1:Nat) cap,JK.setCell A1 _,by rw[e0];omega,?_,?_,?_,?_,?_,?_⟩
 ·exact(Hn.mid ho hW hg r0 E0).other _ _ A1
 ·exact(Hn.mid ho hW hg r1 E0).other _ _ P0
 ·exact((Hn.mid ho hW hg r2 E0).Vv _).1
 ·rw[e0];have hiW:Ik w1 c k (w.heap.size+3) wr.heap.size cb:=hi.keep (Nat.le_refl _) (fun i yr=>by
   have h1:=hi.lo i yr;have Jj:∀j,(j=cb i\/j=cb i+1)->w1.heap[j]?=wr.heap[j]?:=fun j hj=>by
    rw[hg.block j E0 (fun e=>by have:=hp j e.symm i yr;omega)];exact hW.block j E0
   exact⟨Jj _ (.inl rfl),Jj _ (.inr rfl)⟩)
  have j1:Yu w1 (c.Xl k) b (c.Zi k) 4 (c.code k):=i1.keep (fun _=>hg.block b E0 (TW b hb));have j2:Yu w1 (c.Yl k) (b+1) (c.Vj k) 1 (c.img k):=i2.keep (fun _=>hg.block (b+1) E0 (TW (b+1) E0));refine(hiW.step j1 j2 hb E0 (by omega:b+2<=w1.heap.size)).keep (Nat.le_refl _) (fun i yr=>?_);have hlo:w.heap.size+3<=setAt cb k b i:=by
   unfold setAt;split
   ·rename_i h;exact(hi.lo i h).1
   ·omega
  exact⟨KN _ hlo,KN _ E0⟩
 ·rw[<-xO];exact ownsRow_setCell_below oI P0 _
 ·intro g' yE i yr;simp[Value.ownBlock]at yE;subst yE;unfold setAt;split
  ·rename_i h
   rcases hat with h'|h'
   ·exact hp g h' i h
   ·have:=hi.lo i h;omega
  ·rcases hat with h'|h'
   ·have:=Wi g h';omega
   ·omega
def oy(c:vl)(rb:Nat->Nat)(k:Nat):List Value:=(List.range k).map (fun i=>zj gi (rb i) (c.nRow i))
theorem qT(c:vl)(rb:Nat->Nat)(k b:Nat):oy c rb k++[zj gi b (c.nRow k)]=oy c (setAt rb k b) (k+1):=by
 unfold oy;rw[List.range_succ];simp only[List.map_append,List.map_cons,List.map_nil];have s:setAt rb k b k=b:=by simp[setAt]
 rw[s];congr 1;apply List.map_congr_left;intro j hj;have Vs:j<k:=E2;simp[setAt,Vs]
def Ox(c:vl)(w0:ui)(H:Nat)(v0:ti)(k:Nat)(wr:ui):Prop:=
 ∃rb v,w0.grownBy wr (yi H)/\Ei wr H 4 28 (cells4 v0 v (.slice Ai 0 0) (.slice Ai 0 0))/\(∀i,i<k->Yu wr gi (rb i) (c.nRow i) 2 (c.row i)/\w0.heap.size<=rb i/\rb i<wr.heap.size)/\
  (∀i j,i<j->j<k->rb i<rb j)/\wr.ownsRow w0.heap.size 100 1 v k (oy c rb k)/\∀g,v.ownBlock=yi g->∀i,i<k->g≠rb i
theorem Ox.mid{c:vl}{w0 wr W w1:ui}{H k:Nat}{rb:Nat->Nat}{v v0:ti}(ho:wr.ownsRow w0.heap.size 100 1 v k (oy c rb k))(hW:Below wr.heap.size wr W)(hH:H<w0.heap.size)
  (hg:W.grownBy w1 v.ownBlock)(hr:Ei wr H 4 28 (cells4 v0 v (.slice Ai 0 0) (.slice Ai 0 0))):Ei w1 H 4 28 (cells4 v0 v (.slice Ai 0 0) (.slice Ai 0 0)):=
 (hr.of_heap (hW.block H hr.lt)).of_heap (hg.block H (Nat.lt_of_lt_of_le hr.lt hW.size) (TR ho hH))
theorem Ox.step{c:vl}{w0 wr W w1:ui}{H k b g cap:Nat}{rb:Nat->Nat}{v v0:ti}(hH:H<w0.heap.size)(hB:w0.grownBy wr (yi H))(r:Ei wr H 4 28 (cells4 v0 v (.slice Ai 0 0) (.slice Ai 0 0)))
  (hi:∀i,i<k->Yu wr gi (rb i) (c.nRow i) 2 (c.row i)/\w0.heap.size<=rb i/\rb i<wr.heap.size)(QH:∀i j,i<j->j<k->rb i<rb j)(ho:wr.ownsRow w0.heap.size 100 1 v k (oy c rb k))(hp:∀g,v.ownBlock=yi g->∀i,i<k->g≠rb i)
  (hW:Below wr.heap.size wr W)(hb:wr.heap.size<=b)(Xu:b<W.heap.size)(i1:Yu W gi b (c.nRow k) 2 (c.row k))
  (oI:w1.ownsRow w0.heap.size 100 1 (.slice (yi ⟨g,0,Ai⟩) (k+1:Nat) cap) (k+1) (oy c rb k++[zj gi b (c.nRow k)]))(hg:W.grownBy w1 v.ownBlock)(hat:v.ownBlock=yi g\/g=W.heap.size):
  Ox c w0 H v0 (k+1) (w1.setCell ⟨H,1,Ai⟩ (.slice (yi ⟨g,0,Ai⟩) (k+1:Nat) cap)):=by
 have Qh0:=hW.size;have Jk0:=hg.size;have PW:=hB.size;have Wi:∀j,v.ownBlock=yi j->w0.heap.size<=j/\j<wr.heap.size:=ho.lt;have TW:∀j,wr.heap.size<=j->yi j≠v.ownBlock:=fun j hj e=>by have:=Wi j e.symm;omega
 have e0:(w1.setCell ⟨H,1,Ai⟩ (.slice (yi ⟨g,0,Ai⟩) (k+1:Nat) cap)).heap.size=w1.heap.size:=size_setCell _ _ _;have KN:∀j,j≠H->(w1.setCell ⟨H,1,Ai⟩ (.slice (yi ⟨g,0,Ai⟩) (k+1:Nat) cap)).heap[j]?=w1.heap[j]?:=fun j hj=>heap_setCell_other _ _ _ _ E2;have old:∀j,j<wr.heap.size->yi j≠v.ownBlock->w1.heap[j]?=wr.heap[j]?:=fun j hj Jj=>(hg.block j E0 Jj).trans (hW.block j hj);refine⟨setAt rb k b,.slice (yi ⟨g,0,Ai⟩) (k+1:Nat) cap,?_,((Ox.mid ho hW hH hg r).Vv _).2.1,fun i yr=>?_,fun i j hij hj=>?_,?_,?_⟩
 ·refine grownBy_setCell ⟨(hg.os.trans hW.os).trans hB.os,(hg.tape.trans hW.tape).trans hB.tape,(hg.output.trans hW.output).trans hB.output,E0,fun j hj Jj=>?_⟩ 1 _;rw[old j E0 (fun e=>by have:=Wi j e.symm;omega)];exact hB.block j hj Jj
 ·unfold setAt;split
  ·rename_i h
   obtain⟨h1,h2,h3⟩:=hi i h;refine⟨h1.keep (fun _=>?_),h2,by rw[e0];omega⟩;rw[KN _ E0];exact old _ h3 (fun e=>hp _ e.symm i h rfl)
  ·obtain rfl:i=k:=by omega
   refine⟨i1.keep (fun _=>?_),E0,by rw[e0];omega⟩;rw[KN _ E0];exact hg.block b Xu (TW b hb)
 ·rcases Nat.lt_or_ge j k with hl|hl
  ·simp only[setAt,hl,show i<k by omega,if_true];exact QH i j hij hl
  ·obtain rfl:j=k:=by omega
   simp only[setAt,hij,if_true,Nat.lt_irrefl,if_false];have:=(hi i hij).2.2;omega
 ·rw[<-qT];exact ownsRow_setCell_below oI hH _
 ·intro g' yE i yr;simp[Value.ownBlock]at yE;subst yE;unfold setAt;split
  ·rename_i h
   rcases hat with h'|h'
   ·exact hp g h' i h
   ·have:=(hi i h).2.2;omega
  ·rcases hat with h'|h'
   ·have:=Wi g h';omega
   ·omega
structure vu(w:ui)(c:vl)(B:Nat)(v0 v1 v2 v3:ti):Prop where
 ex:∃(cb rb:Nat->Nat)(hb db:Nat)(p0:Option Addr)(yj:Nat)(p1:Option Addr)(wj hi Ny:Nat),v0=.slice p0 c.nC yj/\c.nC<=yj/\(p0=Ai->c.nC=0/\yj=0)/\Sl w p0 (c.nC*3) (Rm c cb)/\
  v1=.slice p1 c.nT wj/\c.nT<=wj/\(p1=Ai->c.nT=0/\wj=0)/\Sl w p1 c.nT (fun i=>zj gi (rb i) (c.nRow i))/\
  v2=zj c.Jt hb c.qj/\v3=zj c.Ws db c.nD/\Ik w c c.nC B hi cb/\B<=hi/\hi<=Ny/\
  (∀i,i<c.nT->Yu w gi (rb i) (c.nRow i) 2 (c.row i)/\hi<=rb i/\rb i<Ny)/\(∀i j,i<j->j<c.nT->rb i<rb j)/\
  Yu w c.Jt hb c.qj 3 c.ch/\Yu w c.Ws db c.nD 1 c.dv/\(c.Jt=gi->Ny<=hb)/\(c.Ws=gi->Ny<=db)/\(c.Jt=gi->c.Ws=gi->hb<db)
 lo0:∀b,v0.ownBlock=yi b->B<=b
 lo1:∀b,v1.ownBlock=yi b->B<=b
theorem Vx{w:ui}{base e size n:Nat}{v:ti}{F:Nat->ti}(h:w.ownsRow base e size v n ((List.range (n*size)).map F)):
  ∃p cap,v=.slice p n cap/\n<=cap/\(p=Ai->n=0/\cap=0)/\Sl w p (n*size) F:=by
 rcases h.2 with⟨rfl,rfl⟩|⟨g,cap,cur,rfl,hb,hg,hn,_,_,RU⟩
 ·exact⟨Ai,0,rfl,Nat.le_refl _,fun _=>⟨rfl,rfl⟩,.inl P0⟩
 ·refine⟨yi ⟨g,0,Ai⟩,cap,rfl,hn,fun h=>V3,.inr ⟨g,0,rfl,fun j hj=>?_⟩⟩;have:=h.cells (g:=g) rfl j (F j) (by simp[hj]);rw[Addr.add_lit]at this;exact nh
theorem vu.mk'{c:vl}{w w0 wr wF:ui}{cb rb:Nat->Nat}{v v1:ti}{hb db:Nat}(hsz:w.heap.size+3<=w0.heap.size)
  (HI:Ik w0 c c.nC (w.heap.size+3) w0.heap.size cb)(HO:w0.ownsRow (w.heap.size+3) 53 3 v c.nC (Jr c cb c.nC))
  (HG:w0.grownBy wr (yi (w.heap.size+1+1)))(HIr:∀i,i<c.nT->Yu wr gi (rb i) (c.nRow i) 2 (c.row i)/\w0.heap.size<=rb i/\rb i<wr.heap.size)(HOr:∀i j,i<j->j<c.nT->rb i<rb j)
  (zX:wr.ownsRow w0.heap.size 100 1 v1 c.nT (oy c rb c.nT))(hk:∀j,w.heap.size+3<=j->j<wr.heap.size->wF.heap[j]?=wr.heap[j]?)
  (hc:Yu wF c.Jt hb c.qj 3 c.ch)(hd:Yu wF c.Ws db c.nD 1 c.dv)(h1:c.Jt=gi->wr.heap.size<=hb)(h2:c.Ws=gi->wr.heap.size<=db)(h3:c.Jt=gi->c.Ws=gi->hb<db):vu wF c w.heap.size v v1 (zj c.Jt hb c.qj) (zj c.Ws db c.nD):=by
 have Hw:=HG.size;have k0:∀j,w.heap.size+3<=j->j<w0.heap.size->wF.heap[j]?=w0.heap[j]?:=fun j a b=>(hk j a E0).trans (HG.block j b A1);have o1:wF.ownsRow (w.heap.size+3) 53 3 v c.nC (Jr c cb c.nC):=by
  rcases HO.2 with hn|⟨g,cap,cur,hv,IQ,hg,r⟩
  ·exact⟨HO.1,.inl hn⟩
  ·exact⟨HO.1,.inr ⟨g,cap,cur,hv,IQ,by rw[k0 g IQ (Array.getElem?_eq_some_iff.1 hg).1];exact hg,r⟩⟩
 have o2:wF.ownsRow w0.heap.size 100 1 v1 c.nT (oy c rb c.nT):=by
  rcases zX.2 with hn|⟨g,cap,cur,hv,IQ,hg,r⟩
  ·exact⟨zX.1,.inl hn⟩
  ·exact⟨zX.1,.inr ⟨g,cap,cur,hv,IQ,by rw[hk g E0 (Array.getElem?_eq_some_iff.1 hg).1];exact hg,r⟩⟩
 obtain⟨p0,yj,e0,l0,n0,s0⟩:=Vx (F:=Rm c cb) o1;obtain⟨p1,wj,e1,l1,n1,s1⟩:=Vx (F:=fun i=>zj gi (rb i) (c.nRow i)) (n:=c.nT) (size:=1) (by simpa[oy]using o2);refine⟨⟨cb,rb,hb,db,p0,yj,p1,wj,w0.heap.size,wr.heap.size,e0,l0,n0,s0,e1,l1,n1,by simpa using s1,rfl,rfl,?_,E0,Hw,?_,HOr,hc,hd,h1,h2,h3⟩,fun b uk=>by have:=(o1.lt b uk).1;omega,fun b uk=>by have:=(o2.lt b uk).1;omega⟩
 ·have:=HI.keep (w':=wF) (Nat.le_refl _) (fun i hi=>by have:=HI.lo i hi;exact⟨k0 _ E0 E0,k0 _ E0 E0⟩);exact⟨this.code,this.img,fun i hi=>by have:=this.lo i hi;omega,this.ord⟩
 ·intro i hi;obtain⟨a,b,d⟩:=HIr i hi;exact⟨a.keep (fun _=>hk _ E0 d),b,d⟩
theorem kr{w:ui}{base e size n:Nat}{v:ti}{xs:List ti}(h:w.ownsRow base e size v n xs):∃p m cap,v=.slice p m cap:=by
 rcases h.2 with⟨h,_⟩|⟨g,cap,_,h,_⟩
 ·exact⟨_,_,_,h⟩
 ·exact⟨_,_,_,h⟩
theorem CB(w:ui)(g:Nat)(a b c d:ti)(j:Nat)(hj:j≠g):((((w.setCell ⟨g,0,Ai⟩ a).setCell ⟨g,1,Ai⟩ b).setCell ⟨g,2,Ai⟩ c).setCell ⟨g,3,Ai⟩ d).heap[j]?=w.heap[j]?:=by
 rw[heap_setCell_other _ _ _ _ E2,heap_setCell_other _ _ _ _ E2,heap_setCell_other _ _ _ _ E2,heap_setCell_other _ _ _ _ E2]
theorem dy{B:Nat}{w0 w:ui}(h:Below B w0 w){g:Nat}(hg:B<=g)(a b c d:ti):Below B w0 ((((w.setCell ⟨g,0,Ai⟩ a).setCell ⟨g,1,Ai⟩ b).setCell ⟨g,2,Ai⟩ c).setCell ⟨g,3,Ai⟩ d):=
 (((h.setCell hg _).setCell hg _).setCell hg _).setCell hg _
theorem Yt:(prog.info? 28).map (·.size)=yi 4:=J0
theorem qP(c:vl)(v0 v1 v2 v3:ti)(w:ui)(h:Bq w v0 v1 v2 v3 c):
  Calls prog 36 #[.agg #[v0,v1,v2,v3]] w fun e w'=>∃x0 x1 x2 x3,e=.returned (.agg #[x0,x1,x2,x3])/\vu w' c w.heap.size x0 x1 x2 x3/\Below w.heap.size w w':=by
 obtain⟨⟨p0,yj,F0,rfl,-,n0,z0,b0,s0,k0⟩,⟨p1,wj,F1,rfl,-,n1,z1,b1,s1,k1⟩,⟨p2,cap2,rfl,-,n2,z2,b2,s2⟩,⟨p3,nk,rfl,-,n3,z3,b3,s3⟩⟩:=h;refine La fun S0 K0=>?_;refine Xb fun S1 K1 S2=>?_;have S3:Hid (Sl w p3 (c.nD*1) (fun j=>.int .i64 (c.dv j))):=s3;have hb0:c.nC<=2513169434916:=E0;have Zs:c.nT<=5864062014805:=E0;refine vf fun Xu JR=>?_;have HN:Hid ((p2=Ai↔c.Jt=ji)/\(p2=Ai->c.qj=0/\cap2=0)/\(p3=Ai↔c.Ws=ji)/\(p3=Ai->c.nD=0/\nk=0)):=⟨n2,z2,n3,z3⟩;have B0:Hid (56*c.nC<=140737488355328):=b0;have B1:Hid (24*c.nT<=140737488355328):=b1;have B2:Hid (24*c.qj<=140737488355328):=b2;have B3:Hid (8*c.nD<=140737488355328):=b3;clear s0 k0 s1 k1 s2 s3 b0 b1 b2 b3 n0 z0 n1 z1 n2 z2 n3 z3
 go_enter func36,ntmps36
 go_wp2_with fail
 go_loopw [4] (fun i wr=>∃k:Nat,k<=c.nC/\i=.int .i64 k/\Hid (Hn c w (.slice p0 c.nC yj) (.slice p1 c.nT wj) (.slice p2 c.qj cap2) (.slice p3 c.nD nk) k wr)) (fun i _=>c.nC-(intOf i).toNat)
 case atStart=>
  refine⟨0,Nat.zero_le _,rfl,fun _=>0,.slice Ai 0 0,(((Below.refl _ _).alloc (Nat.le_refl _) _).alloc P0 _).alloc A1 _,P0,((row4 _ _ _ _ _ _).alloc _).alloc _,?_,?_,Ik.zero _ _ _ _ _,World.ownsRow_nil _ _ _ _,V4⟩
  ·have:=(row4 (w.alloc (.cells #[.slice p0 c.nC yj,.slice p1 c.nT wj,.slice p2 c.qj cap2,.slice p3 c.nD nk] 28)) (.slice Ai 0 0) (.slice Ai 0 0) (.slice Ai 0 0) (.slice Ai 0 0) 28).alloc (.cells #[.slice Ai 0 0,.slice Ai 0 0,.slice Ai 0 0,.slice Ai 0 0] 28);exact Yc
  ·have:=row4 ((w.alloc (.cells #[.slice p0 c.nC yj,.slice p1 c.nT wj,.slice p2 c.qj cap2,.slice p3 c.nD nk] 28)).alloc (.cells #[.slice Ai 0 0,.slice Ai 0 0,.slice Ai 0 0,.slice Ai 0 0] 28)) (.slice Ai 0 0) (.slice Ai 0 0) (.slice Ai 0 0) (.slice Ai 0 0) 28;exact Yc
 case round=>
  obtain⟨k,hk,rfl,HL⟩:=hrel;obtain⟨cb,v,hB,hsz,r0,r1,r2,Pm,rj,AV⟩:=HL.out;obtain⟨x0,x1,x2,x3⟩:=r0.at4;obtain⟨y0,y1,y2,y3⟩:=r2.at4;have y0f:=r2.frozen 0;have hl0:w.heap.size<wr.heap.size:=E0;have hl1:w.heap.size+1<wr.heap.size:=E0;have YU:w.heap.size+1+1<wr.heap.size:=E0;have HB:Hid (Below w.heap.size w wr):=hB;have R0:Hid (Ei wr w.heap.size 4 28 (cells4 (.slice p0 c.nC yj) (.slice p1 c.nT wj) (.slice p2 c.qj cap2) (.slice p3 c.nD nk))):=r0;have R1:Hid (Ei wr (w.heap.size+1) 4 28 (cells4 (.slice Ai 0 0) (.slice Ai 0 0) (.slice Ai 0 0) (.slice Ai 0 0))):=r1;have R2:Hid (Ei wr (w.heap.size+1+1) 4 28 (cells4 v (.slice Ai 0 0) (.slice Ai 0 0) (.slice Ai 0 0))):=r2;have HI:Hid (Ik wr c k (w.heap.size+3) wr.heap.size cb):=Pm;have HO:Hid (wr.ownsRow (w.heap.size+3) 53 3 v k (Jr c cb k)):=rj;have HP:Hid (∀g,v.ownBlock=yi g->∀i,i<k->g≠cb i/\g≠cb i+1):=AV;clear hB r0 r1 r2 Pm rj AV HL;by_cases Wi:k<c.nC
  ·obtain⟨b,off,rfl,hc⟩:=(S0.out.below HB.out).at E0;refine Ta fun c0 c1 c2=>?_;refine Fg fun yo=>?_;have z_:b<w.heap.size:=by
    obtain⟨b',md0,e,Iy⟩:=S0.out.at E0;simp only[Option.some.injEq,Addr.mk.injEq]at e;have:=block_lt_of_cell (Iy 0 E0);simp only at this;omega
   rw[<-Nat.add_assoc]at c1 c2;clear hc;obtain⟨⟨pc,Zr,FU,-,nc,zc,bc,sc⟩,⟨pi,Yw,hF1,-,ni,zi,bi,si⟩,ql⟩:=K0.out k Wi;rw[FU]at c0;rw[hF1]at c1;rw[ql]at c2;have hnc:c.Zi k<=4398046511104:=E0;have hni:c.Vj k<=17592186044416:=E0;have SC:Hid (Sl w pc (c.Zi k*4) (fun j=>.int .i64 (c.code k j))):=sc;have SI:Hid (Sl w pi (c.Vj k) (fun j=>.int .i64 (c.img k j))):=by show Sl _ _ _ _;simpa using si
   have BC:Hid (32*c.Zi k<=140737488355328):=bc;have BI:Hid (8*c.Vj k<=140737488355328):=bi;clear FU hF1 ql sc si bc bi;cases pc with
   |none=>
    obtain⟨SJ,rfl⟩:=zc rfl;have KA:=nc.1 rfl;rw[SJ]at c0;clear zc nc;have HN1:Hid (c.Xl k=ji/\c.Zi k=0):=⟨KA,SJ⟩;clear KA SJ;cases pi with
    |none=>
     obtain⟨SJ,rfl⟩:=zi rfl;have KA:=ni.1 rfl;rw[SJ]at c1;clear zi ni;have OC:Hid (c.Yl k=ji/\c.Vj k=0):=⟨KA,SJ⟩;clear KA SJ;go_wp2_with (at_builtin;refine kj _ rfl _ _ 23 rfl (w.heap.size+3) 53 _ 3 56 underlying23 Wu rfl E0 v k (Jr c cb k) rfl ((HO.out.alloc _).alloc _) (wr.heap.size+1) [.slice Ai 0 0,.slice Ai 0 0,.int .i64 (c.lim k)] 53 rfl rfl (heap_alloc2_new _ _ _) D2 Y1 U5 A1 ?_);intro g cap w1 Oj Ti hat zo;have z0:=(Hn.mid HO.out (((Below.refl _ _).alloc (Nat.le_refl _) _).alloc P0 _) Ti R2.out E0).at4;have z0f:=(Hn.mid HO.out (((Below.refl _ _).alloc (Nat.le_refl _) _).alloc P0 _) Ti R2.out E0).frozen 0;obtain⟨z0,-,-,-⟩:=z0;have HF:Hid (Hn c w (.slice (yi ⟨b,off,Ai⟩) c.nC yj) (.slice p1 c.nT wj) (.slice p2 c.qj cap2) (.slice p3 c.nD nk) (k+1) (w1.setCell ⟨w.heap.size+1+1,0,Ai⟩ (.slice (yi ⟨g,0,Ai⟩) (k+1:Nat) cap))):=
      Hn.step (b:=wr.heap.size) HB.out E0 R0.out R1.out R2.out HI.out HO.out HP.out (((Below.refl _ _).alloc (Nat.le_refl _) _).alloc P0 _) (Nat.le_refl _) P0 (fun h=>by rw[HN1.out.1]at h;cases h) (fun h=>by rw[OC.out.1]at h;cases h) (by simpa[zj,HN1.out.1,OC.out.1]using Oj) Ti (by simpa using hat)
     clear Oj Ti hat zo;go_wp2_with fail;exact⟨⟨k+1,E0,J1,HF⟩,U1⟩
    |some q=>
     obtain⟨bq,oq,sq⟩:=q;have KA:c.Yl k=false:=by
      cases h:c.Yl k
      ·rfl
      ·exact absurd (ni.2 h) P0
     have OC:Hid (c.Yl k=gi):=KA;clear zi ni KA;go_wp2_with fail;refine(Bz (yi ⟨bq,oq,sq⟩) (c.Vj k) Yw (c.img k) _ ((SI.out.below HB.out).below ((Below.refl _ _).alloc (Nat.le_refl _) _)) P0 BI.out).mono ?_;rintro e wA ⟨rfl,ov,dm,Jp⟩;obtain⟨hcA,hfA⟩:=D10 dm;have Ey:Hid (Below wr.heap.size wr wA):=Yr dm;have HRA:Hid (Ei wA (wr.heap.size+1) ((c.Vj k+2)*1) 2 (fun j=>.int .i64 (Pj 1 (c.Vj k) (c.img k) j))):=by show Ei _ _ _ _ _;simpa using Jp
     have IB:wA.heap.size=wr.heap.size+1+1:=by simpa using ov
     clear dm Jp ov;go_wp2_with (at_builtin;refine kj _ rfl _ _ 23 rfl (w.heap.size+3) 53 _ 3 56 underlying23 Wu rfl E0 v k (Jr c cb k) rfl A8 (wr.heap.size+1+1) [.slice Ai 0 0,.slice (yi ⟨wr.heap.size+1,0,Ai⟩) (c.Vj k) (c.Vj k+2:Nat),.int .i64 (c.lim k)] 53 rfl rfl (by exact alloc_at Y3) D2 Y1 U5 A1 ?_);intro g cap w1 Oj Ti hat zo;have CU:Hid (Below wr.heap.size wr _):=(Ey.out.setCell (p:=⟨wr.heap.size,1,Ai⟩) (Nat.le_refl _) (.slice (yi ⟨wr.heap.size+1,0,Ai⟩) (c.Vj k) (c.Vj k+2:Nat))).alloc Y3 (.cells #[.slice Ai 0 0,.slice (yi ⟨wr.heap.size+1,0,Ai⟩) (c.Vj k) (c.Vj k+2:Nat),.int .i64 (c.lim k)] 53);obtain⟨z0,-,-,-⟩:=(Hn.mid HO.out CU.out Ti R2.out E0).at4;have z0f:=(Hn.mid HO.out CU.out Ti R2.out E0).frozen 0;have HF:Hid (Hn c w (.slice (yi ⟨b,off,Ai⟩) c.nC yj) (.slice p1 c.nT wj) (.slice p2 c.qj cap2) (.slice p3 c.nD nk) (k+1) (w1.setCell ⟨w.heap.size+1+1,0,Ai⟩ (.slice (yi ⟨g,0,Ai⟩) (k+1:Nat) cap))):=
      Hn.step (b:=wr.heap.size) HB.out E0 R0.out R1.out R2.out HI.out HO.out HP.out CU.out (Nat.le_refl _) A1 (fun h=>by rw[HN1.out.1]at h;cases h) (fun _=>⟨_,(HRA.out.other _ _ P0).alloc _⟩) (by simpa[zj,HN1.out.1,OC.out]using Oj) Ti (by simpa[IB]using hat)
     clear Oj Ti hat zo CU;go_wp2_with fail;exact⟨⟨k+1,E0,J1,HF⟩,U1⟩
   |some q=>
    obtain⟨bq,oq,sq⟩:=q;have KA:c.Xl k=false:=by
     cases h:c.Xl k
     ·rfl
     ·exact absurd (nc.2 h) P0
    have HN1:Hid (c.Xl k=gi):=KA;clear zc nc KA;cases pi with
    |none=>
     obtain⟨SJ,rfl⟩:=zi rfl;have KA:=ni.1 rfl;rw[SJ]at c1;clear zi ni;have OC:Hid (c.Yl k=ji/\c.Vj k=0):=⟨KA,SJ⟩;clear KA SJ;go_wp2_with fail;refine yf ?_;rintro e wA ⟨rfl,ov,dm,Jp⟩;obtain⟨hcA,hfA⟩:=D10 dm;have Ey:Hid (Below wr.heap.size wr wA):=Yr dm;have HRA:Hid (Ei wA (wr.heap.size+1) ((c.Zi k+2)*4) 97 (fun j=>.int .i64 (Pj 4 (c.Zi k) (c.code k) j))):=by show Ei _ _ _ _ _;simpa using Jp
     have IB:wA.heap.size=wr.heap.size+1+1:=by simpa using ov
     clear dm Jp ov;go_wp2_with (at_builtin;refine kj _ rfl _ _ 23 rfl (w.heap.size+3) 53 _ 3 56 underlying23 Wu rfl E0 v k (Jr c cb k) rfl A8 (wr.heap.size+1+1) [.slice (yi ⟨wr.heap.size+1,0,Ai⟩) (c.Zi k) (c.Zi k+2:Nat),.slice Ai 0 0,.int .i64 (c.lim k)] 53 rfl rfl (by exact alloc_at Y3) D2 Y1 U5 A1 ?_);intro g cap w1 Oj Ti hat zo;have CU:Hid (Below wr.heap.size wr _):=(Ey.out.setCell (p:=⟨wr.heap.size,0,Ai⟩) (Nat.le_refl _) (.slice (yi ⟨wr.heap.size+1,0,Ai⟩) (c.Zi k) (c.Zi k+2:Nat))).alloc Y3 (.cells #[.slice (yi ⟨wr.heap.size+1,0,Ai⟩) (c.Zi k) (c.Zi k+2:Nat),.slice Ai 0 0,.int .i64 (c.lim k)] 53);obtain⟨z0,-,-,-⟩:=(Hn.mid HO.out CU.out Ti R2.out E0).at4;have z0f:=(Hn.mid HO.out CU.out Ti R2.out E0).frozen 0;have HF:Hid (Hn c w (.slice (yi ⟨b,off,Ai⟩) c.nC yj) (.slice p1 c.nT wj) (.slice p2 c.qj cap2) (.slice p3 c.nD nk) (k+1) (w1.setCell ⟨w.heap.size+1+1,0,Ai⟩ (.slice (yi ⟨g,0,Ai⟩) (k+1:Nat) cap))):=
      Hn.step (b:=wr.heap.size+1) HB.out E0 R0.out R1.out R2.out HI.out HO.out HP.out CU.out E0 A1 (fun _=>⟨_,(HRA.out.other _ _ P0).alloc _⟩) (fun h=>by rw[OC.out.1]at h;cases h) (by simpa[zj,HN1.out,OC.out.1]using Oj) Ti (by simpa[IB]using hat)
     clear Oj Ti hat zo CU;go_wp2_with fail;exact⟨⟨k+1,E0,J1,HF⟩,U1⟩
    |some q=>
     obtain⟨bi,oi,si'⟩:=q;have KA:c.Yl k=false:=by
      cases h:c.Yl k
      ·rfl
      ·exact absurd (ni.2 h) P0
     have OC:Hid (c.Yl k=gi):=KA;clear zi ni KA;go_wp2_with fail;refine yf ?_;rintro e wA ⟨rfl,ov,dm,Jp⟩;obtain⟨hcA,hfA⟩:=D10 dm;have Ey:Hid (Below wr.heap.size wr wA):=Yr dm;have HXA:Hid (Ei wA wr.heap.size 3 53 (cells3 (.slice Ai 0 0) (.slice Ai 0 0) (.int .i64 (c.lim k)))):=(row3 wr _ _ _ _).below dm P0;have HRA:Hid (Ei wA (wr.heap.size+1) ((c.Zi k+2)*4) 97 (fun j=>.int .i64 (Pj 4 (c.Zi k) (c.code k) j))):=by show Ei _ _ _ _ _;simpa using Jp
     have IB:wA.heap.size=wr.heap.size+1+1:=by simpa using ov
     clear dm Jp ov;go_wp2_with fail;have HBB:Hid (Below wr.heap.size wr (wA.setCell ⟨wr.heap.size,0,Ai⟩ (.slice (yi ⟨wr.heap.size+1,0,Ai⟩) (c.Zi k) (c.Zi k+2:Nat)))):=Ey.out.setCell (Nat.le_refl _) _;refine(Bz (yi ⟨bi,oi,si'⟩) (c.Vj k) Yw (c.img k) _ ((SI.out.below HB.out).below HBB.out) P0 BI.out).mono ?_;rintro e wB ⟨rfl,Qc0,QU,E70⟩;have QB:Hid (Below wr.heap.size wr wB):=HBB.out.trans (QU.mono HBB.out.size);have HRB:Hid (Ei wB (wr.heap.size+1+1) ((c.Vj k+2)*1) 2 (fun j=>.int .i64 (Pj 1 (c.Vj k) (c.img k) j))):=by show Ei _ _ _ _ _;simpa[IB]using E70
     have Nj0:Hid (Ei wB (wr.heap.size+1) ((c.Zi k+2)*4) 97 (fun j=>.int .i64 (Pj 4 (c.Zi k) (c.code k) j))):=(HRA.out.other _ _ P0).below QU (by simp[IB]);have qc0:wB.heap.size=wr.heap.size+1+1+1:=by simpa[IB]using Qc0
     have HXB:Hid (Ei wB wr.heap.size 3 53 (cells3 (.slice (yi ⟨wr.heap.size+1,0,Ai⟩) (c.Zi k) (c.Zi k+2:Nat)) (.slice Ai 0 0) (.int .i64 (c.lim k)))):=(HXA.out.mR _).1.below QU (by simp[IB];omega);obtain⟨q0,q1,q2⟩:=HXB.out.at3;have q1f:=HXB.out.frozen 1;have q3:=(QB.out.cell (p:=⟨w.heap.size,0,Ai⟩) hl0).trans x0;have q4:=(QB.out.cell (p:=⟨w.heap.size+1+1,0,Ai⟩) YU).trans y0;have q4f:=(QB.out.frozen (p:=⟨w.heap.size+1+1,0,Ai⟩) YU).trans y0f;have q5:=(QB.out.cell (p:=⟨b,off+k*3+1,Ai⟩) yo).trans c1;have gq0:w.heap.size<wB.heap.size:=E0;have Vo0:w.heap.size+1+1<wB.heap.size:=E0;have Pj0:b<wB.heap.size:=E0;have hX':wr.heap.size<wB.heap.size:=E0;clear QU E70 Qc0 HRA hcA hfA x0 x1 x2 x3 y0 y1 y2 y3 y0f c0 c1 c2;go_wp2_with (at_builtin;refine kj _ rfl _ _ 23 rfl (w.heap.size+3) 53 _ 3 56 underlying23 Wu rfl E0 v k (Jr c cb k) rfl (by exact own_below HO.out ((QB.out.setCell (Nat.le_refl _) _).alloc Y3 _)) (wr.heap.size+1+1+1) [.slice (yi ⟨wr.heap.size+1,0,Ai⟩) (c.Zi k) (c.Zi k+2:Nat),.slice (yi ⟨wr.heap.size+1+1,0,Ai⟩) (c.Vj k) (c.Vj k+2:Nat),.int .i64 (c.lim k)] 53 rfl rfl (by exact alloc_at Y3) D2 Y1 U5 A1 ?_);intro g cap w1 Oj Ti hat zo;have CU:Hid (Below wr.heap.size wr _):=(QB.out.setCell (p:=⟨wr.heap.size,1,Ai⟩) (Nat.le_refl _) (.slice (yi ⟨wr.heap.size+1+1,0,Ai⟩) (c.Vj k) (c.Vj k+2:Nat))).alloc Y3 (.cells #[.slice (yi ⟨wr.heap.size+1,0,Ai⟩) (c.Zi k) (c.Zi k+2:Nat),.slice (yi ⟨wr.heap.size+1+1,0,Ai⟩) (c.Vj k) (c.Vj k+2:Nat),.int .i64 (c.lim k)] 53);obtain⟨z0,-,-,-⟩:=(Hn.mid HO.out CU.out Ti R2.out E0).at4;have z0f:=(Hn.mid HO.out CU.out Ti R2.out E0).frozen 0;have HF:Hid (Hn c w (.slice (yi ⟨b,off,Ai⟩) c.nC yj) (.slice p1 c.nT wj) (.slice p2 c.qj cap2) (.slice p3 c.nD nk) (k+1) (w1.setCell ⟨w.heap.size+1+1,0,Ai⟩ (.slice (yi ⟨g,0,Ai⟩) (k+1:Nat) cap))):=
      Hn.step (b:=wr.heap.size+1) HB.out E0 R0.out R1.out R2.out HI.out HO.out HP.out CU.out E0 A1 (fun _=>⟨_,(Nj0.out.other _ _ P0).alloc _⟩) (fun _=>⟨_,(HRB.out.other _ _ A1).alloc _⟩) (by simpa[zj,HN1.out,OC.out]using Oj) Ti (by simpa[qc0]using hat)
     clear Oj Ti hat zo CU;go_wp2_with fail;exact⟨⟨k+1,E0,J1,HF⟩,U1⟩
  ·obtain rfl:k=c.nC:=by omega
   clear Wi hk;revert HP HO HI R2 R1 R0 HB YU hl1 hl0 y0f y3 y2 y1 y0 x3 x2 x1 x0 hsz;revert wr;intro w0 hsz x0 x1 x2 x3 y0 y1 y2 y3 y0f hl0 hl1 YU HB R0 R1 R2 HI HO HP;go_wp2_with fail;go_loopw [8] (fun i wr=>∃k:Nat,k<=c.nT/\i=.int .i64 k/\Hid (Ox c w0 (w.heap.size+1+1) v k wr)) (fun i _=>c.nT-(intOf i).toNat)
   case atStart=>exact⟨0,Nat.zero_le _,rfl,fun _=>0,.slice Ai 0 0,World.grownBy.refl _ _,R2.out,fun i hi=>absurd hi E0,fun i j _ hj=>absurd hj E0,World.ownsRow_nil _ _ _ _,V4⟩
   case round=>
    obtain⟨k,hk,rfl,HL⟩:=hrel;obtain⟨rb,v1,hB,r2,Pm,QH,rj,AV⟩:=HL.out;obtain⟨z0,z1,z2,z3⟩:=r2.at4;have z1f:=r2.frozen 1;have Hw:w0.heap.size<=wr.heap.size:=hB.size;have m0:wr.cell? ⟨w.heap.size,0,Ai⟩=yi (.slice p0 c.nC yj):=hB.cell x0 A1;have m1:wr.cell? ⟨w.heap.size,1,Ai⟩=yi (.slice p1 c.nT wj):=hB.cell x1 A1;have m2:wr.cell? ⟨w.heap.size,2,Ai⟩=yi (.slice p2 c.qj cap2):=hB.cell x2 A1;have m3:wr.cell? ⟨w.heap.size,3,Ai⟩=yi (.slice p3 c.nD nk):=hB.cell x3 A1;have HG:Hid (w0.grownBy wr (yi (w.heap.size+1+1))):=hB;have R2r:Hid (Ei wr (w.heap.size+1+1) 4 28 (cells4 v v1 (.slice Ai 0 0) (.slice Ai 0 0))):=r2;have HIr:Hid (∀i,i<k->Yu wr gi (rb i) (c.nRow i) 2 (c.row i)/\w0.heap.size<=rb i/\rb i<wr.heap.size):=Pm;have HOr:Hid (∀i j,i<j->j<k->rb i<rb j):=QH;have zX:Hid (wr.ownsRow w0.heap.size 100 1 v1 k (oy c rb k)):=rj;have HPr:Hid (∀g,v1.ownBlock=yi g->∀i,i<k->g≠rb i):=AV;have j_:Hid (Below w.heap.size w wr):=HB.out.trans ⟨hB.os,hB.tape,hB.output,hB.size,fun j hj=>hB.block j E0 A1⟩;have PW:w.heap.size<wr.heap.size:=E0;have hw2:w.heap.size+1+1<wr.heap.size:=E0;clear hB r2 Pm QH rj AV HL;by_cases Wi:k<c.nT
    ·obtain⟨b,off,rfl,hc⟩:=(S1.out.below j_.out).at E0;have c0:=hc k Wi;refine Fg fun yo=>?_;clear hc;obtain⟨pr,JI,hF,-,-,zr,br,sr⟩:=K1.out k Wi;rw[hF]at c0;have SR:Hid (Sl w pr (c.nRow k*2) (fun j=>.int .i64 (c.row k j))):=sr;have BR:Hid (16*c.nRow k<=140737488355328):=br;have ZR:Hid (pr=Ai->c.nRow k=0):=fun h=>(zr h).1;have hnr:c.nRow k<=8796093022208:=by omega
     clear hF sr br zr;go_wp2_with fail;refine(WE pr (c.nRow k) JI (c.row k) _ (SR.out.below j_.out) ZR.out BR.out).mono ?_;rintro e wA ⟨rfl,ov,dm,Jp⟩;have Ey:Hid (Below wr.heap.size wr wA):=dm;have HRA:Hid (Ei wA wr.heap.size ((c.nRow k+2)*2) 102 (fun j=>.int .i64 (Pj 2 (c.nRow k) (c.row k) j))):=Jp;have q1:=(Ey.out.cell (p:=⟨w.heap.size,1,Ai⟩) PW).trans m1;have q2:=(Ey.out.cell (p:=⟨w.heap.size+1+1,1,Ai⟩) hw2).trans z1;have q2f:=(Ey.out.frozen (p:=⟨w.heap.size+1+1,1,Ai⟩) hw2).trans z1f;have q3:=(Ey.out.cell (p:=⟨b,off+k,Ai⟩) yo).trans c0;have Lr0:w.heap.size<wA.heap.size:=E0;have kp0:w.heap.size+1+1<wA.heap.size:=E0;have Pj0:b<wA.heap.size:=E0;have Ir:Hid (wA.heap.size=wr.heap.size+1):=ov;have hwA:wr.heap.size<=wA.heap.size:=E0;clear dm Jp ov m0 m1 m2 m3 z0 z1 z2 z3 z1f c0;go_wp2_with fail;have Ud0:(c.nRow k:Int)<=(c.nRow k:Int)+2:=E0;have CQ:Hid (∀o,Below wr.heap.size wr (wA.drew.alloc o)):=fun o=>Ey.out.drew.alloc (by show _<=wA.heap.size;have:=Ir.out;omega) _
     go_region_law (refine Ek rfl _ _ 24 rfl w0.heap.size 100 _ 1 24 underlying24 AB rfl E0 v1 k (oy c rb k) rfl (by exact own_below zX.out (CQ.out _)) wA.heap.size [.slice (yi ⟨wr.heap.size,0,Ai⟩) (c.nRow k) (c.nRow k+2:Nat)] 100 rfl rfl J2 D2 Y1 (by have:=B1.out;omega) A1 ?_;intro g cap w1 Oj Ti hat zo;obtain⟨-,u1,-,-⟩:=(Ox.mid zX.out (CQ.out _) E0 Ti R2r.out).at4;have u1f:=(Ox.mid zX.out (CQ.out _) E0 Ti R2r.out).frozen 1)
     all_goals
      have HF:Hid (Ox c w0 (w.heap.size+1+1) v (k+1) (w1.setCell ⟨w.heap.size+1+1,1,Ai⟩ (.slice (yi ⟨g,0,Ai⟩) (k+1:Nat) cap))):=
       Ox.step (b:=wr.heap.size) E0 HG.out R2r.out HIr.out HOr.out zX.out HPr.out (CQ.out _) (Nat.le_refl _) (by simp;have:=Ir.out;omega) (fun _=>⟨_,Ei.alloc (w:=wA.drew) HRA.out _⟩) (by simpa[zj]using Oj) Ti (by simpa using hat)
      clear Oj Ti hat zo;go_wp2_with fail;exact⟨⟨k+1,E0,J1,HF⟩,U1⟩
    ·obtain rfl:k=c.nT:=by omega
     clear Wi hk;obtain⟨n2,zz2,n3,FQ⟩:=HN.out;obtain⟨pv,mv,cv,rfl⟩:=kr HO.out;obtain⟨pu,mu,cu,rfl⟩:=kr zX.out;have RR1:Hid (Ei wr (w.heap.size+1) 4 28 (cells4 (.slice Ai 0 0) (.slice Ai 0 0) (.slice Ai 0 0) (.slice Ai 0 0))):=R1.out.of_heap (HG.out.block _ E0 P0);have zB:w.heap.size+1<wr.heap.size:=E0;obtain⟨t0,t1,t2,t3⟩:=RR1.out.at4;have t0f:=RR1.out.frozen 0;have t1f:=RR1.out.frozen 1;have t2f:=RR1.out.frozen 2;have t3f:=RR1.out.frozen 3;have z2f:=R2r.out.frozen 2;have z3f:=R2r.out.frozen 3;have R0r:Hid (Ei wr w.heap.size 4 28 (cells4 (.slice p0 c.nC yj) (.slice p1 c.nT wj) (.slice p2 c.qj cap2) (.slice p3 c.nD nk))):=R0.out.of_heap (HG.out.block _ E0 A1);have S3':Hid (Sl w p3 c.nD (fun j=>.int .i64 (c.dv j))):=by show Sl _ _ _ _;have h:=S3.out;rwa [Nat.mul_one]at h
     cases p2 with
     |none=>
      obtain⟨Bn,rfl⟩:=zz2 rfl;have OC:Hid (c.Jt=ji):=n2.1 rfl;rw[Bn]at m2;clear zz2 n2 Bn;cases p3 with
      |none=>
       obtain⟨AH,rfl⟩:=FQ rfl;have LJ:Hid (c.Ws=ji):=n3.1 rfl;rw[AH]at m3;clear FQ n3 AH;go_wp2_with fail;have kN:=ox ((((RR1.out.Vv (.slice pv mv cv)).1.Vv (.slice pu mu cu)).2.1.Vv (.slice Ai 0 0)).2.2.1.Vv (.slice Ai 0 0)).2.2.2;refine bodyPost_ret (results_cell_row (P:=prog) rfl _ _ (w.heap.size+1) 28 #[.slice pv mv cv,.slice pu mu cu,.slice Ai 0 0,.slice Ai 0 0] (0,0) _ rfl kN underlying28 rfl Yt) rfl ?_;have gU:=vu.mk' (w:=w) (wr:=wr) (wF:=((((wr).setCell ⟨w.heap.size+1,0,Ai⟩ (.slice pv mv cv)).setCell ⟨w.heap.size+1,1,Ai⟩ (.slice pu mu cu)).setCell ⟨w.heap.size+1,2,Ai⟩ (.slice Ai 0 0)).setCell ⟨w.heap.size+1,3,Ai⟩ (.slice Ai 0 0)) (hb:=wr.heap.size) (db:=wr.heap.size+1) E0 HI.out HO.out HG.out HIr.out HOr.out zX.out (fun j h1 h2=>by rw[CB _ _ _ _ _ _ j E0]) (fun h=>by rw[OC.out]at h;cases h) (fun h=>by rw[LJ.out]at h;cases h) (fun _=>E0) (fun _=>E0) (fun _ _=>E0);exact⟨_,_,_,_,rfl,V5,dy (j_.out) E0 _ _ _ _⟩
      |some q=>
       obtain⟨bq3,oq3,sq3⟩:=q;have LJ:Hid (c.Ws=gi):=by
        show _=_;cases h:c.Ws
        ·rfl
        ·exact absurd (n3.2 h) P0
       clear FQ n3;go_wp2_with fail;refine(dC (yi ⟨bq3,oq3,sq3⟩) c.nD nk c.dv _ (S3'.out.below j_.out) P0 B3.out).mono ?_;rintro e wD ⟨rfl,cX,JE,YJ⟩;have HBD:Hid (Below wr.heap.size wr wD):=JE;have We0:wD.heap.size=wr.heap.size+1:=cX;have HRD:Hid (Ei wD wr.heap.size ((c.nD+2)*1) 3 (fun j=>.int .i64 (Pj 1 c.nD c.dv j))):=YJ;have R2D:=R2r.out.below JE E0;have aU:=RR1.out.below JE E0;have R0D:=R0r.out.below JE E0;clear JE YJ cX m0 m1 m2 m3 z0 z1 z2 z3 z1f t0 t1 t2 t3 t0f t1f t2f t3f z2f z3f;obtain⟨m0,m1,m2,m3⟩:=R0D.at4;obtain⟨z0,z1,z2,z3⟩:=R2D.at4;obtain⟨t0,t1,t2,t3⟩:=aU.at4;have z3f:=R2D.frozen 3;have t0f:=aU.frozen 0;have t1f:=aU.frozen 1;have t2f:=aU.frozen 2;have t3f:=aU.frozen 3;have RF:Hid (Ei (wD.setCell ⟨w.heap.size+1+1,3,Ai⟩ (.slice (yi ⟨wr.heap.size,0,Ai⟩) c.nD (c.nD+2:Nat))) (w.heap.size+1) 4 28 (cells4 (.slice Ai 0 0) (.slice Ai 0 0) (.slice Ai 0 0) (.slice Ai 0 0))):=aU.other _ _ P0;clear R0D R2D aU;go_wp2_with fail;have kN:=ox ((((RF.out.Vv (.slice pv mv cv)).1.Vv (.slice pu mu cu)).2.1.Vv (.slice Ai 0 0)).2.2.1.Vv (.slice (yi ⟨wr.heap.size,0,Ai⟩) c.nD (c.nD+2:Nat))).2.2.2;refine bodyPost_ret (results_cell_row (P:=prog) rfl _ _ (w.heap.size+1) 28 #[.slice pv mv cv,.slice pu mu cu,.slice Ai 0 0,.slice (yi ⟨wr.heap.size,0,Ai⟩) c.nD (c.nD+2:Nat)] (0,0) _ rfl kN underlying28 rfl Yt) rfl ?_;have gU:=vu.mk' (w:=w) (wr:=wr) (wF:=((((wD.setCell ⟨w.heap.size+1+1,3,Ai⟩ (.slice (yi ⟨wr.heap.size,0,Ai⟩) c.nD (c.nD+2:Nat))).setCell ⟨w.heap.size+1,0,Ai⟩ (.slice pv mv cv)).setCell ⟨w.heap.size+1,1,Ai⟩ (.slice pu mu cu)).setCell ⟨w.heap.size+1,2,Ai⟩ (.slice Ai 0 0)).setCell ⟨w.heap.size+1,3,Ai⟩ (.slice (yi ⟨wr.heap.size,0,Ai⟩) c.nD (c.nD+2:Nat))) (hb:=wr.heap.size) (db:=wr.heap.size) E0 HI.out HO.out HG.out HIr.out HOr.out zX.out (fun j h1 h2=>by rw[CB _ _ _ _ _ _ j E0];rw[heap_setCell_other _ _ _ _ A1];exact HBD.out.block j h2) (fun h=>by rw[OC.out]at h;cases h) (fun _=>⟨_,(((((HRD.out.other _ _ A1).other _ _ A1).other _ _ A1).other _ _ A1).other _ _ A1)⟩) (fun _=>E0) (fun _=>E0) (fun h=>by rw[OC.out]at h;cases h);exact⟨_,_,_,_,rfl,V5,dy ((j_.out.trans (HBD.out.mono E0)).setCell A1 _) E0 _ _ _ _⟩
     |some q=>
      obtain⟨bq2,oq2,sq2⟩:=q;have OC:Hid (c.Jt=gi):=by
       show _=_;cases h:c.Jt
       ·rfl
       ·exact absurd (n2.2 h) P0
      clear zz2 n2;go_wp2_with fail;refine(MK (yi ⟨bq2,oq2,sq2⟩) c.qj cap2 c.ch _ (S2.out.below j_.out) P0 B2.out).mono ?_;rintro e wA ⟨rfl,ov,dm,Jp⟩;have Ey:Hid (Below wr.heap.size wr wA):=dm;have Ir:Hid (wA.heap.size=wr.heap.size+1):=ov;have IB:wr.heap.size<wA.heap.size:=E0;have HRA:Hid (Ei wA wr.heap.size ((c.qj+2)*3) 138 (fun j=>.int .i64 (Pj 3 c.qj c.ch j))):=Jp;have R2A:=R2r.out.below dm E0;have R1A:=RR1.out.below dm E0;have R0A:=R0r.out.below dm E0;clear dm Jp ov m0 m1 m2 m3 z0 z1 z2 z3 z1f t0 t1 t2 t3 t0f t1f t2f t3f z2f z3f;obtain⟨m0,m1,m2,m3⟩:=R0A.at4;obtain⟨z0,z1,z2,z3⟩:=R2A.at4;obtain⟨t0,t1,t2,t3⟩:=R1A.at4;have z2f:=R2A.frozen 2;have z3f:=R2A.frozen 3;have t0f:=R1A.frozen 0;have t1f:=R1A.frozen 1;have t2f:=R1A.frozen 2;have t3f:=R1A.frozen 3;have RA0:Hid (Ei (wA.setCell ⟨w.heap.size+1+1,2,Ai⟩ (.slice (yi ⟨wr.heap.size,0,Ai⟩) c.qj (c.qj+2:Nat))) w.heap.size 4 28 _):=R0A.other _ _ A1;have RA1:Hid (Ei (wA.setCell ⟨w.heap.size+1+1,2,Ai⟩ (.slice (yi ⟨wr.heap.size,0,Ai⟩) c.qj (c.qj+2:Nat))) (w.heap.size+1) 4 28 _):=R1A.other _ _ P0;have RA2:Hid (Ei (wA.setCell ⟨w.heap.size+1+1,2,Ai⟩ (.slice (yi ⟨wr.heap.size,0,Ai⟩) c.qj (c.qj+2:Nat))) (w.heap.size+1+1) 4 28 _):=(R2A.Vv _).2.2.1;clear R0A R1A R2A;cases p3 with
      |none=>
       obtain⟨AH,rfl⟩:=FQ rfl;have LJ:Hid (c.Ws=ji):=n3.1 rfl;rw[AH]at m3;clear FQ n3 AH;go_wp2_with fail;have kN:=ox ((((RA1.out.Vv (.slice pv mv cv)).1.Vv (.slice pu mu cu)).2.1.Vv (.slice (yi ⟨wr.heap.size,0,Ai⟩) c.qj (c.qj+2:Nat))).2.2.1.Vv (.slice Ai 0 0)).2.2.2;refine bodyPost_ret (results_cell_row (P:=prog) rfl _ _ (w.heap.size+1) 28 #[.slice pv mv cv,.slice pu mu cu,.slice (yi ⟨wr.heap.size,0,Ai⟩) c.qj (c.qj+2:Nat),.slice Ai 0 0] (0,0) _ rfl kN underlying28 rfl Yt) rfl ?_;have gU:=vu.mk' (w:=w) (wr:=wr) (wF:=((((wA.setCell ⟨w.heap.size+1+1,2,Ai⟩ (.slice (yi ⟨wr.heap.size,0,Ai⟩) c.qj (c.qj+2:Nat))).setCell ⟨w.heap.size+1,0,Ai⟩ (.slice pv mv cv)).setCell ⟨w.heap.size+1,1,Ai⟩ (.slice pu mu cu)).setCell ⟨w.heap.size+1,2,Ai⟩ (.slice (yi ⟨wr.heap.size,0,Ai⟩) c.qj (c.qj+2:Nat))).setCell ⟨w.heap.size+1,3,Ai⟩ (.slice Ai 0 0)) (hb:=wr.heap.size) (db:=wr.heap.size+1) E0 HI.out HO.out HG.out HIr.out HOr.out zX.out (fun j h1 h2=>by rw[CB _ _ _ _ _ _ j E0];rw[heap_setCell_other _ _ _ _ A1];exact Ey.out.block j h2) (fun _=>⟨_,(((((HRA.out.other _ _ A1).other _ _ A1).other _ _ A1).other _ _ A1).other _ _ A1)⟩) (fun h=>by rw[LJ.out]at h;cases h) (fun _=>E0) (fun _=>E0) (fun _ _=>E0);exact⟨_,_,_,_,rfl,V5,dy ((j_.out.trans (Ey.out.mono E0)).setCell A1 _) E0 _ _ _ _⟩
      |some q=>
       obtain⟨bq3,oq3,sq3⟩:=q;have LJ:Hid (c.Ws=gi):=by
        show _=_;cases h:c.Ws
        ·rfl
        ·exact absurd (n3.2 h) P0
       clear FQ n3;go_wp2_with fail;have HBS:Hid (Below w.heap.size w (wA.setCell ⟨w.heap.size+1+1,2,Ai⟩ (.slice (yi ⟨wr.heap.size,0,Ai⟩) c.qj (c.qj+2:Nat)))):=(j_.out.trans (Ey.out.mono E0)).setCell A1 _;refine(dC (yi ⟨bq3,oq3,sq3⟩) c.nD nk c.dv _ (S3'.out.below HBS.out) P0 B3.out).mono ?_;rintro e wD ⟨he,cX,JE,YJ⟩;have Ks:(wA.setCell ⟨w.heap.size+1+1,2,Ai⟩ (.slice (yi ⟨wr.heap.size,0,Ai⟩) c.qj (c.qj+2:Nat))).heap.size=wr.heap.size+1:=by rw[size_setCell];exact Ir.out
       rw[Ks]at he cX YJ;subst he;have HBD:Hid (Below (wr.heap.size+1) (wA.setCell ⟨w.heap.size+1+1,2,Ai⟩ (.slice (yi ⟨wr.heap.size,0,Ai⟩) c.qj (c.qj+2:Nat))) wD):=JE.mono E0;have HZD:Hid (wD.heap.size=wr.heap.size+1+1):=cX;have We0:wr.heap.size+1<wD.heap.size:=E0;have HRD:Hid (Ei wD (wr.heap.size+1) ((c.nD+2)*1) 3 (fun j=>.int .i64 (Pj 1 c.nD c.dv j))):=YJ;have HRC:Hid (Ei wD wr.heap.size ((c.qj+2)*3) 138 (fun j=>.int .i64 (Pj 3 c.qj c.ch j))):=(HRA.out.other _ _ A1).below HBD.out E0;have R2D:=RA2.out.below HBD.out E0;have aU:=RA1.out.below HBD.out E0;have R0D:=RA0.out.below HBD.out E0;clear JE YJ cX m0 m1 m2 m3 z0 z1 z2 z3 t0 t1 t2 t3 t0f t1f t2f t3f z2f z3f Ks;obtain⟨m0,m1,m2,m3⟩:=R0D.at4;obtain⟨z0,z1,z2,z3⟩:=R2D.at4;obtain⟨t0,t1,t2,t3⟩:=aU.at4;have z3f:=R2D.frozen 3;have t0f:=aU.frozen 0;have t1f:=aU.frozen 1;have t2f:=aU.frozen 2;have t3f:=aU.frozen 3;have RF:Hid (Ei (wD.setCell ⟨w.heap.size+1+1,3,Ai⟩ (.slice (yi ⟨wr.heap.size+1,0,Ai⟩) c.nD (c.nD+2:Nat))) (w.heap.size+1) 4 28 (cells4 (.slice Ai 0 0) (.slice Ai 0 0) (.slice Ai 0 0) (.slice Ai 0 0))):=aU.other _ _ P0;clear R0D R2D aU;have pi0:Hid (∀j,w.heap.size+3<=j->j<wr.heap.size->wD.heap[j]?=wr.heap[j]?):=fun j h1 h2=>by
        rw[HBD.out.block j E0,heap_setCell_other _ _ _ _ A1];exact Ey.out.block j h2
       have HBF:Hid (Below w.heap.size w wD):=HBS.out.trans (HBD.out.mono E0);go_wp2_with fail;have kN:=ox ((((RF.out.Vv (.slice pv mv cv)).1.Vv (.slice pu mu cu)).2.1.Vv (.slice (yi ⟨wr.heap.size,0,Ai⟩) c.qj (c.qj+2:Nat))).2.2.1.Vv (.slice (yi ⟨wr.heap.size+1,0,Ai⟩) c.nD (c.nD+2:Nat))).2.2.2;refine bodyPost_ret (results_cell_row (P:=prog) rfl _ _ (w.heap.size+1) 28 #[.slice pv mv cv,.slice pu mu cu,.slice (yi ⟨wr.heap.size,0,Ai⟩) c.qj (c.qj+2:Nat),.slice (yi ⟨wr.heap.size+1,0,Ai⟩) c.nD (c.nD+2:Nat)] (0,0) _ rfl kN underlying28 rfl Yt) rfl ?_;have gU:=vu.mk' (w:=w) (wr:=wr) (wF:=((((wD.setCell ⟨w.heap.size+1+1,3,Ai⟩ (.slice (yi ⟨wr.heap.size+1,0,Ai⟩) c.nD (c.nD+2:Nat))).setCell ⟨w.heap.size+1,0,Ai⟩ (.slice pv mv cv)).setCell ⟨w.heap.size+1,1,Ai⟩ (.slice pu mu cu)).setCell ⟨w.heap.size+1,2,Ai⟩ (.slice (yi ⟨wr.heap.size,0,Ai⟩) c.qj (c.qj+2:Nat))).setCell ⟨w.heap.size+1,3,Ai⟩ (.slice (yi ⟨wr.heap.size+1,0,Ai⟩) c.nD (c.nD+2:Nat))) (hb:=wr.heap.size) (db:=wr.heap.size+1) E0 HI.out HO.out HG.out HIr.out HOr.out zX.out (fun j h1 h2=>by rw[CB _ _ _ _ _ _ j E0];rw[heap_setCell_other _ _ _ _ A1];exact pi0.out j h1 h2) (fun _=>⟨_,(((((HRC.out.other _ _ A1).other _ _ A1).other _ _ A1).other _ _ A1).other _ _ A1)⟩) (fun _=>⟨_,(((((HRD.out.other _ _ A1).other _ _ A1).other _ _ A1).other _ _ A1).other _ _ A1)⟩) (fun _=>E0) (fun _=>E0) (fun _ _=>E0);exact⟨_,_,_,_,rfl,V5,dy (HBF.out.setCell A1 _) E0 _ _ _ _⟩
end Go.Proofs.YtdoghgnifkgfdaaGreat
