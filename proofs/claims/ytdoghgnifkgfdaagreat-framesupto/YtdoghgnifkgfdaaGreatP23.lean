import Derived.Test.YtdoghgnifkgfdaaGreatP00
import Derived.Test.YtdoghgnifkgfdaaGreatP12
import Derived.Test.YtdoghgnifkgfdaaGreatP14
import Derived.Test.YtdoghgnifkgfdaaGreatP19
import Derived.Test.YtdoghgnifkgfdaaGreatP22
set_option maxRecDepth 100000
set_option maxHeartbeats 16000000
open Option renaming none->Ai,some->yi
open Go renaming World->ui,Value->ti,undef->ri
open Bool renaming true->ji,false->gi
namespace Go.Proofs.YtdoghgnifkgfdaaGreat.Mute
open Tryz Go Go.Conc Go.RowKit
section
variable {wR w w':ui}{k:Vu}{z:Nat->Nat->Int}{f:Nat->ti}{m:Nat->Nat}{xs:Nat->List ti}{Iq wo nW:Nat}{wn:Nat->Nat×Nat}
theorem oK{g n t:Nat}{e:Nat->ti}(h:Ei w g n t e)(r:RS w w'):Ei w' g n t e:=by
 obtain⟨d,rfl⟩:=r;exact h
def pair(a b:Nat)(j:Nat):Value:=if j=0 then .int .i64 a else .int .i64 b
end
theorem mD(Q:Nat->RC)(n:Nat)(x:Int){i:Nat}(hi:i<20):Et (fj Q n {Q n with z:=Ji (Q n).z 45 x} n) i=.int .i64 ((Q n).z (25+i)):=by
 rw[Oi];unfold Et;rw[if_pos E0];show Value.int .i64 (Ji _ 45 x (25+i))=_;rw[Qk _ _ E0]
theorem vj{w W:ui}{g:Nat}(h:ak (fun j=>j=g) w W)(j:Nat)(v:ti):ak (fun j=>j=g) w (W.setCell ⟨g,j,Ai⟩ v):=⟨h.os,h.tape,h.output,X5,fun k hk hn=>(heap_setCell_other _ _ _ _ hn).trans (h.block k hk hn)⟩
theorem lW(x y:Int)(hy:y≠0)(w:ui):Calls prog 114 #[.int .i64 5,.int .i64 x,.int .i64 y] w fun e w'=>e=.returned (.tuple #[.int .i64 (wrap64 (x.tdiv y)),.bool ji])/\w'=w:=by
 by_cases h1:y=-1
 ·subst h1;have e:x.tdiv (-1)=-x:=by simp
  rw[e];exact aX x w
 ·exact FV x y w (by simpa using hy) I5
theorem M40(Q:Nat->RC)(n:Nat)(x:Int):Et (fj Q n {Q n with z:=Ji (Q n).z 45 x} n) 22=(Q n).v:=by
 rw[Oi];rfl
theorem Io{w:ui}{v:ti}{base e s m:Nat}{xs:List ti}(h:w.ownsRow base e s v m xs){b:Nat}(hb:v.ownBlock=yi b):b<w.heap.size:=(h.lt b hb).2
structure IC(w W w1:ui)(Gc:Nat)(v:ti)(e s g cap m:Nat)(xs:List ti):Prop where
 b1:ak (fun j=>j=Gc) w W
 os:w1.os=W.os
 tape:w1.tape=W.tape
 output:w1.output=W.output
 size:W.heap.size<=w1.heap.size
 block:∀b,b<W.heap.size->v.ownBlock≠yi b->w1.heap[b]?=W.heap[b]?
 own:w1.ownsRow 0 e s (.slice (yi ⟨g,0,Ai⟩) m cap) m xs
 at':v.ownBlock=yi g\/W.heap.size<=g
 ne:v.ownBlock≠yi Gc
 lt:Gc<W.heap.size
section
variable {w W w1:ui}{Gc:Nat}{v:ti}{e s g cap m j:Nat}{xs:List ti}{x:ti}
theorem IC.but(h:IC w W w1 Gc v e s g cap m xs):ak (fun j=>j=Gc\/v.ownBlock=yi j) w (w1.setCell ⟨Gc,j,Ai⟩ x):=by
 refine⟨h.os.trans h.b1.os,h.tape.trans h.b1.tape,h.output.trans h.b1.output,?_,fun k hk hn=>?_⟩
 ·rw[size_setCell];exact Nat.le_trans h.b1.size h.size
 ·rw[heap_setCell_other _ _ _ _ (fun e=>hn (.inl e)),h.block k (Nat.lt_of_lt_of_le hk h.b1.size) (fun e=>hn (.inr e))];exact h.b1.block k hk (fun e=>hn (.inl e))
theorem IC.BF(h:IC w W w1 Gc v e s g cap m xs):(w1.setCell ⟨Gc,j,Ai⟩ x).ownsRow 0 e s (.slice (yi ⟨g,0,Ai⟩) m cap) m xs:=
 Rk h.own fun b hb=>heap_setCell_other _ (a:=⟨Gc,j,Ai⟩) _ _ (fun e=>by
  have hg:g=b:=s6;subst hg;have e:g=Gc:=e;subst e;rcases h.at' with h1|h1
  ·exact h.ne h1
  ·have:=h.lt;omega)
theorem IC.blk(h:IC w W w1 Gc v e s g cap m xs)(b:Nat)(hb:(Value.slice (yi ⟨g,0,Ai⟩) m cap).ownBlock=yi b):v.ownBlock=yi b\/w.heap.size<=b:=by
 have hg:g=b:=s6;subst hg;exact h.at'.imp id (Nat.le_trans h.b1.size)
end
theorem X10{w:ui}{Gc m t n:Nat}{Q:Nat->RC}{o0 o1 o2 o3:ti}(hr:Ei w Gc m t (Sj Q))(x:Int):
  Ei (World.alloc (w.setCell ⟨Gc,n*26+20,Ai⟩ (.int .i64 x)) (.cells #[o0,o1,o2,o3] 97)).drew.drew Gc m t (Sj (fj Q n {Q n with z:=Ji (Q n).z 45 x}))/\
  Ei (World.alloc (w.setCell ⟨Gc,n*26+20,Ai⟩ (.int .i64 x)) (.cells #[o0,o1,o2,o3] 97)).drew.drew w.heap.size 4 97 (cells4 o0 o1 o2 o3)/\
  ak (fun j=>j=Gc) w (World.alloc (w.setCell ⟨Gc,n*26+20,Ai⟩ (.int .i64 x)) (.cells #[o0,o1,o2,o3] 97)).drew.drew:=by
 have h1:=Ei.rz (n:=n) (i:=20) hr E0 rfl x;refine⟨h1.alloc _,?_,?_⟩
 ·have:=row4 (w.setCell ⟨Gc,n*26+20,Ai⟩ (.int .i64 x)) o0 o1 o2 o3 97;rw[size_setCell]at this;exact nh
 ·refine⟨rfl,rfl,rfl,by show _<=(World.alloc _ _).heap.size;simp,fun k hk hn=>?_⟩;show (World.alloc _ _).heap[k]?=_;rw[heap_alloc_old _ _ (by rw[size_setCell];exact hk),heap_setCell_other _ _ _ _ hn]
structure mG(Kb Gc n nC cq bo oo cb co nI cc nx r a:Nat)(op N:Int)(Q:Nat->RC)(w:ui):Prop where
 h0:w.cell? ⟨Kb,0,Ai⟩=yi (.slice (yi ⟨bo,oo,Ai⟩) nC cq)
 h4:w.cell? ⟨Kb,4,Ai⟩=yi (.slice (yi ⟨Gc,0,Ai⟩) nC nC)
 hc:w.cell? ⟨bo,oo+n*3,Ai⟩=yi (.slice (yi ⟨cb,co,Ai⟩) nI cc)
 c0:w.cell? ⟨cb,co+nx*4,Ai⟩=yi (.int .i64 op)
 c1:w.cell? ⟨cb,co+nx*4+1,Ai⟩=yi (.int .i64 r)
 c2:w.cell? ⟨cb,co+nx*4+2,Ai⟩=yi (.int .i64 a)
 c3:w.cell? ⟨cb,co+nx*4+3,Ai⟩=yi (.int .i64 N)
 hr:Ei w Gc (nC*26) 131 (Sj Q)
 h45:(Q n).z 45=nx
 hn:n<nC
 hx:nx<nI
 h48:nI<=48
 EF:r<4
 tH:a<4
 yF:Kb≠Gc
 _g2:bo≠Gc
 _g3:cb≠Gc
theorem Bl{Kb Gc n nC cq bo oo cb co nI cc nx r a:Nat}{N:Int}{Q:Nat->RC}{w:ui}{op:Int}{R0 R1 R2 R4 R5 R6 R7 rest:Code}(s:mG Kb Gc n nC cq bo oo cb co nI cc nx r a op N Q w){Rt:Ending->ui->Prop}(hb:Tryz.f88.body=yi (.seq R0 (.seq R1 (.seq R2 (.seq R4 (.seq R5 (.seq R6 (.seq R7 rest))))))))
  (h:∀(B:Nat)(W:ui)(x y:Int),w.heap.size=B->W.cell? ⟨B,0,Ai⟩=yi (.int .i64 op)->W.cell? ⟨B,1,Ai⟩=yi (.int .i64 r)->W.cell? ⟨B,2,Ai⟩=yi (.int .i64 a)->W.cell? ⟨B,3,Ai⟩=yi (.int .i64 N)->W.cell? ⟨Gc,n*26+r,Ai⟩=yi (.int .i64 x)->W.cell? ⟨Gc,n*26+a,Ai⟩=yi (.int .i64 y)->W.frozen? ⟨Gc,n*26+r,Ai⟩=gi->Hid (Ei W Gc (nC*26) 131 (Sj (fj Q n {Q n with z:=Ji (Q n).z 45 (nx+1)})))->Hid (ak (fun j=>j=Gc) w W)->Gc<W.heap.size->B<W.heap.size->Hid ((Q n).z (25+r)=x)->Hid ((Q n).z (25+a)=y)->Gc<w.heap.size->n<nC->r<4->a<4->Kb≠Gc->(r:Int)<4->(a:Int)<4->
   rest.wp prog (bodyPost prog Tryz.f88 Rt) {tmps:=#[.pointer (yi ⟨Kb,0,Ai⟩),.int .i64 n,ri,ri,.int .i64 0,.pointer (yi ⟨Gc,n*26,Ai⟩),.pointer (yi ⟨B,0,Ai⟩),.int .i64 x,.int .i64 y,ri,ri,ri,ri,.pointer (yi ⟨Kb,0,Ai⟩),.pointer (yi ⟨Kb,0,Ai⟩),.pointer (yi ⟨Kb,4,Ai⟩),.slice (yi ⟨Gc,0,Ai⟩) nC nC,.int .i64 n,.pointer (yi ⟨Gc,n*26,Ai⟩),.pointer (yi ⟨Gc,n*26,Ai⟩),.pointer (yi ⟨Gc,n*26,Ai⟩),.pointer (yi ⟨Gc,n*26+20,Ai⟩),.int .i64 nx,.pointer (yi ⟨Kb,0,Ai⟩),.pointer (yi ⟨Kb,0,Ai⟩),.pointer (yi ⟨Kb,0,Ai⟩),.pointer (yi ⟨Kb,0,Ai⟩),.slice (yi ⟨bo,oo,Ai⟩) nC cq,.int .i64 n,.pointer (yi ⟨bo,oo+n*3,Ai⟩),.pointer (yi ⟨bo,oo+n*3,Ai⟩),.slice (yi ⟨cb,co,Ai⟩) nI cc,.int .i64 nI,.bool gi,.pointer (yi ⟨Kb,0,Ai⟩),.pointer (yi ⟨Kb,0,Ai⟩),.pointer (yi ⟨Kb,0,Ai⟩),.pointer (yi ⟨Kb,0,Ai⟩),.slice (yi ⟨bo,oo,Ai⟩) nC cq,.int .i64 n,.pointer (yi ⟨bo,oo+n*3,Ai⟩),.pointer (yi ⟨bo,oo+n*3,Ai⟩),.slice (yi ⟨cb,co,Ai⟩) nI cc,.pointer (yi ⟨Gc,n*26,Ai⟩),.pointer (yi ⟨Gc,n*26,Ai⟩),.pointer (yi ⟨Gc,n*26+20,Ai⟩),.int .i64 nx,.pointer (yi ⟨cb,co+nx*4,Ai⟩),.agg #[.int .i64 op,.int .i64 r,.int .i64 a,.int .i64 N],.pointer (yi ⟨Gc,n*26,Ai⟩),.pointer (yi ⟨Gc,n*26,Ai⟩),.pointer (yi ⟨Gc,n*26+20,Ai⟩),.int .i64 nx,.int .i64 ((nx:Int)+1),.pointer (yi ⟨Gc,n*26,Ai⟩),.pointer (yi ⟨Gc,n*26+20,Ai⟩),.pointer (yi ⟨Gc,n*26,Ai⟩),.pointer (yi ⟨B,1,Ai⟩),.int .i64 r,.pointer (yi ⟨Gc,n*26,Ai⟩),.pointer (yi ⟨Gc,n*26,Ai⟩),.pointer (yi ⟨Gc,n*26+r,Ai⟩),.int .i64 x,.pointer (yi ⟨Gc,n*26,Ai⟩),.pointer (yi ⟨B,2,Ai⟩),.int .i64 a,.pointer (yi ⟨Gc,n*26,Ai⟩),.pointer (yi ⟨Gc,n*26,Ai⟩),.pointer (yi ⟨Gc,n*26+a,Ai⟩),.int .i64 y,ri,ri,ri,ri,ri,ri,ri,ri,ri,ri,ri,ri,ri,ri,ri,ri,ri,ri,ri,ri,ri,ri,ri,ri,ri,ri,ri,ri,ri,ri,ri,ri,ri,ri,ri,ri,ri,ri,ri,ri,ri,ri,ri,ri,ri,ri,ri,ri,ri,ri,ri,ri,ri,ri,ri,ri,ri,ri,ri,ri,ri,ri,ri,ri,ri,ri,ri,ri,ri,ri,ri,ri,ri,ri,ri,ri,ri,ri,ri,ri,ri,ri,ri,ri,ri,ri,ri,ri,ri,ri,ri,ri,ri,ri,ri,ri,ri,ri,ri,ri,ri,ri,ri,ri,ri,ri,ri,ri,ri,ri,ri,ri,ri,ri,ri,ri,ri,ri,ri,ri,ri,ri,ri,ri,ri,ri,ri,ri,ri,ri,ri,ri,ri,ri,ri,ri,ri,ri,ri,ri,ri,ri,ri,ri,ri,ri,ri,ri,ri,ri,ri,ri,ri,ri,ri,ri],defers:=[]} W.drew.drew):
  Calls prog 88 #[.pointer (yi ⟨Kb,0,Ai⟩),.int .i64 n] w Rt:=by
 have HH:Hid (∀(B:Nat)(W:ui)(x y:Int),_):=h;clear h;obtain⟨h0,h4,hc,c0,c1,c2,c3,hr,h45,hn,hx,h48,EF,tH,yF,_g2,_g3⟩:=s;have HG0:Hid (Gc<w.heap.size):=hr.lt;cases hb;have e20:w.cell? ⟨Gc,n*26+20,Ai⟩=yi (.int .i64 nx):=by rw[Ei.rat hr (n:=n) (i:=20) E0 rfl E0];show yi (Value.int .i64 ((Q n).z 45))=_;rw[h45]
 have f20:=hr.frozen (n*26+20);have hG:=hr.lt;have HR:Hid (Ei w Gc (nC*26) 131 (Sj Q)):=hr;clear hr;have i1:(nx:Int)<(nI:Int):=E0;have i2:¬((nI:Int)<=(nx:Int)):=E0
 go_enter func88,ntmps88
 go_wp2_with fail
 go_region_held3 (fun W=>W.cell? ⟨Kb,0,Ai⟩=yi (.slice (yi ⟨bo,oo,Ai⟩) nC cq)/\W.cell? ⟨bo,oo+n*3,Ai⟩=yi (.slice (yi ⟨cb,co,Ai⟩) nI cc)/\W.cell? ⟨Gc,n*26+20,Ai⟩=yi (.int .i64 nx)) (go_keep) (fail)
 go_wp2_with fail
 go_region_held3 (fun W=>W.cell? ⟨Kb,0,Ai⟩=yi (.slice (yi ⟨bo,oo,Ai⟩) nC cq)/\W.cell? ⟨bo,oo+n*3,Ai⟩=yi (.slice (yi ⟨cb,co,Ai⟩) nI cc)/\W.cell? ⟨Gc,n*26+20,Ai⟩=yi (.int .i64 nx)/\W.cell? ⟨cb,co+nx*4,Ai⟩=yi (.int .i64 op)/\W.cell? ⟨cb,co+nx*4+1,Ai⟩=yi (.int .i64 r)/\W.cell? ⟨cb,co+nx*4+2,Ai⟩=yi (.int .i64 a)/\W.cell? ⟨cb,co+nx*4+3,Ai⟩=yi (.int .i64 N)) (go_keep) (fail)
 go_wp2_with fail
 have HW:=X10 (w:=w) (n:=n) (o0:=.int .i64 op) (o1:=.int .i64 r) (o2:=.int .i64 a) (o3:=.int .i64 N) HR.out ((nx:Int)+1);clear h0 h4 hc c0 c1 c2 c3 e20 f20 i1 i2;generalize hB:w.heap.size=B at *;generalize (World.alloc (w.setCell ⟨Gc,n*26+20,Ai⟩ (.int .i64 ((nx:Int)+1))) (.cells #[.int .i64 op,.int .i64 r,.int .i64 a,.int .i64 N] 97)).drew.drew=W at *;obtain⟨HRW,WT,Gf0⟩:=HW;have b0:=WT.at4.1;have b1:=WT.at4.2.1;have b2:=WT.at4.2.2.1;have b3:=WT.at4.2.2.2;have er:=Ei.rat HRW (n:=n) (i:=r) E0 rfl E0;have ea:=Ei.rat HRW (n:=n) (i:=a) E0 rfl E0;rw[mD _ _ _ E0]at er ea;have fr:=HRW.frozen (n*26+r);have Bm:Hid (Ei W Gc (nC*26) 131 (Sj (fj Q n {Q n with z:=Ji (Q n).z 45 (nx+1)}))):=HRW;have dj:Hid (ak (fun j=>j=Gc) w W):=Gf0;have Vy:=HRW.lt;have XF:=WT.lt;have i3:(r:Int)<4:=E0;have i4:(a:Int)<4:=E0;clear HRW WT Gf0;generalize hzr:(Q n).z (25+r)=x at *;generalize hza:(Q n).z (25+a)=y at *;have Zt:Hid ((Q n).z (25+r)=x):=hzr;have Ir:Hid ((Q n).z (25+a)=y):=hza;clear hzr hza;go_region_held3 (fun W=>W.cell? ⟨B,1,Ai⟩=yi (.int .i64 r)/\W.cell? ⟨Gc,n*26+r,Ai⟩=yi (.int .i64 x)) (go_keep) (fail);go_wp2_with fail
 go_region_held3 (fun W=>W.cell? ⟨B,2,Ai⟩=yi (.int .i64 a)/\W.cell? ⟨Gc,n*26+a,Ai⟩=yi (.int .i64 y)) (go_keep) (fail)
 simp only[Exit.then];refine ‹∀(a:Act)(w:ui),Code.wp _ _ _ a w->_› _ _ (HH.out B W x y rfl b0 b1 b2 b3 er ea fr Bm dj Vy XF (rfl:x=x) (rfl:y=y) HG0.out hn EF tH yF i3 i4)
section
variable {Kb Gc n nC cq bo oo cb co nI cc nx r a:Nat}{N:Int}{Q:Nat->RC}{w:ui}
theorem BN(s:mG Kb Gc n nC cq bo oo cb co nI cc nx r a 0 N Q w):
  Calls prog 88 #[.pointer (yi ⟨Kb,0,Ai⟩),.int .i64 n] w fun e w'=>e=.returned (.int .i64 (-1))/\Ei w' Gc (nC*26) 131 (Sj (fj Q n {Q n with z:=(Ji (Q n).z 45 (nx+1))}))/\ak (fun j=>j=Gc) w w':=by
 refine Bl s rfl fun B W x y hB b0 b1 b2 b3 er ea fr Bm dj Vy XF Zt Ir hG hn EF tH yF i3 i4=>?_;clear s;refine Y9 ?_;exact Ob
theorem WW(s:mG Kb Gc n nC cq bo oo cb co nI cc nx r a 1 N Q w):
  Calls prog 88 #[.pointer (yi ⟨Kb,0,Ai⟩),.int .i64 n] w fun e w'=>e=.returned (.int .i64 (0))/\Ei w' Gc (nC*26) 131 (Sj (fj Q n {Q n with z:=Ji (Ji (Q n).z 45 (nx+1)) (25+r) N}))/\ak (fun j=>j=Gc) w w':=by
 refine Bl s rfl fun B W x y hB b0 b1 b2 b3 er ea fr Bm dj Vy XF Zt Ir hG hn EF tH yF i3 i4=>?_;clear s;refine Y9 ?_;go_wp2_with fail
 refine ja fun uJ=>?_;refine Eg fun k1'=>?_;go_region_held3 (fun W=>W.cell? ⟨B,1,Ai⟩=yi (.int .i64 r)/\W.cell? ⟨B,3,Ai⟩=yi (.int .i64 N)) (go_keep) (fail);clear uJ k1';go_wp2_with fail;go_ret;exact⟨rfl,Ei.Rz (i:=r) Bm.out E0 rfl _,j4⟩
theorem GZ(s:mG Kb Gc n nC cq bo oo cb co nI cc nx r a 2 N Q w):
  Calls prog 88 #[.pointer (yi ⟨Kb,0,Ai⟩),.int .i64 n] w fun e w'=>e=.returned (.int .i64 (0))/\Ei w' Gc (nC*26) 131 (Sj (fj Q n {Q n with z:=Ji (Ji (Q n).z 45 (nx+1)) (25+r) (wrap64 ((Q n).z (25+r)+(Q n).z (25+a)))}))/\ak (fun j=>j=Gc) w w':=by
 refine Bl s rfl fun B W x y hB b0 b1 b2 b3 er ea fr Bm dj Vy XF Zt Ir hG hn EF tH yF i3 i4=>?_;clear s;refine Y9 ?_;go_wp2_with fail
 refine(SX x y _).mono ?_;exact b9
theorem TY(s:mG Kb Gc n nC cq bo oo cb co nI cc nx r a 3 N Q w):
  Calls prog 88 #[.pointer (yi ⟨Kb,0,Ai⟩),.int .i64 n] w fun e w'=>e=.returned (.int .i64 (0))/\Ei w' Gc (nC*26) 131 (Sj (fj Q n {Q n with z:=Ji (Ji (Q n).z 45 (nx+1)) (25+r) (wrap64 ((Q n).z (25+r)-(Q n).z (25+a)))}))/\ak (fun j=>j=Gc) w w':=by
 refine Bl s rfl fun B W x y hB b0 b1 b2 b3 er ea fr Bm dj Vy XF Zt Ir hG hn EF tH yF i3 i4=>?_;clear s;refine Y9 ?_;go_wp2_with fail
 refine(LX x y _).mono ?_;exact b9
theorem AW(s:mG Kb Gc n nC cq bo oo cb co nI cc nx r a 4 N Q w):
  Calls prog 88 #[.pointer (yi ⟨Kb,0,Ai⟩),.int .i64 n] w fun e w'=>e=.returned (.int .i64 (0))/\Ei w' Gc (nC*26) 131 (Sj (fj Q n {Q n with z:=Ji (Ji (Q n).z 45 (nx+1)) (25+r) (wrap64 ((Q n).z (25+r)*(Q n).z (25+a)))}))/\ak (fun j=>j=Gc) w w':=by
 refine Bl s rfl fun B W x y hB b0 b1 b2 b3 er ea fr Bm dj Vy XF Zt Ir hG hn EF tH yF i3 i4=>?_;clear s;refine Y9 ?_;go_wp2_with fail
 refine(oY x y _).mono ?_;exact b9
end
section
variable {Kb Gc n nC cq bo oo cb co nI cc nx r a:Nat}{N:Int}{Q:Nat->RC}{w:ui}
theorem qS(s:mG Kb Gc n nC cq bo oo cb co nI cc nx r a 5 N Q w)(CH:(Q n).z (25+a)=0):
  Calls prog 88 #[.pointer (yi ⟨Kb,0,Ai⟩),.int .i64 n] w fun e w'=>e=.returned (.int .i64 (1))/\Ei w' Gc (nC*26) 131 (Sj (fj Q n {Q n with z:=(Ji (Q n).z 45 (nx+1))}))/\ak (fun j=>j=Gc) w w':=by
 refine Bl s rfl fun B W x y hB b0 b1 b2 b3 er ea fr Bm dj Vy XF Zt Ir hG hn EF tH yF i3 i4=>?_;clear s;refine Y9 ?_;obtain rfl:y=0:=Ir.out.symm.trans CH;clear CH;go_wp2_with fail;refine(vR x _).mono ?_;rintro e V ⟨rfl,rfl⟩;exact Ob
theorem KX(s:mG Kb Gc n nC cq bo oo cb co nI cc nx r a 5 N Q w)(CH:(Q n).z (25+a)≠0):
  Calls prog 88 #[.pointer (yi ⟨Kb,0,Ai⟩),.int .i64 n] w fun e w'=>e=.returned (.int .i64 (0))/\Ei w' Gc (nC*26) 131 (Sj (fj Q n {Q n with z:=Ji (Ji (Q n).z 45 (nx+1)) (25+r) (wrap64 (((Q n).z (25+r)).tdiv ((Q n).z (25+a))))}))/\ak (fun j=>j=Gc) w w':=by
 refine Bl s rfl fun B W x y hB b0 b1 b2 b3 er ea fr Bm dj Vy XF Zt Ir hG hn EF tH yF i3 i4=>?_;clear s;refine Y9 ?_;have hy:y≠0:=by rw[<-Ir.out];exact CH
 clear CH;go_wp2_with fail;refine(lW x y hy _).mono ?_;exact b9
theorem jN(s:mG Kb Gc n nC cq bo oo cb co nI cc nx r a 6 N Q w)(CH:(Q n).z (25+a)<0):
  Calls prog 88 #[.pointer (yi ⟨Kb,0,Ai⟩),.int .i64 n] w fun e w'=>e=.returned (.int .i64 (2))/\Ei w' Gc (nC*26) 131 (Sj (fj Q n {Q n with z:=(Ji (Q n).z 45 (nx+1))}))/\ak (fun j=>j=Gc) w w':=by
 refine Bl s rfl fun B W x y hB b0 b1 b2 b3 er ea fr Bm dj Vy XF Zt Ir hG hn EF tH yF i3 i4=>?_;clear s;refine Y9 ?_;have hy:y<0:=by rw[<-Ir.out];exact CH
 clear CH;exact Ob
theorem cN(s:mG Kb Gc n nC cq bo oo cb co nI cc nx r a 6 N Q w)(CH:16<=(Q n).z (25+a)):
  Calls prog 88 #[.pointer (yi ⟨Kb,0,Ai⟩),.int .i64 n] w fun e w'=>e=.returned (.int .i64 (2))/\Ei w' Gc (nC*26) 131 (Sj (fj Q n {Q n with z:=(Ji (Q n).z 45 (nx+1))}))/\ak (fun j=>j=Gc) w w':=by
 refine Bl s rfl fun B W x y hB b0 b1 b2 b3 er ea fr Bm dj Vy XF Zt Ir hG hn EF tH yF i3 i4=>?_;clear s;refine Y9 ?_;have hy:16<=y:=by rw[<-Ir.out];exact CH
 clear CH;exact Ob
end
section
variable {Kb Gc n nC cq bo oo cb co nI cc nx r a:Nat}{N:Int}{Q:Nat->RC}{w:ui}
theorem zJ(s:mG Kb Gc n nC cq bo oo cb co nI cc nx r a 7 N Q w)(CH:(Q n).z (25+a)<0):
  Calls prog 88 #[.pointer (yi ⟨Kb,0,Ai⟩),.int .i64 n] w fun e w'=>e=.returned (.int .i64 (2))/\Ei w' Gc (nC*26) 131 (Sj (fj Q n {Q n with z:=(Ji (Q n).z 45 (nx+1))}))/\ak (fun j=>j=Gc) w w':=by
 refine Bl s rfl fun B W x y hB b0 b1 b2 b3 er ea fr Bm dj Vy XF Zt Ir hG hn EF tH yF i3 i4=>?_;clear s;refine Y9 ?_;have hy:y<0:=by rw[<-Ir.out];exact CH
 clear CH;exact Ob
theorem zI(s:mG Kb Gc n nC cq bo oo cb co nI cc nx r a 7 N Q w)(CH:16<=(Q n).z (25+a)):
  Calls prog 88 #[.pointer (yi ⟨Kb,0,Ai⟩),.int .i64 n] w fun e w'=>e=.returned (.int .i64 (2))/\Ei w' Gc (nC*26) 131 (Sj (fj Q n {Q n with z:=(Ji (Q n).z 45 (nx+1))}))/\ak (fun j=>j=Gc) w w':=by
 refine Bl s rfl fun B W x y hB b0 b1 b2 b3 er ea fr Bm dj Vy XF Zt Ir hG hn EF tH yF i3 i4=>?_;clear s;refine Y9 ?_;have hy:16<=y:=by rw[<-Ir.out];exact CH
 clear CH;exact Ob
theorem wU(s:mG Kb Gc n nC cq bo oo cb co nI cc nx r a 6 N Q w)(j:Nat)(hj:j<16)(CH:(Q n).z (25+a)=j):
  Calls prog 88 #[.pointer (yi ⟨Kb,0,Ai⟩),.int .i64 n] w fun e w'=>e=.returned (.int .i64 (0))/\Ei w' Gc (nC*26) 131 (Sj (fj Q n {Q n with z:=Ji (Ji (Q n).z 45 (nx+1)) (25+r) ((Q n).z (29+j))}))/\ak (fun j=>j=Gc) w w':=by
 refine Bl s rfl fun B W x y hB b0 b1 b2 b3 er ea fr Bm dj Vy XF Zt Ir hG hn EF tH yF i3 i4=>?_;clear s;refine Y9 ?_;obtain rfl:y=j:=Ir.out.symm.trans CH;clear CH;have em:=Ei.rat Bm.out (n:=n) (i:=4+j) E0 rfl E0;rw[mD _ _ _ E0,<-Nat.add_assoc,show 25+(4+j)=29+j by omega]at em;generalize hzm:(Q n).z (29+j)=v at *;have HZM:Hid ((Q n).z (29+j)=v):=hzm;clear hzm;have j1:(j:Int)<16:=E0;have j0:¬((j:Int)<0):=E0;have j2:¬((16:Int)<=j):=E0;go_wp2_with fail
 refine ja fun uJ=>?_;have k1':∀(V:ui)(v:ti),(V.setCell ⟨Gc,n*26+r,Ai⟩ v).cell? ⟨Gc,n*26+4+j,Ai⟩=V.cell? ⟨Gc,n*26+4+j,Ai⟩:=fun V v=>World.cell?_setCell_other _ _ _ _ (fun e=>by have e1:=congrArg Addr.off e;simp only at e1;omega);go_region_held3 (fun W=>W.cell? ⟨B,1,Ai⟩=yi (.int .i64 r)/\W.cell? ⟨Gc,n*26+4+j,Ai⟩=yi (.int .i64 v)) (go_keep) (fail);clear uJ k1';go_wp2_with fail;go_ret;try rw[HZM.out]
 exact⟨rfl,Ei.Rz (i:=r) Bm.out E0 rfl _,j4⟩
theorem qQ(s:mG Kb Gc n nC cq bo oo cb co nI cc nx r a 7 N Q w)(j:Nat)(hj:j<16)(CH:(Q n).z (25+a)=j):
  Calls prog 88 #[.pointer (yi ⟨Kb,0,Ai⟩),.int .i64 n] w fun e w'=>e=.returned (.int .i64 (0))/\Ei w' Gc (nC*26) 131 (Sj (fj Q n {Q n with z:=Ji (Ji (Q n).z 45 (nx+1)) (25+(4+j)) ((Q n).z (25+r))}))/\ak (fun j=>j=Gc) w w':=by
 refine Bl s rfl fun B W x y hB b0 b1 b2 b3 er ea fr Bm dj Vy XF Zt Ir hG hn EF tH yF i3 i4=>?_;clear s;refine Y9 ?_;obtain rfl:y=j:=Ir.out.symm.trans CH;clear CH;have em:=Ei.rat Bm.out (n:=n) (i:=4+j) E0 rfl E0;rw[mD _ _ _ E0,<-Nat.add_assoc]at em;have fm:=Bm.out.frozen (n*26+4+j);have j1:(j:Int)<16:=E0;have j0:¬((j:Int)<0):=E0;have j2:¬((16:Int)<=j):=E0;go_wp2_with fail
 go_ret;try rw[Zt.out]
 exact⟨rfl,Ei.Rz (i:=4+j) Bm.out E0 E0 _,j4⟩
end
section
variable {Kb Gc n nC cq bo oo cb co nI cc nx r a:Nat}{N:Int}{Q:Nat->RC}{w:ui}
theorem wT(s:mG Kb Gc n nC cq bo oo cb co nI cc nx r a 8 N Q w):
  Calls prog 88 #[.pointer (yi ⟨Kb,0,Ai⟩),.int .i64 n] w fun e w'=>e=.returned (.int .i64 (0))/\Ei w' Gc (nC*26) 131 (Sj (fj Q n {Q n with z:=Ji (Ji (Q n).z 45 (nx+1)) (25+20) N}))/\ak (fun j=>j=Gc) w w':=by
 refine Bl s rfl fun B W x y hB b0 b1 b2 b3 er ea fr Bm dj Vy XF Zt Ir hG hn EF tH yF i3 i4=>?_;clear s;refine Y9 ?_;exact de
theorem uR(s:mG Kb Gc n nC cq bo oo cb co nI cc nx r a 9 N Q w)(lP:(Q n).z (25+r)=0):
  Calls prog 88 #[.pointer (yi ⟨Kb,0,Ai⟩),.int .i64 n] w fun e w'=>e=.returned (.int .i64 (0))/\Ei w' Gc (nC*26) 131 (Sj (fj Q n {Q n with z:=Ji (Ji (Q n).z 45 (nx+1)) (25+20) N}))/\ak (fun j=>j=Gc) w w':=by
 refine Bl s rfl fun B W x y hB b0 b1 b2 b3 er ea fr Bm dj Vy XF Zt Ir hG hn EF tH yF i3 i4=>?_;clear s;refine Y9 ?_;obtain rfl:x=0:=Zt.out.symm.trans lP;clear lP;exact de
theorem RO(s:mG Kb Gc n nC cq bo oo cb co nI cc nx r a 9 N Q w)(lP:(Q n).z (25+r)≠0):
  Calls prog 88 #[.pointer (yi ⟨Kb,0,Ai⟩),.int .i64 n] w fun e w'=>e=.returned (.int .i64 (0))/\Ei w' Gc (nC*26) 131 (Sj (fj Q n {Q n with z:=(Ji (Q n).z 45 (nx+1))}))/\ak (fun j=>j=Gc) w w':=by
 refine Bl s rfl fun B W x y hB b0 b1 b2 b3 er ea fr Bm dj Vy XF Zt Ir hG hn EF tH yF i3 i4=>?_;clear s;refine Y9 ?_;have hx1:(x==0)=false:=by rw[<-Zt.out];simpa using lP
 clear lP;exact Ob
theorem xZ(s:mG Kb Gc n nC cq bo oo cb co nI cc nx r a 15 N Q w)(m:Nat)(xs:List ti)(rj:w.ownsRow 0 111 3 (Q n).v m xs)(hob:(Q n).v.ownBlock≠yi Gc)(hm:m<1000000000):
  Calls prog 88 #[.pointer (yi ⟨Kb,0,Ai⟩),.int .i64 n] w fun e w'=>e=.returned (.int .i64 0)/\∃v',Ei w' Gc (nC*26) 131 (Sj (fj Q n {Q n with z:=(Ji (Q n).z 45 (nx+1)),v:=v'}))/\ak (fun j=>j=Gc\/(Q n).v.ownBlock=yi j) w w'/\w'.ownsRow 0 111 3 v' (m+1) (xs++[.int .i64 1,.int .i64 ((Q n).z (25+r)),.int .i64 0])/\∀b,v'.ownBlock=yi b->(Q n).v.ownBlock=yi b\/w.heap.size<=b:=by
 refine Bl s rfl fun B W x y hB b0 b1 b2 b3 er ea fr Bm dj Vy XF Zt Ir hG hn EF tH yF i3 i4=>?_;clear s;refine Y9 ?_;have ev:=Ei.rat Bm.out (n:=n) (i:=22) E0 rfl E0;rw[M40]at ev;have HOW:Hid (∀o,(W.alloc o).ownsRow 0 111 3 (Q n).v m xs):=fun o=>own_below (Lr (L:=⟨0,0,111,fun _=>False,fun _=>False⟩) rj fun b hb=>by
  have Wi:=Io rj hb;exact dj.out.block b Wi (fun e=>hob D4)) ((Below.refl _ _).alloc (Nat.le_refl _) _)
 have HOB:Hid ((Q n).v.ownBlock≠yi Gc):=hob;have HOL:Hid (∀b,(Q n).v.ownBlock=yi b->b<w.heap.size):=fun b hb=>Io rj hb;have HX:Hid (x=(Q n).z (25+r)):=Zt.out.symm;clear rj hob;go_wp2_with (at_builtin;refine kj _ rfl _ _ 61 rfl 0 111 _ 3 24 underlying61 Dn rfl E0 (Q n).v m xs rfl K5 W.heap.size [.int .i64 1,.int .i64 x,.int .i64 0] 111 rfl rfl J2 D2 Y1 E0 E0 ?_);intro g cap w1 Oj Ti hat zo;have hG1:w1.heap[Gc]?=W.heap[Gc]?:=(Ti.block Gc P6 (fun e=>HOB.out e.symm)).trans (heap_alloc_old W _ Vy);have R1:Hid (Ei w1 Gc (nC*26) 131 (Sj (fj Q n {Q n with z:=Ji (Q n).z 45 (nx+1)}))):=Bm.out.of_heap hG1;have ev1:=Ei.rat R1.out (n:=n) (i:=22) E0 rfl E0;have fv1:=R1.out.frozen (n*26+22);have HF:Hid (IC w W w1 Gc (Q n).v _ _ g cap (m+1) (xs++[.int .i64 1,.int .i64 x,.int .i64 0])):=⟨dj.out,Ti.os,Ti.tape,Ti.output,Nat.le_trans P0 Ti.size,fun b hb Jj=>(Ti.block b Q6 (fun e=>Jj e.symm)).trans (heap_alloc_old W _ hb),Oj,hat.imp id (fun e=>M4),HOB.out,Vy⟩;clear Oj Ti hat zo hG1;go_wp2_with fail;go_ret;rw[<-HX.out]at *;exact⟨rfl,.slice (yi ⟨g,0,Ai⟩) (m+1:Nat) cap,by
  have:=Ei.rv R1.out (n:=n) rfl (.slice (yi ⟨g,0,Ai⟩) (m+1:Nat) cap);rw[Yk,Oi]at this;exact this,HF.out.but,HF.out.BF,U6⟩
end
theorem DK:(prog.info? 177).map (fun i=>(i.zero,i.size,i.bytes))=yi (yi (.agg #[.int .i64 0,.int .i64 0]),2,16):=J0
theorem LU(Q:Nat->RC)(n:Nat)(x:Int):Et (fj Q n {Q n with z:=Ji (Q n).z 45 x} n) 21=(Q n).nt:=by
 rw[Oi];rfl
section
variable {Kb Gc n nC cq bo oo cb co nI cc nx r a:Nat}{N:Int}{Q:Nat->RC}{w:ui}
theorem pU(s:mG Kb Gc n nC cq bo oo cb co nI cc nx r a 10 N Q w)(c:Nat)(hNc:N=c)(m:Nat)(xs:List ti)(rj:w.ownsRow 0 177 2 (Q n).nt m xs)(hob:(Q n).nt.ownBlock≠yi Gc)(hm:m<1000000000):
  Calls prog 88 #[.pointer (yi ⟨Kb,0,Ai⟩),.int .i64 n] w fun e w'=>e=.returned (.int .i64 0)/\∃v',Ei w' Gc (nC*26) 131 (Sj (fj Q n {Q n with z:=(Ji (Q n).z 45 (nx+1)),nt:=v'}))/\ak (fun j=>j=Gc\/(Q n).nt.ownBlock=yi j) w w'/\w'.ownsRow 0 177 2 v' (m+1) (xs++[.int .i64 c,.int .i64 ((Q n).z (25+r))])/\∀b,v'.ownBlock=yi b->(Q n).nt.ownBlock=yi b\/w.heap.size<=b:=by
 refine Bl s rfl fun B W x y hB b0 b1 b2 b3 er ea fr Bm dj Vy XF Zt Ir hG hn EF tH yF i3 i4=>?_;clear s;refine Y9 ?_;subst hNc;have ev:=Ei.rat Bm.out (n:=n) (i:=21) E0 rfl E0;rw[LU]at ev;have HOW:Hid (∀o,(W.alloc o).ownsRow 0 177 2 (Q n).nt m xs):=fun o=>own_below (Rk rj fun b hb=>by
  have Wi:=Io rj hb;exact dj.out.block b Wi (fun e=>hob D4)) ((Below.refl _ _).alloc (Nat.le_refl _) _)
 have HOB:Hid ((Q n).nt.ownBlock≠yi Gc):=hob;have HX:Hid (x=(Q n).z (25+r)):=Zt.out.symm;clear rj hob;refine Ab fun HAL q1 q2=>?_;go_wp2_with fail
 go_region_law (refine Ek rfl _ _ 129 rfl 0 177 _ 2 16 underlying129 DK rfl E0 (Q n).nt m xs rfl K5 W.heap.size [.int .i64 c,.int .i64 x] 177 rfl rfl J2 D2 Y1 E0 E0 ?_;intro g cap w1 Oj Ti hat zo;have hG1:w1.heap[Gc]?=W.heap[Gc]?:=(Ti.block Gc P6 (fun e=>HOB.out e.symm)).trans (heap_alloc_old W _ Vy);have R1:Hid (Ei w1 Gc (nC*26) 131 (Sj (fj Q n {Q n with z:=Ji (Q n).z 45 (nx+1)}))):=Bm.out.of_heap hG1;have ev1:=Ei.rat R1.out (n:=n) (i:=21) E0 rfl E0;have fv1:=R1.out.frozen (n*26+21))
 all_goals
  refine Mc fun HF=>?_;clear Oj Ti hat zo hG1;go_wp2_with fail;go_ret;rw[<-HX.out]at *;exact⟨rfl,.slice (yi ⟨g,0,Ai⟩) (m+1:Nat) cap,by
   have:=Ei.rn R1.out (n:=n) rfl (.slice (yi ⟨g,0,Ai⟩) (m+1:Nat) cap);rw[Yk,Oi]at this;exact this,HF.out.but,HF.out.BF,U6⟩
theorem CN(s:mG Kb Gc n nC cq bo oo cb co nI cc nx r a 11 N Q w)(c:Nat)(hNc:N=c)(m:Nat)(xs:List ti)(rj:w.ownsRow 0 177 2 (Q n).nt m xs)(hob:(Q n).nt.ownBlock≠yi Gc)(hm:m<1000000000):
  Calls prog 88 #[.pointer (yi ⟨Kb,0,Ai⟩),.int .i64 n] w fun e w'=>e=.returned (.int .i64 0)/\∃v',Ei w' Gc (nC*26) 131 (Sj (fj Q n {Q n with z:=(Ji (Q n).z 45 (nx+1)),nt:=v'}))/\ak (fun j=>j=Gc\/(Q n).nt.ownBlock=yi j) w w'/\w'.ownsRow 0 177 2 v' (m+1) (xs++[.int .i64 c,.int .i64 ((Q n).z (25+r))])/\∀b,v'.ownBlock=yi b->(Q n).nt.ownBlock=yi b\/w.heap.size<=b:=by
 refine Bl s rfl fun B W x y hB b0 b1 b2 b3 er ea fr Bm dj Vy XF Zt Ir hG hn EF tH yF i3 i4=>?_;clear s;refine Y9 ?_;subst hNc;have ev:=Ei.rat Bm.out (n:=n) (i:=21) E0 rfl E0;rw[LU]at ev;have HOW:Hid (∀o,(W.alloc o).ownsRow 0 177 2 (Q n).nt m xs):=fun o=>own_below (Rk rj fun b hb=>by
  have Wi:=Io rj hb;exact dj.out.block b Wi (fun e=>hob D4)) ((Below.refl _ _).alloc (Nat.le_refl _) _)
 have HOB:Hid ((Q n).nt.ownBlock≠yi Gc):=hob;have HX:Hid (x=(Q n).z (25+r)):=Zt.out.symm;clear rj hob;refine Ab fun HAL q1 q2=>?_;go_wp2_with fail
 go_region_law (refine Ek rfl _ _ 129 rfl 0 177 _ 2 16 underlying129 DK rfl E0 (Q n).nt m xs rfl K5 W.heap.size [.int .i64 c,.int .i64 x] 177 rfl rfl J2 D2 Y1 E0 E0 ?_;intro g cap w1 Oj Ti hat zo;have hG1:w1.heap[Gc]?=W.heap[Gc]?:=(Ti.block Gc P6 (fun e=>HOB.out e.symm)).trans (heap_alloc_old W _ Vy);have R1:Hid (Ei w1 Gc (nC*26) 131 (Sj (fj Q n {Q n with z:=Ji (Q n).z 45 (nx+1)}))):=Bm.out.of_heap hG1;have ev1:=Ei.rat R1.out (n:=n) (i:=21) E0 rfl E0;have fv1:=R1.out.frozen (n*26+21))
 all_goals
  refine Mc fun HF=>?_;clear Oj Ti hat zo hG1;go_wp2_with fail;go_ret;rw[<-HX.out]at *;exact⟨rfl,.slice (yi ⟨g,0,Ai⟩) (m+1:Nat) cap,by
   have:=Ei.rn R1.out (n:=n) rfl (.slice (yi ⟨g,0,Ai⟩) (m+1:Nat) cap);rw[Yk,Oi]at this;exact this,HF.out.but,HF.out.BF,U6⟩
end
theorem Br{P:Program}{R:ui->ui->Prop}{D:ui->ui->Array Event->Prop}(T:Terms R D){f:FuncId}{fn:Func}{t u:Tmp}{w:ui}(h:fn.results=#[.tmp t,.tmp u])(tmps:Array ti):qp P R D f fn tmps w (.tuple #[tmps.getD t ri,tmps.getD u ri]):=fun w₁ _=>by
 obtain⟨h1,h2⟩:=resultsC_tmp2 (P:=P) h tmps w₁;rw[h2,seen_none];exact⟨h1,T.idle _⟩
theorem N_(P:Program)(w:ui)(es:Array Event)(a:Addr)(m:Mode)(b:Bool):(store a (.bool b) m).events P w es=storedEv P w es a (.bool b) m:=events_store P w es a _ m rfl
theorem OP(P:Program)(w:ui)(es:Array Event)(a:Addr)(m:Mode)(b:Option Addr)(l c:Nat):(store a (.slice b l c) m).events P w es=storedEv P w es a (.slice b l c) m:=events_store P w es a _ m rfl
section
variable {L:km}{w0:ui}{rows:List Row}{iq nb qb k cq:Nat}{r:Row}
theorem Yx(hs:Still L w0 nb)(h1:w0.cell? ⟨nb,1,Ai⟩=yi (.slice (yi ⟨qb,0,Ai⟩) k cq))(i:Nat)(hi:i<k)(w:ui)(hF:Kn L w0 rows w):
  Xi prog gi L.R1 L.D1 137 #[.pointer (yi ⟨nb,0,Ai⟩),.int .i64 i] w (fun v w'=>v=.pointer (yi ⟨qb,i*3,Ai⟩)/\Kn L w0 rows w') (fun _ _=>False):=by
 replace hF:=hF.lay;have hii:(i:Int)<(k:Int):=E0;have hk:(base 137).kind≠.early:=E1;refine Xi.intro L.Bi #[.pointer (yi ⟨nb,0,Ai⟩),.int .i64 i,ri,ri,ri,ri,ri,ri,ri,ri,ri] func137 rfl J0 fun cl cs Stop jm _=>?_;refine J8 ?_;refine s9 ?_;refine M8 ?_;refine J8 ?_;refine ga ?_;refine P8 ?_;refine K8 fun w1 K hK hF=>?_;have hc:World.cell? _ ⟨nb,1,Ai⟩=yi (.slice (yi ⟨qb,0,Ai⟩) k cq):=(hF.nj hs).trans h1;refine I8 ?_ ?_
 ·refine hF.Aj hs ?_;exact W8
 clear hK K;clear hc;refine W9 ?_;refine M8 ?_;refine K8 fun w1 K hK hF=>?_;refine I8 ?_ ?_
 ·exact bh
 clear hK K;refine W9 ?_;refine M8 ?_;refine J8 ?_;refine Wb fun todo=>?_;exact jm _ todo _ _ rfl (Ej L.Bi I0 _) ⟨M5,hF.drop⟩
theorem qF(hs:Still L w0 nb)(h1:w0.cell? ⟨nb,2,Ai⟩=yi (.slice (yi ⟨qb,0,Ai⟩) k cq))(i:Nat)(hi:i<k)(w:ui)(hF:Kn L w0 rows w):
  Xi prog gi L.R1 L.D1 139 #[.pointer (yi ⟨nb,0,Ai⟩),.int .i64 i] w (fun v w'=>v=.pointer (yi ⟨qb,i*4,Ai⟩)/\Kn L w0 rows w') (fun _ _=>False):=by
 replace hF:=hF.lay;have hii:(i:Int)<(k:Int):=E0;have hk:(base 139).kind≠.early:=E1;refine Xi.intro L.Bi #[.pointer (yi ⟨nb,0,Ai⟩),.int .i64 i,ri,ri,ri,ri,ri,ri,ri,ri,ri] func139 rfl J0 fun cl cs Stop jm _=>?_;refine J8 ?_;refine s9 ?_;refine M8 ?_;refine J8 ?_;refine ga ?_;refine P8 ?_;refine K8 fun w1 K hK hF=>?_;have hc:World.cell? _ ⟨nb,2,Ai⟩=yi (.slice (yi ⟨qb,0,Ai⟩) k cq):=(hF.nj hs).trans h1;refine I8 ?_ ?_
 ·refine hF.Aj hs ?_;exact W8
 clear hK K;clear hc;refine W9 ?_;refine M8 ?_;refine K8 fun w1 K hK hF=>?_;refine I8 ?_ ?_
 ·exact bh
 clear hK K;refine W9 ?_;refine M8 ?_;refine J8 ?_;refine Wb fun todo=>?_;exact jm _ todo _ _ rfl (Ej L.Bi I0 _) ⟨M5,hF.drop⟩
theorem k60(hq:rows[iq]?=yi r)(i:Nat)(x:Int)(hm:i*4+4<=r.m)(w:ui)(hF:Kn L w0 rows w):
  Xi prog gi L.R1 L.D1 140 #[.pointer (yi ⟨r.g,i*4,Ai⟩),.int .i64 x] w (fun v w'=>v=.tuple #[]/\Kn L w0 ((rows.set iq (r.put (i*4+2) (.int .i64 x))).set iq ((r.put (i*4+2) (.int .i64 x)).put (i*4+3) (.bool ji))) w') (fun _ _=>False):=by
 have hk:(base 140).kind≠.early:=E1;refine Xi.intro L.Bi #[.pointer (yi ⟨r.g,i*4,Ai⟩),.int .i64 x,ri,ri,ri,ri,ri,ri,ri,ri,ri] func140 rfl J0 fun cl cs Stop jm _=>?_;refine J8 ?_;refine .Gi L.Bi [0,1,2,3,4,5,6,7,8] I0 ?_;refine fe ?_;refine K8 fun w1 K hK hF=>?_;refine qh fun Bn hc=>?_;refine I8 ?_ ?_
 ·refine hF.does (r:=r) hq (i*4+2) _ ?_;exact Ec
 clear hK K;clear Bn hc;replace hF:=hF.set (r:=r) hq (i*4+2) (.int .i64 x);replace hq:=Qi hq (r.put (i*4+2) (.int .i64 x));refine W9 ?_;refine Y8 ?_;refine K8 fun w1 K hK hF=>?_;have Bn:World.frozen? _ ⟨r.g,i*4+3,Ai⟩=false:=hF.frozen (r:=(r.put (i*4+2) (.int .i64 x))) hq (i*4+3);have hc:World.cell? _ ⟨r.g,i*4+3,Ai⟩=yi _:=hF.cell (r:=(r.put (i*4+2) (.int .i64 x))) hq (j:=i*4+3) X2;refine I8 ?_ ?_
 ·refine hF.does (r:=(r.put (i*4+2) (.int .i64 x))) hq (i*4+3) _ ?_;exact Zh
 clear hK K;clear Bn hc;replace hF:=hF.set (r:=(r.put (i*4+2) (.int .i64 x))) hq (i*4+3) (.bool ji);replace hq:=Qi hq ((r.put (i*4+2) (.int .i64 x)).put (i*4+3) (.bool ji));refine W9 ?_;refine J8 ?_;exact Qb
theorem mZ(hq:rows[iq]?=yi r)(i:Nat)(hm:i*4+4<=r.m)(w:ui)(hF:Kn L w0 rows w):
  Xi prog gi L.R1 L.D1 136 #[.pointer (yi ⟨r.g,i*4,Ai⟩)] w (fun v w'=>v=.tuple #[]/\Kn L w0 ((rows.set iq (r.put (i*4+2) (.int .i64 0))).set iq ((r.put (i*4+2) (.int .i64 0)).put (i*4+3) (.bool gi))) w') (fun _ _=>False):=by
 have hk:(base 136).kind≠.early:=E1;refine Xi.intro L.Bi #[.pointer (yi ⟨r.g,i*4,Ai⟩),ri,ri,ri,ri,ri,ri,ri] func136 rfl J0 fun cl cs Stop jm _=>?_;refine J8 ?_;refine Ic ?_;refine P9 ?_;refine K8 fun w1 K hK hF=>?_;refine qh fun Bn hc=>?_;refine I8 ?_ ?_
 ·refine hF.does (r:=r) hq (i*4+2) _ ?_;exact Ec
 clear hK K;clear Bn hc;replace hF:=hF.set (r:=r) hq (i*4+2) (.int .i64 0);replace hq:=Qi hq (r.put (i*4+2) (.int .i64 0));refine W9 ?_;refine Y8 ?_;refine K8 fun w1 K hK hF=>?_;have Bn:World.frozen? _ ⟨r.g,i*4+3,Ai⟩=false:=hF.frozen (r:=(r.put (i*4+2) (.int .i64 0))) hq (i*4+3);have hc:World.cell? _ ⟨r.g,i*4+3,Ai⟩=yi _:=hF.cell (r:=(r.put (i*4+2) (.int .i64 0))) hq (j:=i*4+3) X2;refine I8 ?_ ?_
 ·refine hF.does (r:=(r.put (i*4+2) (.int .i64 0))) hq (i*4+3) _ ?_;exact Zh
 clear hK K;clear Bn hc;replace hF:=hF.set (r:=(r.put (i*4+2) (.int .i64 0))) hq (i*4+3) (.bool gi);replace hq:=Qi hq ((r.put (i*4+2) (.int .i64 0)).put (i*4+3) (.bool gi));refine W9 ?_;refine J8 ?_;exact Qb
theorem pZ(hq:rows[iq]?=yi r)(i:Nat)(hm:i*3+3<=r.m)(w:ui)(hF:Kn L w0 rows w):
  Xi prog gi L.R1 L.D1 135 #[.pointer (yi ⟨r.g,i*3,Ai⟩)] w (fun v w'=>v=.tuple #[]/\Kn L w0 (rows.set iq (r.put (i*3+1) (.slice Ai 0 0))) w') (fun _ _=>False):=by
 have hk:(base 135).kind≠.early:=E1;refine Xi.intro L.Bi #[.pointer (yi ⟨r.g,i*3,Ai⟩),ri,ri,ri,ri] func135 rfl J0 fun cl cs Stop jm _=>?_;refine J8 ?_;refine Fb ?_;refine P8 ?_;refine K8 fun w1 K hK hF=>?_;have Bn:World.frozen? _ ⟨r.g,i*3+1,Ai⟩=false:=hF.frozen (r:=r) hq (i*3+1);have hc:World.cell? _ ⟨r.g,i*3+1,Ai⟩=yi _:=hF.cell (r:=r) hq (j:=i*3+1) X2;refine I8 ?_ ?_
 ·refine hF.does (r:=r) hq (i*3+1) _ ?_;exact Wa
 clear hK K;clear Bn hc;replace hF:=hF.set (r:=r) hq (i*3+1) (.slice Ai 0 0);replace hq:=Qi hq (r.put (i*3+1) (.slice Ai 0 0));refine W9 ?_;refine J8 ?_;exact Qb
theorem Q80(hq:rows[iq]?=yi r)(i:Nat)(x:Int)(hx:r.f (i*3+2)=.int .i64 x)(hm:i*3+3<=r.m)(w:ui)(hF:Kn L w0 rows w):
  Xi prog gi L.R1 L.D1 144 #[.pointer (yi ⟨r.g,i*3,Ai⟩)] w (fun v w'=>v=.int .i64 x/\Kn L w0 (rows.set iq (r.put (i*3+2) (.int .i64 0))) w') (fun _ _=>False):=by
 have hk:(base 144).kind≠.early:=E1;refine Xi.intro L.Bi #[.pointer (yi ⟨r.g,i*3,Ai⟩),ri,ri,ri,ri,ri,ri,ri,ri,ri,ri,ri] func144 rfl J0 fun cl cs Stop jm _=>?_;refine J8 ?_;refine s9 ?_;refine M8 ?_;refine J8 ?_;refine rf ?_;refine P8 ?_;refine K8 fun w1 K hK hF=>?_;have hc:World.cell? _ ⟨r.g,i*3+2,Ai⟩=yi (.int .i64 x):=(hF.cell hq (j:=i*3+2) X2).trans (by rw[hx]);refine I8 ?_ ?_
 ·refine hF.looks hq ?_;exact W8
 clear hK K;clear hc;refine W9 ?_;refine M8 ?_;refine J8 ?_;refine Fb ?_;refine P8 ?_;refine K8 fun w1 K hK hF=>?_;have Bn:World.frozen? _ ⟨r.g,i*3+2,Ai⟩=false:=hF.frozen (r:=r) hq (i*3+2);have hc:World.cell? _ ⟨r.g,i*3+2,Ai⟩=yi _:=hF.cell (r:=r) hq (j:=i*3+2) X2;refine I8 ?_ ?_
 ·refine hF.does (r:=r) hq (i*3+2) _ ?_;exact Ec
 clear hK K;clear Bn hc;replace hF:=hF.set (r:=r) hq (i*3+2) (.int .i64 0);replace hq:=Qi hq (r.put (i*3+2) (.int .i64 0));refine W9 ?_;refine J8 ?_;refine L8 ?_;refine J8 ?_;refine Wb fun todo=>?_;exact jm _ todo _ _ rfl (Ej L.Bi I0 _) ⟨M5,hF⟩
theorem Ia0(hq:rows[iq]?=yi r)(i:Nat)(x y:Int)(hx:r.f (i*4)=.int .i64 x)(hy:r.f (i*4+1)=.int .i64 y)(hm:i*4+4<=r.m)(w:ui)(hF:Kn L w0 rows w):
  Xi prog gi L.R1 L.D1 142 #[.pointer (yi ⟨r.g,i*4,Ai⟩)] w (fun v w'=>v=.tuple #[.int .i64 x,.int .i64 y]/\Kn L w0 rows w') (fun _ _=>False):=by
 have hk:(base 142).kind≠.early:=E1;refine Xi.intro L.Bi #[.pointer (yi ⟨r.g,i*4,Ai⟩),ri,ri,ri,ri,ri,ri,ri,ri,ri,ri,ri] func142 rfl J0 fun cl cs Stop jm _=>?_;refine J8 ?_;refine L8 ?_;refine J8 ?_;refine Ci.Ym (S:=Kn L w0 rows) (Die:=fun _ _=>False) L.Bi L.Wm 10 I0 hk J0 (fun _ _ _ h=>h) (fun _ _ _ h=>h.elim) fun w1 hR=>?_;replace hF:=(hF.rely hR).rely (Turn.drew _);clear hR;refine Ii L.Bi 0 (fun _ _ h r=>Kn.rely h r) hF ?_;refine W9 ?_;refine Ii L.Bi 1 (fun _ _ h r=>Kn.rely h r) hF ?_;refine W9 ?_;refine Ii L.Bi 2 (fun _ _ h r=>Kn.rely h r) hF ?_;refine W9 ?_;refine aj L.Bi 3 rfl (fun _ _ h r=>Kn.rely h r) hF ?_ fun _ hw=>⟨run_eq_of (by
  intro K hK;have hc:World.cell? _ ⟨r.g,i*4,Ai⟩=yi (.int .i64 x):=(hw.cell hq (j:=i*4) X2).trans (by rw[hx]);go_simp;exact hK),by
  have hc:World.cell? _ ⟨r.g,i*4,Ai⟩=yi (.int .i64 x):=(hw.cell hq (j:=i*4) X2).trans (by rw[hx]);refine hw.looks hq ?_;co_evs (exact⟨_,rfl⟩)⟩
 refine W9 ?_;refine Ii L.Bi 4 (fun _ _ h r=>Kn.rely h r) hF ?_;refine W9 ?_;refine Ii L.Bi 5 (fun _ _ h r=>Kn.rely h r) hF ?_;refine W9 ?_;refine Ii L.Bi 6 (fun _ _ h r=>Kn.rely h r) hF ?_;refine W9 ?_;refine aj L.Bi 7 rfl (fun _ _ h r=>Kn.rely h r) hF ?_ fun _ hw=>⟨run_eq_of (by
  intro K hK;have hc:World.cell? _ ⟨r.g,i*4+1,Ai⟩=yi (.int .i64 y):=(hw.cell hq (j:=i*4+1) X2).trans (by rw[hy]);go_simp;exact hK),by
  have hc:World.cell? _ ⟨r.g,i*4+1,Ai⟩=yi (.int .i64 y):=(hw.cell hq (j:=i*4+1) X2).trans (by rw[hy]);refine hw.looks hq ?_;co_evs (exact⟨_,rfl⟩)⟩
 refine W9 ?_;refine Ii L.Bi 8 (fun _ _ h r=>Kn.rely h r) hF ?_;refine W9 ?_;refine Ii L.Bi 9 (fun _ _ h r=>Kn.rely h r) hF ?_;refine H9 ?_;refine J8 ?_;refine Wb fun todo=>?_;exact jm _ todo _ _ rfl (Br L.Bi I0 _) ⟨M5,hF⟩
end
end Go.Proofs.YtdoghgnifkgfdaaGreat.Mute
