import Derived.Test.YtdoghgnifkgfdaaGreatP32
import Derived.Test.YtdoghgnifkgfdaaGreatP34
set_option maxRecDepth 100000
set_option maxHeartbeats 4000000
namespace Go.Proofs.YtdoghgnifkgfdaaGreat.Mute
open Go Go.Conc Go.RowKit
def ZI (k:Nat) (img z:Nat→Int) (j:Nat):Int:=if 25≤j∧j<45 then (if 29≤j∧j<29+k then img (j-29) else 0) else z j
def Zf (m:Nat) (img z:Nat→Int) (j:Nat):Int:=if 25≤j∧j<46 then (if 29≤j∧j<29+m then img (j-29) else 0) else z j
section
variable {w:World} {G m t n i a:Nat} {R:Nat→RC}
theorem Y9k {img z:Nat→Int} {k:Nat} (hk:k<16) (j:Nat) (_:(25≤j∧j<46)∨j=47):zset (ZI k img z) (25+(4+k)) (img k) j=ZI (k+1) img z j:=by
 rw [J9];by_cases e:j=25+(4+k)
 ·rw [if_pos e];unfold ZI;rw [if_pos (by omega),if_pos (by omega),show j-29=k by omega]
 ·rw [if_neg e];unfold ZI;by_cases h:25≤j∧j<45
  ·rw [if_pos h,if_pos h];by_cases h1:29≤j∧j<29+k
   ·rw [if_pos h1,if_pos (by omega)]
   ·rw [if_neg h1,if_neg (by omega)]
  ·rw [if_neg h,if_neg h]
theorem Y4X {img z:Nat→Int} {k:Nat} (hk:k≤16) (j:Nat) (_:(25≤j∧j<46)∨j=47):zset (ZI k img z) (25+20) 0 j=Zf k img z j:=by
 rw [J9];by_cases e:j=25+20
 ·rw [if_pos e];unfold Zf;rw [if_pos (by omega),if_neg (by omega)]
 ·rw [if_neg e];unfold ZI Zf;by_cases h:25≤j∧j<45
  ·have h2:25≤j∧j<46:=by omega
   simp only [if_pos h,if_pos h2]
  ·rw [if_neg h,if_neg (by omega)]
end
theorem Y1v (Kb Gc n nC cq0 bo oo nI capI t:Nat) (q:Option Addr) (z:Nat→Int) (R:Nat→RC) (w:World) (h0:w.cell? ⟨Kb,0,none⟩=some (.slice (some ⟨bo,oo,none⟩) nC cq0)) (h4:w.cell? ⟨Kb,4,none⟩=some (.slice (some ⟨Gc,0,none⟩) nC nC))
  (hi:w.cell? ⟨bo,oo+n*3+1,none⟩=some (.slice q nI capI)) (hs:Sl w q nI (fun j=>.int .i64 (z j))) (hr:RowF w Gc (nC*26) t (refC R)) (hn:n<nC) (h16:nI≤16) (g1:Kb≠Gc) (g2:bo≠Gc) (g3:∀b o,q=some ⟨b,o,none⟩→b≠Gc):
  Calls Tryz.prog 73 #[.pointer (some ⟨Kb,0,none⟩),.int .i64 n] w fun e w'=>e=.returned (.tuple #[])∧w.grownBy w' (some Gc)∧RowF w' Gc (nC*26) t (refC (updN R n {R n with z:=Zf nI z (R n).z})):=by
 have HR:Hid (RowF w Gc (nC*26) t (refC R)):=hr;generalize hff:refC R=ff at hr;have HFF:Hid (refC R=ff):=hff;clear hff;have hf:=hr;clear hr;have e0:=hf.cell (j:=n*26) (by omega);have f0:=hf.frozen (n*26);have e1:=hf.cell (j:=n*26+1) (by omega);have f1:=hf.frozen (n*26+1);have e2:=hf.cell (j:=n*26+2) (by omega);have f2:=hf.frozen (n*26+2);have e3:=hf.cell (j:=n*26+3) (by omega);have f3:=hf.frozen (n*26+3);have e4:=hf.cell (j:=n*26+4) (by omega);have f4:=hf.frozen (n*26+4);have e5:=hf.cell (j:=n*26+5) (by omega);have f5:=hf.frozen (n*26+5);have e6:=hf.cell (j:=n*26+6) (by omega);have f6:=hf.frozen (n*26+6);have e7:=hf.cell (j:=n*26+7) (by omega);have f7:=hf.frozen (n*26+7);have e8:=hf.cell (j:=n*26+8) (by omega);have f8:=hf.frozen (n*26+8);have e9:=hf.cell (j:=n*26+9) (by omega);have f9:=hf.frozen (n*26+9);have e10:=hf.cell (j:=n*26+10) (by omega);have f10:=hf.frozen (n*26+10);have e11:=hf.cell (j:=n*26+11) (by omega);have f11:=hf.frozen (n*26+11);have e12:=hf.cell (j:=n*26+12) (by omega);have f12:=hf.frozen (n*26+12);have e13:=hf.cell (j:=n*26+13) (by omega);have f13:=hf.frozen (n*26+13);have e14:=hf.cell (j:=n*26+14) (by omega);have f14:=hf.frozen (n*26+14);have e15:=hf.cell (j:=n*26+15) (by omega);have f15:=hf.frozen (n*26+15);have e16:=hf.cell (j:=n*26+16) (by omega);have f16:=hf.frozen (n*26+16);have e17:=hf.cell (j:=n*26+17) (by omega);have f17:=hf.frozen (n*26+17);have e18:=hf.cell (j:=n*26+18) (by omega);have f18:=hf.frozen (n*26+18);have e19:=hf.cell (j:=n*26+19) (by omega);have f19:=hf.frozen (n*26+19);have e20:=hf.cell (j:=n*26+20) (by omega);have f20:=hf.frozen (n*26+20);have e21:=hf.cell (j:=n*26+21) (by omega);have f21:=hf.frozen (n*26+21);have e5':w.cell? ⟨Gc,n*26+4+1,none⟩=some (ff (n*26+5)):=e5;have f5':w.frozen? ⟨Gc,n*26+4+1,none⟩=false:=f5;have e6':w.cell? ⟨Gc,n*26+4+2,none⟩=some (ff (n*26+6)):=e6;have f6':w.frozen? ⟨Gc,n*26+4+2,none⟩=false:=f6;have e7':w.cell? ⟨Gc,n*26+4+3,none⟩=some (ff (n*26+7)):=e7;have f7':w.frozen? ⟨Gc,n*26+4+3,none⟩=false:=f7;have e8':w.cell? ⟨Gc,n*26+4+4,none⟩=some (ff (n*26+8)):=e8;have f8':w.frozen? ⟨Gc,n*26+4+4,none⟩=false:=f8;have e9':w.cell? ⟨Gc,n*26+4+5,none⟩=some (ff (n*26+9)):=e9;have f9':w.frozen? ⟨Gc,n*26+4+5,none⟩=false:=f9;have e10':w.cell? ⟨Gc,n*26+4+6,none⟩=some (ff (n*26+10)):=e10;have f10':w.frozen? ⟨Gc,n*26+4+6,none⟩=false:=f10;have e11':w.cell? ⟨Gc,n*26+4+7,none⟩=some (ff (n*26+11)):=e11;have f11':w.frozen? ⟨Gc,n*26+4+7,none⟩=false:=f11;have e12':w.cell? ⟨Gc,n*26+4+8,none⟩=some (ff (n*26+12)):=e12;have f12':w.frozen? ⟨Gc,n*26+4+8,none⟩=false:=f12;have e13':w.cell? ⟨Gc,n*26+4+9,none⟩=some (ff (n*26+13)):=e13;have f13':w.frozen? ⟨Gc,n*26+4+9,none⟩=false:=f13;have e14':w.cell? ⟨Gc,n*26+4+10,none⟩=some (ff (n*26+14)):=e14;have f14':w.frozen? ⟨Gc,n*26+4+10,none⟩=false:=f14;have e15':w.cell? ⟨Gc,n*26+4+11,none⟩=some (ff (n*26+15)):=e15;have f15':w.frozen? ⟨Gc,n*26+4+11,none⟩=false:=f15;have e16':w.cell? ⟨Gc,n*26+4+12,none⟩=some (ff (n*26+16)):=e16;have f16':w.frozen? ⟨Gc,n*26+4+12,none⟩=false:=f16;have e17':w.cell? ⟨Gc,n*26+4+13,none⟩=some (ff (n*26+17)):=e17;have f17':w.frozen? ⟨Gc,n*26+4+13,none⟩=false:=f17;have e18':w.cell? ⟨Gc,n*26+4+14,none⟩=some (ff (n*26+18)):=e18;have f18':w.frozen? ⟨Gc,n*26+4+14,none⟩=false:=f18;have e19':w.cell? ⟨Gc,n*26+4+15,none⟩=some (ff (n*26+19)):=e19;have f19':w.frozen? ⟨Gc,n*26+4+15,none⟩=false:=f19;have HS:Hid (Sl w q nI (fun j=>.int .i64 (z j))):=hs;have HG3:Hid (∀b o,q=some ⟨b,o,none⟩→b≠Gc):=g3;clear hs g3 hf e5 e6 e7 e8 e9 e10 e11 e12 e13 e14 e15 e16 e17 e18 e19 f5 f6 f7 f8 f9 f10 f11 f12 f13 f14 f15 f16 f17 f18 f19
 go_enter Tryz.func73,Tryz.ntmps73
 go_wp2_with fail
 go_loopw [5] (fun i wr=>∃k:Nat,k≤nI∧i=.int .i64 k∧Hid (w.grownBy wr (some Gc))∧Hid (RowF wr Gc (nC*26) t (refC (updN R n {R n with z:=ZI k z (R n).z})))) (fun i _=>nI-(intOf i).toNat)
 case atStart=>
  refine ⟨0,Nat.zero_le _,rfl,?_,?_⟩
  ·show World.grownBy _ _ _;iterate 20 refine grownBy_setCell ?_ _ _
   exact World.grownBy.refl _ _
  ·show RowF _ _ _ _ _;have H:=RowF.r0 HR.out n;replace H:=RowF.rzs (i:=0) (a:=n*26) H (by omega) (by omega) 0;replace H:=RowF.rzs (i:=1) (a:=n*26+1) H (by omega) (by omega) 0;replace H:=RowF.rzs (i:=2) (a:=n*26+2) H (by omega) (by omega) 0;replace H:=RowF.rzs (i:=3) (a:=n*26+3) H (by omega) (by omega) 0;replace H:=RowF.rzs (i:=4) (a:=n*26+4) H (by omega) (by omega) 0;replace H:=RowF.rzs (i:=5) (a:=n*26+4+1) H (by omega) (by omega) 0;replace H:=RowF.rzs (i:=6) (a:=n*26+4+2) H (by omega) (by omega) 0;replace H:=RowF.rzs (i:=7) (a:=n*26+4+3) H (by omega) (by omega) 0;replace H:=RowF.rzs (i:=8) (a:=n*26+4+4) H (by omega) (by omega) 0;replace H:=RowF.rzs (i:=9) (a:=n*26+4+5) H (by omega) (by omega) 0;replace H:=RowF.rzs (i:=10) (a:=n*26+4+6) H (by omega) (by omega) 0;replace H:=RowF.rzs (i:=11) (a:=n*26+4+7) H (by omega) (by omega) 0;replace H:=RowF.rzs (i:=12) (a:=n*26+4+8) H (by omega) (by omega) 0;replace H:=RowF.rzs (i:=13) (a:=n*26+4+9) H (by omega) (by omega) 0;replace H:=RowF.rzs (i:=14) (a:=n*26+4+10) H (by omega) (by omega) 0;replace H:=RowF.rzs (i:=15) (a:=n*26+4+11) H (by omega) (by omega) 0;replace H:=RowF.rzs (i:=16) (a:=n*26+4+12) H (by omega) (by omega) 0;replace H:=RowF.rzs (i:=17) (a:=n*26+4+13) H (by omega) (by omega) 0;replace H:=RowF.rzs (i:=18) (a:=n*26+4+14) H (by omega) (by omega) 0;replace H:=RowF.rzs (i:=19) (a:=n*26+4+15) H (by omega) (by omega) 0;refine RowF.rc H ?_;intro j hj;have:j=25∨j=26∨j=27∨j=28∨j=29∨j=30∨j=31∨j=32∨j=33∨j=34∨j=35∨j=36∨j=37∨j=38∨j=39∨j=40∨j=41∨j=42∨j=43∨j=44∨j=45∨j=47:=by omega
   rcases this with rfl|rfl|rfl|rfl|rfl|rfl|rfl|rfl|rfl|rfl|rfl|rfl|rfl|rfl|rfl|rfl|rfl|rfl|rfl|rfl|rfl|rfl<;>rfl
 case round=>
  obtain ⟨k,hk,rfl,HG,HRr⟩:=hrel;have m0:=HG.out.cell h0 (by simpa using g1);have m4:=HG.out.cell h4 (by simpa using g1);have mi:=HG.out.cell hi (by simpa using g2);have hfr:=HRr.out;generalize hfq:refC (updN R n {R n with z:=ZI k z (R n).z})=fq at hfr;clear hfq;by_cases hlt:k<nI
  ·obtain ⟨bq,oq,rfl,hc⟩:=HS.out.at (by omega);have c0:=HG.out.cell (hc k hlt) (by simpa using HG3.out bq oq rfl);have ek:=hfr.cell (j:=n*26+4+k) (by omega);have fk:=hfr.frozen (n*26+4+k);have w0':∀(W:World) (v:Value),(W.setCell ⟨Gc,n*26+4+k,none⟩ v).cell? ⟨Kb,0,none⟩=W.cell? ⟨Kb,0,none⟩:=fun W v=>World.cell?_setCell_other _ _ _ _ (fun e=>by have e1:=congrArg Addr.block e;simp only at e1;omega);have w1':∀(W:World) (v:Value),(W.setCell ⟨Gc,n*26+4+k,none⟩ v).cell? ⟨bo,oo+n*3+1,none⟩=W.cell? ⟨bo,oo+n*3+1,none⟩:=fun W v=>World.cell?_setCell_other _ _ _ _ (fun e=>by have e1:=congrArg Addr.block e;simp only at e1;omega);have hbq:bq≠Gc:=HG3.out bq oq rfl;have w2':∀(W:World) (v:Value),(W.setCell ⟨Gc,n*26+4+k,none⟩ v).cell? ⟨bq,oq+k,none⟩=W.cell? ⟨bq,oq+k,none⟩:=fun W v=>World.cell?_setCell_other _ _ _ _ (fun e=>by have e1:=congrArg Addr.block e;simp only at e1;omega);have ik0:(0:Int)≤(k:Int):=by omega
   have ik1:(k:Int)<16:=by omega
   have ik2:(k:Int)<(nI:Int):=by omega
   clear e0 f0 e1 f1 e2 f2 e3 f3 e4 f4 e20 f20 e21 f21 e5' f5' e6' f6' e7' f7' e8' f8' e9' f9' e10' f10' e11' f11' e12' f12' e13' f13' e14' f14' e15' f15' e16' f16' e17' f17' e18' f18' e19' f19' hc hfr;go_wp2_with fail
   go_region_held3 (fun W=>W.cell? ⟨Kb,0,none⟩=some (.slice (some ⟨bo,oo,none⟩) nC cq0)∧W.cell? ⟨bo,oo+n*3+1,none⟩=some (.slice (some ⟨bq,oq,none⟩) nI capI)∧W.cell? ⟨bq,oq+k,none⟩=some (.int .i64 (z k))) (go_keep) (fail)
   clear w0' w1' w2';go_wp2_with fail
   exact ⟨⟨k+1,by omega,by go_num,grownBy_drew (grownBy_setCell HG.out _ _),RowF.rc (RowF.rzs (i:=4+k) HRr.out (by omega) (by omega) _) (Y9k (by omega))⟩,by simp [intOf];omega⟩
  ·obtain rfl:k=nI:=by omega
   have en:=hfr.cell (j:=n*26+20) (by omega);have fn:=hfr.frozen (n*26+20);have en':=hfr.cell (j:=n*26+21) (by omega);have fn':=hfr.frozen (n*26+21);clear e0 f0 e1 f1 e2 f2 e3 f3 e4 f4 e20 f20 e21 f21 e5' f5' e6' f6' e7' f7' e8' f8' e9' f9' e10' f10' e11' f11' e12' f12' e13' f13' e14' f14' e15' f15' e16' f16' e17' f17' e18' f18' e19' f19' hfr;go_wp2_with fail
   go_end0
   exact ⟨rfl,grownBy_setCell (grownBy_setCell HG.out _ _) _ _,RowF.rn (RowF.rc (RowF.rzs (i:=20) HRr.out (by omega) (by omega) _) (Y4X h16)) rfl⟩
theorem Y29 {n:Nat} {ci z:Nat→Int} (hok:Xc n ci) (h:Zok n z):(∀i,i<25∨i=47→(rres (Y7 n ci z)).2 i=z i)∧(rres (Y7 n ci z)).2 46=IntKind.i64.wrap (z 46+1)∧(∀y z',Y7 n ci z=.broke y z'→0<y∧y≤3):=by
 by_cases hz:z 45=n
 ·have e:Y7 n ci z=.broke 3 (zset z 46 (IntKind.i64.wrap (z 46+1))):=by unfold Y7;rw [if_pos hz]
  rw [e];refine ⟨fun i hi=>YQ _ _ (by omega),Z7 z 46 _,fun y z' h=>?_⟩;injection h with h _
  omega
 ·have h1:=h.lo;have h2:=h.hi;obtain ⟨nx,hnx⟩:∃nx:Nat,(z 45).toNat=nx:=⟨_,rfl⟩;obtain ⟨ho,hR,hA,hj⟩:=hok nx (by omega);have hR':(ci (nx*4+1)).toNat<4:=by omega
  have f1:∀i,i<25∨i=47→Y9 z i=z i:=fun i hi=>by unfold Y9;rw [YQ _ _ (by omega),YQ _ _ (by omega)]
  have f2:Y9 z 46=IntKind.i64.wrap (z 46+1):=by unfold Y9;rw [YQ _ _ (by omega),Z7]
  have g:∀(a:Nat) (v:Int),25≤a→a≤45→(∀i,i<25∨i=47→zset (Y9 z) a v i=z i)∧zset (Y9 z) a v 46=IntKind.i64.wrap (z 46+1):=fun a v ha hb=>⟨fun i hi=>by rw [YQ _ _ (by omega)];exact f1 i hi,by rw [YQ _ _ (by omega)];exact f2⟩;have on:∀(op:Int) (e:Option Int) (a:Nat) (v:Int),25≤a→a≤45→(∀i,i<25∨i=47→(rres (.on op e (zset (Y9 z) a v))).2 i=z i)∧(rres (.on op e (zset (Y9 z) a v))).2 46=IntKind.i64.wrap (z 46+1)∧(∀y z',Out.on op e (zset (Y9 z) a v)=.broke y z'→0<y∧y≤3):=fun op e a v ha hb=>⟨(g a v ha hb).1,(g a v ha hb).2,fun y z' h=>by cases h⟩;have on0:∀(op:Int) (e:Option Int),(∀i,i<25∨i=47→(rres (.on op e (Y9 z))).2 i=z i)∧(rres (.on op e (Y9 z))).2 46=IntKind.i64.wrap (z 46+1)∧(∀y z',Out.on op e (Y9 z)=.broke y z'→0<y∧y≤3):=fun op e=>⟨f1,f2,fun y z' h=>by cases h⟩;have br:∀(y:Int),0<y→y≤3→(∀i,i<25∨i=47→(rres (.broke y (Y9 z))).2 i=z i)∧(rres (.broke y (Y9 z))).2 46=IntKind.i64.wrap (z 46+1)∧(∀y' z',Out.broke y (Y9 z)=.broke y' z'→0<y'∧y'≤3):=fun y h0 h3=>⟨f1,f2,fun y' z' h=>by cases h;exact ⟨h0,h3⟩⟩;unfold Y7;rw [if_neg hz];simp only [hnx];by_cases e1:ci (nx*4)=1
  ·rw [if_pos e1];exact on _ _ _ _ (by omega) (by omega)
  rw [if_neg e1];by_cases e2:ci (nx*4)=2
  ·rw [if_pos e2];exact on _ _ _ _ (by omega) (by omega)
  rw [if_neg e2];by_cases e3:ci (nx*4)=3
  ·rw [if_pos e3];exact on _ _ _ _ (by omega) (by omega)
  rw [if_neg e3];by_cases e4:ci (nx*4)=4
  ·rw [if_pos e4];exact on _ _ _ _ (by omega) (by omega)
  rw [if_neg e4];by_cases e5:ci (nx*4)=5
  ·rw [if_pos e5];split
   ·exact br 1 (by omega) (by omega)
   ·exact on _ _ _ _ (by omega) (by omega)
  rw [if_neg e5];by_cases e6:ci (nx*4)=6
  ·rw [if_pos e6];split
   ·exact br 2 (by omega) (by omega)
   ·exact on _ _ _ _ (by omega) (by omega)
  rw [if_neg e6];by_cases e7:ci (nx*4)=7
  ·rw [if_pos e7];split
   ·exact br 2 (by omega) (by omega)
   ·exact on _ _ _ _ (by omega) (by omega)
  rw [if_neg e7];by_cases e8:ci (nx*4)=8
  ·rw [if_pos e8];exact on _ _ _ _ (by omega) (by omega)
  rw [if_neg e8];by_cases e9:ci (nx*4)=9
  ·rw [if_pos e9];split
   ·exact on _ _ _ _ (by omega) (by omega)
   ·exact on0 _ _
  rw [if_neg e9];by_cases e15:ci (nx*4)=15
  ·rw [if_pos e15];exact on0 _ _
  rw [if_neg e15];exact on0 _ _
structure Zz (n:Nat) (ci:Nat→Int) (budget:Nat) (z0:Nat→Int) (j:Nat) (e:Int) (z:Nat→Int) (evs:List Value):Prop where
 le:j≤budget
 ev:evs.length≤j
 s46:z 46=IntKind.i64.wrap (z0 46+j)
 old:∀i,i<25∨i=47→z i=z0 i
 run:(e=0∧Zok n z∧runF n ci budget z0=(evs++(runF n ci (budget-j) z).1,(runF n ci (budget-j) z).2))∨(e=-1∧runF n ci budget z0=(evs,1,z))∨(0<e∧e≤3∧runF n ci budget z0=(evs++[XU e (Yo z 47)],3,Yo z))
theorem Zz.start {n:Nat} {ci:Nat→Int} {budget:Nat} {z0:Nat→Int} (hz:Zok n z0) (h46:IntKind.i64.wrap (z0 46)=z0 46):Zz n ci budget z0 0 0 z0 []:=
 ⟨by omega,by simp,by simp [h46],fun _ _=>rfl,.inl ⟨rfl,hz,by simp⟩⟩
theorem Y9K (st:Out):st.sent.length≤1:=by
 cases st with
 |on op e z=>cases e<;>simp [Out.sent]
 |broke y z=>simp [Out.sent]
theorem Zz.step {n:Nat} {ci:Nat→Int} {budget:Nat} {z0 z:Nat→Int} {j:Nat} {evs:List Value} (hok:Xc n ci) (h:Zz n ci budget z0 j 0 z evs) (hj:j<budget):Zz n ci budget z0 (j+1) (rres (Y7 n ci z)).1 (rres (Y7 n ci z)).2 (evs++(Y7 n ci z).sent):=by
 rcases h.run with ⟨-,hz,hr⟩|⟨he,_⟩|⟨he,_⟩
 ·obtain ⟨k1,k2,k3⟩:=Y29 hok hz;refine ⟨by omega,?_,?_,fun i hi=>(k1 i hi).trans (h.old i hi),?_⟩
  ·have:=Y9K (Y7 n ci z);have:=h.ev;simp only [List.length_append];omega
  ·rw [k2,h.s46,IntKind.wrap_i64,IntKind.wrap_i64,IntKind.wrap_i64];omega
  ·have hb:budget-j=(budget-(j+1))+1:=by omega
   rw [hb] at hr;have hzk:=Y06 hok hz;revert hr hzk k3;simp only [runF];cases hs:Y7 n ci z with
   |on op e z'=>
    intro hr k3 hzk;by_cases h0:op=0
    ·right;left
     refine ⟨by simp [rres,h0],?_⟩;simp only [h0,if_true] at hr;simp only [h0,rres];exact hr
    ·left
     refine ⟨by simp [rres,h0],hzk,?_⟩;simp only [h0,if_false] at hr;rw [hr,List.append_assoc];rfl
   |broke y z'=>
    intro hr k3 hzk;right;right
    obtain ⟨k4,k5⟩:=k3 y z' rfl;refine ⟨k4,k5,?_⟩;rw [hr];simp [Out.sent,rres]
 ·omega
 ·omega
section
variable {w W w1:World} {Gc nC n m:Nat} {Q:Nat→RC} {c:RC} {xs:List Value}
theorem RAft.ne (h:RAft w Gc nC n Q c m xs W):c.v.ownBlock≠some Gc:=Zh h.row (by decide) h.own
theorem RAft.setG (h:RAft w Gc nC n Q c m xs W) {j:Nat} {v:Value} {c':RC} (hr:RowF (W.setCell ⟨Gc,j,none⟩ v) Gc (nC*26) 131 (refC (updN Q n c'))) (hv:c'.v=c.v):RAft w Gc nC n Q c' m xs (W.setCell ⟨Gc,j,none⟩ v):=by
 refine ⟨hr,⟨h.but.os,h.but.tape,h.but.output,by rw [size_setCell];exact h.but.size,fun k hk hn=>?_⟩,?_,fun b hb=>h.blk b (by rw [←hv];exact hb)⟩
 ·rw [heap_setCell_other _ _ _ _ (fun e=>hn (.inl e))];exact h.but.block k hk hn
 ·rw [hv];exact Xd (L:=⟨0,0,111,fun _=>False,fun _=>False⟩) h.own fun b hb=>heap_setCell_other _ _ _ _ (fun e=>h.ne (by rw [←(show b=Gc from e)];exact hb))
theorem RAft.s (h:RAft w Gc nC n Q c m xs W) {a:Nat} (ha:a=n*26+23) (x:Int):RAft w Gc nC n Q {c with s:=x} m xs (W.setCell ⟨Gc,a,none⟩ (.int .i64 x)):=by
 refine h.setG ?_ rfl;have:=RowF.rs h.row ha x;rwa [ZN,Yh] at this
theorem RAft.z47 (h:RAft w Gc nC n Q c m xs W) {a:Nat} (ha:a=n*26+24) (x:Int):RAft w Gc nC n Q {c with z:=zset c.z 47 x} m xs (W.setCell ⟨Gc,a,none⟩ (.int .i64 x)):=by
 refine h.setG ?_ rfl;have:=RowF.r47 h.row ha x;rwa [ZN,Yh] at this
theorem RAft.b (h:RAft w Gc nC n Q c m xs W) {a:Nat} (ha:a=n*26+25) (x:Bool):RAft w Gc nC n Q {c with b:=x} m xs (W.setCell ⟨Gc,a,none⟩ (.bool x)):=by
 refine h.setG ?_ rfl;have:=RowF.rb h.row ha x;rwa [ZN,Yh] at this
theorem RAft.drew (h:RAft w Gc nC n Q c m xs W):RAft w Gc nC n Q c m xs W.drew:=⟨h.row,h.but.drew,h.own,h.blk⟩
theorem RAft.log (h:RAft w Gc nC n Q c m xs W) {o:Obj} {ev:List Value} {g cap a:Nat} (hg:(W.alloc o).grownBy w1 c.v.ownBlock) (ho:w1.ownsRow 0 111 3 (.slice (some ⟨g,0,none⟩) (m+1:Nat) cap) (m+1) (xs++ev)) (hat:c.v.ownBlock=some g∨W.heap.size≤g) (ha:a=n*26+22):
  RowF w1 Gc (nC*26) 131 (refC (updN Q n c))∧RAft w Gc nC n Q {c with v:=.slice (some ⟨g,0,none⟩) (m+1:Nat) cap} (m+1) (xs++ev) (w1.setCell ⟨Gc,a,none⟩ (.slice (some ⟨g,0,none⟩) (m+1:Nat) cap)):=by
 have hlt:=h.row.lt;have hs:W.heap.size≤w1.heap.size:=Nat.le_trans (by simp) hg.size;have kept:∀b,b<W.heap.size→c.v.ownBlock≠some b→w1.heap[b]?=W.heap[b]?:=fun b hb hne=>(hg.block b (by simp;omega) (fun e=>hne e.symm)).trans (heap_alloc_old W _ hb);have hr:=h.row.of_heap (kept Gc hlt h.ne);refine ⟨hr,?_,⟨hg.os.trans h.but.os,hg.tape.trans h.but.tape,hg.output.trans h.but.output,by rw [size_setCell];exact Nat.le_trans h.but.size hs,fun k hk hn=>?_⟩,?_,fun b hb=>?_⟩
 ·have:=RowF.rv hr ha (.slice (some ⟨g,0,none⟩) (m+1:Nat) cap);rwa [ZN,Yh] at this
 ·rw [heap_setCell_other _ _ _ _ (fun e=>hn (.inl e)),kept k (Nat.lt_of_lt_of_le hk h.but.size) (fun e=>by
   rcases h.blk k e with e|e
   ·exact hn (.inr e)
   ·omega)]
  exact h.but.block k hk hn
 ·exact Xd (L:=⟨0,0,111,fun _=>False,fun _=>False⟩) ho fun b hb=>heap_setCell_other _ _ _ _ (fun e=>by
   have hg':g=b:=by simpa [Value.ownBlock] using hb
   subst hg';have e:g=Gc:=e;subst e;rcases hat with h1|h1
   ·exact h.ne h1
   ·omega)
 ·have hg':g=b:=by simpa [Value.ownBlock] using hb
  subst hg';rcases hat with h1|h1
  ·exact h.blk g h1
  ·exact .inr (Nat.le_trans h.but.size h1)
end
end Go.Proofs.YtdoghgnifkgfdaaGreat.Mute
