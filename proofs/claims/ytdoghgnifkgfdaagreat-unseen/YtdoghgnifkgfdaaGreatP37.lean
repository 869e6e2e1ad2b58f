import Derived.Test.YtdoghgnifkgfdaaGreatP25
import Derived.Test.YtdoghgnifkgfdaaGreatP28
import Derived.Test.YtdoghgnifkgfdaaGreatP36
set_option maxRecDepth 100000
set_option maxHeartbeats 16000000
namespace Go.Proofs.YtdoghgnifkgfdaaGreat.Mute
open Go Go.Conc Go.RowKit
section
variable {L:Lot} {w0:World} {rn ls:List Row} {K:NetK} {C:Nat→Chn} {g cb co n cc:Nat} {num:Int} {inV:Value} {z ci:Nat→Int} {ins:List (Int×Int)}
theorem YgW {a b c:List Row} {w:World} (h:KnL L w0 a (b++c) w):KnL L w0 (a++b) c w:=by
 unfold KnL at *;rw [List.append_assoc];exact h
theorem YeU (he:Evs L) (hW:NetW L w0 K) (hin:InR L w0 inV ins) (hln:ins.length≤1000) (hN:NR K rn C) (hs:Still L w0 cb) (hcode:∀j,j<n*4→w0.cell? ⟨cb,co+j,none⟩=some (.int .i64 (ci j))) (nx:Nat) (hz:z 45=nx) (hlt:nx<n) (hn:n≤48)
  (R A:Nat) (hR4:R<4) (hA4:A<4) (op:Int) (hop:op=10∨op=11∨op=12∨op=13∨op=14∨op=16) (hopc:ci (nx*4)=op) (hR:ci (nx*4+1)=R) (hA:ci (nx*4+2)=A) (N:Int) (hNc:ci (nx*4+3)=N) (hNk:op≠14→0≤N∧N<K.k) (hsm:∀i,i<K.k→(C i).sent.length≤1000000000∧(C i).wait.length≤1000000000) (chV:Value) (w:World) (hF:KnL L w0 (ZQ K g num (.slice (some ⟨cb,co,none⟩) n cc) z::rn) ls w):
  Yl Tryz.prog false L.R1 L.D1 113 #[.pointer (some ⟨g,0,none⟩),inV,chV] w (fun v w'=>v=.int .i64 op∧∃rn',NR K rn' (exF ins op R A N (zset (zset z 46 (IntKind.i64.wrap (z 46+1))) 45 ((nx:Int)+1)) C).2∧KnL L w0 (ZQ K g num (.slice (some ⟨cb,co,none⟩) n cc) (exF ins op R A N (zset (zset z 46 (IntKind.i64.wrap (z 46+1))) 45 ((nx:Int)+1)) C).1::rn') ls w') (fun _ _=>False):=by
 have hk:(base 113).kind≠.early:=by simp [base]
 have hc0:((ZQ K g num (.slice (some ⟨cb,co,none⟩) n cc) z::rn)++ls)[0]?=some (Y5 g num (.pointer (some ⟨K.nb,0,none⟩)) (.slice (some ⟨cb,co,none⟩) n cc) z):=rfl;refine XI (ic:=0) he.ins hc0 hs hcode nx hz hlt hn R A hR4 hA4 hopc hR hA N hNc inV chV w hF fun cl cs Stop Ret _ B w3 hF=>?_;have hRi:(R:Int)<4:=by omega
 have hAi:(A:Int)<4:=by omega
 replace hF:KnL L w0 ((ZQ K g num (.slice (some ⟨cb,co,none⟩) n cc) (zset (zset z 46 (IntKind.i64.wrap (z 46+1))) 45 ((nx:Int)+1))::rn)++ls) [Yt B op R A N] w3:=hF;have hex:=fun w (hF:KnL L w0 ((ZQ K g num (.slice (some ⟨cb,co,none⟩) n cc) (zset (zset z 46 (IntKind.i64.wrap (z 46+1))) 45 ((nx:Int)+1))::rn)++ls) [Yt B op R A N] w)=>ex_q (ls:=ls++[Yt B op R A N]) he hW hin hln hN op hop N hNk hsm R A hR4 hA4 w (by have:=hF;unfold KnL at this ⊢;rw [←List.append_assoc];exact this);rcases hop with rfl|rfl|rfl|rfl|rfl|rfl
 all_goals
  repeat refine .c1 L.terms1 rfl ?_
  repeat (refine .regionL L.terms1 [0,1] (by rfl) ?_;iterate 2 (refine .opV L.terms1 rfl (by rfl) hk ?_;try walk_nrm);repeat refine .c1 L.terms1 rfl ?_;refine .condF L.terms1 (by rfl) ?_;repeat refine .c1 L.terms1 rfl ?_)
  repeat refine .c1 L.terms1 rfl ?_
  iterate 2 (try (refine .condT L.terms1 (by rfl) ?_;repeat refine .c1 L.terms1 rfl ?_))
  refine .regionL L.terms1 [0,1,2,3] (by rfl) ?_;refine .opV L.terms1 rfl (by rfl) hk ?_;try walk_nrm
  refine .op rfl (by rfl) hk fun w1 hR K hK=>?_;replace hF:=hF.rely hR;clear hR;obtain ⟨a0,a1,a2,a3⟩:=hF.lins (k:=0) rfl;go_simp;try (unfold stored;go_simp)
  refine hK _ _ ⟨?_,?_⟩
  ·refine hF.llooks (k:=0) rfl ?_;(intro e he;have hm:=mem_listed he;simp [go_sem, *] at hm;rcases hm with rfl|rfl|rfl|rfl<;>exact ⟨_,rfl⟩)
  clear hK K;clear a0 a1 a2 a3;try walk_nrm
  refine .opV L.terms1 rfl (by rfl) hk ?_;try walk_nrm
  refine Y1.callX L.terms1 rfl (by rfl) hk rfl Tryz.func129 (by rfl) rfl #[.pointer (some ⟨g,0,none⟩),.agg #[.int .i64 _,.int .i64 R,.int .i64 A,.int .i64 N],inV] (by kernel_rfl) (hex _ hF) ?_ (fun _ _ _ h=>h.elim);rintro v w2 ⟨rfl,rn1,hN1,hF2⟩;replace hF:=YgW hF2;clear hF2 hex;try walk_nrm
  repeat refine .c1 L.terms1 rfl ?_
  refine .regionL L.terms1 [0,1,2] (by rfl) ?_;refine .opV L.terms1 rfl (by rfl) hk ?_;try walk_nrm
  refine .op rfl (by rfl) hk fun w1 hR K hK=>?_;replace hF:=hF.rely hR;clear hR;obtain ⟨a0,a1,a2,a3⟩:=hF.lins (k:=0) rfl;go_simp;try (unfold stored;go_simp)
  refine hK _ _ ⟨?_,?_⟩
  ·refine hF.llooks (k:=0) rfl ?_;co_evs (exact ⟨_,rfl⟩)
  clear hK K;clear a0 a1 a2 a3;try walk_nrm
  refine .opV L.terms1 rfl (by rfl) hk ?_;try walk_nrm
  repeat refine .c1 L.terms1 rfl ?_
  refine Y1.ret L.terms1 fun todo=>?_;exact Ret _ todo _ _ rfl (Xj L.terms1 (by rfl) _) ⟨by rfl,rn1,hN1,hF.drop⟩
end
inductive OutQ where
 |on (op:Int) (said:Option Int) (z:Nat→Int) (C:Nat→Chn)
 |broke (why:Int) (z:Nat→Int)
def OutQ.sent:OutQ→List Value
 |.on _ (some x) _ _=>[said x]
 |_=>[]
def Out.with (C:Nat→Chn):Out→OutQ
 |.on op e z=>.on op e z C
 |.broke y z=>.broke y z
theorem Out.with_sent (C:Nat→Chn) (o:Out):(o.with C).sent=o.sent:=by
 cases o with
 |on op e z=>cases e<;>rfl
 |broke y z=>rfl
def isEx (op:Int):Prop:=op=10∨op=11∨op=12∨op=13∨op=14∨op=16
instance (op:Int):Decidable (isEx op):=by unfold isEx;infer_instance
def YbQ (n:Nat) (ci:Nat→Int) (ins:List (Int×Int)) (z:Nat→Int) (C:Nat→Chn):OutQ:=
 if z 45≠n∧isEx (ci ((z 45).toNat*4)) then
  let x:=exF ins (ci ((z 45).toNat*4)) (ci ((z 45).toNat*4+1)).toNat (ci ((z 45).toNat*4+2)).toNat (ci ((z 45).toNat*4+3)) (Y9 z) C
  .on (ci ((z 45).toNat*4)) none x.1 x.2
 else (Y7 n ci z).with C
def Yc8 (n k:Nat) (ci:Nat→Int):Prop:=∀j,j<n→(0≤ci (j*4)∧ci (j*4)≤16)∧(0≤ci (j*4+1)∧ci (j*4+1)<4)∧(0≤ci (j*4+2)∧ci (j*4+2)<4)∧(ci (j*4)=8∨ci (j*4)=9→0≤ci (j*4+3)∧ci (j*4+3)<n)∧(isEx (ci (j*4))→ci (j*4)≠14→0≤ci (j*4+3)∧ci (j*4+3)<k)
def LenQ (k b:Nat) (C:Nat→Chn):Prop:=∀i,i<k→(C i).sent.length≤b∧(C i).wait.length≤b
theorem LenQ.le {k b b':Nat} {C:Nat→Chn} (h:LenQ k b C) (hb:b≤b'):LenQ k b' C:=fun i hi=>⟨Nat.le_trans (h i hi).1 hb,Nat.le_trans (h i hi).2 hb⟩
theorem LenQ.set {k b i:Nat} {C:Nat→Chn} (h:LenQ k b C) {c:Chn} (hc:c.sent.length≤b∧c.wait.length≤b):LenQ k b (uN C i c):=fun j hj=>by
 by_cases e:j=i
 ·subst e;rw [YbU];exact hc
 ·rw [Yc2 _ _ e];exact h j hj
theorem LenQ.forget {k b:Nat} {C:Nat→Chn} (h:LenQ k b C) (fr:Nat→Int) (num:Int):LenQ k b (Yc9 fr num C):=fun i hi=>by
 unfold Yc9;split
 ·exact ⟨Nat.zero_le _,(h i hi).2⟩
 ·exact h i hi
theorem Yg2 {ins:List (Int×Int)} {op N:Int} {R A k b:Nat} {z:Nat→Int} {C:Nat→Chn} (h:LenQ k b C) (hop:isEx op) (hN:op≠14→0≤N∧N<k):LenQ k (b+1) (exF ins op R A N z C).2:=by
 have h1:LenQ k (b+1) C:=h.le (by omega);unfold exF;simp only [];by_cases h14:op=14
 ·subst h14;simpa using h1
 have hc:=h N.toNat (by have:=hN h14;omega);rcases hop with rfl|rfl|rfl|rfl|rfl|rfl
 ·exact h1.set ⟨by simp;omega,by show (C N.toNat).wait.length≤_;omega⟩
 ·exact h1.set ⟨by show (C N.toNat).sent.length≤_;omega,by show (C N.toNat).wait.length≤_;omega⟩
 ·cases hw:(C N.toNat).wait with
  |nil=>simpa [hw] using h1
  |cons x l=>
   rw [hw] at hc;have:=hc.2;simp at this;exact h1.set ⟨by show (C N.toNat).sent.length≤_;omega,by show l.length≤_;omega⟩
 ·exact h1
 ·exact absurd rfl h14
 ·exact h1.set ⟨by show (C N.toNat).sent.length≤_;omega,by show (C N.toNat).wait.length≤_;omega⟩
theorem Yej {n:Nat} {ins:List (Int×Int)} {op N:Int} {R A:Nat} {z:Nat→Int} {C:Nat→Chn} (h:Zok n z) (hR:R<4) (hA:A<4):Zok n (exF ins op R A N z C).1:=by
 have two:∀x y,Zok n (zset (zset z (25+R) x) (25+A) y):=fun x y=>(h.set (by omega) (by omega) _).set (by omega) (by omega) _;unfold exF;simp only [];split
 ·exact h
 split
 ·exact h
 split
 ·split
  ·exact two _ _
  ·exact two _ _
 split
 ·exact two _ _
 split
 ·exact two _ _
 ·exact h.set (by omega) (by omega) _
theorem Yc8.at {n k:Nat} {ci:Nat→Int} (h:Yc8 n k ci) {nx:Nat} (hlt:nx<n) (hne:¬isEx (ci (nx*4))):((0≤ci (nx*4)∧ci (nx*4)≤9)∨ci (nx*4)=15)∧(0≤ci (nx*4+1)∧ci (nx*4+1)<4)∧(0≤ci (nx*4+2)∧ci (nx*4+2)<4)∧(ci (nx*4)=8∨ci (nx*4)=9→0≤ci (nx*4+3)∧ci (nx*4+3)<n):=by
 obtain ⟨h1,h2,h3,h4,_⟩:=h nx hlt;refine ⟨?_,h2,h3,h4⟩;unfold isEx at hne;omega
theorem YfU {n:Nat} {ci z:Nat→Int} (hok:∀k:Nat,z 45=(k:Int)→k<n→((0≤ci (k*4)∧ci (k*4)≤9)∨ci (k*4)=15)∧(0≤ci (k*4+1)∧ci (k*4+1)<4)∧(0≤ci (k*4+2)∧ci (k*4+2)<4)∧(ci (k*4)=8∨ci (k*4)=9→0≤ci (k*4+3)∧ci (k*4+3)<n)) (h:Zok n z):match Y7 n ci z with
  |.on _ _ z'=>Zok n z'
  |.broke _ z'=>z' 24=0:=by
 by_cases hz:z 45=n
 ·have e:Y7 n ci z=.broke 3 (zset z 46 (IntKind.i64.wrap (z 46+1))):=by unfold Y7;rw [if_pos hz]
  rw [e];show zset z 46 _ 24=0;rw [YQ _ _ (by omega)];exact h.first
 ·have hf:=Yar h hz;have h1:=h.lo;have h2:=h.hi;obtain ⟨nx,hnx⟩:∃nx:Nat,(z 45).toNat=nx:=⟨_,rfl⟩;obtain ⟨ho,hR,hA,hj⟩:=hok nx (by omega) (by omega);unfold Y7;rw [if_neg hz];simp only [hnx];have hR':(ci (nx*4+1)).toNat<4:=by omega
  have hA':(ci (nx*4+2)).toNat<4:=by omega
  by_cases e1:ci (nx*4)=1
  ·rw [if_pos e1];exact hf.set (by omega) (by omega) _
  rw [if_neg e1];by_cases e2:ci (nx*4)=2
  ·rw [if_pos e2];exact hf.set (by omega) (by omega) _
  rw [if_neg e2];by_cases e3:ci (nx*4)=3
  ·rw [if_pos e3];exact hf.set (by omega) (by omega) _
  rw [if_neg e3];by_cases e4:ci (nx*4)=4
  ·rw [if_pos e4];exact hf.set (by omega) (by omega) _
  rw [if_neg e4];by_cases e5:ci (nx*4)=5
  ·rw [if_pos e5];by_cases h0:Y9 z (25+(ci (nx*4+2)).toNat)=0
   ·rw [if_pos h0];exact hf.first
   ·rw [if_neg h0];exact hf.set (by omega) (by omega) _
  rw [if_neg e5];by_cases e6:ci (nx*4)=6
  ·rw [if_pos e6];by_cases h0:Y9 z (25+(ci (nx*4+2)).toNat)<0∨16≤Y9 z (25+(ci (nx*4+2)).toNat)
   ·rw [if_pos h0];exact hf.first
   ·rw [if_neg h0];exact hf.set (by omega) (by omega) _
  rw [if_neg e6];by_cases e7:ci (nx*4)=7
  ·rw [if_pos e7];by_cases h0:Y9 z (25+(ci (nx*4+2)).toNat)<0∨16≤Y9 z (25+(ci (nx*4+2)).toNat)
   ·rw [if_pos h0];exact hf.first
   ·rw [if_neg h0];exact hf.set (by omega) (by omega) _
  rw [if_neg e7];by_cases e8:ci (nx*4)=8
  ·rw [if_pos e8];have:=hj (.inl e8);exact hf.jump (by omega) (by omega)
  rw [if_neg e8];by_cases e9:ci (nx*4)=9
  ·rw [if_pos e9];have:=hj (.inr e9);show Zok n (if _ then _ else _);split
   ·exact hf.jump (by omega) (by omega)
   ·exact hf
  rw [if_neg e9];by_cases e15:ci (nx*4)=15
  ·rw [if_pos e15];exact hf
  rw [if_neg e15];exact hf
theorem YcC {n k:Nat} {ci z:Nat→Int} {ins:List (Int×Int)} {C:Nat→Chn} {b:Nat} (hok:Yc8 n k ci) (h:Zok n z) (hl:LenQ k b C):match YbQ n ci ins z C with
  |.on _ _ z' C'=>Zok n z'∧LenQ k (b+1) C'
  |.broke _ z'=>z' 24=0:=by
 have h1:=h.lo;have h2:=h.hi;unfold YbQ;by_cases hx:z 45≠n∧isEx (ci ((z 45).toNat*4))
 ·rw [if_pos hx];obtain ⟨_,hR,hA,_,hN⟩:=hok (z 45).toNat (by omega);exact ⟨Yej (Yar h hx.1) (by omega) (by omega),Yg2 hl hx.2 (fun e=>hN hx.2 e)⟩
 ·rw [if_neg hx];have:=YfU (n:=n) (ci:=ci) (z:=z) (fun nx hnx hlt=>hok.at hlt fun he=>hx ⟨by omega,by rw [hnx];exact he⟩) h;revert this;cases Y7 n ci z with
  |on op e z'=>exact fun hz=>⟨hz,hl.le (by omega)⟩
  |broke y z'=>exact id
section
variable {L:Lot} {w0:World} {rn ls:List Row} {K:NetK} {C:Nat→Chn} {g cb co n cc:Nat} {num:Int} {inV:Value} {z ci:Nat→Int} {ins:List (Int×Int)}
theorem YgP {FS:World→Prop} (he:Evs L) (hW:NetW L w0 K) (hin:InR L w0 inV ins) (hln:ins.length≤1000) (hN:NR K rn C) (hs:Still L w0 cb) (hcode:∀j,j<n*4→w0.cell? ⟨cb,co+j,none⟩=some (.int .i64 (ci j))) (hn:n≤48) (hok:Yc8 n K.k ci) (hz:Zok n z) (hlen:LenQ K.k 1000000000 C) (w:World) (hF:KnL L w0 (ZQ K g num (YB cb co n cc) z::rn) ls w):
  XQ Tryz.prog L FS 113 #[.pointer (some ⟨g,0,none⟩),inV,.chan (some L.c)] w (YbQ n ci ins z C).sent
   (fun v w'=>∃op e z' C',YbQ n ci ins z C=.on op e z' C'∧v=.int .i64 op∧∃rn',NR K rn' C'∧KnL L w0 (ZQ K g num (YB cb co n cc) z'::rn') ls w')
   (fun ch w'=>∃y z',YbQ n ci ins z C=.broke y z'∧ch=brk y∧KnL L w0 (ZQ K g num (YB cb co n cc) z'::rn) ls w'):=by
 have h1:=hz.lo;have h2:=hz.hi;by_cases hx:z 45≠n∧isEx (ci ((z 45).toNat*4))
 ·obtain ⟨nx,hnx⟩:∃nx:Nat,z 45=nx:=⟨(z 45).toNat,by omega⟩;have ht:(z 45).toNat=nx:=by omega
  have hlt:nx<n:=by omega
  obtain ⟨hop,⟨r0,r4⟩,⟨a0,a4⟩,_,hNk⟩:=hok nx hlt;obtain ⟨R,hR⟩:∃R:Nat,ci (nx*4+1)=R:=⟨(ci (nx*4+1)).toNat,by omega⟩;obtain ⟨A,hA⟩:∃A:Nat,ci (nx*4+2)=A:=⟨(ci (nx*4+2)).toNat,by omega⟩;have hRt:(ci (nx*4+1)).toNat=R:=by omega
  have hAt:(ci (nx*4+2)).toNat=A:=by omega
  have hx2:=hx.2;rw [ht] at hx2;have e:YbQ n ci ins z C=.on (ci (nx*4)) none (exF ins (ci (nx*4)) R A (ci (nx*4+3)) (zset (zset z 46 (IntKind.i64.wrap (z 46+1))) 45 ((nx:Int)+1)) C).1 (exF ins (ci (nx*4)) R A (ci (nx*4+3)) (zset (zset z 46 (IntKind.i64.wrap (z 46+1))) 45 ((nx:Int)+1)) C).2:=by
   unfold YbQ;rw [if_pos hx];simp only [ht,hRt,hAt,Y9]
  refine (YeU he hW hin hln hN hs hcode nx hnx hlt hn R A (by omega) (by omega) _ hx2 rfl hR hA _ rfl (fun h=>hNk hx2 h) (fun i hi=>⟨(hlen i hi).1,(hlen i hi).2⟩) (.chan (some L.c)) w hF).quiet.mono (by rw [e];rfl) (fun v w' x=>⟨_,none,_,_,e,x.1,x.2⟩) (fun _ _ x=>x.elim)
 ·have e:YbQ n ci ins z C=(Y7 n ci z).with C:=by unfold YbQ;rw [if_neg hx]
  rw [e,Out.with_sent];refine (Ygy (rows:=(ZQ K g num (YB cb co n cc) z::rn)++ls) (ic:=0) he.ins rfl hs hcode hn (fun nx hnx hlt=>hok.at hlt fun h=>hx ⟨by omega,by rw [hnx];exact h⟩) ⟨h1,h2⟩ inV w hF).mono rfl (fun v w' ⟨op,x,z',e1,e2,e3⟩=>⟨op,x,z',C,by rw [e1];rfl,e2,rn,hN,e3⟩) (fun ch w' ⟨y,z',e1,e2,e3⟩=>⟨y,z',by rw [e1];rfl,e2,e3⟩)
end
structure Prg where
 n:Nat
 ci:Nat→Int
 num:Int
 fr:Nat→Int
 ins:List (Int×Int)
def runQ (p:Prg):Nat→(Nat→Int)→(Nat→Chn)→List Value×Int×(Nat→Int)×(Nat→Chn)
 |0,z,C=>([],2,z,C)
 |k+1,z,C=>match YbQ p.n p.ci p.ins z C with
  |.on op e z' C'=>if op=0 then ((OutQ.on op e z' C').sent,1,z',C') else ((OutQ.on op e z' C').sent++(runQ p k z' C').1,(runQ p k z' C').2)
  |.broke y z'=>([XU y (Yo z' 47)],3,Yo z',Yc9 p.fr p.num C)
def Yco (p:Prg) (k:Nat) (z:Nat→Int) (C:Nat→Chn) (vs:List Value):List Value:=match YbQ p.n p.ci p.ins z C with
 |.on op _ z' C'=>if op=0 then vs else (runQ p k z' C').1++vs
 |.broke y z'=>XU y (Yo z' 47)::vs
theorem Yf3 (p:Prg) (k:Nat) (z:Nat→Int) (C:Nat→Chn) (vs:List Value):(runQ p (k+1) z C).1++vs=(YbQ p.n p.ci p.ins z C).sent++Yco p k z C vs:=by
 unfold Yco;simp only [runQ];cases YbQ p.n p.ci p.ins z C with
 |on op e z' C'=>
  by_cases h:op=0
  ·simp [h]
  ·simp [h,List.append_assoc]
 |broke y z'=>rfl
theorem YdE {p:Prg} {kc:Nat} (hok:Yc8 p.n kc p.ci):∀(k b:Nat) (z:Nat→Int) (C:Nat→Chn),Zok p.n z→LenQ kc b C→Zok p.n (runQ p k z C).2.2.1∧LenQ kc (b+k) (runQ p k z C).2.2.2
 |0,_,_,_,h,hl=>⟨h,hl⟩
 |k+1,b,z,C,h,hl=>by
  have:=YcC (ins:=p.ins) hok h hl;simp only [runQ];revert this;cases YbQ p.n p.ci p.ins z C with
  |on op e z' C'=>
   rintro ⟨hz,hc⟩;by_cases h0:op=0
   ·simp only [h0,if_true];exact ⟨hz,hc.le (by omega)⟩
   ·simp only [h0,if_false];have:=YdE hok k (b+1) z' C' hz hc;exact ⟨this.1,this.2.le (by omega)⟩
  |broke y z'=>exact fun hz=>⟨Y6l hz,(hl.forget _ _).le (by omega)⟩
def goQ (p:Prg) (budget:Nat) (z:Nat→Int) (C:Nat→Chn):List Value×Int×(Nat→Int)×(Nat→Chn):=if z 3<z 47 then ([],4,z,C) else runQ p budget z C
def YbN (p:Prg) (budget:Nat) (z:Nat→Int) (C:Nat→Chn):List Value×(Nat→Int)×(Nat→Chn):=
 ((goQ p budget z C).1++[Xk (IntKind.i64.wrap ((goQ p budget z C).2.2.1 46-z 46)) (goQ p budget z C).2.1],(goQ p budget z C).2.2)
theorem Yd0 {p:Prg} {kc:Nat} (hok:Yc8 p.n kc p.ci) (budget:Nat) {b:Nat} {z:Nat→Int} {C:Nat→Chn} (hz:Zok p.n z) (hl:LenQ kc b C):Zok p.n (YbN p budget z C).2.1∧LenQ kc (b+budget) (YbN p budget z C).2.2:=by
 show Zok p.n (goQ p budget z C).2.2.1∧LenQ kc (b+budget) (goQ p budget z C).2.2.2;unfold goQ;split
 ·exact ⟨hz,hl.le (by omega)⟩
 ·exact YdE hok budget b z C hz hl
section
variable {L:Lot} {w0:World} {rows rows2:List Row} {ic g nb:Nat} {num:Int} {code:Value} {z:Nat→Int}
theorem YdQ (hi0:rows[ic]?=some (Y5 g num (.pointer (some ⟨nb,0,none⟩)) code z)) (hi:rows2[ic]?=some (Y5 g num (.pointer (some ⟨nb,0,none⟩)) code z)) (hfg:∀w,Kn L w0 rows w→Yl Tryz.prog false L.R1 L.D1 125 #[.pointer (some ⟨nb,0,none⟩),.int .i64 num] w (fun _ w'=>Kn L w0 rows2 w') (fun _ _=>False)) (w:World) (hF:Kn L w0 rows w):
  Yl Tryz.prog false L.R1 L.D1 112 #[.pointer (some ⟨g,0,none⟩)] w (fun _ w'=>Kn L w0 (rows2.set ic (Y5 g num (.pointer (some ⟨nb,0,none⟩)) code (Yo z))) w') (fun _ _=>False):=by
 replace hF:=hF.lay;have hk:(base 112).kind≠.early:=by simp [base]
 refine Yl.intro L.terms1 #[.pointer (some ⟨g,0,none⟩),undef,undef,undef,undef,undef,undef,undef,undef,undef,undef,undef,undef,undef,undef,undef,undef,undef,undef,undef,undef,undef,undef,undef,undef] Tryz.func112 rfl (by kernel_rfl) fun cl cs Stop Ret _=>?_;repeat refine .c1 L.terms1 rfl ?_
 refine Y1.drawnN (S:=KnL L w0 rows []) (Die:=fun _ _=>False) L.terms1 L.draws1 9 (by rfl) hk (by kernel_rfl) (fun _ _ _ h=>h) (fun _ _ _ h=>h.elim) fun w1 hR=>?_;replace hF:=(hF.rely hR).rely (Turn.drew _);clear hR;refine Y4 L.terms1 0 (fun _ _ h r=>KnL.rely h r) hF ?_;try walk_nrm
 refine Y4 L.terms1 1 (fun _ _ h r=>KnL.rely h r) hF ?_;try walk_nrm
 refine Y4 L.terms1 2 (fun _ _ h r=>KnL.rely h r) hF ?_;try walk_nrm
 refine Ye L.terms1 3 rfl (fun _ _ h r=>KnL.rely h r) hF ?_ fun _ hw=>⟨run_eq_of (by
  intro K_ hK;have hc:World.cell? _ ⟨g,1,none⟩=some (.pointer (some ⟨nb,0,none⟩)):=hw.cell hi0 (show 1<48 by omega);go_simp;exact hK),by
  have hc:World.cell? _ ⟨g,1,none⟩=some (.pointer (some ⟨nb,0,none⟩)):=hw.cell hi0 (show 1<48 by omega);refine hw.looks hi0 ?_;co_evs (exact ⟨_,rfl⟩)⟩
 try walk_nrm
 refine Y4 L.terms1 4 (fun _ _ h r=>KnL.rely h r) hF ?_;try walk_nrm
 refine Y4 L.terms1 5 (fun _ _ h r=>KnL.rely h r) hF ?_;try walk_nrm
 refine Y4 L.terms1 6 (fun _ _ h r=>KnL.rely h r) hF ?_;try walk_nrm
 refine Ye L.terms1 7 rfl (fun _ _ h r=>KnL.rely h r) hF ?_ fun _ hw=>⟨run_eq_of (by
  intro K_ hK;have hc:World.cell? _ ⟨g,0,none⟩=some (.int .i64 num):=hw.cell hi0 (show 0<48 by omega);go_simp;exact hK),by
  have hc:World.cell? _ ⟨g,0,none⟩=some (.int .i64 num):=hw.cell hi0 (show 0<48 by omega);refine hw.looks hi0 ?_;co_evs (exact ⟨_,rfl⟩)⟩
 try walk_nrm
 refine JS (i:=8) (by first|kernel_rfl|decide +kernel) rfl (by rfl) rfl Tryz.func125 (by rfl) rfl #[.pointer (some ⟨nb,0,none⟩),.int .i64 num] (by kernel_rfl) (hfg _ hF.drop) ?_;intro v w2 hF2;replace hF:KnL L w0 rows2 [] w2:=Kn.lay hF2;clear hF2;refine ⟨.inr (Z8 rfl (by first|kernel_rfl|decide +kernel)),?_⟩;try walk_nrm
 refine Xi (by first|kernel_rfl|decide +kernel) ?_ _;repeat refine .c1 L.terms1 rfl ?_
 replace hF:=hF.drop;refine .regionL L.terms1 [0,1,2,3,4,5,6,7] (by rfl) ?_;iterate 4 (refine .opV L.terms1 rfl (by rfl) hk ?_;try walk_nrm)
 refine Y1.op rfl (by rfl) hk ?_;intro w1 hR K_ hK;replace hF:=hF.rely hR;clear hR;have hsz:(Tryz.prog.info? 184).map (·.size)=some (Xb z).length:=by rw [JR];exact Y1K
 rw [Y5Z (b:=g) (off:=4) rfl rfl (Xb z) _ (Y3m hF hi) Tryz.underlying184 rfl hsz];refine hK _ _ ⟨?_,?_⟩
 ·refine hF.doesAny hi (.refl _) rfl fun e he=>?_;exact Ya4 (b:=g) (off:=4) rfl rfl (Xb z) _ (Y3m hF hi) Tryz.underlying184 rfl hsz e (mem_listed he)
 clear hK K_;try walk_nrm
 iterate 2 (refine .opV L.terms1 rfl (by rfl) hk ?_;try walk_nrm)
 refine Y1.op rfl (by rfl) hk ?_;intro w1 hR K_ hK;replace hF:=hF.rely hR;clear hR;have hsz2:(Tryz.prog.info? 184).map (·.size)=some (Xb z).toArray.size:=by rw [List.size_toArray,JR];exact Y1K
 have hone:=all_oneCell_toArray (Y9o z);have hrow:=(hF.row ic _ hi).rw.row;have hth:w1.there g 25 (Xb z).toArray.size:=fun j hj=>by
  rw [List.size_toArray,JR] at hj;exact ⟨by rw [hrow.cell (j:=25+j) (show 25+j<48 by omega)];rfl,hrow.frozen _⟩
 obtain ⟨hF2,ht2,hc2⟩:=Kn.setCells (Xb z) 25 _ _ _ hF hi;rw [Yaf (b:=g) (off:=25) rfl rfl (Xb z).toArray rfl hth hsz2 hone];refine hK _ _ ⟨?_,?_⟩
 ·refine hF.doesAny hi ht2 hc2 fun e he=>?_;exact Y7e (b:=g) (off:=25) rfl rfl (Xb z).toArray rfl 48 _ _ hrow (by rw [List.size_toArray,JR];omega) hsz2 hone e (mem_listed he)
 clear hK K_ hth hrow hone hsz2 ht2 hc2;replace hF:Kn L w0 (rows2.set ic (Y5 g num (.pointer (some ⟨nb,0,none⟩)) code (Zj z))) _:=hF2.congr hi rfl rfl rfl fun j _=>Y5w j;clear hF2;try walk_nrm
 replace hF:=hF.lay;repeat refine .c1 L.terms1 rfl ?_
 refine .regionL L.terms1 [0,1,2,3,4,5,6,7] (by rfl) ?_;iterate 3 (refine .opV L.terms1 rfl (by rfl) hk ?_;try walk_nrm)
 refine .op rfl (by rfl) hk fun w1 hR K_ hK=>?_;replace hF:=hF.rely hR;clear hR;have hc:World.cell? _ ⟨g,47,none⟩=some (.int .i64 (Zj z 47)):=KnL.cz hi hF (by omega) (by omega);rw [show Zj z 47=z 47 from rfl] at hc;go_simp;try (unfold stored;go_simp)
 refine hK _ _ ⟨?_,?_⟩
 ·refine KnL.clooks hi hF ?_;co_evs (exact ⟨_,rfl⟩)
 clear hK K_;clear hc;try walk_nrm
 iterate 3 (refine .opV L.terms1 rfl (by rfl) hk ?_;try walk_nrm)
 refine .op rfl (by rfl) hk fun w1 hR K_ hK=>?_;replace hF:=hF.rely hR;clear hR;have hc:World.cell? _ ⟨g,47,none⟩=some (.int .i64 (Zj z 47)):=KnL.cz hi hF (by omega) (by omega);rw [show Zj z 47=z 47 from rfl] at hc;have hz2:World.frozen? _ ⟨g,47,none⟩=false:=KnL.cfz hi hF 47;go_simp;try (unfold stored;go_simp)
 refine hK _ _ ⟨?_,?_⟩
 ·refine KnL.cdoes hi hF 47 _ ?_;co_evs (exact rfl)
 clear hK K_;clear hc hz2;replace hF:=KnL.cset hi hF (j:=47) (by omega) (IntKind.i64.wrap (z 47+1));try walk_nrm
 repeat refine .c1 L.terms1 rfl ?_
 refine Y1.fin L.terms1 ?_;refine Ret _ _ _ _ rfl (Y0L L.terms1 (by rfl) _) ?_;have e:zset (Zj z) 47 (IntKind.i64.wrap (z 47+1))=Yo z:=funext fun j=>Y9e z j;rw [e] at hF;exact hF.drop
end
section
variable {L:Lot} {w0:World} {rn ls:List Row} {K:NetK} {C:Nat→Chn} {g:Nat} {num:Int} {code:Value} {z:Nat→Int}
theorem Ygn (he:Evs L) (hW:NetW L w0 K) (hN:NR K rn C) (w:World) (hF:KnL L w0 (ZQ K g num code z::rn) ls w):
  Yl Tryz.prog false L.R1 L.D1 112 #[.pointer (some ⟨g,0,none⟩)] w (fun _ w'=>∃rn',NR K rn' (Yc9 K.fr num C)∧KnL L w0 (ZQ K g num code (Yo z)::rn') ls w') (fun _ _=>False):=by
 obtain ⟨a,ce,n0,ha⟩:=hW.n0;by_cases hk0:K.k=0
 ·refine (YdQ (rows:=(ZQ K g num code z::rn)++ls) (rows2:=(ZQ K g num code z::rn)++ls) (ic:=0) rfl rfl (fun w hF=>Y9a a ce hW.sn (by rw [n0,hk0]) num w hF) w hF).to fun v w' h=>⟨rn,fun h0=>absurd h0 (by omega),h⟩
 ·have hk:0<K.k:=by omega
  have ha:=ha hk;subst ha;obtain ⟨fq,fs,p,hx⟩:=hN hk;obtain ⟨cq,n1⟩:=hW.n1 hk;obtain ⟨cs_,n2⟩:=hW.n2 hk;have l0:=(List.getElem?_eq_some_iff.1 hx.q).1;have l1:=(List.getElem?_eq_some_iff.1 hx.s).1;have q1:((ZQ K g num code z::rn)++ls)[1]?=some (rowQ K fq):=by
   rw [show (ZQ K g num code z::rn)++ls=ZQ K g num code z::(rn++ls) from rfl,List.getElem?_cons_succ,List.getElem?_append_left l0];exact hx.q
  have s1:((ZQ K g num code z::rn)++ls)[2]?=some (YbP K fs):=by
   rw [show (ZQ K g num code z::rn)++ls=ZQ K g num code z::(rn++ls) from rfl,List.getElem?_cons_succ,List.getElem?_append_left l1];exact hx.s
  have hfx:=hx.forget num;have e2:YbY ((ZQ K g num code z::rn)++ls) 1 2 (rowQ K fq) (YbP K fs) K.fr num K.k=(ZQ K g num code z::((rn.set 0 ((rowQ K fq).forgetQ K.fr num K.k)).set 1 ((YbP K fs).forgetS K.fr num K.k)))++ls:=by
   unfold YbY;rw [List.set_append_left _ _ (by simp;omega),List.set_append_left _ _ (by simp;omega)];rfl
  refine (YdQ (rows:=(ZQ K g num code z::rn)++ls) (rows2:=YbY ((ZQ K g num code z::rn)++ls) 1 2 (rowQ K fq) (YbP K fs) K.fr num K.k) (ic:=0) rfl (by rw [e2];rfl) (fun w hF=>(YeP (iq:=1) (is:=2) he.ends q1 s1 (by omega) hW.hqm hW.hsm hW.sn n0 n1 n2 (hW.se hk) hW.e0 hW.e1 hW.hk w hF).to fun v w' h=>h.2) w hF).to fun v w' h=>?_;rw [e2] at h;exact ⟨_,fun _=>⟨_,_,_,hfx⟩,h⟩
end
section
variable {L:Lot} {w0:World} {rn:List Row} {K:NetK} {C:Nat→Chn} {g p c y:Nat} {num:Int} {code:Value} {z:Nat→Int}
theorem YeC {FS:World→Prop} {vs:List Value} {fr:Frame} {cs:List Frame} (he:Evs L) (hW:NetW L w0 K) (hN:NR K rn C) (why v0:Int) (hm:fr.mode=.panicking (brk why)) (hd:fr.defers=[runD p c y]) (w:World) (hF:KnL L w0 (ZQ K g num code z::rn) (runL L g p c y v0) w)
  (h:∀rn' w',NR K rn' (Yc9 K.fr num C)→KnL L w0 (ZQ K g num code (Yo z)::rn') (runL L g p c y 3) w'→Y1 Tryz.prog false L.R1 L.D1 (StopB Tryz.prog L.c L.R1 L.D1 L.SL FS vs) (G {fr with defers:=[],mode:=.returning} cs) w'):
  Y1 Tryz.prog false L.R1 L.D1 (StopB Tryz.prog L.c L.R1 L.D1 L.SL FS (XU why (Yo z 47)::vs)) (G fr cs) w:=by
 have hk:(baseD 111).kind≠.early:=by simp [baseD]
 refine Y1.unwind L.terms1 #[.pointer (some ⟨p,0,none⟩),.pointer (some ⟨c,0,none⟩),.pointer (some ⟨y,0,none⟩),undef,undef,undef,undef,undef,undef,undef,undef,undef,undef,undef,undef,undef,undef,undef,undef,undef] (by rw [hm];simp) hd Tryz.func111 (by rfl) rfl (by kernel_rfl) ?_;repeat refine .c1 L.terms1 rfl ?_
 refine .regionL L.terms1 [0,1,2,3,4,5,6] (by rfl) ?_;refine Y1.recoverSome L.terms1 rfl (by rfl) rfl rfl hm ?_;try walk_nrm
 refine .op rfl (by rfl) hk fun w1 hR K_ hK=>?_;replace hF:=hF.rely hR;clear hR;go_simp;try (unfold stored;go_simp)
 refine hK _ _ ⟨?_,?_⟩
 ·rw [listed_nil (by rfl)];exact Terms.idle L.terms1 _
 clear hK K_;try walk_nrm
 iterate 5 (refine .opV L.terms1 rfl (by rfl) hk ?_;try walk_nrm)
 repeat refine .c1 L.terms1 rfl ?_
 refine .regionL L.terms1 [0] (by rfl) ?_;refine .opV L.terms1 rfl (by rfl) hk ?_;try walk_nrm
 repeat refine .c1 L.terms1 rfl ?_
 refine Y1.condT L.terms1 (by rfl) ?_;repeat refine .c1 L.terms1 rfl ?_
 refine .regionL L.terms1 [0,1] (by rfl) ?_;refine .op rfl (by rfl) hk fun w1 hR K_ hK=>?_;replace hF:=hF.rely hR;clear hR;have hc:World.cell? _ ⟨p,0,none⟩=some (.pointer (some ⟨g,0,none⟩)):=hF.l1 (k:=0) rfl;go_simp;try (unfold stored;go_simp)
 refine hK _ _ ⟨?_,?_⟩
 ·refine hF.llooks (k:=0) rfl ?_;co_evs (exact ⟨_,rfl⟩)
 clear hK K_;clear hc;try walk_nrm
 refine Y1.callX L.terms1 rfl (by rfl) hk rfl Tryz.func112 (by rfl) rfl #[.pointer (some ⟨g,0,none⟩)] (by kernel_rfl) (Ygn he hW hN _ hF) ?_ (fun _ _ _ h=>h.elim);rintro v w2 ⟨rn1,hN1,hF2⟩;replace hF:=hF2;clear hF2;try walk_nrm
 repeat refine .c1 L.terms1 rfl ?_
 refine Y1.drawnT (S:=KnL L w0 (ZQ K g num code (Yo z)::rn1) (runL L g p c y v0)) L.terms1 L.draws1 8 (by rfl) hk (by kernel_rfl) ?_;intro w1 hR;replace hF:=(hF.rely hR).rely (Turn.drew _);clear hR;co_applyP Yq L.terms1 (fun _ _ _ _ h r=>⟨h.1,h.2.rely L.terms1.trans r⟩) (fun _ _ h r=>KnL.rely h r) ?hqr1 (i:=0) rfl (by first|kernel_rfl|decide +kernel) (by first|kernel_rfl|decide +kernel) (by first|kernel_rfl|decide +kernel) (by first|kernel_rfl|decide +kernel) (.inl ⟨by rfl,fun _ hw=>⟨run_eq_of ?run1,?guar1⟩⟩) hF ?rest1
 case hqr1=>exact fun _ _ _ h r=>Y1.rely L.terms1.trans h r
 case run1=>
  intro K_ hK;have hc:World.cell? _ ⟨c,0,none⟩=some (.chan (some L.c)):=hw.l1 (k:=1) rfl;go_simp;exact hK
 case guar1=>
  have hc:World.cell? _ ⟨c,0,none⟩=some (.chan (some L.c)):=hw.l1 (k:=1) rfl;refine hw.llooks (k:=1) rfl ?_;co_evs (exact ⟨_,rfl⟩)
 try walk_nrm
 co_applyP Yq L.terms1 (fun _ _ _ _ h r=>⟨h.1,h.2.rely L.terms1.trans r⟩) (fun _ _ h r=>KnL.rely h r) ?hqr2 (i:=1) rfl (by first|kernel_rfl|decide +kernel) (by first|kernel_rfl|decide +kernel) (by first|kernel_rfl|decide +kernel) (by first|kernel_rfl|decide +kernel) (.inl ⟨by rfl,fun _ hw=>⟨run_eq_of ?run2,?guar2⟩⟩) hF ?rest2
 case hqr2=>exact fun _ _ _ h r=>Y1.rely L.terms1.trans h r
 case run2=>
  intro K_ hK;skip;go_simp;exact hK
 case guar2=>
  skip
  co_quiet L.terms1
 try walk_nrm
 co_applyP Yq L.terms1 (fun _ _ _ _ h r=>⟨h.1,h.2.rely L.terms1.trans r⟩) (fun _ _ h r=>KnL.rely h r) ?hqr3 (i:=2) rfl (by first|kernel_rfl|decide +kernel) (by first|kernel_rfl|decide +kernel) (by first|kernel_rfl|decide +kernel) (by first|kernel_rfl|decide +kernel) (.inl ⟨by rfl,fun _ hw=>⟨run_eq_of ?run3,?guar3⟩⟩) hF ?rest3
 case hqr3=>exact fun _ _ _ h r=>Y1.rely L.terms1.trans h r
 case run3=>
  intro K_ hK;have hc:World.cell? _ ⟨p,0,none⟩=some (.pointer (some ⟨g,0,none⟩)):=hw.l1 (k:=0) rfl;go_simp;exact hK
 case guar3=>
  have hc:World.cell? _ ⟨p,0,none⟩=some (.pointer (some ⟨g,0,none⟩)):=hw.l1 (k:=0) rfl;refine hw.llooks (k:=0) rfl ?_;co_evs (exact ⟨_,rfl⟩)
 try walk_nrm
 co_applyP Yq L.terms1 (fun _ _ _ _ h r=>⟨h.1,h.2.rely L.terms1.trans r⟩) (fun _ _ h r=>KnL.rely h r) ?hqr4 (i:=3) rfl (by first|kernel_rfl|decide +kernel) (by first|kernel_rfl|decide +kernel) (by first|kernel_rfl|decide +kernel) (by first|kernel_rfl|decide +kernel) (.inl ⟨by rfl,fun _ hw=>⟨run_eq_of ?run4,?guar4⟩⟩) hF ?rest4
 case hqr4=>exact fun _ _ _ h r=>Y1.rely L.terms1.trans h r
 case run4=>
  intro K_ hK;skip;go_simp;exact hK
 case guar4=>
  skip
  co_quiet L.terms1
 try walk_nrm
 co_applyP Yq L.terms1 (fun _ _ _ _ h r=>⟨h.1,h.2.rely L.terms1.trans r⟩) (fun _ _ h r=>KnL.rely h r) ?hqr5 (i:=4) rfl (by first|kernel_rfl|decide +kernel) (by first|kernel_rfl|decide +kernel) (by first|kernel_rfl|decide +kernel) (by first|kernel_rfl|decide +kernel) (.inl ⟨by rfl,fun _ hw=>⟨run_eq_of ?run5,?guar5⟩⟩) hF ?rest5
 case hqr5=>exact fun _ _ _ h r=>Y1.rely L.terms1.trans h r
 case run5=>
  intro K_ hK;skip;go_simp;exact hK
 case guar5=>
  skip
  co_quiet L.terms1
 try walk_nrm
 co_applyP Yq L.terms1 (fun _ _ _ _ h r=>⟨h.1,h.2.rely L.terms1.trans r⟩) (fun _ _ h r=>KnL.rely h r) ?hqr6 (i:=5) rfl (by first|kernel_rfl|decide +kernel) (by first|kernel_rfl|decide +kernel) (by first|kernel_rfl|decide +kernel) (by first|kernel_rfl|decide +kernel) (.inl ⟨by rfl,fun _ hw=>⟨run_eq_of ?run6,?guar6⟩⟩) hF ?rest6
 case hqr6=>exact fun _ _ _ h r=>Y1.rely L.terms1.trans h r
 case run6=>
  intro K_ hK;have hc:World.cell? _ ⟨g,47,none⟩=some (.int .i64 (Yo z 47)):=KnL.cellZ (ic:=0) hw rfl (by omega) (by omega);go_simp;exact hK
 case guar6=>
  have hc:World.cell? _ ⟨g,47,none⟩=some (.int .i64 (Yo z 47)):=KnL.cellZ (ic:=0) hw rfl (by omega) (by omega);refine KnL.looks (i:=0) (r:=ZQ K g num code (Yo z)) hw rfl ?_;co_evs (exact ⟨_,rfl⟩)
 try walk_nrm
 co_applyP Yq L.terms1 (fun _ _ _ _ h r=>⟨h.1,h.2.rely L.terms1.trans r⟩) (fun _ _ h r=>KnL.rely h r) ?hqr7 (i:=6) rfl (by first|kernel_rfl|decide +kernel) (by first|kernel_rfl|decide +kernel) (by first|kernel_rfl|decide +kernel) (by first|kernel_rfl|decide +kernel) (.inl ⟨by rfl,fun _ hw=>⟨run_eq_of ?run7,?guar7⟩⟩) hF ?rest7
 case hqr7=>exact fun _ _ _ h r=>Y1.rely L.terms1.trans h r
 case run7=>
  intro K_ hK;skip;go_simp;exact hK
 case guar7=>
  skip
  co_quiet L.terms1
 try walk_nrm
 refine Y1P (i:=7) (by first|kernel_rfl|decide +kernel) rfl (by rfl) (Z8 rfl (by first|kernel_rfl|decide +kernel)) ⟨rfl,?_⟩;refine Y1.send rfl (by rfl) hk rfl rfl rfl ?_;try walk_nrm
 repeat refine .c1 L.terms1 rfl ?_
 refine .regionL L.terms1 [0] (by rfl) ?_;refine .op rfl (by rfl) hk fun w1 hR K_ hK=>?_;replace hF:=hF.rely hR;clear hR;have hc:World.cell? _ ⟨y,0,none⟩=some (.int .i64 v0):=hF.l1 (k:=2) rfl;have hz2:World.frozen? _ ⟨y,0,none⟩=false:=hF.lfrozen (k:=2) rfl 0;go_simp;try (unfold stored;go_simp)
 refine hK _ _ ⟨?_,?_⟩
 ·refine hF.ldoes (k:=2) rfl 0 _ ?_;co_evs (exact rfl)
 clear hK K_;clear hc hz2;replace hF:KnL L w0 (ZQ K g num code (Yo z)::rn1) (runL L g p c y 3) _:=hF.set1 (k:=2) rfl (.int .i64 3);try walk_nrm
 repeat refine .c1 L.terms1 rfl ?_
 refine Y1.fin L.terms1 ?_;exact Y1.leaveD L.terms1 Tryz.func111 rfl (Y0L L.terms1 (by rfl) _) (.inr ⟨_,rfl,rfl⟩) (h rn1 _ hN1 hF)
end
end Go.Proofs.YtdoghgnifkgfdaaGreat.Mute
