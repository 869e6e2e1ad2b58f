import Derived.Conc.TokenWalk
import Derived.Test.YtdoghgnifkgfdaaGreatP26
set_option maxRecDepth 100000
set_option maxHeartbeats 4000000
namespace Go.Proofs.YtdoghgnifkgfdaaGreat.Mute
open Go Go.Conc Go.RowKit
def runF (n:Nat) (ci:Nat→Int):Nat→(Nat→Int)→List Value×Int×(Nat→Int)
 |0,z=>([],2,z)
 |k+1,z=>match Y7 n ci z with
  |.on op e z'=>if op=0 then ((Out.on op e z').sent,1,z') else ((Out.on op e z').sent++(runF n ci k z').1,(runF n ci k z').2)
  |.broke y z'=>([XU y (Yo z' 47)],3,Yo z')
def ZH (n:Nat) (ci:Nat→Int) (k:Nat) (z:Nat→Int) (vs:List Value):List Value:=match Y7 n ci z with
 |.on op _ z'=>if op=0 then vs else (runF n ci k z').1++vs
 |.broke y z'=>XU y (Yo z' 47)::vs
theorem Y7H (n:Nat) (ci:Nat→Int) (k:Nat) (z:Nat→Int) (vs:List Value):(runF n ci (k+1) z).1++vs=(Y7 n ci z).sent++ZH n ci k z vs:=by
 unfold ZH;simp only [runF];cases Y7 n ci z with
 |on op e z'=>
  by_cases h:op=0
  ·simp [h]
  ·simp [h,List.append_assoc]
 |broke y z'=>rfl
structure Zok (n:Nat) (z:Nat→Int):Prop where
 lo:0≤z 45
 hi:z 45≤n
 first:z 24=0
theorem J9 (z:Nat→Int) (j:Nat) (v:Int) (i:Nat):zset z j v i=if i=j then v else z i:=rfl
theorem Yar {n:Nat} {z:Nat→Int} (h:Zok n z) (hz:z 45≠n):Zok n (Y9 z):=by
 have h1:=h.lo;have h2:=h.hi;refine ⟨?_,?_,?_⟩
 ·show 0≤zset _ 45 _ 45;rw [Z7];omega
 ·show zset _ 45 _ 45≤_;rw [Z7];omega
 ·show zset (zset z 46 _) 45 _ 24=0;rw [YQ _ _ (by omega),YQ _ _ (by omega)];exact h.first
theorem Zok.set {n:Nat} {z:Nat→Int} (h:Zok n z) {j:Nat} (h1:25≤j) (h2:j≠45) (v:Int):Zok n (zset z j v):=
 ⟨by rw [YQ _ _ (by omega)];exact h.lo,by rw [YQ _ _ (by omega)];exact h.hi,by rw [YQ _ _ (by omega)];exact h.first⟩
theorem Zok.jump {n:Nat} {z:Nat→Int} (h:Zok n z) {v:Int} (h1:0≤v) (h2:v≤n):Zok n (zset z 45 v):=
 ⟨by rw [Z7];exact h1,by rw [Z7];exact h2,by rw [YQ _ _ (by omega)];exact h.first⟩
theorem Y6l {n:Nat} {z:Nat→Int} (h:z 24=0):Zok n (Yo z):=by
 have e:Yo z 45=0:=by
  have:Yo z 45=z 24:=rfl;rw [this];exact h
 exact ⟨by rw [e];omega,by rw [e];omega,h⟩
theorem Y06 {n:Nat} {ci z:Nat→Int} (hok:Xc n ci) (h:Zok n z):match Y7 n ci z with
  |.on _ _ z'=>Zok n z'
  |.broke _ z'=>z' 24=0:=by
 by_cases hz:z 45=n
 ·have e:Y7 n ci z=.broke 3 (zset z 46 (IntKind.i64.wrap (z 46+1))):=by unfold Y7;rw [if_pos hz]
  rw [e];show zset z 46 _ 24=0;rw [YQ _ _ (by omega)];exact h.first
 ·have hf:=Yar h hz;have h1:=h.lo;have h2:=h.hi;obtain ⟨nx,hnx⟩:∃nx:Nat,(z 45).toNat=nx:=⟨_,rfl⟩;obtain ⟨ho,hR,hA,hj⟩:=hok nx (by omega);unfold Y7;rw [if_neg hz];simp only [hnx];have hR':(ci (nx*4+1)).toNat<4:=by omega
  have hA':(ci (nx*4+2)).toNat<4:=by omega
  by_cases e1:ci (nx*4)=1
  ·rw [if_pos e1];exact hf.set (by omega) (by omega) _
  rw [if_neg e1];by_cases e2:ci (nx*4)=2
  ·rw [if_pos e2];exact hf.set (by omega) (by omega) _
  rw [if_neg e2];by_cases e3:ci (nx*4)=3
  ·rw [if_pos e3];exact hf.set (by omega) (by omega) _
  rw [if_neg e3];by_cases e4:ci (nx*4)=4
  ·rw [if_pos e4];exact hf.set (by omega) (by omega) _
  rw [if_neg e4];by_cases e5:ci (nx*4)=5
  ·rw [if_pos e5];by_cases h0:Y9 z (25+(ci (nx*4+2)).toNat)=0
   ·rw [if_pos h0];exact hf.first
   ·rw [if_neg h0];exact hf.set (by omega) (by omega) _
  rw [if_neg e5];by_cases e6:ci (nx*4)=6
  ·rw [if_pos e6];by_cases h0:Y9 z (25+(ci (nx*4+2)).toNat)<0∨16≤Y9 z (25+(ci (nx*4+2)).toNat)
   ·rw [if_pos h0];exact hf.first
   ·rw [if_neg h0];exact hf.set (by omega) (by omega) _
  rw [if_neg e6];by_cases e7:ci (nx*4)=7
  ·rw [if_pos e7];by_cases h0:Y9 z (25+(ci (nx*4+2)).toNat)<0∨16≤Y9 z (25+(ci (nx*4+2)).toNat)
   ·rw [if_pos h0];exact hf.first
   ·rw [if_neg h0];exact hf.set (by omega) (by omega) _
  rw [if_neg e7];by_cases e8:ci (nx*4)=8
  ·rw [if_pos e8];have:=hj (.inl e8);exact hf.jump (by omega) (by omega)
  rw [if_neg e8];by_cases e9:ci (nx*4)=9
  ·rw [if_pos e9];have:=hj (.inr e9);show Zok n (if _ then _ else _);split
   ·exact hf.jump (by omega) (by omega)
   ·exact hf
  rw [if_neg e9];by_cases e15:ci (nx*4)=15
  ·rw [if_pos e15];exact hf
  rw [if_neg e15];exact hf
theorem Y3f {n:Nat} {ci:Nat→Int} (hok:Xc n ci):∀(k:Nat) (z:Nat→Int),Zok n z→Zok n (runF n ci k z).2.2
 |0,_,h=>h
 |k+1,z,h=>by
  have:=Y06 hok h;simp only [runF];revert this;cases Y7 n ci z with
  |on op e z'=>
   intro hz;by_cases h0:op=0
   ·simp only [h0,if_true];exact hz
   ·simp only [h0,if_false];exact Y3f hok k z' hz
  |broke y z'=>exact fun hz=>Y6l hz
def goF (n:Nat) (ci:Nat→Int) (budget:Nat) (z:Nat→Int):List Value×Int×(Nat→Int):=if z 3<z 47 then ([],4,z) else runF n ci budget z
def Xk (k y:Int):Value:=.agg #[.int .i64 3,.int .i64 k,.int .i64 y]
def Yf (n:Nat) (ci:Nat→Int) (budget:Nat) (z:Nat→Int):List Value×(Nat→Int):=
 ((goF n ci budget z).1++[Xk (IntKind.i64.wrap ((goF n ci budget z).2.2 46-z 46)) (goF n ci budget z).2.1],(goF n ci budget z).2.2)
section
variable {L:Lot} {w0:World} {rows:List Row} {ic g nb p c y cb co n cc:Nat} {num:Int} {z ci:Nat→Int}
theorem Y11 {w:World} {v:Int} {tmps:Array Value} (hF:KnL L w0 rows (runL L g p c y v) w) (h8:tmps.getD 8 undef=.pointer (some ⟨y,0,none⟩)):ZK Tryz.prog L.R1 L.D1 84 Tryz.f84 tmps w (.int .i64 v):=fun w₁ hR=>by
 replace hF:=hF.rely hR;have hc:w₁.cell? ⟨y,0,none⟩=some (.int .i64 v):=hF.l1 (k:=2) rfl;have h8':tmps[8]?.getD undef=.pointer (some ⟨y,0,none⟩):=by simpa using h8
 constructor
 ·simp [results,asAddr,go_sem,hc,h8']
 ·refine hF.llooks (k:=2) rfl fun e he=>?_;have hm:=mem_seen he;simp [results,asAddr,go_sem,hc,h8'] at hm;subst hm;exact ⟨_,rfl⟩
theorem Ybt {FS:World→Prop} (hev:((97:Nat)==L.ev)=false) (hev1:((143:Nat)==L.ev)=false) (hev2:((221:Nat)==L.ev)=false) (hev3:((2:Nat)==L.ev)=false)
  (hi:rows[ic]?=some (Y5 g num (.pointer (some ⟨nb,0,none⟩)) (YB cb co n cc) z)) (hs:Still L w0 cb) (hcode:∀j,j<n*4→w0.cell? ⟨cb,co+j,none⟩=some (.int .i64 (ci j))) (hn:n≤48) (hok:Xc n ci) (hz:Zok n z) (q:Option Addr) (cap:Nat) (hsn:Still L w0 nb) (hnet:w0.cell? ⟨nb,0,none⟩=some (.slice q 0 cap))
  (budget:Nat) (hbud:budget≤200) (inV:Value) (w:World) (hF:Kn L w0 rows w):
  XQ Tryz.prog L FS 84 #[.pointer (some ⟨g,0,none⟩),.int .i64 budget,inV,.chan (some L.c)] w (goF n ci budget z).1
   (fun v w'=>v=.int .i64 (goF n ci budget z).2.1∧Kn L w0 (rows.set ic (Y5 g num (.pointer (some ⟨nb,0,none⟩)) (YB cb co n cc) (goF n ci budget z).2.2)) w') (fun _ _=>False):=by
 replace hF:=hF.start hi;have hk:(base 84).kind≠.early:=by simp [base]
 refine XQ.intro #[.pointer (some ⟨g,0,none⟩),.int .i64 budget,inV,.chan (some L.c),undef,undef,undef,undef,undef,undef,undef,undef,undef,undef,undef,undef,undef,undef,undef,undef,undef] Tryz.func84 rfl (by kernel_rfl) fun cl cs vs Ret _=>?_;repeat refine .c1 L.terms1 rfl ?_
 refine .regionL L.terms1 [0,1,2] (by rfl) ?_;refine .op rfl (by rfl) hk fun w1 hR K hK=>?_;replace hF:=hF.rely hR;clear hR;go_simp;try (unfold stored;go_simp)
 refine hK _ _ ⟨?_,?_⟩
 ·refine hF.doesAlloc _ ?_;(intro e he;have hm:=mem_listed he;simp [go_sem, *] at hm)
 clear hK K;replace hF:KnL L w0 (rows.set ic (Y5 g num (.pointer (some ⟨nb,0,none⟩)) (YB cb co n cc) z)) ([one1 w1.heap.size 143 (.pointer (some ⟨g,0,none⟩))]) _:=hF.new1 hev1 _;generalize hB:w1.heap.size=p at *;generalize hW:(w1.alloc (.cells #[.pointer (some ⟨g,0,none⟩)] 143))=w2 at *;clear hW hB w1;try walk_nrm
 refine .op rfl (by rfl) hk fun w1 hR K hK=>?_;replace hF:=hF.rely hR;clear hR;go_simp;try (unfold stored;go_simp)
 refine hK _ _ ⟨?_,?_⟩
 ·refine hF.doesAlloc _ ?_;(intro e he;have hm:=mem_listed he;simp [go_sem, *] at hm)
 clear hK K;replace hF:KnL L w0 (rows.set ic (Y5 g num (.pointer (some ⟨nb,0,none⟩)) (YB cb co n cc) z)) ([one1 p 143 (.pointer (some ⟨g,0,none⟩)),one1 w1.heap.size 221 (.chan (some L.c))]) _:=hF.new1 hev2 _;generalize hB:w1.heap.size=c at *;generalize hW:(w1.alloc (.cells #[.chan (some L.c)] 221))=w2 at *;clear hW hB w1;try walk_nrm
 refine .op rfl (by rfl) hk fun w1 hR K hK=>?_;replace hF:=hF.rely hR;clear hR;go_simp;try (unfold stored;go_simp)
 refine hK _ _ ⟨?_,?_⟩
 ·refine hF.doesAlloc _ ?_;(intro e he;have hm:=mem_listed he;simp [go_sem, *] at hm)
 clear hK K;replace hF:KnL L w0 (rows.set ic (Y5 g num (.pointer (some ⟨nb,0,none⟩)) (YB cb co n cc) z)) (runL L g p c w1.heap.size 0) _:=hF.new1 hev3 _;generalize hB:w1.heap.size=y at *;generalize hW:(w1.alloc (.cells #[.int .i64 0] 2))=w2 at *;clear hW hB w1;try walk_nrm
 repeat refine .c1 L.terms1 rfl ?_
 refine .regionL L.terms1 [0,1] (by rfl) ?_;refine .op rfl (by rfl) hk fun w1 hR K hK=>?_;replace hF:=hF.rely hR;clear hR;have hc:World.cell? _ ⟨p,0,none⟩=some (.pointer (some ⟨g,0,none⟩)):=hF.l1 (k:=0) rfl;go_simp;try (unfold stored;go_simp)
 refine hK _ _ ⟨?_,?_⟩
 ·refine hF.llooks (k:=0) rfl ?_;co_evs (exact ⟨_,rfl⟩)
 clear hK K;clear hc;try walk_nrm
 refine Y1.callX L.terms1 rfl (by rfl) hk rfl Tryz.func86 (by rfl) rfl #[.pointer (some ⟨g,0,none⟩)] (by kernel_rfl) (Y8Z (ic:=ic) (at2 hi (Y5 g num (.pointer (some ⟨nb,0,none⟩)) (YB cb co n cc) z)) _ hF) ?_ (fun _ _ _ h=>h.elim);rintro v w2 ⟨rfl,hF2⟩;replace hF:KnL L w0 (rows.set ic (Y5 g num (.pointer (some ⟨nb,0,none⟩)) (YB cb co n cc) z)) (runL L g p c y 0) w2:=hF2;clear hF2;try walk_nrm
 repeat refine .c1 L.terms1 rfl ?_
 by_cases hst:z 3<z 47
 ·have hres:goF n ci budget z=([],4,z):=by unfold goF;rw [if_pos hst]
  have hde:decide (z 3<z 47)=true:=by simpa using hst
  rw [hres] at Ret ⊢;rw [hde];refine Y1.condT L.terms1 (by rfl) ?_;repeat refine .c1 L.terms1 rfl ?_
  refine .regionL L.terms1 [0] (by rfl) ?_;refine .op rfl (by rfl) hk fun w1 hR K hK=>?_;replace hF:=hF.rely hR;clear hR;have hc:World.cell? _ ⟨y,0,none⟩=some (.int .i64 0):=hF.l1 (k:=2) rfl;have hz2:World.frozen? _ ⟨y,0,none⟩=false:=hF.lfrozen (k:=2) rfl 0;go_simp;try (unfold stored;go_simp)
  refine hK _ _ ⟨?_,?_⟩
  ·refine hF.ldoes (k:=2) rfl 0 _ ?_;co_evs (exact rfl)
  clear hK K;clear hc hz2;replace hF:KnL L w0 (rows.set ic (Y5 g num (.pointer (some ⟨nb,0,none⟩)) (YB cb co n cc) z)) (runL L g p c y 4) _:=hF.set1 (k:=2) rfl (.int .i64 4);try walk_nrm
  repeat refine .c1 L.terms1 rfl ?_
  refine Y1.ret L.terms1 fun todo=>?_;exact Ret _ todo _ _ rfl (Y11 hF rfl) ⟨rfl,hF.drop⟩
 ·have hres:goF n ci budget z=runF n ci budget z:=by unfold goF;rw [if_neg hst]
  have hde:decide (z 3<z 47)=false:=by simpa using hst
  rw [hres] at Ret ⊢;rw [hde];refine Y1.condF L.terms1 (by rfl) ?_;repeat refine .c1 L.terms1 rfl ?_
  refine .regionL L.terms1 [0,1] (by rfl) ?_;refine .opV L.terms1 rfl (by rfl) hk ?_;try walk_nrm
  refine Y1.defer L.terms1 rfl (by rfl) hk (runD p c y) (fun w=>by kernel_rfl) (fun w=>by kernel_rfl) ?_;try walk_nrm
  repeat refine .c1 L.terms1 rfl ?_
  refine .regionL L.terms1 [0,1] (by rfl) ?_;iterate 2 (refine .opV L.terms1 rfl (by rfl) hk ?_;try walk_nrm)
  repeat refine .c1 L.terms1 rfl ?_
  refine Y1.loop L.terms1 ?_;refine (?key:∀(k i:Nat) (x:Nat→Int) (w:World) (u14 u15 u16 u17 u18 u19 u20:Value),i+k=budget→Zok n x→(runF n ci k x).2=(runF n ci budget z).2→KnL L w0 (rows.set ic (Y5 g num (.pointer (some ⟨nb,0,none⟩)) (YB cb co n cc) x)) (runL L g p c y 0) w→Y1 Tryz.prog false L.R1 L.D1 (StopB Tryz.prog L.c L.R1 L.D1 L.SL FS ((runF n ci k x).1++vs)) (G ((base 84).at {tmps:=#[.pointer (some ⟨g,0,none⟩),.int .i64 budget,inV,.chan (some L.c),.pointer (some ⟨p,0,none⟩),undef,undef,.pointer (some ⟨c,0,none⟩),.pointer (some ⟨y,0,none⟩),.pointer (some ⟨g,0,none⟩),.bool false,.func (.func 111) #[] #[.pointer (some ⟨p,0,none⟩),.pointer (some ⟨c,0,none⟩),.pointer (some ⟨y,0,none⟩)],.int .i64 budget,.int .i64 i,u14,u15,u16,u17,u18,u19,u20],defers:=[runD p c y]} _) (cl::cs)) w) budget 0 z _ undef undef undef undef undef undef undef (by omega) hz rfl hF
  case key=>
   clear hF hres hde hst;intro k;induction k with
   |zero=>
    intro i x w u14 u15 u16 u17 u18 u19 u20 hik hx hr hF;have hlt:decide ((i:Int)<(budget:Int))=false:=by simp;omega
    show Y1 _ _ _ _ (StopB Tryz.prog L.c L.R1 L.D1 L.SL FS (vs)) _ _;repeat refine .c1 L.terms1 rfl ?_
    refine .regionL L.terms1 [0] (by rfl) ?_;refine .opV L.terms1 rfl (by rfl) hk ?_;try walk_nrm
    repeat refine .c1 L.terms1 rfl ?_
    refine Y1.condF L.terms1 (by first|rfl|(simp [Act.eval];omega)) ?_;refine Y1.exit L.terms1 rfl ?_;repeat refine .c1 L.terms1 rfl ?_
    refine .regionL L.terms1 [0] (by rfl) ?_;refine .op rfl (by rfl) hk fun w1 hR K hK=>?_;replace hF:=hF.rely hR;clear hR;have hc:World.cell? _ ⟨y,0,none⟩=some (.int .i64 0):=hF.l1 (k:=2) rfl;have hz2:World.frozen? _ ⟨y,0,none⟩=false:=hF.lfrozen (k:=2) rfl 0;go_simp;try (unfold stored;go_simp)
    refine hK _ _ ⟨?_,?_⟩
    ·refine hF.ldoes (k:=2) rfl 0 _ ?_;co_evs (exact rfl)
    clear hK K;clear hc hz2;replace hF:KnL L w0 (rows.set ic (Y5 g num (.pointer (some ⟨nb,0,none⟩)) (YB cb co n cc) x)) (runL L g p c y 2) _:=hF.set1 (k:=2) rfl (.int .i64 2);try walk_nrm
    repeat refine .c1 L.terms1 rfl ?_
    refine Y1.ret L.terms1 fun todo=>?_;refine Y3x rfl rfl _ hF fun w3 hF3=>?_;refine Ret ⟨_,[]⟩ todo _ _ rfl (Y11 hF3 rfl) ⟨?_,?_⟩
    ·rw [←hr];rfl
    ·rw [←hr];exact hF3.drop
   |succ k ih=>
    intro i x w u14 u15 u16 u17 u18 u19 u20 hik hx hr hF;have hlt:decide ((i:Int)<(budget:Int))=true:=by simp;omega
    have hsok:=Y06 hok hx;rw [Y7H];repeat refine .c1 L.terms1 rfl ?_
    refine .regionL L.terms1 [0] (by rfl) ?_;refine .opV L.terms1 rfl (by rfl) hk ?_;try walk_nrm
    repeat refine .c1 L.terms1 rfl ?_
    refine Y1.condT L.terms1 (by first|rfl|(simp [Act.eval];omega)) ?_;repeat refine .c1 L.terms1 rfl ?_
    refine .regionL L.terms1 [0,1,2,3,4] (by rfl) ?_;refine .op rfl (by rfl) hk fun w1 hR K hK=>?_;replace hF:=hF.rely hR;clear hR;have hc:World.cell? _ ⟨p,0,none⟩=some (.pointer (some ⟨g,0,none⟩)):=hF.l1 (k:=0) rfl;go_simp;try (unfold stored;go_simp)
    refine hK _ _ ⟨?_,?_⟩
    ·refine hF.llooks (k:=0) rfl ?_;co_evs (exact ⟨_,rfl⟩)
    clear hK K;clear hc;try walk_nrm
    refine .opV L.terms1 rfl (by rfl) hk ?_;try walk_nrm
    refine .op rfl (by rfl) hk fun w1 hR K hK=>?_;replace hF:=hF.rely hR;clear hR;have hc:World.cell? _ ⟨c,0,none⟩=some (.chan (some L.c)):=hF.l1 (k:=1) rfl;go_simp;try (unfold stored;go_simp)
    refine hK _ _ ⟨?_,?_⟩
    ·refine hF.llooks (k:=1) rfl ?_;co_evs (exact ⟨_,rfl⟩)
    clear hK K;clear hc;try walk_nrm
    refine Y1.callE rfl (by rfl) hk rfl Tryz.func113 (by rfl) rfl #[.pointer (some ⟨g,0,none⟩),inV,.chan (some L.c)] (by kernel_rfl) (Y8t (ic:=ic) hev (at2 hi (Y5 g num (.pointer (some ⟨nb,0,none⟩)) (YB cb co n cc) x)) hs hcode hn hok ⟨hx.lo,hx.hi⟩ inV _ hF) ?_ ?_
    ·rintro v w2 ⟨op,e,x',hsf,rfl,hF2⟩;replace hF:=KnL.back hi hF2;clear hF2;rw [hsf] at hsok;try walk_nrm
     refine .opV L.terms1 rfl (by rfl) hk ?_;try walk_nrm
     repeat refine .c1 L.terms1 rfl ?_
     by_cases h0:op=0
     ·have hb:(op==0)=true:=by simpa using h0
      have htl:ZH n ci k x vs=vs:=by unfold ZH;rw [hsf];exact if_pos h0
      have hfin:(runF n ci (k+1) x).2=(1,x'):=by simp [runF,hsf,h0]
      rw [htl];refine Y1.condT L.terms1 (by simp [Act.eval,hb]) ?_;repeat refine .c1 L.terms1 rfl ?_
      refine .regionL L.terms1 [0] (by rfl) ?_;refine .op rfl (by rfl) hk fun w1 hR K hK=>?_;replace hF:=hF.rely hR;clear hR;have hc:World.cell? _ ⟨y,0,none⟩=some (.int .i64 0):=hF.l1 (k:=2) rfl;have hz2:World.frozen? _ ⟨y,0,none⟩=false:=hF.lfrozen (k:=2) rfl 0;go_simp;try (unfold stored;go_simp)
      refine hK _ _ ⟨?_,?_⟩
      ·refine hF.ldoes (k:=2) rfl 0 _ ?_;co_evs (exact rfl)
      clear hK K;clear hc hz2;replace hF:KnL L w0 (rows.set ic (Y5 g num (.pointer (some ⟨nb,0,none⟩)) (YB cb co n cc) x')) (runL L g p c y 1) _:=hF.set1 (k:=2) rfl (.int .i64 1);try walk_nrm
      repeat refine .c1 L.terms1 rfl ?_
      refine Y1.ret L.terms1 fun todo=>?_;refine Y3x rfl rfl _ hF fun w3 hF3=>?_;refine Ret ⟨_,[]⟩ todo _ _ rfl (Y11 hF3 rfl) ⟨?_,?_⟩
      ·rw [←hr,hfin]
      ·rw [←hr,hfin];exact hF3.drop
     ·have hb:(op==0)=false:=by simpa using h0
      have htl:ZH n ci k x vs=(runF n ci k x').1++vs:=by unfold ZH;rw [hsf];exact if_neg h0
      have hfin:(runF n ci (k+1) x).2=(runF n ci k x').2:=by simp [runF,hsf,h0]
      rw [htl];have hwr:IntKind.i64.wrap ((i:Int)+1)=((i+1:Nat):Int):=by rw [IntKind.wrap_i64];omega
      refine Y1.condF L.terms1 (by simp [Act.eval,hb]) ?_;repeat refine .c1 L.terms1 rfl ?_
      refine .regionL L.terms1 [0,1] (by rfl) ?_;iterate 2 (refine .opV L.terms1 rfl (by rfl) hk ?_;try walk_nrm)
      repeat refine .c1 L.terms1 rfl ?_
      refine Y1.inLoop L.terms1 ?_;exact ih (i+1) x' _ _ _ _ _ _ _ _ (by omega) hsok (by rw [←hfin];exact hr) hF
    ·rintro ch w2 ⟨wy,x',hsf,rfl,hF2⟩;replace hF:=KnL.back hi hF2;clear hF2;have htl:ZH n ci k x vs=XU wy (Yo x' 47)::vs:=by unfold ZH;rw [hsf]
     have hfin:(runF n ci (k+1) x).2=(3,Yo x'):=by simp [runF,hsf]
     rw [htl];refine Y7G (ic:=ic) q cap hsn hnet hi wy 0 rfl rfl _ hF fun w3 hF3=>?_;refine Ret ⟨_,[]⟩ _ _ _ rfl (Y11 hF3 rfl) ⟨?_,?_⟩
     ·rw [←hr,hfin]
     ·rw [←hr,hfin];exact hF3.drop
end
abbrev winD (b0 b1 b2 b3:Nat):Deferred:={target:=.fn (.func 83) #[.pointer (some ⟨b0,0,none⟩),.pointer (some ⟨b1,0,none⟩),.pointer (some ⟨b2,0,none⟩),.pointer (some ⟨b3,0,none⟩)],args:=#[]}
abbrev Y09 (P:Program) (d:Deferred):Frame:={(default:Frame) with fn:=P.funcs.size,defers:=[d],mode:=.panicking [goexitEntry]}
abbrev Y3W (c:Nat):Deferred:={target:=.builtin .close #[190] 0 #[false],args:=#[.chan (some c)]}
section
variable {L:Lot} {w0:World} {rows:List Row} {ic g nb b0 b1 b2 b3 cb co n cc:Nat} {num:Int} {z ci:Nat→Int}
theorem YbG {FS:World→Prop} {a:Act} {todo:List Item} {w:World} (hd:a.defers=[Y3W L.c]) (hF:FS w):Y0C Tryz.prog L.c FS (G {(baseD 83).at a todo with mode:=.returning} [{Y09 Tryz.prog (winD b0 b1 b2 b3) with defers:=[]}]) w:=by
 refine ⟨rfl,hF,G {(baseD 83).at ⟨a.tmps,[]⟩ todo with mode:=.returning} [{Y09 Tryz.prog (winD b0 b1 b2 b3) with defers:=[]}],2,?_,fun s r tm hc=>?_⟩
 ·refine .inr ⟨rfl,G {Y09 Tryz.prog (winD b0 b1 b2 b3) with defers:=[]} [],#[],by simp,fun w=>?_,.inr ⟨rfl,{frame:={Y09 Tryz.prog (winD b0 b1 b2 b3) with defers:=[]},callers:=[],status:=.finished,dying:=none},#[],by simp,fun w=>?_,rfl,rfl⟩⟩
  ·have hr:(results Tryz.f83 a.tmps).run Tryz.prog w=.ok (.tuple #[]) w:=results_none (by rfl) _ _ w;have he:(results Tryz.f83 a.tmps).events Tryz.prog w #[]=#[]:=events_results_none (by rfl) _ _;simp [G,stepG,Go.unwind,doReturn,Frame.at,baseD,Tryz.func83,hr,he,GStep.after,seen_none,goexitEntry]
  ·simp [G,stepG,Go.unwind,Frame.catches,goexitEntry];rfl
 ·have h1:=run_close_open (P:=Tryz.prog) (w:=w) #[190] 0 hc;have h2:=events_close_open (P:=Tryz.prog) (w:=w) (es:=#[]) #[190] 0 hc;have h3:seen Tryz.prog 83 (closeEvents L.c)=closeEvents L.c:=seen_eq (by kernel_rfl) (by intro e he f;simp only [closeEvents,List.mem_toArray,List.mem_cons,List.not_mem_nil,or_false] at he;rcases he with rfl|rfl<;>simp);have h2':(Builtin.close_ #[190] 0 #[.chan (some L.c)]).events Tryz.prog w #[]=closeEvents L.c:=h2;simp [G,stepG,Go.unwind,Frame.at,baseD,hd,callDeferred,invoke,builtin,h1,h2',h3,GStep.after,World.setChan]
theorem Y6z (hev:((97:Nat)==L.ev)=false) (hev1:((143:Nat)==L.ev)=false) (hev2:((221:Nat)==L.ev)=false) (hev3:((2:Nat)==L.ev)=false)
  (hi:rows[ic]?=some (Y5 g num (.pointer (some ⟨nb,0,none⟩)) (YB cb co n cc) z)) (hs:Still L w0 cb) (hcode:∀j,j<n*4→w0.cell? ⟨cb,co+j,none⟩=some (.int .i64 (ci j))) (hn:n≤48) (hok:Xc n ci) (hz:Zok n z) (q:Option Addr) (cap:Nat) (hsn:Still L w0 nb) (hnet:w0.cell? ⟨nb,0,none⟩=some (.slice q 0 cap))
  (budget:Nat) (hbud:budget≤200) (inV:Value) (hinV:∃ip il ic,inV=.slice ip il ic) (s0:Still L w0 b0) (s1:Still L w0 b1) (s2:Still L w0 b2) (s3:Still L w0 b3)
  (c0:w0.cell? ⟨b0,0,none⟩=some (.chan (some L.c))) (c1:w0.cell? ⟨b1,0,none⟩=some (.pointer (some ⟨g,0,none⟩))) (c2:w0.cell? ⟨b2,0,none⟩=some (.int .i64 budget)) (c3:w0.cell? ⟨b3,0,none⟩=some inV) (w:World) (hF:Kn L w0 rows w):
  Y1 Tryz.prog false L.R1 L.D1 (StopB Tryz.prog L.c L.R1 L.D1 L.SL (Kn L w0 (rows.set ic (Y5 g num (.pointer (some ⟨nb,0,none⟩)) (YB cb co n cc) (Yf n ci budget z).2))) (Yf n ci budget z).1) (G (Y09 Tryz.prog (winD b0 b1 b2 b3)) []) w:=by
 replace hF:=hF.start hi;obtain ⟨ip,il,ic',rfl⟩:=hinV;have hk:(baseD 83).kind≠.early:=by simp [baseD]
 refine Y1.unwind L.terms1 #[.pointer (some ⟨b0,0,none⟩),.pointer (some ⟨b1,0,none⟩),.pointer (some ⟨b2,0,none⟩),.pointer (some ⟨b3,0,none⟩),undef,undef,undef,undef,undef,undef,undef,undef,undef,undef,undef,undef,undef,undef,undef,undef,undef,undef,undef,undef,undef] (by simp) rfl Tryz.func83 (by rfl) rfl (by kernel_rfl) ?_;repeat refine .c1 L.terms1 rfl ?_
 refine .regionL L.terms1 [0,1] (by rfl) ?_;refine .op rfl (by rfl) hk fun w1 hR K hK=>?_;replace hF:=hF.rely hR;clear hR;have hc:World.cell? _ ⟨b0,0,none⟩=some (.chan (some L.c)):=(hF.stillCell (a:=⟨b0,0,none⟩) s0).trans c0;go_simp;try (unfold stored;go_simp)
 refine hK _ _ ⟨?_,?_⟩
 ·refine hF.stillLooks s0 ?_;co_evs (exact ⟨_,rfl⟩)
 clear hK K;clear hc;try walk_nrm
 refine Y1.defer L.terms1 rfl (by rfl) hk (Y3W L.c) (fun w=>by kernel_rfl) (fun w=>by kernel_rfl) ?_;try walk_nrm
 repeat refine .c1 L.terms1 rfl ?_
 refine .regionL L.terms1 [0,1,2,3,4] (by rfl) ?_;refine .op rfl (by rfl) hk fun w1 hR K hK=>?_;replace hF:=hF.rely hR;clear hR;have hc:World.cell? _ ⟨b1,0,none⟩=some (.pointer (some ⟨g,0,none⟩)):=(hF.stillCell (a:=⟨b1,0,none⟩) s1).trans c1;go_simp;try (unfold stored;go_simp)
 refine hK _ _ ⟨?_,?_⟩
 ·refine hF.stillLooks s1 ?_;co_evs (exact ⟨_,rfl⟩)
 clear hK K;clear hc;try walk_nrm
 iterate 2 (refine .opV L.terms1 rfl (by rfl) hk ?_;try walk_nrm)
 refine .op rfl (by rfl) hk fun w1 hR K hK=>?_;replace hF:=hF.rely hR;clear hR;have hc:World.cell? _ ⟨g,46,none⟩=some (.int .i64 (z 46)):=KnL.cz hi hF (by omega) (by omega);go_simp;try (unfold stored;go_simp)
 refine hK _ _ ⟨?_,?_⟩
 ·refine KnL.clooks hi hF ?_;co_evs (exact ⟨_,rfl⟩)
 clear hK K;clear hc;try walk_nrm
 refine .opV L.terms1 rfl (by rfl) hk ?_;try walk_nrm
 repeat refine .c1 L.terms1 rfl ?_
 refine .regionL L.terms1 [0,1,2,3,4,5] (by rfl) ?_;refine .op rfl (by rfl) hk fun w1 hR K hK=>?_;replace hF:=hF.rely hR;clear hR;have hc:World.cell? _ ⟨b1,0,none⟩=some (.pointer (some ⟨g,0,none⟩)):=(hF.stillCell (a:=⟨b1,0,none⟩) s1).trans c1;go_simp;try (unfold stored;go_simp)
 refine hK _ _ ⟨?_,?_⟩
 ·refine hF.stillLooks s1 ?_;co_evs (exact ⟨_,rfl⟩)
 clear hK K;clear hc;try walk_nrm
 refine .op rfl (by rfl) hk fun w1 hR K hK=>?_;replace hF:=hF.rely hR;clear hR;have hc:World.cell? _ ⟨b2,0,none⟩=some (.int .i64 budget):=(hF.stillCell (a:=⟨b2,0,none⟩) s2).trans c2;go_simp;try (unfold stored;go_simp)
 refine hK _ _ ⟨?_,?_⟩
 ·refine hF.stillLooks s2 ?_;co_evs (exact ⟨_,rfl⟩)
 clear hK K;clear hc;try walk_nrm
 refine .op rfl (by rfl) hk fun w1 hR K hK=>?_;replace hF:=hF.rely hR;clear hR;have hc:World.cell? _ ⟨b3,0,none⟩=some (.slice ip il ic'):=(hF.stillCell (a:=⟨b3,0,none⟩) s3).trans c3;go_simp;try (unfold stored;go_simp)
 refine hK _ _ ⟨?_,?_⟩
 ·refine hF.stillLooks s3 ?_;co_evs (exact ⟨_,rfl⟩)
 clear hK K;clear hc;try walk_nrm
 refine .op rfl (by rfl) hk fun w1 hR K hK=>?_;replace hF:=hF.rely hR;clear hR;have hc:World.cell? _ ⟨b0,0,none⟩=some (.chan (some L.c)):=(hF.stillCell (a:=⟨b0,0,none⟩) s0).trans c0;go_simp;try (unfold stored;go_simp)
 refine hK _ _ ⟨?_,?_⟩
 ·refine hF.stillLooks s0 ?_;co_evs (exact ⟨_,rfl⟩)
 clear hK K;clear hc;try walk_nrm
 show Y1 _ _ _ _ (StopB _ _ _ _ _ _ ((goF n ci budget z).1++[Xk (IntKind.i64.wrap ((goF n ci budget z).2.2 46-z 46)) (goF n ci budget z).2.1])) _ _;refine Y1.callE rfl (by rfl) hk rfl Tryz.func84 (by rfl) rfl #[.pointer (some ⟨g,0,none⟩),.int .i64 budget,.slice ip il ic',.chan (some L.c)] (by kernel_rfl) (Ybt (ic:=ic) hev hev1 hev2 hev3 (at2 hi (Y5 g num (.pointer (some ⟨nb,0,none⟩)) (YB cb co n cc) z)) hs hcode hn hok hz q cap hsn hnet budget hbud _ _ hF) ?_ (fun _ _ h=>h.elim);rintro v w2 ⟨rfl,hF2⟩;replace hF:=KnL.back hi hF2;clear hF2;try walk_nrm
 refine .opV L.terms1 rfl (by rfl) hk ?_;try walk_nrm
 repeat refine .c1 L.terms1 rfl ?_
 refine Y1.drawnT (S:=KnL L w0 (rows.set ic (Y5 g num (.pointer (some ⟨nb,0,none⟩)) (YB cb co n cc) (goF n ci budget z).2.2)) []) L.terms1 L.draws1 10 (by rfl) hk (by kernel_rfl) ?_;intro w1 hR;replace hF:=(hF.rely hR).rely (Turn.drew _);clear hR;co_applyP Yq L.terms1 (fun _ _ _ _ h r=>⟨h.1,h.2.rely L.terms1.trans r⟩) (fun _ _ h r=>KnL.rely h r) ?hqr1 (i:=0) rfl (by first|kernel_rfl|decide +kernel) (by first|kernel_rfl|decide +kernel) (by first|kernel_rfl|decide +kernel) (by first|kernel_rfl|decide +kernel) (.inl ⟨by rfl,fun _ hw=>⟨run_eq_of ?run1,?guar1⟩⟩) hF ?rest1
 case hqr1=>exact fun _ _ _ h r=>Y1.rely L.terms1.trans h r
 case run1=>
  intro K hK;have hc:World.cell? _ ⟨b0,0,none⟩=some (.chan (some L.c)):=(hw.stillCell (a:=⟨b0,0,none⟩) s0).trans c0;go_simp;exact hK
 case guar1=>
  have hc:World.cell? _ ⟨b0,0,none⟩=some (.chan (some L.c)):=(hw.stillCell (a:=⟨b0,0,none⟩) s0).trans c0;refine hw.stillLooks s0 ?_;co_evs (exact ⟨_,rfl⟩)
 try walk_nrm
 co_applyP Yq L.terms1 (fun _ _ _ _ h r=>⟨h.1,h.2.rely L.terms1.trans r⟩) (fun _ _ h r=>KnL.rely h r) ?hqr2 (i:=1) rfl (by first|kernel_rfl|decide +kernel) (by first|kernel_rfl|decide +kernel) (by first|kernel_rfl|decide +kernel) (by first|kernel_rfl|decide +kernel) (.inl ⟨by rfl,fun _ hw=>⟨run_eq_of ?run2,?guar2⟩⟩) hF ?rest2
 case hqr2=>exact fun _ _ _ h r=>Y1.rely L.terms1.trans h r
 case run2=>
  intro K hK;have hc:World.cell? _ ⟨b1,0,none⟩=some (.pointer (some ⟨g,0,none⟩)):=(hw.stillCell (a:=⟨b1,0,none⟩) s1).trans c1;go_simp;exact hK
 case guar2=>
  have hc:World.cell? _ ⟨b1,0,none⟩=some (.pointer (some ⟨g,0,none⟩)):=(hw.stillCell (a:=⟨b1,0,none⟩) s1).trans c1;refine hw.stillLooks s1 ?_;co_evs (exact ⟨_,rfl⟩)
 try walk_nrm
 co_applyP Yq L.terms1 (fun _ _ _ _ h r=>⟨h.1,h.2.rely L.terms1.trans r⟩) (fun _ _ h r=>KnL.rely h r) ?hqr3 (i:=2) rfl (by first|kernel_rfl|decide +kernel) (by first|kernel_rfl|decide +kernel) (by first|kernel_rfl|decide +kernel) (by first|kernel_rfl|decide +kernel) (.inl ⟨by rfl,fun _ hw=>⟨run_eq_of ?run3,?guar3⟩⟩) hF ?rest3
 case hqr3=>exact fun _ _ _ h r=>Y1.rely L.terms1.trans h r
 case run3=>
  intro K hK;skip;go_simp;exact hK
 case guar3=>
  skip
  co_quiet L.terms1
 try walk_nrm
 co_applyP Yq L.terms1 (fun _ _ _ _ h r=>⟨h.1,h.2.rely L.terms1.trans r⟩) (fun _ _ h r=>KnL.rely h r) ?hqr4 (i:=3) rfl (by first|kernel_rfl|decide +kernel) (by first|kernel_rfl|decide +kernel) (by first|kernel_rfl|decide +kernel) (by first|kernel_rfl|decide +kernel) (.inl ⟨by rfl,fun _ hw=>⟨run_eq_of ?run4,?guar4⟩⟩) hF ?rest4
 case hqr4=>exact fun _ _ _ h r=>Y1.rely L.terms1.trans h r
 case run4=>
  intro K hK;skip;go_simp;exact hK
 case guar4=>
  skip
  co_quiet L.terms1
 try walk_nrm
 co_applyP Yq L.terms1 (fun _ _ _ _ h r=>⟨h.1,h.2.rely L.terms1.trans r⟩) (fun _ _ h r=>KnL.rely h r) ?hqr5 (i:=4) rfl (by first|kernel_rfl|decide +kernel) (by first|kernel_rfl|decide +kernel) (by first|kernel_rfl|decide +kernel) (by first|kernel_rfl|decide +kernel) (.inl ⟨by rfl,fun _ hw=>⟨run_eq_of ?run5,?guar5⟩⟩) hF ?rest5
 case hqr5=>exact fun _ _ _ h r=>Y1.rely L.terms1.trans h r
 case run5=>
  intro K hK;have hc:World.cell? _ ⟨g,46,none⟩=some (.int .i64 ((goF n ci budget z).2.2 46)):=KnL.cz hi hw (by omega) (by omega);go_simp;exact hK
 case guar5=>
  have hc:World.cell? _ ⟨g,46,none⟩=some (.int .i64 ((goF n ci budget z).2.2 46)):=KnL.cz hi hw (by omega) (by omega);refine KnL.clooks hi hw ?_;co_evs (exact ⟨_,rfl⟩)
 try walk_nrm
 co_applyP Yq L.terms1 (fun _ _ _ _ h r=>⟨h.1,h.2.rely L.terms1.trans r⟩) (fun _ _ h r=>KnL.rely h r) ?hqr6 (i:=5) rfl (by first|kernel_rfl|decide +kernel) (by first|kernel_rfl|decide +kernel) (by first|kernel_rfl|decide +kernel) (by first|kernel_rfl|decide +kernel) (.inl ⟨by rfl,fun _ hw=>⟨run_eq_of ?run6,?guar6⟩⟩) hF ?rest6
 case hqr6=>exact fun _ _ _ h r=>Y1.rely L.terms1.trans h r
 case run6=>
  intro K hK;skip;go_simp;exact hK
 case guar6=>
  skip
  co_quiet L.terms1
 try walk_nrm
 co_applyP Yq L.terms1 (fun _ _ _ _ h r=>⟨h.1,h.2.rely L.terms1.trans r⟩) (fun _ _ h r=>KnL.rely h r) ?hqr7 (i:=6) rfl (by first|kernel_rfl|decide +kernel) (by first|kernel_rfl|decide +kernel) (by first|kernel_rfl|decide +kernel) (by first|kernel_rfl|decide +kernel) (.inl ⟨by rfl,fun _ hw=>⟨run_eq_of ?run7,?guar7⟩⟩) hF ?rest7
 case hqr7=>exact fun _ _ _ h r=>Y1.rely L.terms1.trans h r
 case run7=>
  intro K hK;skip;go_simp;exact hK
 case guar7=>
  skip
  co_quiet L.terms1
 try walk_nrm
 co_applyP Yq L.terms1 (fun _ _ _ _ h r=>⟨h.1,h.2.rely L.terms1.trans r⟩) (fun _ _ h r=>KnL.rely h r) ?hqr8 (i:=7) rfl (by first|kernel_rfl|decide +kernel) (by first|kernel_rfl|decide +kernel) (by first|kernel_rfl|decide +kernel) (by first|kernel_rfl|decide +kernel) (.inl ⟨by rfl,fun _ hw=>⟨run_eq_of ?run8,?guar8⟩⟩) hF ?rest8
 case hqr8=>exact fun _ _ _ h r=>Y1.rely L.terms1.trans h r
 case run8=>
  intro K hK;skip;go_simp;exact hK
 case guar8=>
  skip
  co_quiet L.terms1
 try walk_nrm
 co_applyP Yq L.terms1 (fun _ _ _ _ h r=>⟨h.1,h.2.rely L.terms1.trans r⟩) (fun _ _ h r=>KnL.rely h r) ?hqr9 (i:=8) rfl (by first|kernel_rfl|decide +kernel) (by first|kernel_rfl|decide +kernel) (by first|kernel_rfl|decide +kernel) (by first|kernel_rfl|decide +kernel) (.inl ⟨by rfl,fun _ hw=>⟨run_eq_of ?run9,?guar9⟩⟩) hF ?rest9
 case hqr9=>exact fun _ _ _ h r=>Y1.rely L.terms1.trans h r
 case run9=>
  intro K hK;skip;go_simp;exact hK
 case guar9=>
  skip
  co_quiet L.terms1
 try walk_nrm
 refine Y1P (i:=9) (by first|kernel_rfl|decide +kernel) rfl (by rfl) (Z8 rfl (by first|kernel_rfl|decide +kernel)) ⟨rfl,?_⟩;refine Y1.send rfl (by rfl) hk rfl rfl rfl ?_;try walk_nrm
 repeat refine .c1 L.terms1 rfl ?_
 refine Y1.fin L.terms1 ?_;exact .stop rfl fun w1 hR=>YbG (b0:=b0) (b1:=b1) (b2:=b2) (b3:=b3) rfl (hF.rely hR).drop
end
end Go.Proofs.YtdoghgnifkgfdaaGreat.Mute
