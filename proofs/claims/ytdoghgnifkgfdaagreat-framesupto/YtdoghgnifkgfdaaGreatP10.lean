import Derived.Test.YtdoghgnifkgfdaaGreatP00
import Derived.Test.YtdoghgnifkgfdaaGreatP07
import Derived.Test.YtdoghgnifkgfdaaGreatP08
import Derived.Test.YtdoghgnifkgfdaaGreatP09
set_option maxRecDepth 100000
set_option maxHeartbeats 16000000
open Option renaming none->Ai,some->yi
open Go renaming World->ui,Value->ti,undef->ri
open Bool renaming true->ji,false->gi
namespace Go.Proofs.YtdoghgnifkgfdaaGreat
open Tryz Go.RowKit Go.Maps
theorem wG(w:ui):(zeroValue 3).run prog w=.ok (.int .i64 0) w:=J0
theorem UQ{D:DataW Unit}{c:vl}{k n v:Int}{kl:Lit}(hD:Dv D c c.qj)(hk:rD 1 k n kl)(hh:Maps.has D kl=ji)(hv:D.atKey kl (.lit (.int .i64 0))=.lit (.int .i64 v))(cell:Int):(v==cell)=ji↔Vn c cell n k 1:=by
 obtain⟨i,hi,rfl,rfl,_⟩:=((hD.2 _ _ _ _ hk).1).1 hh;have:=((hD.2 _ _ _ _ hk).2 i hi rfl rfl).1 rfl;exact Ud
theorem sY{D:DataW Unit}{c:vl}{k n:Int}{kl:Lit}(hD:Dv D c c.qj)(hk:rD 1 k n kl)(hh:Maps.has D kl=gi)(cell:Int):¬Vn c cell n k 1:=by
 intro ⟨h1,h2,h3,_⟩;have:Maps.has D kl=true:=((hD.2 _ _ _ _ hk).1).2 ⟨n.toNat,E0,E0,h3.symm,E0⟩;rw[hh]at this;cases this
theorem a00(c:vl)(cell code k n:Int)(dv:ti)(b:Nat)(w:ui)(hu:Pq w b c)(wk:(Lit.int .i64 k).wf=ji)(wn:(Lit.int .i64 n).wf=ji):
  Calls prog 133 #[.agg #[.int .i64 cell,.int .i64 code,dv,.map (yi b)],.agg #[.int .i64 1,.int .i64 k,.int .i64 n]] w (sk (Vn c cell n k 1) (Below w.heap.size w)):=by
 obtain⟨m,D,rj,hD⟩:=hu;obtain⟨kl,nA⟩:=UM 1 k n (D_ E0 E0) wk wn;refine O8 fun HB=>?_;have HK:Hid (keyOf prog 231 (.agg #[.int .i64 1,.int .i64 k,.int .i64 n])=yi kl):=nA;have HO:Hid (w.ownsMap prog 231 (plainElem prog 3) b m D):=rj;have HD:Hid (Dv D c c.qj):=hD;clear rj hD nA wk wn;cases hh:Maps.has D kl
 ·have HN:Hid (¬Vn c cell n k 1):=sY HD.out HK.out hh cell;exact Ya
 ·have HY:Hid (∀v,D.atKey kl (.lit (.int .i64 0))=.lit (.int .i64 v)->((v==cell)=ji↔Vn c cell n k 1)):=fun v hv=>UQ HD.out HK.out hh hv cell;exact ua
theorem vT{D:DataW Unit}{c:vl}{k n v:Int}{kl:Lit}(hD:Dv D c c.qj)(hk:rD 2 k n kl)(hh:Maps.has D kl=ji)(hv:D.atKey kl (.lit (.int .i64 0))=.lit (.int .i64 v))(cell:Int):(v==cell)=ji↔Vn c cell n k 2:=by
 obtain⟨i,hi,rfl,rfl,_⟩:=((hD.2 _ _ _ _ hk).1).1 hh;have:=((hD.2 _ _ _ _ hk).2 i hi rfl rfl).2 rfl;exact Ud
theorem YZ{D:DataW Unit}{c:vl}{k n:Int}{kl:Lit}(hD:Dv D c c.qj)(hk:rD 2 k n kl)(hh:Maps.has D kl=gi)(cell:Int):¬Vn c cell n k 2:=by
 intro ⟨h1,h2,h3,_⟩;have:Maps.has D kl=true:=((hD.2 _ _ _ _ hk).1).2 ⟨n.toNat,E0,E0,h3.symm,E0⟩;rw[hh]at this;cases this
theorem h20(c:vl)(cell code k n:Int)(dv:ti)(b:Nat)(w:ui)(hu:Pq w b c)(wk:(Lit.int .i64 k).wf=ji)(wn:(Lit.int .i64 n).wf=ji):
  Calls prog 133 #[.agg #[.int .i64 cell,.int .i64 code,dv,.map (yi b)],.agg #[.int .i64 2,.int .i64 k,.int .i64 n]] w (sk (Vn c cell n k 2) (Below w.heap.size w)):=by
 obtain⟨m,D,rj,hD⟩:=hu;obtain⟨kl,nA⟩:=UM 2 k n (D_ E0 E0) wk wn;refine O8 fun HB=>?_;have HK:Hid (keyOf prog 231 (.agg #[.int .i64 2,.int .i64 k,.int .i64 n])=yi kl):=nA;have HO:Hid (w.ownsMap prog 231 (plainElem prog 3) b m D):=rj;have HD:Hid (Dv D c c.qj):=hD;clear rj hD nA wk wn;cases hh:Maps.has D kl
 ·have HN:Hid (¬Vn c cell n k 2):=YZ HD.out HK.out hh cell;exact Ya
 ·have HY:Hid (∀v,D.atKey kl (.lit (.int .i64 0))=.lit (.int .i64 v)->((v==cell)=ji↔Vn c cell n k 2)):=fun v hv=>vT HD.out HK.out hh hv cell;exact ua
theorem Iu{w:ui}{b:Nat}{c:vl}(h:Pq w b c)(o:Obj):Pq (w.alloc o) b c:=by
 obtain⟨n,D,h1,h2⟩:=h;exact⟨n,D,h1.alloc o,h2⟩
theorem cy{w w':ui}{b:Nat}{c:vl}(h:Pq w b c)(hb:Below w.heap.size w w'):Pq w' b c:=by
 obtain⟨n,D,h1,h2⟩:=h;exact⟨n,D,h1.kept (row:=Ai) ⟨hb.os,hb.tape,hb.output,hb.size,fun k hk _=>hb.block k hk⟩ P0,h2⟩
theorem T40(cell code op r a n:Int)(dv mp:ti)(w:ui)(hr:¬(0<=r/\r<4)):
  Calls prog 118 #[.agg #[.int .i64 cell,.int .i64 code,dv,mp],.agg #[.int .i64 op,.int .i64 r,.int .i64 a,.int .i64 n]] w fun e w'=>e=.returned (.bool gi)/\Below w.heap.size w w':=by
 refine O8 fun HB=>?_;have HR:Hid (¬(0<=r/\r<4)):=hr;clear hr
 go_enter func118,ntmps118
 go_wp2_with (go_at_call 97;refine(sk.Lp (Ij r _ _) HR.out).mono ?_;rintro e w' ⟨rfl,rfl⟩)
 go_ret;exact⟨rfl,HB.out _ _⟩
theorem j50(cell code op r a n:Int)(dv mp:ti)(w:ui)(hr:0<=r/\r<4)(ha:¬(0<=a/\a<4)):
  Calls prog 118 #[.agg #[.int .i64 cell,.int .i64 code,dv,mp],.agg #[.int .i64 op,.int .i64 r,.int .i64 a,.int .i64 n]] w fun e w'=>e=.returned (.bool gi)/\Below w.heap.size w w':=by
 refine O8 fun HB=>?_;have HR:Hid (0<=r/\r<4):=hr;have HA:Hid (¬(0<=a/\a<4)):=ha;clear hr ha
 go_enter func118,ntmps118
 go_wp2_with (first|(go_at_call_of 97 (r);refine(sk.says (Ij r _ _) HR.out).mono ?_;rintro e w' ⟨rfl,rfl⟩)|(go_at_call_of 97 (a);refine(sk.Lp (Ij a _ _) HA.out).mono ?_;rintro e w' ⟨rfl,rfl⟩))
 go_ret;exact⟨rfl,HB.out _ _⟩
theorem W80(cell code op:Int)(r a n:Int)(dv mp:ti)(w:ui)(hr:0<=r/\r<4)(ha:0<=a/\a<4)(hop:op=0\/op=1\/op=2\/op=3\/op=4\/op=5\/op=6\/op=7\/op=15):
  Calls prog 118 #[.agg #[.int .i64 cell,.int .i64 code,dv,mp],.agg #[.int .i64 op,.int .i64 r,.int .i64 a,.int .i64 n]] w fun e w'=>e=.returned (.bool ji)/\Below w.heap.size w w':=by
 refine O8 fun HB=>?_;refine Gg fun HR HA=>?_;clear hr ha;rcases hop with rfl|rfl|rfl|rfl|rfl|rfl|rfl|rfl|rfl
 all_goals
  go_enter func118,ntmps118
  go_wp2_with (first|(go_at_call_of 97 (r);refine(sk.says (Ij r _ _) HR.out).mono ?_;rintro e w' ⟨rfl,rfl⟩)|(go_at_call_of 97 (a);refine(sk.says (Ij a _ _) HA.out).mono ?_;rintro e w' ⟨rfl,rfl⟩))
  go_ret;exact⟨rfl,HB.out _ _⟩
theorem w20(cell code op:Int)(r a n:Int)(dv mp:ti)(w:ui)(hr:0<=r/\r<4)(ha:0<=a/\a<4)(hq:¬(0<=op/\op<=16)):
  Calls prog 118 #[.agg #[.int .i64 cell,.int .i64 code,dv,mp],.agg #[.int .i64 op,.int .i64 r,.int .i64 a,.int .i64 n]] w fun e w'=>e=.returned (.bool gi)/\Below w.heap.size w w':=by
 refine O8 fun HB=>?_;refine Gg fun HR HA=>?_;clear hr ha;have q:∀k:Int,0<=k/\k<=16->(op==k)=false:=fun k hk=>by simp;omega
 obtain⟨q0,q1,q2,q3,q4,q5,q6,q7,q8,q9,q10,q11,q12,q13,q14,q15,q16⟩:(op==0)=gi/\(op==1)=gi/\(op==2)=gi/\(op==3)=gi/\(op==4)=gi/\(op==5)=gi/\(op==6)=gi/\(op==7)=gi/\(op==8)=gi/\(op==9)=gi/\(op==10)=gi/\(op==11)=gi/\(op==12)=gi/\(op==13)=gi/\(op==14)=gi/\(op==15)=gi/\(op==16)=false:=⟨q 0 E0,q 1 E0,q 2 E0,q 3 E0,q 4 E0,q 5 E0,q 6 E0,q 7 E0,q 8 E0,q 9 E0,q 10 E0,q 11 E0,q 12 E0,q 13 E0,q 14 E0,q 15 E0,q 16 E0⟩;clear q hq
 go_enter func118,ntmps118
 go_wp2_with (first|(go_at_call_of 97 (r);refine(sk.says (Ij r _ _) HR.out).mono ?_;rintro e w' ⟨rfl,rfl⟩)|(go_at_call_of 97 (a);refine(sk.says (Ij a _ _) HA.out).mono ?_;rintro e w' ⟨rfl,rfl⟩))
 go_ret;exact⟨rfl,HB.out _ _⟩
theorem Gh0(cell code op:Int)(r a n:Int)(dv mp:ti)(w:ui)(hr:0<=r/\r<4)(ha:0<=a/\a<4)(hop:op=8\/op=9):
  Calls prog 118 #[.agg #[.int .i64 cell,.int .i64 code,dv,mp],.agg #[.int .i64 op,.int .i64 r,.int .i64 a,.int .i64 n]] w (sk (0<=n/\n<code) (Below w.heap.size w)):=by
 refine O8 fun HB=>?_;refine Gg fun HR HA=>?_;clear hr ha;rcases hop with rfl|rfl
 all_goals
  go_enter func118,ntmps118
  go_wp2_with (first|(go_at_call_of 97 (r);refine(sk.says (Ij r _ _) HR.out).mono ?_;rintro e w' ⟨rfl,rfl⟩)|(go_at_call_of 97 (a);refine(sk.says (Ij a _ _) HA.out).mono ?_;rintro e w' ⟨rfl,rfl⟩)|(go_at_call 132;refine(Ew n code _).mono ?_;rintro e w' ⟨b,rfl,rA,rfl⟩))
  go_ret;exact sk.of rA (HB.out _ _)
theorem be0(c:vl)(cell code op kd en r a n:Int)(jB:Nat)(dv:ti)(b:Nat)(w:ui)(hr:0<=r/\r<4)(ha:0<=a/\a<4)(hu:Pq w b c)(wn:(Lit.int .i64 n).wf=ji)(hop:((op=10/\kd=1\/op=11/\kd=2)/\en=1/\jB=1)\/(((op=12\/op=16)/\kd=1\/op=13/\kd=2)/\en=2/\jB=2)):
  Calls prog 118 #[.agg #[.int .i64 cell,.int .i64 code,dv,.map (yi b)],.agg #[.int .i64 op,.int .i64 r,.int .i64 a,.int .i64 n]] w (sk (Vn c cell n kd jB) (Below w.heap.size w)):=by
 refine O8 fun HB=>?_;refine Gg fun HR HA=>?_;clear hr ha;have HU:Hid (Pq w b c):=hu;have HM:Hid (∀W:ui,Pq W b c->Calls prog 133 #[.agg #[.int .i64 cell,.int .i64 code,dv,.map (yi b)],.agg #[.int .i64 en,.int .i64 kd,.int .i64 n]] W (sk (Vn c cell n kd jB) (Below W.heap.size W))):=fun W hW=>by
  have wk:(Lit.int .i64 kd).wf=true:=D_ E0 E0;obtain⟨-,rfl,rfl⟩|⟨-,rfl,rfl⟩:=hop
  ·exact a00 c cell code kd n dv b W hW wk wn
  ·exact h20 c cell code kd n dv b W hW wk wn
 clear hu wn;rcases hop with⟨⟨rfl,rfl⟩|⟨rfl,rfl⟩,rfl,rfl⟩|⟨⟨rfl|rfl,rfl⟩|⟨rfl,rfl⟩,rfl,rfl⟩
 all_goals
  go_enter func118,ntmps118
  go_wp2_with (first|(go_at_call_of 97 (r);refine(sk.says (Ij r _ _) HR.out).mono ?_;rintro e w' ⟨rfl,rfl⟩)|(go_at_call_of 97 (a);refine(sk.says (Ij a _ _) HA.out).mono ?_;rintro e w' ⟨rfl,rfl⟩)|(go_at_call 133;refine(HM.out _ (by exact Iu (Iu HU.out _) _)).mono ?_;rintro e w' ⟨b,rfl,rA,Wj⟩))
  go_ret;exact sk.of rA (below2 Wj)
theorem sf0(c:vl)(cell code r a n:Int)(p:Option Addr)(cap:Nat)(mp:ti)(w:ui)(hr:0<=r/\r<4)(ha:0<=a/\a<4)(hs:Sl w p c.nD (fun j=>.int .i64 (c.dv j)))(hb:c.nD<=4):
  Calls prog 118 #[.agg #[.int .i64 cell,.int .i64 code,.slice p c.nD cap,mp],.agg #[.int .i64 14,.int .i64 r,.int .i64 a,.int .i64 n]] w (sk (0<=n/\n<c.nD/\c.dv n.toNat=cell) (Below w.heap.size w)):=by
 refine O8 fun HB=>?_;refine Gg fun HR HA=>?_;clear hr ha;have HS:Hid (Sl w p c.nD (fun j=>.int .i64 (c.dv j))):=hs;clear hs;by_cases h0:0<=n/\n<(c.nD:Int)
 ·have HX:Hid (0<=n/\n<(c.nD:Int)):=h0;obtain⟨m,rfl⟩:=Int.eq_ofNat_of_zero_le h0.1;obtain⟨bd,off,rfl,hc⟩:=HS.out.at E0;have c0:=hc m E0;have Wi:bd<w.heap.size:=block_lt_of_cell c0;clear hc;rw[Int.toNat_natCast];generalize c.dv m=x at *;have hm:m<c.nD:=by omega
  clear h0;have HQ:Hid (∀W:ui,Calls prog 132 #[.int .i64 m,.int .i64 c.nD] W fun e w'=>e=.returned (.bool ji)/\w'=W):=fun W=>sk.says (Ew m c.nD W) HX.out
  go_enter func118,ntmps118
  go_wp2_with (first|(go_at_call_of 97 (r);refine(sk.says (Ij r _ _) HR.out).mono ?_;rintro e w' ⟨rfl,rfl⟩)|(go_at_call_of 97 (a);refine(sk.says (Ij a _ _) HA.out).mono ?_;rintro e w' ⟨rfl,rfl⟩))
  go_quiet ((go_at_call 132;exact Calls.quiet_of_same (HQ.out _)))
  go_wp2_with fail
  go_ret;exact sk.of (b:=(x==cell)) (by simp only[beq_iff_eq];omega) (below_drewN (HB.out _ _) _)
 ·have HX:Hid (¬(0<=n/\n<(c.nD:Int))):=h0;have HN:Hid (¬(0<=n/\n<(c.nD:Int)/\c.dv n.toNat=cell)):=fun h=>h0 ⟨h.1,h.2.1⟩;clear h0;have HQ:Hid (∀W:ui,Calls prog 132 #[.int .i64 n,.int .i64 c.nD] W fun e w'=>e=.returned (.bool gi)/\w'=W):=fun W=>sk.Lp (Ew n c.nD W) HX.out
  go_enter func118,ntmps118
  go_wp2_with (first|(go_at_call_of 97 (r);refine(sk.says (Ij r _ _) HR.out).mono ?_;rintro e w' ⟨rfl,rfl⟩)|(go_at_call_of 97 (a);refine(sk.says (Ij a _ _) HA.out).mono ?_;rintro e w' ⟨rfl,rfl⟩))
  go_quiet ((go_at_call 132;exact Calls.quiet_of_same (HQ.out _)))
  go_wp2_with fail
  go_ret;exact sk.no HN.out (below_drewN (HB.out _ _) _)
theorem sk.turn{P P':Prop}{W:ui->Prop}{e:Ending}{w':ui}(h:sk P W e w')(hp:P↔P'):sk P' W e w':=by
 obtain⟨b,h1,h2,h3⟩:=h;exact⟨b,h1,h2.trans hp,h3⟩
theorem zC(c:vl)(cell b cap:Nat)(p:Option Addr)(op r a n:Int)(w:ui)(hu:Pq w b c)(hs:Sl w p c.nD (fun j=>.int .i64 (c.dv j)))(hb:c.nD<=4)(wn:(Lit.int .i64 n).wf=ji):
  Calls prog 118 #[.agg #[.int .i64 cell,.int .i64 (c.Zi cell),.slice p c.nD cap,.map (yi b)],.agg #[.int .i64 op,.int .i64 r,.int .i64 a,.int .i64 n]] w (sk (Rr c cell (c.Zi cell) op r a n) (Below w.heap.size w)):=by
 by_cases hr:0<=r/\r<4
 case neg=>exact(T40 _ _ _ _ _ _ _ _ _ hr).mono fun e w' ⟨h1,h2⟩=>by subst h1;exact sk.no (fun h=>hr h.2.1) h2
 by_cases ha:0<=a/\a<4
 case neg=>exact(j50 _ _ _ _ _ _ _ _ _ hr ha).mono fun e w' ⟨h1,h2⟩=>by subst h1;exact sk.no (fun h=>ha h.2.2.1) h2
 by_cases hq:0<=op/\op<=16
 case neg=>exact(w20 _ _ op r a n _ _ w hr ha hq).mono fun e w' ⟨h1,h2⟩=>by subst h1;exact sk.no (fun h=>hq h.1) h2
 by_cases hj:op=8\/op=9
 ·refine(Gh0 _ _ op r a n _ _ w hr ha hj).mono fun e w' h=>sk.turn h ?_;exact⟨fun h=>⟨hq,hr,ha,fun _=>h,E0,E0,E0,E0,E0⟩,fun h=>h.2.2.2.1 hj⟩
 have ch:∀(kd en:Int)(jB:Nat)(hop:((op=10/\kd=1\/op=11/\kd=2)/\en=1/\jB=1)\/(((op=12\/op=16)/\kd=1\/op=13/\kd=2)/\en=2/\jB=2)),(Vn c cell n kd jB↔Rr c cell (c.Zi cell) op r a n)->Calls prog 118 #[.agg #[.int .i64 cell,.int .i64 (c.Zi cell),.slice p c.nD cap,.map (yi b)],.agg #[.int .i64 op,.int .i64 r,.int .i64 a,.int .i64 n]] w (sk (Rr c cell (c.Zi cell) op r a n) (Below w.heap.size w)):=fun kd en jB hop hi=>(be0 c _ _ op kd en r a n jB _ b w hr ha hu wn hop).mono fun e w' h=>sk.turn h hi;by_cases e10:op=10
 ·exact ch 1 1 1 E0 ⟨fun h=>⟨hq,hr,ha,E0,fun _=>h,E0,E0,E0,E0⟩,fun h=>h.2.2.2.2.1 e10⟩
 by_cases e11:op=11
 ·exact ch 2 1 1 E0 ⟨fun h=>⟨hq,hr,ha,E0,E0,fun _=>h,E0,E0,E0⟩,fun h=>h.2.2.2.2.2.1 e11⟩
 by_cases e12:op=12\/op=16
 ·exact ch 1 2 2 E0 ⟨fun h=>⟨hq,hr,ha,E0,E0,E0,fun _=>h,E0,E0⟩,fun h=>h.2.2.2.2.2.2.1 e12⟩
 by_cases e13:op=13
 ·exact ch 2 2 2 E0 ⟨fun h=>⟨hq,hr,ha,E0,E0,E0,E0,fun _=>h,E0⟩,fun h=>h.2.2.2.2.2.2.2.1 e13⟩
 by_cases e14:op=14
 ·subst e14;refine(sf0 c _ _ r a n p cap _ w hr ha hs hb).mono fun e w' h=>sk.turn h ?_;exact⟨fun h=>⟨hq,hr,ha,E0,E0,E0,E0,E0,fun _=>h⟩,fun h=>h.2.2.2.2.2.2.2.2 rfl⟩
 exact(W80 _ _ op r a n _ _ w hr ha E0).mono fun e w' ⟨h1,h2⟩=>by subst h1;exact sk.yes ⟨hq,hr,ha,E0,E0,E0,E0,E0,E0⟩ h2
theorem EG(c:vl)(cell b cap h:Nat)(p:Option Addr)(op r a n:Int)(w:ui)(h0:w.cell? ⟨h,0,Ai⟩=yi (.int .i64 cell))(h1:w.cell? ⟨h,1,Ai⟩=yi (.int .i64 (c.Zi cell)))(h2:w.cell? ⟨h,2,Ai⟩=yi (.slice p c.nD cap))(h3:w.cell? ⟨h,3,Ai⟩=yi (.map (yi b)))
  (hu:Pq w b c)(hs:Sl w p c.nD (fun j=>.int .i64 (c.dv j)))(hb:c.nD<=4)(wn:(Lit.int .i64 n).wf=ji):
  Calls prog 117 #[.agg #[.int .i64 op,.int .i64 r,.int .i64 a,.int .i64 n],.pointer (yi ⟨h,0,Ai⟩)] w (sk (¬Rr c cell (c.Zi cell) op r a n) (Below w.heap.size w)):=by
 have Wi:h<w.heap.size:=block_lt_of_cell h0;have HU:Hid (Pq w b c):=hu;have HS:Hid (Sl w p c.nD (fun j=>.int .i64 (c.dv j))):=hs;have HN:Hid ((Lit.int .i64 n).wf=ji):=wn;refine U8 fun HA=>?_;clear hu hs wn;by_cases gl:Rr c cell (c.Zi cell) op r a n
 ·have HO:Hid (Rr c cell (c.Zi cell) op r a n):=gl;clear gl
  go_enter func117,ntmps117
  go_wp2_with (go_at_call 118;refine(sk.says (zC c cell b cap p op r a n _ (by exact Iu HU.out _) (by exact HS.out.below (HA.out _)) hb HN.out) HO.out).mono ?_;rintro e w' ⟨rfl,Wj⟩)
  go_ret;exact sk.no (fun h=>h HO.out) (Yr Wj)
 ·have HO:Hid (¬Rr c cell (c.Zi cell) op r a n):=gl;clear gl
  go_enter func117,ntmps117
  go_wp2_with (go_at_call 118;refine(sk.Lp (zC c cell b cap p op r a n _ (by exact Iu HU.out _) (by exact HS.out.below (HA.out _)) hb HN.out) HO.out).mono ?_;rintro e w' ⟨rfl,Wj⟩)
  go_ret;exact sk.yes HO.out (Yr Wj)
theorem VM(p:Option Addr)(n cap:Nat)(z:Nat->Int)(h:Nat)(P:Nat->Prop)(w:ui)(hs:Sl w p (n*4) (fun j=>.int .i64 (z j)))(hb:n<=17592186044416)
  (DF:∀i,i<n->∀wr,Below w.heap.size w wr->Calls prog 117 #[.agg #[.int .i64 (z (i*4)),.int .i64 (z (i*4+1)),.int .i64 (z (i*4+2)),.int .i64 (z (i*4+3))],.pointer (yi ⟨h,0,Ai⟩)] wr (sk (¬P i) (Below wr.heap.size wr))):
  Calls prog 131 #[.slice p n cap,.func (.func 117) #[] #[.pointer (yi ⟨h,0,Ai⟩)]] w (WH P n w):=by
 have HS:Hid (Sl w p (n*4) (fun j=>.int .i64 (z j))):=hs;have HC:Hid (∀i,i<n->∀wr,Below w.heap.size w wr->Calls prog 117 #[.agg #[.int .i64 (z (i*4)),.int .i64 (z (i*4+1)),.int .i64 (z (i*4+2)),.int .i64 (z (i*4+3))],.pointer (yi ⟨h,0,Ai⟩)] wr (sk (¬P i) (Below wr.heap.size wr))):=DF;clear hs DF
 go_enter func131,ntmps131
 go_wp2_with fail
 go_loopw [8] (fun i wr=>∃k:Nat,k<=n/\i=.int .i64 k/\Hid (Hj P k)/\Hid (Below w.heap.size w wr)) (fun i _=>n-(intOf i).toNat)
 case atStart=>exact⟨0,Nat.zero_le _,rfl,Hj.zero _,Below.refl _ _⟩
 case round=>
  obtain⟨k,hk,rfl,HI,HW⟩:=hrel;by_cases Wi:k<n
  ·obtain⟨b,off,rfl,hc⟩:=(HS.out.below HW.out).at E0;have c0:=hc (k*4) E0;have c1:=hc (k*4+1) E0;have c2:=hc (k*4+2) E0;have c3:=hc (k*4+3) E0;rw[<-Nat.add_assoc]at c1 c2 c3;clear hc;by_cases gl:P k
   ·have HO:Hid (P k):=gl;clear gl;go_wp2_with (go_at_call 117;refine(sk.Lp (HC.out k Wi wr HW.out) (fun h=>h HO.out)).mono ?_;rintro e w' ⟨rfl,Wj⟩);exact Db
   ·have HO:Hid (¬P k):=gl;clear gl;go_wp2_with (go_at_call 117;refine(sk.says (HC.out k Wi wr HW.out) HO.out).mono ?_;rintro e w' ⟨rfl,Wj⟩);exact Jc
  ·obtain rfl:k=n:=by omega
   exact Ve
theorem cM(p:Option Addr)(n cap:Nat)(z:Nat->Int)(h:Nat)(P:Nat->Prop)(w:ui)(hs:Sl w p (n*4) (fun j=>.int .i64 (z j)))(hb:n<=17592186044416)
  (DF:∀i,i<n->∀wr,Below w.heap.size w wr->Calls prog 117 #[.agg #[.int .i64 (z (i*4)),.int .i64 (z (i*4+1)),.int .i64 (z (i*4+2)),.int .i64 (z (i*4+3))],.pointer (yi ⟨h,0,Ai⟩)] wr (sk (¬P i) (Below wr.heap.size wr))):
  Calls prog 116 #[.slice p n cap,.func (.func 117) #[] #[.pointer (yi ⟨h,0,Ai⟩)]] w (sk (¬Hj P n) (Below w.heap.size w)):=by
 have HI:Hid (Calls prog 131 #[.slice p n cap,.func (.func 117) #[] #[.pointer (yi ⟨h,0,Ai⟩)]] w (WH P n w)):=VM p n cap z h P w hs hb DF;clear hs DF hb
 go_enter func116,ntmps116
 go_wp2_with (go_at_call 131;refine HI.out.mono ?_;rintro e w' ⟨x,rfl,hx,Wj⟩;have HX:Hid _:=hx;clear hx)
 go_ret;refine sk.of (b:=decide (0<=x)) ?_ Wj;simp only[decide_eq_true_eq];rcases HX.out with⟨rfl,h⟩|⟨i,rfl,h⟩
 ·exact⟨fun h=>absurd h E0,fun h'=>absurd h h'⟩
 ·exact⟨fun _ h'=>h.Ku h',fun _=>E0⟩
def OD(c:vl):Prop:=∀i,i<c.nC->∀j,j<c.Zi i*4->-9223372036854775808<=c.code i j/\c.code i j<=9223372036854775807
theorem eJ(c:vl)(cell b cap Zr Yw:Nat)(p pc pi:Option Addr)(w:ui)(hu:Pq w b c)(hs:Sl w p c.nD (fun j=>.int .i64 (c.dv j)))(hb:c.nD<=4)
  (Gj:Sl w pc (c.Zi cell*4) (fun j=>.int .i64 (c.code cell j)))(YC:c.Zi cell<=8796093022208)(hib:c.Vj cell<=17592186044416)(hw:∀j,j<c.Zi cell*4->-9223372036854775808<=c.code cell j/\c.code cell j<=9223372036854775807):
  Calls prog 99 #[.agg #[.int .i64 cell,.int .i64 (c.Zi cell),.slice p c.nD cap,.map (yi b)],.agg #[.slice pc (c.Zi cell) Zr,.slice pi (c.Vj cell) Yw,.int .i64 (c.lim cell)]] w (sk (Wn c cell) (Below w.heap.size w)):=by
 refine U8 fun HA=>?_;refine O8 fun HB=>?_;have HQ:Hid (∀o':Obj,Calls prog 116 #[.slice pc (c.Zi cell) Zr,.func (.func 117) #[] #[.pointer (yi ⟨w.heap.size,0,Ai⟩)]] ((w.alloc (.cells #[.int .i64 cell,.int .i64 (c.Zi cell),.slice p c.nD cap,.map (yi b)] 207)).alloc o')
   (sk (¬Hj (gy c cell) (c.Zi cell)) (Below ((w.alloc (.cells #[.int .i64 cell,.int .i64 (c.Zi cell),.slice p c.nD cap,.map (yi b)] 207)).alloc o').heap.size ((w.alloc (.cells #[.int .i64 cell,.int .i64 (c.Zi cell),.slice p c.nD cap,.map (yi b)] 207)).alloc o')))):=by
  intro o';refine cM pc (c.Zi cell) Zr (c.code cell) w.heap.size (gy c cell) _ (Gj.below (HB.out _ _)) E0 (fun i hi wr Wj=>?_);have Zs:Below (w.heap.size+1) (w.alloc (.cells #[.int .i64 cell,.int .i64 (c.Zi cell),.slice p c.nD cap,.map (yi b)] 207)) wr:=((Below.refl _ _).alloc P0 o').trans (Wj.mono P0);obtain⟨x0,x1,x2,x3⟩:=OA Zs;exact EG c cell b cap w.heap.size p _ _ _ _ wr x0 x1 x2 x3 (cy hu (ij Zs)) (hs.below (ij Zs)) hb (D_ (hw _ E0).1 (hw _ E0).2)
 clear hu hs Gj hw;by_cases h1:(0<=c.lim cell/\c.lim cell<=5)/\c.Vj cell<=16
 case neg=>
  have HN:Hid (¬Wn c cell):=fun h=>h1 ⟨h.1,h.2.1⟩
  go_enter func99,ntmps99
  go_wp2_with fail
  all_goals
   go_ret;exact sk.no HN.out (HB.out _ _)
 obtain⟨⟨g1,g2⟩,g3⟩:=h1;by_cases h2:1<=c.Zi cell/\c.Zi cell<=48
 case neg=>
  have HN:Hid (¬Wn c cell):=fun h=>h2 h.2.2.1
  go_enter func99,ntmps99
  go_wp2_with fail
  all_goals
   go_ret;exact sk.no HN.out (HB.out _ _)
 obtain⟨g4,g5⟩:=h2;by_cases gl:Hj (gy c cell) (c.Zi cell)
 ·have HO:Hid (Hj (gy c cell) (c.Zi cell)):=gl;have HC:Hid (Wn c cell):=⟨⟨g1,g2⟩,g3,⟨g4,g5⟩,gl⟩;clear gl
  go_enter func99,ntmps99
  go_wp2_with (go_at_call 116;refine(sk.Lp (HQ.out _) (fun h=>h HO.out)).mono ?_;rintro e w' ⟨rfl,Wj⟩)
  go_ret;exact sk.yes HC.out (below2 Wj)
 ·have HO:Hid (¬Hj (gy c cell) (c.Zi cell)):=gl;have HC:Hid (¬Wn c cell):=fun h=>gl h.2.2.2;clear gl
  go_enter func99,ntmps99
  go_wp2_with (go_at_call 116;refine(sk.says (HQ.out _) HO.out).mono ?_;rintro e w' ⟨rfl,Wj⟩)
  go_ret;exact sk.no HC.out (below2 Wj)
theorem RH(c:vl)(v0 v1 v2 v3:ti)(w:ui)(h:Bq w v0 v1 v2 v3 c)(hw:OD c)(h6:c.nC<=6)(h8:c.qj<=8)(yB:Hj (bu c) c.qj)(h4:c.nD<=4):
  Calls prog 78 #[.agg #[v0,v1,v2,v3]] w (WH (Wn c) c.nC w):=by
 obtain⟨p0,yj,F0,p1,wj,F1,p2,cap2,p3,nk,rfl,rfl,rfl,rfl,s0,k0,s1,k1,s2,s3,b0,b1,b2,b3⟩:=h.parts;clear h s1 k1 b1 b2 b3;refine La fun S0 K0=>?_;have S2:Hid (Sl w p2 (c.qj*3) (fun j=>.int .i64 (c.ch j))):=s2;have S3:Hid (Sl w p3 c.nD (fun j=>.int .i64 (c.dv j))):=s3;have HW0:Hid (OD c):=hw;have HC:Hid (Hj (bu c) c.qj):=yB;clear s0 k0 s2 s3 hw yB;refine U8 fun HA=>?_
 go_enter func78,ntmps78
 go_wp2_with fail
 refine(vQ c p2 cap2 _ (S2.out.below (HA.out _)) h8 HC.out h6).mono ?_;rintro e w1 ⟨bm,rfl,hu,Wj⟩;have HU:Hid (Pq w1 bm c):=hu;refine Lc fun Xq=>?_;obtain⟨x0,x1,x2,x3⟩:=OA Xq.out;have hH:w.heap.size<w1.heap.size:=block_lt_of_cell x0;clear hu Wj x1 x2;go_wp2_with fail;go_loopw [13] (fun i wr=>∃k:Nat,k<=c.nC/\i=.int .i64 k/\Hid (Hj (Wn c) k)/\Hid (Below w1.heap.size w1 wr)) (fun i _=>c.nC-(intOf i).toNat)
 case atStart=>exact⟨0,Nat.zero_le _,rfl,Hj.zero _,Below.refl _ _⟩
 case round=>
  obtain⟨k,hk,rfl,HI,HW⟩:=hrel;have Lq:Hid (Below (w.heap.size+1) (w.alloc (.cells #[.slice p0 c.nC yj,.slice p1 c.nT wj,.slice p2 c.qj cap2,.slice p3 c.nD nk] 28)) wr):=Xq.out.trans (HW.out.mono E0);clear x0 x3;by_cases Wi:k<c.nC
  ·obtain⟨b,off,rfl,hc⟩:=(S0.out.below (ij Lq.out)).at E0;obtain⟨x0,x1,x2,x3⟩:=OA Lq.out;have hH1:w.heap.size<wr.heap.size:=block_lt_of_cell x0;have hsz:w1.heap.size<=wr.heap.size:=HW.out.size;refine Ta fun c0 c1 c2=>?_;refine Fg fun yo=>?_;rw[<-Nat.add_assoc]at c1 c2;clear hc x1 x2;obtain⟨⟨pc,Zr,FU,-,-,-,bc,sc⟩,⟨pi,Yw,hF1,-,-,-,bi,-⟩,ql⟩:=K0.out k Wi;rw[FU]at c0;rw[hF1]at c1;rw[ql]at c2;have hnc:c.Zi k<=8796093022208:=by omega
   have hni:c.Vj k<=17592186044416:=E0;have HQ:Hid (∀W,Below wr.heap.size wr W->Calls prog 99 #[.agg #[.int .i64 k,.int .i64 (c.Zi k),.slice p3 c.nD nk,.map (yi bm)],.agg #[.slice pc (c.Zi k) Zr,.slice pi (c.Vj k) Yw,.int .i64 (c.lim k)]] W (sk (Wn c k) (Below W.heap.size W))):=fun W hW=>
    eJ c k bm nk Zr Yw p3 pc pi W (cy (cy HU.out HW.out) hW) ((S3.out.below (ij Lq.out)).below hW) h4 ((sc.below (ij Lq.out)).below hW) hnc hni (HW0.out k Wi)
   have Qv:Hid (∀o o',Below wr.heap.size wr ((wr.alloc o).alloc o')):=fun o o'=>((Below.refl _ _).alloc (Nat.le_refl _) _).alloc P0 _;clear FU hF1 ql bc sc bi;by_cases gl:Wn c k
   ·have HO:Hid (Wn c k):=gl;clear gl;go_wp2_with (go_at_call 99;refine(sk.says (HQ.out _ (by exact Qv.out _ _)) HO.out).mono ?_;rintro e w' ⟨rfl,Wj⟩);refine⟨⟨k+1,E0,J1,HI.out.step HO.out,?_⟩,U1⟩;exact HW.out.trans ((below2 Wj).mono hsz)
   ·have HO:Hid (¬Wn c k):=gl;clear gl;go_wp2_with (go_at_call 99;refine(sk.Lp (HQ.out _ (by exact Qv.out _ _)) HO.out).mono ?_;rintro e w' ⟨rfl,Wj⟩);go_ret;exact WH.some ⟨Wi,HO.out,HI.out⟩ (ij (Lq.out.trans ((below2 Wj).mono E0)))
  ·obtain rfl:k=c.nC:=by omega
   go_wp2_with fail
   go_ret;exact WH.none HI.out (ij Lq.out)
def qD(L:Prop)(P:Nat->Prop)(n:Nat)(w:ui)(e:Ending)(w':ui):Prop:=
 ∃x:Int,e=.returned (.int .i64 x)/\((¬L/\x=0)\/(L/\x=-1/\Hj P n)\/∃i:Nat,L/\x=i/\Ky P n i)/\Below w.heap.size w w'
theorem qD.of{L:Prop}{P:Nat->Prop}{n:Nat}{w w':ui}{x:Int}(hL:L)(h:(x=-1/\Hj P n)\/∃i:Nat,x=i/\Ky P n i)(hb:Below w.heap.size w w'):qD L P n w (.returned (.int .i64 x)) w':=
 ⟨x,rfl,.inr (h.elim (fun ⟨a,b⟩=>.inl ⟨hL,a,b⟩) (fun ⟨i,a,b⟩=>.inr ⟨i,hL,a,b⟩)),hb⟩
theorem qD.long{L:Prop}{P:Nat->Prop}{n:Nat}{w w':ui}(hL:¬L)(hb:Below w.heap.size w w'):qD L P n w (.returned (.int .i64 0)) w':=⟨0,rfl,.inl ⟨hL,rfl⟩,hb⟩
theorem box1{w w':ui}{v0:ti}{t:Nat}(h:Below (w.alloc (.cells #[v0] t)).heap.size (w.alloc (.cells #[v0] t)) w'):w'.cell? ⟨w.heap.size,0,Ai⟩=yi v0:=by
 rw[h.cell (p:=⟨w.heap.size,0,Ai⟩) P0];exact cell_of_row _ _ _ _ _ _ (heap_alloc_new w _)
theorem NI(c:vl)(p:Option Addr)(cap:Nat)(F:Nat->ti)(w:ui)(hs:Sl w p c.nT F)(hk:∀i,i<c.nT->Hu w (F i) (c.jC i) (c.nRow i) 2 (c.row i) 16)(hb:c.nT<=8796093022208):
  Calls prog 75 #[.slice p c.nT cap,.int .i64 c.nC] w (qD (Ns c) (Xp c) c.nT w):=by
 refine U8 fun HA=>?_;have HQ:Hid (Calls prog 89 #[.slice p c.nT cap,.func (.func 90) #[] #[.pointer (yi ⟨w.heap.size,0,Ai⟩)]] (w.alloc (.cells #[.int .i64 c.nC] 3)) (WH (Xp c) c.nT (w.alloc (.cells #[.int .i64 c.nC] 3)))):=by
  refine WM p c.nT cap F w.heap.size (Xp c) _ (hs.below (HA.out _)) hb (fun i hi wr Wj=>?_);obtain⟨pr,JI,hF,-,-,-,aZ,hsr⟩:=hk i hi;rw[hF];exact XG pr (c.nRow i) JI c.nC w.heap.size (c.row i) wr (box1 Wj) ((hsr.below (HA.out _)).below Wj) aZ
 clear hs hk;by_cases hn:Ns c
 ·have HN:Hid (Ns c):=hn;have h1:1<=c.nT:=hn.1;have h2:c.nT<=8:=hn.2;clear hn
  go_enter func75,ntmps75
  go_wp2_with (go_at_call 89;refine HQ.out.mono ?_;rintro e w' ⟨x,rfl,hx,Wj⟩;have HX:Hid _:=hx;clear hx)
  go_ret;exact qD.of HN.out HX.out (Yr Wj)
 ·have HN:Hid (¬Ns c):=hn;have hq:c.nT<1\/8<c.nT:=by unfold Ns at hn;omega
  clear hn;rcases hq with hq|hq
  all_goals
   go_enter func75,ntmps75
   go_wp2_with fail
   go_ret;exact qD.long HN.out (HA.out _)
theorem PG(c:vl)(p:Option Addr)(cap:Nat)(w:ui)(hs:Sl w p (c.qj*3) (fun j=>.int .i64 (c.ch j)))(hb:c.qj<=8796093022208):
  Calls prog 76 #[.slice p c.qj cap,.int .i64 c.nC] w (qD (c.qj<=8) (bu c) c.qj w):=by
 refine U8 fun HA=>?_;have HQ:Hid (Calls prog 92 #[.slice p c.qj cap,.func (.func 93) #[] #[.pointer (yi ⟨w.heap.size,0,Ai⟩)]] (w.alloc (.cells #[.int .i64 c.nC] 3)) (WH (bu c) c.qj (w.alloc (.cells #[.int .i64 c.nC] 3)))):=
  dJ p c.qj cap c.ch w.heap.size (bu c) _ (hs.below (HA.out _)) E0 (fun i hi wr Wj=>bG _ _ _ c.nC w.heap.size wr (box1 Wj))
 clear hs;by_cases h2:c.qj<=8
 ·go_enter func76,ntmps76
  go_wp2_with (go_at_call 92;refine HQ.out.mono ?_;rintro e w' ⟨x,rfl,hx,Wj⟩;have HX:Hid _:=hx;clear hx)
  go_ret;exact qD.of h2 HX.out (Yr Wj)
 ·go_enter func76,ntmps76
  go_wp2_with fail
  go_ret;exact qD.long h2 (HA.out _)
theorem tJ(c:vl)(p:Option Addr)(cap:Nat)(w:ui)(hs:Sl w p c.nD (fun j=>.int .i64 (c.dv j)))(hb:c.nD<=17592186044416):
  Calls prog 77 #[.slice p c.nD cap,.int .i64 c.nC] w (qD (c.nD<=4) (lB c) c.nD w):=by
 refine U8 fun HA=>?_;have HQ:Hid (Calls prog 95 #[.slice p c.nD cap,.func (.func 96) #[] #[.pointer (yi ⟨w.heap.size,0,Ai⟩)]] (w.alloc (.cells #[.int .i64 c.nC] 3)) (WH (lB c) c.nD (w.alloc (.cells #[.int .i64 c.nC] 3)))):=
  bM p c.nD cap c.dv w.heap.size (lB c) _ (hs.below (HA.out _)) E0 (fun i hi wr Wj=>CG _ c.nC w.heap.size wr (box1 Wj))
 clear hs;by_cases h2:c.nD<=4
 ·go_enter func77,ntmps77
  go_wp2_with (go_at_call 95;refine HQ.out.mono ?_;rintro e w' ⟨x,rfl,hx,Wj⟩;have HX:Hid _:=hx;clear hx)
  go_ret;exact qD.of h2 HX.out (Yr Wj)
 ·go_enter func77,ntmps77
  go_wp2_with fail
  go_ret;exact qD.long h2 (HA.out _)
theorem jr(w:ui)(t k:Nat):(w.alloc (.cells #[] t)).ownsRow w.heap.size t k (.slice (yi ⟨w.heap.size,0,Ai⟩) 0 0) 0 []:=
 ⟨P0,.inr ⟨w.heap.size,0,#[],rfl,Nat.le_refl _,heap_alloc_new w _,Nat.le_refl _,Nat.zero_le _,P0,P0⟩⟩
theorem Xo{P:Program}(w:ui){ops:Array Oper}{rest:List Oper}{o:Oper}{a:Act}{Q:Exit->Act->ui->Prop}(UK:o.guard=Ai)(s x:Operand)(t:TypeId)
  (ho:o.op=.call {callee:=.builtin .append,args:=#[s,x],argTypes:=#[t,t]})
  (base:Nat)(e:TypeId)(z:ti)(size bytes:Nat)(ht:P.underlying t=yi (.slice e))(Xr:(P.info? e).map (fun i=>(i.zero,i.size,i.bytes))=yi (yi z,size,bytes))
  (hzs:z.cells.size=size)(hsz:0<size)(v:ti)(n:Nat)(xs:List ti)(hs:a.eval s=v)(rj:w.ownsRow base e size v n xs)
  (b off m c:Nat)(f:Nat->ti)(hx:a.eval x=.slice (yi ⟨b,off,Ai⟩) m c)(hc:∀j,j<m*size->w.cell? ⟨b,off+j,Ai⟩=yi (f j))(h1:∀j,(f j).oneCell'=ji)
  (hm:0<m)(zV:n+m<=maxLen)(iu:(n+m)*bytes<=140737488355328)(iz:base<=w.heap.size)
  (h:∀g cap w',w'.ownsRow base e size (.slice (yi ⟨g,0,Ai⟩) (n+m) cap) (n+m) (xs++(List.range (m*size)).map f)->w.grownBy w' v.ownBlock->(v.ownBlock=yi g\/g=w.heap.size)->g<w'.heap.size->wpList P ops Q rest (a.put o.dst (.slice (yi ⟨g,0,Ai⟩) (n+m) cap)) w'):wpList P ops Q (o::rest) a w:=by
 obtain⟨i,h2,h3,h4,h5⟩:=info_parts Xr;refine wpList_append_lies w UK s x t ho base e i z size bytes ht h2 h3 h4 h5 hzs hsz v n xs hs rj ⟨b,off,Ai⟩ m c ((List.range (m*size)).map f) hx P0 (fun j u hu=>?_) (fun u hu=>?_) hm zV iu iz _ rfl h
 ·rw[List.getElem?_map]at hu;obtain⟨y,hy,rfl⟩:=Option.map_eq_some_iff.1 hu;have hj:j<m*size:=by
   have:=(List.getElem?_eq_some_iff.1 hy).1;exact Yc
  rw[List.getElem?_range hj]at hy;cases hy;have e1:(⟨b,off,Ai⟩:Addr).add j=⟨b,off+j,Ai⟩:=by
   unfold Addr.add;split
   ·rename_i h0;simp_all
   ·rfl
  rw[e1];exact hc j hj
 ·obtain⟨y,_,rfl⟩:=List.mem_map.1 hu;exact h1 y
theorem Ot{P:Program}{ops:Array Oper}{o:Oper}{a:Act}{w:ui}{K:Act->ui->Prop}{Q:Exit->Act->ui->Prop}{E:Prop}(UK:o.guard=Ai)(f:FuncId)(s:Operand)(t:TypeId)
  (ho:o.op=.call {callee:=.value (.func f),args:=#[s],argTypes:=#[t]})(v:ti)(hv:a.eval s=v)
  (fn : Func) (hf : P.funcs[f]? = yi fn) (hn : (fn.name == "runtime.NumGoroutine") = gi) (hb : fn.body.isNone = gi) (R : ti -> ui -> Prop)
  (h:Calls P f #[v] w (fun e w'=>∃r,e=.returned r/\R r w'))(hk:∀r w',R r w'->K (a.put o.dst r) w'):
  if Region.wanted o (yielded ops a.tmps)=ji then Oper.wp P o a w K Q else E:=by
 have hw:Region.wanted o (yielded ops a.tmps)=true:=by simp[Region.wanted,UK]
 rw[if_pos hw];unfold Oper.wp;have hr:(execOp a.eval o).run P w=.ok (.enter f #[v]) w:=by
  have e:a.eval (.func f)=.func (.func f) #[] #[]:=rfl;have hn' : ¬ fn.name = "runtime.NumGoroutine" := y5
  have uk:¬fn.body=none:=by intro e;rw[e]at hb;cases hb
  simp[execOp,ho,resolve,invoke,hv,e,Deferred.ofValue,callFunc,hf,hn',uk]
 rw[hr];refine h.mono ?_;rintro e w' ⟨r,rfl,hR⟩;exact hk r w' hR
theorem XP{P:Program}(w:ui)(dT sT ty elem:TypeId)(size g o Ww mN:Nat)(sp:Option Addr)(Zk QL:Nat)(m t:Nat)(f f':Nat->ti)
  (hu:P.underlying dT=yi (.slice elem))(hs:(P.info? elem).map (·.size)=yi size)(hle:Zk<=Ww)(Nk:Ei w g m t f)(hm:o+Ww*size<=m)
  (uT:Sl w sp (Zk*size) f')(h1:∀j,j<Zk*size->(f' j).oneCell'=ji)(Ry:sp=Ai->Zk=0):
  ∃w',(Builtin.copy_ #[dT,sT] ty #[.slice (yi ⟨g,o,Ai⟩) Ww mN,.slice sp Zk QL]).run P w=.ok (goInt Zk) w'/\
   Ei w' g m t (fun j=>if o<=j/\j<o+Zk*size then f' (j-o)else f j)/\w.grownBy w' (yi g)/\w'.heap.size=w.heap.size:=by
 have y10:Nat.min Zk Ww=Zk:=Nat.min_eq_left hle;cases hq:P.info? elem with
 |none=>simp[hq]at hs
 |some i=>
  have hi:i.size=size:=by simpa[hq]using hs
  rcases uT with hm0|⟨b,off,rfl,hc⟩
  ·refine⟨w,?_,Nk.congr (fun j _=>by rw[hm0,if_neg];omega),World.grownBy.refl _ _,rfl⟩;cases sp with
   |none=>
    have h0:=Ry rfl;subst h0;simp[Builtin.copy_,run_underlying hu,Builtin.lenOf,Builtin.firstCells,sizeOf,typeInfo,hq,storeCells]
   |some q=>
    have hl:(loadCells q 0).run P w=.ok #[] w:=by
     have:=run_loadCells_list (P:=P) w q [] (fun j v hv=>by simp at hv);exact Yc
    simp[Builtin.copy_,run_underlying hu,Builtin.lenOf,Builtin.firstCells,sizeOf,typeInfo,hq,hi,y10,hm0,hl,storeCells]
  ·obtain⟨cs,hg,hcs,hf⟩:=Nk;have hl:(loadCells ⟨b,off,Ai⟩ (Zk*size)).run P w=.ok ((List.range (Zk*size)).map f').toArray w:=by
    have:=run_loadCells_list (P:=P) w ⟨b,off,Ai⟩ ((List.range (Zk*size)).map f') (fun j v hv=>by
     rw[Addr.add_lit];have hj:j<Zk*size:=by have:=(List.getElem?_eq_some_iff.1 hv).1;exact Yc
     rw[hc j hj];rw[<-hv];simp[hj])
    exact Yc
   have Ud0:Zk*size<=Ww*size:=Nat.mul_le_mul_right _ hle;have wm:=run_storeCells_at P g o t ((List.range (Zk*size)).map f') 0 cs w hg (by simp[hcs];omega) (fun v hv=>by
    obtain⟨j,hj,rfl⟩:=List.mem_map.1 hv;exact h1 j E2)
   have ma0:(storeCells ⟨g,o,Ai⟩ ((List.range (Zk*size)).map f')).run P w=.ok () (w.setRow g (cs.toList.take o++((List.range (Zk*size)).map f'++cs.toList.drop (o+Zk*size))).toArray):=by
    simpa using wm
   refine⟨w.setRow g (cs.toList.take o++((List.range (Zk*size)).map f'++cs.toList.drop (o+Zk*size))).toArray,?_,⟨(cs.toList.take o++((List.range (Zk*size)).map f'++cs.toList.drop (o+Zk*size))).toArray,setRow_heap w g cs _ t _ hg,?_,?_⟩,⟨rfl,rfl,rfl,P0,fun k _ hk=>setRow_other w g k _ (fun e=>hk (by simp[e]))⟩,P0⟩
   ·exact Ag
   ·simp[hcs];omega
   ·intro j hj;show _=yi (if o<=j/\j<o+Zk*size then f' (j-o)else f j);have ho:(cs.toList.take o).length=o:=by simp[hcs];omega
    by_cases h2:j<o
    ·rw[if_neg E0,<-hf j hj];simp only[List.getElem?_toArray];rw[List.getElem?_append_left E0,List.getElem?_take_of_lt h2];simp
    ·by_cases Wi:j<o+Zk*size
     ·rw[if_pos ⟨E0,Wi⟩];simp only[List.getElem?_toArray];rw[List.getElem?_append_right E0,List.getElem?_append_left (by simp only[List.length_map,List.length_range];omega),ho];have h3:j-o<Zk*size:=by omega
      simp[h3]
     ·rw[if_neg E0,<-hf j hj];simp only[List.getElem?_toArray];rw[List.getElem?_append_right E0,List.getElem?_append_right (by simp only[List.length_map,List.length_range];omega),ho];simp only[List.length_map,List.length_range,List.getElem?_drop];rw[show o+Zk*size+(j-o-Zk*size)=j by omega];simp
theorem ZL{P:Program}{w:ui}{ops:Array Oper}{o:Oper}{a:Act}{K:Act->ui->Prop}{Q:Exit->Act->ui->Prop}{E:Prop}(UK:o.guard=Ai)(d s:Operand)(dT sT:TypeId)
  (ho:o.op=.call {callee:=.builtin .copy,args:=#[d,s],argTypes:=#[dT,sT]})(elem:TypeId)(zv:ti)(size bytes:Nat)(hu:P.underlying dT=yi (.slice elem))(Xr:(P.info? elem).map (fun i=>(i.zero,i.size,i.bytes))=yi (yi zv,size,bytes))
  (g off Ww mN:Nat)(sp:Option Addr)(Zk QL:Nat)(hd:a.eval d=.slice (yi ⟨g,off,Ai⟩) Ww mN)(hs:a.eval s=.slice sp Zk QL)
  (m t:Nat)(f f':Nat->ti)(hle:Zk<=Ww)(Nk:Ei w g m t f)(hm:off+Ww*size<=m)
  (uT:Sl w sp (Zk*size) f')(h1:∀j,j<Zk*size->(f' j).oneCell'=ji)(Ry:sp=Ai->Zk=0)
  (h:∀w',Ei w' g m t (fun j=>if off<=j/\j<off+Zk*size then f' (j-off)else f j)->w.grownBy w' (yi g)->w'.heap.size=w.heap.size->K (a.put o.dst (goInt Zk)) w'):
  if Region.wanted o (yielded ops a.tmps)=ji then Oper.wp P o a w K Q else E:=by
 have hw:Region.wanted o (yielded ops a.tmps)=true:=by simp[Region.wanted,UK]
 rw[if_pos hw];have hsz:(P.info? elem).map (·.size)=yi size:=by
  obtain⟨i,h2,_,h4,_⟩:=info_parts Xr;simp[h2,h4]
 obtain⟨w',zu,r1,r2,r3⟩:=XP (P:=P) w dT sT o.type elem size g off Ww mN sp Zk QL m t f f' hu hsz hle Nk hm uT h1 Ry;unfold Oper.wp;simp[execOp,ho,resolve,invoke,builtin,hd,hs,zu,Result.andThen];exact h w' r1 r2 r3
def cellV(num:Int)(net code:ti)(z:Nat->Int)(j:Nat):Value:=if j=0 then .int .i64 num else if j=1 then net else if j=2 then code else .int .i64 (z j)
def qt(lim:Int)(m:Nat)(img:Nat->Int)(j:Nat):Int:=if j=3 then lim else if 8<=j/\j<8+m then img (j-8)else if 29<=j/\j<29+m then img (j-29)else 0
theorem row48(w:ui)(t:Nat)(a b c d:ti):Ei (w.alloc (.cells (List.toArray (a::b::c::d::.int .i64 0::.int .i64 0::.int .i64 0::.int .i64 0::.int .i64 0::.int .i64 0::.int .i64 0::.int .i64 0::.int .i64 0::.int .i64 0::.int .i64 0::.int .i64 0::.int .i64 0::.int .i64 0::.int .i64 0::.int .i64 0::.int .i64 0::.int .i64 0::.int .i64 0::.int .i64 0::.int .i64 0::.int .i64 0::.int .i64 0::.int .i64 0::.int .i64 0::.int .i64 0::.int .i64 0::.int .i64 0::.int .i64 0::.int .i64 0::.int .i64 0::.int .i64 0::.int .i64 0::.int .i64 0::.int .i64 0::.int .i64 0::.int .i64 0::.int .i64 0::.int .i64 0::.int .i64 0::.int .i64 0::.int .i64 0::.int .i64 0::.int .i64 0::[])) t)) w.heap.size 48 t (fun j=>if j=0 then a else if j=1 then b else if j=2 then c else if j=3 then d else .int .i64 0):=by
 refine Ei.new w _ t _ (fun j hj=>?_);have e:((List.toArray (a::b::c::d::.int .i64 0::.int .i64 0::.int .i64 0::.int .i64 0::.int .i64 0::.int .i64 0::.int .i64 0::.int .i64 0::.int .i64 0::.int .i64 0::.int .i64 0::.int .i64 0::.int .i64 0::.int .i64 0::.int .i64 0::.int .i64 0::.int .i64 0::.int .i64 0::.int .i64 0::.int .i64 0::.int .i64 0::.int .i64 0::.int .i64 0::.int .i64 0::.int .i64 0::.int .i64 0::.int .i64 0::.int .i64 0::.int .i64 0::.int .i64 0::.int .i64 0::.int .i64 0::.int .i64 0::.int .i64 0::.int .i64 0::.int .i64 0::.int .i64 0::.int .i64 0::.int .i64 0::.int .i64 0::.int .i64 0::.int .i64 0::.int .i64 0::.int .i64 0::[])):Array ti)=([a,b,c,d]++List.replicate 44 (Value.int .i64 0)).toArray:=rfl;rw[e]at hj ⊢;rcases j with _|_|_|_|j
 ·rfl
 ·rfl
 ·rfl
 ·rfl
 ·simp only[List.size_toArray,List.length_append,List.length_cons,List.length_nil,List.length_replicate]at hj;show ([a,b,c,d]++List.replicate 44 (Value.int .i64 0)).toArray[j+1+1+1+1]?=yi (.int .i64 0);rw[List.getElem?_toArray,List.getElem?_append_right P0,List.getElem?_replicate,if_pos (by simp only[List.length_cons,List.length_nil];omega)]
theorem MA:(prog.info? 184).map (·.size)=yi 21:=J0
theorem FN{w:ui}{g t:Nat}{a b c:ti}{G:Nat->Int}(h:Ei w g 48 t (fun j=>if j=0 then a else if j=1 then b else if j=2 then c else .int .i64 (G j))):w.rangeAt g 4 ((List.range 21).map (fun j=>.int .i64 (G (4+j)))):=fun j v hv=>by
 rw[List.getElem?_map]at hv;obtain⟨y,hy,rfl⟩:=Option.map_eq_some_iff.1 hv;have hj:j<21:=by
  have:=(List.getElem?_eq_some_iff.1 hy).1;exact Yc
 rw[List.getElem?_range hj]at hy;cases hy;have:=h.cell (j:=4+j) E0;rw[this,if_neg E0,if_neg E0,if_neg E0]
theorem ZP{w:ui}{g t:Nat}{f:Nat->ti}{L:List ti}(h:Ei w g 48 t f)(hL:L.length=21):w.there g 25 L.toArray.size:=fun j hj=>by
 have Vs:j<21:=by rw[List.size_toArray,hL]at hj;exact hj
 rw[h.cell (j:=25+j) E0];exact⟨rfl,h.frozen _⟩
theorem below_setCells{B:Nat}{w0 w:ui}{b:Nat}(h:Below B w0 w)(hb:B<=b):∀(o:Nat)(vs:List ti),Below B w0 (w.setCells b o vs):=by
 intro o vs;induction vs generalizing o w with
 |nil=>exact h
 |cons v vs ih=>exact ih (h.setCell hb _) _
theorem Ei.setCells{w:ui}{g m t:Nat}{f:Nat->ti}(h:Ei w g m t f):∀(vs:List ti)(o:Nat),Ei (w.setCells g o vs) g m t (fun j=>if o<=j/\j<o+vs.length then vs.getD (j-o) ri else f j):=by
 intro vs;induction vs generalizing w f with
 |nil=>exact fun o=>h.congr fun j _=>by rw[if_neg P0]
 |cons v vs ih=>
  intro o;refine(ih (h.set o v) (o+1)).congr fun j _=>?_;simp only[List.length_cons];by_cases h1:o+1<=j/\j<o+1+vs.length
  ·rw[if_pos h1,if_pos E0,show j-o=(j-(o+1))+1 by omega];rfl
  ·rw[if_neg h1];by_cases h2:j=o
   ·subst h2;rw[if_pos rfl,if_pos E0,Nat.sub_self];rfl
   ·rw[if_neg h2,if_neg E0]
theorem oM : (Tryz.f79.name == "runtime.NumGoroutine") = gi := J0
theorem NM:Tryz.f79.body.isNone=false:=J0
end Go.Proofs.YtdoghgnifkgfdaaGreat
