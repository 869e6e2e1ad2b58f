import Derived.BigQuiet
import Derived.Deep.QuietTactic
import Derived.Deep.RegionWith
import Derived.WalkSmall
import Derived.Test.YtdoghgnifkgfdaaGreatP17
set_option maxRecDepth 100000
set_option maxHeartbeats 16000000
namespace Go.Proofs.YtdoghgnifkgfdaaGreat
open Go.RowKit Go.Maps
theorem Y0g (w:World):(zeroValue 3).run Tryz.prog w=.ok (.int .i64 0) w:=by kernel_rfl
theorem Y65 {D:DataW Unit} {c:Cfg} {k n v:Int} {kl:Lit} (hD:Xt D c c.nCh) (hk:UKey 1 k n kl) (hh:Maps.has D kl=true) (hv:D.atKey kl (.lit (.int .i64 0))=.lit (.int .i64 v)) (cell:Int):(v==cell)=true↔YA c cell n k 1:=by
 obtain ⟨i,hi,rfl,rfl,_⟩:=((hD.2 _ _ _ _ hk).1).1 hh;have:=((hD.2 _ _ _ _ hk).2 i hi rfl rfl).1 rfl;rw [this] at hv;injection hv with hv
 injection hv with _ hv
 subst hv;simp only [beq_iff_eq,YA,Int.toNat_natCast];exact ⟨fun h=>⟨by omega,by omega,trivial,h⟩,fun h=>h.2.2.2⟩
theorem Ya3 {D:DataW Unit} {c:Cfg} {k n:Int} {kl:Lit} (hD:Xt D c c.nCh) (hk:UKey 1 k n kl) (hh:Maps.has D kl=false) (cell:Int):¬YA c cell n k 1:=by
 intro ⟨h1,h2,h3,_⟩;have:Maps.has D kl=true:=((hD.2 _ _ _ _ hk).1).2 ⟨n.toNat,by omega,by omega,h3.symm,by omega⟩;rw [hh] at this;cases this
theorem Y4d (c:Cfg) (cell code k n:Int) (dv:Value) (b:Nat) (w:World) (hu:YY w b c) (wk:(Lit.int .i64 k).wf=true) (wn:(Lit.int .i64 n).wf=true):
  Calls Tryz.prog 133 #[.agg #[.int .i64 cell,.int .i64 code,dv,.map (some b)],.agg #[.int .i64 1,.int .i64 k,.int .i64 n]] w (Ans (YA c cell n k 1) (Below w.heap.size w)):=by
 obtain ⟨m,D,hown,hD⟩:=hu;obtain ⟨kl,hkl⟩:=Y0J 1 k n (wfi (by omega) (by omega)) wk wn;have HB:Hid (∀o o',Below w.heap.size w ((w.alloc o).alloc o')):=fun o o'=>((Below.refl _ _).alloc (Nat.le_refl _) _).alloc (by simp) _;have HK:Hid (keyOf Tryz.prog 231 (.agg #[.int .i64 1,.int .i64 k,.int .i64 n])=some kl):=hkl;have HO:Hid (w.ownsMap Tryz.prog 231 (plainElem Tryz.prog 3) b m D):=hown;have HD:Hid (Xt D c c.nCh):=hD;clear hown hD hkl wk wn;cases hh:Maps.has D kl
 ·have HN:Hid (¬YA c cell n k 1):=Ya3 HD.out HK.out hh cell
  go_enter Tryz.func133,Tryz.ntmps133
  go_wp2_with (at_lookup;refine wpList_lookup_own_ok_int _ rfl _ _ 204 rfl 231 3 .i64 Zq Tryz.underlying204 Tryz.underlying3 (Y0g _) b m D rfl ((HO.out.alloc _).alloc _) _ kl rfl HK.out ?_;intro v hat hwv;clear hat hwv)
  go_ret;exact Ans.no HN.out (HB.out _ _)
 ·have HY:Hid (∀v,D.atKey kl (.lit (.int .i64 0))=.lit (.int .i64 v)→((v==cell)=true↔YA c cell n k 1)):=fun v hv=>Y65 HD.out HK.out hh hv cell
  go_enter Tryz.func133,Tryz.ntmps133
  go_wp2_with (at_lookup;refine wpList_lookup_own_ok_int _ rfl _ _ 204 rfl 231 3 .i64 Zq Tryz.underlying204 Tryz.underlying3 (Y0g _) b m D rfl ((HO.out.alloc _).alloc _) _ kl rfl HK.out ?_;intro v hat hwv;have HV:=HY.out v hat;clear hat hwv;have HV':Hid _:=HV;clear HV)
  go_ret;exact Ans.of (b:=(v==cell)) HV'.out (HB.out _ _)
theorem Yao {D:DataW Unit} {c:Cfg} {k n v:Int} {kl:Lit} (hD:Xt D c c.nCh) (hk:UKey 2 k n kl) (hh:Maps.has D kl=true) (hv:D.atKey kl (.lit (.int .i64 0))=.lit (.int .i64 v)) (cell:Int):(v==cell)=true↔YA c cell n k 2:=by
 obtain ⟨i,hi,rfl,rfl,_⟩:=((hD.2 _ _ _ _ hk).1).1 hh;have:=((hD.2 _ _ _ _ hk).2 i hi rfl rfl).2 rfl;rw [this] at hv;injection hv with hv
 injection hv with _ hv
 subst hv;simp only [beq_iff_eq,YA,Int.toNat_natCast];exact ⟨fun h=>⟨by omega,by omega,trivial,h⟩,fun h=>h.2.2.2⟩
theorem Yay {D:DataW Unit} {c:Cfg} {k n:Int} {kl:Lit} (hD:Xt D c c.nCh) (hk:UKey 2 k n kl) (hh:Maps.has D kl=false) (cell:Int):¬YA c cell n k 2:=by
 intro ⟨h1,h2,h3,_⟩;have:Maps.has D kl=true:=((hD.2 _ _ _ _ hk).1).2 ⟨n.toNat,by omega,by omega,h3.symm,by omega⟩;rw [hh] at this;cases this
theorem Y25 (c:Cfg) (cell code k n:Int) (dv:Value) (b:Nat) (w:World) (hu:YY w b c) (wk:(Lit.int .i64 k).wf=true) (wn:(Lit.int .i64 n).wf=true):
  Calls Tryz.prog 133 #[.agg #[.int .i64 cell,.int .i64 code,dv,.map (some b)],.agg #[.int .i64 2,.int .i64 k,.int .i64 n]] w (Ans (YA c cell n k 2) (Below w.heap.size w)):=by
 obtain ⟨m,D,hown,hD⟩:=hu;obtain ⟨kl,hkl⟩:=Y0J 2 k n (wfi (by omega) (by omega)) wk wn;have HB:Hid (∀o o',Below w.heap.size w ((w.alloc o).alloc o')):=fun o o'=>((Below.refl _ _).alloc (Nat.le_refl _) _).alloc (by simp) _;have HK:Hid (keyOf Tryz.prog 231 (.agg #[.int .i64 2,.int .i64 k,.int .i64 n])=some kl):=hkl;have HO:Hid (w.ownsMap Tryz.prog 231 (plainElem Tryz.prog 3) b m D):=hown;have HD:Hid (Xt D c c.nCh):=hD;clear hown hD hkl wk wn;cases hh:Maps.has D kl
 ·have HN:Hid (¬YA c cell n k 2):=Yay HD.out HK.out hh cell
  go_enter Tryz.func133,Tryz.ntmps133
  go_wp2_with (at_lookup;refine wpList_lookup_own_ok_int _ rfl _ _ 204 rfl 231 3 .i64 Zq Tryz.underlying204 Tryz.underlying3 (Y0g _) b m D rfl ((HO.out.alloc _).alloc _) _ kl rfl HK.out ?_;intro v hat hwv;clear hat hwv)
  go_ret;exact Ans.no HN.out (HB.out _ _)
 ·have HY:Hid (∀v,D.atKey kl (.lit (.int .i64 0))=.lit (.int .i64 v)→((v==cell)=true↔YA c cell n k 2)):=fun v hv=>Yao HD.out HK.out hh hv cell
  go_enter Tryz.func133,Tryz.ntmps133
  go_wp2_with (at_lookup;refine wpList_lookup_own_ok_int _ rfl _ _ 204 rfl 231 3 .i64 Zq Tryz.underlying204 Tryz.underlying3 (Y0g _) b m D rfl ((HO.out.alloc _).alloc _) _ kl rfl HK.out ?_;intro v hat hwv;have HV:=HY.out v hat;clear hat hwv;have HV':Hid _:=HV;clear HV)
  go_ret;exact Ans.of (b:=(v==cell)) HV'.out (HB.out _ _)
theorem XW {w:World} {b:Nat} {c:Cfg} (h:YY w b c) (o:Obj):YY (w.alloc o) b c:=by
 obtain ⟨n,D,h1,h2⟩:=h;exact ⟨n,D,h1.alloc o,h2⟩
theorem Y1m {w w':World} {b:Nat} {c:Cfg} (h:YY w b c) (hb:Below w.heap.size w w'):YY w' b c:=by
 obtain ⟨n,D,h1,h2⟩:=h;exact ⟨n,D,h1.kept (row:=none) ⟨hb.os,hb.tape,hb.output,hb.size,fun k hk _=>hb.block k hk⟩ (by simp),h2⟩
theorem Y6I (cell code op r a n:Int) (dv mp:Value) (w:World) (hr:¬(0≤r∧r<4)):
  Calls Tryz.prog 118 #[.agg #[.int .i64 cell,.int .i64 code,dv,mp],.agg #[.int .i64 op,.int .i64 r,.int .i64 a,.int .i64 n]] w fun e w'=>e=.returned (.bool false)∧Below w.heap.size w w':=by
 have HB:Hid (∀o o',Below w.heap.size w ((w.alloc o).alloc o')):=fun o o'=>((Below.refl _ _).alloc (Nat.le_refl _) _).alloc (by simp) _;have HR:Hid (¬(0≤r∧r<4)):=hr;clear hr
 go_enter Tryz.func118,Tryz.ntmps118
 go_wp2_with (go_at_call 97;refine (Ans.denies (Yj r _ _) HR.out).mono ?_;rintro e w' ⟨rfl,rfl⟩)
 go_ret;exact ⟨rfl,HB.out _ _⟩
theorem Y5H (cell code op r a n:Int) (dv mp:Value) (w:World) (hr:0≤r∧r<4) (ha:¬(0≤a∧a<4)):
  Calls Tryz.prog 118 #[.agg #[.int .i64 cell,.int .i64 code,dv,mp],.agg #[.int .i64 op,.int .i64 r,.int .i64 a,.int .i64 n]] w fun e w'=>e=.returned (.bool false)∧Below w.heap.size w w':=by
 have HB:Hid (∀o o',Below w.heap.size w ((w.alloc o).alloc o')):=fun o o'=>((Below.refl _ _).alloc (Nat.le_refl _) _).alloc (by simp) _;have HR:Hid (0≤r∧r<4):=hr;have HA:Hid (¬(0≤a∧a<4)):=ha;clear hr ha
 go_enter Tryz.func118,Tryz.ntmps118
 go_wp2_with (first|(go_at_call_of 97 (r);refine (Ans.says (Yj r _ _) HR.out).mono ?_;rintro e w' ⟨rfl,rfl⟩)|(go_at_call_of 97 (a);refine (Ans.denies (Yj a _ _) HA.out).mono ?_;rintro e w' ⟨rfl,rfl⟩))
 go_ret;exact ⟨rfl,HB.out _ _⟩
theorem im_0 (cell code:Int) (r a n:Int) (dv mp:Value) (w:World) (hr:0≤r∧r<4) (ha:0≤a∧a<4):
  Calls Tryz.prog 118 #[.agg #[.int .i64 cell,.int .i64 code,dv,mp],.agg #[.int .i64 0,.int .i64 r,.int .i64 a,.int .i64 n]] w fun e w'=>e=.returned (.bool true)∧Below w.heap.size w w':=by
 have HB:Hid (∀o o',Below w.heap.size w ((w.alloc o).alloc o')):=fun o o'=>((Below.refl _ _).alloc (Nat.le_refl _) _).alloc (by simp) _;have HR:Hid (0≤r∧r<4):=hr;have HA:Hid (0≤a∧a<4):=ha;clear hr ha
 go_enter Tryz.func118,Tryz.ntmps118
 go_wp2_with (first|(go_at_call_of 97 (r);refine (Ans.says (Yj r _ _) HR.out).mono ?_;rintro e w' ⟨rfl,rfl⟩)|(go_at_call_of 97 (a);refine (Ans.says (Yj a _ _) HA.out).mono ?_;rintro e w' ⟨rfl,rfl⟩))
 go_ret;exact ⟨rfl,HB.out _ _⟩
theorem im_1 (cell code:Int) (r a n:Int) (dv mp:Value) (w:World) (hr:0≤r∧r<4) (ha:0≤a∧a<4):
  Calls Tryz.prog 118 #[.agg #[.int .i64 cell,.int .i64 code,dv,mp],.agg #[.int .i64 1,.int .i64 r,.int .i64 a,.int .i64 n]] w fun e w'=>e=.returned (.bool true)∧Below w.heap.size w w':=by
 have HB:Hid (∀o o',Below w.heap.size w ((w.alloc o).alloc o')):=fun o o'=>((Below.refl _ _).alloc (Nat.le_refl _) _).alloc (by simp) _;have HR:Hid (0≤r∧r<4):=hr;have HA:Hid (0≤a∧a<4):=ha;clear hr ha
 go_enter Tryz.func118,Tryz.ntmps118
 go_wp2_with (first|(go_at_call_of 97 (r);refine (Ans.says (Yj r _ _) HR.out).mono ?_;rintro e w' ⟨rfl,rfl⟩)|(go_at_call_of 97 (a);refine (Ans.says (Yj a _ _) HA.out).mono ?_;rintro e w' ⟨rfl,rfl⟩))
 go_ret;exact ⟨rfl,HB.out _ _⟩
theorem im_2 (cell code:Int) (r a n:Int) (dv mp:Value) (w:World) (hr:0≤r∧r<4) (ha:0≤a∧a<4):
  Calls Tryz.prog 118 #[.agg #[.int .i64 cell,.int .i64 code,dv,mp],.agg #[.int .i64 2,.int .i64 r,.int .i64 a,.int .i64 n]] w fun e w'=>e=.returned (.bool true)∧Below w.heap.size w w':=by
 have HB:Hid (∀o o',Below w.heap.size w ((w.alloc o).alloc o')):=fun o o'=>((Below.refl _ _).alloc (Nat.le_refl _) _).alloc (by simp) _;have HR:Hid (0≤r∧r<4):=hr;have HA:Hid (0≤a∧a<4):=ha;clear hr ha
 go_enter Tryz.func118,Tryz.ntmps118
 go_wp2_with (first|(go_at_call_of 97 (r);refine (Ans.says (Yj r _ _) HR.out).mono ?_;rintro e w' ⟨rfl,rfl⟩)|(go_at_call_of 97 (a);refine (Ans.says (Yj a _ _) HA.out).mono ?_;rintro e w' ⟨rfl,rfl⟩))
 go_ret;exact ⟨rfl,HB.out _ _⟩
theorem im_3 (cell code:Int) (r a n:Int) (dv mp:Value) (w:World) (hr:0≤r∧r<4) (ha:0≤a∧a<4):
  Calls Tryz.prog 118 #[.agg #[.int .i64 cell,.int .i64 code,dv,mp],.agg #[.int .i64 3,.int .i64 r,.int .i64 a,.int .i64 n]] w fun e w'=>e=.returned (.bool true)∧Below w.heap.size w w':=by
 have HB:Hid (∀o o',Below w.heap.size w ((w.alloc o).alloc o')):=fun o o'=>((Below.refl _ _).alloc (Nat.le_refl _) _).alloc (by simp) _;have HR:Hid (0≤r∧r<4):=hr;have HA:Hid (0≤a∧a<4):=ha;clear hr ha
 go_enter Tryz.func118,Tryz.ntmps118
 go_wp2_with (first|(go_at_call_of 97 (r);refine (Ans.says (Yj r _ _) HR.out).mono ?_;rintro e w' ⟨rfl,rfl⟩)|(go_at_call_of 97 (a);refine (Ans.says (Yj a _ _) HA.out).mono ?_;rintro e w' ⟨rfl,rfl⟩))
 go_ret;exact ⟨rfl,HB.out _ _⟩
theorem im_4 (cell code:Int) (r a n:Int) (dv mp:Value) (w:World) (hr:0≤r∧r<4) (ha:0≤a∧a<4):
  Calls Tryz.prog 118 #[.agg #[.int .i64 cell,.int .i64 code,dv,mp],.agg #[.int .i64 4,.int .i64 r,.int .i64 a,.int .i64 n]] w fun e w'=>e=.returned (.bool true)∧Below w.heap.size w w':=by
 have HB:Hid (∀o o',Below w.heap.size w ((w.alloc o).alloc o')):=fun o o'=>((Below.refl _ _).alloc (Nat.le_refl _) _).alloc (by simp) _;have HR:Hid (0≤r∧r<4):=hr;have HA:Hid (0≤a∧a<4):=ha;clear hr ha
 go_enter Tryz.func118,Tryz.ntmps118
 go_wp2_with (first|(go_at_call_of 97 (r);refine (Ans.says (Yj r _ _) HR.out).mono ?_;rintro e w' ⟨rfl,rfl⟩)|(go_at_call_of 97 (a);refine (Ans.says (Yj a _ _) HA.out).mono ?_;rintro e w' ⟨rfl,rfl⟩))
 go_ret;exact ⟨rfl,HB.out _ _⟩
theorem im_5 (cell code:Int) (r a n:Int) (dv mp:Value) (w:World) (hr:0≤r∧r<4) (ha:0≤a∧a<4):
  Calls Tryz.prog 118 #[.agg #[.int .i64 cell,.int .i64 code,dv,mp],.agg #[.int .i64 5,.int .i64 r,.int .i64 a,.int .i64 n]] w fun e w'=>e=.returned (.bool true)∧Below w.heap.size w w':=by
 have HB:Hid (∀o o',Below w.heap.size w ((w.alloc o).alloc o')):=fun o o'=>((Below.refl _ _).alloc (Nat.le_refl _) _).alloc (by simp) _;have HR:Hid (0≤r∧r<4):=hr;have HA:Hid (0≤a∧a<4):=ha;clear hr ha
 go_enter Tryz.func118,Tryz.ntmps118
 go_wp2_with (first|(go_at_call_of 97 (r);refine (Ans.says (Yj r _ _) HR.out).mono ?_;rintro e w' ⟨rfl,rfl⟩)|(go_at_call_of 97 (a);refine (Ans.says (Yj a _ _) HA.out).mono ?_;rintro e w' ⟨rfl,rfl⟩))
 go_ret;exact ⟨rfl,HB.out _ _⟩
theorem im_6 (cell code:Int) (r a n:Int) (dv mp:Value) (w:World) (hr:0≤r∧r<4) (ha:0≤a∧a<4):
  Calls Tryz.prog 118 #[.agg #[.int .i64 cell,.int .i64 code,dv,mp],.agg #[.int .i64 6,.int .i64 r,.int .i64 a,.int .i64 n]] w fun e w'=>e=.returned (.bool true)∧Below w.heap.size w w':=by
 have HB:Hid (∀o o',Below w.heap.size w ((w.alloc o).alloc o')):=fun o o'=>((Below.refl _ _).alloc (Nat.le_refl _) _).alloc (by simp) _;have HR:Hid (0≤r∧r<4):=hr;have HA:Hid (0≤a∧a<4):=ha;clear hr ha
 go_enter Tryz.func118,Tryz.ntmps118
 go_wp2_with (first|(go_at_call_of 97 (r);refine (Ans.says (Yj r _ _) HR.out).mono ?_;rintro e w' ⟨rfl,rfl⟩)|(go_at_call_of 97 (a);refine (Ans.says (Yj a _ _) HA.out).mono ?_;rintro e w' ⟨rfl,rfl⟩))
 go_ret;exact ⟨rfl,HB.out _ _⟩
theorem im_7 (cell code:Int) (r a n:Int) (dv mp:Value) (w:World) (hr:0≤r∧r<4) (ha:0≤a∧a<4):
  Calls Tryz.prog 118 #[.agg #[.int .i64 cell,.int .i64 code,dv,mp],.agg #[.int .i64 7,.int .i64 r,.int .i64 a,.int .i64 n]] w fun e w'=>e=.returned (.bool true)∧Below w.heap.size w w':=by
 have HB:Hid (∀o o',Below w.heap.size w ((w.alloc o).alloc o')):=fun o o'=>((Below.refl _ _).alloc (Nat.le_refl _) _).alloc (by simp) _;have HR:Hid (0≤r∧r<4):=hr;have HA:Hid (0≤a∧a<4):=ha;clear hr ha
 go_enter Tryz.func118,Tryz.ntmps118
 go_wp2_with (first|(go_at_call_of 97 (r);refine (Ans.says (Yj r _ _) HR.out).mono ?_;rintro e w' ⟨rfl,rfl⟩)|(go_at_call_of 97 (a);refine (Ans.says (Yj a _ _) HA.out).mono ?_;rintro e w' ⟨rfl,rfl⟩))
 go_ret;exact ⟨rfl,HB.out _ _⟩
theorem Y76 (cell code:Int) (r a n:Int) (dv mp:Value) (w:World) (hr:0≤r∧r<4) (ha:0≤a∧a<4):
  Calls Tryz.prog 118 #[.agg #[.int .i64 cell,.int .i64 code,dv,mp],.agg #[.int .i64 15,.int .i64 r,.int .i64 a,.int .i64 n]] w fun e w'=>e=.returned (.bool true)∧Below w.heap.size w w':=by
 have HB:Hid (∀o o',Below w.heap.size w ((w.alloc o).alloc o')):=fun o o'=>((Below.refl _ _).alloc (Nat.le_refl _) _).alloc (by simp) _;have HR:Hid (0≤r∧r<4):=hr;have HA:Hid (0≤a∧a<4):=ha;clear hr ha
 go_enter Tryz.func118,Tryz.ntmps118
 go_wp2_with (first|(go_at_call_of 97 (r);refine (Ans.says (Yj r _ _) HR.out).mono ?_;rintro e w' ⟨rfl,rfl⟩)|(go_at_call_of 97 (a);refine (Ans.says (Yj a _ _) HA.out).mono ?_;rintro e w' ⟨rfl,rfl⟩))
 go_ret;exact ⟨rfl,HB.out _ _⟩
theorem YaK (cell code op:Int) (r a n:Int) (dv mp:Value) (w:World) (hr:0≤r∧r<4) (ha:0≤a∧a<4) (q0:(op==0)=false) (q1:(op==1)=false) (q2:(op==2)=false) (q3:(op==3)=false) (q4:(op==4)=false) (q5:(op==5)=false) (q6:(op==6)=false) (q7:(op==7)=false) (q8:(op==8)=false) (q9:(op==9)=false) (q10:(op==10)=false) (q11:(op==11)=false) (q12:(op==12)=false) (q13:(op==13)=false) (q14:(op==14)=false) (q15:(op==15)=false) (q16:(op==16)=false):
  Calls Tryz.prog 118 #[.agg #[.int .i64 cell,.int .i64 code,dv,mp],.agg #[.int .i64 op,.int .i64 r,.int .i64 a,.int .i64 n]] w fun e w'=>e=.returned (.bool false)∧Below w.heap.size w w':=by
 have HB:Hid (∀o o',Below w.heap.size w ((w.alloc o).alloc o')):=fun o o'=>((Below.refl _ _).alloc (Nat.le_refl _) _).alloc (by simp) _;have HR:Hid (0≤r∧r<4):=hr;have HA:Hid (0≤a∧a<4):=ha;clear hr ha
 go_enter Tryz.func118,Tryz.ntmps118
 go_wp2_with (first|(go_at_call_of 97 (r);refine (Ans.says (Yj r _ _) HR.out).mono ?_;rintro e w' ⟨rfl,rfl⟩)|(go_at_call_of 97 (a);refine (Ans.says (Yj a _ _) HA.out).mono ?_;rintro e w' ⟨rfl,rfl⟩))
 go_ret;exact ⟨rfl,HB.out _ _⟩
theorem im_8 (cell code:Int) (r a n:Int) (dv mp:Value) (w:World) (hr:0≤r∧r<4) (ha:0≤a∧a<4):
  Calls Tryz.prog 118 #[.agg #[.int .i64 cell,.int .i64 code,dv,mp],.agg #[.int .i64 8,.int .i64 r,.int .i64 a,.int .i64 n]] w (Ans (0≤n∧n<code) (Below w.heap.size w)):=by
 have HB:Hid (∀o o',Below w.heap.size w ((w.alloc o).alloc o')):=fun o o'=>((Below.refl _ _).alloc (Nat.le_refl _) _).alloc (by simp) _;have HR:Hid (0≤r∧r<4):=hr;have HA:Hid (0≤a∧a<4):=ha;clear hr ha
 go_enter Tryz.func118,Tryz.ntmps118
 go_wp2_with (first|(go_at_call_of 97 (r);refine (Ans.says (Yj r _ _) HR.out).mono ?_;rintro e w' ⟨rfl,rfl⟩)|(go_at_call_of 97 (a);refine (Ans.says (Yj a _ _) HA.out).mono ?_;rintro e w' ⟨rfl,rfl⟩)|(go_at_call 132;refine (Y0Y n code _).mono ?_;rintro e w' ⟨b,rfl,hiff,rfl⟩))
 go_ret;exact Ans.of hiff (HB.out _ _)
theorem im_9 (cell code:Int) (r a n:Int) (dv mp:Value) (w:World) (hr:0≤r∧r<4) (ha:0≤a∧a<4):
  Calls Tryz.prog 118 #[.agg #[.int .i64 cell,.int .i64 code,dv,mp],.agg #[.int .i64 9,.int .i64 r,.int .i64 a,.int .i64 n]] w (Ans (0≤n∧n<code) (Below w.heap.size w)):=by
 have HB:Hid (∀o o',Below w.heap.size w ((w.alloc o).alloc o')):=fun o o'=>((Below.refl _ _).alloc (Nat.le_refl _) _).alloc (by simp) _;have HR:Hid (0≤r∧r<4):=hr;have HA:Hid (0≤a∧a<4):=ha;clear hr ha
 go_enter Tryz.func118,Tryz.ntmps118
 go_wp2_with (first|(go_at_call_of 97 (r);refine (Ans.says (Yj r _ _) HR.out).mono ?_;rintro e w' ⟨rfl,rfl⟩)|(go_at_call_of 97 (a);refine (Ans.says (Yj a _ _) HA.out).mono ?_;rintro e w' ⟨rfl,rfl⟩)|(go_at_call 132;refine (Y0Y n code _).mono ?_;rintro e w' ⟨b,rfl,hiff,rfl⟩))
 go_ret;exact Ans.of hiff (HB.out _ _)
theorem Y8N (c:Cfg) (cell code r a n:Int) (dv:Value) (b:Nat) (w:World) (hr:0≤r∧r<4) (ha:0≤a∧a<4) (hu:YY w b c) (wn:(Lit.int .i64 n).wf=true):
  Calls Tryz.prog 118 #[.agg #[.int .i64 cell,.int .i64 code,dv,.map (some b)],.agg #[.int .i64 10,.int .i64 r,.int .i64 a,.int .i64 n]] w (Ans (YA c cell n 1 1) (Below w.heap.size w)):=by
 have HB:Hid (∀o o',Below w.heap.size w ((w.alloc o).alloc o')):=fun o o'=>((Below.refl _ _).alloc (Nat.le_refl _) _).alloc (by simp) _;have HR:Hid (0≤r∧r<4):=hr;have HA:Hid (0≤a∧a<4):=ha;clear hr ha;have HU:Hid (YY w b c):=hu;have HN:Hid ((Lit.int .i64 n).wf=true):=wn;clear hu wn
 go_enter Tryz.func118,Tryz.ntmps118
 go_wp2_with (first|(go_at_call_of 97 (r);refine (Ans.says (Yj r _ _) HR.out).mono ?_;rintro e w' ⟨rfl,rfl⟩)|(go_at_call_of 97 (a);refine (Ans.says (Yj a _ _) HA.out).mono ?_;rintro e w' ⟨rfl,rfl⟩)|(go_at_call 133;refine (Y4d c cell code 1 n dv b _ (by exact XW (XW HU.out _) _) (wfi (by omega) (by omega)) HN.out).mono ?_;rintro e w' ⟨b,rfl,hiff,hbel⟩))
 go_ret;exact Ans.of hiff (Zm hbel)
theorem Y9p (c:Cfg) (cell code r a n:Int) (dv:Value) (b:Nat) (w:World) (hr:0≤r∧r<4) (ha:0≤a∧a<4) (hu:YY w b c) (wn:(Lit.int .i64 n).wf=true):
  Calls Tryz.prog 118 #[.agg #[.int .i64 cell,.int .i64 code,dv,.map (some b)],.agg #[.int .i64 11,.int .i64 r,.int .i64 a,.int .i64 n]] w (Ans (YA c cell n 2 1) (Below w.heap.size w)):=by
 have HB:Hid (∀o o',Below w.heap.size w ((w.alloc o).alloc o')):=fun o o'=>((Below.refl _ _).alloc (Nat.le_refl _) _).alloc (by simp) _;have HR:Hid (0≤r∧r<4):=hr;have HA:Hid (0≤a∧a<4):=ha;clear hr ha;have HU:Hid (YY w b c):=hu;have HN:Hid ((Lit.int .i64 n).wf=true):=wn;clear hu wn
 go_enter Tryz.func118,Tryz.ntmps118
 go_wp2_with (first|(go_at_call_of 97 (r);refine (Ans.says (Yj r _ _) HR.out).mono ?_;rintro e w' ⟨rfl,rfl⟩)|(go_at_call_of 97 (a);refine (Ans.says (Yj a _ _) HA.out).mono ?_;rintro e w' ⟨rfl,rfl⟩)|(go_at_call 133;refine (Y4d c cell code 2 n dv b _ (by exact XW (XW HU.out _) _) (wfi (by omega) (by omega)) HN.out).mono ?_;rintro e w' ⟨b,rfl,hiff,hbel⟩))
 go_ret;exact Ans.of hiff (Zm hbel)
theorem Y5X (c:Cfg) (cell code r a n:Int) (dv:Value) (b:Nat) (w:World) (hr:0≤r∧r<4) (ha:0≤a∧a<4) (hu:YY w b c) (wn:(Lit.int .i64 n).wf=true):
  Calls Tryz.prog 118 #[.agg #[.int .i64 cell,.int .i64 code,dv,.map (some b)],.agg #[.int .i64 12,.int .i64 r,.int .i64 a,.int .i64 n]] w (Ans (YA c cell n 1 2) (Below w.heap.size w)):=by
 have HB:Hid (∀o o',Below w.heap.size w ((w.alloc o).alloc o')):=fun o o'=>((Below.refl _ _).alloc (Nat.le_refl _) _).alloc (by simp) _;have HR:Hid (0≤r∧r<4):=hr;have HA:Hid (0≤a∧a<4):=ha;clear hr ha;have HU:Hid (YY w b c):=hu;have HN:Hid ((Lit.int .i64 n).wf=true):=wn;clear hu wn
 go_enter Tryz.func118,Tryz.ntmps118
 go_wp2_with (first|(go_at_call_of 97 (r);refine (Ans.says (Yj r _ _) HR.out).mono ?_;rintro e w' ⟨rfl,rfl⟩)|(go_at_call_of 97 (a);refine (Ans.says (Yj a _ _) HA.out).mono ?_;rintro e w' ⟨rfl,rfl⟩)|(go_at_call 133;refine (Y25 c cell code 1 n dv b _ (by exact XW (XW HU.out _) _) (wfi (by omega) (by omega)) HN.out).mono ?_;rintro e w' ⟨b,rfl,hiff,hbel⟩))
 go_ret;exact Ans.of hiff (Zm hbel)
theorem YaQ (c:Cfg) (cell code r a n:Int) (dv:Value) (b:Nat) (w:World) (hr:0≤r∧r<4) (ha:0≤a∧a<4) (hu:YY w b c) (wn:(Lit.int .i64 n).wf=true):
  Calls Tryz.prog 118 #[.agg #[.int .i64 cell,.int .i64 code,dv,.map (some b)],.agg #[.int .i64 16,.int .i64 r,.int .i64 a,.int .i64 n]] w (Ans (YA c cell n 1 2) (Below w.heap.size w)):=by
 have HB:Hid (∀o o',Below w.heap.size w ((w.alloc o).alloc o')):=fun o o'=>((Below.refl _ _).alloc (Nat.le_refl _) _).alloc (by simp) _;have HR:Hid (0≤r∧r<4):=hr;have HA:Hid (0≤a∧a<4):=ha;clear hr ha;have HU:Hid (YY w b c):=hu;have HN:Hid ((Lit.int .i64 n).wf=true):=wn;clear hu wn
 go_enter Tryz.func118,Tryz.ntmps118
 go_wp2_with (first|(go_at_call_of 97 (r);refine (Ans.says (Yj r _ _) HR.out).mono ?_;rintro e w' ⟨rfl,rfl⟩)|(go_at_call_of 97 (a);refine (Ans.says (Yj a _ _) HA.out).mono ?_;rintro e w' ⟨rfl,rfl⟩)|(go_at_call 133;refine (Y25 c cell code 1 n dv b _ (by exact XW (XW HU.out _) _) (wfi (by omega) (by omega)) HN.out).mono ?_;rintro e w' ⟨b,rfl,hiff,hbel⟩))
 go_ret;exact Ans.of hiff (Zm hbel)
theorem Yah (c:Cfg) (cell code r a n:Int) (dv:Value) (b:Nat) (w:World) (hr:0≤r∧r<4) (ha:0≤a∧a<4) (hu:YY w b c) (wn:(Lit.int .i64 n).wf=true):
  Calls Tryz.prog 118 #[.agg #[.int .i64 cell,.int .i64 code,dv,.map (some b)],.agg #[.int .i64 13,.int .i64 r,.int .i64 a,.int .i64 n]] w (Ans (YA c cell n 2 2) (Below w.heap.size w)):=by
 have HB:Hid (∀o o',Below w.heap.size w ((w.alloc o).alloc o')):=fun o o'=>((Below.refl _ _).alloc (Nat.le_refl _) _).alloc (by simp) _;have HR:Hid (0≤r∧r<4):=hr;have HA:Hid (0≤a∧a<4):=ha;clear hr ha;have HU:Hid (YY w b c):=hu;have HN:Hid ((Lit.int .i64 n).wf=true):=wn;clear hu wn
 go_enter Tryz.func118,Tryz.ntmps118
 go_wp2_with (first|(go_at_call_of 97 (r);refine (Ans.says (Yj r _ _) HR.out).mono ?_;rintro e w' ⟨rfl,rfl⟩)|(go_at_call_of 97 (a);refine (Ans.says (Yj a _ _) HA.out).mono ?_;rintro e w' ⟨rfl,rfl⟩)|(go_at_call 133;refine (Y25 c cell code 2 n dv b _ (by exact XW (XW HU.out _) _) (wfi (by omega) (by omega)) HN.out).mono ?_;rintro e w' ⟨b,rfl,hiff,hbel⟩))
 go_ret;exact Ans.of hiff (Zm hbel)
theorem Y5q (c:Cfg) (cell code r a n:Int) (p:Option Addr) (cap:Nat) (mp:Value) (w:World) (hr:0≤r∧r<4) (ha:0≤a∧a<4) (hs:Sl w p c.nD (fun j=>.int .i64 (c.dv j))) (hb:c.nD≤4):
  Calls Tryz.prog 118 #[.agg #[.int .i64 cell,.int .i64 code,.slice p c.nD cap,mp],.agg #[.int .i64 14,.int .i64 r,.int .i64 a,.int .i64 n]] w (Ans (0≤n∧n<c.nD∧c.dv n.toNat=cell) (Below w.heap.size w)):=by
 have HB:Hid (∀o o',Below w.heap.size w ((w.alloc o).alloc o')):=fun o o'=>((Below.refl _ _).alloc (Nat.le_refl _) _).alloc (by simp) _;have HR:Hid (0≤r∧r<4):=hr;have HA:Hid (0≤a∧a<4):=ha;clear hr ha;have HS:Hid (Sl w p c.nD (fun j=>.int .i64 (c.dv j))):=hs;clear hs;by_cases h0:0≤n∧n<(c.nD:Int)
 ·have HX:Hid (0≤n∧n<(c.nD:Int)):=h0;obtain ⟨m,rfl⟩:=Int.eq_ofNat_of_zero_le h0.1;obtain ⟨bd,off,rfl,hc⟩:=HS.out.at (by omega);have c0:=hc m (by omega);have hlt:bd<w.heap.size:=block_lt_of_cell c0;clear hc;rw [Int.toNat_natCast];generalize c.dv m=x at *;have hm:m<c.nD:=by omega
  clear h0;have HQ:Hid (∀W:World,Calls Tryz.prog 132 #[.int .i64 m,.int .i64 c.nD] W fun e w'=>e=.returned (.bool true)∧w'=W):=fun W=>Ans.says (Y0Y m c.nD W) HX.out
  go_enter Tryz.func118,Tryz.ntmps118
  go_wp2_with (first|(go_at_call_of 97 (r);refine (Ans.says (Yj r _ _) HR.out).mono ?_;rintro e w' ⟨rfl,rfl⟩)|(go_at_call_of 97 (a);refine (Ans.says (Yj a _ _) HA.out).mono ?_;rintro e w' ⟨rfl,rfl⟩))
  go_quiet ((go_at_call 132;exact Calls.quiet_of_same (HQ.out _)))
  go_wp2_with fail
  go_ret;exact Ans.of (b:=(x==cell)) (by simp only [beq_iff_eq];omega) (below_drewN (HB.out _ _) _)
 ·have HX:Hid (¬(0≤n∧n<(c.nD:Int))):=h0;have HN:Hid (¬(0≤n∧n<(c.nD:Int)∧c.dv n.toNat=cell)):=fun h=>h0 ⟨h.1,h.2.1⟩;clear h0;have HQ:Hid (∀W:World,Calls Tryz.prog 132 #[.int .i64 n,.int .i64 c.nD] W fun e w'=>e=.returned (.bool false)∧w'=W):=fun W=>Ans.denies (Y0Y n c.nD W) HX.out
  go_enter Tryz.func118,Tryz.ntmps118
  go_wp2_with (first|(go_at_call_of 97 (r);refine (Ans.says (Yj r _ _) HR.out).mono ?_;rintro e w' ⟨rfl,rfl⟩)|(go_at_call_of 97 (a);refine (Ans.says (Yj a _ _) HA.out).mono ?_;rintro e w' ⟨rfl,rfl⟩))
  go_quiet ((go_at_call 132;exact Calls.quiet_of_same (HQ.out _)))
  go_wp2_with fail
  go_ret;exact Ans.no HN.out (below_drewN (HB.out _ _) _)
theorem Ans.turn {P P':Prop} {W:World→Prop} {e:Ending} {w':World} (h:Ans P W e w') (hp:P↔P'):Ans P' W e w':=by
 obtain ⟨b,h1,h2,h3⟩:=h;exact ⟨b,h1,h2.trans hp,h3⟩
theorem Y3F (c:Cfg) (cell b cap:Nat) (p:Option Addr) (op r a n:Int) (w:World) (hu:YY w b c) (hs:Sl w p c.nD (fun j=>.int .i64 (c.dv j))) (hb:c.nD≤4) (wn:(Lit.int .i64 n).wf=true):
  Calls Tryz.prog 118 #[.agg #[.int .i64 cell,.int .i64 (c.nCode cell),.slice p c.nD cap,.map (some b)],.agg #[.int .i64 op,.int .i64 r,.int .i64 a,.int .i64 n]] w (Ans (Xe c cell (c.nCode cell) op r a n) (Below w.heap.size w)):=by
 by_cases hr:0≤r∧r<4
 case neg=>exact (Y6I _ _ _ _ _ _ _ _ _ hr).mono fun e w' ⟨h1,h2⟩=>by subst h1;exact Ans.no (fun h=>hr h.2.1) h2
 by_cases ha:0≤a∧a<4
 case neg=>exact (Y5H _ _ _ _ _ _ _ _ _ hr ha).mono fun e w' ⟨h1,h2⟩=>by subst h1;exact Ans.no (fun h=>ha h.2.2.1) h2
 have hyes:∀op:Int,(0≤op∧op≤7)∨op=15→Xe c cell (c.nCode cell) op r a n:=fun op h=>
  ⟨by omega,hr,ha,by omega,by omega,by omega,by omega,by omega,by omega⟩
 by_cases e8:op=8
 ·subst e8;refine (im_8 _ _ r a n _ _ w hr ha).mono fun e w' h=>Ans.turn h ?_;exact ⟨fun h=>⟨by omega,hr,ha,fun _=>h,by omega,by omega,by omega,by omega,by omega⟩,fun h=>h.2.2.2.1 (Or.inl rfl)⟩
 by_cases e9:op=9
 ·subst e9;refine (im_9 _ _ r a n _ _ w hr ha).mono fun e w' h=>Ans.turn h ?_;exact ⟨fun h=>⟨by omega,hr,ha,fun _=>h,by omega,by omega,by omega,by omega,by omega⟩,fun h=>h.2.2.2.1 (Or.inr rfl)⟩
 by_cases e10:op=10
 ·subst e10;refine (Y8N c _ _ r a n _ b w hr ha hu wn).mono fun e w' h=>Ans.turn h ?_;exact ⟨fun h=>⟨by omega,hr,ha,by omega,fun _=>h,by omega,by omega,by omega,by omega⟩,fun h=>h.2.2.2.2.1 rfl⟩
 by_cases e11:op=11
 ·subst e11;refine (Y9p c _ _ r a n _ b w hr ha hu wn).mono fun e w' h=>Ans.turn h ?_;exact ⟨fun h=>⟨by omega,hr,ha,by omega,by omega,fun _=>h,by omega,by omega,by omega⟩,fun h=>h.2.2.2.2.2.1 rfl⟩
 by_cases e12:op=12
 ·subst e12;refine (Y5X c _ _ r a n _ b w hr ha hu wn).mono fun e w' h=>Ans.turn h ?_;exact ⟨fun h=>⟨by omega,hr,ha,by omega,by omega,by omega,fun _=>h,by omega,by omega⟩,fun h=>h.2.2.2.2.2.2.1 (Or.inl rfl)⟩
 by_cases e16:op=16
 ·subst e16;refine (YaQ c _ _ r a n _ b w hr ha hu wn).mono fun e w' h=>Ans.turn h ?_;exact ⟨fun h=>⟨by omega,hr,ha,by omega,by omega,by omega,fun _=>h,by omega,by omega⟩,fun h=>h.2.2.2.2.2.2.1 (Or.inr rfl)⟩
 by_cases e13:op=13
 ·subst e13;refine (Yah c _ _ r a n _ b w hr ha hu wn).mono fun e w' h=>Ans.turn h ?_;exact ⟨fun h=>⟨by omega,hr,ha,by omega,by omega,by omega,by omega,fun _=>h,by omega⟩,fun h=>h.2.2.2.2.2.2.2.1 rfl⟩
 by_cases e14:op=14
 ·subst e14;refine (Y5q c _ _ r a n p cap _ w hr ha hs hb).mono fun e w' h=>Ans.turn h ?_;exact ⟨fun h=>⟨by omega,hr,ha,by omega,by omega,by omega,by omega,by omega,fun _=>h⟩,fun h=>h.2.2.2.2.2.2.2.2 rfl⟩
 by_cases e0:op=0
 ·subst e0;exact (im_0 _ _ r a n _ _ w hr ha).mono fun e w' ⟨h1,h2⟩=>by subst h1;exact Ans.yes (hyes _ (by omega)) h2
 by_cases e1:op=1
 ·subst e1;exact (im_1 _ _ r a n _ _ w hr ha).mono fun e w' ⟨h1,h2⟩=>by subst h1;exact Ans.yes (hyes _ (by omega)) h2
 by_cases e2:op=2
 ·subst e2;exact (im_2 _ _ r a n _ _ w hr ha).mono fun e w' ⟨h1,h2⟩=>by subst h1;exact Ans.yes (hyes _ (by omega)) h2
 by_cases e3:op=3
 ·subst e3;exact (im_3 _ _ r a n _ _ w hr ha).mono fun e w' ⟨h1,h2⟩=>by subst h1;exact Ans.yes (hyes _ (by omega)) h2
 by_cases e4:op=4
 ·subst e4;exact (im_4 _ _ r a n _ _ w hr ha).mono fun e w' ⟨h1,h2⟩=>by subst h1;exact Ans.yes (hyes _ (by omega)) h2
 by_cases e5:op=5
 ·subst e5;exact (im_5 _ _ r a n _ _ w hr ha).mono fun e w' ⟨h1,h2⟩=>by subst h1;exact Ans.yes (hyes _ (by omega)) h2
 by_cases e6:op=6
 ·subst e6;exact (im_6 _ _ r a n _ _ w hr ha).mono fun e w' ⟨h1,h2⟩=>by subst h1;exact Ans.yes (hyes _ (by omega)) h2
 by_cases e7:op=7
 ·subst e7;exact (im_7 _ _ r a n _ _ w hr ha).mono fun e w' ⟨h1,h2⟩=>by subst h1;exact Ans.yes (hyes _ (by omega)) h2
 by_cases e15:op=15
 ·subst e15;exact (Y76 _ _ r a n _ _ w hr ha).mono fun e w' ⟨h1,h2⟩=>by subst h1;exact Ans.yes (hyes _ (by omega)) h2
 refine (YaK _ _ op r a n _ _ w hr ha (by simpa using e0) (by simpa using e1) (by simpa using e2) (by simpa using e3) (by simpa using e4) (by simpa using e5) (by simpa using e6) (by simpa using e7) (by simpa using e8) (by simpa using e9) (by simpa using e10) (by simpa using e11) (by simpa using e12) (by simpa using e13) (by simpa using e14) (by simpa using e15) (by simpa using e16)).mono ?_;rintro e w' ⟨rfl,h2⟩;exact Ans.no (fun h=>by have:=h.1;omega) h2
theorem Y9L (c:Cfg) (cell b cap h:Nat) (p:Option Addr) (op r a n:Int) (w:World) (h0:w.cell? ⟨h,0,none⟩=some (.int .i64 cell)) (h1:w.cell? ⟨h,1,none⟩=some (.int .i64 (c.nCode cell))) (h2:w.cell? ⟨h,2,none⟩=some (.slice p c.nD cap)) (h3:w.cell? ⟨h,3,none⟩=some (.map (some b)))
  (hu:YY w b c) (hs:Sl w p c.nD (fun j=>.int .i64 (c.dv j))) (hb:c.nD≤4) (wn:(Lit.int .i64 n).wf=true):
  Calls Tryz.prog 117 #[.agg #[.int .i64 op,.int .i64 r,.int .i64 a,.int .i64 n],.pointer (some ⟨h,0,none⟩)] w (Ans (¬Xe c cell (c.nCode cell) op r a n) (Below w.heap.size w)):=by
 have hlt:h<w.heap.size:=block_lt_of_cell h0;have HU:Hid (YY w b c):=hu;have HS:Hid (Sl w p c.nD (fun j=>.int .i64 (c.dv j))):=hs;have HN:Hid ((Lit.int .i64 n).wf=true):=wn;have HA:Hid (∀o,Below w.heap.size w (w.alloc o)):=fun o=>(Below.refl _ _).alloc (Nat.le_refl _) _;clear hu hs wn;by_cases hok:Xe c cell (c.nCode cell) op r a n
 ·have HO:Hid (Xe c cell (c.nCode cell) op r a n):=hok;clear hok
  go_enter Tryz.func117,Tryz.ntmps117
  go_wp2_with (go_at_call 118;refine (Ans.says (Y3F c cell b cap p op r a n _ (by exact XW HU.out _) (by exact HS.out.below (HA.out _)) hb HN.out) HO.out).mono ?_;rintro e w' ⟨rfl,hbel⟩)
  go_ret;exact Ans.no (fun h=>h HO.out) (Xh hbel)
 ·have HO:Hid (¬Xe c cell (c.nCode cell) op r a n):=hok;clear hok
  go_enter Tryz.func117,Tryz.ntmps117
  go_wp2_with (go_at_call 118;refine (Ans.denies (Y3F c cell b cap p op r a n _ (by exact XW HU.out _) (by exact HS.out.below (HA.out _)) hb HN.out) HO.out).mono ?_;rintro e w' ⟨rfl,hbel⟩)
  go_ret;exact Ans.yes HO.out (Xh hbel)
theorem Y9z (p:Option Addr) (n cap:Nat) (z:Nat→Int) (h:Nat) (P:Nat→Prop) (w:World) (hs:Sl w p (n*4) (fun j=>.int .i64 (z j))) (hb:n≤17592186044416)
  (hcl:∀i,i<n→∀wr,Below w.heap.size w wr→Calls Tryz.prog 117 #[.agg #[.int .i64 (z (i*4)),.int .i64 (z (i*4+1)),.int .i64 (z (i*4+2)),.int .i64 (z (i*4+3))],.pointer (some ⟨h,0,none⟩)] wr (Ans (¬P i) (Below wr.heap.size wr))):
  Calls Tryz.prog 131 #[.slice p n cap,.func (.func 117) #[] #[.pointer (some ⟨h,0,none⟩)]] w (Idx P n w):=by
 have HS:Hid (Sl w p (n*4) (fun j=>.int .i64 (z j))):=hs;have HC:Hid (∀i,i<n→∀wr,Below w.heap.size w wr→Calls Tryz.prog 117 #[.agg #[.int .i64 (z (i*4)),.int .i64 (z (i*4+1)),.int .i64 (z (i*4+2)),.int .i64 (z (i*4+3))],.pointer (some ⟨h,0,none⟩)] wr (Ans (¬P i) (Below wr.heap.size wr))):=hcl;clear hs hcl
 go_enter Tryz.func131,Tryz.ntmps131
 go_wp2_with fail
 go_loopw [8] (fun i wr=>∃k:Nat,k≤n∧i=.int .i64 k∧Hid (Yb P k)∧Hid (Below w.heap.size w wr)) (fun i _=>n-(intOf i).toNat)
 case atStart=>exact ⟨0,Nat.zero_le _,rfl,Yb.zero _,Below.refl _ _⟩
 case round=>
  obtain ⟨k,hk,rfl,HI,HW⟩:=hrel;by_cases hlt:k<n
  ·obtain ⟨b,off,rfl,hc⟩:=(HS.out.below HW.out).at (by omega);have c0:=hc (k*4) (by omega);have c1:=hc (k*4+1) (by omega);have c2:=hc (k*4+2) (by omega);have c3:=hc (k*4+3) (by omega);rw [←Nat.add_assoc] at c1 c2 c3;clear hc;by_cases hok:P k
   ·have HO:Hid (P k):=hok;clear hok;go_wp2_with (go_at_call 117;refine (Ans.denies (HC.out k hlt wr HW.out) (fun h=>h HO.out)).mono ?_;rintro e w' ⟨rfl,hbel⟩)
    refine ⟨⟨k+1,by omega,by go_num,HI.out.step HO.out,?_⟩,by simp [intOf];omega⟩;exact HW.out.trans (hbel.mono HW.out.size)
   ·have HO:Hid (¬P k):=hok;clear hok;go_wp2_with (go_at_call 117;refine (Ans.says (HC.out k hlt wr HW.out) HO.out).mono ?_;rintro e w' ⟨rfl,hbel⟩)
    go_ret;exact Idx.some ⟨hlt,HO.out,HI.out⟩ (HW.out.trans (hbel.mono HW.out.size))
  ·obtain rfl:k=n:=by omega
   go_wp2_with fail
   go_ret;exact Idx.none HI.out HW.out
theorem Y6v (p:Option Addr) (n cap:Nat) (z:Nat→Int) (h:Nat) (P:Nat→Prop) (w:World) (hs:Sl w p (n*4) (fun j=>.int .i64 (z j))) (hb:n≤17592186044416)
  (hcl:∀i,i<n→∀wr,Below w.heap.size w wr→Calls Tryz.prog 117 #[.agg #[.int .i64 (z (i*4)),.int .i64 (z (i*4+1)),.int .i64 (z (i*4+2)),.int .i64 (z (i*4+3))],.pointer (some ⟨h,0,none⟩)] wr (Ans (¬P i) (Below wr.heap.size wr))):
  Calls Tryz.prog 116 #[.slice p n cap,.func (.func 117) #[] #[.pointer (some ⟨h,0,none⟩)]] w (Ans (¬Yb P n) (Below w.heap.size w)):=by
 have HI:Hid (Calls Tryz.prog 131 #[.slice p n cap,.func (.func 117) #[] #[.pointer (some ⟨h,0,none⟩)]] w (Idx P n w)):=Y9z p n cap z h P w hs hb hcl;clear hs hcl hb
 go_enter Tryz.func116,Tryz.ntmps116
 go_wp2_with (go_at_call 131;refine HI.out.mono ?_;rintro e w' ⟨x,rfl,hx,hbel⟩;have HX:Hid _:=hx;clear hx)
 go_ret;refine Ans.of (b:=decide (0≤x)) ?_ hbel;simp only [decide_eq_true_eq];rcases HX.out with ⟨rfl,h⟩|⟨i,rfl,h⟩
 ·exact ⟨fun h=>absurd h (by omega),fun h'=>absurd h h'⟩
 ·exact ⟨fun _ h'=>h.not_all h',fun _=>by omega⟩
end Go.Proofs.YtdoghgnifkgfdaaGreat
