import Derived.Deep.RegionHeld3
import Derived.Deep.MidRow
import Derived.Test.YtdoghgnifkgfdaaGreatP09
import Derived.Test.YtdoghgnifkgfdaaGreatP11
import Derived.Test.YtdoghgnifkgfdaaGreatP17
import Derived.Test.YtdoghgnifkgfdaaGreatP18
set_option maxRecDepth 100000
set_option maxHeartbeats 16000000
namespace Go.Proofs.YtdoghgnifkgfdaaGreat
open Go.RowKit Go.Maps
def CfgW (c:Cfg):Prop:=∀i,i<c.nC→∀j,j<c.nCode i*4→-9223372036854775808≤c.code i j∧c.code i j≤9223372036854775807
theorem Y6G (c:Cfg) (cell b cap capc capi:Nat) (p pc pi:Option Addr) (w:World) (hu:YY w b c) (hs:Sl w p c.nD (fun j=>.int .i64 (c.dv j))) (hb:c.nD≤4)
  (hcode:Sl w pc (c.nCode cell*4) (fun j=>.int .i64 (c.code cell j))) (hcb:c.nCode cell≤8796093022208) (hib:c.nImg cell≤17592186044416) (hw:∀j,j<c.nCode cell*4→-9223372036854775808≤c.code cell j∧c.code cell j≤9223372036854775807):
  Calls Tryz.prog 99 #[.agg #[.int .i64 cell,.int .i64 (c.nCode cell),.slice p c.nD cap,.map (some b)],.agg #[.slice pc (c.nCode cell) capc,.slice pi (c.nImg cell) capi,.int .i64 (c.lim cell)]] w (Ans (X3 c cell) (Below w.heap.size w)):=by
 have HA:Hid (∀o,Below w.heap.size w (w.alloc o)):=fun o=>(Below.refl _ _).alloc (Nat.le_refl _) _;have HB:Hid (∀o o',Below w.heap.size w ((w.alloc o).alloc o')):=fun o o'=>((Below.refl _ _).alloc (Nat.le_refl _) _).alloc (by simp) _;have HQ:Hid (∀o':Obj,Calls Tryz.prog 116 #[.slice pc (c.nCode cell) capc,.func (.func 117) #[] #[.pointer (some ⟨w.heap.size,0,none⟩)]] ((w.alloc (.cells #[.int .i64 cell,.int .i64 (c.nCode cell),.slice p c.nD cap,.map (some b)] 207)).alloc o')
   (Ans (¬Yb (XO c cell) (c.nCode cell)) (Below ((w.alloc (.cells #[.int .i64 cell,.int .i64 (c.nCode cell),.slice p c.nD cap,.map (some b)] 207)).alloc o').heap.size ((w.alloc (.cells #[.int .i64 cell,.int .i64 (c.nCode cell),.slice p c.nD cap,.map (some b)] 207)).alloc o')))):=by
  intro o';refine Y6v pc (c.nCode cell) capc (c.code cell) w.heap.size (XO c cell) _ (hcode.below (HB.out _ _)) (by omega) (fun i hi wr hbel=>?_);have hb1:Below (w.heap.size+1) (w.alloc (.cells #[.int .i64 cell,.int .i64 (c.nCode cell),.slice p c.nD cap,.map (some b)] 207)) wr:=((Below.refl _ _).alloc (by simp) o').trans (hbel.mono (by simp));obtain ⟨x0,x1,x2,x3⟩:=box4 hb1;exact Y9L c cell b cap w.heap.size p _ _ _ _ wr x0 x1 x2 x3 (Y1m hu (Yg hb1)) (hs.below (Yg hb1)) hb (wfi (hw _ (by omega)).1 (hw _ (by omega)).2)
 clear hu hs hcode hw;by_cases h1:(0≤c.lim cell∧c.lim cell≤5)∧c.nImg cell≤16
 case neg=>
  have HN:Hid (¬X3 c cell):=fun h=>h1 ⟨h.1,h.2.1⟩
  go_enter Tryz.func99,Tryz.ntmps99
  go_wp2_with fail
  all_goals
   go_ret;exact Ans.no HN.out (HB.out _ _)
 obtain ⟨⟨g1,g2⟩,g3⟩:=h1;by_cases h2:1≤c.nCode cell∧c.nCode cell≤48
 case neg=>
  have HN:Hid (¬X3 c cell):=fun h=>h2 h.2.2.1
  go_enter Tryz.func99,Tryz.ntmps99
  go_wp2_with fail
  all_goals
   go_ret;exact Ans.no HN.out (HB.out _ _)
 obtain ⟨g4,g5⟩:=h2;by_cases hok:Yb (XO c cell) (c.nCode cell)
 ·have HO:Hid (Yb (XO c cell) (c.nCode cell)):=hok;have HC:Hid (X3 c cell):=⟨⟨g1,g2⟩,g3,⟨g4,g5⟩,hok⟩;clear hok
  go_enter Tryz.func99,Tryz.ntmps99
  go_wp2_with (go_at_call 116;refine (Ans.denies (HQ.out _) (fun h=>h HO.out)).mono ?_;rintro e w' ⟨rfl,hbel⟩)
  go_ret;exact Ans.yes HC.out (Zm hbel)
 ·have HO:Hid (¬Yb (XO c cell) (c.nCode cell)):=hok;have HC:Hid (¬X3 c cell):=fun h=>hok h.2.2.2;clear hok
  go_enter Tryz.func99,Tryz.ntmps99
  go_wp2_with (go_at_call 116;refine (Ans.says (HQ.out _) HO.out).mono ?_;rintro e w' ⟨rfl,hbel⟩)
  go_ret;exact Ans.no HC.out (Zm hbel)
theorem Y5S (c:Cfg) (v0 v1 v2 v3:Value) (w:World) (h:CfgR w v0 v1 v2 v3 c) (hw:CfgW c) (h6:c.nC≤6) (h8:c.nCh≤8) (hch:Yb (ChOk c) c.nCh) (h4:c.nD≤4):
  Calls Tryz.prog 78 #[.agg #[v0,v1,v2,v3]] w (Idx (X3 c) c.nC w):=by
 obtain ⟨p0,cap0,F0,p1,cap1,F1,p2,cap2,p3,cap3,rfl,rfl,rfl,rfl,s0,k0,s1,k1,s2,s3,b0,b1,b2,b3⟩:=h.parts;clear h s1 k1 b1 b2 b3;have S0:Hid (Sl w p0 (c.nC*3) F0):=s0;have K0:Hid (∀i,i<c.nC→SlZ w (F0 (i*3)) (c.codeN i) (c.nCode i) 4 (c.code i) 32∧SlZ w (F0 (i*3+1)) (c.imgN i) (c.nImg i) 1 (c.img i) 8∧F0 (i*3+2)=.int .i64 (c.lim i)):=k0;have S2:Hid (Sl w p2 (c.nCh*3) (fun j=>.int .i64 (c.ch j))):=s2;have S3:Hid (Sl w p3 c.nD (fun j=>.int .i64 (c.dv j))):=s3;have HW0:Hid (CfgW c):=hw;have HC:Hid (Yb (ChOk c) c.nCh):=hch;clear s0 k0 s2 s3 hw hch;have HA:Hid (∀o,Below w.heap.size w (w.alloc o)):=fun o=>(Below.refl _ _).alloc (Nat.le_refl _) _
 go_enter Tryz.func78,Tryz.ntmps78
 go_wp2_with fail
 refine (Y8D c p2 cap2 _ (S2.out.below (HA.out _)) h8 HC.out h6).mono ?_;rintro e w1 ⟨bm,rfl,hu,hbel⟩;have HU:Hid (YY w1 bm c):=hu;have HB1:Hid (Below (w.heap.size+1) (w.alloc (.cells #[.slice p0 c.nC cap0,.slice p1 c.nT cap1,.slice p2 c.nCh cap2,.slice p3 c.nD cap3] 28)) w1):=hbel.mono (by simp);obtain ⟨x0,x1,x2,x3⟩:=box4 HB1.out;have hH:w.heap.size<w1.heap.size:=block_lt_of_cell x0;clear hu hbel x1 x2;go_wp2_with fail
 go_loopw [13] (fun i wr=>∃k:Nat,k≤c.nC∧i=.int .i64 k∧Hid (Yb (X3 c) k)∧Hid (Below w1.heap.size w1 wr)) (fun i _=>c.nC-(intOf i).toNat)
 case atStart=>exact ⟨0,Nat.zero_le _,rfl,Yb.zero _,Below.refl _ _⟩
 case round=>
  obtain ⟨k,hk,rfl,HI,HW⟩:=hrel;have HBr:Hid (Below (w.heap.size+1) (w.alloc (.cells #[.slice p0 c.nC cap0,.slice p1 c.nT cap1,.slice p2 c.nCh cap2,.slice p3 c.nD cap3] 28)) wr):=HB1.out.trans (HW.out.mono (by omega));clear x0 x3;by_cases hlt:k<c.nC
  ·obtain ⟨b,off,rfl,hc⟩:=(S0.out.below (Yg HBr.out)).at (by omega);obtain ⟨x0,x1,x2,x3⟩:=box4 HBr.out;have hH1:w.heap.size<wr.heap.size:=block_lt_of_cell x0;have hsz:w1.heap.size≤wr.heap.size:=HW.out.size;have c0:=hc (k*3) (by omega);have c1:=hc (k*3+1) (by omega);have c2:=hc (k*3+2) (by omega);have hbl:b<wr.heap.size:=block_lt_of_cell c0;rw [←Nat.add_assoc] at c1 c2;clear hc x1 x2;obtain ⟨⟨pc,capc,hF0,-,-,-,bc,sc⟩,⟨pi,capi,hF1,-,-,-,bi,-⟩,hF2⟩:=K0.out k hlt;rw [hF0] at c0;rw [hF1] at c1;rw [hF2] at c2;have hnc:c.nCode k≤8796093022208:=by omega
   have hni:c.nImg k≤17592186044416:=by omega
   have HQ:Hid (∀W,Below wr.heap.size wr W→Calls Tryz.prog 99 #[.agg #[.int .i64 k,.int .i64 (c.nCode k),.slice p3 c.nD cap3,.map (some bm)],.agg #[.slice pc (c.nCode k) capc,.slice pi (c.nImg k) capi,.int .i64 (c.lim k)]] W (Ans (X3 c k) (Below W.heap.size W))):=fun W hW=>
    Y6G c k bm cap3 capc capi p3 pc pi W (Y1m (Y1m HU.out HW.out) hW) ((S3.out.below (Yg HBr.out)).below hW) h4 ((sc.below (Yg HBr.out)).below hW) hnc hni (HW0.out k hlt)
   have HB2:Hid (∀o o',Below wr.heap.size wr ((wr.alloc o).alloc o')):=fun o o'=>((Below.refl _ _).alloc (Nat.le_refl _) _).alloc (by simp) _;clear hF0 hF1 hF2 bc sc bi;by_cases hok:X3 c k
   ·have HO:Hid (X3 c k):=hok;clear hok;go_wp2_with (go_at_call 99;refine (Ans.says (HQ.out _ (by exact HB2.out _ _)) HO.out).mono ?_;rintro e w' ⟨rfl,hbel⟩)
    refine ⟨⟨k+1,by omega,by go_num,HI.out.step HO.out,?_⟩,by simp [intOf];omega⟩;exact HW.out.trans ((Zm hbel).mono hsz)
   ·have HO:Hid (¬X3 c k):=hok;clear hok;go_wp2_with (go_at_call 99;refine (Ans.denies (HQ.out _ (by exact HB2.out _ _)) HO.out).mono ?_;rintro e w' ⟨rfl,hbel⟩)
    go_ret;exact Idx.some ⟨hlt,HO.out,HI.out⟩ (Yg (HBr.out.trans ((Zm hbel).mono (by omega))))
  ·obtain rfl:k=c.nC:=by omega
   go_wp2_with fail
   go_ret;exact Idx.none HI.out (Yg HBr.out)
def IdxL (L:Prop) (P:Nat→Prop) (n:Nat) (w:World) (e:Ending) (w':World):Prop:=
 ∃x:Int,e=.returned (.int .i64 x)∧((¬L∧x=0)∨(L∧x=-1∧Yb P n)∨∃i:Nat,L∧x=i∧Bad1 P n i)∧Below w.heap.size w w'
theorem IdxL.of {L:Prop} {P:Nat→Prop} {n:Nat} {w w':World} {x:Int} (hL:L) (h:(x=-1∧Yb P n)∨∃i:Nat,x=i∧Bad1 P n i) (hb:Below w.heap.size w w'):IdxL L P n w (.returned (.int .i64 x)) w':=
 ⟨x,rfl,.inr (h.elim (fun ⟨a,b⟩=>.inl ⟨hL,a,b⟩) (fun ⟨i,a,b⟩=>.inr ⟨i,hL,a,b⟩)),hb⟩
theorem IdxL.long {L:Prop} {P:Nat→Prop} {n:Nat} {w w':World} (hL:¬L) (hb:Below w.heap.size w w'):IdxL L P n w (.returned (.int .i64 0)) w':=⟨0,rfl,.inl ⟨hL,rfl⟩,hb⟩
theorem box1 {w w':World} {v0:Value} {t:Nat} (h:Below (w.alloc (.cells #[v0] t)).heap.size (w.alloc (.cells #[v0] t)) w'):w'.cell? ⟨w.heap.size,0,none⟩=some v0:=by
 rw [h.cell (p:=⟨w.heap.size,0,none⟩) (by simp)];exact cell_of_row _ _ _ _ _ _ (heap_alloc_new w _)
theorem YbA (c:Cfg) (p:Option Addr) (cap:Nat) (F:Nat→Value) (w:World) (hs:Sl w p c.nT F) (hk:∀i,i<c.nT→SlZ w (F i) (c.rowN i) (c.nRow i) 2 (c.row i) 16) (hb:c.nT≤8796093022208):
  Calls Tryz.prog 75 #[.slice p c.nT cap,.int .i64 c.nC] w (IdxL (NTok c) (YU c) c.nT w):=by
 have HA:Hid (∀o,Below w.heap.size w (w.alloc o)):=fun o=>(Below.refl _ _).alloc (Nat.le_refl _) _;have HQ:Hid (Calls Tryz.prog 89 #[.slice p c.nT cap,.func (.func 90) #[] #[.pointer (some ⟨w.heap.size,0,none⟩)]] (w.alloc (.cells #[.int .i64 c.nC] 3)) (Idx (YU c) c.nT (w.alloc (.cells #[.int .i64 c.nC] 3)))):=by
  refine Y6h p c.nT cap F w.heap.size (YU c) _ (hs.below (HA.out _)) hb (fun i hi wr hbel=>?_);obtain ⟨pr,capr,hF,-,-,-,hbr,hsr⟩:=hk i hi;rw [hF];exact Y9Y pr (c.nRow i) capr c.nC w.heap.size (c.row i) wr (box1 hbel) ((hsr.below (HA.out _)).below hbel) hbr
 clear hs hk;by_cases hn:NTok c
 ·have HN:Hid (NTok c):=hn;have h1:1≤c.nT:=hn.1;have h2:c.nT≤8:=hn.2;clear hn
  go_enter Tryz.func75,Tryz.ntmps75
  go_wp2_with (go_at_call 89;refine HQ.out.mono ?_;rintro e w' ⟨x,rfl,hx,hbel⟩;have HX:Hid _:=hx;clear hx)
  go_ret;exact IdxL.of HN.out HX.out (Xh hbel)
 ·have HN:Hid (¬NTok c):=hn;have hq:c.nT<1∨8<c.nT:=by unfold NTok at hn;omega
  clear hn;rcases hq with hq|hq
  all_goals
   go_enter Tryz.func75,Tryz.ntmps75
   go_wp2_with fail
   go_ret;exact IdxL.long HN.out (HA.out _)
theorem Y5x (c:Cfg) (p:Option Addr) (cap:Nat) (w:World) (hs:Sl w p (c.nCh*3) (fun j=>.int .i64 (c.ch j))) (hb:c.nCh≤8796093022208):
  Calls Tryz.prog 76 #[.slice p c.nCh cap,.int .i64 c.nC] w (IdxL (c.nCh≤8) (ChOk c) c.nCh w):=by
 have HA:Hid (∀o,Below w.heap.size w (w.alloc o)):=fun o=>(Below.refl _ _).alloc (Nat.le_refl _) _;have HQ:Hid (Calls Tryz.prog 92 #[.slice p c.nCh cap,.func (.func 93) #[] #[.pointer (some ⟨w.heap.size,0,none⟩)]] (w.alloc (.cells #[.int .i64 c.nC] 3)) (Idx (ChOk c) c.nCh (w.alloc (.cells #[.int .i64 c.nC] 3)))):=
  Y8w p c.nCh cap c.ch w.heap.size (ChOk c) _ (hs.below (HA.out _)) (by omega) (fun i hi wr hbel=>Y7n _ _ _ c.nC w.heap.size wr (box1 hbel))
 clear hs;by_cases h2:c.nCh≤8
 ·go_enter Tryz.func76,Tryz.ntmps76
  go_wp2_with (go_at_call 92;refine HQ.out.mono ?_;rintro e w' ⟨x,rfl,hx,hbel⟩;have HX:Hid _:=hx;clear hx)
  go_ret;exact IdxL.of h2 HX.out (Xh hbel)
 ·go_enter Tryz.func76,Tryz.ntmps76
  go_wp2_with fail
  go_ret;exact IdxL.long h2 (HA.out _)
theorem Y6Z (c:Cfg) (p:Option Addr) (cap:Nat) (w:World) (hs:Sl w p c.nD (fun j=>.int .i64 (c.dv j))) (hb:c.nD≤17592186044416):
  Calls Tryz.prog 77 #[.slice p c.nD cap,.int .i64 c.nC] w (IdxL (c.nD≤4) (DvOk c) c.nD w):=by
 have HA:Hid (∀o,Below w.heap.size w (w.alloc o)):=fun o=>(Below.refl _ _).alloc (Nat.le_refl _) _;have HQ:Hid (Calls Tryz.prog 95 #[.slice p c.nD cap,.func (.func 96) #[] #[.pointer (some ⟨w.heap.size,0,none⟩)]] (w.alloc (.cells #[.int .i64 c.nC] 3)) (Idx (DvOk c) c.nD (w.alloc (.cells #[.int .i64 c.nC] 3)))):=
  Y8F p c.nD cap c.dv w.heap.size (DvOk c) _ (hs.below (HA.out _)) (by omega) (fun i hi wr hbel=>Y9s _ c.nC w.heap.size wr (box1 hbel))
 clear hs;by_cases h2:c.nD≤4
 ·go_enter Tryz.func77,Tryz.ntmps77
  go_wp2_with (go_at_call 95;refine HQ.out.mono ?_;rintro e w' ⟨x,rfl,hx,hbel⟩;have HX:Hid _:=hx;clear hx)
  go_ret;exact IdxL.of h2 HX.out (Xh hbel)
 ·go_enter Tryz.func77,Tryz.ntmps77
  go_wp2_with fail
  go_ret;exact IdxL.long h2 (HA.out _)
structure But (S:Nat→Prop) (w w':World):Prop where
 os:w'.os=w.os
 tape:w'.tape=w.tape
 output:w'.output=w.output
 size:w.heap.size≤w'.heap.size
 block:∀k,k<w.heap.size→¬S k→w'.heap[k]?=w.heap[k]?
def SC (c:Cfg) (cb:Nat→Nat) (k j:Nat):Prop:=∃i,i<k∧((c.codeN i=false∧j=cb i)∨(c.imgN i=false∧j=cb i+1))
def SR (c:Cfg) (cb rb:Nat→Nat) (k j:Nat):Prop:=SC c cb c.nC j∨∃i,i<k∧j=rb i
theorem Y0V {P:Program} {ops:Array Oper} {o:Oper} {a:Act} {w:World} {K:Act→World→Prop} {Q:Exit→Act→World→Prop} {E:Prop} (hgd:o.guard=none) (f:FuncId) (s:Operand) (t:TypeId)
  (ho:o.op=.call {callee:=.value (.func f),args:=#[s],argTypes:=#[t]}) (v:Value) (hv:a.eval s=v)
  (fn : Func) (hf : P.funcs[f]? = some fn) (hn : (fn.name == "runtime.NumGoroutine") = false) (hb : fn.body.isNone = false) (R : Value → World → Prop)
  (h:Calls P f #[v] w (fun e w'=>∃r,e=.returned r∧R r w')) (hk:∀r w',R r w'→K (a.put o.dst r) w'):
  if Region.wanted o (yielded ops a.tmps)=true then Oper.wp P o a w K Q else E:=by
 have hw:Region.wanted o (yielded ops a.tmps)=true:=by simp [Region.wanted,hgd]
 rw [if_pos hw];unfold Oper.wp;have hr:(execOp a.eval o).run P w=.ok (.enter f #[v]) w:=by
  have e:a.eval (.func f)=.func (.func f) #[] #[]:=rfl;have hn' : ¬ fn.name = "runtime.NumGoroutine" := by simpa using hn
  have hb':¬fn.body=none:=by intro e;rw [e] at hb;cases hb
  simp [execOp,ho,resolve,invoke,hv,e,Deferred.ofValue,callFunc,hf,hn',hb']
 rw [hr];refine h.mono ?_;rintro e w' ⟨r,rfl,hR⟩;exact hk r w' hR
theorem Y4F {P:Program} (w:World) (dT sT ty elem:TypeId) (size g o dLen dCap:Nat) (sp:Option Addr) (sLen sCap:Nat) (m t:Nat) (f f':Nat→Value)
  (hu:P.underlying dT=some (.slice elem)) (hs:(P.info? elem).map (·.size)=some size) (hle:sLen≤dLen) (hrow:RowF w g m t f) (hm:o+dLen*size≤m)
  (hsrc:Sl w sp (sLen*size) f') (h1:∀j,j<sLen*size→(f' j).oneCell'=true) (hnil:sp=none→sLen=0):
  ∃w',(Builtin.copy_ #[dT,sT] ty #[.slice (some ⟨g,o,none⟩) dLen dCap,.slice sp sLen sCap]).run P w=.ok (goInt sLen) w'∧
   RowF w' g m t (fun j=>if o≤j∧j<o+sLen*size then f' (j-o) else f j)∧w.grownBy w' (some g)∧w'.heap.size=w.heap.size:=by
 have hmin:Nat.min sLen dLen=sLen:=Nat.min_eq_left hle;cases hq:P.info? elem with
 |none=>simp [hq] at hs
 |some i=>
  have hi:i.size=size:=by simpa [hq] using hs
  rcases hsrc with hm0|⟨b,off,rfl,hc⟩
  ·refine ⟨w,?_,hrow.congr (fun j _=>by rw [hm0,if_neg];omega),World.grownBy.refl _ _,rfl⟩;cases sp with
   |none=>
    have h0:=hnil rfl;subst h0;simp [Builtin.copy_,run_underlying hu,Builtin.lenOf,Builtin.firstCells,sizeOf,typeInfo,hq,storeCells]
   |some q=>
    have hl:(loadCells q 0).run P w=.ok #[] w:=by
     have:=run_loadCells_list (P:=P) w q [] (fun j v hv=>by simp at hv);simpa using this
    simp [Builtin.copy_,run_underlying hu,Builtin.lenOf,Builtin.firstCells,sizeOf,typeInfo,hq,hi,hmin,hm0,hl,storeCells]
  ·obtain ⟨cs,hg,hcs,hf⟩:=hrow;have hl:(loadCells ⟨b,off,none⟩ (sLen*size)).run P w=.ok ((List.range (sLen*size)).map f').toArray w:=by
    have:=run_loadCells_list (P:=P) w ⟨b,off,none⟩ ((List.range (sLen*size)).map f') (fun j v hv=>by
     rw [Addr.add_lit];have hj:j<sLen*size:=by have:=(List.getElem?_eq_some_iff.1 hv).1;simpa using this
     rw [hc j hj];rw [←hv];simp [hj])
    simpa using this
   have hle2:sLen*size≤dLen*size:=Nat.mul_le_mul_right _ hle;have hst:=run_storeCells_at P g o t ((List.range (sLen*size)).map f') 0 cs w hg (by simp [hcs];omega) (fun v hv=>by
    obtain ⟨j,hj,rfl⟩:=List.mem_map.1 hv;exact h1 j (by simpa using hj))
   have hst':(storeCells ⟨g,o,none⟩ ((List.range (sLen*size)).map f')).run P w=.ok () (w.setRow g (cs.toList.take o++((List.range (sLen*size)).map f'++cs.toList.drop (o+sLen*size))).toArray):=by
    simpa using hst
   refine ⟨w.setRow g (cs.toList.take o++((List.range (sLen*size)).map f'++cs.toList.drop (o+sLen*size))).toArray,?_,⟨(cs.toList.take o++((List.range (sLen*size)).map f'++cs.toList.drop (o+sLen*size))).toArray,setRow_heap w g cs _ t _ hg,?_,?_⟩,⟨rfl,rfl,rfl,by simp,fun k _ hk=>setRow_other w g k _ (fun e=>hk (by simp [e]))⟩,by simp⟩
   ·simp [Builtin.copy_,run_underlying hu,Builtin.lenOf,Builtin.firstCells,sizeOf,typeInfo,hq,hi,hmin,hl,hst']
   ·simp [hcs];omega
   ·intro j hj;show _=some (if o≤j∧j<o+sLen*size then f' (j-o) else f j);have ho:(cs.toList.take o).length=o:=by simp [hcs];omega
    by_cases h2:j<o
    ·rw [if_neg (by omega),←hf j hj];simp only [List.getElem?_toArray];rw [List.getElem?_append_left (by omega),List.getElem?_take_of_lt h2];simp
    ·by_cases hlt:j<o+sLen*size
     ·rw [if_pos ⟨by omega,hlt⟩];simp only [List.getElem?_toArray];rw [List.getElem?_append_right (by omega),List.getElem?_append_left (by simp only [List.length_map,List.length_range];omega),ho];have h3:j-o<sLen*size:=by omega
      simp [h3]
     ·rw [if_neg (by omega),←hf j hj];simp only [List.getElem?_toArray];rw [List.getElem?_append_right (by omega),List.getElem?_append_right (by simp only [List.length_map,List.length_range];omega),ho];simp only [List.length_map,List.length_range,List.getElem?_drop];rw [show o+sLen*size+(j-o-sLen*size)=j by omega];simp
theorem Ybz {P:Program} {w:World} {ops:Array Oper} {o:Oper} {a:Act} {K:Act→World→Prop} {Q:Exit→Act→World→Prop} {E:Prop} (hgd:o.guard=none) (d s:Operand) (dT sT:TypeId)
  (ho:o.op=.call {callee:=.builtin .copy,args:=#[d,s],argTypes:=#[dT,sT]}) (elem:TypeId) (zv:Value) (size bytes:Nat) (hu:P.underlying dT=some (.slice elem)) (hinfo:(P.info? elem).map (fun i=>(i.zero,i.size,i.bytes))=some (some zv,size,bytes))
  (g off dLen dCap:Nat) (sp:Option Addr) (sLen sCap:Nat) (hd:a.eval d=.slice (some ⟨g,off,none⟩) dLen dCap) (hs:a.eval s=.slice sp sLen sCap)
  (m t:Nat) (f f':Nat→Value) (hle:sLen≤dLen) (hrow:RowF w g m t f) (hm:off+dLen*size≤m)
  (hsrc:Sl w sp (sLen*size) f') (h1:∀j,j<sLen*size→(f' j).oneCell'=true) (hnil:sp=none→sLen=0)
  (h:∀w',RowF w' g m t (fun j=>if off≤j∧j<off+sLen*size then f' (j-off) else f j)→w.grownBy w' (some g)→w'.heap.size=w.heap.size→K (a.put o.dst (goInt sLen)) w'):
  if Region.wanted o (yielded ops a.tmps)=true then Oper.wp P o a w K Q else E:=by
 have hw:Region.wanted o (yielded ops a.tmps)=true:=by simp [Region.wanted,hgd]
 rw [if_pos hw];have hsz:(P.info? elem).map (·.size)=some size:=by
  obtain ⟨i,h2,_,h4,_⟩:=info_parts hinfo;simp [h2,h4]
 obtain ⟨w',hrun,r1,r2,r3⟩:=Y4F (P:=P) w dT sT o.type elem size g off dLen dCap sp sLen sCap m t f f' hu hsz hle hrow hm hsrc h1 hnil;unfold Oper.wp;simp [execOp,ho,resolve,invoke,builtin,hd,hs,hrun,Result.andThen];exact h w' r1 r2 r3
def cellV (num:Int) (net code:Value) (z:Nat→Int) (j:Nat):Value:=if j=0 then .int .i64 num else if j=1 then net else if j=2 then code else .int .i64 (z j)
def newZ (lim:Int) (m:Nat) (img:Nat→Int) (j:Nat):Int:=if j=3 then lim else if 8≤j∧j<8+m then img (j-8) else if 29≤j∧j<29+m then img (j-29) else 0
theorem Y52 (w:World) (t:Nat) (a b c d:Value):RowF (w.alloc (.cells (List.toArray (a::b::c::d::.int .i64 0::.int .i64 0::.int .i64 0::.int .i64 0::.int .i64 0::.int .i64 0::.int .i64 0::.int .i64 0::.int .i64 0::.int .i64 0::.int .i64 0::.int .i64 0::.int .i64 0::.int .i64 0::.int .i64 0::.int .i64 0::.int .i64 0::.int .i64 0::.int .i64 0::.int .i64 0::.int .i64 0::.int .i64 0::.int .i64 0::.int .i64 0::.int .i64 0::.int .i64 0::.int .i64 0::.int .i64 0::.int .i64 0::.int .i64 0::.int .i64 0::.int .i64 0::.int .i64 0::.int .i64 0::.int .i64 0::.int .i64 0::.int .i64 0::.int .i64 0::.int .i64 0::.int .i64 0::.int .i64 0::.int .i64 0::.int .i64 0::.int .i64 0::[])) t)) w.heap.size 48 t (fun j=>if j=0 then a else if j=1 then b else if j=2 then c else if j=3 then d else .int .i64 0):=by
 refine RowF.new w _ t _ (fun j hj=>?_);have e:((List.toArray (a::b::c::d::.int .i64 0::.int .i64 0::.int .i64 0::.int .i64 0::.int .i64 0::.int .i64 0::.int .i64 0::.int .i64 0::.int .i64 0::.int .i64 0::.int .i64 0::.int .i64 0::.int .i64 0::.int .i64 0::.int .i64 0::.int .i64 0::.int .i64 0::.int .i64 0::.int .i64 0::.int .i64 0::.int .i64 0::.int .i64 0::.int .i64 0::.int .i64 0::.int .i64 0::.int .i64 0::.int .i64 0::.int .i64 0::.int .i64 0::.int .i64 0::.int .i64 0::.int .i64 0::.int .i64 0::.int .i64 0::.int .i64 0::.int .i64 0::.int .i64 0::.int .i64 0::.int .i64 0::.int .i64 0::.int .i64 0::.int .i64 0::.int .i64 0::.int .i64 0::[])):Array Value)=([a,b,c,d]++List.replicate 44 (Value.int .i64 0)).toArray:=rfl;rw [e] at hj ⊢;rcases j with _|_|_|_|j
 ·rfl
 ·rfl
 ·rfl
 ·rfl
 ·simp only [List.size_toArray,List.length_append,List.length_cons,List.length_nil,List.length_replicate] at hj;show ([a,b,c,d]++List.replicate 44 (Value.int .i64 0)).toArray[j+1+1+1+1]?=some (.int .i64 0);rw [List.getElem?_toArray,List.getElem?_append_right (by simp),List.getElem?_replicate,if_pos (by simp only [List.length_cons,List.length_nil];omega)]
theorem Y1K:(Tryz.prog.info? 184).map (·.size)=some 21:=by kernel_rfl
theorem Y5z {w:World} {g t:Nat} {a b c:Value} {G:Nat→Int} (h:RowF w g 48 t (fun j=>if j=0 then a else if j=1 then b else if j=2 then c else .int .i64 (G j))):w.rangeAt g 4 ((List.range 21).map (fun j=>.int .i64 (G (4+j)))):=fun j v hv=>by
 rw [List.getElem?_map] at hv;obtain ⟨y,hy,rfl⟩:=Option.map_eq_some_iff.1 hv;have hj:j<21:=by
  have:=(List.getElem?_eq_some_iff.1 hy).1;simpa using this
 rw [List.getElem?_range hj] at hy;cases hy;have:=h.cell (j:=4+j) (by omega);rw [this,if_neg (by omega),if_neg (by omega),if_neg (by omega)]
theorem Y9E {w:World} {g t:Nat} {f:Nat→Value} {L:List Value} (h:RowF w g 48 t f) (hL:L.length=21):w.there g 25 L.toArray.size:=fun j hj=>by
 have hj':j<21:=by rw [List.size_toArray,hL] at hj;exact hj
 rw [h.cell (j:=25+j) (by omega)];exact ⟨rfl,h.frozen _⟩
theorem below_setCells {B:Nat} {w0 w:World} {b:Nat} (h:Below B w0 w) (hb:B≤b):∀(o:Nat) (vs:List Value),Below B w0 (w.setCells b o vs):=by
 intro o vs;induction vs generalizing o w with
 |nil=>exact h
 |cons v vs ih=>exact ih (h.setCell hb _) _
theorem RowF.setCells {w:World} {g m t:Nat} {f:Nat→Value} (h:RowF w g m t f):∀(vs:List Value) (o:Nat),RowF (w.setCells g o vs) g m t (fun j=>if o≤j∧j<o+vs.length then vs.getD (j-o) undef else f j):=by
 intro vs;induction vs generalizing w f with
 |nil=>exact fun o=>h.congr fun j _=>by rw [if_neg (by simp)]
 |cons v vs ih=>
  intro o;refine (ih (h.set o v) (o+1)).congr fun j _=>?_;simp only [List.length_cons];by_cases h1:o+1≤j∧j<o+1+vs.length
  ·rw [if_pos h1,if_pos (by omega),show j-o=(j-(o+1))+1 by omega];rfl
  ·rw [if_neg h1];by_cases h2:j=o
   ·subst h2;rw [if_pos rfl,if_pos (by omega),Nat.sub_self];rfl
   ·rw [if_neg h2,if_neg (by omega)]
theorem Y9I : (Tryz.f79.name == "runtime.NumGoroutine") = false := by kernel_rfl
theorem YaD:Tryz.f79.body.isNone=false:=by kernel_rfl
def ZY (z:Nat→Int):Nat→List Value
 |0=>[]
 |k+1=>ZY z k++[.int .i64 (z (k*3+1)),.int .i64 (z (k*3+2))]
def Ja:Nat→List Value
 |0=>[]
 |k+1=>Ja k++[.slice none 0 0,.slice none 0 0,.int .i64 0]
def J6:Nat→List Value
 |0=>[]
 |k+1=>J6 k++[.int .i64 0,.int .i64 (-1),.int .i64 0,.bool false]
def Y0N (w:World) (K:Nat) (z:Nat→Int) (k:Nat) (wr:World):Prop:=
 ∃ve vq vs,Below w.heap.size w wr∧RowF wr K 3 149 (cells3 ve vq vs)∧wr.ownsRow (K+1) 151 2 ve k (ZY z k)∧
  wr.ownsRow (K+1) 156 3 vq k (Ja k)∧wr.ownsRow (K+1) 158 4 vs k (J6 k)
theorem Y7o:(Tryz.prog.info? 151).map (fun i=>(i.zero,i.size,i.bytes))=some (some (.agg #[.int .i64 0,.int .i64 0]),2,16):=by kernel_rfl
theorem Y9u:(Tryz.prog.info? 156).map (fun i=>(i.zero,i.size,i.bytes))=some (some (.agg #[.slice none 0 0,.slice none 0 0,.int .i64 0]),3,56):=by kernel_rfl
theorem Y9M:(Tryz.prog.info? 158).map (fun i=>(i.zero,i.size,i.bytes))=some (some (.agg #[.int .i64 0,.int .i64 0,.int .i64 0,.bool false]),4,32):=by kernel_rfl
theorem Y44 {w:World} {b1 b2 e1 e2 s1 s2 n1 n2:Nat} {v1 v2:Value} {x1 x2:List Value} (h1:w.ownsRow b1 e1 s1 v1 n1 x1) (h2:w.ownsRow b2 e2 s2 v2 n2 x2) (he:e1≠e2):v1.ownBlock=none∨v1.ownBlock≠v2.ownBlock:=by
 rcases h1.2 with ⟨rfl,_⟩|⟨g,cap,cur,rfl,hb,hg,_⟩
 ·exact .inl rfl
 ·rcases h2.2 with ⟨rfl,_⟩|⟨g',cap',cur',rfl,hb',hg',_⟩
  ·exact .inr (by simp [Value.ownBlock])
  ·refine .inr fun e=>?_;have:g=g':=by simpa [Value.ownBlock] using e
   subst this;rw [hg] at hg';exact he (by cases hg';rfl)
theorem Y1F {w wr wA wg:World} {K i:Nat} {v x:Value} {b e s n:Nat} {xs:List Value} (hK:w.heap.size≤K) (hb:Below w.heap.size w wr) (hA:Below wr.heap.size wr wA) (ho:wr.ownsRow (K+1) e s v n xs) (hg:wA.grownBy wg v.ownBlock):
  Below w.heap.size w (wg.setCell ⟨K,i,none⟩ x)∧(∀u e' s' n' ys,e'≠e→wr.ownsRow (K+1) e' s' u n' ys→(wg.setCell ⟨K,i,none⟩ x).ownsRow (K+1) e' s' u n' ys)∧(∀m t f,RowF wr K m t f→RowF wg K m t f)∧(b<K→∀m t f,RowF wr b m t f→RowF (wg.setCell ⟨K,i,none⟩ x) b m t f):=by
 have hl:∀j,j<K+1→some j≠v.ownBlock:=fun j hj=>Y1x ho hj;have hbl:∀j,j<wr.heap.size→j<K+1→wg.heap[j]?=wr.heap[j]?:=fun j hj hj'=>(hg.block j (Nat.lt_of_lt_of_le hj hA.size) (hl j hj')).trans (hA.block j hj);refine ⟨Below.setCell ⟨hg.os.trans (hA.os.trans hb.os),hg.tape.trans (hA.tape.trans hb.tape),hg.output.trans (hA.output.trans hb.output),Nat.le_trans hb.size (Nat.le_trans hA.size hg.size),fun j hj=>(hbl j (Nat.lt_of_lt_of_le hj hb.size) (by omega)).trans (hb.block j hj)⟩ hK _,fun u e' s' n' ys he hu=>?_,fun m t f hr=>hr.of_heap (hbl K hr.lt (by omega)),fun hbK m t f hr=>(hr.of_heap (hbl b hr.lt (by omega))).other _ _ (by simp;omega)⟩;exact ownsRow_setCell_below ((own_below hu hA).kept hg (Y44 (own_below hu hA) (own_below ho hA) he)) (by simp) _
theorem Y4c (p:Option Addr) (n cap:Nat) (z:Nat→Int) (w:World) (hs:Sl w p (n*3) (fun j=>.int .i64 (z j))) (hn:n≤8):
  Calls Tryz.prog 51 #[.slice p n cap] w fun e w'=>∃kb,e=.returned (.pointer (some ⟨kb,0,none⟩))∧w.heap.size≤kb∧Y0N w kb z n w':=by
 have S0:Hid (Sl w p (n*3) (fun j=>.int .i64 (z j))):=hs;clear hs
 go_enter Tryz.func51,Tryz.ntmps51
 go_wp2_with fail
 have N0:Hid (Y0N w w.heap.size z 0 (w.alloc (.cells #[.slice none 0 0,.slice none 0 0,.slice none 0 0] 149))):=
  ⟨_,_,_,(Below.refl _ _).alloc (Nat.le_refl _) _,row3 w _ _ _ _,World.ownsRow_nil _ _ _ _,World.ownsRow_nil _ _ _ _,World.ownsRow_nil _ _ _ _⟩
 generalize (w.alloc (.cells #[.slice none 0 0,.slice none 0 0,.slice none 0 0] 149))=w0 at *;have hK:w.heap.size≤w.heap.size:=Nat.le_refl _;have S1:Hid (Sl w p (n*3) (fun j=>.int .i64 (z j))):=S0.out;clear S0;have HW:Hid (∀wr,Below w.heap.size w wr→Sl wr p (n*3) (fun j=>.int .i64 (z j))):=fun wr h=>S1.out.below h;generalize hKd:w.heap.size=K at *;go_loopw [10] (fun i wr=>∃k:Nat,k≤n∧i=.int .i64 k∧Hid (Y0N w K z k wr)) (fun i _=>n-(intOf i).toNat)
 case atStart=>exact ⟨0,Nat.zero_le _,rfl,N0⟩
 case round=>
  obtain ⟨k,hk,rfl,HR⟩:=hrel;obtain ⟨ve,vq,vs,hbr,hrow,ho1,ho2,ho3⟩:=HR.out;have HBr:Hid (Below K w wr):=hKd▸hbr;have HRo:Hid (RowF wr K 3 149 (cells3 ve vq vs)):=hrow;have O1:Hid (wr.ownsRow (K+1) 151 2 ve k (ZY z k)):=ho1;have O2:Hid (wr.ownsRow (K+1) 156 3 vq k (Ja k)):=ho2;have O3:Hid (wr.ownsRow (K+1) 158 4 vs k (J6 k)):=ho3;clear hbr hrow ho1 ho2 ho3 HR;by_cases hlt:k<n
  ·obtain ⟨b,off,rfl,hc⟩:=(HW.out wr (hKd▸HBr.out)).at (by omega);have c0:=hc (k*3) (by omega);have c1:=hc (k*3+1) (by omega);have c2:=hc (k*3+2) (by omega);rw [←Nat.add_assoc] at c1 c2;clear hc;have hKr:K<wr.heap.size:=HRo.out.lt;obtain ⟨z0,z1,z2⟩:=HRo.out.at3;go_wp2_with fail
   have HBp:Hid (Below wr.heap.size wr (wr.alloc (.cells #[.int .i64 (z (k*3)),.int .i64 (z (k*3+1)),.int .i64 (z (k*3+2))] 138))):=(Below.refl _ _).alloc (Nat.le_refl _) _;have hsp:(wr.alloc (.cells #[.int .i64 (z (k*3)),.int .i64 (z (k*3+1)),.int .i64 (z (k*3+2))] 138)).heap.size=wr.heap.size+1:=by simp
   obtain ⟨e0,e1,e2⟩:=(row3 wr (.int .i64 (z (k*3))) (.int .i64 (z (k*3+1))) (.int .i64 (z (k*3+2))) 138).at3;have eK:=(HBp.out.cell (p:=⟨K,0,none⟩) hKr).trans z0;generalize (wr.alloc (.cells #[.int .i64 (z (k*3)),.int .i64 (z (k*3+1)),.int .i64 (z (k*3+2))] 138))=wp at *;have hKp:K<wp.heap.size:=by omega
   have eKa:(wp.alloc (.cells #[.int .i64 (z (k*3+1)),.int .i64 (z (k*3+2))] 151)).cell? ⟨K,0,none⟩=some ve:=(((Below.refl _ wp).alloc (Nat.le_refl _) _).cell (p:=⟨K,0,none⟩) hKp).trans eK
   go_region_law
    (refine Jk rfl _ _ 145 rfl (K+1) 151 _ 2 16 Tryz.underlying145 Y7o rfl (by omega) ve k (ZY z k) rfl (own_below O1.out (by exact (HBp.out.drew.alloc (by show wr.heap.size≤wp.heap.size;omega) _))) (wr.heap.size+1) [.int .i64 (z (k*3+1)),.int .i64 (z (k*3+2))] 151 rfl rfl (by exact alloc_at hsp) (by simp [Value.oneCell']) (by simp only [maxLen];omega) (by omega) (by simp;omega) ?_
     intro g cap1 wg hown1 hgrow1 hat hlt1;have HS:Hid _:=Y1F (w:=w) (wr:=wr) (K:=K) (i:=0) (x:=.slice (some ⟨g,0,none⟩) (k+1:Nat) cap1) (b:=0) (by omega) (hKd▸HBr.out) (by exact (HBp.out.drew.alloc (by show wr.heap.size≤wp.heap.size;omega) _)) O1.out hgrow1;have HR1:Hid (RowF wg K 3 149 (cells3 ve vq vs)):=HS.out.2.2.1 _ _ _ HRo.out;have HO1:Hid (wg.ownsRow (K+1) 151 2 (.slice (some ⟨g,0,none⟩) (k+1:Nat) cap1) (k+1) (ZY z k++[.int .i64 (z (k*3+1)),.int .i64 (z (k*3+2))])):=hown1;have q0:=HR1.out.at3.1;have q0f:=HR1.out.frozen 0;clear hown1 hgrow1 hat hlt1 eK eKa)
   all_goals
    have B3:Hid (Below K w (wg.setCell ⟨K,0,none⟩ (.slice (some ⟨g,0,none⟩) (k+1:Nat) cap1))):=hKd▸HS.out.1;have R3:Hid (RowF (wg.setCell ⟨K,0,none⟩ (.slice (some ⟨g,0,none⟩) (k+1:Nat) cap1)) K 3 149 (cells3 (.slice (some ⟨g,0,none⟩) (k+1:Nat) cap1) vq vs)):=(HR1.out.set3 _).1;have P1:Hid ((wg.setCell ⟨K,0,none⟩ (.slice (some ⟨g,0,none⟩) (k+1:Nat) cap1)).ownsRow (K+1) 151 2 (.slice (some ⟨g,0,none⟩) (k+1:Nat) cap1) (k+1) (ZY z (k+1))):=ownsRow_setCell_below HO1.out (by simp) _;have P2:Hid ((wg.setCell ⟨K,0,none⟩ (.slice (some ⟨g,0,none⟩) (k+1:Nat) cap1)).ownsRow (K+1) 156 3 vq k (Ja k)):=HS.out.2.1 _ _ _ _ _ (by decide) O2.out;have P3:Hid ((wg.setCell ⟨K,0,none⟩ (.slice (some ⟨g,0,none⟩) (k+1:Nat) cap1)).ownsRow (K+1) 158 4 vs k (J6 k)):=HS.out.2.1 _ _ _ _ _ (by decide) O3.out;clear q0 q0f HS HR1 HO1 O1 O2 O3 HRo HBr z0 z1 z2 e0 e1 e2 HBp hsp c0 c1 c2 hKp hKr;generalize wg.setCell ⟨K,0,none⟩ (.slice (some ⟨g,0,none⟩) (k+1:Nat) cap1)=w3 at *;generalize (Value.slice (some ⟨g,0,none⟩) (k+1:Nat) cap1)=ve at *;clear wg;obtain ⟨z0,z1,z2⟩:=R3.out.at3;have hK3:K<w3.heap.size:=R3.out.lt;have A3:Hid (Below w3.heap.size w3 (w3.alloc (.cells #[.slice none 0 0,.slice none 0 0,.int .i64 0] 156))):=(Below.refl _ _).alloc (Nat.le_refl _) _;go_wp2_with
     (first
      |(refine YX _ rfl _ _ 146 rfl (K+1) 156 _ 3 56 Tryz.underlying146 Y9u rfl (by omega) vq k (Ja k) rfl (own_below P2.out A3.out) w3.heap.size [.slice none 0 0,.slice none 0 0,.int .i64 0] 156 rfl rfl (by exact alloc_at rfl) (by simp [Value.oneCell']) (by simp only [maxLen];omega) (by omega) (by simp;omega) ?_
        intro g2 cap2 wh hown1 hgrow1 hat hlt1;have HS:Hid _:=Y1F (w:=w) (wr:=w3) (K:=K) (i:=1) (x:=.slice (some ⟨g2,0,none⟩) (k+1:Nat) cap2) (b:=0) (by omega) (hKd▸B3.out) A3.out P2.out hgrow1;have HR1:Hid (RowF wh K 3 149 (cells3 ve vq vs)):=HS.out.2.2.1 _ _ _ R3.out;have HO1:Hid (wh.ownsRow (K+1) 156 3 (.slice (some ⟨g2,0,none⟩) (k+1:Nat) cap2) (k+1) (Ja k++[.slice none 0 0,.slice none 0 0,.int .i64 0])):=hown1;have q0:=HR1.out.at3.2.1;have q0f:=HR1.out.frozen 1;have q2:=HR1.out.at3.2.2;have hKh:K<wh.heap.size:=HR1.out.lt;have B4:Hid (Below K w (wh.setCell ⟨K,1,none⟩ (.slice (some ⟨g2,0,none⟩) (k+1:Nat) cap2))):=hKd▸HS.out.1;have R4:Hid (RowF (wh.setCell ⟨K,1,none⟩ (.slice (some ⟨g2,0,none⟩) (k+1:Nat) cap2)) K 3 149 (cells3 ve (.slice (some ⟨g2,0,none⟩) (k+1:Nat) cap2) vs)):=(HR1.out.set3 _).2.1;have T2:Hid ((wh.setCell ⟨K,1,none⟩ (.slice (some ⟨g2,0,none⟩) (k+1:Nat) cap2)).ownsRow (K+1) 156 3 (.slice (some ⟨g2,0,none⟩) (k+1:Nat) cap2) (k+1) (Ja (k+1))):=ownsRow_setCell_below HO1.out (by simp) _;have T1:Hid ((wh.setCell ⟨K,1,none⟩ (.slice (some ⟨g2,0,none⟩) (k+1:Nat) cap2)).ownsRow (K+1) 151 2 ve (k+1) (ZY z (k+1))):=HS.out.2.1 _ _ _ _ _ (by decide) P1.out;have T3:Hid ((wh.setCell ⟨K,1,none⟩ (.slice (some ⟨g2,0,none⟩) (k+1:Nat) cap2)).ownsRow (K+1) 158 4 vs k (J6 k)):=HS.out.2.1 _ _ _ _ _ (by decide) P3.out;have A4:Hid (Below (wh.setCell ⟨K,1,none⟩ (.slice (some ⟨g2,0,none⟩) (k+1:Nat) cap2)).heap.size (wh.setCell ⟨K,1,none⟩ (.slice (some ⟨g2,0,none⟩) (k+1:Nat) cap2)) ((wh.setCell ⟨K,1,none⟩ (.slice (some ⟨g2,0,none⟩) (k+1:Nat) cap2)).alloc (.cells #[.int .i64 0,.int .i64 (-1),.int .i64 0,.bool false] 158))):=(Below.refl _ _).alloc (Nat.le_refl _) _;clear hown1 hgrow1 hat hlt1)
      |(refine YX _ rfl _ _ 147 rfl (K+1) 158 _ 4 32 Tryz.underlying147 Y9M rfl (by omega) vs k (J6 k) rfl (own_below T3.out A4.out) wh.heap.size [.int .i64 0,.int .i64 (-1),.int .i64 0,.bool false] 158 rfl rfl (by exact alloc_at (size_setCell _ _ _)) (by simp [Value.oneCell']) (by simp only [maxLen];omega) (by omega) (by simp;omega) ?_
        intro g3 cap3 wi hown1 hgrow1 hat hlt1;have HS3:Hid _:=Y1F (w:=w) (wr:=(wh.setCell ⟨K,1,none⟩ (.slice (some ⟨g2,0,none⟩) (k+1:Nat) cap2))) (K:=K) (i:=2) (x:=.slice (some ⟨g3,0,none⟩) (k+1:Nat) cap3) (b:=0) (by omega) (hKd▸B4.out) A4.out T3.out hgrow1;have HR3:Hid (RowF wi K 3 149 (cells3 ve (.slice (some ⟨g2,0,none⟩) (k+1:Nat) cap2) vs)):=HS3.out.2.2.1 _ _ _ R4.out;have HO3:Hid (wi.ownsRow (K+1) 158 4 (.slice (some ⟨g3,0,none⟩) (k+1:Nat) cap3) (k+1) (J6 k++[.int .i64 0,.int .i64 (-1),.int .i64 0,.bool false])):=hown1;have HN:Hid (Y0N w K z (k+1) (wi.setCell ⟨K,2,none⟩ (.slice (some ⟨g3,0,none⟩) (k+1:Nat) cap3))):=
         ⟨_,_,_,HS3.out.1,(HR3.out.set3 _).2.2,HS3.out.2.1 _ _ _ _ _ (by decide) T1.out,HS3.out.2.1 _ _ _ _ _ (by decide) T2.out,ownsRow_setCell_below HO3.out (by simp) _⟩
        clear q0 q0f q2;have q0:=HR3.out.at3.2.2;have q0f:=HR3.out.frozen 2;clear hown1 hgrow1 hat hlt1))
    exact ⟨⟨k+1,by omega,by go_num,HN⟩,by simp [intOf];omega⟩
  ·obtain rfl:k=n:=by omega
   clear hlt hk;go_wp2_with fail
   go_ret;exact ⟨_,rfl,by omega,_,_,_,hKd▸HBr.out,HRo.out,O1.out,O2.out,O3.out⟩
end Go.Proofs.YtdoghgnifkgfdaaGreat
