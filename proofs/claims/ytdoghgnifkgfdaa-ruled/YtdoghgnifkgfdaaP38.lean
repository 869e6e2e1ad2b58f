import Derived.Laws.ResultCell
import Derived.Laws.Rows
import Derived.Test.YtdoghgnifkgfdaaP08
import Derived.Test.YtdoghgnifkgfdaaP09
import Derived.Test.YtdoghgnifkgfdaaP13
import Derived.Test.YtdoghgnifkgfdaaP14
import Derived.Test.YtdoghgnifkgfdaaP37
set_option maxRecDepth 100000
set_option maxHeartbeats 16000000
namespace Go.Proofs.Ytdoghgnifkgfdaa.Mute
open Go Go.Conc Go.RowKit
theorem CallsR.ofPlain {w:World} {f:FuncId} {args:Array Value} {R':Value→World→Prop} (hen:EnterOk Try.prog plan f args) (R:Value→World→Prop) (hc:∀τ,Calls Try.prog f args (reW w τ 0) (fun e w'=>∃v,e=.returned v∧R v w')) (hR:∀v w₁ τ d d',R v (reW w₁ τ d)→R' v (reW w₁ w.tape d')):CallsR Try.prog f args w R':=
 (CallsR.of_calls plain no_stepOf hen R hc).mono fun v w' ⟨w₁,τ,d,d',h1,h2⟩=>by rw [h2];exact hR v w₁ τ d d' h1
theorem CallsR.ofBelow {w:World} {f:FuncId} {args:Array Value} (hen:EnterOk Try.prog plan f args) (Q:Value→World→Prop) (hc:∀τ,Calls Try.prog f args (reW w τ 0) (fun e w'=>∃v,e=.returned v∧Below w.heap.size (reW w τ 0) w'∧Q v w')) (hQ:∀v w₁ τ d d',Q v (reW w₁ τ d)→Q v (reW w₁ w.tape d')):CallsR Try.prog f args w (fun v w'=>Below w.heap.size w w'∧Q v w'):=by
 refine CallsR.ofPlain hen (fun v w'=>(w'.os=w.os∧w'.output=w.output∧w.heap.size≤w'.heap.size∧∀b,b<w.heap.size→w'.heap[b]?=w.heap[b]?)∧Q v w') (fun τ=>(hc τ).mono ?_) ?_
 ·rintro e w' ⟨v,rfl,h1,h2⟩;exact ⟨v,rfl,⟨h1.os,h1.output,h1.size,h1.block⟩,h2⟩
 ·rintro v w₁ τ d d' ⟨⟨h1,h2,h3,h4⟩,h5⟩;exact ⟨⟨h1,rfl,h2,h3,h4⟩,hQ v w₁ τ d d' h5⟩
end Go.Proofs.Ytdoghgnifkgfdaa.Mute
namespace Go.Proofs.Ytdoghgnifkgfdaa
open Go.RowKit
theorem row3_heap {w:World} {g t:Nat} {a b c:Value} (h:RowF w g 3 t (cells3 a b c)):w.heap[g]?=some (.cells #[a,b,c] t (0,0)):=by
 obtain ⟨cs,h1,h2,h3⟩:=h;rw [h1];congr 2;apply Array.ext
 ·simp [h2]
 ·intro j hj hj';have:=h3 j (by omega);rw [Array.getElem?_eq_getElem hj] at this;have e:=Option.some.inj this;rw [e];have:j=0∨j=1∨j=2:=by omega
  rcases this with rfl|rfl|rfl<;>rfl
theorem size_stats:(Try.prog.info? 58).map (·.size)=some 3:=by kernel_rfl
theorem results_cell_tmp_row {P:Program} {fn:Func} {p u:Tmp} {ty:TypeId} (h:fn.results=#[.cell p ty,.tmp u]) (tmps:Array Value) (w:World) (g:Nat) (t:TypeId) (cs:Array Value) (fr:Nat×Nat) (d:TypeDesc)
  (hp:tmps.getD p undef=.pointer (some ⟨g,0,none⟩)) (hg:w.heap[g]?=some (.cells cs t fr))
  (hu:P.underlying ty=some d) (hd:(match d with|.struct _|.array _ _=>true|_=>false)=true) (hi:(P.info? ty).map (·.size)=some cs.size):
  (results fn tmps).run P w=.ok (.tuple #[.agg cs,tmps.getD u undef]) w:=by
 have hp':tmps[p]?.getD undef=.pointer (some ⟨g,0,none⟩):=by simpa using hp
 rw [results_cell_tmp h];simp [hp',asAddr,run_loadVar_row w g t ty cs fr d hg hu hd hi,Result.andThen]
theorem has_any (kb nC cC:Nat) (q:Option Addr) (cell:Int) (w:World) (h2:w.cell? ⟨kb,2,none⟩=some (.slice q nC cC)):
  Calls Try.prog 52 #[.pointer (some ⟨kb,0,none⟩),.int .i64 cell] w fun e w'=>e=.returned (.bool (decide (0≤cell∧cell<nC)))∧w'=w:=by
 by_cases h0:0≤cell
 ·go_enter Try.func52,Try.ntmps52
  go_wp2_with fail
  go_ret;exact ⟨by congr 1;simp;omega,rfl⟩
 ·go_enter Try.func52,Try.ntmps52
  go_wp2_with fail
  go_ret;exact ⟨by congr 2;simp;omega,rfl⟩
theorem trace_yes (kb T nC cT cC cell m:Nat) (q:Option Addr) (v:Value) (tz:Nat→Int) (w:World) (h2:w.cell? ⟨kb,2,none⟩=some (.slice q nC cC)) (h4:w.cell? ⟨kb,4,none⟩=some (.slice (some ⟨T,0,none⟩) nC cT)) (ht:w.cell? ⟨T,cell,none⟩=some v)
  (hv:w.ownsRow 0 67 3 v m ((List.range (m*3)).map fun j=>.int .i64 (tz j))) (hc:cell<nC) (hb:24*m≤140737488355328):
  Calls Try.prog 31 #[.pointer (some ⟨kb,0,none⟩),.int .i64 cell] w fun e w'=>∃u,e=.returned (.tuple #[u,.int .i64 0])∧Below w.heap.size w w'∧w'.ownsRow w.heap.size 67 3 u m ((List.range (m*3)).map fun j=>.int .i64 (tz j)):=by
 have hd:decide (0≤(cell:Int)∧(cell:Int)<nC)=true:=by simp;omega
 have hli:(cell:Int)<(nC:Int):=by omega
 obtain ⟨p,cap,rfl,-,hz,hs⟩:=own_sl hv;have HS:Hid (Sl w p (m*3) fun j=>.int .i64 (tz j)):=hs;have HZ:Hid (p=none→m=0∧cap=0):=hz;clear hv hs hz
 go_enter Try.func31,Try.ntmps31
 go_wp2_with fail
 refine (has_any kb nC cC q cell _ h2).mono ?_;rintro e w1 ⟨rfl,rfl⟩;rw [hd];go_wp2_with fail
 refine (cloneEv_own p m cap tz _ HS.out HZ.out hb).mono ?_;rintro e w' ⟨u,rfl,h1,h2⟩;have H1:Hid _:=h1;have H2:Hid _:=h2;obtain ⟨pu,mu,cu,rfl⟩:=own_slice h2;clear h1 h2;go_wp2_with fail
 go_ret2
 exact ⟨_,rfl,H1.out,H2.out⟩
theorem cellMemory_any (g:Nat) (num:Int) (net code:Value) (z:Nat→Int) (w:World) (hr:RowF w g 48 163 (cellV num net code z)):
  Calls Try.prog 54 #[.pointer (some ⟨g,0,none⟩)] w fun e w'=>∃u,e=.returned u∧Below w.heap.size w w'∧w'.ownsRow w.heap.size 2 1 u 16 ((List.range 16).map fun j=>.int .i64 (z (29+j))):=by
 have HS:Hid (Sl w (some ⟨g,29,none⟩) (16*1) fun j=>.int .i64 (z (29+j))):=.inr ⟨g,29,rfl,fun j hj=>by
  rw [hr.cell (by omega)];unfold cellV;rw [if_neg (by omega),if_neg (by omega),if_neg (by omega)]⟩
 clear hr
 go_enter Try.func54,Try.ntmps54
 go_wp2_with fail
 refine (cloneNum_own (some ⟨g,29,none⟩) 16 16 (fun j=>z (29+j)) _ HS.out (fun h=>by cases h) (by omega)).mono ?_;rintro e w' ⟨u,rfl,h1,h2⟩;have H1:Hid _:=h1;have H2:Hid _:=h2;obtain ⟨pu,mu,cu,rfl⟩:=own_slice h2;clear h1 h2;go_wp2_with fail
 go_ret;exact ⟨_,rfl,H1.out,H2.out⟩
theorem memory_yes (kb C g nC cC cell:Nat) (num:Int) (net code:Value) (z:Nat→Int) (w:World) (h2:w.cell? ⟨kb,2,none⟩=some (.slice (some ⟨C,0,none⟩) nC cC)) (hp:w.cell? ⟨C,cell,none⟩=some (.pointer (some ⟨g,0,none⟩))) (hr:RowF w g 48 163 (cellV num net code z)) (hc:cell<nC):
  Calls Try.prog 32 #[.pointer (some ⟨kb,0,none⟩),.int .i64 cell] w fun e w'=>∃u,e=.returned (.tuple #[u,.int .i64 0])∧Below w.heap.size w w'∧w'.ownsRow w.heap.size 2 1 u 16 ((List.range 16).map fun j=>.int .i64 (z (29+j))):=by
 have hd:decide (0≤(cell:Int)∧(cell:Int)<nC)=true:=by simp;omega
 have hli:(cell:Int)<(nC:Int):=by omega
 have HR:Hid (RowF w g 48 163 (cellV num net code z)):=hr;clear hr
 go_enter Try.func32,Try.ntmps32
 go_wp2_with fail
 refine (has_any kb nC cC _ cell _ h2).mono ?_;rintro e w1 ⟨rfl,rfl⟩;rw [hd];go_wp2_with fail
 refine (cellMemory_any g num net code z _ HR.out).mono ?_;rintro e w' ⟨u,rfl,h1,h2⟩;have H1:Hid _:=h1;have H2:Hid _:=h2;obtain ⟨pu,mu,cu,rfl⟩:=own_slice h2;clear h1 h2;go_wp2_with fail
 go_ret2
 exact ⟨_,rfl,H1.out,H2.out⟩
theorem stopped_any (g:Nat) (a b:Int) (w:World) (h47:w.cell? ⟨g,47,none⟩=some (.int .i64 a)) (h3:w.cell? ⟨g,3,none⟩=some (.int .i64 b)):
  Calls Try.prog 67 #[.pointer (some ⟨g,0,none⟩)] w fun e w'=>e=.returned (.bool (decide (b<a)))∧w'=w.drew:=by
 go_enter Try.func67,Try.ntmps67
 go_wp2_with fail
 go_region_held3 (fun W=>W.cell? ⟨g,47,none⟩=some (.int .i64 a)∧W.cell? ⟨g,3,none⟩=some (.int .i64 b)) (go_keep) (fail)
 go_wp2_with fail
 go_ret;exact ⟨rfl,rfl⟩
theorem cellStats_any (g:Nat) (a b c:Int) (w:World) (h46:w.cell? ⟨g,46,none⟩=some (.int .i64 c)) (h47:w.cell? ⟨g,47,none⟩=some (.int .i64 a)) (h3:w.cell? ⟨g,3,none⟩=some (.int .i64 b)):
  Calls Try.prog 55 #[.pointer (some ⟨g,0,none⟩)] w fun e w'=>e=.returned (.agg #[.int .i64 c,.int .i64 a,.bool (decide (b<a))])∧Below w.heap.size w w':=by
 have HA:Hid (∀o,Below w.heap.size w (w.alloc o)):=fun o=>(Below.refl _ _).alloc (Nat.le_refl _) _;have hlt:g<w.heap.size:=block_lt_of_cell h46;have hne:g≠w.heap.size:=by omega
 have A47:Hid (∀o,(w.alloc o).cell? ⟨g,47,none⟩=some (.int .i64 a)):=fun o=>((HA.out o).cell (p:=⟨g,47,none⟩) hlt).trans h47;have A3:Hid (∀o,(w.alloc o).cell? ⟨g,3,none⟩=some (.int .i64 b)):=fun o=>((HA.out o).cell (p:=⟨g,3,none⟩) hlt).trans h3
 go_enter Try.func55,Try.ntmps55
 go_wp2_with fail
 go_region_held3 (fun W=>W.cell? ⟨g,46,none⟩=some (.int .i64 c)∧W.cell? ⟨g,47,none⟩=some (.int .i64 a)∧W.cell? ⟨g,3,none⟩=some (.int .i64 b)) (go_keep)
  (first
   |(go_at_call 67
     refine (stopped_any g a b _ (by exact A47.out _) (by exact A3.out _)).mono ?_;rintro e wl ⟨rfl,rfl⟩))
 go_wp2_with fail
 (try simp only [Exit.inBlock,Exit.then])
 refine bodyPost_ret (results_cell_row (P:=Try.prog) rfl _ _ w.heap.size 58 #[.int .i64 c,.int .i64 a,.bool (decide (b<a))] (0,0) _ rfl (by exact heap_alloc_new w _) Try.underlying58 rfl size_stats) rfl ?_;exact ⟨rfl,(HA.out _).drew.drew⟩
theorem stats_yes (kb C g nC cC cell:Nat) (num:Int) (net code:Value) (z:Nat→Int) (w:World) (h2:w.cell? ⟨kb,2,none⟩=some (.slice (some ⟨C,0,none⟩) nC cC)) (hp:w.cell? ⟨C,cell,none⟩=some (.pointer (some ⟨g,0,none⟩))) (hr:RowF w g 48 163 (cellV num net code z)) (hc:cell<nC):
  Calls Try.prog 33 #[.pointer (some ⟨kb,0,none⟩),.int .i64 cell] w fun e w'=>e=.returned (.tuple #[.agg #[.int .i64 (z 46),.int .i64 (z 47),.bool (decide (z 3<z 47))],.int .i64 0])∧Below w.heap.size w w':=by
 have hd:decide (0≤(cell:Int)∧(cell:Int)<nC)=true:=by simp;omega
 have hli:(cell:Int)<(nC:Int):=by omega
 have HA:Hid (∀o,Below w.heap.size w (w.alloc o)):=fun o=>(Below.refl _ _).alloc (Nat.le_refl _) _;have l2:kb<w.heap.size:=block_lt_of_cell h2;have lC:C<w.heap.size:=block_lt_of_cell hp;have A2:Hid (∀o,(w.alloc o).cell? ⟨kb,2,none⟩=some (.slice (some ⟨C,0,none⟩) nC cC)):=fun o=>((HA.out o).cell (p:=⟨kb,2,none⟩) l2).trans h2;have n2:kb≠w.heap.size:=by omega
 have nC':C≠w.heap.size:=by omega
 have HR:Hid (∀o,RowF (w.alloc o) g 48 163 (cellV num net code z)):=fun o=>hr.alloc o;clear hr
 go_enter Try.func33,Try.ntmps33
 go_wp2_with fail
 refine (has_any kb nC cC _ cell _ (A2.out _)).mono ?_;rintro e w1 ⟨rfl,rfl⟩;rw [hd];go_wp2_with fail
 refine (cellStats_any g (z 47) (z 3) (z 46) _ ((HR.out _).cell (by omega)) ((HR.out _).cell (by omega)) ((HR.out _).cell (by omega))).mono ?_;rintro e w' ⟨rfl,h1⟩;have H1:Hid (Below w.heap.size w w'):=(HA.out _).trans (h1.mono (by simp));have HW:Hid (RowF w' w.heap.size 3 58 (cells3 (.int .i64 0) (.int .i64 0) (.bool false))):=(row3 w _ _ _ _).of_heap (h1.block _ (by simp));have b0:=HW.out.at3.1;have b1:=HW.out.at3.2.1;have b2:=HW.out.at3.2.2;have f0:=HW.out.frozen 0;have f1:=HW.out.frozen 1;have f2:=HW.out.frozen 2;clear h1;go_wp2_with fail
 have HF:=row3_heap ((((HW.out.set3 (.int .i64 (z 46))).1.set3 (.int .i64 (z 47))).2.1.set3 (.bool (decide (z 3<z 47)))).2.2)
 (try simp only [Exit.inBlock,Exit.then])
 refine bodyPost_ret (results_cell_tmp_row (P:=Try.prog) rfl _ _ w.heap.size 58 #[.int .i64 (z 46),.int .i64 (z 47),.bool (decide (z 3<z 47))] (0,0) _ rfl (by exact HF) Try.underlying58 rfl size_stats) rfl ?_;exact ⟨rfl,((H1.out.setCell (by simp) _).setCell (by simp) _).setCell (by simp) _⟩
end Go.Proofs.Ytdoghgnifkgfdaa
namespace Go.Proofs.Ytdoghgnifkgfdaa.Mute
open Go Go.Conc Go.RowKit
theorem enterNew (x:Value):EnterOk Try.prog plan 21 #[x]:=⟨by kernel_rfl,slots_noSlots plain Try.func21 (by kernel_rfl) _⟩
theorem enterTrace (x y:Value):EnterOk Try.prog plan 31 #[x,y]:=⟨by kernel_rfl,slots_noSlots plain Try.func31 (by kernel_rfl) _⟩
theorem enterMemory (x y:Value):EnterOk Try.prog plan 32 #[x,y]:=⟨by kernel_rfl,slots_noSlots plain Try.func32 (by kernel_rfl) _⟩
theorem enterStats (x y:Value):EnterOk Try.prog plan 33 #[x,y]:=⟨by kernel_rfl,slots_noSlots plain Try.func33 (by kernel_rfl) _⟩
structure Of (c:Cfg) (k:Ker) (N:NetK) (t:Tab):Prop where
 nC:k.nC=c.nC
 n:k.n=c.nCode
 ci:k.ci=c.code
 num:∀i,k.num i=i
 nk:N.k=c.nCh
 fr:∀i,N.fr i=c.ch (i*3+1)
 to_:∀i,N.to_ i=c.ch (i*3+2)
 nT:t.nT=c.nT
 nw:t.nw=c.nRow
 wn:t.wn=wnOf c
theorem new_calls {c:Cfg} {v0 v1 v2 v3:Value} {w:World} (h:CfgR w v0 v1 v2 v3 c) (hw:CfgW c) (hrn:∀i,i<c.nT→c.rowN i=false) (hck:CheckIs c 0 0):
  CallsR Try.prog 21 #[.agg #[v0,v1,v2,v3]] w (fun v w'=>Below w.heap.size w w'∧∃k N t f,v=.tuple #[.pointer (some ⟨k.kb,0,none⟩),.int .i64 0,.int .i64 0]∧Of c k N t∧KFullQ w' k N t (sq0 c) f (fun _=>none) 0 (fun b=>w.heap.size≤b∧b<w'.heap.size)):=by
 refine (CallsR.ofBelow (enterNew _) (fun v w'=>∃K nb vt tr,v=.tuple #[.pointer (some ⟨K,0,none⟩),.int .i64 0,.int .i64 0]∧w.heap.size<K∧KM2 c w.heap.size K nb vt tr w') (fun τ=>(new_exact c v0 v1 v2 v3 (reW w τ 0) (h.keep fun a v hv=>hv) hw hrn).mono ?_) ?_).mono ?_
 ·rintro e w' ⟨k,x,y,rfl,hc,hb,hk⟩;obtain ⟨rfl,rfl⟩:=hc.uniq hck;rcases hk with hk|⟨_,K,nb,v,tr,rfl,hK,u,xs,_,h4⟩
  ·exact absurd rfl hk.1
  ·exact ⟨_,rfl,hb,K,nb,v,tr,rfl,hK,u,xs,h4⟩
 ·rintro v w₁ τ d d' h;exact h
 ·rintro v w' ⟨hb,K,nb,vt,tr,rfl,hK,hm⟩;refine ⟨hb,?_⟩;obtain ⟨k,N,t,f,h1,rfl,h2,h3,h4,h5,h6,h7,h8,h9,h10,h11⟩:=kfullQ_of hm (by omega) hck;exact ⟨k,N,t,f,rfl,⟨h2,h3,h4,h5,h6,h7,h8,h9,h10,h11⟩,h1⟩
section
variable {w:World} {k:Ker} {K:NetK} {t:Tab} {s:KSq} {f:Nat→Value} {lr:Nat→Option Row} {r:Nat} {S:Nat→Prop} {cell:Nat}
theorem KFullQ.trace (h:KFullQ w k K t s f lr r S) (hc:cell<k.nC) {tz:Nat→Int} (hx:s.xs cell=(List.range (s.m cell*3)).map fun j=>.int .i64 (tz j)) (hm:s.m cell≤1000000000):
  CallsR Try.prog 31 #[.pointer (some ⟨k.kb,0,none⟩),.int .i64 cell] w (fun v w'=>Below w.heap.size w w'∧∃u,v=.tuple #[u,.int .i64 0]∧w'.ownsRow w.heap.size 67 3 u (s.m cell) ((List.range (s.m cell*3)).map fun j=>.int .i64 (tz j))):=by
 have ho:=h.dyn.own cell hc;rw [hx] at ho;refine CallsR.ofBelow (enterTrace _ _) (fun v w'=>∃u,v=.tuple #[u,.int .i64 0]∧w'.ownsRow w.heap.size 67 3 u (s.m cell) ((List.range (s.m cell*3)).map fun j=>.int .i64 (tz j))) (fun τ=>(trace_yes k.kb k.T k.nC k.nC k.cC cell (s.m cell) _ (f cell) tz (reW w τ 0) h.sta.k2 h.sta.k4 (h.dyn.tr.cell hc) ho hc (by omega)).mono ?_) fun v w₁ τ d d' h=>h;rintro e w' ⟨u,rfl,h1,h2⟩;exact ⟨_,rfl,h1,u,rfl,h2⟩
theorem KFullQ.memory (h:KFullQ w k K t s f lr r S) (hc:cell<k.nC):
  CallsR Try.prog 32 #[.pointer (some ⟨k.kb,0,none⟩),.int .i64 cell] w (fun v w'=>Below w.heap.size w w'∧∃u,v=.tuple #[u,.int .i64 0]∧w'.ownsRow w.heap.size 2 1 u 16 ((List.range 16).map fun j=>.int .i64 (s.z cell (29+j)))):=by
 refine CallsR.ofBelow (enterMemory _ _) (fun v w'=>∃u,v=.tuple #[u,.int .i64 0]∧w'.ownsRow w.heap.size 2 1 u 16 ((List.range 16).map fun j=>.int .i64 (s.z cell (29+j)))) (fun τ=>(memory_yes k.kb k.C (k.g cell) k.nC k.cC cell _ _ _ (s.z cell) (reW w τ 0) h.sta.k2 (h.sta.cl cell hc) (h.dyn.row cell hc) hc).mono ?_) fun v w₁ τ d d' h=>h;rintro e w' ⟨u,rfl,h1,h2⟩;exact ⟨_,rfl,h1,u,rfl,h2⟩
theorem KFullQ.stats (h:KFullQ w k K t s f lr r S) (hc:cell<k.nC):
  CallsR Try.prog 33 #[.pointer (some ⟨k.kb,0,none⟩),.int .i64 cell] w (fun v w'=>Below w.heap.size w w'∧v=.tuple #[.agg #[.int .i64 (s.z cell 46),.int .i64 (s.z cell 47),.bool (decide (s.z cell 3<s.z cell 47))],.int .i64 0]):=by
 refine CallsR.ofBelow (enterStats _ _) (fun v _=>v=.tuple #[.agg #[.int .i64 (s.z cell 46),.int .i64 (s.z cell 47),.bool (decide (s.z cell 3<s.z cell 47))],.int .i64 0]) (fun τ=>(stats_yes k.kb k.C (k.g cell) k.nC k.cC cell _ _ _ (s.z cell) (reW w τ 0) h.sta.k2 (h.sta.cl cell hc) (h.dyn.row cell hc) hc).mono ?_) fun v w₁ τ d d' h=>h;rintro e w' ⟨rfl,h1⟩;exact ⟨_,rfl,h1,rfl⟩
end
def prgC (c:Cfg) (ins:List (Int×Int)) (i:Nat):Prg:=⟨c.nCode i,c.code i,i,fun j=>c.ch (j*3+1),ins⟩
def winC (c:Cfg) (ins:List (Int×Int)) (p:Nat×Nat) (s:KSq):KSq:=
 ⟨updN s.z p.1 (windowQ (prgC c ins p.1) p.2 (s.z p.1) s.D).2.1,updN s.m p.1 (s.m p.1+(windowQ (prgC c ins p.1) p.2 (s.z p.1) s.D).1.length),updN s.xs p.1 (s.xs p.1++(windowQ (prgC c ins p.1) p.2 (s.z p.1) s.D).1.flatMap evCells),(windowQ (prgC c ins p.1) p.2 (s.z p.1) s.D).2.2⟩
def rowC (c:Cfg) (ins:List (Int×Int)) (wn:Nat→Nat×Nat):Nat→Nat→KSq→KSq
 |0,_,s=>s
 |rem+1,j,s=>rowC c ins wn rem (j+1) (winC c ins (wn j) s)
def frameC (c:Cfg) (r:Nat) (ins:List (Int×Int)) (s:KSq):KSq:=
 {rowC c ins (wnOf c r) (c.nRow r) 0 s with D:=endC c.nCh (rowC c ins (wnOf c r) (c.nRow r) 0 s).D}
section
variable {c:Cfg} {k:Ker} {N:NetK} {t:Tab} {ins:List (Int×Int)}
theorem Of.prg (h:Of c k N t) (i:Nat):prgOf k N ins i=prgC c ins i:=by
 unfold prgOf prgC;rw [h.n,h.ci,h.num,show N.fr=fun j=>c.ch (j*3+1) from funext h.fr]
theorem Of.row (h:Of c k N t) (wn:Nat→Nat×Nat):∀(rem j:Nat) (s:KSq),rowQs k N ins wn rem j s=rowC c ins wn rem j s
 |0,_,_=>rfl
 |rem+1,j,s=>by
  show rowQs k N ins wn rem (j+1) (winQ k N ins (wn j) s)=rowC c ins wn rem (j+1) (winC c ins (wn j) s);have e:winQ k N ins (wn j) s=winC c ins (wn j) s:=by unfold winQ winC;rw [h.prg]
  rw [e,h.row wn rem (j+1)]
theorem Of.frame (h:Of c k N t) (r:Nat) (s:KSq):frameQ k N (t.wn r) (t.nw r) ins s=frameC c r ins s:=by
 unfold frameQ frameC;rw [h.row,h.wn,h.nw,h.nk]
end
end Go.Proofs.Ytdoghgnifkgfdaa.Mute
namespace Go.Proofs.Ytdoghgnifkgfdaa
open Go.RowKit
structure Pl where
 nC:Nat→Nat
 code:Nat→Nat→Int
 lim:Nat→Int
 img:Nat→Int
 nW:Nat
 ways:Nat→Int
 nD:Nat
 devs:Nat→Int
def pk (c:Int) (n:Nat):Nat:=((if c<0 then -(c+1) else c) % (n:Int)).toNat
theorem pk_lt (c:Int) {n:Nat} (h:0<n):pk c n<n:=by
 unfold pk;have h1:=Int.emod_nonneg (if c<0 then -(c+1) else c) (show (n:Int)≠0 by omega);have h2:=Int.emod_lt_of_pos (if c<0 then -(c+1) else c) (show (0:Int)<n by omega);omega
def wayN (x j:Nat):Nat:=if j=0 then 1+x % 2 else if j=1 then x / 2 % 4 else (x / 2 % 4+1+x / 2 / 4) % 4
def plCh (P:Pl) (j:Nat):Int:=wayN (pk (P.ways (j / 3)) 24) (j % 3)
def plK (P:Pl):Nat:=min P.nW 8
def plDv (P:Pl) (j:Nat):Int:=pk (P.devs j) 4
def plD (P:Pl):Nat:=min P.nD 4
def fitsF (k:Nat) (ch:Nat→Int) (n kind cell:Int) (e:Nat):Nat→Nat→Int
 |0,_=>-1
 |rem+1,i=>if ch ((pk n k+i) % k*3)=kind∧ch ((pk n k+i) % k*3+e)=cell then (((pk n k+i) % k:Nat):Int) else fitsF k ch n kind cell e rem (i+1)
def devF (dv:Nat→Int) (cell:Int):Nat→Int
 |0=>-1
 |m+1=>if dv m=cell then (m:Int) else devF dv cell m
def insN (k:Nat) (ch:Nat→Int) (nd:Nat) (dv:Nat→Int) (cell words op:Nat) (n:Int):Int:=
 if op=8∨op=9 then (pk n words:Int) else if op=10 then fitsF k ch n 1 cell 1 k 0 else if op=11 then fitsF k ch n 2 cell 1 k 0 else if op=12∨op=16 then fitsF k ch n 1 cell 2 k 0 else if op=13 then fitsF k ch n 2 cell 2 k 0 else devF dv cell nd
def isKey (op:Nat):Prop:=op=8∨op=9∨op=10∨op=11∨op=12∨op=16∨op=13∨op=14
instance (op:Nat):Decidable (isKey op):=by unfold isKey;infer_instance
def insF (k:Nat) (ch:Nat→Int) (nd:Nat) (dv:Nat→Int) (cell words:Nat) (o r a n:Int) (j:Nat):Int:=
 if isKey (pk o 17)∧insN k ch nd dv cell words (pk o 17) n<0 then 0
 else if j=0 then (pk o 17:Int) else if j=1 then (pk r 4:Int) else if j=2 then (pk a 4:Int) else if isKey (pk o 17) then insN k ch nd dv cell words (pk o 17) n else n
def plN (P:Pl) (i:Nat):Nat:=min (P.nC i) 47
def plCode (k:Nat) (ch:Nat→Int) (nd:Nat) (dv:Nat→Int) (P:Pl) (i j:Nat):Int:=
 if j / 4<plN P i then insF k ch nd dv i (plN P i+1) (P.code i (j / 4*4)) (P.code i (j / 4*4+1)) (P.code i (j / 4*4+2)) (P.code i (j / 4*4+3)) (j % 4)
 else if j % 4=0 then 8 else 0
def tabN (i:Nat):Nat:=if i=1 then 3 else 4
def tabL (i:Nat):List Int:=if i=0 then [0,9,1,14,2,3,3,20] else if i=1 then [3,5,1,1,0,30] else [2,40,0,2,3,7,2,6]
def cfgP (P:Pl) (Q:Nat→Pl):Cfg where
 cellsN:=false
 nC:=4
 lim:=fun i=>(pk ((Q i).lim i) 6:Int)
 codeN:=fun _=>false
 nCode:=fun i=>plN (Q i) i+1
 code:=fun i=>plCode (plK P) (plCh P) (plD P) (plDv P) (Q i) i
 imgN:=fun _=>false
 nImg:=fun _=>2
 img:=fun i j=>if j=0 then (Q i).img i else 3
 tableN:=false
 nT:=3
 rowN:=fun _=>false
 nRow:=tabN
 row:=fun i j=>(tabL i).getD j 0
 chN:=decide (P.nW=0)
 nCh:=plK P
 ch:=plCh P
 dvN:=decide (P.nD=0)
 nD:=plD P
 dv:=plDv P
theorem wayN_ok (x:Nat) (hx:x<24):(wayN x 0=1∨wayN x 0=2)∧wayN x 1<4∧wayN x 2<4∧wayN x 1≠wayN x 2:=by
 unfold wayN;simp only [if_true];refine ⟨by omega,by simp;omega,by simp;omega,by simp;omega⟩
theorem plCh_ok (P:Pl) (Q:Nat→Pl) (i:Nat):ChOk (cfgP P Q) i:=by
 have h:=wayN_ok (pk (P.ways i) 24) (pk_lt _ (by omega));have e0:(cfgP P Q).ch (i*3)=wayN (pk (P.ways i) 24) 0:=by show (wayN (pk (P.ways (i*3 / 3)) 24) (i*3 % 3):Int)=_;rw [show i*3 / 3=i by omega,show i*3 % 3=0 by omega]
 have e1:(cfgP P Q).ch (i*3+1)=wayN (pk (P.ways i) 24) 1:=by show (wayN (pk (P.ways ((i*3+1) / 3)) 24) ((i*3+1) % 3):Int)=_;rw [show (i*3+1) / 3=i by omega,show (i*3+1) % 3=1 by omega]
 have e2:(cfgP P Q).ch (i*3+2)=wayN (pk (P.ways i) 24) 2:=by show (wayN (pk (P.ways ((i*3+2) / 3)) 24) ((i*3+2) % 3):Int)=_;rw [show (i*3+2) / 3=i by omega,show (i*3+2) % 3=2 by omega]
 unfold ChOk;rw [e0,e1,e2];have hn:(cfgP P Q).nC=4:=rfl;rw [hn];generalize wayN (pk (P.ways i) 24) 0=a at *;generalize wayN (pk (P.ways i) 24) 1=b at *;generalize wayN (pk (P.ways i) 24) 2=d at *;refine ⟨?_,⟨by omega,by omega⟩,⟨by omega,by omega⟩,by omega⟩;rcases h.1 with h|h<;>omega
theorem fitsF_ok {k:Nat} {ch:Nat→Int} {n kind cell:Int} {e:Nat} (hk:0<k):∀(rem i:Nat),0≤fitsF k ch n kind cell e rem i→∃x:Nat,fitsF k ch n kind cell e rem i=x∧x<k∧ch (x*3)=kind∧ch (x*3+e)=cell
 |0,_,h=>by simp [fitsF] at h
 |rem+1,i,h=>by
  unfold fitsF at h ⊢;split
  ·rename_i hc
   exact ⟨_,rfl,Nat.mod_lt _ hk,hc.1,hc.2⟩
  ·rename_i hc
   rw [if_neg hc] at h;exact fitsF_ok hk rem (i+1) h
theorem devF_ok {dv:Nat→Int} {cell:Int}:∀m,0≤devF dv cell m→∃x:Nat,devF dv cell m=x∧x<m∧dv x=cell
 |0,h=>by simp [devF] at h
 |m+1,h=>by
  unfold devF at h ⊢;split
  ·rename_i hc
   exact ⟨m,rfl,by omega,hc⟩
  ·rename_i hc
   rw [if_neg hc] at h;obtain ⟨x,h1,h2,h3⟩:=devF_ok m h;exact ⟨x,h1,by omega,h3⟩
theorem insF_ok (P:Pl) (Q:Nat→Pl) (cell:Nat) (o r a n:Int) (words:Nat) (hw:0<words):InsOk (cfgP P Q) cell words (insF (plK P) (plCh P) (plD P) (plDv P) cell words o r a n 0) (insF (plK P) (plCh P) (plD P) (plDv P) cell words o r a n 1) (insF (plK P) (plCh P) (plD P) (plDv P) cell words o r a n 2) (insF (plK P) (plCh P) (plD P) (plDv P) cell words o r a n 3):=by
 have ho:=pk_lt o (show 0<17 by omega);have hr:=pk_lt r (show 0<4 by omega);have ha:=pk_lt a (show 0<4 by omega);have hpw:=pk_lt n hw;unfold insF;by_cases hz:isKey (pk o 17)∧insN (plK P) (plCh P) (plD P) (plDv P) cell words (pk o 17) n<0
 ·simp only [if_pos hz];unfold InsOk;simp
 ·simp only [if_neg hz,if_true];have e1:¬(1=0):=by omega
  have e2:¬(2=0)∧¬(2=1):=by omega
  have e3:¬(3=0)∧¬(3=1)∧¬(3=2):=by omega
  simp only [if_neg e1,if_neg e2.1,if_neg e2.2,if_neg e3.1,if_neg e3.2.1,if_neg e3.2.2];generalize hop:pk o 17=op at *;clear hop;have fits:∀(kind:Int) (e:Nat),0≤fitsF (plK P) (plCh P) n kind cell e (plK P) 0→UseOk (cfgP P Q) cell (fitsF (plK P) (plCh P) n kind cell e (plK P) 0) kind e:=fun kind e h=>by
   by_cases hk:0<plK P
   ·obtain ⟨x,h1,h2,h3,h4⟩:=fitsF_ok hk _ _ h;rw [h1];exact ⟨by omega,by show (x:Int)<(plK P:Int);omega,by show plCh P ((x:Int).toNat*3)=kind;simpa using h3,by show plCh P ((x:Int).toNat*3+e)=cell;simpa using h4⟩
   ·have h0:plK P=0:=by omega
    rw [h0] at h;simp [fitsF] at h
  have pos:isKey op→0≤insN (plK P) (plCh P) (plD P) (plDv P) cell words op n:=fun hk=>by
   rcases Int.lt_or_le (insN (plK P) (plCh P) (plD P) (plDv P) cell words op n) 0 with h|h
   ·exact absurd ⟨hk,h⟩ hz
   ·exact h
  refine ⟨⟨by omega,by omega⟩,⟨by omega,by omega⟩,⟨by omega,by omega⟩,fun h=>?_,fun h=>?_,fun h=>?_,fun h=>?_,fun h=>?_,fun h=>?_⟩
  ·have hk:op=8∨op=9:=by omega
   have hK:isKey op:=by unfold isKey;omega
   rw [if_pos hK];unfold insN;rw [if_pos hk];exact ⟨by omega,by omega⟩
  ·obtain rfl:op=10:=by omega
   have hp:=pos (by unfold isKey;omega);rw [if_pos (show isKey 10 by decide)];exact fits 1 1 hp
  ·obtain rfl:op=11:=by omega
   have hp:=pos (by unfold isKey;omega);rw [if_pos (show isKey 11 by decide)];exact fits 2 1 hp
  ·have:op=12∨op=16:=by omega
   rcases this with rfl|rfl
   ·have hp:=pos (by unfold isKey;omega);rw [if_pos (show isKey 12 by decide)];exact fits 1 2 hp
   ·have hp:=pos (by unfold isKey;omega);rw [if_pos (show isKey 16 by decide)];exact fits 1 2 hp
  ·obtain rfl:op=13:=by omega
   have hp:=pos (by unfold isKey;omega);rw [if_pos (show isKey 13 by decide)];exact fits 2 2 hp
  ·obtain rfl:op=14:=by omega
   have hp:0≤devF (plDv P) cell (plD P):=pos (by unfold isKey;omega);rw [if_pos (show isKey 14 by decide)];obtain ⟨x,h1,h2,h3⟩:=devF_ok _ hp;show 0≤devF (plDv P) cell (plD P)∧devF (plDv P) cell (plD P)<(plD P:Int)∧plDv P (devF (plDv P) cell (plD P)).toNat=cell;rw [h1];exact ⟨by omega,by omega,by simpa using h3⟩
theorem cfgP_ok (P:Pl) (Q:Nat→Pl):CheckIs (cfgP P Q) 0 0:=by
 have h1:NCok (cfgP P Q):=⟨by show 1≤4;omega,by show 4≤6;omega⟩;have h2:NTok (cfgP P Q):=⟨by show 1≤3;omega,by show 3≤8;omega⟩;have h3:AllOk (RowAt (cfgP P Q)) (cfgP P Q).nT:=fun i hi=>by
  have hi:i<3:=hi;show RowOk 4 (tabN i) (fun j=>(tabL i).getD j 0);have:i=0∨i=1∨i=2:=by omega
  rcases this with rfl|rfl|rfl
  ·refine ⟨by decide,fun j hj=>?_,by decide⟩;have hj:j<4:=hj;have:j=0∨j=1∨j=2∨j=3:=by omega
   rcases this with rfl|rfl|rfl|rfl<;>exact ⟨by decide,by decide,by decide⟩
  ·refine ⟨by decide,fun j hj=>?_,by decide⟩;have hj:j<3:=hj;have:j=0∨j=1∨j=2:=by omega
   rcases this with rfl|rfl|rfl<;>exact ⟨by decide,by decide,by decide⟩
  ·refine ⟨by decide,fun j hj=>?_,by decide⟩;have hj:j<4:=hj;have:j=0∨j=1∨j=2∨j=3:=by omega
   rcases this with rfl|rfl|rfl|rfl<;>exact ⟨by decide,by decide,by decide⟩
 have h4:(cfgP P Q).nCh≤8:=by show min P.nW 8≤8;omega
 have h5:AllOk (ChOk (cfgP P Q)) (cfgP P Q).nCh:=fun i _=>plCh_ok P Q i;have h6:(cfgP P Q).nD≤4:=by show min P.nD 4≤4;omega
 have h7:AllOk (DvOk (cfgP P Q)) (cfgP P Q).nD:=fun i _=>by
  have:=pk_lt (P.devs i) (show 0<4 by omega);exact ⟨by show (0:Int)≤(pk (P.devs i) 4:Int);omega,by show (pk (P.devs i) 4:Int)<(4:Nat);omega⟩
 have h8:AllOk (CellOk (cfgP P Q)) (cfgP P Q).nC:=fun i hi=>by
  have hl:=pk_lt ((Q i).lim i) (show 0<6 by omega);have hn:plN (Q i) i≤47:=by unfold plN;omega
  refine ⟨⟨by show (0:Int)≤(pk _ 6:Int);omega,by show (pk _ 6:Int)≤5;omega⟩,by show 2≤16;omega,⟨by show 1≤plN (Q i) i+1;omega,by show plN (Q i) i+1≤48;omega⟩,fun k hk=>?_⟩;have hk:k<plN (Q i) i+1:=hk;have ec:∀j,(cfgP P Q).code i j=plCode (plK P) (plCh P) (plD P) (plDv P) (Q i) i j:=fun _=>rfl;unfold InsAt;rw [ec,ec,ec,ec];unfold plCode;rw [show k*4 / 4=k by omega,show (k*4+1) / 4=k by omega,show (k*4+2) / 4=k by omega,show (k*4+3) / 4=k by omega,show k*4 % 4=0 by omega,show (k*4+1) % 4=1 by omega,show (k*4+2) % 4=2 by omega,show (k*4+3) % 4=3 by omega];by_cases hlt:k<plN (Q i) i
  ·simp only [if_pos hlt];exact insF_ok P Q i _ _ _ _ (plN (Q i) i+1) (by omega)
  ·simp only [if_neg hlt,if_true];unfold InsOk;simp;show 0<plN (Q i) i+1;omega
 unfold CheckIs;exact .inr (.inr (.inr (.inr (.inr (.inr (.inr (.inr ⟨h1,h2,h3,h4,h5,h6,h7,h8,rfl,rfl⟩)))))))
end Go.Proofs.Ytdoghgnifkgfdaa
namespace Go.Proofs.Ytdoghgnifkgfdaa.Mute
open Go Go.Conc Go.RowKit
structure Sh where
 n:Nat
 m:Nat→Nat
 z:Nat→Nat→Int
def insS (S:Sh) (i:Nat):List (Int×Int):=(List.range (min (S.m i) 4)).map fun d:Nat=>((d:Int),S.z i d)
def frS (c:Cfg) (I:Nat→List (Int×Int)):Nat→KSq
 |0=>sq0 c
 |i+1=>frameC c (i % c.nT) (I i) (frS c I i)
section
variable {c:Cfg} {ins:List (Int×Int)} {p:Nat×Nat} {s:KSq} {wn:Nat→Nat×Nat}
theorem winC_m (i:Nat):(winC c ins p s).m i≤s.m i+(p.2+1):=by
 show updN s.m p.1 _ i≤_;by_cases e:i=p.1
 ·subst e;rw [updN_same];have:=(windowQ_ev (prgC c ins p.1) p.2 (s.z p.1) s.D).2;omega
 ·rw [updN_ne _ _ e];omega
theorem rowC_m {B:Nat}:∀(rem j:Nat) (s:KSq),(∀i,j≤i→i<j+rem→(wn i).2≤B)→∀i,(rowC c ins wn rem j s).m i≤s.m i+rem*(B+1)
 |0,_,_,_,i=>by simp [rowC]
 |rem+1,j,s,h,i=>by
  have h1:=rowC_m rem (j+1) (winC c ins (wn j) s) (fun i a b=>h i (by omega) (by omega)) i;have h2:=winC_m (c:=c) (ins:=ins) (p:=wn j) (s:=s) i;have h3:=h j (Nat.le_refl _) (by omega);show (rowC c ins wn rem (j+1) (winC c ins (wn j) s)).m i≤_;rw [Nat.add_mul,Nat.one_mul];omega
end
section
variable (c:Cfg) (I:Nat→List (Int×Int))
def TabOk:Prop:=0<c.nT∧∀r,r<c.nT→c.nRow r≤6∧∀j,j<c.nRow r→(wnOf c r j).2≤200
variable {c}
theorem frS_m (h:TabOk c):∀i x,(frS c I i).m x≤i*1206
 |0,_=>Nat.zero_le _
 |i+1,x=>by
  have h1:=frS_m h i x;obtain ⟨h2,h3⟩:=h.2 (i % c.nT) (Nat.mod_lt _ h.1);have h4:=rowC_m (c:=c) (ins:=I i) (wn:=wnOf c (i % c.nT)) (B:=200) (c.nRow (i % c.nT)) 0 (frS c I i) (fun j _ hj=>h3 j (by omega)) x;show (rowC c (I i) (wnOf c (i % c.nT)) (c.nRow (i % c.nT)) 0 (frS c I i)).m x≤_;have h5:c.nRow (i % c.nT)*(200+1)≤6*201:=Nat.mul_le_mul_right _ h2;omega
end
theorem tab_ok (P:Pl) (Q:Nat→Pl):TabOk (cfgP P Q):=by
 refine ⟨by show 0<3;omega,fun r hr=>?_⟩;have hr:r<3:=hr;have:r=0∨r=1∨r=2:=by omega
 rcases this with rfl|rfl|rfl
 ·refine ⟨by show 4≤6;omega,fun j hj=>?_⟩;have hj:j<4:=hj;show (((tabL 0).getD (j*2+1) 0).toNat)≤200;have:j=0∨j=1∨j=2∨j=3:=by omega
  rcases this with rfl|rfl|rfl|rfl<;>decide
 ·refine ⟨by show 3≤6;omega,fun j hj=>?_⟩;have hj:j<3:=hj;show (((tabL 1).getD (j*2+1) 0).toNat)≤200;have:j=0∨j=1∨j=2:=by omega
  rcases this with rfl|rfl|rfl<;>decide
 ·refine ⟨by show 4≤6;omega,fun j hj=>?_⟩;have hj:j<4:=hj;show (((tabL 2).getD (j*2+1) 0).toNat)≤200;have:j=0∨j=1∨j=2∨j=3:=by omega
  rcases this with rfl|rfl|rfl|rfl<;>decide
theorem fitsF_le {k:Nat} {ch:Nat→Int} {n kind cell:Int} {e i:Nat} (hk:k≤8):fitsF k ch n kind cell e k i≤100:=by
 rcases Int.lt_or_le (fitsF k ch n kind cell e k i) 0 with h|h
 ·omega
 ·by_cases h0:0<k
  ·obtain ⟨x,h1,h2,_⟩:=fitsF_ok h0 _ _ h;omega
  ·obtain rfl:k=0:=by omega
   simp [fitsF]
theorem insF_bd {k nd cell words:Nat} {ch dv:Nat→Int} {o r a n:Int} (hk:k≤8) (hnd:nd≤4) (hw:words≤48) (hw0:0<words) (hn:-9223372036854775808≤n∧n≤9223372036854775807) (j:Nat):-9223372036854775808≤insF k ch nd dv cell words o r a n j∧insF k ch nd dv cell words o r a n j≤9223372036854775807:=by
 have h1:=pk_lt o (show 0<17 by omega);have h2:=pk_lt r (show 0<4 by omega);have h3:=pk_lt a (show 0<4 by omega);have h4:=pk_lt n hw0;unfold insF;split
 ·omega
 ·rename_i hz
  split
  ·omega
  ·split
   ·omega
   ·split
    ·omega
    ·split
     ·rename_i hkey
      have h0:0≤insN k ch nd dv cell words (pk o 17) n:=by
       rcases Int.lt_or_le (insN k ch nd dv cell words (pk o 17) n) 0 with h|h
       ·exact absurd ⟨hkey,h⟩ hz
       ·exact h
      have h5:insN k ch nd dv cell words (pk o 17) n≤100:=by
       unfold insN;have h6:=fun kind e=>fitsF_le (ch:=ch) (n:=n) (kind:=kind) (cell:=cell) (e:=e) (i:=0) hk;have h7:devF dv cell nd≤100:=by
        rcases Int.lt_or_le (devF dv cell nd) 0 with h|h
        ·omega
        ·obtain ⟨x,e1,e2,_⟩:=devF_ok _ h;omega
       split
       ·omega
       ·split
        ·exact h6 _ _
        ·split
         ·exact h6 _ _
         ·split
          ·exact h6 _ _
          ·split
           ·exact h6 _ _
           ·exact h7
      omega
     ·exact hn
theorem cfgP_W (P:Pl) (Q:Nat→Pl) (h:∀i,i<4→∀j,j<(Q i).nC i*4→-9223372036854775808≤(Q i).code i j∧(Q i).code i j≤9223372036854775807):CfgW (cfgP P Q):=fun i hi j hj=>by
 have hi:i<4:=hi;have hk:plK P≤8:=by unfold plK;omega
 have hd:plD P≤4:=by unfold plD;omega
 have hN:plN (Q i) i≤47∧plN (Q i) i≤(Q i).nC i:=by unfold plN;omega
 show -9223372036854775808≤plCode (plK P) (plCh P) (plD P) (plDv P) (Q i) i j∧plCode (plK P) (plCh P) (plD P) (plDv P) (Q i) i j≤9223372036854775807;unfold plCode;split
 ·exact insF_bd hk hd (by omega) (by omega) (h i hi (j / 4*4+3) (by omega)) _
 ·split<;>omega
end Go.Proofs.Ytdoghgnifkgfdaa.Mute
