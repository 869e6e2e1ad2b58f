import Derived.Laws.ResultCell
import Derived.Laws.Rows
import Derived.Test.YtdoghgnifkgfdaaP07
import Derived.Test.YtdoghgnifkgfdaaP08
import Derived.Test.YtdoghgnifkgfdaaP10
import Derived.Test.YtdoghgnifkgfdaaP14
import Derived.Test.YtdoghgnifkgfdaaP17
import Derived.Test.YtdoghgnifkgfdaaP40
set_option maxRecDepth 100000
set_option maxHeartbeats 16000000
namespace Go.Proofs.Ytdoghgnifkgfdaa.Mute
open Go Go.Conc Go.RowKit
theorem CallsR.ofPlain {w:World} {f:FuncId} {args:Array Value} {R':Value→World→Prop} (hen:EnterOk Try.prog plan f args) (R:Value→World→Prop) (hc:∀τ,Calls Try.prog f args (reW w τ 0) (fun e w'=>∃v,e=.returned v∧R v w')) (hR:∀v w₁ τ d d',R v (reW w₁ τ d)→R' v (reW w₁ w.tape d')):CallsR Try.prog f args w R':=
 (CallsR.of_calls plain no_stepOf hen R hc).mono fun v w' ⟨w₁,τ,d,d',h1,h2⟩=>by rw [h2];exact hR v w₁ τ d d' h1
theorem CallsR.ofBelow {w:World} {f:FuncId} {args:Array Value} (hen:EnterOk Try.prog plan f args) (Q:Value→World→Prop) (hc:∀τ,Calls Try.prog f args (reW w τ 0) (fun e w'=>∃v,e=.returned v∧Below w.heap.size (reW w τ 0) w'∧Q v w')) (hQ:∀v w₁ τ d d',Q v (reW w₁ τ d)→Q v (reW w₁ w.tape d')):CallsR Try.prog f args w (fun v w'=>Below w.heap.size w w'∧Q v w'):=by
 refine CallsR.ofPlain hen (fun v w'=>(w'.os=w.os∧w'.output=w.output∧w.heap.size≤w'.heap.size∧∀b,b<w.heap.size→w'.heap[b]?=w.heap[b]?)∧Q v w') (fun τ=>(hc τ).mono ?_) ?_
 ·rintro e w' ⟨v,rfl,h1,h2⟩;exact ⟨v,rfl,⟨h1.os,h1.output,h1.size,h1.block⟩,h2⟩
 ·rintro v w₁ τ d d' ⟨⟨h1,h2,h3,h4⟩,h5⟩;exact ⟨⟨h1,rfl,h2,h3,h4⟩,hQ v w₁ τ d d' h5⟩
end Go.Proofs.Ytdoghgnifkgfdaa.Mute
namespace Go.Proofs.Ytdoghgnifkgfdaa
open Go.RowKit
theorem row3_heap {w:World} {g t:Nat} {a b c:Value} (h:RowF w g 3 t (cells3 a b c)):w.heap[g]?=some (.cells #[a,b,c] t (0,0)):=by
 obtain ⟨cs,h1,h2,h3⟩:=h;rw [h1];congr 2;apply Array.ext
 ·simp [h2]
 ·intro j hj hj';have:=h3 j (by omega);rw [Array.getElem?_eq_getElem hj] at this;have e:=Option.some.inj this;rw [e];have:j=0∨j=1∨j=2:=by omega
  rcases this with rfl|rfl|rfl<;>rfl
theorem size_stats:(Try.prog.info? 58).map (·.size)=some 3:=by kernel_rfl
theorem results_cell_tmp_row {P:Program} {fn:Func} {p u:Tmp} {ty:TypeId} (h:fn.results=#[.cell p ty,.tmp u]) (tmps:Array Value) (w:World) (g:Nat) (t:TypeId) (cs:Array Value) (fr:Nat×Nat) (d:TypeDesc)
  (hp:tmps.getD p undef=.pointer (some ⟨g,0,none⟩)) (hg:w.heap[g]?=some (.cells cs t fr))
  (hu:P.underlying ty=some d) (hd:(match d with|.struct _|.array _ _=>true|_=>false)=true) (hi:(P.info? ty).map (·.size)=some cs.size):
  (results fn tmps).run P w=.ok (.tuple #[.agg cs,tmps.getD u undef]) w:=by
 have hp':tmps[p]?.getD undef=.pointer (some ⟨g,0,none⟩):=by simpa using hp
 rw [results_cell_tmp h];simp [hp',asAddr,run_loadVar_row w g t ty cs fr d hg hu hd hi,Result.andThen]
theorem has_any (kb nC cC:Nat) (q:Option Addr) (cell:Int) (w:World) (h2:w.cell? ⟨kb,2,none⟩=some (.slice q nC cC)):
  Calls Try.prog 52 #[.pointer (some ⟨kb,0,none⟩),.int .i64 cell] w fun e w'=>e=.returned (.bool (decide (0≤cell∧cell<nC)))∧w'=w:=by
 by_cases h0:0≤cell
 ·go_enter Try.func52,Try.ntmps52
  go_wp2_with fail
  go_ret;exact ⟨by congr 1;simp;omega,rfl⟩
 ·go_enter Try.func52,Try.ntmps52
  go_wp2_with fail
  go_ret;exact ⟨by congr 2;simp;omega,rfl⟩
theorem trace_yes (kb T nC cT cC cell m:Nat) (q:Option Addr) (v:Value) (tz:Nat→Int) (w:World) (h2:w.cell? ⟨kb,2,none⟩=some (.slice q nC cC)) (h4:w.cell? ⟨kb,4,none⟩=some (.slice (some ⟨T,0,none⟩) nC cT)) (ht:w.cell? ⟨T,cell,none⟩=some v)
  (hv:w.ownsRow 0 67 3 v m ((List.range (m*3)).map fun j=>.int .i64 (tz j))) (hc:cell<nC) (hb:24*m≤140737488355328):
  Calls Try.prog 31 #[.pointer (some ⟨kb,0,none⟩),.int .i64 cell] w fun e w'=>∃u,e=.returned (.tuple #[u,.int .i64 0])∧Below w.heap.size w w'∧w'.ownsRow w.heap.size 67 3 u m ((List.range (m*3)).map fun j=>.int .i64 (tz j)):=by
 have hd:decide (0≤(cell:Int)∧(cell:Int)<nC)=true:=by simp;omega
 have hli:(cell:Int)<(nC:Int):=by omega
 obtain ⟨p,cap,rfl,-,hz,hs⟩:=own_sl hv;have HS:Hid (Sl w p (m*3) fun j=>.int .i64 (tz j)):=hs;have HZ:Hid (p=none→m=0∧cap=0):=hz;clear hv hs hz
 go_enter Try.func31,Try.ntmps31
 go_wp2_with fail
 refine (has_any kb nC cC q cell _ h2).mono ?_;rintro e w1 ⟨rfl,rfl⟩;rw [hd];go_wp2_with fail
 refine (cloneEv_own p m cap tz _ HS.out HZ.out hb).mono ?_;rintro e w' ⟨u,rfl,h1,h2⟩;have H1:Hid _:=h1;have H2:Hid _:=h2;obtain ⟨pu,mu,cu,rfl⟩:=own_slice h2;clear h1 h2;go_wp2_with fail
 go_ret2
 exact ⟨_,rfl,H1.out,H2.out⟩
theorem cellMemory_any (g:Nat) (num:Int) (net code:Value) (z:Nat→Int) (w:World) (hr:RowF w g 48 163 (cellV num net code z)):
  Calls Try.prog 54 #[.pointer (some ⟨g,0,none⟩)] w fun e w'=>∃u,e=.returned u∧Below w.heap.size w w'∧w'.ownsRow w.heap.size 2 1 u 16 ((List.range 16).map fun j=>.int .i64 (z (29+j))):=by
 have HS:Hid (Sl w (some ⟨g,29,none⟩) (16*1) fun j=>.int .i64 (z (29+j))):=.inr ⟨g,29,rfl,fun j hj=>by
  rw [hr.cell (by omega)];unfold cellV;rw [if_neg (by omega),if_neg (by omega),if_neg (by omega)]⟩
 clear hr
 go_enter Try.func54,Try.ntmps54
 go_wp2_with fail
 refine (cloneNum_own (some ⟨g,29,none⟩) 16 16 (fun j=>z (29+j)) _ HS.out (fun h=>by cases h) (by omega)).mono ?_;rintro e w' ⟨u,rfl,h1,h2⟩;have H1:Hid _:=h1;have H2:Hid _:=h2;obtain ⟨pu,mu,cu,rfl⟩:=own_slice h2;clear h1 h2;go_wp2_with fail
 go_ret;exact ⟨_,rfl,H1.out,H2.out⟩
theorem memory_yes (kb C g nC cC cell:Nat) (num:Int) (net code:Value) (z:Nat→Int) (w:World) (h2:w.cell? ⟨kb,2,none⟩=some (.slice (some ⟨C,0,none⟩) nC cC)) (hp:w.cell? ⟨C,cell,none⟩=some (.pointer (some ⟨g,0,none⟩))) (hr:RowF w g 48 163 (cellV num net code z)) (hc:cell<nC):
  Calls Try.prog 32 #[.pointer (some ⟨kb,0,none⟩),.int .i64 cell] w fun e w'=>∃u,e=.returned (.tuple #[u,.int .i64 0])∧Below w.heap.size w w'∧w'.ownsRow w.heap.size 2 1 u 16 ((List.range 16).map fun j=>.int .i64 (z (29+j))):=by
 have hd:decide (0≤(cell:Int)∧(cell:Int)<nC)=true:=by simp;omega
 have hli:(cell:Int)<(nC:Int):=by omega
 have HR:Hid (RowF w g 48 163 (cellV num net code z)):=hr;clear hr
 go_enter Try.func32,Try.ntmps32
 go_wp2_with fail
 refine (has_any kb nC cC _ cell _ h2).mono ?_;rintro e w1 ⟨rfl,rfl⟩;rw [hd];go_wp2_with fail
 refine (cellMemory_any g num net code z _ HR.out).mono ?_;rintro e w' ⟨u,rfl,h1,h2⟩;have H1:Hid _:=h1;have H2:Hid _:=h2;obtain ⟨pu,mu,cu,rfl⟩:=own_slice h2;clear h1 h2;go_wp2_with fail
 go_ret2
 exact ⟨_,rfl,H1.out,H2.out⟩
theorem stopped_any (g:Nat) (a b:Int) (w:World) (h47:w.cell? ⟨g,47,none⟩=some (.int .i64 a)) (h3:w.cell? ⟨g,3,none⟩=some (.int .i64 b)):
  Calls Try.prog 67 #[.pointer (some ⟨g,0,none⟩)] w fun e w'=>e=.returned (.bool (decide (b<a)))∧w'=w.drew:=by
 go_enter Try.func67,Try.ntmps67
 go_wp2_with fail
 go_region_held3 (fun W=>W.cell? ⟨g,47,none⟩=some (.int .i64 a)∧W.cell? ⟨g,3,none⟩=some (.int .i64 b)) (go_keep) (fail)
 go_wp2_with fail
 go_ret;exact ⟨rfl,rfl⟩
theorem cellStats_any (g:Nat) (a b c:Int) (w:World) (h46:w.cell? ⟨g,46,none⟩=some (.int .i64 c)) (h47:w.cell? ⟨g,47,none⟩=some (.int .i64 a)) (h3:w.cell? ⟨g,3,none⟩=some (.int .i64 b)):
  Calls Try.prog 55 #[.pointer (some ⟨g,0,none⟩)] w fun e w'=>e=.returned (.agg #[.int .i64 c,.int .i64 a,.bool (decide (b<a))])∧Below w.heap.size w w':=by
 have HA:Hid (∀o,Below w.heap.size w (w.alloc o)):=fun o=>(Below.refl _ _).alloc (Nat.le_refl _) _;have hlt:g<w.heap.size:=block_lt_of_cell h46;have hne:g≠w.heap.size:=by omega
 have A47:Hid (∀o,(w.alloc o).cell? ⟨g,47,none⟩=some (.int .i64 a)):=fun o=>((HA.out o).cell (p:=⟨g,47,none⟩) hlt).trans h47;have A3:Hid (∀o,(w.alloc o).cell? ⟨g,3,none⟩=some (.int .i64 b)):=fun o=>((HA.out o).cell (p:=⟨g,3,none⟩) hlt).trans h3
 go_enter Try.func55,Try.ntmps55
 go_wp2_with fail
 go_region_held3 (fun W=>W.cell? ⟨g,46,none⟩=some (.int .i64 c)∧W.cell? ⟨g,47,none⟩=some (.int .i64 a)∧W.cell? ⟨g,3,none⟩=some (.int .i64 b)) (go_keep)
  (first
   |(go_at_call 67
     refine (stopped_any g a b _ (by exact A47.out _) (by exact A3.out _)).mono ?_;rintro e wl ⟨rfl,rfl⟩))
 go_wp2_with fail
 (try simp only [Exit.inBlock,Exit.then])
 refine bodyPost_ret (results_cell_row (P:=Try.prog) rfl _ _ w.heap.size 58 #[.int .i64 c,.int .i64 a,.bool (decide (b<a))] (0,0) _ rfl (by exact heap_alloc_new w _) Try.underlying58 rfl size_stats) rfl ?_;exact ⟨rfl,(HA.out _).drew.drew⟩
theorem stats_yes (kb C g nC cC cell:Nat) (num:Int) (net code:Value) (z:Nat→Int) (w:World) (h2:w.cell? ⟨kb,2,none⟩=some (.slice (some ⟨C,0,none⟩) nC cC)) (hp:w.cell? ⟨C,cell,none⟩=some (.pointer (some ⟨g,0,none⟩))) (hr:RowF w g 48 163 (cellV num net code z)) (hc:cell<nC):
  Calls Try.prog 33 #[.pointer (some ⟨kb,0,none⟩),.int .i64 cell] w fun e w'=>e=.returned (.tuple #[.agg #[.int .i64 (z 46),.int .i64 (z 47),.bool (decide (z 3<z 47))],.int .i64 0])∧Below w.heap.size w w':=by
 have hd:decide (0≤(cell:Int)∧(cell:Int)<nC)=true:=by simp;omega
 have hli:(cell:Int)<(nC:Int):=by omega
 have HA:Hid (∀o,Below w.heap.size w (w.alloc o)):=fun o=>(Below.refl _ _).alloc (Nat.le_refl _) _;have l2:kb<w.heap.size:=block_lt_of_cell h2;have lC:C<w.heap.size:=block_lt_of_cell hp;have A2:Hid (∀o,(w.alloc o).cell? ⟨kb,2,none⟩=some (.slice (some ⟨C,0,none⟩) nC cC)):=fun o=>((HA.out o).cell (p:=⟨kb,2,none⟩) l2).trans h2;have n2:kb≠w.heap.size:=by omega
 have nC':C≠w.heap.size:=by omega
 have HR:Hid (∀o,RowF (w.alloc o) g 48 163 (cellV num net code z)):=fun o=>hr.alloc o;clear hr
 go_enter Try.func33,Try.ntmps33
 go_wp2_with fail
 refine (has_any kb nC cC _ cell _ (A2.out _)).mono ?_;rintro e w1 ⟨rfl,rfl⟩;rw [hd];go_wp2_with fail
 refine (cellStats_any g (z 47) (z 3) (z 46) _ ((HR.out _).cell (by omega)) ((HR.out _).cell (by omega)) ((HR.out _).cell (by omega))).mono ?_;rintro e w' ⟨rfl,h1⟩;have H1:Hid (Below w.heap.size w w'):=(HA.out _).trans (h1.mono (by simp));have HW:Hid (RowF w' w.heap.size 3 58 (cells3 (.int .i64 0) (.int .i64 0) (.bool false))):=(row3 w _ _ _ _).of_heap (h1.block _ (by simp));have b0:=HW.out.at3.1;have b1:=HW.out.at3.2.1;have b2:=HW.out.at3.2.2;have f0:=HW.out.frozen 0;have f1:=HW.out.frozen 1;have f2:=HW.out.frozen 2;clear h1;go_wp2_with fail
 have HF:=row3_heap ((((HW.out.set3 (.int .i64 (z 46))).1.set3 (.int .i64 (z 47))).2.1.set3 (.bool (decide (z 3<z 47)))).2.2)
 (try simp only [Exit.inBlock,Exit.then])
 refine bodyPost_ret (results_cell_tmp_row (P:=Try.prog) rfl _ _ w.heap.size 58 #[.int .i64 (z 46),.int .i64 (z 47),.bool (decide (z 3<z 47))] (0,0) _ rfl (by exact HF) Try.underlying58 rfl size_stats) rfl ?_;exact ⟨rfl,((H1.out.setCell (by simp) _).setCell (by simp) _).setCell (by simp) _⟩
end Go.Proofs.Ytdoghgnifkgfdaa
namespace Go.Proofs.Ytdoghgnifkgfdaa.Mute
open Go Go.Conc Go.RowKit
theorem enterNew (x:Value):EnterOk Try.prog plan 21 #[x]:=⟨by kernel_rfl,slots_noSlots plain Try.func21 (by kernel_rfl) _⟩
theorem enterTrace (x y:Value):EnterOk Try.prog plan 31 #[x,y]:=⟨by kernel_rfl,slots_noSlots plain Try.func31 (by kernel_rfl) _⟩
theorem enterMemory (x y:Value):EnterOk Try.prog plan 32 #[x,y]:=⟨by kernel_rfl,slots_noSlots plain Try.func32 (by kernel_rfl) _⟩
theorem enterStats (x y:Value):EnterOk Try.prog plan 33 #[x,y]:=⟨by kernel_rfl,slots_noSlots plain Try.func33 (by kernel_rfl) _⟩
structure Of (c:Cfg) (k:Ker) (N:NetK) (t:Tab):Prop where
 nC:k.nC=c.nC
 n:k.n=c.nCode
 ci:k.ci=c.code
 num:∀i,k.num i=i
 nk:N.k=c.nCh
 fr:∀i,N.fr i=c.ch (i*3+1)
 to_:∀i,N.to_ i=c.ch (i*3+2)
 nT:t.nT=c.nT
 nw:t.nw=c.nRow
 wn:t.wn=wnOf c
theorem new_calls {c:Cfg} {v0 v1 v2 v3:Value} {w:World} (h:CfgR w v0 v1 v2 v3 c) (hw:CfgW c) (hrn:∀i,i<c.nT→c.rowN i=false) (hck:CheckIs c 0 0):
  CallsR Try.prog 21 #[.agg #[v0,v1,v2,v3]] w (fun v w'=>Below w.heap.size w w'∧∃k N t f,v=.tuple #[.pointer (some ⟨k.kb,0,none⟩),.int .i64 0,.int .i64 0]∧Of c k N t∧KFullQ w' k N t (sq0 c) f (fun _=>none) 0 (fun b=>w.heap.size≤b∧b<w'.heap.size)):=by
 refine (CallsR.ofBelow (enterNew _) (fun v w'=>∃K nb vt tr,v=.tuple #[.pointer (some ⟨K,0,none⟩),.int .i64 0,.int .i64 0]∧w.heap.size<K∧KM2 c w.heap.size K nb vt tr w') (fun τ=>(new_exact c v0 v1 v2 v3 (reW w τ 0) (h.keep fun a v hv=>hv) hw hrn).mono ?_) ?_).mono ?_
 ·rintro e w' ⟨k,x,y,rfl,hc,hb,hk⟩;obtain ⟨rfl,rfl⟩:=hc.uniq hck;rcases hk with hk|⟨_,K,nb,v,tr,rfl,hK,u,xs,_,h4⟩
  ·exact absurd rfl hk.1
  ·exact ⟨_,rfl,hb,K,nb,v,tr,rfl,hK,u,xs,h4⟩
 ·rintro v w₁ τ d d' h;exact h
 ·rintro v w' ⟨hb,K,nb,vt,tr,rfl,hK,hm⟩;refine ⟨hb,?_⟩;obtain ⟨k,N,t,f,h1,rfl,h2,h3,h4,h5,h6,h7,h8,h9,h10,h11⟩:=kfullQ_of hm (by omega) hck;exact ⟨k,N,t,f,rfl,⟨h2,h3,h4,h5,h6,h7,h8,h9,h10,h11⟩,h1⟩
section
variable {w:World} {k:Ker} {K:NetK} {t:Tab} {s:KSq} {f:Nat→Value} {lr:Nat→Option Row} {r:Nat} {S:Nat→Prop} {cell:Nat}
theorem KFullQ.trace (h:KFullQ w k K t s f lr r S) (hc:cell<k.nC) {tz:Nat→Int} (hx:s.xs cell=(List.range (s.m cell*3)).map fun j=>.int .i64 (tz j)) (hm:s.m cell≤1000000000):
  CallsR Try.prog 31 #[.pointer (some ⟨k.kb,0,none⟩),.int .i64 cell] w (fun v w'=>Below w.heap.size w w'∧∃u,v=.tuple #[u,.int .i64 0]∧w'.ownsRow w.heap.size 67 3 u (s.m cell) ((List.range (s.m cell*3)).map fun j=>.int .i64 (tz j))):=by
 have ho:=h.dyn.own cell hc;rw [hx] at ho;refine CallsR.ofBelow (enterTrace _ _) (fun v w'=>∃u,v=.tuple #[u,.int .i64 0]∧w'.ownsRow w.heap.size 67 3 u (s.m cell) ((List.range (s.m cell*3)).map fun j=>.int .i64 (tz j))) (fun τ=>(trace_yes k.kb k.T k.nC k.nC k.cC cell (s.m cell) _ (f cell) tz (reW w τ 0) h.sta.k2 h.sta.k4 (h.dyn.tr.cell hc) ho hc (by omega)).mono ?_) fun v w₁ τ d d' h=>h;rintro e w' ⟨u,rfl,h1,h2⟩;exact ⟨_,rfl,h1,u,rfl,h2⟩
theorem KFullQ.memory (h:KFullQ w k K t s f lr r S) (hc:cell<k.nC):
  CallsR Try.prog 32 #[.pointer (some ⟨k.kb,0,none⟩),.int .i64 cell] w (fun v w'=>Below w.heap.size w w'∧∃u,v=.tuple #[u,.int .i64 0]∧w'.ownsRow w.heap.size 2 1 u 16 ((List.range 16).map fun j=>.int .i64 (s.z cell (29+j)))):=by
 refine CallsR.ofBelow (enterMemory _ _) (fun v w'=>∃u,v=.tuple #[u,.int .i64 0]∧w'.ownsRow w.heap.size 2 1 u 16 ((List.range 16).map fun j=>.int .i64 (s.z cell (29+j)))) (fun τ=>(memory_yes k.kb k.C (k.g cell) k.nC k.cC cell _ _ _ (s.z cell) (reW w τ 0) h.sta.k2 (h.sta.cl cell hc) (h.dyn.row cell hc) hc).mono ?_) fun v w₁ τ d d' h=>h;rintro e w' ⟨u,rfl,h1,h2⟩;exact ⟨_,rfl,h1,u,rfl,h2⟩
theorem KFullQ.stats (h:KFullQ w k K t s f lr r S) (hc:cell<k.nC):
  CallsR Try.prog 33 #[.pointer (some ⟨k.kb,0,none⟩),.int .i64 cell] w (fun v w'=>Below w.heap.size w w'∧v=.tuple #[.agg #[.int .i64 (s.z cell 46),.int .i64 (s.z cell 47),.bool (decide (s.z cell 3<s.z cell 47))],.int .i64 0]):=by
 refine CallsR.ofBelow (enterStats _ _) (fun v _=>v=.tuple #[.agg #[.int .i64 (s.z cell 46),.int .i64 (s.z cell 47),.bool (decide (s.z cell 3<s.z cell 47))],.int .i64 0]) (fun τ=>(stats_yes k.kb k.C (k.g cell) k.nC k.cC cell _ _ _ (s.z cell) (reW w τ 0) h.sta.k2 (h.sta.cl cell hc) (h.dyn.row cell hc) hc).mono ?_) fun v w₁ τ d d' h=>h;rintro e w' ⟨rfl,h1⟩;exact ⟨_,rfl,h1,rfl⟩
end
def prgC (c:Cfg) (ins:List (Int×Int)) (i:Nat):Prg:=⟨c.nCode i,c.code i,i,fun j=>c.ch (j*3+1),ins⟩
def winC (c:Cfg) (ins:List (Int×Int)) (p:Nat×Nat) (s:KSq):KSq:=
 ⟨updN s.z p.1 (windowQ (prgC c ins p.1) p.2 (s.z p.1) s.D).2.1,updN s.m p.1 (s.m p.1+(windowQ (prgC c ins p.1) p.2 (s.z p.1) s.D).1.length),updN s.xs p.1 (s.xs p.1++(windowQ (prgC c ins p.1) p.2 (s.z p.1) s.D).1.flatMap evCells),(windowQ (prgC c ins p.1) p.2 (s.z p.1) s.D).2.2⟩
def rowC (c:Cfg) (ins:List (Int×Int)) (wn:Nat→Nat×Nat):Nat→Nat→KSq→KSq
 |0,_,s=>s
 |rem+1,j,s=>rowC c ins wn rem (j+1) (winC c ins (wn j) s)
def frameC (c:Cfg) (r:Nat) (ins:List (Int×Int)) (s:KSq):KSq:=
 {rowC c ins (wnOf c r) (c.nRow r) 0 s with D:=endC c.nCh (rowC c ins (wnOf c r) (c.nRow r) 0 s).D}
section
variable {c:Cfg} {k:Ker} {N:NetK} {t:Tab} {ins:List (Int×Int)}
theorem Of.prg (h:Of c k N t) (i:Nat):prgOf k N ins i=prgC c ins i:=by
 unfold prgOf prgC;rw [h.n,h.ci,h.num,show N.fr=fun j=>c.ch (j*3+1) from funext h.fr]
theorem Of.row (h:Of c k N t) (wn:Nat→Nat×Nat):∀(rem j:Nat) (s:KSq),rowQs k N ins wn rem j s=rowC c ins wn rem j s
 |0,_,_=>rfl
 |rem+1,j,s=>by
  show rowQs k N ins wn rem (j+1) (winQ k N ins (wn j) s)=rowC c ins wn rem (j+1) (winC c ins (wn j) s);have e:winQ k N ins (wn j) s=winC c ins (wn j) s:=by unfold winQ winC;rw [h.prg]
  rw [e,h.row wn rem (j+1)]
theorem Of.frame (h:Of c k N t) (r:Nat) (s:KSq):frameQ k N (t.wn r) (t.nw r) ins s=frameC c r ins s:=by
 unfold frameQ frameC;rw [h.row,h.wn,h.nw,h.nk]
end
structure Sh where
 n:Nat
 m:Nat→Nat
 z:Nat→Nat→Int
def insS (S:Sh) (i:Nat):List (Int×Int):=(List.range (min (S.m i) 4)).map fun d:Nat=>((d:Int),S.z i d)
def frS (c:Cfg) (I:Nat→List (Int×Int)):Nat→KSq
 |0=>sq0 c
 |i+1=>frameC c (i % c.nT) (I i) (frS c I i)
def XsOk (s:KSq):Prop:=∀i,∃L:List Int,s.xs i=L.map (Value.int .i64 ·)∧L.length=s.m i*3
theorem flat_ev:∀(vs:List Value),(∀v∈vs,isEvV v)→∃L:List Int,vs.flatMap evCells=L.map (Value.int .i64 ·)∧L.length=vs.length*3
 | [],_=>⟨[],rfl,rfl⟩
 |v::vs,h=>by
  obtain ⟨L,h1,h2⟩:=flat_ev vs fun u hu=>h u (List.mem_cons_of_mem _ hu);obtain ⟨k,a,b,rfl⟩:=h v (List.mem_cons_self ..);refine ⟨k::a::b::L,?_,by simp [h2];omega⟩;rw [List.flatMap_cons,h1];rfl
section
variable {c:Cfg} {ins:List (Int×Int)} {p:Nat×Nat} {s:KSq} {wn:Nat→Nat×Nat}
theorem XsOk.win (h:XsOk s):XsOk (winC c ins p s):=fun i=>by
 by_cases e:i=p.1
 ·subst e;obtain ⟨L,h1,h2⟩:=h p.1;obtain ⟨M,h3,h4⟩:=flat_ev _ (windowQ_ev (prgC c ins p.1) p.2 (s.z p.1) s.D).1;refine ⟨L++M,?_,?_⟩
  ·show updN s.xs p.1 _ p.1=_;rw [updN_same,h1,h3,List.map_append]
  ·show _=updN s.m p.1 _ p.1*3;rw [updN_same,List.length_append,h2,h4];omega
 ·obtain ⟨L,h1,h2⟩:=h i;exact ⟨L,by show updN s.xs p.1 _ i=_;rw [updN_ne _ _ e];exact h1,by show _=updN s.m p.1 _ i*3;rw [updN_ne _ _ e];exact h2⟩
theorem winC_m (i:Nat):(winC c ins p s).m i≤s.m i+(p.2+1):=by
 show updN s.m p.1 _ i≤_;by_cases e:i=p.1
 ·subst e;rw [updN_same];have:=(windowQ_ev (prgC c ins p.1) p.2 (s.z p.1) s.D).2;omega
 ·rw [updN_ne _ _ e];omega
theorem XsOk.row:∀(rem j:Nat) (s:KSq),XsOk s→XsOk (rowC c ins wn rem j s)
 |0,_,_,h=>h
 |rem+1,j,_,h=>XsOk.row rem (j+1) _ h.win
theorem rowC_m {B:Nat}:∀(rem j:Nat) (s:KSq),(∀i,j≤i→i<j+rem→(wn i).2≤B)→∀i,(rowC c ins wn rem j s).m i≤s.m i+rem*(B+1)
 |0,_,_,_,i=>by simp [rowC]
 |rem+1,j,s,h,i=>by
  have h1:=rowC_m rem (j+1) (winC c ins (wn j) s) (fun i a b=>h i (by omega) (by omega)) i;have h2:=winC_m (c:=c) (ins:=ins) (p:=wn j) (s:=s) i;have h3:=h j (Nat.le_refl _) (by omega);show (rowC c ins wn rem (j+1) (winC c ins (wn j) s)).m i≤_;rw [Nat.add_mul,Nat.one_mul];omega
theorem XsOk.frame (h:XsOk s) (r:Nat):XsOk (frameC c r ins s):=fun i=>XsOk.row (c:=c) (ins:=ins) (wn:=wnOf c r) (c.nRow r) 0 s h i
end
section
variable (c:Cfg) (I:Nat→List (Int×Int))
theorem frS_xs:∀i,XsOk (frS c I i)
 |0=>fun _=>⟨[],rfl,by show 0=0*3;omega⟩
 |i+1=>(frS_xs i).frame _
def TabOk:Prop:=0<c.nT∧∀r,r<c.nT→c.nRow r≤6∧∀j,j<c.nRow r→(wnOf c r j).2≤200
variable {c}
theorem frS_m (h:TabOk c):∀i x,(frS c I i).m x≤i*1206
 |0,_=>Nat.zero_le _
 |i+1,x=>by
  have h1:=frS_m h i x;obtain ⟨h2,h3⟩:=h.2 (i % c.nT) (Nat.mod_lt _ h.1);have h4:=rowC_m (c:=c) (ins:=I i) (wn:=wnOf c (i % c.nT)) (B:=200) (c.nRow (i % c.nT)) 0 (frS c I i) (fun j _ hj=>h3 j (by omega)) x;show (rowC c (I i) (wnOf c (i % c.nT)) (c.nRow (i % c.nT)) 0 (frS c I i)).m x≤_;have h5:c.nRow (i % c.nT)*(200+1)≤6*201:=Nat.mul_le_mul_right _ h2;omega
end
theorem xs_tz {s:KSq} (h:XsOk s) (i:Nat):∃tz:Nat→Int,s.xs i=(List.range (s.m i*3)).map fun j=>.int .i64 (tz j):=by
 obtain ⟨L,h1,h2⟩:=h i;refine ⟨fun j=>L.getD j 0,?_⟩;rw [h1,←h2];apply List.ext_getElem?;intro j;by_cases hj:j<L.length
 ·simp [hj]
 ·simp [hj]
theorem tab_ok (P:Pl) (Q:Nat→Pl):TabOk (cfgP P Q):=by
 refine ⟨by show 0<3;omega,fun r hr=>?_⟩;have hr:r<3:=hr;have:r=0∨r=1∨r=2:=by omega
 rcases this with rfl|rfl|rfl
 ·refine ⟨by show 4≤6;omega,fun j hj=>?_⟩;have hj:j<4:=hj;show (((tabL 0).getD (j*2+1) 0).toNat)≤200;have:j=0∨j=1∨j=2∨j=3:=by omega
  rcases this with rfl|rfl|rfl|rfl<;>decide
 ·refine ⟨by show 3≤6;omega,fun j hj=>?_⟩;have hj:j<3:=hj;show (((tabL 1).getD (j*2+1) 0).toNat)≤200;have:j=0∨j=1∨j=2:=by omega
  rcases this with rfl|rfl|rfl<;>decide
 ·refine ⟨by show 4≤6;omega,fun j hj=>?_⟩;have hj:j<4:=hj;show (((tabL 2).getD (j*2+1) 0).toNat)≤200;have:j=0∨j=1∨j=2∨j=3:=by omega
  rcases this with rfl|rfl|rfl|rfl<;>decide
theorem fitsF_le {k:Nat} {ch:Nat→Int} {n kind cell:Int} {e i:Nat} (hk:k≤8):fitsF k ch n kind cell e k i≤100:=by
 rcases Int.lt_or_le (fitsF k ch n kind cell e k i) 0 with h|h
 ·omega
 ·by_cases h0:0<k
  ·obtain ⟨x,h1,h2,_⟩:=fitsF_ok h0 _ _ h;omega
  ·obtain rfl:k=0:=by omega
   simp [fitsF]
theorem insF_bd {k nd cell words:Nat} {ch dv:Nat→Int} {o r a n:Int} (hk:k≤8) (hnd:nd≤4) (hw:words≤48) (hw0:0<words) (hn:-9223372036854775808≤n∧n≤9223372036854775807) (j:Nat):-9223372036854775808≤insF k ch nd dv cell words o r a n j∧insF k ch nd dv cell words o r a n j≤9223372036854775807:=by
 have h1:=pk_lt o (show 0<17 by omega);have h2:=pk_lt r (show 0<4 by omega);have h3:=pk_lt a (show 0<4 by omega);have h4:=pk_lt n hw0;unfold insF;split
 ·omega
 ·rename_i hz
  split
  ·omega
  ·split
   ·omega
   ·split
    ·omega
    ·split
     ·rename_i hkey
      have h0:0≤insN k ch nd dv cell words (pk o 17) n:=by
       rcases Int.lt_or_le (insN k ch nd dv cell words (pk o 17) n) 0 with h|h
       ·exact absurd ⟨hkey,h⟩ hz
       ·exact h
      have h5:insN k ch nd dv cell words (pk o 17) n≤100:=by
       unfold insN;have h6:=fun kind e=>fitsF_le (ch:=ch) (n:=n) (kind:=kind) (cell:=cell) (e:=e) (i:=0) hk;have h7:devF dv cell nd≤100:=by
        rcases Int.lt_or_le (devF dv cell nd) 0 with h|h
        ·omega
        ·obtain ⟨x,e1,e2,_⟩:=devF_ok _ h;omega
       split
       ·omega
       ·split
        ·exact h6 _ _
        ·split
         ·exact h6 _ _
         ·split
          ·exact h6 _ _
          ·split
           ·exact h6 _ _
           ·exact h7
      omega
     ·exact hn
theorem cfgP_W (P:Pl) (Q:Nat→Pl) (h:∀i,i<4→∀j,j<(Q i).nC i*4→-9223372036854775808≤(Q i).code i j∧(Q i).code i j≤9223372036854775807):CfgW (cfgP P Q):=fun i hi j hj=>by
 have hi:i<4:=hi;have hk:plK P≤8:=by unfold plK;omega
 have hd:plD P≤4:=by unfold plD;omega
 have hN:plN (Q i) i≤47∧plN (Q i) i≤(Q i).nC i:=by unfold plN;omega
 show -9223372036854775808≤plCode (plK P) (plCh P) (plD P) (plDv P) (Q i) i j∧plCode (plK P) (plCh P) (plD P) (plDv P) (Q i) i j≤9223372036854775807;unfold plCode;split
 ·exact insF_bd hk hd (by omega) (by omega) (h i hi (j / 4*4+3) (by omega)) _
 ·split<;>omega
def cfg2 (L0 L1:List Int) (n0 n1:Nat) (lm:Int) (rw:List Int) (dvn:Bool) (dv:List Int):Cfg where
 cellsN:=false
 nC:=2
 lim:=fun i=>if i=0 then lm else 0
 codeN:=fun _=>false
 nCode:=fun i=>if i=0 then n0 else n1
 code:=fun i j=>(if i=0 then L0 else L1).getD j 0
 imgN:=fun _=>true
 nImg:=fun _=>0
 img:=fun _ _=>0
 tableN:=false
 nT:=1
 rowN:=fun _=>false
 nRow:=fun _=>2
 row:=fun _ j=>rw.getD j 0
 chN:=false
 nCh:=1
 ch:=fun j=>[1,0,1].getD j 0
 dvN:=dvn
 nD:=dv.length
 dv:=fun j=>dv.getD j 0
def intsF (L:List Int) (j:Nat):Value:=.int .i64 (L.getD j 0)
theorem ints_row (w:World) (L:List Int) (t:Nat):RowF (w.alloc (.cells (L.map (Value.int .i64 ·)).toArray t)) w.heap.size L.length t (intsF L):=by
 have h:=RowF.new w (L.map (Value.int .i64 ·)).toArray t (intsF L) (fun j hj=>by
  have hj:j<L.length:=by simpa using hj
  unfold intsF;simp [hj])
 simpa using h
def cellsF (b0 n0 c0 b1 n1 c1:Nat) (lm:Int) (j:Nat):Value:=if j=0 then .slice (some ⟨b0,0,none⟩) n0 c0 else if j=1 then .slice none 0 0 else if j=2 then .int .i64 lm else if j=3 then .slice (some ⟨b1,0,none⟩) n1 c1 else if j=4 then .slice none 0 0 else .int .i64 0
theorem cells_row (w:World) (b0 n0 c0 b1 n1 c1:Nat) (lm:Int) (t:Nat):RowF (w.alloc (.cells #[.slice (some ⟨b0,0,none⟩) n0 c0,.slice none 0 0,.int .i64 lm,.slice (some ⟨b1,0,none⟩) n1 c1,.slice none 0 0,.int .i64 0] t)) w.heap.size 6 t (cellsF b0 n0 c0 b1 n1 c1 lm):=
 RowF.new w #[.slice (some ⟨b0,0,none⟩) n0 c0,.slice none 0 0,.int .i64 lm,.slice (some ⟨b1,0,none⟩) n1 c1,.slice none 0 0,.int .i64 0] t _ fun j hj=>by
  have:j=0∨j=1∨j=2∨j=3∨j=4∨j=5:=by simp at hj;omega
  rcases this with rfl|rfl|rfl|rfl|rfl|rfl<;>rfl
theorem one_row (w:World) (v:Value) (t:Nat):RowF (w.alloc (.cells #[v] t)) w.heap.size 1 t (fun _=>v):=
 RowF.new w #[v] t _ fun j hj=>by
  have:j=0:=by simpa using hj
  subst this;rfl
section
variable {w:World} {L0 L1 rw dv:List Int} {n0 n1 c0 c1 b0 b1 bc bw bt bh m0 m1 t0 t1 t2 t3 t4 t5:Nat} {lm:Int}
theorem slz_of {w:World} {L:List Int} {b n c k m t bn:Nat} {nl:Bool} (h:RowF w b m t (intsF L)) (hm:n*k≤m) (hc:n≤c) (hb:bn*n≤140737488355328) (hnl:nl=false):SlZ w (.slice (some ⟨b,0,none⟩) n c) nl n k (fun j=>L.getD j 0) bn:=
 ⟨_,c,rfl,hc,by rw [hnl];simp,fun h=>(by cases h),hb,.inr ⟨b,0,rfl,fun j hj=>by rw [Nat.zero_add];exact h.cell (by omega)⟩⟩
theorem cfg2_R {v3:Value} {dvn:Bool} (h0:RowF w b0 m0 t0 (intsF L0)) (hm0:n0*4≤m0) (hc0:n0≤c0) (h1:RowF w b1 m1 t1 (intsF L1)) (hm1:n1*4≤m1) (hc1:n1≤c1) (hn:n0≤1000∧n1≤1000) (hc:RowF w bc 6 t2 (cellsF b0 n0 c0 b1 n1 c1 lm)) (hw:RowF w bw 4 t3 (intsF rw)) (ht:RowF w bt 1 t4 (fun _=>.slice (some ⟨bw,0,none⟩) 2 2)) (hh:RowF w bh 3 t5 (intsF [1,0,1])) (hd:SlZ w v3 dvn dv.length 1 (fun j=>dv.getD j 0) 8):
  CfgR w (.slice (some ⟨bc,0,none⟩) 2 2) (.slice (some ⟨bt,0,none⟩) 1 1) (.slice (some ⟨bh,0,none⟩) 1 1) v3 (cfg2 L0 L1 n0 n1 lm rw dvn dv):=by
 refine ⟨⟨_,2,cellsF b0 n0 c0 b1 n1 c1 lm,rfl,Nat.le_refl _,by simp [cfg2],fun h=>(by cases h),by show 56*2≤140737488355328;omega,.inr ⟨bc,0,rfl,fun j hj=>?_⟩,fun i hi=>?_⟩,⟨_,1,fun _=>.slice (some ⟨bw,0,none⟩) 2 2,rfl,Nat.le_refl _,by simp [cfg2],fun h=>(by cases h),by show 24*1≤140737488355328;omega,.inr ⟨bt,0,rfl,fun j hj=>?_⟩,fun i hi=>?_⟩,slz_of hh (by decide) (Nat.le_refl _) (by decide) rfl,hd⟩
 ·rw [Nat.zero_add];exact hc.cell hj
 ·have hi:i<2:=hi;have:i=0∨i=1:=by omega
  have nl:SlZ w (.slice none 0 0) true 0 1 (fun _=>0) 8:=⟨none,0,rfl,Nat.le_refl _,by simp,fun _=>⟨rfl,rfl⟩,by decide,.inl rfl⟩;rcases this with rfl|rfl
  ·exact ⟨slz_of h0 hm0 hc0 (by show 32*n0≤_;omega) rfl,nl,rfl⟩
  ·exact ⟨slz_of h1 hm1 hc1 (by show 32*n1≤_;omega) rfl,nl,rfl⟩
 ·rw [Nat.zero_add];exact ht.cell hj
 ·exact slz_of hw (by show 2*2≤4;omega) (Nat.le_refl _) (by decide) rfl
end
theorem box4_set {W:World} {g t:Nat} {a b c d a' b' c' d':Value} (h:RowF W g 4 t (cells4 a b c d)):
  RowF ((((W.setCell ⟨g,0,none⟩ a').setCell ⟨g,1,none⟩ b').setCell ⟨g,2,none⟩ c').setCell ⟨g,3,none⟩ d') g 4 t (cells4 a' b' c' d')∧(∀x,x≠g→((((W.setCell ⟨g,0,none⟩ a').setCell ⟨g,1,none⟩ b').setCell ⟨g,2,none⟩ c').setCell ⟨g,3,none⟩ d').heap[x]?=W.heap[x]?)∧((((W.setCell ⟨g,0,none⟩ a').setCell ⟨g,1,none⟩ b').setCell ⟨g,2,none⟩ c').setCell ⟨g,3,none⟩ d').heap.size=W.heap.size:=by
 refine ⟨((((h.set 0 a').set 1 b').set 2 c').set 3 d').congr fun j hj=>?_,fun x hx=>?_,?_⟩
 ·have:j=0∨j=1∨j=2∨j=3:=by omega
  rcases this with rfl|rfl|rfl|rfl<;>rfl
 ·rw [heap_setCell_other _ _ _ _ hx,heap_setCell_other _ _ _ _ hx,heap_setCell_other _ _ _ _ hx,heap_setCell_other _ _ _ _ hx]
 ·rw [size_setCell,size_setCell,size_setCell,size_setCell]
theorem cfgW_of {c:Cfg} (h:∀i,i<c.nC→∃L:List Int,c.code i=(fun j=>L.getD j 0)∧∀x∈L,-9223372036854775808≤x∧x≤9223372036854775807):CfgW c:=fun i hi j _=>by
 obtain ⟨L,e,hL⟩:=h i hi;rw [e];show -9223372036854775808≤L.getD j 0∧L.getD j 0≤9223372036854775807;by_cases hj:j<L.length
 ·have:L.getD j 0=L[j]:=by simp [hj]
  rw [this];exact hL _ (List.getElem_mem hj)
 ·have:L.getD j 0=0:=by simp [Nat.not_lt.1 hj]
  rw [this];omega
theorem in_nil {w:World} {F:Nat→Prop}:InW w (.slice none (0:Nat) (0:Nat)) [] F:=⟨none,0,rfl,fun j x h=>by simp at h⟩
theorem but_below {S:Nat→Prop} {n:Nat} {w a b:World} (h:Below n w a) (hb:But S a b) (hs:∀x,S x→n≤x) (hn:n≤a.heap.size):Below n w b:=
 ⟨hb.os.trans h.os,hb.tape.trans h.tape,hb.output.trans h.output,Nat.le_trans h.size hb.size,fun x hx=>(hb.block x (by omega) fun e=>by have:=hs x e;omega).trans (h.block x hx)⟩
theorem check_of {c:Cfg} (h1:NCok c) (h2:NTok c) (h3:AllOk (RowAt c) c.nT) (h4:c.nCh≤8) (h5:AllOk (ChOk c) c.nCh) (h6:c.nD≤4) (h7:AllOk (DvOk c) c.nD) (h8:AllOk (CellOk c) c.nC):CheckIs c 0 0:=by
 unfold CheckIs;exact .inr (.inr (.inr (.inr (.inr (.inr (.inr (.inr ⟨h1,h2,h3,h4,h5,h6,h7,h8,rfl,rfl⟩)))))))
end Go.Proofs.Ytdoghgnifkgfdaa.Mute
