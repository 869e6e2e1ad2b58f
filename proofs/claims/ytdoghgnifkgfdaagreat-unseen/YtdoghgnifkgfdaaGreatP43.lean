import Derived.Laws.ResultCell
import Derived.Laws.Rows
import Derived.Deep.RegionHeld3
import Derived.Deep.Cut
import Derived.Test.YtdoghgnifkgfdaaGreatP11
import Derived.Test.YtdoghgnifkgfdaaGreatP14
import Derived.Test.YtdoghgnifkgfdaaGreatP16
import Derived.Test.YtdoghgnifkgfdaaGreatP17
import Derived.Test.YtdoghgnifkgfdaaGreatP19
import Derived.Test.YtdoghgnifkgfdaaGreatP42
set_option maxRecDepth 100000
set_option maxHeartbeats 16000000
namespace Go.Proofs.YtdoghgnifkgfdaaGreat
open Go.RowKit
theorem Yan {w:World} {g t:Nat} {a b c:Value} (h:RowF w g 3 t (cells3 a b c)):w.heap[g]?=some (.cells #[a,b,c] t (0,0)):=by
 obtain ⟨cs,h1,h2,h3⟩:=h;rw [h1];congr 2;apply Array.ext
 ·simp [h2]
 ·intro j hj hj';have:=h3 j (by omega);rw [Array.getElem?_eq_getElem hj] at this;have e:=Option.some.inj this;rw [e];have:j=0∨j=1∨j=2:=by omega
  rcases this with rfl|rfl|rfl<;>rfl
theorem Y1z:(Tryz.prog.info? 63).map (·.size)=some 3:=by kernel_rfl
theorem Y3O {P:Program} {fn:Func} {p u:Tmp} {ty:TypeId} (h:fn.results=#[.cell p ty,.tmp u]) (tmps:Array Value) (w:World) (g:Nat) (t:TypeId) (cs:Array Value) (fr:Nat×Nat) (d:TypeDesc)
  (hp:tmps.getD p undef=.pointer (some ⟨g,0,none⟩)) (hg:w.heap[g]?=some (.cells cs t fr))
  (hu:P.underlying ty=some d) (hd:(match d with|.struct _|.array _ _=>true|_=>false)=true) (hi:(P.info? ty).map (·.size)=some cs.size):
  (results fn tmps).run P w=.ok (.tuple #[.agg cs,tmps.getD u undef]) w:=by
 have hp':tmps[p]?.getD undef=.pointer (some ⟨g,0,none⟩):=by simpa using hp
 rw [results_cell_tmp h];simp [hp',asAddr,run_loadVar_row w g t ty cs fr d hg hu hd hi,Result.andThen]
theorem Ji (kb nC cC:Nat) (q:Option Addr) (cell:Int) (w:World) (h2:w.cell? ⟨kb,2,none⟩=some (.slice q nC cC)):
  Calls Tryz.prog 28 #[.pointer (some ⟨kb,0,none⟩),.int .i64 cell] w fun e w'=>e=.returned (.bool (decide (0≤cell∧cell<nC)))∧w'=w:=by
 by_cases h0:0≤cell
 ·go_enter Tryz.func28,Tryz.ntmps28
  go_wp2_with fail
  go_ret;exact ⟨by congr 1;simp;omega,rfl⟩
 ·go_enter Tryz.func28,Tryz.ntmps28
  go_wp2_with fail
  go_ret;exact ⟨by congr 2;simp;omega,rfl⟩
theorem Y4N (kb T nC cT cC cell m:Nat) (q:Option Addr) (v:Value) (tz:Nat→Int) (w:World) (h2:w.cell? ⟨kb,2,none⟩=some (.slice q nC cC)) (h4:w.cell? ⟨kb,4,none⟩=some (.slice (some ⟨T,0,none⟩) nC cT)) (ht:w.cell? ⟨T,cell,none⟩=some v)
  (hv:w.ownsRow 0 111 3 v m ((List.range (m*3)).map fun j=>.int .i64 (tz j))) (hc:cell<nC) (hb:24*m≤140737488355328):
  Calls Tryz.prog 33 #[.pointer (some ⟨kb,0,none⟩),.int .i64 cell] w fun e w'=>∃u,e=.returned (.tuple #[u,.int .i64 0])∧Below w.heap.size w w'∧w'.ownsRow w.heap.size 111 3 u m ((List.range (m*3)).map fun j=>.int .i64 (tz j)):=by
 have hd:decide (0≤(cell:Int)∧(cell:Int)<nC)=true:=by simp;omega
 have hli:(cell:Int)<(nC:Int):=by omega
 obtain ⟨p,cap,rfl,-,hz,hs⟩:=Zk hv;have HS:Hid (Sl w p (m*3) fun j=>.int .i64 (tz j)):=hs;have HZ:Hid (p=none→m=0∧cap=0):=hz;clear hv hs hz
 go_enter Tryz.func33,Tryz.ntmps33
 go_wp2_with fail
 refine (Ji kb nC cC q cell _ h2).mono ?_;rintro e w1 ⟨rfl,rfl⟩;rw [hd];go_wp2_with fail
 refine (Y5A p m cap tz _ HS.out HZ.out hb).mono ?_;rintro e w' ⟨u,rfl,h1,h2⟩;have H1:Hid _:=h1;have H2:Hid _:=h2;obtain ⟨pu,mu,cu,rfl⟩:=ZT h2;clear h1 h2;go_wp2_with fail
 go_ret2
 exact ⟨_,rfl,H1.out,H2.out⟩
theorem Y7r (g:Nat) (num:Int) (net code:Value) (z:Nat→Int) (w:World) (hr:RowF w g 48 186 (cellV num net code z)):
  Calls Tryz.prog 61 #[.pointer (some ⟨g,0,none⟩)] w fun e w'=>∃u,e=.returned u∧Below w.heap.size w w'∧w'.ownsRow w.heap.size 2 1 u 16 ((List.range 16).map fun j=>.int .i64 (z (29+j))):=by
 have HS:Hid (Sl w (some ⟨g,29,none⟩) (16*1) fun j=>.int .i64 (z (29+j))):=.inr ⟨g,29,rfl,fun j hj=>by
  rw [hr.cell (by omega)];unfold cellV;rw [if_neg (by omega),if_neg (by omega),if_neg (by omega)]⟩
 clear hr
 go_enter Tryz.func61,Tryz.ntmps61
 go_wp2_with fail
 refine (YaJ (some ⟨g,29,none⟩) 16 16 (fun j=>z (29+j)) _ HS.out (fun h=>by cases h) (by omega)).mono ?_;rintro e w' ⟨u,rfl,h1,h2⟩;have H1:Hid _:=h1;have H2:Hid _:=h2;obtain ⟨pu,mu,cu,rfl⟩:=ZT h2;clear h1 h2;go_wp2_with fail
 go_ret;exact ⟨_,rfl,H1.out,H2.out⟩
theorem Y5V (kb C g nC cC cell:Nat) (num:Int) (net code:Value) (z:Nat→Int) (w:World) (h2:w.cell? ⟨kb,2,none⟩=some (.slice (some ⟨C,0,none⟩) nC cC)) (hp:w.cell? ⟨C,cell,none⟩=some (.pointer (some ⟨g,0,none⟩))) (hr:RowF w g 48 186 (cellV num net code z)) (hc:cell<nC):
  Calls Tryz.prog 34 #[.pointer (some ⟨kb,0,none⟩),.int .i64 cell] w fun e w'=>∃u,e=.returned (.tuple #[u,.int .i64 0])∧Below w.heap.size w w'∧w'.ownsRow w.heap.size 2 1 u 16 ((List.range 16).map fun j=>.int .i64 (z (29+j))):=by
 have hd:decide (0≤(cell:Int)∧(cell:Int)<nC)=true:=by simp;omega
 have hli:(cell:Int)<(nC:Int):=by omega
 have HR:Hid (RowF w g 48 186 (cellV num net code z)):=hr;clear hr
 go_enter Tryz.func34,Tryz.ntmps34
 go_wp2_with fail
 refine (Ji kb nC cC _ cell _ h2).mono ?_;rintro e w1 ⟨rfl,rfl⟩;rw [hd];go_wp2_with fail
 refine (Y7r g num net code z _ HR.out).mono ?_;rintro e w' ⟨u,rfl,h1,h2⟩;have H1:Hid _:=h1;have H2:Hid _:=h2;obtain ⟨pu,mu,cu,rfl⟩:=ZT h2;clear h1 h2;go_wp2_with fail
 go_ret2
 exact ⟨_,rfl,H1.out,H2.out⟩
theorem Y72 (g:Nat) (a b:Int) (w:World) (h47:w.cell? ⟨g,47,none⟩=some (.int .i64 a)) (h3:w.cell? ⟨g,3,none⟩=some (.int .i64 b)):
  Calls Tryz.prog 86 #[.pointer (some ⟨g,0,none⟩)] w fun e w'=>e=.returned (.bool (decide (b<a)))∧w'=w.drew:=by
 go_enter Tryz.func86,Tryz.ntmps86
 go_wp2_with fail
 go_region_held3 (fun W=>W.cell? ⟨g,47,none⟩=some (.int .i64 a)∧W.cell? ⟨g,3,none⟩=some (.int .i64 b)) (go_keep) (fail)
 go_wp2_with fail
 go_ret;exact ⟨rfl,rfl⟩
theorem Y6C (g:Nat) (a b c:Int) (w:World) (h46:w.cell? ⟨g,46,none⟩=some (.int .i64 c)) (h47:w.cell? ⟨g,47,none⟩=some (.int .i64 a)) (h3:w.cell? ⟨g,3,none⟩=some (.int .i64 b)):
  Calls Tryz.prog 62 #[.pointer (some ⟨g,0,none⟩)] w fun e w'=>e=.returned (.agg #[.int .i64 c,.int .i64 a,.bool (decide (b<a))])∧Below w.heap.size w w':=by
 have HA:Hid (∀o,Below w.heap.size w (w.alloc o)):=fun o=>(Below.refl _ _).alloc (Nat.le_refl _) _;have hlt:g<w.heap.size:=block_lt_of_cell h46;have hne:g≠w.heap.size:=by omega
 have A47:Hid (∀o,(w.alloc o).cell? ⟨g,47,none⟩=some (.int .i64 a)):=fun o=>((HA.out o).cell (p:=⟨g,47,none⟩) hlt).trans h47;have A3:Hid (∀o,(w.alloc o).cell? ⟨g,3,none⟩=some (.int .i64 b)):=fun o=>((HA.out o).cell (p:=⟨g,3,none⟩) hlt).trans h3
 go_enter Tryz.func62,Tryz.ntmps62
 go_wp2_with fail
 go_region_held3 (fun W=>W.cell? ⟨g,46,none⟩=some (.int .i64 c)∧W.cell? ⟨g,47,none⟩=some (.int .i64 a)∧W.cell? ⟨g,3,none⟩=some (.int .i64 b)) (go_keep)
  (first
   |(go_at_call 86
     refine (Y72 g a b _ (by exact A47.out _) (by exact A3.out _)).mono ?_;rintro e wl ⟨rfl,rfl⟩))
 go_wp2_with fail
 (try simp only [Exit.inBlock,Exit.then])
 refine bodyPost_ret (results_cell_row (P:=Tryz.prog) rfl _ _ w.heap.size 63 #[.int .i64 c,.int .i64 a,.bool (decide (b<a))] (0,0) _ rfl (by exact heap_alloc_new w _) Tryz.underlying63 rfl Y1z) rfl ?_;exact ⟨rfl,(HA.out _).drew.drew⟩
theorem Ya9 (kb C g nC cC cell:Nat) (num:Int) (net code:Value) (z:Nat→Int) (w:World) (h2:w.cell? ⟨kb,2,none⟩=some (.slice (some ⟨C,0,none⟩) nC cC)) (hp:w.cell? ⟨C,cell,none⟩=some (.pointer (some ⟨g,0,none⟩))) (hr:RowF w g 48 186 (cellV num net code z)) (hc:cell<nC):
  Calls Tryz.prog 35 #[.pointer (some ⟨kb,0,none⟩),.int .i64 cell] w fun e w'=>e=.returned (.tuple #[.agg #[.int .i64 (z 46),.int .i64 (z 47),.bool (decide (z 3<z 47))],.int .i64 0])∧Below w.heap.size w w':=by
 have hd:decide (0≤(cell:Int)∧(cell:Int)<nC)=true:=by simp;omega
 have hli:(cell:Int)<(nC:Int):=by omega
 have HA:Hid (∀o,Below w.heap.size w (w.alloc o)):=fun o=>(Below.refl _ _).alloc (Nat.le_refl _) _;have l2:kb<w.heap.size:=block_lt_of_cell h2;have lC:C<w.heap.size:=block_lt_of_cell hp;have A2:Hid (∀o,(w.alloc o).cell? ⟨kb,2,none⟩=some (.slice (some ⟨C,0,none⟩) nC cC)):=fun o=>((HA.out o).cell (p:=⟨kb,2,none⟩) l2).trans h2;have n2:kb≠w.heap.size:=by omega
 have nC':C≠w.heap.size:=by omega
 have HR:Hid (∀o,RowF (w.alloc o) g 48 186 (cellV num net code z)):=fun o=>hr.alloc o;clear hr
 go_enter Tryz.func35,Tryz.ntmps35
 go_wp2_with fail
 refine (Ji kb nC cC _ cell _ (A2.out _)).mono ?_;rintro e w1 ⟨rfl,rfl⟩;rw [hd];go_wp2_with fail
 refine (Y6C g (z 47) (z 3) (z 46) _ ((HR.out _).cell (by omega)) ((HR.out _).cell (by omega)) ((HR.out _).cell (by omega))).mono ?_;rintro e w' ⟨rfl,h1⟩;have H1:Hid (Below w.heap.size w w'):=(HA.out _).trans (h1.mono (by simp));have HW:Hid (RowF w' w.heap.size 3 63 (cells3 (.int .i64 0) (.int .i64 0) (.bool false))):=(row3 w _ _ _ _).of_heap (h1.block _ (by simp));have b0:=HW.out.at3.1;have b1:=HW.out.at3.2.1;have b2:=HW.out.at3.2.2;have f0:=HW.out.frozen 0;have f1:=HW.out.frozen 1;have f2:=HW.out.frozen 2;clear h1;go_wp2_with fail
 have HF:=Yan ((((HW.out.set3 (.int .i64 (z 46))).1.set3 (.int .i64 (z 47))).2.1.set3 (.bool (decide (z 3<z 47)))).2.2)
 (try simp only [Exit.inBlock,Exit.then])
 refine bodyPost_ret (Y3O (P:=Tryz.prog) rfl _ _ w.heap.size 63 #[.int .i64 (z 46),.int .i64 (z 47),.bool (decide (z 3<z 47))] (0,0) _ rfl (by exact HF) Tryz.underlying63 rfl Y1z) rfl ?_;exact ⟨rfl,((H1.out.setCell (by simp) _).setCell (by simp) _).setCell (by simp) _⟩
end Go.Proofs.YtdoghgnifkgfdaaGreat
namespace Go.Proofs.YtdoghgnifkgfdaaGreat.Mute
open Go Go.Conc Go.RowKit
theorem Ygd (x:Value):Xn Tryz.prog plan 27 #[x]:=⟨by kernel_rfl,Yi plain Tryz.func27 (by kernel_rfl) _⟩
theorem YgU (x y:Value):Xn Tryz.prog plan 33 #[x,y]:=⟨by kernel_rfl,Yi plain Tryz.func33 (by kernel_rfl) _⟩
theorem Yh8 (x y:Value):Xn Tryz.prog plan 34 #[x,y]:=⟨by kernel_rfl,Yi plain Tryz.func34 (by kernel_rfl) _⟩
theorem YfS (x y:Value):Xn Tryz.prog plan 35 #[x,y]:=⟨by kernel_rfl,Yi plain Tryz.func35 (by kernel_rfl) _⟩
structure Of (c:Cfg) (k:Ker) (N:NetK) (t:Tab):Prop where
 nC:k.nC=c.nC
 n:k.n=c.nCode
 ci:k.ci=c.code
 num:∀i,k.num i=i
 nk:N.k=c.nCh
 fr:∀i,N.fr i=c.ch (i*3+1)
 to_:∀i,N.to_ i=c.ch (i*3+2)
 nT:t.nT=c.nT
 nw:t.nw=c.nRow
 wn:t.wn=wnOf c
theorem Ye2 {c:Cfg} {v0 v1 v2 v3:Value} {w:World} (h:CfgR w v0 v1 v2 v3 c) (hw:CfgW c) (hrn:∀i,i<c.nT→c.rowN i=false) (hck:Y8 c 0 0):
  CallsR Tryz.prog 27 #[.agg #[v0,v1,v2,v3]] w (fun v w'=>Below w.heap.size w w'∧∃k N t f,v=.tuple #[.pointer (some ⟨k.kb,0,none⟩),.int .i64 0,.int .i64 0]∧Of c k N t∧YbS w' k N t (sq0 c) f (fun _=>none) 0 (fun b=>w.heap.size≤b∧b<w'.heap.size)):=by
 refine (CallsR.ofBelow (Ygd _) (fun v w'=>∃K nb vt tr,v=.tuple #[.pointer (some ⟨K,0,none⟩),.int .i64 0,.int .i64 0]∧w.heap.size<K∧KM2 c w.heap.size K nb vt tr w') (fun τ=>(Y14 c v0 v1 v2 v3 (reW w τ 0) (h.keep fun a v hv=>hv) hw hrn).mono ?_) ?_).mono ?_
 ·rintro e w' ⟨k,x,y,rfl,hc,hb,hk⟩;obtain ⟨rfl,rfl⟩:=hc.uniq hck;rcases hk with hk|⟨_,K,nb,v,tr,rfl,hK,u,xs,_,h4⟩
  ·exact absurd rfl hk.1
  ·exact ⟨_,rfl,hb,K,nb,v,tr,rfl,hK,u,xs,h4⟩
 ·rintro v w₁ τ d d' h;exact h
 ·rintro v w' ⟨hb,K,nb,vt,tr,rfl,hK,hm⟩;refine ⟨hb,?_⟩;obtain ⟨k,N,t,f,h1,rfl,h2,h3,h4,h5,h6,h7,h8,h9,h10,h11⟩:=Yg9 hm (by omega) hck;exact ⟨k,N,t,f,rfl,⟨h2,h3,h4,h5,h6,h7,h8,h9,h10,h11⟩,h1⟩
section
variable {w:World} {k:Ker} {K:NetK} {t:Tab} {s:KSq} {f:Nat→Value} {lr:Nat→Option Row} {r:Nat} {S:Nat→Prop} {cell:Nat}
theorem YbS.trace (h:YbS w k K t s f lr r S) (hc:cell<k.nC) {tz:Nat→Int} (hx:s.xs cell=(List.range (s.m cell*3)).map fun j=>.int .i64 (tz j)) (hm:s.m cell≤1000000000):
  CallsR Tryz.prog 33 #[.pointer (some ⟨k.kb,0,none⟩),.int .i64 cell] w (fun v w'=>Below w.heap.size w w'∧∃u,v=.tuple #[u,.int .i64 0]∧w'.ownsRow w.heap.size 111 3 u (s.m cell) ((List.range (s.m cell*3)).map fun j=>.int .i64 (tz j))):=by
 have ho:=h.dyn.own cell hc;rw [hx] at ho;refine CallsR.ofBelow (YgU _ _) (fun v w'=>∃u,v=.tuple #[u,.int .i64 0]∧w'.ownsRow w.heap.size 111 3 u (s.m cell) ((List.range (s.m cell*3)).map fun j=>.int .i64 (tz j))) (fun τ=>(Y4N k.kb k.T k.nC k.nC k.cC cell (s.m cell) _ (f cell) tz (reW w τ 0) h.sta.k2 h.sta.k4 (h.dyn.tr.cell hc) ho hc (by omega)).mono ?_) fun v w₁ τ d d' h=>h;rintro e w' ⟨u,rfl,h1,h2⟩;exact ⟨_,rfl,h1,u,rfl,h2⟩
theorem YbS.memory (h:YbS w k K t s f lr r S) (hc:cell<k.nC):
  CallsR Tryz.prog 34 #[.pointer (some ⟨k.kb,0,none⟩),.int .i64 cell] w (fun v w'=>Below w.heap.size w w'∧∃u,v=.tuple #[u,.int .i64 0]∧w'.ownsRow w.heap.size 2 1 u 16 ((List.range 16).map fun j=>.int .i64 (s.z cell (29+j)))):=by
 refine CallsR.ofBelow (Yh8 _ _) (fun v w'=>∃u,v=.tuple #[u,.int .i64 0]∧w'.ownsRow w.heap.size 2 1 u 16 ((List.range 16).map fun j=>.int .i64 (s.z cell (29+j)))) (fun τ=>(Y5V k.kb k.C (k.g cell) k.nC k.cC cell _ _ _ (s.z cell) (reW w τ 0) h.sta.k2 (h.sta.cl cell hc) (h.dyn.row cell hc) hc).mono ?_) fun v w₁ τ d d' h=>h;rintro e w' ⟨u,rfl,h1,h2⟩;exact ⟨_,rfl,h1,u,rfl,h2⟩
theorem YbS.stats (h:YbS w k K t s f lr r S) (hc:cell<k.nC):
  CallsR Tryz.prog 35 #[.pointer (some ⟨k.kb,0,none⟩),.int .i64 cell] w (fun v w'=>Below w.heap.size w w'∧v=.tuple #[.agg #[.int .i64 (s.z cell 46),.int .i64 (s.z cell 47),.bool (decide (s.z cell 3<s.z cell 47))],.int .i64 0]):=by
 refine CallsR.ofBelow (YfS _ _) (fun v _=>v=.tuple #[.agg #[.int .i64 (s.z cell 46),.int .i64 (s.z cell 47),.bool (decide (s.z cell 3<s.z cell 47))],.int .i64 0]) (fun τ=>(Ya9 k.kb k.C (k.g cell) k.nC k.cC cell _ _ _ (s.z cell) (reW w τ 0) h.sta.k2 (h.sta.cl cell hc) (h.dyn.row cell hc) hc).mono ?_) fun v w₁ τ d d' h=>h;rintro e w' ⟨rfl,h1⟩;exact ⟨_,rfl,h1,rfl⟩
end
def prgC (c:Cfg) (ins:List (Int×Int)) (i:Nat):Prg:=⟨c.nCode i,c.code i,i,fun j=>c.ch (j*3+1),ins⟩
def winC (c:Cfg) (ins:List (Int×Int)) (p:Nat×Nat) (s:KSq):KSq:=
 ⟨updN s.z p.1 (YbN (prgC c ins p.1) p.2 (s.z p.1) s.D).2.1,updN s.m p.1 (s.m p.1+(YbN (prgC c ins p.1) p.2 (s.z p.1) s.D).1.length),updN s.xs p.1 (s.xs p.1++(YbN (prgC c ins p.1) p.2 (s.z p.1) s.D).1.flatMap Yv),(YbN (prgC c ins p.1) p.2 (s.z p.1) s.D).2.2⟩
def rowC (c:Cfg) (ins:List (Int×Int)) (wn:Nat→Nat×Nat):Nat→Nat→KSq→KSq
 |0,_,s=>s
 |rem+1,j,s=>rowC c ins wn rem (j+1) (winC c ins (wn j) s)
def frameC (c:Cfg) (r:Nat) (ins:List (Int×Int)) (s:KSq):KSq:=
 {rowC c ins (wnOf c r) (c.nRow r) 0 s with D:=endC c.nCh (rowC c ins (wnOf c r) (c.nRow r) 0 s).D}
section
variable {c:Cfg} {k:Ker} {N:NetK} {t:Tab} {ins:List (Int×Int)}
theorem Of.prg (h:Of c k N t) (i:Nat):Yca k N ins i=prgC c ins i:=by
 unfold Yca prgC;rw [h.n,h.ci,h.num,show N.fr=fun j=>c.ch (j*3+1) from funext h.fr]
theorem Of.row (h:Of c k N t) (wn:Nat→Nat×Nat):∀(rem j:Nat) (s:KSq),Yce k N ins wn rem j s=rowC c ins wn rem j s
 |0,_,_=>rfl
 |rem+1,j,s=>by
  show Yce k N ins wn rem (j+1) (winQ k N ins (wn j) s)=rowC c ins wn rem (j+1) (winC c ins (wn j) s);have e:winQ k N ins (wn j) s=winC c ins (wn j) s:=by unfold winQ winC;rw [h.prg]
  rw [e,h.row wn rem (j+1)]
theorem Of.frame (h:Of c k N t) (r:Nat) (s:KSq):YcL k N (t.wn r) (t.nw r) ins s=frameC c r ins s:=by
 unfold YcL frameC;rw [h.row,h.wn,h.nw,h.nk]
end
end Go.Proofs.YtdoghgnifkgfdaaGreat.Mute
namespace Go.Proofs.YtdoghgnifkgfdaaGreat
open Go.RowKit
def YcX (k:Nat) (fr to_:Nat→Int) (cell:Nat) (L:List Int):Prop:=(cell:Int)∈L∧∀j,j<k→to_ j∈L→fr j∈L
theorem YeB (kb nb eb k nC cC ce:Nat) (a q:Option Addr) (fr to_:Nat→Int) (cell:Nat) (w:World) (h2:w.cell? ⟨kb,2,none⟩=some (.slice q nC cC)) (h3:w.cell? ⟨kb,3,none⟩=some (.pointer (some ⟨nb,0,none⟩))) (h0:w.cell? ⟨nb,0,none⟩=some (.slice a k ce)) (ha:0<k→a=some ⟨eb,0,none⟩) (he:∀j,j<k→w.cell? ⟨eb,j*2,none⟩=some (.int .i64 (fr j))∧w.cell? ⟨eb,j*2+1,none⟩=some (.int .i64 (to_ j))) (hk:k≤1000) (hr:∀j,j<k→0≤fr j∧fr j<nC) (hnC:nC≤1000) (hcell:cell<nC):
  Calls Tryz.prog 11 #[.pointer (some ⟨kb,0,none⟩),.int .i64 cell] w fun e w'=>∃g c n,∃L:List Int,e=.returned (.tuple #[.slice (some ⟨g,0,none⟩) n c,.int .i64 0])∧w.heap.size≤g∧L.length=n∧n≤1000∧Below w.heap.size w w'∧Sl w' (some ⟨g,0,none⟩) n (fun j=>.int .i64 (L.getD j 0))∧YcX k fr to_ cell L:=by
 have hd:decide (0≤(cell:Int)∧(cell:Int)<nC)=true:=by simp;omega
 have HC:=Yh7 YgO nb eb k nC ce a fr to_ cell w h0 ha he hk hr hnC hcell;clear h0 ha he hr
 go_enter Tryz.func11,Tryz.ntmps11
 go_wp2_with fail
 refine (Ji kb nC cC _ cell _ h2).mono ?_;rintro e w1 ⟨rfl,rfl⟩;rw [hd];go_wp2_with fail
 refine HC.mono ?_;rintro e w' ⟨g,c,n,L,rfl,q0,q1,q2,q3,q4,q5,q6⟩;have HQ:Hid (w1.heap.size≤g∧L.length=n∧n≤1000∧Below w1.heap.size w1 w'∧Sl w' (some ⟨g,0,none⟩) n (fun j=>.int .i64 (L.getD j 0))∧YcX k fr to_ cell L):=⟨q0,q1,q2,q3,q4,q5,q6⟩;clear q0 q1 q2 q3 q4 q5 q6 HC;go_wp2_with fail
 go_ret2
 exact ⟨g,c,n,L,rfl,HQ.out⟩
end Go.Proofs.YtdoghgnifkgfdaaGreat
namespace Go.Proofs.YtdoghgnifkgfdaaGreat.Mute
open Go Go.Conc Go.RowKit
theorem Yfx (x y:Value):Xn Tryz.prog plan 11 #[x,y]:=⟨by kernel_rfl,Yi plain Tryz.func11 (by kernel_rfl) _⟩
theorem YbS.above {w:World} {k:Ker} {K:NetK} {t:Tab} {s:KSq} {f:Nat→Value} {lr:Nat→Option Row} {r:Nat} {S:Nat→Prop} {cell:Nat} (h:YbS w k K t s f lr r S) (hc:cell<k.nC) (hnC:k.nC≤1000) (hr:∀j,j<K.k→0≤K.fr j∧K.fr j<k.nC):
  CallsR Tryz.prog 11 #[.pointer (some ⟨k.kb,0,none⟩),.int .i64 cell] w (fun v w'=>Below w.heap.size w w'∧∃g c n,∃L:List Int,v=.tuple #[.slice (some ⟨g,0,none⟩) n c,.int .i64 0]∧w.heap.size≤g∧L.length=n∧n≤1000∧Sl w' (some ⟨g,0,none⟩) n (fun j=>.int .i64 (L.getD j 0))∧YcX K.k K.fr K.to_ cell L):=by
 obtain ⟨a,ce,n0,na⟩:=h.sta.nc.n0;refine CallsR.ofBelow (Yfx _ _) (fun v w'=>∃g c n,∃L:List Int,v=.tuple #[.slice (some ⟨g,0,none⟩) n c,.int .i64 0]∧w.heap.size≤g∧L.length=n∧n≤1000∧Sl w' (some ⟨g,0,none⟩) n (fun j=>.int .i64 (L.getD j 0))∧YcX K.k K.fr K.to_ cell L) (fun τ=>(YeB k.kb K.nb K.eb K.k k.nC k.cC ce a _ K.fr K.to_ cell (reW w τ 0) h.sta.k2 (h.rowK.cell (j:=3) (by omega)) n0 na (fun j hj=>⟨h.sta.nc.e0 j hj,h.sta.nc.e1 j hj⟩) h.sta.nc.hk hr hnC hc).mono ?_) (fun v w₁ τ d d' ⟨g,c,n,L,h1,h0,h2,h3,h4,h5⟩=>⟨g,c,n,L,h1,h0,h2,h3,h4.keep fun _ _ h=>h,h5⟩);rintro e w' ⟨g,c,n,L,rfl,q0,q1,q2,q3,q4,q5⟩;exact ⟨_,rfl,q3,g,c,n,L,rfl,q0,q1,q2,q4,q5⟩
end Go.Proofs.YtdoghgnifkgfdaaGreat.Mute
namespace Go.Proofs.YtdoghgnifkgfdaaGreat
open Go.RowKit
def un1:Code→Code
 |.seq x _=>x
 |c=>c
def un2:Code→Code
 |.seq _ y=>y
 |c=>c
noncomputable def Ycy:Code:=match Tryz.f5.body with
 |some c=>c
 |none=>.skip
noncomputable def unPA:Code:=un1 (un2 (un2 (un2 (un2 (un2 (un2 (un2 (un2 (Ycy)))))))))
def unQ (P R:Pl) (L:List Int) (k:Nat) (i:Nat):Pl:=if i<k∧¬((i:Int)∈L) then R else P
theorem YgK {P R:Pl} {L:List Int} {k:Nat} (h:(k:Int)∈L):unQ P R L (k+1)=unQ P R L k:=by
 funext i
 unfold unQ;by_cases e:i=k
 ·subst e;rw [if_neg (fun q=>q.2 h),if_neg (fun q=>q.2 h)]
 ·by_cases hl:i<k
  ·simp [hl,Nat.lt_succ_of_lt hl]
  ·rw [if_neg (fun q=>absurd q.1 (by omega)),if_neg (fun q=>hl q.1)]
theorem Yft {P R:Pl} {L:List Int} {k:Nat} (h:¬(k:Int)∈L):unQ P R L (k+1)=fun i=>if i=k then R else unQ P R L k i:=by
 funext i
 unfold unQ;by_cases e:i=k
 ·subst e;rw [if_pos ⟨by omega,h⟩,if_pos rfl]
 ·rw [if_neg e];by_cases hl:i<k
  ·simp [hl,Nat.lt_succ_of_lt hl]
  ·rw [if_neg (fun q=>absurd q.1 (by omega)),if_neg (fun q=>hl q.1)]
structure UnW (wd WA:World) (g:Nat) (w:World):Prop where
 os:w.os=WA.os
 tape:w.tape=WA.tape
 output:w.output=WA.output
 size:WA.heap.size≤w.heap.size
 block:∀b,b<WA.heap.size→b≠g→w.heap[b]?=WA.heap[b]?
 lo:wd.heap.size+2≤g∧g<WA.heap.size
section
variable {wd WA w w':World} {g:Nat}
theorem UnW.below (h:UnW wd WA g w) (hb:Below w.heap.size w w'):UnW wd WA g w':=⟨hb.os.trans h.os,hb.tape.trans h.tape,hb.output.trans h.output,Nat.le_trans h.size hb.size,fun b h1 h2=>(hb.block b (Nat.lt_of_lt_of_le h1 h.size)).trans (h.block b h1 h2),h.lo⟩
theorem UnW.set (h:UnW wd WA g w) (j:Nat) (v:Value):UnW wd WA g (w.setCell ⟨g,j,none⟩ v):=⟨h.os,h.tape,h.output,by rw [size_setCell];exact h.size,fun b h1 h2=>(heap_setCell_other _ _ _ _ h2).trans (h.block b h1 h2),h.lo⟩
theorem UnW.row (h:UnW wd WA g w) {b m t:Nat} {f:Nat→Value} (hr:RowF WA b m t f) (hb:b≠g):RowF w b m t f:=hr.of_heap (h.block b hr.lt hb)
theorem UnW.sl (h:UnW wd WA g w) {b o m:Nat} {f:Nat→Value} (hs:∀j,j<m→WA.cell? ⟨b,o+j,none⟩=some (f j)) (hb:b≠g):Sl w (some ⟨b,o,none⟩) m f:=.inr ⟨b,o,rfl,fun j hj=>by
 have:=hs j hj;rw [←this];exact World.cell?_of_block (h.block b (block_lt_of_cell this) hb)⟩
end
theorem Y13 {w:World} {base e s g n c:Nat} {xs:List Value} (h:w.ownsRow base e s (.slice (some ⟨g,0,none⟩) n c) n xs) (a:Nat):w.frozen? ⟨g,a,none⟩=false:=by
 rcases h.2 with ⟨e,_⟩|⟨g',cap,cur,e,_,hh,_⟩
 ·cases e
 ·injection e with e1
  injection e1 with e1
  injection e1 with e1
  subst e1;unfold World.frozen?;rw [hh];simp
theorem Ydr {w:World} {base e s g n c:Nat} {f:Nat→Value} (h:w.ownsRow base e s (.slice (some ⟨g,0,none⟩) n c) n ((List.range (n*s)).map f)) {j:Nat} (hj:j<n*s):w.cell? ⟨g,j,none⟩=some (f j):=by
 have:=h.cells (g:=g) rfl j (f j) (by simp [hj]);rw [Addr.add_lit,Nat.zero_add] at this;exact this
theorem Ygu {wd WA:World} {gq gc gd ga g na ca cap BT c0 c1:Nat} {P R:Pl} {L:List Int} {vw vd:Value} {cv:Nat→Value} {gi:Nat→Nat} {A2:Nat→Option Addr} {K2:Nat→Nat} {q0 q1 p2c p3c:Option Addr} {c2 c3:Nat}
  (hL:L.length=na∧na≤1000) (hla:∀j,j<na→WA.cell? ⟨ga,0+j,none⟩=some (.int .i64 (L.getD j 0))) (hga:ga≠g) (hq:RowF WA gq 14 39 (YbT A2 K2 R)) (hPl:∀W,UnW wd WA g W→Yc4 W A2 R)
  (hc:RowF WA gc 4 28 (Yc (.slice q0 4 c0) (.slice q1 3 c1) (.slice p2c (plK P) c2) (.slice p3c (plD P) c3))) (hs2:∀W,UnW wd WA g W→Sl W p2c (plK P*3) (fun j=>.int .i64 (plCh P j))) (hs3:∀W,UnW wd WA g W→Sl W p3c (plD P) (fun j=>.int .i64 (plDv P j)))
  (hd:RowF WA gd 4 28 (Yc (.slice (some ⟨g,0,none⟩) 4 cap) (.slice (some ⟨BT+1+1+1,0,none⟩) 3 3) vw vd)) (hU:CfU wd WA P (unQ P R L 0) BT (.slice (some ⟨g,0,none⟩) 4 cap) vw vd cv gi) (hlo:wd.heap.size+2≤g∧g<WA.heap.size) (u0 u1 u2 u3 u4 u5 u7 u8 u9 u10 u13 u14 u15 u17 u18 u19 u20 u21 u22 u23 u24 u25 u26 u27 u28 u29 u30 u31 u32 u33 u34 u35 u36 u37 u38 u39 u40 u41 u42 u43 u44 u45 u46 u47 u48 u49 u50 u51 u52 u53 u54 u55 u56 u57 u58 u59 u60 u61 u62 u63 u64 u65 u66 u67 u68 u69 u70 u71 u72 u73 u74 u75 u76 u77 u78 u79 u80 u81 u82 u83 u84 u85 u86 u87 u88 u89 u90 u91 u92 u93 u94 u95 u96 u97 u98 u99 u100 u101 u102 u103 u104 u105 u106 u107 u108 u109 u110 u111 u112 u113 u114 u115 u116 u117 u118 u119 u120 u121 u122 u123 u124 u125 u126 u127 u128 u129 u130 u131 u132 u133 u134 u135 u136 u137 u138 u139 u140 u141 u142 u143 u144 u145 u146 u147 u148 u149 u150 u151 u152 u153 u154 u155 u156 u157 u158 u159 u160 u161 u162 u163 u164 u165 u166 u167 u168 u169 u170 u171 u172 u173 u174 u175 u176 u177 u178 u179 u180 u181 u182 u183 u184 u185 u186:Value):
  Code.wp Tryz.prog unPA (fun e a' w'=>e=.normal∧(a'.tmps.size=187∧a'.defers=[]∧a'.tmps.toList.getD 0 undef=u0∧a'.tmps.toList.getD 2 undef=u2∧a'.tmps.toList.getD 3 undef=u3∧a'.tmps.toList.getD 4 undef=u4∧a'.tmps.toList.getD 5 undef=u5∧a'.tmps.toList.getD 6 undef=.pointer (some ⟨gq,0,none⟩)∧a'.tmps.toList.getD 11 undef=.pointer (some ⟨gc,0,none⟩)∧a'.tmps.toList.getD 12 undef=.pointer (some ⟨gd,0,none⟩)∧a'.tmps.toList.getD 13 undef=u13∧a'.tmps.toList.getD 14 undef=u14∧a'.tmps.toList.getD 16 undef=.slice (some ⟨ga,0,none⟩) na ca)∧∃cv gi,UnW wd WA g w'∧CfU wd w' P (unQ P R L 4) BT (.slice (some ⟨g,0,none⟩) 4 cap) vw vd cv gi) {tmps:=#[u0,u1,u2,u3,u4,u5,.pointer (some ⟨gq,0,none⟩),u7,u8,u9,u10,.pointer (some ⟨gc,0,none⟩),.pointer (some ⟨gd,0,none⟩),u13,u14,u15,.slice (some ⟨ga,0,none⟩) na ca,u17,u18,u19,u20,u21,u22,u23,u24,u25,u26,u27,u28,u29,u30,u31,u32,u33,u34,u35,u36,u37,u38,u39,u40,u41,u42,u43,u44,u45,u46,u47,u48,u49,u50,u51,u52,u53,u54,u55,u56,u57,u58,u59,u60,u61,u62,u63,u64,u65,u66,u67,u68,u69,u70,u71,u72,u73,u74,u75,u76,u77,u78,u79,u80,u81,u82,u83,u84,u85,u86,u87,u88,u89,u90,u91,u92,u93,u94,u95,u96,u97,u98,u99,u100,u101,u102,u103,u104,u105,u106,u107,u108,u109,u110,u111,u112,u113,u114,u115,u116,u117,u118,u119,u120,u121,u122,u123,u124,u125,u126,u127,u128,u129,u130,u131,u132,u133,u134,u135,u136,u137,u138,u139,u140,u141,u142,u143,u144,u145,u146,u147,u148,u149,u150,u151,u152,u153,u154,u155,u156,u157,u158,u159,u160,u161,u162,u163,u164,u165,u166,u167,u168,u169,u170,u171,u172,u173,u174,u175,u176,u177,u178,u179,u180,u181,u182,u183,u184,u185,u186],defers:=[]} WA:=by
 have HL:Hid (L.length=na∧na≤1000):=hL;have HLA:Hid (∀j,j<na→WA.cell? ⟨ga,0+j,none⟩=some (.int .i64 (L.getD j 0))):=hla;have HQ:Hid (RowF WA gq 14 39 (YbT A2 K2 R)∧∀W,UnW wd WA g W→Yc4 W A2 R):=⟨hq,hPl⟩;have HC:Hid (RowF WA gc 4 28 (Yc (.slice q0 4 c0) (.slice q1 3 c1) (.slice p2c (plK P) c2) (.slice p3c (plD P) c3))∧(∀W,UnW wd WA g W→Sl W p2c (plK P*3) (fun j=>.int .i64 (plCh P j)))∧∀W,UnW wd WA g W→Sl W p3c (plD P) (fun j=>.int .i64 (plDv P j))):=⟨hc,hs2,hs3⟩;have HD:Hid (RowF WA gd 4 28 (Yc (.slice (some ⟨g,0,none⟩) 4 cap) (.slice (some ⟨BT+1+1+1,0,none⟩) 3 3) vw vd)):=hd;have HU0:Hid (UnW wd WA g WA∧CfU wd WA P (unQ P R L 0) BT (.slice (some ⟨g,0,none⟩) 4 cap) vw vd cv gi):=⟨⟨rfl,rfl,rfl,Nat.le_refl _,fun _ _ _=>rfl,hlo⟩,hU⟩;have HNE:Hid (gq≠g∧gc≠g∧gd≠g):=⟨fun e=>YbW hU.cells.own hq (by decide) (by rw [e];rfl),fun e=>YbW hU.cells.own hc (by decide) (by rw [e];rfl),fun e=>YbW hU.cells.own hd (by decide) (by rw [e];rfl)⟩;clear hL hla hq hPl hc hs2 hs3 hd hU;have hkb:plK P≤1000:=by unfold plK;omega
 have hdb:plD P≤1000:=by unfold plD;omega
 simp only [unPA,Ycy,Tryz.f5,un1,un2];go_wp2_with fail
 go_loopw [18] (fun i wr=>∃k:Nat,k≤4∧i=.int .i64 k∧Hid (UnW wd WA g wr∧∃cv gi,CfU wd wr P (unQ P R L k) BT (.slice (some ⟨g,0,none⟩) 4 cap) vw vd cv gi)) (fun i _=>4-(intOf i).toNat)
 case atStart=>exact ⟨0,Nat.zero_le _,rfl,HU0.out.1,_,_,HU0.out.2⟩
 case round=>
  clear HU0;obtain ⟨k,hk,rfl,HR⟩:=hrel;by_cases hlt:k<4
  ·have hli:(k:Int)<4:=by omega
   have HS:Hid (Sl wr (some ⟨ga,0,none⟩) na (fun j=>.int .i64 (L.getD j 0))):=HR.out.1.sl HLA.out hga;go_wp2_with fail
   refine (YdJ (some ⟨ga,0,none⟩) na ca L k _ HL.out.1 (by have:=HL.out.2;omega) HS.out).mono ?_;rintro e w' ⟨rfl,rfl⟩;by_cases hin:(k:Int)∈L
   ·have HN:Hid (UnW wd WA g w'∧∃cv gi,CfU wd w' P (unQ P R L (k+1)) BT (.slice (some ⟨g,0,none⟩) 4 cap) vw vd cv gi):=by
     show _∧_;rw [YgK hin];exact HR.out
    clear HR;go_wp2_with fail
    exact ⟨⟨k+1,by omega,by go_num,HN⟩,by simp [intOf];omega⟩
   ·have hQ:=HR.out.1.row HQ.out.1 HNE.out.1;have hC:=HR.out.1.row HC.out.1 HNE.out.2.1;have hD:=HR.out.1.row HD.out HNE.out.2.2;have k0:w'.cell? ⟨gq,0,none⟩=some (.slice (A2 0) (R.nC 0) (K2 0)):=hQ.cell (j:=0) (by omega);have k1:w'.cell? ⟨gq,1,none⟩=some (.slice (A2 1) (R.nC 1) (K2 1)):=hQ.cell (j:=1) (by omega);have k2:w'.cell? ⟨gq,2,none⟩=some (.slice (A2 2) (R.nC 2) (K2 2)):=hQ.cell (j:=2) (by omega);have k3:w'.cell? ⟨gq,3,none⟩=some (.slice (A2 3) (R.nC 3) (K2 3)):=hQ.cell (j:=3) (by omega);have k4:w'.cell? ⟨gq,4,none⟩=some (.int .i64 (R.lim 0)):=hQ.cell (j:=4) (by omega);have k5:w'.cell? ⟨gq,5,none⟩=some (.int .i64 (R.lim 1)):=hQ.cell (j:=5) (by omega);have k6:w'.cell? ⟨gq,6,none⟩=some (.int .i64 (R.lim 2)):=hQ.cell (j:=6) (by omega);have k7:w'.cell? ⟨gq,7,none⟩=some (.int .i64 (R.lim 3)):=hQ.cell (j:=7) (by omega);have k8:w'.cell? ⟨gq,8,none⟩=some (.int .i64 (R.img 0)):=hQ.cell (j:=8) (by omega);have k9:w'.cell? ⟨gq,9,none⟩=some (.int .i64 (R.img 1)):=hQ.cell (j:=9) (by omega);have k10:w'.cell? ⟨gq,10,none⟩=some (.int .i64 (R.img 2)):=hQ.cell (j:=10) (by omega);have k11:w'.cell? ⟨gq,11,none⟩=some (.int .i64 (R.img 3)):=hQ.cell (j:=11) (by omega);have k12:w'.cell? ⟨gq,12,none⟩=some (.slice (A2 4) R.nW (K2 4)):=hQ.cell (j:=12) (by omega);have k13:w'.cell? ⟨gq,13,none⟩=some (.slice (A2 5) R.nD (K2 5)):=hQ.cell (j:=13) (by omega);have b0:w'.cell? ⟨gc,0,none⟩=some (.slice q0 4 c0):=hC.cell (j:=0) (by omega);have b1:w'.cell? ⟨gc,1,none⟩=some (.slice q1 3 c1):=hC.cell (j:=1) (by omega);have b2:w'.cell? ⟨gc,2,none⟩=some (.slice p2c (plK P) c2):=hC.cell (j:=2) (by omega);have b3:w'.cell? ⟨gc,3,none⟩=some (.slice p3c (plD P) c3):=hC.cell (j:=3) (by omega);have d0:w'.cell? ⟨gd,0,none⟩=some (.slice (some ⟨g,0,none⟩) 4 cap):=hD.cell (j:=0) (by omega);have HDR:Hid (RowF w' gd 4 28 (Yc (.slice (some ⟨g,0,none⟩) 4 cap) (.slice (some ⟨BT+1+1+1,0,none⟩) 3 3) vw vd)):=hD;have HONE:=one_any A2 K2 R k hlt q0 q1 p2c p3c 4 c0 3 c1 (plK P) c2 (plD P) c3 (plCh P) (plDv P) w' (HQ.out.2 _ HR.out.1) (HC.out.2.1 _ HR.out.1) (HC.out.2.2 _ HR.out.1) hkb hdb;unfold Yci at HONE;clear hQ hC hD
    go_upto_region 16 with (first
     |(go_at_call 13
       refine HONE.mono ?_;rintro e w1 ⟨v,gn,rfl,hb1,ho1,hi1,hg1⟩;obtain ⟨pv,mv,cc,rfl⟩:=ZT ho1;have hB1:=HR.out.1.below hb1;obtain ⟨cvk,gik,hUk⟩:=HR.out.2;have hU1:=hUk.below hb1;have hsz1:=HR.out.1.size;have hsz2:=hb1.size;have hDl:=HDR.out.lt;have HW1:Hid (UnW wd WA g w1∧CfU wd w1 P (unQ P R L k) BT (.slice (some ⟨g,0,none⟩) 4 cap) vw vd cvk gik∧w1.ownsRow w'.heap.size 97 4 (.slice pv mv cc) (plN R k+1) (Yc1 (YbV (plK P) (plCh P) (plD P) (plDv P) R k) (plN R k+1))∧RowF w1 gn 2 2 (twoF (R.img k))∧w'.heap.size≤gn∧wd.heap.size+2≤w'.heap.size):=⟨hB1,hU1,ho1,hi1,hg1,by omega⟩;have HDl:Hid (RowF w1 gd 4 28 (Yc (.slice (some ⟨g,0,none⟩) 4 cap) (.slice (some ⟨BT+1+1+1,0,none⟩) 3 3) vw vd)):=HDR.out.below hb1 HDR.out.lt;clear hB1 hU1 hUk ho1 hi1 hg1 hb1 hDl HR HONE HDR hsz1 hsz2 k0 k1 k2 k3 k4 k5 k6 k7 k8 k9 k10 k11 k12 k13 b0 b1 b2 b3 d0))
    have hBA:Below w1.heap.size w1 (w1.alloc (.cells #[.slice pv mv cc,.slice (some ⟨gn,0,none⟩) 2 2,.int .i64 (pk (R.lim k) 6)] 53)):=(Below.refl _ _).alloc (Nat.le_refl _) _;have hX:=row3 w1 (.slice pv mv cc) (.slice (some ⟨gn,0,none⟩) 2 2) (.int .i64 (pk (R.lim k) 6)) 53;have H4:Hid (UnW wd WA g (w1.alloc (.cells #[.slice pv mv cc,.slice (some ⟨gn,0,none⟩) 2 2,.int .i64 (pk (R.lim k) 6)] 53))∧CfU wd (w1.alloc (.cells #[.slice pv mv cc,.slice (some ⟨gn,0,none⟩) 2 2,.int .i64 (pk (R.lim k) 6)] 53)) P (unQ P R L k) BT (.slice (some ⟨g,0,none⟩) 4 cap) vw vd cvk gik∧(w1.alloc (.cells #[.slice pv mv cc,.slice (some ⟨gn,0,none⟩) 2 2,.int .i64 (pk (R.lim k) 6)] 53)).ownsRow (wd.heap.size+2) 97 4 (.slice pv mv cc) (plN R k+1) (Yc1 (YbV (plK P) (plCh P) (plD P) (plDv P) R k) (plN R k+1))∧RowF (w1.alloc (.cells #[.slice pv mv cc,.slice (some ⟨gn,0,none⟩) 2 2,.int .i64 (pk (R.lim k) 6)] 53)) gn 2 2 (twoF (R.img k))∧wd.heap.size+2≤gn∧RowF (w1.alloc (.cells #[.slice pv mv cc,.slice (some ⟨gn,0,none⟩) 2 2,.int .i64 (pk (R.lim k) 6)] 53)) gd 4 28 (Yc (.slice (some ⟨g,0,none⟩) 4 cap) (.slice (some ⟨BT+1+1+1,0,none⟩) 3 3) vw vd)):=
     ⟨HW1.out.1.below hBA,HW1.out.2.1.below hBA,YcV (own_below HW1.out.2.2.1 hBA) HW1.out.2.2.2.2.2,HW1.out.2.2.2.1.below hBA HW1.out.2.2.2.1.lt,Nat.le_trans HW1.out.2.2.2.2.2 HW1.out.2.2.2.2.1,HDl.out.below hBA HDl.out.lt⟩
    clear hBA HW1 HDl;generalize w1.alloc (.cells #[.slice pv mv cc,.slice (some ⟨gn,0,none⟩) 2 2,.int .i64 (pk (R.lim k) 6)] 53)=W4 at *;generalize w1.heap.size=gx at *;have x0:W4.cell? ⟨gx,0,none⟩=some (.slice pv mv cc):=hX.cell (j:=0) (by omega);have x1:W4.cell? ⟨gx,1,none⟩=some (.slice (some ⟨gn,0,none⟩) 2 2):=hX.cell (j:=1) (by omega);have x2:W4.cell? ⟨gx,2,none⟩=some (.int .i64 (pk (R.lim k) 6)):=hX.cell (j:=2) (by omega);have e0:W4.cell? ⟨gd,0,none⟩=some (.slice (some ⟨g,0,none⟩) 4 cap):=H4.out.2.2.2.2.2.cell (j:=0) (by omega);have s0:W4.cell? ⟨g,k*3,none⟩=some (ZQ (unQ P R L k) cvk gik (k*3)):=Ydr H4.out.2.1.cells.own (by omega);have s1:W4.cell? ⟨g,k*3+1,none⟩=some (ZQ (unQ P R L k) cvk gik (k*3+1)):=Ydr H4.out.2.1.cells.own (by omega);have s2:W4.cell? ⟨g,k*3+2,none⟩=some (ZQ (unQ P R L k) cvk gik (k*3+2)):=Ydr H4.out.2.1.cells.own (by omega);have s0f:=Y13 H4.out.2.1.cells.own (k*3);have s1f:=Y13 H4.out.2.1.cells.own (k*3+1);have s2f:=Y13 H4.out.2.1.cells.own (k*3+2);clear hX;generalize ZQ (unQ P R L k) cvk gik (k*3)=z0 at *;generalize ZQ (unQ P R L k) cvk gik (k*3+1)=z1 at *;generalize ZQ (unQ P R L k) cvk gik (k*3+2)=z2 at *;have HNX:Hid (UnW wd WA g (((W4.setCell ⟨g,k*3,none⟩ (.slice pv mv cc)).setCell ⟨g,k*3+1,none⟩ (.slice (some ⟨gn,0,none⟩) 2 2)).setCell ⟨g,k*3+2,none⟩ (.int .i64 (pk (R.lim k) 6)))∧∃cv gi,CfU wd (((W4.setCell ⟨g,k*3,none⟩ (.slice pv mv cc)).setCell ⟨g,k*3+1,none⟩ (.slice (some ⟨gn,0,none⟩) 2 2)).setCell ⟨g,k*3+2,none⟩ (.int .i64 (pk (R.lim k) 6))) P (unQ P R L (k+1)) BT (.slice (some ⟨g,0,none⟩) 4 cap) vw vd cv gi):=by
     have hput:=H4.out.2.1.put hlt H4.out.2.2.1 H4.out.2.2.2.1 H4.out.2.2.2.2.1;rw [←Yft hin] at hput;exact ⟨((H4.out.1.set _ _).set _ _).set _ _,_,_,hput⟩
    clear H4;go_wp2_with fail
    exact ⟨⟨k+1,by omega,by go_num,HNX⟩,by simp [intOf];omega⟩
  ·obtain rfl:k=4:=by omega
   go_wp2_with fail
   obtain ⟨h1,cv,gi,h2⟩:=HR.out;exact ⟨h1,cv,gi,h2⟩
end Go.Proofs.YtdoghgnifkgfdaaGreat
