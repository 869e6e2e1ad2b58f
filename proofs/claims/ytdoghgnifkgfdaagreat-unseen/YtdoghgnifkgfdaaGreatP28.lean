import Derived.Conc.AppendEvents3
import Derived.Conc.PipeWords
import Derived.Test.YtdoghgnifkgfdaaGreatP19
import Derived.Test.YtdoghgnifkgfdaaGreatP21
import Derived.Test.YtdoghgnifkgfdaaGreatP22
import Derived.Test.YtdoghgnifkgfdaaGreatP23
import Derived.Test.YtdoghgnifkgfdaaGreatP25
import Derived.Test.YtdoghgnifkgfdaaGreatP26
import Derived.Test.YtdoghgnifkgfdaaGreatP27
set_option maxRecDepth 100000
set_option maxHeartbeats 16000000
namespace Go.Proofs.YtdoghgnifkgfdaaGreat.Mute
open Go Go.Conc Go.RowKit
inductive Out where
 |on (op:Int) (said:Option Int) (z:Nat→Int)
 |broke (why:Int) (z:Nat→Int)
def Y9 (z:Nat→Int):Nat→Int:=zset (zset z 46 (IntKind.i64.wrap (z 46+1))) 45 (((z 45).toNat:Int)+1)
def Y7 (n:Nat) (ci z:Nat→Int):Out:=
 if z 45=n then .broke 3 (zset z 46 (IntKind.i64.wrap (z 46+1)))
 else
  let k:=(z 45).toNat*4
  let R:=(ci (k+1)).toNat
  let A:=(ci (k+2)).toNat
  let N:=ci (k+3)
  let y:=Y9 z
  if ci k=1 then .on 1 none (zset y (25+R) N)
  else if ci k=2 then .on 2 none (zset y (25+R) (IntKind.i64.wrap (y (25+R)+y (25+A))))
  else if ci k=3 then .on 3 none (zset y (25+R) (IntKind.i64.wrap (y (25+R)-y (25+A))))
  else if ci k=4 then .on 4 none (zset y (25+R) (IntKind.i64.wrap (y (25+R)*y (25+A))))
  else if ci k=5 then (if y (25+A)=0 then .broke 1 y else .on 5 none (zset y (25+R) (IntKind.i64.wrap ((y (25+R)).tdiv (y (25+A))))))
  else if ci k=6 then (if y (25+A)<0∨16≤y (25+A) then .broke 2 y else .on 6 none (zset y (25+R) (y (29+(y (25+A)).toNat))))
  else if ci k=7 then (if y (25+A)<0∨16≤y (25+A) then .broke 2 y else .on 7 none (zset y (29+(y (25+A)).toNat) (y (25+R))))
  else if ci k=8 then .on 8 none (zset y 45 N)
  else if ci k=9 then .on 9 none (if y (25+R)=0 then zset y 45 N else y)
  else if ci k=15 then .on 15 (some (y (25+R))) y
  else .on 0 none y
def said (x:Int):Value:=.agg #[.int .i64 1,.int .i64 x,.int .i64 0]
def Out.sent:Out→List Value
 |.on _ (some x) _=>[said x]
 |_=>[]
section
variable {L:Lot} {w0:World} {rows:List Row} {ic g cb co n cc:Nat} {num:Int} {net:Value} {z ci:Nat→Int}
def brk (y:Int):List PanicEntry:=[{v:=.iface 222 (.int .i64 y),recovered:=false}]
abbrev YB (cb co n cc:Nat):Value:=.slice (some ⟨cb,co,none⟩) n cc
theorem XQ.mono {P:Program} {FS:World→Prop} {f:FuncId} {args:Array Value} {w:World} {evs evs':List Value} {Post Post':Value→World→Prop} {Die Die':List PanicEntry→World→Prop} (h:XQ P L FS f args w evs Post Die) (he:evs=evs') (hp:∀v w',Post v w'→Post' v w') (hd:∀c w',Die c w'→Die' c w'):XQ P L FS f args w evs' Post' Die':=by
 subst he;exact fun cl cs vs h1 h2=>h cl cs vs (fun v w' x=>h1 v w' (hp v w' x)) fun ch w' x=>h2 ch w' (hd ch w' x)
end
section
variable {P:Program} {o:Oper} {a:Act} {w:World} {x y:Operand} {ty:TypeId} {b off:Nat}
theorem Y5Z (ho:o.op=.load ty x) (hx:a.eval x=.pointer (some ⟨b,off,none⟩)) (cs:List Value) (d:TypeDesc) (hc:w.rangeAt b off cs) (hu:P.underlying ty=some d) (hd:d.isRow=true) (hi:(P.info? ty).map (·.size)=some cs.length):
  (execOp a.eval o).run P w=.ok (.value (.agg cs.toArray)) w:=by
 unfold execOp;simp only [ho,hx,Sem.run_bind,Sem.run_pure,Result.andThen_ok,run_loadAt_mid w b off ty cs d hc hu hd hi]
theorem Ya4 (ho:o.op=.load ty x) (hx:a.eval x=.pointer (some ⟨b,off,none⟩)) (cs:List Value) (d:TypeDesc) (hc:w.rangeAt b off cs) (hu:P.underlying ty=some d) (hd:d.isRow=true) (hi:(P.info? ty).map (·.size)=some cs.length):
  ∀e∈(execOp a.eval o).events P w #[],∃ad,e.loc=.cell ad∧ad.block=b:=by
 intro e he;have hagg:(isAgg ty).run P w=.ok true w:=by
  unfold isAgg;rw [Sem.run_bind,run_underlying hu w];cases d<;>simp_all
 have haggE:(isAgg ty).events P w #[]=#[]:=by
  unfold isAgg;rw [Sem.events_bind,run_underlying hu w,events_underlying];cases d<;>simp_all
 cases hq:P.info? ty with
 |none=>simp [hq] at hi
 |some i=>
  have hs:i.size=cs.length:=by simpa [hq] using hi
  have hE:(execOp a.eval o).events P w #[]=(loadCells ⟨b,off,none⟩ cs.length).events P w #[]:=by
   unfold execOp;simp [ho,hx,Instr.loadAt,Instr.sureAddr,loadVar,Sem.events_bind,hagg,haggE,sizeOf,typeInfo,hq,hs]
  rw [hE] at he;rcases events_loadCellsFrom_at (P:=P) ⟨b,off,none⟩ (fun g=>g=b) rfl cs.length 0 #[] w #[] (fun j hj=>by
   rw [Nat.zero_add,Addr.add_mid,hc j cs[j] (List.getElem?_eq_getElem hj)];rfl) e he with h|⟨ad,h1,_,h2⟩
  ·simp at h
  ·exact ⟨ad,h1,h2⟩
theorem Yaf (ho:o.op=.store ty x y) (hx:a.eval x=.pointer (some ⟨b,off,none⟩)) (cells:Array Value) (hy:a.eval y=.agg cells) (ht:w.there b off cells.size) (hi:(P.info? ty).map (·.size)=some cells.size) (h1:cells.all (·.oneCell')=true):
  (execOp a.eval o).run P w=.ok .skip (w.setCells b off cells.toList):=by
 unfold execOp;simp only [ho,hx,hy,Sem.run_bind,Sem.run_pure,Result.andThen_ok,run_storeAt_mid w b off ty cells ht hi h1]
theorem Y7e (ho:o.op=.store ty x y) (hx:a.eval x=.pointer (some ⟨b,off,none⟩)) (cells:Array Value) (hy:a.eval y=.agg cells) (m t:Nat) (f:Nat→Value) (hr:RowF w b m t f) (hm:off+cells.size≤m) (hi:(P.info? ty).map (·.size)=some cells.size) (h1:cells.all (·.oneCell')=true):
  ∀e∈(execOp a.eval o).events P w #[],∃ad,e.loc=.cell ad∧ad.block=b:=by
 intro e he;cases hq:P.info? ty with
 |none=>simp [hq] at hi
 |some i=>
  have hs:cells.size=i.size:=by simp [hq] at hi;omega
  have hE:(execOp a.eval o).events P w #[]=(storeCells ⟨b,off,none⟩ cells.toList).events P w #[]:=by
   unfold execOp;simp [ho,hx,hy,Instr.storeAt,Instr.sureAddr,storeVar,Sem.events_bind,sizeOf,typeInfo,hq,Value.cells,hs]
  rw [hE] at he;obtain ⟨cs,g1,g2,_⟩:=hr;rcases events_storeCells_at b off t cells.toList 0 cs w #[] g1 (by simp;omega) (fun v hv=>(Array.all_eq_true_iff_forall_mem.1 h1) v (by simpa using hv)) e he with h|h
  ·simp at h
  ·exact h
end
section
variable {L:Lot} {w0 w w':World} {rows:List Row} {i:Nat} {r:Row}
theorem Kn.doesAny (h:Kn L w0 rows w) (hi:rows[i]?=some r) (ht:Turn L L.send w w') (hch:w'.heap[L.c]?=w.heap[L.c]?) {es:Array Event} (hes:∀e∈es,∃ad,e.loc=.cell ad∧ad.block=r.g):L.D1 w w' es:=by
 have ho:=h.row i r hi;obtain ⟨o,hg⟩:=ho.rw.calm.there;obtain ⟨o',h1,h2,_⟩:=ht.at_ r.g o hg;refine ⟨ht,hch,fun e he=>?_⟩;obtain ⟨ad,hl,hb⟩:=hes e he;obtain ⟨loc,wr,sy⟩:=e;simp only at hl;subst hl;refine ⟨YR _ _ _,fun x hx _=>?_⟩;have:x=⟨.cell ad,wr,if sy then .atomic else .plain⟩:=by
  cases wr<;>cases sy<;>simp [MemAct.ofEvent,MemAct.touch?] at hx<;>exact hx.symm
 subst this;exact ⟨o',by rw [hb];exact h1,by rw [hb];exact fun hm=>ho.rw.calm.no o hg (L.tells_main r.g o' o (fun hc=>(h2 hc).symm) hm),fun _=>by rw [hb];exact L.tells_send r.g o o' h2 (ho.own o hg)⟩
def Row.puts (r:Row) (off:Nat) (vs:List Value):Row:={r with f:=fun j=>if off≤j∧j<off+vs.length then vs.getD (j-off) undef else r.f j}
theorem Kn.setCells:∀(vs:List Value) (off:Nat) (r:Row) (rows:List Row) (w:World),Kn L w0 rows w→rows[i]?=some r→Kn L w0 (rows.set i (r.puts off vs)) (w.setCells r.g off vs)∧Turn L L.send w (w.setCells r.g off vs)∧(w.setCells r.g off vs).heap[L.c]?=w.heap[L.c]?
 | [],off,r,rows,w,h,hi=>by
  refine ⟨Kn.congr (r:=r) ?_ hi rfl rfl rfl fun j _=>?_,.refl _,rfl⟩
  ·rw [Y4p hi];exact h
  ·show r.f j=if off≤j∧j<off+0 then _ else r.f j;rw [if_neg (by omega)]
 |v::vs,off,r,rows,w,h,hi=>by
  have h1:=h.set hi off v;obtain ⟨h2,h3,h4⟩:=Kn.setCells vs (off+1) (r.put off v) _ _ h1 (YN hi _);rw [List.set_set] at h2;refine ⟨Kn.congr h2 hi rfl rfl rfl fun j _=>?_,(h.turnSet hi off v).trans h3,h4.trans (h.chanSet hi off v)⟩;show (if off+1≤j∧j<off+1+vs.length then vs.getD (j-(off+1)) undef else upd r.f off v j)=if off≤j∧j<off+(v::vs).length then (v::vs).getD (j-off) undef else r.f j;simp only [List.length_cons];by_cases hj:off+1≤j∧j<off+1+vs.length
  ·rw [if_pos hj,if_pos (by omega),show j-off=(j-(off+1))+1 by omega];rfl
  ·rw [if_neg hj];by_cases hk:j=off
   ·subst hk;rw [upd_same,if_pos (by omega),Nat.sub_self];rfl
   ·rw [upd_ne _ _ hk,if_neg (by omega)]
end
section
variable {L:Lot} {w0:World} {rows:List Row} {ic g nb:Nat} {num:Int} {code:Value} {z:Nat→Int}
theorem Y9a (p:Option Addr) (cap:Nat) (hs:Still L w0 nb) (hnet:w0.cell? ⟨nb,0,none⟩=some (.slice p 0 cap)) (k:Int) (w:World) (hF:Kn L w0 rows w):
  Yl Tryz.prog false L.R1 L.D1 125 #[.pointer (some ⟨nb,0,none⟩),.int .i64 k] w (fun _ w'=>Kn L w0 rows w') (fun _ _=>False):=by
 have hk:(base 125).kind≠.early:=by simp [base]
 refine Yl.intro L.terms1 #[.pointer (some ⟨nb,0,none⟩),.int .i64 k,undef,undef,undef,undef,undef,undef,undef,undef,undef,undef,undef,undef,undef,undef,undef,undef,undef,undef,undef,undef,undef,undef,undef,undef,undef,undef,undef,undef,undef,undef,undef,undef,undef] Tryz.func125 rfl (by kernel_rfl) fun cl cs Stop Ret _=>?_;repeat refine .c1 L.terms1 rfl ?_
 refine .regionL L.terms1 [0,1,2,3,4,5] (by rfl) ?_;iterate 3 (refine .opV L.terms1 rfl (by rfl) hk ?_;try walk_nrm)
 refine .op rfl (by rfl) hk fun w1 hR K hK=>?_;replace hF:=hF.rely hR;clear hR;have hc:World.cell? _ ⟨nb,0,none⟩=some (.slice p 0 cap):=(hF.stillCell (a:=⟨nb,0,none⟩) hs).trans hnet;go_simp;try (unfold stored;go_simp)
 refine hK _ _ ⟨?_,?_⟩
 ·refine hF.stillLooks hs ?_;co_evs (exact ⟨_,rfl⟩)
 clear hK K;clear hc;try walk_nrm
 iterate 2 (refine .opV L.terms1 rfl (by rfl) hk ?_;try walk_nrm)
 repeat refine .c1 L.terms1 rfl ?_
 refine Y1.loop L.terms1 ?_;repeat refine .c1 L.terms1 rfl ?_
 refine .regionL L.terms1 [0] (by rfl) ?_;refine .opV L.terms1 rfl (by rfl) hk ?_;try walk_nrm
 repeat refine .c1 L.terms1 rfl ?_
 refine Y1.condF L.terms1 (by first|rfl|simp [Act.eval]) ?_;refine Y1.exit L.terms1 rfl ?_;refine Y1.fin L.terms1 ?_;exact Ret _ _ _ _ rfl (Y0L L.terms1 (by rfl) _) hF
def Yo (z:Nat→Int) (j:Nat):Int:=if j=47 then IntKind.i64.wrap (z 47+1) else if 25≤j∧j<46 then z (j-21) else z j
def Xb (z:Nat→Int):List Value:=(List.range 21).map fun j=>.int .i64 (z (4+j))
theorem JR (z:Nat→Int):(Xb z).length=21:=by simp [Xb]
theorem Y9o (z:Nat→Int):∀v∈Xb z,v.oneCell'=true:=fun v hv=>by obtain ⟨y,_,rfl⟩:=List.mem_map.1 hv;rfl
theorem Y9q (z:Nat→Int) {j:Nat} (hj:j<21):(Xb z).getD j undef=.int .i64 (z (4+j)):=by simp [Xb,hj]
theorem Y3m {w:World} {net:Value} (hF:Kn L w0 rows w) (hi:rows[ic]?=some (Y5 g num net code z)):w.rangeAt g 4 (Xb z):=fun j v hv=>by
 unfold Xb at hv;rw [List.getElem?_map] at hv;obtain ⟨y,hy,rfl⟩:=Option.map_eq_some_iff.1 hv;have hj:j<21:=by
  have:=(List.getElem?_eq_some_iff.1 hy).1;simpa using this
 rw [List.getElem?_range hj] at hy;cases hy;exact hF.cellZ hi (j:=4+j) (by omega) (by omega)
def Zj (z:Nat→Int) (j:Nat):Int:=if 25≤j∧j<46 then z (j-21) else z j
theorem Y5w {net:Value} (j:Nat):((Y5 g num net code z).puts 25 (Xb z)).f j=cellV num net code (Zj z) j:=by
 show (if 25≤j∧j<25+(Xb z).length then (Xb z).getD (j-25) undef else cellV num net code z j)=_;rw [JR];unfold cellV Zj;by_cases h:25≤j∧j<46
 ·rw [if_pos (by omega),Y9q z (by omega),if_neg (by omega),if_neg (by omega),if_neg (by omega),if_pos h,show 4+(j-25)=j-21 by omega]
 ·rw [if_neg (by omega),if_neg h]
theorem Y9e (z:Nat→Int) (j:Nat):zset (Zj z) 47 (IntKind.i64.wrap (z 47+1)) j=Yo z j:=by
 unfold zset Zj Yo;rfl
end
abbrev one1 (b t:Nat) (v:Value):Row:=⟨b,1,t,fun _=>v⟩
def XU (y k:Int):Value:=.agg #[.int .i64 2,.int .i64 y,.int .i64 k]
section
variable {L:Lot} {w0:World} {rows:List Row} {ic g nb p c y:Nat} {num:Int} {code:Value} {z:Nat→Int}
theorem KnL.l1 {ls:List Row} {w:World} {k b t:Nat} {v:Value} (h:KnL L w0 rows ls w) (hk:ls[k]?=some (one1 b t v)):w.cell? ⟨b,0,none⟩=some v:=h.lcell hk (j:=0) (show 0<1 by omega)
theorem KnL.new1 {ls:List Row} {w:World} (h:KnL L w0 rows ls w) {t:Nat} (ht:(t==L.ev)=false) (v:Value):KnL L w0 rows (ls++[one1 w.heap.size t v]) (w.alloc (.cells #[v] t)):=
 h.alloc #[v] t (fun _=>v) ht fun j hj=>by
  have:j=0:=by simp at hj;exact hj
  subst this;rfl
theorem KnL.set1 {ls:List Row} {w:World} {k b t:Nat} {v:Value} (h:KnL L w0 rows ls w) (hk:ls[k]?=some (one1 b t v)) (v':Value):KnL L w0 rows (ls.set k (one1 b t v')) (w.setCell ⟨b,0,none⟩ v'):=
 (h.lset hk 0 v').lcongr hk rfl rfl rfl fun j hj=>by
  have:j=0:=by have:j<1:=hj;omega
  subst this;rfl
abbrev runL (L:Lot) (g p c y:Nat) (v:Int):List Row:=[one1 p 143 (.pointer (some ⟨g,0,none⟩)),one1 c 221 (.chan (some L.c)),one1 y 2 (.int .i64 v)]
abbrev runD (p c y:Nat):Deferred:={target:=.fn (.func 111) #[.pointer (some ⟨p,0,none⟩),.pointer (some ⟨c,0,none⟩),.pointer (some ⟨y,0,none⟩)],args:=#[]}
theorem Y3x {Stop:Goroutine→World→Prop} {fr:Frame} {cs:List Frame} {ls:List Row} (hm:fr.mode=.returning) (hd:fr.defers=[runD p c y]) (w:World) (hF:KnL L w0 rows ls w)
  (h:∀w',KnL L w0 rows ls w'→Y1 Tryz.prog false L.R1 L.D1 Stop (G {fr with defers:=[]} cs) w'):Y1 Tryz.prog false L.R1 L.D1 Stop (G fr cs) w:=by
 have hk:(baseD 111).kind≠.early:=by simp [baseD]
 refine Y1.unwind L.terms1 #[.pointer (some ⟨p,0,none⟩),.pointer (some ⟨c,0,none⟩),.pointer (some ⟨y,0,none⟩),undef,undef,undef,undef,undef,undef,undef,undef,undef,undef,undef,undef,undef,undef,undef,undef,undef] (by rw [hm];simp) hd Tryz.func111 (by rfl) rfl (by kernel_rfl) ?_;repeat refine .c1 L.terms1 rfl ?_
 refine .regionL L.terms1 [0,1,2,3,4,5,6] (by rfl) ?_;refine Y1.recoverNone L.terms1 rfl (by rfl) rfl rfl hm ?_;try walk_nrm
 refine .op rfl (by rfl) hk fun w1 hR K hK=>?_;replace hF:=hF.rely hR;clear hR;go_simp;try (unfold stored;go_simp)
 refine hK _ _ ⟨?_,?_⟩
 ·rw [listed_nil (by rfl)];exact Terms.idle L.terms1 _
 clear hK K;try walk_nrm
 iterate 5 (refine .opV L.terms1 rfl (by rfl) hk ?_;try walk_nrm)
 repeat refine .c1 L.terms1 rfl ?_
 refine .regionL L.terms1 [0] (by rfl) ?_;refine .opV L.terms1 rfl (by rfl) hk ?_;try walk_nrm
 repeat refine .c1 L.terms1 rfl ?_
 refine Y1.condF L.terms1 (by rfl) ?_;repeat refine .c1 L.terms1 rfl ?_
 refine Y1.fin L.terms1 ?_;exact Y1.leaveD L.terms1 Tryz.func111 rfl (Y0L L.terms1 (by rfl) _) (.inl ⟨hm,rfl⟩) (h _ hF)
end
structure Zok (n:Nat) (z:Nat→Int):Prop where
 lo:0≤z 45
 hi:z 45≤n
 first:z 24=0
theorem Yar {n:Nat} {z:Nat→Int} (h:Zok n z) (hz:z 45≠n):Zok n (Y9 z):=by
 have h1:=h.lo;have h2:=h.hi;refine ⟨?_,?_,?_⟩
 ·show 0≤zset _ 45 _ 45;rw [Z7];omega
 ·show zset _ 45 _ 45≤_;rw [Z7];omega
 ·show zset (zset z 46 _) 45 _ 24=0;rw [YQ _ _ (by omega),YQ _ _ (by omega)];exact h.first
theorem Zok.set {n:Nat} {z:Nat→Int} (h:Zok n z) {j:Nat} (h1:25≤j) (h2:j≠45) (v:Int):Zok n (zset z j v):=
 ⟨by rw [YQ _ _ (by omega)];exact h.lo,by rw [YQ _ _ (by omega)];exact h.hi,by rw [YQ _ _ (by omega)];exact h.first⟩
theorem Zok.jump {n:Nat} {z:Nat→Int} (h:Zok n z) {v:Int} (h1:0≤v) (h2:v≤n):Zok n (zset z 45 v):=
 ⟨by rw [Z7];exact h1,by rw [Z7];exact h2,by rw [YQ _ _ (by omega)];exact h.first⟩
theorem Y6l {n:Nat} {z:Nat→Int} (h:z 24=0):Zok n (Yo z):=by
 have e:Yo z 45=0:=by
  have:Yo z 45=z 24:=rfl;rw [this];exact h
 exact ⟨by rw [e];omega,by rw [e];omega,h⟩
def Xk (k y:Int):Value:=.agg #[.int .i64 3,.int .i64 k,.int .i64 y]
theorem choose_lt {α:Type} (d:α) {n:Nat} {P:Nat→α→Prop} (h:∀i,i<n→∃x,P i x):∃f:Nat→α,∀i,i<n→P i (f i):=
 ⟨fun i=>if hi:i<n then Classical.choose (h i hi) else d,fun i hi=>by
  simp only [hi,dite_true];exact Classical.choose_spec (h i hi)⟩
def wnOf (c:Cfg) (i j:Nat):Nat×Nat:=((c.row i (j*2)).toNat,(c.row i (j*2+1)).toNat)
theorem Y1M (lim:Int) (m:Nat) (img:Nat→Int) (n:Nat) (hm:m≤16):Zok n (newZ lim m img)∧IntKind.i64.wrap (newZ lim m img 46)=newZ lim m img 46:=by
 have e45:newZ lim m img 45=0:=by unfold newZ;rw [if_neg (by omega),if_neg (by omega),if_neg (by omega)]
 have e24:newZ lim m img 24=0:=by unfold newZ;rw [if_neg (by omega),if_neg (by omega),if_neg (by omega)]
 have e46:newZ lim m img 46=0:=by unfold newZ;rw [if_neg (by omega),if_neg (by omega),if_neg (by omega)]
 exact ⟨⟨by rw [e45];omega,by rw [e45];omega,e24⟩,by rw [e46];rfl⟩
theorem Y8.rowsAll {c:Cfg} (h:Y8 c 0 0):Yb (YU c) c.nT:=by
 unfold Y8 at h;rcases h with h|h|⟨_,_,i,_,h,_⟩|h|⟨_,_,_,_,i,_,h,_⟩|h|⟨_,_,_,_,_,_,i,_,h,_⟩|⟨_,_,_,_,_,_,_,i,_,h,_⟩|h
 ·exact absurd h.2.1 (by omega)
 ·exact absurd h.2.2.1 (by omega)
 ·exact absurd h (by omega)
 ·exact absurd h.2.2.2.2.1 (by omega)
 ·exact absurd h (by omega)
 ·exact absurd h.2.2.2.2.2.2.1 (by omega)
 ·exact absurd h (by omega)
 ·exact absurd h (by omega)
 ·exact h.2.2.1
theorem Y2v {c:Cfg} {i:Nat} (h:YU c i):c.nRow i≤6∧∀j,j<c.nRow i→((wnOf c i j).1:Int)=c.row i (j*2)∧((wnOf c i j).2:Int)=c.row i (j*2+1)∧(wnOf c i j).1<c.nC∧(wnOf c i j).2≤200:=by
 obtain ⟨h1,h2,h3⟩:=h;refine ⟨h1,fun j hj=>?_⟩;obtain ⟨a,b,d⟩:=h2 j hj;have hs:=(Y27 (c.row i) (c.nRow i) (fun k hk=>(h2 k hk).2.2)).2 j hj;unfold wnOf;omega
section
variable {w:World}
theorem Jb {a b:Nat} {ca cb:Array Value} {ta tb:Nat} {fa fb:Nat×Nat} (ha:w.heap[a]?=some (.cells ca ta fa)) (hb:w.heap[b]?=some (.cells cb tb fb)) (ht:ta≠tb):a≠b:=fun e=>by
 subst e;rw [ha] at hb;cases hb;exact ht rfl
theorem Zy {b e s n:Nat} {v:Value} {xs:List Value} (h:w.ownsRow b e s v n xs) {g:Nat} (hg:v.ownBlock=some g):∃cs,w.heap[g]?=some (.cells cs e (0,0)):=by
 rcases h.2 with ⟨hv,_⟩|⟨g',cap,cur,hv,_,hh,_⟩
 ·rw [hv] at hg;simp [Value.ownBlock] at hg
 ·rw [hv] at hg;have:g'=g:=by simpa [Value.ownBlock] using hg
  subst this;exact ⟨cur,hh⟩
end
theorem YcF {P:Program} {R:World→World→Prop} {D:World→World→Array Event→Prop} (T:Terms R D) {f:FuncId} {fn:Func} {t u:Tmp} {w:World} (h:fn.results=#[.tmp t,.tmp u]) (tmps:Array Value):ZK P R D f fn tmps w (.tuple #[tmps.getD t undef,tmps.getD u undef]):=fun w₁ _=>by
 obtain ⟨h1,h2⟩:=resultsC_tmp2 (P:=P) h tmps w₁;rw [h2,seen_none];exact ⟨h1,T.idle _⟩
theorem Ydh (P:Program) (w:World) (es:Array Event) (a:Addr) (m:Mode) (b:Bool):(store a (.bool b) m).events P w es=storedEv P w es a (.bool b) m:=events_store P w es a _ m rfl
theorem YcG (P:Program) (w:World) (es:Array Event) (a:Addr) (m:Mode) (b:Option Addr) (l c:Nat):(store a (.slice b l c) m).events P w es=storedEv P w es a (.slice b l c) m:=events_store P w es a _ m rfl
section
variable {L:Lot} {w0:World} {rows:List Row} {iq nb qb k cq:Nat} {r:Row}
theorem YcZ (hs:Still L w0 nb) (h1:w0.cell? ⟨nb,1,none⟩=some (.slice (some ⟨qb,0,none⟩) k cq)) (i:Nat) (hi:i<k) (w:World) (hF:Kn L w0 rows w):
  Yl Tryz.prog false L.R1 L.D1 137 #[.pointer (some ⟨nb,0,none⟩),.int .i64 i] w (fun v w'=>v=.pointer (some ⟨qb,i*3,none⟩)∧Kn L w0 rows w') (fun _ _=>False):=by
 replace hF:=hF.lay;have hii:(i:Int)<(k:Int):=by omega
 have hk:(base 137).kind≠.early:=by simp [base]
 refine Yl.intro L.terms1 #[.pointer (some ⟨nb,0,none⟩),.int .i64 i,undef,undef,undef,undef,undef,undef,undef,undef,undef] Tryz.func137 rfl (by kernel_rfl) fun cl cs Stop Ret _=>?_;repeat refine .c1 L.terms1 rfl ?_
 refine .regionL L.terms1 [0] (by rfl) ?_;refine .opV L.terms1 rfl (by rfl) hk ?_;try walk_nrm
 repeat refine .c1 L.terms1 rfl ?_
 refine .regionL L.terms1 [0,1,2,3,4,5,6] (by rfl) ?_;iterate 3 (refine .opV L.terms1 rfl (by rfl) hk ?_;try walk_nrm)
 refine .op rfl (by rfl) hk fun w1 hR K hK=>?_;replace hF:=hF.rely hR;clear hR;have hc:World.cell? _ ⟨nb,1,none⟩=some (.slice (some ⟨qb,0,none⟩) k cq):=(hF.stillCell hs).trans h1;go_simp;try (unfold stored;go_simp)
 refine hK _ _ ⟨?_,?_⟩
 ·refine hF.stillLooks hs ?_;co_evs (exact ⟨_,rfl⟩)
 clear hK K;clear hc;try walk_nrm
 refine .opV L.terms1 rfl (by rfl) hk ?_;try walk_nrm
 refine .op rfl (by rfl) hk fun w1 hR K hK=>?_;replace hF:=hF.rely hR;clear hR;go_simp;try (unfold stored;go_simp)
 refine hK _ _ ⟨?_,?_⟩
 ·co_still L.terms1
 clear hK K;try walk_nrm
 refine .opV L.terms1 rfl (by rfl) hk ?_;try walk_nrm
 repeat refine .c1 L.terms1 rfl ?_
 refine Y1.ret L.terms1 fun todo=>?_;exact Ret _ todo _ _ rfl (Xj L.terms1 (by rfl) _) ⟨by first|rfl|simp,hF.drop⟩
theorem YdK (hs:Still L w0 nb) (h1:w0.cell? ⟨nb,2,none⟩=some (.slice (some ⟨qb,0,none⟩) k cq)) (i:Nat) (hi:i<k) (w:World) (hF:Kn L w0 rows w):
  Yl Tryz.prog false L.R1 L.D1 139 #[.pointer (some ⟨nb,0,none⟩),.int .i64 i] w (fun v w'=>v=.pointer (some ⟨qb,i*4,none⟩)∧Kn L w0 rows w') (fun _ _=>False):=by
 replace hF:=hF.lay;have hii:(i:Int)<(k:Int):=by omega
 have hk:(base 139).kind≠.early:=by simp [base]
 refine Yl.intro L.terms1 #[.pointer (some ⟨nb,0,none⟩),.int .i64 i,undef,undef,undef,undef,undef,undef,undef,undef,undef] Tryz.func139 rfl (by kernel_rfl) fun cl cs Stop Ret _=>?_;repeat refine .c1 L.terms1 rfl ?_
 refine .regionL L.terms1 [0] (by rfl) ?_;refine .opV L.terms1 rfl (by rfl) hk ?_;try walk_nrm
 repeat refine .c1 L.terms1 rfl ?_
 refine .regionL L.terms1 [0,1,2,3,4,5,6] (by rfl) ?_;iterate 3 (refine .opV L.terms1 rfl (by rfl) hk ?_;try walk_nrm)
 refine .op rfl (by rfl) hk fun w1 hR K hK=>?_;replace hF:=hF.rely hR;clear hR;have hc:World.cell? _ ⟨nb,2,none⟩=some (.slice (some ⟨qb,0,none⟩) k cq):=(hF.stillCell hs).trans h1;go_simp;try (unfold stored;go_simp)
 refine hK _ _ ⟨?_,?_⟩
 ·refine hF.stillLooks hs ?_;co_evs (exact ⟨_,rfl⟩)
 clear hK K;clear hc;try walk_nrm
 refine .opV L.terms1 rfl (by rfl) hk ?_;try walk_nrm
 refine .op rfl (by rfl) hk fun w1 hR K hK=>?_;replace hF:=hF.rely hR;clear hR;go_simp;try (unfold stored;go_simp)
 refine hK _ _ ⟨?_,?_⟩
 ·co_still L.terms1
 clear hK K;try walk_nrm
 refine .opV L.terms1 rfl (by rfl) hk ?_;try walk_nrm
 repeat refine .c1 L.terms1 rfl ?_
 refine Y1.ret L.terms1 fun todo=>?_;exact Ret _ todo _ _ rfl (Xj L.terms1 (by rfl) _) ⟨by first|rfl|simp,hF.drop⟩
theorem Yfs (hq:rows[iq]?=some r) (i:Nat) (x:Int) (hm:i*4+4≤r.m) (w:World) (hF:Kn L w0 rows w):
  Yl Tryz.prog false L.R1 L.D1 140 #[.pointer (some ⟨r.g,i*4,none⟩),.int .i64 x] w (fun v w'=>v=.tuple #[]∧Kn L w0 ((rows.set iq (r.put (i*4+2) (.int .i64 x))).set iq ((r.put (i*4+2) (.int .i64 x)).put (i*4+3) (.bool true))) w') (fun _ _=>False):=by
 have hk:(base 140).kind≠.early:=by simp [base]
 refine Yl.intro L.terms1 #[.pointer (some ⟨r.g,i*4,none⟩),.int .i64 x,undef,undef,undef,undef,undef,undef,undef,undef,undef] Tryz.func140 rfl (by kernel_rfl) fun cl cs Stop Ret _=>?_;repeat refine .c1 L.terms1 rfl ?_
 refine .regionL L.terms1 [0,1,2,3,4,5,6,7,8] (by rfl) ?_;iterate 5 (refine .opV L.terms1 rfl (by rfl) hk ?_;try walk_nrm)
 refine .op rfl (by rfl) hk fun w1 hR K hK=>?_;replace hF:=hF.rely hR;clear hR;have hz2:World.frozen? _ ⟨r.g,i*4+2,none⟩=false:=hF.frozen (r:=r) hq (i*4+2);have hc:World.cell? _ ⟨r.g,i*4+2,none⟩=some _:=hF.cell (r:=r) hq (j:=i*4+2) (by show _<r.m;omega);go_simp;try (unfold stored;go_simp)
 refine hK _ _ ⟨?_,?_⟩
 ·refine hF.does (r:=r) hq (i*4+2) _ ?_;co_evs (exact rfl)
 clear hK K;clear hz2 hc;replace hF:=hF.set (r:=r) hq (i*4+2) (.int .i64 x);replace hq:=YN hq (r.put (i*4+2) (.int .i64 x));try walk_nrm
 iterate 2 (refine .opV L.terms1 rfl (by rfl) hk ?_;try walk_nrm)
 refine .op rfl (by rfl) hk fun w1 hR K hK=>?_;replace hF:=hF.rely hR;clear hR;have hz2:World.frozen? _ ⟨r.g,i*4+3,none⟩=false:=hF.frozen (r:=(r.put (i*4+2) (.int .i64 x))) hq (i*4+3);have hc:World.cell? _ ⟨r.g,i*4+3,none⟩=some _:=hF.cell (r:=(r.put (i*4+2) (.int .i64 x))) hq (j:=i*4+3) (by show _<r.m;omega);go_simp;try (unfold stored;go_simp)
 refine hK _ _ ⟨?_,?_⟩
 ·refine hF.does (r:=(r.put (i*4+2) (.int .i64 x))) hq (i*4+3) _ ?_;(intro e he;have hm:=mem_listed he;simp [go_sem,Ydh, *] at hm;subst hm;exact rfl)
 clear hK K;clear hz2 hc;replace hF:=hF.set (r:=(r.put (i*4+2) (.int .i64 x))) hq (i*4+3) (.bool true);replace hq:=YN hq ((r.put (i*4+2) (.int .i64 x)).put (i*4+3) (.bool true));try walk_nrm
 repeat refine .c1 L.terms1 rfl ?_
 refine Y1.fin L.terms1 ?_;exact Ret _ [] _ _ rfl (Y0L L.terms1 (by rfl) _) ⟨rfl,hF⟩
theorem Yh2 (hq:rows[iq]?=some r) (i:Nat) (hm:i*4+4≤r.m) (w:World) (hF:Kn L w0 rows w):
  Yl Tryz.prog false L.R1 L.D1 136 #[.pointer (some ⟨r.g,i*4,none⟩)] w (fun v w'=>v=.tuple #[]∧Kn L w0 ((rows.set iq (r.put (i*4+2) (.int .i64 0))).set iq ((r.put (i*4+2) (.int .i64 0)).put (i*4+3) (.bool false))) w') (fun _ _=>False):=by
 have hk:(base 136).kind≠.early:=by simp [base]
 refine Yl.intro L.terms1 #[.pointer (some ⟨r.g,i*4,none⟩),undef,undef,undef,undef,undef,undef,undef] Tryz.func136 rfl (by kernel_rfl) fun cl cs Stop Ret _=>?_;repeat refine .c1 L.terms1 rfl ?_
 refine .regionL L.terms1 [0,1,2,3,4,5,6,7] (by rfl) ?_;iterate 4 (refine .opV L.terms1 rfl (by rfl) hk ?_;try walk_nrm)
 refine .op rfl (by rfl) hk fun w1 hR K hK=>?_;replace hF:=hF.rely hR;clear hR;have hz2:World.frozen? _ ⟨r.g,i*4+2,none⟩=false:=hF.frozen (r:=r) hq (i*4+2);have hc:World.cell? _ ⟨r.g,i*4+2,none⟩=some _:=hF.cell (r:=r) hq (j:=i*4+2) (by show _<r.m;omega);go_simp;try (unfold stored;go_simp)
 refine hK _ _ ⟨?_,?_⟩
 ·refine hF.does (r:=r) hq (i*4+2) _ ?_;co_evs (exact rfl)
 clear hK K;clear hz2 hc;replace hF:=hF.set (r:=r) hq (i*4+2) (.int .i64 0);replace hq:=YN hq (r.put (i*4+2) (.int .i64 0));try walk_nrm
 iterate 2 (refine .opV L.terms1 rfl (by rfl) hk ?_;try walk_nrm)
 refine .op rfl (by rfl) hk fun w1 hR K hK=>?_;replace hF:=hF.rely hR;clear hR;have hz2:World.frozen? _ ⟨r.g,i*4+3,none⟩=false:=hF.frozen (r:=(r.put (i*4+2) (.int .i64 0))) hq (i*4+3);have hc:World.cell? _ ⟨r.g,i*4+3,none⟩=some _:=hF.cell (r:=(r.put (i*4+2) (.int .i64 0))) hq (j:=i*4+3) (by show _<r.m;omega);go_simp;try (unfold stored;go_simp)
 refine hK _ _ ⟨?_,?_⟩
 ·refine hF.does (r:=(r.put (i*4+2) (.int .i64 0))) hq (i*4+3) _ ?_;(intro e he;have hm:=mem_listed he;simp [go_sem,Ydh, *] at hm;subst hm;exact rfl)
 clear hK K;clear hz2 hc;replace hF:=hF.set (r:=(r.put (i*4+2) (.int .i64 0))) hq (i*4+3) (.bool false);replace hq:=YN hq ((r.put (i*4+2) (.int .i64 0)).put (i*4+3) (.bool false));try walk_nrm
 repeat refine .c1 L.terms1 rfl ?_
 refine Y1.fin L.terms1 ?_;exact Ret _ [] _ _ rfl (Y0L L.terms1 (by rfl) _) ⟨rfl,hF⟩
theorem YeA (hq:rows[iq]?=some r) (i:Nat) (hm:i*3+3≤r.m) (w:World) (hF:Kn L w0 rows w):
  Yl Tryz.prog false L.R1 L.D1 135 #[.pointer (some ⟨r.g,i*3,none⟩)] w (fun v w'=>v=.tuple #[]∧Kn L w0 (rows.set iq (r.put (i*3+1) (.slice none 0 0))) w') (fun _ _=>False):=by
 have hk:(base 135).kind≠.early:=by simp [base]
 refine Yl.intro L.terms1 #[.pointer (some ⟨r.g,i*3,none⟩),undef,undef,undef,undef] Tryz.func135 rfl (by kernel_rfl) fun cl cs Stop Ret _=>?_;repeat refine .c1 L.terms1 rfl ?_
 refine .regionL L.terms1 [0,1,2,3] (by rfl) ?_;iterate 3 (refine .opV L.terms1 rfl (by rfl) hk ?_;try walk_nrm)
 refine .op rfl (by rfl) hk fun w1 hR K hK=>?_;replace hF:=hF.rely hR;clear hR;have hz2:World.frozen? _ ⟨r.g,i*3+1,none⟩=false:=hF.frozen (r:=r) hq (i*3+1);have hc:World.cell? _ ⟨r.g,i*3+1,none⟩=some _:=hF.cell (r:=r) hq (j:=i*3+1) (by show _<r.m;omega);go_simp;try (unfold stored;go_simp)
 refine hK _ _ ⟨?_,?_⟩
 ·refine hF.does (r:=r) hq (i*3+1) _ ?_;(intro e he;have hm:=mem_listed he;simp [go_sem,YcG, *] at hm;subst hm;exact rfl)
 clear hK K;clear hz2 hc;replace hF:=hF.set (r:=r) hq (i*3+1) (.slice none 0 0);replace hq:=YN hq (r.put (i*3+1) (.slice none 0 0));try walk_nrm
 repeat refine .c1 L.terms1 rfl ?_
 refine Y1.fin L.terms1 ?_;exact Ret _ [] _ _ rfl (Y0L L.terms1 (by rfl) _) ⟨rfl,hF⟩
theorem Yf4 (hq:rows[iq]?=some r) (i:Nat) (x:Int) (hx:r.f (i*3+2)=.int .i64 x) (hm:i*3+3≤r.m) (w:World) (hF:Kn L w0 rows w):
  Yl Tryz.prog false L.R1 L.D1 144 #[.pointer (some ⟨r.g,i*3,none⟩)] w (fun v w'=>v=.int .i64 x∧Kn L w0 (rows.set iq (r.put (i*3+2) (.int .i64 0))) w') (fun _ _=>False):=by
 have hk:(base 144).kind≠.early:=by simp [base]
 refine Yl.intro L.terms1 #[.pointer (some ⟨r.g,i*3,none⟩),undef,undef,undef,undef,undef,undef,undef,undef,undef,undef,undef] Tryz.func144 rfl (by kernel_rfl) fun cl cs Stop Ret _=>?_;repeat refine .c1 L.terms1 rfl ?_
 refine .regionL L.terms1 [0] (by rfl) ?_;refine .opV L.terms1 rfl (by rfl) hk ?_;try walk_nrm
 repeat refine .c1 L.terms1 rfl ?_
 refine .regionL L.terms1 [0,1,2,3,4] (by rfl) ?_;iterate 3 (refine .opV L.terms1 rfl (by rfl) hk ?_;try walk_nrm)
 refine .op rfl (by rfl) hk fun w1 hR K hK=>?_;replace hF:=hF.rely hR;clear hR;have hc:World.cell? _ ⟨r.g,i*3+2,none⟩=some (.int .i64 x):=(hF.cell hq (j:=i*3+2) (by show _<r.m;omega)).trans (by rw [hx]);go_simp;try (unfold stored;go_simp)
 refine hK _ _ ⟨?_,?_⟩
 ·refine hF.looks hq ?_;co_evs (exact ⟨_,rfl⟩)
 clear hK K;clear hc;try walk_nrm
 refine .opV L.terms1 rfl (by rfl) hk ?_;try walk_nrm
 repeat refine .c1 L.terms1 rfl ?_
 refine .regionL L.terms1 [0,1,2,3] (by rfl) ?_;iterate 3 (refine .opV L.terms1 rfl (by rfl) hk ?_;try walk_nrm)
 refine .op rfl (by rfl) hk fun w1 hR K hK=>?_;replace hF:=hF.rely hR;clear hR;have hz2:World.frozen? _ ⟨r.g,i*3+2,none⟩=false:=hF.frozen (r:=r) hq (i*3+2);have hc:World.cell? _ ⟨r.g,i*3+2,none⟩=some _:=hF.cell (r:=r) hq (j:=i*3+2) (by show _<r.m;omega);go_simp;try (unfold stored;go_simp)
 refine hK _ _ ⟨?_,?_⟩
 ·refine hF.does (r:=r) hq (i*3+2) _ ?_;co_evs (exact rfl)
 clear hK K;clear hz2 hc;replace hF:=hF.set (r:=r) hq (i*3+2) (.int .i64 0);replace hq:=YN hq (r.put (i*3+2) (.int .i64 0));try walk_nrm
 repeat refine .c1 L.terms1 rfl ?_
 refine .regionL L.terms1 [0,1] (by rfl) ?_;iterate 2 (refine .opV L.terms1 rfl (by rfl) hk ?_;try walk_nrm)
 repeat refine .c1 L.terms1 rfl ?_
 refine Y1.ret L.terms1 fun todo=>?_;exact Ret _ todo _ _ rfl (Xj L.terms1 (by rfl) _) ⟨by first|rfl|simp,hF⟩
theorem Ygh (hq:rows[iq]?=some r) (i:Nat) (x y:Int) (hx:r.f (i*4)=.int .i64 x) (hy:r.f (i*4+1)=.int .i64 y) (hm:i*4+4≤r.m) (w:World) (hF:Kn L w0 rows w):
  Yl Tryz.prog false L.R1 L.D1 142 #[.pointer (some ⟨r.g,i*4,none⟩)] w (fun v w'=>v=.tuple #[.int .i64 x,.int .i64 y]∧Kn L w0 rows w') (fun _ _=>False):=by
 have hk:(base 142).kind≠.early:=by simp [base]
 refine Yl.intro L.terms1 #[.pointer (some ⟨r.g,i*4,none⟩),undef,undef,undef,undef,undef,undef,undef,undef,undef,undef,undef] Tryz.func142 rfl (by kernel_rfl) fun cl cs Stop Ret _=>?_;repeat refine .c1 L.terms1 rfl ?_
 refine .regionL L.terms1 [0,1] (by rfl) ?_;iterate 2 (refine .opV L.terms1 rfl (by rfl) hk ?_;try walk_nrm)
 repeat refine .c1 L.terms1 rfl ?_
 refine Y1.drawnN (S:=Kn L w0 rows) (Die:=fun _ _=>False) L.terms1 L.draws1 10 (by rfl) hk (by kernel_rfl) (fun _ _ _ h=>h) (fun _ _ _ h=>h.elim) fun w1 hR=>?_;replace hF:=(hF.rely hR).rely (Turn.drew _);clear hR;refine Y4 L.terms1 0 (fun _ _ h r=>Kn.rely h r) hF ?_;try walk_nrm
 refine Y4 L.terms1 1 (fun _ _ h r=>Kn.rely h r) hF ?_;try walk_nrm
 refine Y4 L.terms1 2 (fun _ _ h r=>Kn.rely h r) hF ?_;try walk_nrm
 refine Ye L.terms1 3 rfl (fun _ _ h r=>Kn.rely h r) hF ?_ fun _ hw=>⟨run_eq_of (by
  intro K hK;have hc:World.cell? _ ⟨r.g,i*4,none⟩=some (.int .i64 x):=(hw.cell hq (j:=i*4) (by show _<r.m;omega)).trans (by rw [hx]);go_simp;exact hK),by
  have hc:World.cell? _ ⟨r.g,i*4,none⟩=some (.int .i64 x):=(hw.cell hq (j:=i*4) (by show _<r.m;omega)).trans (by rw [hx]);refine hw.looks hq ?_;co_evs (exact ⟨_,rfl⟩)⟩
 try walk_nrm
 refine Y4 L.terms1 4 (fun _ _ h r=>Kn.rely h r) hF ?_;try walk_nrm
 refine Y4 L.terms1 5 (fun _ _ h r=>Kn.rely h r) hF ?_;try walk_nrm
 refine Y4 L.terms1 6 (fun _ _ h r=>Kn.rely h r) hF ?_;try walk_nrm
 refine Ye L.terms1 7 rfl (fun _ _ h r=>Kn.rely h r) hF ?_ fun _ hw=>⟨run_eq_of (by
  intro K hK;have hc:World.cell? _ ⟨r.g,i*4+1,none⟩=some (.int .i64 y):=(hw.cell hq (j:=i*4+1) (by show _<r.m;omega)).trans (by rw [hy]);go_simp;exact hK),by
  have hc:World.cell? _ ⟨r.g,i*4+1,none⟩=some (.int .i64 y):=(hw.cell hq (j:=i*4+1) (by show _<r.m;omega)).trans (by rw [hy]);refine hw.looks hq ?_;co_evs (exact ⟨_,rfl⟩)⟩
 try walk_nrm
 refine Y4 L.terms1 8 (fun _ _ h r=>Kn.rely h r) hF ?_;try walk_nrm
 refine Y4 L.terms1 9 (fun _ _ h r=>Kn.rely h r) hF ?_;try walk_nrm
 refine Xi (by first|kernel_rfl|decide +kernel) ?_ _;repeat refine .c1 L.terms1 rfl ?_
 refine Y1.ret L.terms1 fun todo=>?_;exact Ret _ todo _ _ rfl (YcF L.terms1 (by rfl) _) ⟨by first|rfl|simp,hF⟩
end
end Go.Proofs.YtdoghgnifkgfdaaGreat.Mute
