import Derived.Conc.AppendEvents3
import Derived.Conc.PipeWords
import Derived.Test.YtdoghgnifkgfdaaGreatP21
import Derived.Test.YtdoghgnifkgfdaaGreatP23
import Derived.Test.YtdoghgnifkgfdaaGreatP24
import Derived.Test.YtdoghgnifkgfdaaGreatP25
set_option maxRecDepth 100000
set_option maxHeartbeats 4000000
namespace Go.Proofs.YtdoghgnifkgfdaaGreat.Mute
open Go Go.Conc Go.RowKit
inductive Out where
 |on (op:Int) (said:Option Int) (z:Nat→Int)
 |broke (why:Int) (z:Nat→Int)
def Y9 (z:Nat→Int):Nat→Int:=zset (zset z 46 (IntKind.i64.wrap (z 46+1))) 45 (((z 45).toNat:Int)+1)
def Y7 (n:Nat) (ci z:Nat→Int):Out:=
 if z 45=n then .broke 3 (zset z 46 (IntKind.i64.wrap (z 46+1)))
 else
  let k:=(z 45).toNat*4
  let R:=(ci (k+1)).toNat
  let A:=(ci (k+2)).toNat
  let N:=ci (k+3)
  let y:=Y9 z
  if ci k=1 then .on 1 none (zset y (25+R) N)
  else if ci k=2 then .on 2 none (zset y (25+R) (IntKind.i64.wrap (y (25+R)+y (25+A))))
  else if ci k=3 then .on 3 none (zset y (25+R) (IntKind.i64.wrap (y (25+R)-y (25+A))))
  else if ci k=4 then .on 4 none (zset y (25+R) (IntKind.i64.wrap (y (25+R)*y (25+A))))
  else if ci k=5 then (if y (25+A)=0 then .broke 1 y else .on 5 none (zset y (25+R) (IntKind.i64.wrap ((y (25+R)).tdiv (y (25+A))))))
  else if ci k=6 then (if y (25+A)<0∨16≤y (25+A) then .broke 2 y else .on 6 none (zset y (25+R) (y (29+(y (25+A)).toNat))))
  else if ci k=7 then (if y (25+A)<0∨16≤y (25+A) then .broke 2 y else .on 7 none (zset y (29+(y (25+A)).toNat) (y (25+R))))
  else if ci k=8 then .on 8 none (zset y 45 N)
  else if ci k=9 then .on 9 none (if y (25+R)=0 then zset y 45 N else y)
  else if ci k=15 then .on 15 (some (y (25+R))) y
  else .on 0 none y
def said (x:Int):Value:=.agg #[.int .i64 1,.int .i64 x,.int .i64 0]
def Out.sent:Out→List Value
 |.on _ (some x) _=>[said x]
 |_=>[]
def Xc (n:Nat) (ci:Nat→Int):Prop:=∀k,k<n→((0≤ci (k*4)∧ci (k*4)≤9)∨ci (k*4)=15)∧(0≤ci (k*4+1)∧ci (k*4+1)<4)∧(0≤ci (k*4+2)∧ci (k*4+2)<4)∧(ci (k*4)=8∨ci (k*4)=9→0≤ci (k*4+3)∧ci (k*4+3)<n)
section
variable {L:Lot} {w0:World} {rows:List Row} {ic g cb co n cc:Nat} {num:Int} {net:Value} {z ci:Nat→Int}
def brk (y:Int):List PanicEntry:=[{v:=.iface 222 (.int .i64 y),recovered:=false}]
abbrev YB (cb co n cc:Nat):Value:=.slice (some ⟨cb,co,none⟩) n cc
theorem XQ.mono {P:Program} {FS:World→Prop} {f:FuncId} {args:Array Value} {w:World} {evs evs':List Value} {Post Post':Value→World→Prop} {Die Die':List PanicEntry→World→Prop} (h:XQ P L FS f args w evs Post Die) (he:evs=evs') (hp:∀v w',Post v w'→Post' v w') (hd:∀c w',Die c w'→Die' c w'):XQ P L FS f args w evs' Post' Die':=by
 subst he;exact fun cl cs vs h1 h2=>h cl cs vs (fun v w' x=>h1 v w' (hp v w' x)) fun ch w' x=>h2 ch w' (hd ch w' x)
theorem Y8t {FS:World→Prop} (hev:((97:Nat)==L.ev)=false) (hi:rows[ic]?=some (Y5 g num net (YB cb co n cc) z)) (hs:Still L w0 cb) (hcode:∀j,j<n*4→w0.cell? ⟨cb,co+j,none⟩=some (.int .i64 (ci j))) (hn:n≤48) (hok:Xc n ci) (h45:0≤z 45∧z 45≤n) (inV:Value) (w:World) (hF:Kn L w0 rows w):
  XQ Tryz.prog L FS 113 #[.pointer (some ⟨g,0,none⟩),inV,.chan (some L.c)] w (Y7 n ci z).sent
   (fun v w'=>∃op e z',Y7 n ci z=.on op e z'∧v=.int .i64 op∧Kn L w0 (rows.set ic (Y5 g num net (YB cb co n cc) z')) w')
   (fun ch w'=>∃y z',Y7 n ci z=.broke y z'∧ch=brk y∧Kn L w0 (rows.set ic (Y5 g num net (YB cb co n cc) z')) w'):=by
 by_cases hz:z 45=n
 ·have e:Y7 n ci z=.broke 3 (zset z 46 (IntKind.i64.wrap (z 46+1))):=by unfold Y7;rw [if_pos hz]
  exact (Y5g hev hi hz inV _ w hF).quiet.mono (by rw [e];rfl) (fun _ _ h=>h.elim) fun ch w' h=>⟨3,_,e,h.1,h.2⟩
 ·obtain ⟨nx,hnx⟩:∃nx:Nat,z 45=nx:=⟨(z 45).toNat,by omega⟩;have hlt:nx<n:=by omega
  have ht:(z 45).toNat=nx:=by omega
  obtain ⟨ho,⟨r0,r4⟩,⟨a0,a4⟩,hj⟩:=hok nx hlt;obtain ⟨R,hR⟩:∃R:Nat,ci (nx*4+1)=R:=⟨(ci (nx*4+1)).toNat,by omega⟩;obtain ⟨A,hA⟩:∃A:Nat,ci (nx*4+2)=A:=⟨(ci (nx*4+2)).toNat,by omega⟩;have hRt:(ci (nx*4+1)).toNat=R:=by omega
  have hAt:(ci (nx*4+2)).toNat=A:=by omega
  have hR4:R<4:=by omega
  have hA4:A<4:=by omega
  have hf:Y9 z=zset (zset z 46 (IntKind.i64.wrap (z 46+1))) 45 ((nx:Int)+1):=by unfold Y9;rw [ht]
  have hops:ci (nx*4)=0∨ci (nx*4)=1∨ci (nx*4)=2∨ci (nx*4)=3∨ci (nx*4)=4∨ci (nx*4)=5∨ci (nx*4)=6∨ci (nx*4)=7∨ci (nx*4)=8∨ci (nx*4)=9∨ci (nx*4)=15:=by omega
  rcases hops with h|h|h|h|h|h|h|h|h|h|h
  ·have e:Y7 n ci z=.on 0 none (Y9 z):=by simp [Y7,hz,ht,h]
   exact (Yap hev hi hs hcode nx hnx hlt hn R A hR4 hA4 h hR hA _ rfl inV _ w hF).quiet.mono (by rw [e];rfl) (fun v w' x=>⟨0,none,_,e,x.1,by rw [hf];exact x.2⟩) (fun _ _ x=>x.elim)
  ·have e:Y7 n ci z=.on 1 none (zset (Y9 z) (25+R) (ci (nx*4+3))):=by simp [Y7,hz,ht,h,hRt]
   exact (Y7M hev hi hs hcode nx hnx hlt hn R A hR4 hA4 h hR hA _ rfl inV _ w hF).quiet.mono (by rw [e];rfl) (fun v w' x=>⟨1,none,_,e,x.1,by rw [hf];exact x.2⟩) (fun _ _ x=>x.elim)
  ·have e:Y7 n ci z=.on 2 none (zset (Y9 z) (25+R) (IntKind.i64.wrap (Y9 z (25+R)+Y9 z (25+A)))):=by simp [Y7,hz,ht,h,hRt,hAt]
   exact (Y4Q hev hi hs hcode nx hnx hlt hn R A hR4 hA4 h hR hA _ rfl inV _ w hF).quiet.mono (by rw [e];rfl) (fun v w' x=>⟨2,none,_,e,x.1,by rw [hf];exact x.2⟩) (fun _ _ x=>x.elim)
  ·have e:Y7 n ci z=.on 3 none (zset (Y9 z) (25+R) (IntKind.i64.wrap (Y9 z (25+R)-Y9 z (25+A)))):=by simp [Y7,hz,ht,h,hRt,hAt]
   exact (Yav hev hi hs hcode nx hnx hlt hn R A hR4 hA4 h hR hA _ rfl inV _ w hF).quiet.mono (by rw [e];rfl) (fun v w' x=>⟨3,none,_,e,x.1,by rw [hf];exact x.2⟩) (fun _ _ x=>x.elim)
  ·have e:Y7 n ci z=.on 4 none (zset (Y9 z) (25+R) (IntKind.i64.wrap (Y9 z (25+R)*Y9 z (25+A)))):=by simp [Y7,hz,ht,h,hRt,hAt]
   exact (YaB hev hi hs hcode nx hnx hlt hn R A hR4 hA4 h hR hA _ rfl inV _ w hF).quiet.mono (by rw [e];rfl) (fun v w' x=>⟨4,none,_,e,x.1,by rw [hf];exact x.2⟩) (fun _ _ x=>x.elim)
  ·by_cases h0:Y9 z (25+A)=0
   ·have e:Y7 n ci z=.broke 1 (Y9 z):=by simp [Y7,hz,ht,h,hAt,h0]
    exact (Y81 hev hi hs hcode nx hnx hlt hn R A hR4 hA4 h hR hA _ rfl (by rw [←hf];exact h0) inV _ w hF).quiet.mono (by rw [e];rfl) (fun _ _ x=>x.elim) (fun ch w' x=>⟨1,_,e,x.1,by rw [hf];exact x.2⟩)
   ·have e:Y7 n ci z=.on 5 none (zset (Y9 z) (25+R) (IntKind.i64.wrap ((Y9 z (25+R)).tdiv (Y9 z (25+A))))):=by simp [Y7,hz,ht,h,hRt,hAt,h0]
    exact (Y8K hev hi hs hcode nx hnx hlt hn R A hR4 hA4 h hR hA _ rfl (by rw [←hf];exact h0) inV _ w hF).quiet.mono (by rw [e];rfl) (fun v w' x=>⟨5,none,_,e,x.1,by rw [hf];exact x.2⟩) (fun _ _ x=>x.elim)
  ·by_cases h0:Y9 z (25+A)<0∨16≤Y9 z (25+A)
   ·have e:Y7 n ci z=.broke 2 (Y9 z):=by simp [Y7,hz,ht,h,hAt,h0]
    exact (Ybr hev hi hs hcode nx hnx hlt hn R A hR4 hA4 h hR hA _ rfl (by rw [←hf];exact h0) inV _ w hF).quiet.mono (by rw [e];rfl) (fun _ _ x=>x.elim) (fun ch w' x=>⟨2,_,e,x.1,by rw [hf];exact x.2⟩)
   ·have e:Y7 n ci z=.on 6 none (zset (Y9 z) (25+R) (Y9 z (29+(Y9 z (25+A)).toNat))):=by simp [Y7,hz,ht,h,hRt,hAt,h0]
    exact (Y67 hev hi hs hcode nx hnx hlt hn R A hR4 hA4 h hR hA _ rfl (Y9 z (25+A)).toNat (by omega) (by rw [←hf];omega) inV _ w hF).quiet.mono (by rw [e];rfl) (fun v w' x=>⟨6,none,_,e,x.1,by rw [←hf] at x;exact x.2⟩) (fun _ _ x=>x.elim)
  ·by_cases h0:Y9 z (25+A)<0∨16≤Y9 z (25+A)
   ·have e:Y7 n ci z=.broke 2 (Y9 z):=by simp [Y7,hz,ht,h,hAt,h0]
    exact (Y54 hev hi hs hcode nx hnx hlt hn R A hR4 hA4 h hR hA _ rfl (by rw [←hf];exact h0) inV _ w hF).quiet.mono (by rw [e];rfl) (fun _ _ x=>x.elim) (fun ch w' x=>⟨2,_,e,x.1,by rw [hf];exact x.2⟩)
   ·have e:Y7 n ci z=.on 7 none (zset (Y9 z) (29+(Y9 z (25+A)).toNat) (Y9 z (25+R))):=by simp [Y7,hz,ht,h,hRt,hAt,h0]
    exact (Y4M hev hi hs hcode nx hnx hlt hn R A hR4 hA4 h hR hA _ rfl (Y9 z (25+A)).toNat (by omega) (by rw [←hf];omega) inV _ w hF).quiet.mono (by rw [e];rfl) (fun v w' x=>⟨7,none,_,e,x.1,by rw [←hf] at x;exact x.2⟩) (fun _ _ x=>x.elim)
  ·have e:Y7 n ci z=.on 8 none (zset (Y9 z) 45 (ci (nx*4+3))):=by simp [Y7,hz,ht,h]
   exact (Yb6 hev hi hs hcode nx hnx hlt hn R A hR4 hA4 h hR hA _ rfl inV _ w hF).quiet.mono (by rw [e];rfl) (fun v w' x=>⟨8,none,_,e,x.1,by rw [hf];exact x.2⟩) (fun _ _ x=>x.elim)
  ·by_cases h0:Y9 z (25+R)=0
   ·have e:Y7 n ci z=.on 9 none (zset (Y9 z) 45 (ci (nx*4+3))):=by simp [Y7,hz,ht,h,hRt,h0]
    exact (Y5l hev hi hs hcode nx hnx hlt hn R A hR4 hA4 h hR hA _ rfl (by rw [←hf];exact h0) inV _ w hF).quiet.mono (by rw [e];rfl) (fun v w' x=>⟨9,none,_,e,x.1,by rw [hf];exact x.2⟩) (fun _ _ x=>x.elim)
   ·have e:Y7 n ci z=.on 9 none (Y9 z):=by simp [Y7,hz,ht,h,hRt,h0]
    exact (Y8m hev hi hs hcode nx hnx hlt hn R A hR4 hA4 h hR hA _ rfl (by rw [←hf];exact h0) inV _ w hF).quiet.mono (by rw [e];rfl) (fun v w' x=>⟨9,none,_,e,x.1,by rw [hf];exact x.2⟩) (fun _ _ x=>x.elim)
  ·have e:Y7 n ci z=.on 15 (some (Y9 z (25+R))) (Y9 z):=by simp [Y7,hz,ht,h,hRt]
   exact (Y6n hev hi hs hcode nx hnx hlt hn R A hR4 hA4 h hR hA _ rfl inV w hF).mono (by rw [e,hf];rfl) (fun v w' x=>⟨15,_,_,e,x.1,by rw [hf];exact x.2⟩) (fun _ _ x=>x.elim)
end
section
variable {P:Program} {o:Oper} {a:Act} {w:World} {x y:Operand} {ty:TypeId} {b off:Nat}
theorem Y5Z (ho:o.op=.load ty x) (hx:a.eval x=.pointer (some ⟨b,off,none⟩)) (cs:List Value) (d:TypeDesc) (hc:w.rangeAt b off cs) (hu:P.underlying ty=some d) (hd:d.isRow=true) (hi:(P.info? ty).map (·.size)=some cs.length):
  (execOp a.eval o).run P w=.ok (.value (.agg cs.toArray)) w:=by
 unfold execOp;simp only [ho,hx,Sem.run_bind,Sem.run_pure,Result.andThen_ok,run_loadAt_mid w b off ty cs d hc hu hd hi]
theorem Ya4 (ho:o.op=.load ty x) (hx:a.eval x=.pointer (some ⟨b,off,none⟩)) (cs:List Value) (d:TypeDesc) (hc:w.rangeAt b off cs) (hu:P.underlying ty=some d) (hd:d.isRow=true) (hi:(P.info? ty).map (·.size)=some cs.length):
  ∀e∈(execOp a.eval o).events P w #[],∃ad,e.loc=.cell ad∧ad.block=b:=by
 intro e he;have hagg:(isAgg ty).run P w=.ok true w:=by
  unfold isAgg;rw [Sem.run_bind,run_underlying hu w];cases d<;>simp_all
 have haggE:(isAgg ty).events P w #[]=#[]:=by
  unfold isAgg;rw [Sem.events_bind,run_underlying hu w,events_underlying];cases d<;>simp_all
 cases hq:P.info? ty with
 |none=>simp [hq] at hi
 |some i=>
  have hs:i.size=cs.length:=by simpa [hq] using hi
  have hE:(execOp a.eval o).events P w #[]=(loadCells ⟨b,off,none⟩ cs.length).events P w #[]:=by
   unfold execOp;simp [ho,hx,Instr.loadAt,Instr.sureAddr,loadVar,Sem.events_bind,hagg,haggE,sizeOf,typeInfo,hq,hs]
  rw [hE] at he;rcases events_loadCellsFrom_at (P:=P) ⟨b,off,none⟩ (fun g=>g=b) rfl cs.length 0 #[] w #[] (fun j hj=>by
   rw [Nat.zero_add,Addr.add_mid,hc j cs[j] (List.getElem?_eq_getElem hj)];rfl) e he with h|⟨ad,h1,_,h2⟩
  ·simp at h
  ·exact ⟨ad,h1,h2⟩
theorem Yaf (ho:o.op=.store ty x y) (hx:a.eval x=.pointer (some ⟨b,off,none⟩)) (cells:Array Value) (hy:a.eval y=.agg cells) (ht:w.there b off cells.size) (hi:(P.info? ty).map (·.size)=some cells.size) (h1:cells.all (·.oneCell')=true):
  (execOp a.eval o).run P w=.ok .skip (w.setCells b off cells.toList):=by
 unfold execOp;simp only [ho,hx,hy,Sem.run_bind,Sem.run_pure,Result.andThen_ok,run_storeAt_mid w b off ty cells ht hi h1]
theorem Y7e (ho:o.op=.store ty x y) (hx:a.eval x=.pointer (some ⟨b,off,none⟩)) (cells:Array Value) (hy:a.eval y=.agg cells) (m t:Nat) (f:Nat→Value) (hr:RowF w b m t f) (hm:off+cells.size≤m) (hi:(P.info? ty).map (·.size)=some cells.size) (h1:cells.all (·.oneCell')=true):
  ∀e∈(execOp a.eval o).events P w #[],∃ad,e.loc=.cell ad∧ad.block=b:=by
 intro e he;cases hq:P.info? ty with
 |none=>simp [hq] at hi
 |some i=>
  have hs:cells.size=i.size:=by simp [hq] at hi;omega
  have hE:(execOp a.eval o).events P w #[]=(storeCells ⟨b,off,none⟩ cells.toList).events P w #[]:=by
   unfold execOp;simp [ho,hx,hy,Instr.storeAt,Instr.sureAddr,storeVar,Sem.events_bind,sizeOf,typeInfo,hq,Value.cells,hs]
  rw [hE] at he;obtain ⟨cs,g1,g2,_⟩:=hr;rcases events_storeCells_at b off t cells.toList 0 cs w #[] g1 (by simp;omega) (fun v hv=>(Array.all_eq_true_iff_forall_mem.1 h1) v (by simpa using hv)) e he with h|h
  ·simp at h
  ·exact h
end
section
variable {L:Lot} {w0 w w':World} {rows:List Row} {i:Nat} {r:Row}
theorem Kn.doesAny (h:Kn L w0 rows w) (hi:rows[i]?=some r) (ht:Turn L L.send w w') (hch:w'.heap[L.c]?=w.heap[L.c]?) {es:Array Event} (hes:∀e∈es,∃ad,e.loc=.cell ad∧ad.block=r.g):L.D1 w w' es:=by
 have ho:=h.row i r hi;obtain ⟨o,hg⟩:=ho.rw.calm.there;obtain ⟨o',h1,h2,_⟩:=ht.at_ r.g o hg;refine ⟨ht,hch,fun e he=>?_⟩;obtain ⟨ad,hl,hb⟩:=hes e he;obtain ⟨loc,wr,sy⟩:=e;simp only at hl;subst hl;refine ⟨YR _ _ _,fun x hx _=>?_⟩;have:x=⟨.cell ad,wr,if sy then .atomic else .plain⟩:=by
  cases wr<;>cases sy<;>simp [MemAct.ofEvent,MemAct.touch?] at hx<;>exact hx.symm
 subst this;exact ⟨o',by rw [hb];exact h1,by rw [hb];exact fun hm=>ho.rw.calm.no o hg (L.tells_main r.g o' o (fun hc=>(h2 hc).symm) hm),fun _=>by rw [hb];exact L.tells_send r.g o o' h2 (ho.own o hg)⟩
def Row.puts (r:Row) (off:Nat) (vs:List Value):Row:={r with f:=fun j=>if off≤j∧j<off+vs.length then vs.getD (j-off) undef else r.f j}
theorem Kn.setCells:∀(vs:List Value) (off:Nat) (r:Row) (rows:List Row) (w:World),Kn L w0 rows w→rows[i]?=some r→Kn L w0 (rows.set i (r.puts off vs)) (w.setCells r.g off vs)∧Turn L L.send w (w.setCells r.g off vs)∧(w.setCells r.g off vs).heap[L.c]?=w.heap[L.c]?
 | [],off,r,rows,w,h,hi=>by
  refine ⟨Kn.congr (r:=r) ?_ hi rfl rfl rfl fun j _=>?_,.refl _,rfl⟩
  ·rw [Y4p hi];exact h
  ·show r.f j=if off≤j∧j<off+0 then _ else r.f j;rw [if_neg (by omega)]
 |v::vs,off,r,rows,w,h,hi=>by
  have h1:=h.set hi off v;obtain ⟨h2,h3,h4⟩:=Kn.setCells vs (off+1) (r.put off v) _ _ h1 (YN hi _);rw [List.set_set] at h2;refine ⟨Kn.congr h2 hi rfl rfl rfl fun j _=>?_,(h.turnSet hi off v).trans h3,h4.trans (h.chanSet hi off v)⟩;show (if off+1≤j∧j<off+1+vs.length then vs.getD (j-(off+1)) undef else upd r.f off v j)=if off≤j∧j<off+(v::vs).length then (v::vs).getD (j-off) undef else r.f j;simp only [List.length_cons];by_cases hj:off+1≤j∧j<off+1+vs.length
  ·rw [if_pos hj,if_pos (by omega),show j-off=(j-(off+1))+1 by omega];rfl
  ·rw [if_neg hj];by_cases hk:j=off
   ·subst hk;rw [upd_same,if_pos (by omega),Nat.sub_self];rfl
   ·rw [upd_ne _ _ hk,if_neg (by omega)]
end
section
variable {L:Lot} {w0:World} {rows:List Row} {ic g nb:Nat} {num:Int} {code:Value} {z:Nat→Int}
theorem Y9a (p:Option Addr) (cap:Nat) (hs:Still L w0 nb) (hnet:w0.cell? ⟨nb,0,none⟩=some (.slice p 0 cap)) (k:Int) (w:World) (hF:Kn L w0 rows w):
  Yl Tryz.prog false L.R1 L.D1 125 #[.pointer (some ⟨nb,0,none⟩),.int .i64 k] w (fun _ w'=>Kn L w0 rows w') (fun _ _=>False):=by
 have hk:(base 125).kind≠.early:=by simp [base]
 refine Yl.intro L.terms1 #[.pointer (some ⟨nb,0,none⟩),.int .i64 k,undef,undef,undef,undef,undef,undef,undef,undef,undef,undef,undef,undef,undef,undef,undef,undef,undef,undef,undef,undef,undef,undef,undef,undef,undef,undef,undef,undef,undef,undef,undef,undef,undef] Tryz.func125 rfl (by kernel_rfl) fun cl cs Stop Ret _=>?_;repeat refine .c1 L.terms1 rfl ?_
 refine .regionL L.terms1 [0,1,2,3,4,5] (by rfl) ?_;iterate 3 (refine .opV L.terms1 rfl (by rfl) hk ?_;try walk_nrm)
 refine .op rfl (by rfl) hk fun w1 hR K hK=>?_;replace hF:=hF.rely hR;clear hR;have hc:World.cell? _ ⟨nb,0,none⟩=some (.slice p 0 cap):=(hF.stillCell (a:=⟨nb,0,none⟩) hs).trans hnet;go_simp;try (unfold stored;go_simp)
 refine hK _ _ ⟨?_,?_⟩
 ·refine hF.stillLooks hs ?_;co_evs (exact ⟨_,rfl⟩)
 clear hK K;clear hc;try walk_nrm
 iterate 2 (refine .opV L.terms1 rfl (by rfl) hk ?_;try walk_nrm)
 repeat refine .c1 L.terms1 rfl ?_
 refine Y1.loop L.terms1 ?_;repeat refine .c1 L.terms1 rfl ?_
 refine .regionL L.terms1 [0] (by rfl) ?_;refine .opV L.terms1 rfl (by rfl) hk ?_;try walk_nrm
 repeat refine .c1 L.terms1 rfl ?_
 refine Y1.condF L.terms1 (by first|rfl|simp [Act.eval]) ?_;refine Y1.exit L.terms1 rfl ?_;refine Y1.fin L.terms1 ?_;exact Ret _ _ _ _ rfl (Y0L L.terms1 (by rfl) _) hF
def Yo (z:Nat→Int) (j:Nat):Int:=if j=47 then IntKind.i64.wrap (z 47+1) else if 25≤j∧j<46 then z (j-21) else z j
def Xb (z:Nat→Int):List Value:=(List.range 21).map fun j=>.int .i64 (z (4+j))
theorem JR (z:Nat→Int):(Xb z).length=21:=by simp [Xb]
theorem Y9o (z:Nat→Int):∀v∈Xb z,v.oneCell'=true:=fun v hv=>by obtain ⟨y,_,rfl⟩:=List.mem_map.1 hv;rfl
theorem Y9q (z:Nat→Int) {j:Nat} (hj:j<21):(Xb z).getD j undef=.int .i64 (z (4+j)):=by simp [Xb,hj]
theorem Y3m {w:World} {net:Value} (hF:Kn L w0 rows w) (hi:rows[ic]?=some (Y5 g num net code z)):w.rangeAt g 4 (Xb z):=fun j v hv=>by
 unfold Xb at hv;rw [List.getElem?_map] at hv;obtain ⟨y,hy,rfl⟩:=Option.map_eq_some_iff.1 hv;have hj:j<21:=by
  have:=(List.getElem?_eq_some_iff.1 hy).1;simpa using this
 rw [List.getElem?_range hj] at hy;cases hy;exact hF.cellZ hi (j:=4+j) (by omega) (by omega)
def Zj (z:Nat→Int) (j:Nat):Int:=if 25≤j∧j<46 then z (j-21) else z j
theorem Y5w {net:Value} (j:Nat):((Y5 g num net code z).puts 25 (Xb z)).f j=cellV num net code (Zj z) j:=by
 show (if 25≤j∧j<25+(Xb z).length then (Xb z).getD (j-25) undef else cellV num net code z j)=_;rw [JR];unfold cellV Zj;by_cases h:25≤j∧j<46
 ·rw [if_pos (by omega),Y9q z (by omega),if_neg (by omega),if_neg (by omega),if_neg (by omega),if_pos h,show 4+(j-25)=j-21 by omega]
 ·rw [if_neg (by omega),if_neg h]
theorem Y9e (z:Nat→Int) (j:Nat):zset (Zj z) 47 (IntKind.i64.wrap (z 47+1)) j=Yo z j:=by
 unfold zset Zj Yo;rfl
theorem Y97 (p:Option Addr) (cap:Nat) (hs:Still L w0 nb) (hnet:w0.cell? ⟨nb,0,none⟩=some (.slice p 0 cap)) (hi:rows[ic]?=some (Y5 g num (.pointer (some ⟨nb,0,none⟩)) code z)) (w:World) (hF:Kn L w0 rows w):
  Yl Tryz.prog false L.R1 L.D1 112 #[.pointer (some ⟨g,0,none⟩)] w (fun _ w'=>Kn L w0 (rows.set ic (Y5 g num (.pointer (some ⟨nb,0,none⟩)) code (Yo z))) w') (fun _ _=>False):=by
 replace hF:=hF.lay;have hk:(base 112).kind≠.early:=by simp [base]
 refine Yl.intro L.terms1 #[.pointer (some ⟨g,0,none⟩),undef,undef,undef,undef,undef,undef,undef,undef,undef,undef,undef,undef,undef,undef,undef,undef,undef,undef,undef,undef,undef,undef,undef,undef] Tryz.func112 rfl (by kernel_rfl) fun cl cs Stop Ret _=>?_;repeat refine .c1 L.terms1 rfl ?_
 refine Y1.drawnN (S:=KnL L w0 rows []) (Die:=fun _ _=>False) L.terms1 L.draws1 9 (by rfl) hk (by kernel_rfl) (fun _ _ _ h=>h) (fun _ _ _ h=>h.elim) fun w1 hR=>?_;replace hF:=(hF.rely hR).rely (Turn.drew _);clear hR;refine Y4 L.terms1 0 (fun _ _ h r=>KnL.rely h r) hF ?_;try walk_nrm
 refine Y4 L.terms1 1 (fun _ _ h r=>KnL.rely h r) hF ?_;try walk_nrm
 refine Y4 L.terms1 2 (fun _ _ h r=>KnL.rely h r) hF ?_;try walk_nrm
 refine Ye L.terms1 3 rfl (fun _ _ h r=>KnL.rely h r) hF ?_ fun _ hw=>⟨run_eq_of (by
  intro K hK;have hc:World.cell? _ ⟨g,1,none⟩=some (.pointer (some ⟨nb,0,none⟩)):=hw.cell hi (show 1<48 by omega);go_simp;exact hK),by
  have hc:World.cell? _ ⟨g,1,none⟩=some (.pointer (some ⟨nb,0,none⟩)):=hw.cell hi (show 1<48 by omega);refine hw.looks hi ?_;co_evs (exact ⟨_,rfl⟩)⟩
 try walk_nrm
 refine Y4 L.terms1 4 (fun _ _ h r=>KnL.rely h r) hF ?_;try walk_nrm
 refine Y4 L.terms1 5 (fun _ _ h r=>KnL.rely h r) hF ?_;try walk_nrm
 refine Y4 L.terms1 6 (fun _ _ h r=>KnL.rely h r) hF ?_;try walk_nrm
 refine Ye L.terms1 7 rfl (fun _ _ h r=>KnL.rely h r) hF ?_ fun _ hw=>⟨run_eq_of (by
  intro K hK;have hc:World.cell? _ ⟨g,0,none⟩=some (.int .i64 num):=hw.cell hi (show 0<48 by omega);go_simp;exact hK),by
  have hc:World.cell? _ ⟨g,0,none⟩=some (.int .i64 num):=hw.cell hi (show 0<48 by omega);refine hw.looks hi ?_;co_evs (exact ⟨_,rfl⟩)⟩
 try walk_nrm
 refine JS (i:=8) (by first|kernel_rfl|decide +kernel) rfl (by rfl) rfl Tryz.func125 (by rfl) rfl #[.pointer (some ⟨nb,0,none⟩),.int .i64 num] (by kernel_rfl) (Y9a (rows:=rows++[]) p cap hs hnet num _ hF) ?_;intro v w2 hF2;replace hF:KnL L w0 rows [] w2:=hF2;clear hF2;refine ⟨.inl hF,?_⟩;try walk_nrm
 refine Xi (by first|kernel_rfl|decide +kernel) ?_ _;repeat refine .c1 L.terms1 rfl ?_
 replace hF:=hF.drop;refine .regionL L.terms1 [0,1,2,3,4,5,6,7] (by rfl) ?_;iterate 4 (refine .opV L.terms1 rfl (by rfl) hk ?_;try walk_nrm)
 refine Y1.op rfl (by rfl) hk ?_;intro w1 hR K hK;replace hF:=hF.rely hR;clear hR;have hsz:(Tryz.prog.info? 184).map (·.size)=some (Xb z).length:=by rw [JR];exact Y1K
 rw [Y5Z (b:=g) (off:=4) rfl rfl (Xb z) _ (Y3m hF hi) Tryz.underlying184 rfl hsz];refine hK _ _ ⟨?_,?_⟩
 ·refine hF.doesAny hi (.refl _) rfl fun e he=>?_;exact Ya4 (b:=g) (off:=4) rfl rfl (Xb z) _ (Y3m hF hi) Tryz.underlying184 rfl hsz e (mem_listed he)
 clear hK K;try walk_nrm
 iterate 2 (refine .opV L.terms1 rfl (by rfl) hk ?_;try walk_nrm)
 refine Y1.op rfl (by rfl) hk ?_;intro w1 hR K hK;replace hF:=hF.rely hR;clear hR;have hsz2:(Tryz.prog.info? 184).map (·.size)=some (Xb z).toArray.size:=by rw [List.size_toArray,JR];exact Y1K
 have hone:=all_oneCell_toArray (Y9o z);have hrow:=(hF.row ic _ hi).rw.row;have hth:w1.there g 25 (Xb z).toArray.size:=fun j hj=>by
  rw [List.size_toArray,JR] at hj;exact ⟨by rw [hrow.cell (j:=25+j) (show 25+j<48 by omega)];rfl,hrow.frozen _⟩
 obtain ⟨hF2,ht2,hc2⟩:=Kn.setCells (Xb z) 25 _ _ _ hF hi;rw [Yaf (b:=g) (off:=25) rfl rfl (Xb z).toArray rfl hth hsz2 hone];refine hK _ _ ⟨?_,?_⟩
 ·refine hF.doesAny hi ht2 hc2 fun e he=>?_;exact Y7e (b:=g) (off:=25) rfl rfl (Xb z).toArray rfl 48 _ _ hrow (by rw [List.size_toArray,JR];omega) hsz2 hone e (mem_listed he)
 clear hK K hth hrow hone hsz2 ht2 hc2;replace hF:Kn L w0 (rows.set ic (Y5 g num (.pointer (some ⟨nb,0,none⟩)) code (Zj z))) _:=hF2.congr hi rfl rfl rfl fun j _=>Y5w j;clear hF2;try walk_nrm
 replace hF:=hF.lay;repeat refine .c1 L.terms1 rfl ?_
 refine .regionL L.terms1 [0,1,2,3,4,5,6,7] (by rfl) ?_;iterate 3 (refine .opV L.terms1 rfl (by rfl) hk ?_;try walk_nrm)
 refine .op rfl (by rfl) hk fun w1 hR K hK=>?_;replace hF:=hF.rely hR;clear hR;have hc:World.cell? _ ⟨g,47,none⟩=some (.int .i64 (Zj z 47)):=KnL.cz hi hF (by omega) (by omega);rw [show Zj z 47=z 47 from rfl] at hc;go_simp;try (unfold stored;go_simp)
 refine hK _ _ ⟨?_,?_⟩
 ·refine KnL.clooks hi hF ?_;co_evs (exact ⟨_,rfl⟩)
 clear hK K;clear hc;try walk_nrm
 iterate 3 (refine .opV L.terms1 rfl (by rfl) hk ?_;try walk_nrm)
 refine .op rfl (by rfl) hk fun w1 hR K hK=>?_;replace hF:=hF.rely hR;clear hR;have hc:World.cell? _ ⟨g,47,none⟩=some (.int .i64 (Zj z 47)):=KnL.cz hi hF (by omega) (by omega);rw [show Zj z 47=z 47 from rfl] at hc;have hz2:World.frozen? _ ⟨g,47,none⟩=false:=KnL.cfz hi hF 47;go_simp;try (unfold stored;go_simp)
 refine hK _ _ ⟨?_,?_⟩
 ·refine KnL.cdoes hi hF 47 _ ?_;co_evs (exact rfl)
 clear hK K;clear hc hz2;replace hF:=KnL.cset hi hF (j:=47) (by omega) (IntKind.i64.wrap (z 47+1));try walk_nrm
 repeat refine .c1 L.terms1 rfl ?_
 refine Y1.fin L.terms1 ?_;refine Ret _ _ _ _ rfl (Y0L L.terms1 (by rfl) _) ?_;have e:zset (Zj z) 47 (IntKind.i64.wrap (z 47+1))=Yo z:=funext fun j=>Y9e z j;rw [e] at hF;exact hF.drop
end
abbrev one1 (b t:Nat) (v:Value):Row:=⟨b,1,t,fun _=>v⟩
def XU (y k:Int):Value:=.agg #[.int .i64 2,.int .i64 y,.int .i64 k]
section
variable {L:Lot} {w0:World} {rows:List Row} {ic g nb p c y:Nat} {num:Int} {code:Value} {z:Nat→Int}
theorem KnL.l1 {ls:List Row} {w:World} {k b t:Nat} {v:Value} (h:KnL L w0 rows ls w) (hk:ls[k]?=some (one1 b t v)):w.cell? ⟨b,0,none⟩=some v:=h.lcell hk (j:=0) (show 0<1 by omega)
theorem KnL.new1 {ls:List Row} {w:World} (h:KnL L w0 rows ls w) {t:Nat} (ht:(t==L.ev)=false) (v:Value):KnL L w0 rows (ls++[one1 w.heap.size t v]) (w.alloc (.cells #[v] t)):=
 h.alloc #[v] t (fun _=>v) ht fun j hj=>by
  have:j=0:=by simp at hj;exact hj
  subst this;rfl
theorem KnL.set1 {ls:List Row} {w:World} {k b t:Nat} {v:Value} (h:KnL L w0 rows ls w) (hk:ls[k]?=some (one1 b t v)) (v':Value):KnL L w0 rows (ls.set k (one1 b t v')) (w.setCell ⟨b,0,none⟩ v'):=
 (h.lset hk 0 v').lcongr hk rfl rfl rfl fun j hj=>by
  have:j=0:=by have:j<1:=hj;omega
  subst this;rfl
abbrev runL (L:Lot) (g p c y:Nat) (v:Int):List Row:=[one1 p 143 (.pointer (some ⟨g,0,none⟩)),one1 c 221 (.chan (some L.c)),one1 y 2 (.int .i64 v)]
abbrev runD (p c y:Nat):Deferred:={target:=.fn (.func 111) #[.pointer (some ⟨p,0,none⟩),.pointer (some ⟨c,0,none⟩),.pointer (some ⟨y,0,none⟩)],args:=#[]}
theorem Y3x {Stop:Goroutine→World→Prop} {fr:Frame} {cs:List Frame} {ls:List Row} (hm:fr.mode=.returning) (hd:fr.defers=[runD p c y]) (w:World) (hF:KnL L w0 rows ls w)
  (h:∀w',KnL L w0 rows ls w'→Y1 Tryz.prog false L.R1 L.D1 Stop (G {fr with defers:=[]} cs) w'):Y1 Tryz.prog false L.R1 L.D1 Stop (G fr cs) w:=by
 have hk:(baseD 111).kind≠.early:=by simp [baseD]
 refine Y1.unwind L.terms1 #[.pointer (some ⟨p,0,none⟩),.pointer (some ⟨c,0,none⟩),.pointer (some ⟨y,0,none⟩),undef,undef,undef,undef,undef,undef,undef,undef,undef,undef,undef,undef,undef,undef,undef,undef,undef] (by rw [hm];simp) hd Tryz.func111 (by rfl) rfl (by kernel_rfl) ?_;repeat refine .c1 L.terms1 rfl ?_
 refine .regionL L.terms1 [0,1,2,3,4,5,6] (by rfl) ?_;refine Y1.recoverNone L.terms1 rfl (by rfl) rfl rfl hm ?_;try walk_nrm
 refine .op rfl (by rfl) hk fun w1 hR K hK=>?_;replace hF:=hF.rely hR;clear hR;go_simp;try (unfold stored;go_simp)
 refine hK _ _ ⟨?_,?_⟩
 ·rw [listed_nil (by rfl)];exact Terms.idle L.terms1 _
 clear hK K;try walk_nrm
 iterate 5 (refine .opV L.terms1 rfl (by rfl) hk ?_;try walk_nrm)
 repeat refine .c1 L.terms1 rfl ?_
 refine .regionL L.terms1 [0] (by rfl) ?_;refine .opV L.terms1 rfl (by rfl) hk ?_;try walk_nrm
 repeat refine .c1 L.terms1 rfl ?_
 refine Y1.condF L.terms1 (by rfl) ?_;repeat refine .c1 L.terms1 rfl ?_
 refine Y1.fin L.terms1 ?_;exact Y1.leaveD L.terms1 Tryz.func111 rfl (Y0L L.terms1 (by rfl) _) (.inl ⟨hm,rfl⟩) (h _ hF)
theorem Y7G {FS:World→Prop} {vs:List Value} {fr:Frame} {cs:List Frame} (q:Option Addr) (cap:Nat) (hs:Still L w0 nb) (hnet:w0.cell? ⟨nb,0,none⟩=some (.slice q 0 cap)) {r0:Row} (hi:rows[ic]?=some r0) (why v0:Int) (hm:fr.mode=.panicking (brk why)) (hd:fr.defers=[runD p c y]) (w:World) (hF:KnL L w0 (rows.set ic (Y5 g num (.pointer (some ⟨nb,0,none⟩)) code z)) (runL L g p c y v0) w)
  (h:∀w',KnL L w0 (rows.set ic (Y5 g num (.pointer (some ⟨nb,0,none⟩)) code (Yo z))) (runL L g p c y 3) w'→Y1 Tryz.prog false L.R1 L.D1 (StopB Tryz.prog L.c L.R1 L.D1 L.SL FS vs) (G {fr with defers:=[],mode:=.returning} cs) w'):
  Y1 Tryz.prog false L.R1 L.D1 (StopB Tryz.prog L.c L.R1 L.D1 L.SL FS (XU why (Yo z 47)::vs)) (G fr cs) w:=by
 have hk:(baseD 111).kind≠.early:=by simp [baseD]
 refine Y1.unwind L.terms1 #[.pointer (some ⟨p,0,none⟩),.pointer (some ⟨c,0,none⟩),.pointer (some ⟨y,0,none⟩),undef,undef,undef,undef,undef,undef,undef,undef,undef,undef,undef,undef,undef,undef,undef,undef,undef] (by rw [hm];simp) hd Tryz.func111 (by rfl) rfl (by kernel_rfl) ?_;repeat refine .c1 L.terms1 rfl ?_
 refine .regionL L.terms1 [0,1,2,3,4,5,6] (by rfl) ?_;refine Y1.recoverSome L.terms1 rfl (by rfl) rfl rfl hm ?_;try walk_nrm
 refine .op rfl (by rfl) hk fun w1 hR K hK=>?_;replace hF:=hF.rely hR;clear hR;go_simp;try (unfold stored;go_simp)
 refine hK _ _ ⟨?_,?_⟩
 ·rw [listed_nil (by rfl)];exact Terms.idle L.terms1 _
 clear hK K;try walk_nrm
 iterate 5 (refine .opV L.terms1 rfl (by rfl) hk ?_;try walk_nrm)
 repeat refine .c1 L.terms1 rfl ?_
 refine .regionL L.terms1 [0] (by rfl) ?_;refine .opV L.terms1 rfl (by rfl) hk ?_;try walk_nrm
 repeat refine .c1 L.terms1 rfl ?_
 refine Y1.condT L.terms1 (by rfl) ?_;repeat refine .c1 L.terms1 rfl ?_
 refine .regionL L.terms1 [0,1] (by rfl) ?_;refine .op rfl (by rfl) hk fun w1 hR K hK=>?_;replace hF:=hF.rely hR;clear hR;have hc:World.cell? _ ⟨p,0,none⟩=some (.pointer (some ⟨g,0,none⟩)):=hF.l1 (k:=0) rfl;go_simp;try (unfold stored;go_simp)
 refine hK _ _ ⟨?_,?_⟩
 ·refine hF.llooks (k:=0) rfl ?_;co_evs (exact ⟨_,rfl⟩)
 clear hK K;clear hc;try walk_nrm
 refine Y1.callX L.terms1 rfl (by rfl) hk rfl Tryz.func112 (by rfl) rfl #[.pointer (some ⟨g,0,none⟩)] (by kernel_rfl) (Y97 (ic:=ic) q cap hs hnet (at2 hi _) _ hF) ?_ (fun _ _ _ h=>h.elim);intro v w2 hF2;replace hF:=KnL.back hi hF2;clear hF2;try walk_nrm
 repeat refine .c1 L.terms1 rfl ?_
 refine Y1.drawnT (S:=KnL L w0 (rows.set ic (Y5 g num (.pointer (some ⟨nb,0,none⟩)) code (Yo z))) (runL L g p c y v0)) L.terms1 L.draws1 8 (by rfl) hk (by kernel_rfl) ?_;intro w1 hR;replace hF:=(hF.rely hR).rely (Turn.drew _);clear hR;co_applyP Yq L.terms1 (fun _ _ _ _ h r=>⟨h.1,h.2.rely L.terms1.trans r⟩) (fun _ _ h r=>KnL.rely h r) ?hqr1 (i:=0) rfl (by first|kernel_rfl|decide +kernel) (by first|kernel_rfl|decide +kernel) (by first|kernel_rfl|decide +kernel) (by first|kernel_rfl|decide +kernel) (.inl ⟨by rfl,fun _ hw=>⟨run_eq_of ?run1,?guar1⟩⟩) hF ?rest1
 case hqr1=>exact fun _ _ _ h r=>Y1.rely L.terms1.trans h r
 case run1=>
  intro K hK;have hc:World.cell? _ ⟨c,0,none⟩=some (.chan (some L.c)):=hw.l1 (k:=1) rfl;go_simp;exact hK
 case guar1=>
  have hc:World.cell? _ ⟨c,0,none⟩=some (.chan (some L.c)):=hw.l1 (k:=1) rfl;refine hw.llooks (k:=1) rfl ?_;co_evs (exact ⟨_,rfl⟩)
 try walk_nrm
 co_applyP Yq L.terms1 (fun _ _ _ _ h r=>⟨h.1,h.2.rely L.terms1.trans r⟩) (fun _ _ h r=>KnL.rely h r) ?hqr2 (i:=1) rfl (by first|kernel_rfl|decide +kernel) (by first|kernel_rfl|decide +kernel) (by first|kernel_rfl|decide +kernel) (by first|kernel_rfl|decide +kernel) (.inl ⟨by rfl,fun _ hw=>⟨run_eq_of ?run2,?guar2⟩⟩) hF ?rest2
 case hqr2=>exact fun _ _ _ h r=>Y1.rely L.terms1.trans h r
 case run2=>
  intro K hK;skip;go_simp;exact hK
 case guar2=>
  skip
  co_quiet L.terms1
 try walk_nrm
 co_applyP Yq L.terms1 (fun _ _ _ _ h r=>⟨h.1,h.2.rely L.terms1.trans r⟩) (fun _ _ h r=>KnL.rely h r) ?hqr3 (i:=2) rfl (by first|kernel_rfl|decide +kernel) (by first|kernel_rfl|decide +kernel) (by first|kernel_rfl|decide +kernel) (by first|kernel_rfl|decide +kernel) (.inl ⟨by rfl,fun _ hw=>⟨run_eq_of ?run3,?guar3⟩⟩) hF ?rest3
 case hqr3=>exact fun _ _ _ h r=>Y1.rely L.terms1.trans h r
 case run3=>
  intro K hK;have hc:World.cell? _ ⟨p,0,none⟩=some (.pointer (some ⟨g,0,none⟩)):=hw.l1 (k:=0) rfl;go_simp;exact hK
 case guar3=>
  have hc:World.cell? _ ⟨p,0,none⟩=some (.pointer (some ⟨g,0,none⟩)):=hw.l1 (k:=0) rfl;refine hw.llooks (k:=0) rfl ?_;co_evs (exact ⟨_,rfl⟩)
 try walk_nrm
 co_applyP Yq L.terms1 (fun _ _ _ _ h r=>⟨h.1,h.2.rely L.terms1.trans r⟩) (fun _ _ h r=>KnL.rely h r) ?hqr4 (i:=3) rfl (by first|kernel_rfl|decide +kernel) (by first|kernel_rfl|decide +kernel) (by first|kernel_rfl|decide +kernel) (by first|kernel_rfl|decide +kernel) (.inl ⟨by rfl,fun _ hw=>⟨run_eq_of ?run4,?guar4⟩⟩) hF ?rest4
 case hqr4=>exact fun _ _ _ h r=>Y1.rely L.terms1.trans h r
 case run4=>
  intro K hK;skip;go_simp;exact hK
 case guar4=>
  skip
  co_quiet L.terms1
 try walk_nrm
 co_applyP Yq L.terms1 (fun _ _ _ _ h r=>⟨h.1,h.2.rely L.terms1.trans r⟩) (fun _ _ h r=>KnL.rely h r) ?hqr5 (i:=4) rfl (by first|kernel_rfl|decide +kernel) (by first|kernel_rfl|decide +kernel) (by first|kernel_rfl|decide +kernel) (by first|kernel_rfl|decide +kernel) (.inl ⟨by rfl,fun _ hw=>⟨run_eq_of ?run5,?guar5⟩⟩) hF ?rest5
 case hqr5=>exact fun _ _ _ h r=>Y1.rely L.terms1.trans h r
 case run5=>
  intro K hK;skip;go_simp;exact hK
 case guar5=>
  skip
  co_quiet L.terms1
 try walk_nrm
 co_applyP Yq L.terms1 (fun _ _ _ _ h r=>⟨h.1,h.2.rely L.terms1.trans r⟩) (fun _ _ h r=>KnL.rely h r) ?hqr6 (i:=5) rfl (by first|kernel_rfl|decide +kernel) (by first|kernel_rfl|decide +kernel) (by first|kernel_rfl|decide +kernel) (by first|kernel_rfl|decide +kernel) (.inl ⟨by rfl,fun _ hw=>⟨run_eq_of ?run6,?guar6⟩⟩) hF ?rest6
 case hqr6=>exact fun _ _ _ h r=>Y1.rely L.terms1.trans h r
 case run6=>
  intro K hK;have hc:World.cell? _ ⟨g,47,none⟩=some (.int .i64 (Yo z 47)):=KnL.cz hi hw (by omega) (by omega);go_simp;exact hK
 case guar6=>
  have hc:World.cell? _ ⟨g,47,none⟩=some (.int .i64 (Yo z 47)):=KnL.cz hi hw (by omega) (by omega);refine KnL.clooks hi hw ?_;co_evs (exact ⟨_,rfl⟩)
 try walk_nrm
 co_applyP Yq L.terms1 (fun _ _ _ _ h r=>⟨h.1,h.2.rely L.terms1.trans r⟩) (fun _ _ h r=>KnL.rely h r) ?hqr7 (i:=6) rfl (by first|kernel_rfl|decide +kernel) (by first|kernel_rfl|decide +kernel) (by first|kernel_rfl|decide +kernel) (by first|kernel_rfl|decide +kernel) (.inl ⟨by rfl,fun _ hw=>⟨run_eq_of ?run7,?guar7⟩⟩) hF ?rest7
 case hqr7=>exact fun _ _ _ h r=>Y1.rely L.terms1.trans h r
 case run7=>
  intro K hK;skip;go_simp;exact hK
 case guar7=>
  skip
  co_quiet L.terms1
 try walk_nrm
 refine Y1P (i:=7) (by first|kernel_rfl|decide +kernel) rfl (by rfl) (Z8 rfl (by first|kernel_rfl|decide +kernel)) ⟨rfl,?_⟩;refine Y1.send rfl (by rfl) hk rfl rfl rfl ?_;try walk_nrm
 repeat refine .c1 L.terms1 rfl ?_
 refine .regionL L.terms1 [0] (by rfl) ?_;refine .op rfl (by rfl) hk fun w1 hR K hK=>?_;replace hF:=hF.rely hR;clear hR;have hc:World.cell? _ ⟨y,0,none⟩=some (.int .i64 v0):=hF.l1 (k:=2) rfl;have hz2:World.frozen? _ ⟨y,0,none⟩=false:=hF.lfrozen (k:=2) rfl 0;go_simp;try (unfold stored;go_simp)
 refine hK _ _ ⟨?_,?_⟩
 ·refine hF.ldoes (k:=2) rfl 0 _ ?_;co_evs (exact rfl)
 clear hK K;clear hc hz2;replace hF:KnL L w0 (rows.set ic (Y5 g num (.pointer (some ⟨nb,0,none⟩)) code (Yo z))) (runL L g p c y 3) _:=hF.set1 (k:=2) rfl (.int .i64 3);try walk_nrm
 repeat refine .c1 L.terms1 rfl ?_
 refine Y1.fin L.terms1 ?_;exact Y1.leaveD L.terms1 Tryz.func111 rfl (Y0L L.terms1 (by rfl) _) (.inr ⟨_,rfl,rfl⟩) (h _ hF)
end
end Go.Proofs.YtdoghgnifkgfdaaGreat.Mute
