import Derived.Test.YtdoghgnifkgfdaaGreatA11
set_option maxRecDepth 100000
set_option maxHeartbeats 16000000
open Option renaming none->Hn,some->Gn
open Go renaming World->En,Value->Dn,undef->Bn,Goroutine->zn,heap_setCell_other->yn,Program->Ym,Frame->Xm,Addr->Vm
open Bool renaming true->Um,false->Tm
open Go.Conc renaming run_eq_of->Rm
open Nat renaming le_trans->Qm,zero_le->Pm,lt_of_lt_of_le->Lm
open List renaming range->Hm
open Array renaming getElem?_eq_getElem->Bm
namespace Go.Proofs.YtdoghgnifkgfdaaGreat.Mute
open Tryz Go Go.Conc Go.RowKit
def lz(P:Ym)(L:Bt)(FS:En->Prop)(f:FuncId)(args:Array Dn)(w:En)(evs:List Dn)(Post:Dn->En->Prop)(Die:List PanicEntry->En->Prop):Prop:=
 ∀(cl:Xm)(cs:List Xm)(vs:List Dn),(∀v w',Post v w'->Pn P Tm L.R1 L.D1 (StopB P L.c L.R1 L.D1 L.SL FS vs) (G (cl.finish v) cs) w')->(∀ch w',Die ch w'->Pn P Tm L.R1 L.D1 (StopB P L.c L.R1 L.D1 L.SL FS vs) (G (cl.raise ch) cs) w')->
  Pn P Tm L.R1 L.D1 (StopB P L.c L.R1 L.D1 L.SL FS (evs++vs)) (G (Frame.enter P f args .normal) (cl::cs)) w
theorem Ao.quiet{P:Ym}{L:Bt}{FS:En->Prop}{f:FuncId}{args:Array Dn}{w:En}{Post:Dn->En->Prop}{Die:List PanicEntry->En->Prop}(h:Ao P Tm L.R1 L.D1 f args w Post Die):lz P L FS f args w [] Post Die:=fun cl cs _ h1 h2=>h cl cs _ h1 h2
theorem lz.intro{P:Ym}{L:Bt}{FS:En->Prop}{f:FuncId}{fn:Func}{c:Code}{args:Array Dn}{w:En}{evs:List Dn}(tmps:Array Dn){Post:Dn->En->Prop}{Die:List PanicEntry->En->Prop}(hf:P.funcs[f]?=Gn fn)(hb:fn.body=Gn c)(ht:args++Array.replicate (fn.ntmps-args.size) Bn=tmps)
  (h:∀(cl:Xm)(cs:List Xm)(vs:List Dn),
   (∀a todo w' v,a.defers=[]->yw P L.R1 L.D1 f fn a.tmps w' v->Post v w'->Pn P Tm L.R1 L.D1 (StopB P L.c L.R1 L.D1 L.SL FS vs) (G {(base f).at a todo with mode:=.returning} (cl::cs)) w')->
   (∀fr ch w',fr.fn=f->fr.defers=[]->fr.mode=.panicking ch->Die ch w'->Pn P Tm L.R1 L.D1 (StopB P L.c L.R1 L.D1 L.SL FS vs) (G fr (cl::cs)) w')->
   Pn P Tm L.R1 L.D1 (StopB P L.c L.R1 L.D1 L.SL FS (evs++vs)) (G ((base f).at {tmps:=tmps,defers:=[]} [.code c]) (cl::cs)) w):lz P L FS f args w evs Post Die:=fun cl cs vs hp hd=>by
 rw[enter_at args hf hb,ht];exact h cl cs vs (fun a todo w' v h1 h2 h3=>.leave L.Nn hf h1 h2 (hp v w' h3)) fun fr ch w' h1 h2 h3 h4=>.up L.Nn h3 h2 (by rw[h1];exact hf) (hd ch w' h4)
theorem Pn.send{P:Ym}{L:Bt}{FS:En->Prop}{vs:List Dn}{b:Xm}{a:Act}{k:List Item}{cs:List Xm}{w:En}{ops:Array Oper}{i:Nat}{rest:List Nat}{o:Oper}{x y:Operand}{v:Dn}(ho:ops[i]?=Gn o)(hw:Region.wanted o (yielded ops a.tmps)=Um)(hk:b.kind≠.early)(ep:o.op=.send x y)(hx:a.eval x=.chan (Gn L.c))(hy:a.eval y=v)
  (h:Pn P Tm L.R1 L.D1 (StopB P L.c L.R1 L.D1 L.SL FS vs) (G (b.at (a.put o.dst Bn) (.inRegion ops rest::k)) cs) w):Pn P Tm L.R1 L.D1 (StopB P L.c L.R1 L.D1 L.SL FS (v::vs)) (G (b.at a (.inRegion ops (i::rest)::k)) cs) w:=by
 refine .stop rfl fun w₁ r=>⟨G (b.at a (.inRegion ops (i::rest)::k)) cs,.tuple #[],#[],?_,P0,fun w₂ r₂=>?_⟩
 ·rw[stepG_comm (cases:=#[scase L.c v (.tuple #[])]) (blocking:=Um) (shape:=.send) (w':=w₁) ho hw hk (by simp[execOp,ep,hx,hy,scase])];have he:(execOp a.eval o).events P w₁ #[]=#[]:=by
   refine ya ?_;rfl
  rw[listed_nil he]
 ·have e:Go.Conc.served (G (b.at a (.inRegion ops (i::rest)::k)) cs) Bn=G (b.at (a.put o.dst Bn) (.inRegion ops rest::k)) cs:=by
   rw[served_G];simp[ho]
  rw[e];exact(h.rely L.Nn.trans r).rely L.Nn.trans r₂
section
variable {L:Bt}{w0:En}{rows:List Jp}{ic g cb co n cc:Nat}{num:Int}{net:Dn}{z ci:Nat->Int}
theorem Z90{FS:En->Prop}(Et:((97:Nat)==L.ev)=Tm)(hi:rows[ic]?=Gn (jo g num net (.slice (Gn ⟨cb,co,Hn⟩) n cc) z))(hs:Bq L w0 cb)(Np:∀j,j<n*4->w0.cell? ⟨cb,co+j,Hn⟩=Gn (.int .i64 (ci j)))(nx:Nat)(hz:z 45=nx)(yo:nx<n)(hn:n<=48)
  (R A:Nat)(xw:R<4)(vw:A<4)(ep:ci (nx*4)=15)(hR:ci (nx*4+1)=R)(hA:ci (nx*4+2)=A)(N:Int)(hN:ci (nx*4+3)=N)(inV:Dn)(w:En)(hF:Kn L w0 rows w):
  lz prog L FS 113 #[.pointer (Gn ⟨g,0,Hn⟩),inV,.chan (Gn L.c)] w [.agg #[.int .i64 1,.int .i64 ((Wn (Wn z 46 (IntKind.i64.wrap (z 46+1))) 45 ((nx:Int)+1)) (25+R)),.int .i64 0]] (fun v w'=>v=.int .i64 15/\Kn L w0 (rows.set ic (jo g num net (.slice (Gn ⟨cb,co,Hn⟩) n cc) (Wn (Wn z 46 (IntKind.i64.wrap (z 46+1))) 45 ((nx:Int)+1)))) w') (fun _ _=>False):=by
 refine gd fun hk=>?_;refine lz.intro (c:=f_) _ func113 rfl J0 fun cl cs vs tt _=>UN Et hi hs Np nx hz yo hn R A xw vw ep hR hA N hN inV (.chan (Gn L.c)) w hF fun B w3 hF=>?_;refine vj fun iV eV=>?_;iterate 9 (refine .Un L.Nn [0,1] I0 ?_;iterate 2 (refine .Yo L.Nn rfl I0 hk ?_;try walk_nrm);repeat refine .c1 L.Nn rfl ?_;refine .Zq L.Nn I0 ?_;repeat refine .c1 L.Nn rfl ?_)
 refine cj ?_;refine Ha ?_;refine pj fun w1 K hK hF=>?_;refine ga fun hc=>?_;refine vm ?_ ?_
 ·exact Cj
 clear hK K;clear hc;refine um ?_;refine M9 ?_;refine Pn.send rfl I0 hk rfl rfl rfl ?_;refine um ?_;refine fj fun w1 K hK hF a0 a1 a2 a3=>?_;refine vm ?_ ?_
 ·exact nj
 exact dj
end
section
variable {P:Ym}{main:Bool}{R:En->En->Prop}{D:En->En->Array Event->Prop}{Bo:zn->En->Prop}{b:Xm}{a:Act}{k:List Item}{cs:List Xm}{w:En}{ops:Array Oper}{i:Nat}{rest:List Nat}{o:Oper}
theorem Pn.defer(T:Terms R D)(ho:ops[i]?=Gn o)(hw:Region.wanted o (yielded ops a.tmps)=Um)(hk:b.kind≠.early)(d:Deferred)(hr:∀w,(execOp a.eval o).run P w=.ok (.defer d) w)(he:∀w,(execOp a.eval o).events P w #[]=#[])
  (h:Pn P main R D Bo (G (b.at (Act.put ⟨a.tmps,d::a.defers⟩ o.dst Bn) (.inRegion ops rest::k)) cs) w):Pn P main R D Bo (G (b.at a (.inRegion ops (i::rest)::k)) cs) w:=by
 refine .ctl T rfl (fun w₁=>?_) h;have bz:(b.at ⟨a.tmps,d::a.defers⟩ (.inRegion ops (i::rest)::k)).finish Bn=b.at (Act.put ⟨a.tmps,d::a.defers⟩ o.dst Bn) (.inRegion ops rest::k):=by rw[Frame.finish_at,ho];rfl
 have jK:(b.kind==CallKind.early)=false:=by simpa using hk
 rw[stepG_oper ho hw,<-bz];simp[stepG.apply,hr,he,G,Frame.at,jK,GStep.after,seen_none]
theorem Pn.aW(T:Terms R D){c:Xm}(ho:ops[i]?=Gn o)(hw:Region.wanted o (yielded ops a.tmps)=Um)(hk:b.kind=.deferred)(ep:o.op=.call {callee:=.builtin .recover,args:=#[],argTypes:=#[]})(hc:c.mode=.returning)
  (h:Pn P main R D Bo (G (b.at (a.put o.dst .nilIface) (.inRegion ops rest::k)) (c::cs)) w):Pn P main R D Bo (G (b.at a (.inRegion ops (i::rest)::k)) (c::cs)) w:=by
 refine .ctl T rfl (fun w₁=>?_) h;have bz:(b.at a (.inRegion ops (i::rest)::k)).finish .nilIface=b.at (a.put o.dst .nilIface) (.inRegion ops rest::k):=by rw[Frame.finish_at,ho];rfl
 have hr:(execOp a.eval o).run P w₁=.ok .recover w₁:=by
  exact yg
 have he:(execOp a.eval o).events P w₁ #[]=#[]:=by
  exact yg
 exact yh
theorem Pn.eW(T:Terms R D){c:Xm}{v:Dn}(ho:ops[i]?=Gn o)(hw:Region.wanted o (yielded ops a.tmps)=Um)(hk:b.kind=.deferred)(ep:o.op=.call {callee:=.builtin .recover,args:=#[],argTypes:=#[]})(hc:c.mode=.panicking [{v,recovered:=Tm}])
  (h:Pn P main R D Bo (G (b.at (a.put o.dst v) (.inRegion ops rest::k)) ({c with mode:=.panicking [{v,recovered:=Um}]}::cs)) w):Pn P main R D Bo (G (b.at a (.inRegion ops (i::rest)::k)) (c::cs)) w:=by
 refine .ctl T rfl (fun w₁=>?_) h;have bz:(b.at a (.inRegion ops (i::rest)::k)).finish v=b.at (a.put o.dst v) (.inRegion ops rest::k):=by rw[Frame.finish_at,ho];rfl
 have hr:(execOp a.eval o).run P w₁=.ok .recover w₁:=by
  exact yg
 have he:(execOp a.eval o).events P w₁ #[]=#[]:=by
  exact yg
 exact yh
theorem Pn.unwind (T : Terms R D) {fr : Xm} {f : FuncId} {fn : Func} {c : Code} {xs cap : Array Dn} {ds : List Deferred} (tmps : Array Dn) (hm : fr.mode ≠ .run) (hd : fr.defers = { target := .fn (.func f) cap, args := xs } :: ds) (hf : P.funcs[f]? = Gn fn) (VC : (fn.name == "runtime.NumGoroutine") = Tm) (hb : fn.body = Gn c)
  (ht:(xs++cap)++Array.replicate (fn.ntmps-(xs++cap).size) Bn=tmps)
  (h:Pn P main R D Bo (G ((baseD f).at {tmps:=tmps,defers:=[]} [.code c]) ({fr with defers:=ds}::cs)) w):Pn P main R D Bo (G fr cs) w:=by
 refine .ctl T rfl (fun w₁=>?_) h;have h1 : ¬ fn.name = "runtime.NumGoroutine" := by simpa using VC
 rw[zt hm,<-ht,<-enter_atD (xs++cap) hf hb];unfold Go.unwind;simp only[hd];simp[callDeferred,invoke,callFunc,hf,h1,hb,GStep.after,seen_none,G]
theorem Pn.leaveD(T:Terms R D){f:FuncId}{fn:Func}{todo:List Item}{c c':Xm}{v:Dn}(hf:P.funcs[f]?=Gn fn)(hd:a.defers=[])(hr:yw P R D f fn a.tmps w v)
  (hc:(c.mode=.returning/\c'=c)\/(∃x,c.mode=.panicking [{v:=x,recovered:=Um}]/\c'={c with mode:=.returning}))
  (h:Pn P main R D Bo (G c' cs) w):Pn P main R D Bo (G {(baseD f).at a todo with mode:=.returning} (c::cs)) w:=by
 refine .one rfl fun w₁ h₁=>⟨_,_,seen P f ((results fn a.tmps).events P w₁ #[]),?_,(hr w₁ h₁).2,h.rely T.trans h₁⟩;have e:=(hr w₁ h₁).1;rcases hc with⟨hm,rfl⟩|⟨x,hm,rfl⟩
 ·exact Rk
 ·exact Rk
end
section
variable {P:Ym}{L:Bt}{FS:En->Prop}{b:Xm}{a:Act}{k:List Item}{cs:List Xm}{w:En}{ops:Array Oper}{i:Nat}{rest:List Nat}{o:Oper}
theorem Pn.ed0{f:FuncId}{fn:Func}{c:Code}{args:Array Operand}{EL:Array TypeId}{Post:Dn->En->Prop}{Die:List PanicEntry->En->Prop}{evs vs:List Dn}
  (ho:ops[i]?=Gn o)(hw:Region.wanted o (yielded ops a.tmps)=Um)(hk:b.kind≠.early)(ep:o.op=.call {callee:=.value (.func f),args,argTypes:=EL})
  (hf : P.funcs[f]? = Gn fn) (VC : (fn.name == "runtime.NumGoroutine") = Tm) (hb : fn.body = Gn c) (xs : Array Dn) (hv : args.map a.eval = xs) (hc : lz P L FS f xs w evs Post Die)
  (h:∀v w',Post v w'->Pn P Tm L.R1 L.D1 (StopB P L.c L.R1 L.D1 L.SL FS vs) (G (b.at (a.put o.dst v) (.inRegion ops rest::k)) cs) w')
  (hd:∀ch w',Die ch w'->Pn P Tm L.R1 L.D1 (StopB P L.c L.R1 L.D1 L.SL FS vs) (G {b.at a (.inRegion ops (i::rest)::k)with mode:=.panicking ch} cs) w'):
  Pn P Tm L.R1 L.D1 (StopB P L.c L.R1 L.D1 L.SL FS (evs++vs)) (G (b.at a (.inRegion ops (i::rest)::k)) cs) w:=by
 refine Pn.enter L.Nn ho hw hk ep hf VC hb ?_;rw[<-enter_at _ hf hb,hv];refine hc _ cs vs (fun v w' x=>?_) fun ch w' x=>hd ch w' x;rw[Frame.finish_at,ho];exact h v w' x
end
inductive kU where
 |on (op:Int) (iz:Option Int) (z:Nat->Int)
 |Xr (why:Int) (z:Nat->Int)
def Xn(z:Nat->Int):Nat->Int:=Wn (Wn z 46 (IntKind.i64.wrap (z 46+1))) 45 (((z 45).toNat:Int)+1)
def dp(n:Nat)(ci z:Nat->Int):kU:=
 if z 45=n then .Xr 3 (Wn z 46 (IntKind.i64.wrap (z 46+1)))
 else
  let k:=(z 45).toNat*4
  let R:=(ci (k+1)).toNat
  let A:=(ci (k+2)).toNat
  let N:=ci (k+3)
  let y:=Xn z
  if ci k=1 then .on 1 Hn (Wn y (25+R) N)
  else if ci k=2 then .on 2 Hn (Wn y (25+R) (IntKind.i64.wrap (y (25+R)+y (25+A))))
  else if ci k=3 then .on 3 Hn (Wn y (25+R) (IntKind.i64.wrap (y (25+R)-y (25+A))))
  else if ci k=4 then .on 4 Hn (Wn y (25+R) (IntKind.i64.wrap (y (25+R)*y (25+A))))
  else if ci k=5 then (if y (25+A)=0 then .Xr 1 y else .on 5 Hn (Wn y (25+R) (IntKind.i64.wrap ((y (25+R)).tdiv (y (25+A))))))
  else if ci k=6 then (if y (25+A)<0\/16<=y (25+A)then .Xr 2 y else .on 6 Hn (Wn y (25+R) (y (29+(y (25+A)).toNat))))
  else if ci k=7 then (if y (25+A)<0\/16<=y (25+A)then .Xr 2 y else .on 7 Hn (Wn y (29+(y (25+A)).toNat) (y (25+R))))
  else if ci k=8 then .on 8 Hn (Wn y 45 N)
  else if ci k=9 then .on 9 Hn (if y (25+R)=0 then Wn y 45 N else y)
  else if ci k=15 then .on 15 (Gn (y (25+R))) y
  else .on 0 Hn y
def iz(x:Int):Value:=.agg #[.int .i64 1,.int .i64 x,.int .i64 0]
def kU.sent:kU->List Dn
 |.on _ (Gn x) _=>[iz x]
 |_=>[]
section
variable {L:Bt}{w0:En}{rows:List Jp}{ic g cb co n cc:Nat}{num:Int}{net:Dn}{z ci:Nat->Int}
def brk(y:Int):List PanicEntry:=[{v:=.iface 222 (.int .i64 y),recovered:=Tm}]
abbrev qu(cb co n cc:Nat):Value:=.slice (Gn ⟨cb,co,Hn⟩) n cc
theorem lz.mono{P:Ym}{FS:En->Prop}{f:FuncId}{args:Array Dn}{w:En}{evs jj0:List Dn}{Post XJ:Dn->En->Prop}{Die m60:List PanicEntry->En->Prop}(h:lz P L FS f args w evs Post Die)(he:evs=jj0)(hp:∀v w',Post v w'->XJ v w')(hd:∀c w',Die c w'->m60 c w'):lz P L FS f args w jj0 XJ m60:=by
 subst he;exact fun cl cs vs h1 h2=>h cl cs vs (fun v w' x=>h1 v w' (hp v w' x)) fun ch w' x=>h2 ch w' (hd ch w' x)
end
section
variable {P:Ym}{o:Oper}{a:Act}{w:En}{x y:Operand}{ty:TypeId}{b off:Nat}
section
variable (ho:o.op=.load ty x)(hx:a.eval x=.pointer (Gn ⟨b,off,Hn⟩))(cs:List Dn)(d:TypeDesc)(hc:w.rangeAt b off cs)(hu:P.underlying ty=Gn d)(hd:d.isRow=Um)(hi:(P.info? ty).map (·.size)=Gn cs.length)
include ho hx cs d hc hu hd hi
theorem UT:
  (execOp a.eval o).run P w=.ok (.value (.agg cs.toArray)) w:=by
 unfold execOp;simp only[ho,hx,Sem.run_bind,Sem.run_pure,Result.andThen_ok,run_loadAt_mid w b off ty cs d hc hu hd hi]
theorem PU:
  ∀e∈(execOp a.eval o).events P w #[],∃ad,e.loc=.cell ad/\ad.block=b:=by
 intro e he;have gp0:(isAgg ty).run P w=.ok Um w:=by
  unfold isAgg;rw[Sem.run_bind,run_underlying hu w];cases d<;>simp_all
 have Gj0:(isAgg ty).events P w #[]=#[]:=by
  unfold isAgg;rw[Sem.events_bind,run_underlying hu w,events_underlying];cases d<;>simp_all
 cases hq:P.info? ty with
 |none=>simp[hq]at hi
 |some i=>
  have hs:i.size=cs.length:=by simpa[hq]using hi
  have hE:(execOp a.eval o).events P w #[]=(loadCells ⟨b,off,Hn⟩ cs.length).events P w #[]:=by
   unfold execOp;simp[ho,hx,Instr.loadAt,Instr.sureAddr,loadVar,Sem.events_bind,gp0,Gj0,sizeOf,typeInfo,hq,hs]
  rw[hE]at he;rcases events_loadCellsFrom_at (P:=P) ⟨b,off,Hn⟩ (fun g=>g=b) rfl cs.length 0 #[] w #[] (fun j hj=>by
   rw[Nat.zero_add,Addr.add_mid,hc j cs[j] (List.getElem?_eq_getElem hj)];rfl) e he with h|⟨ad,h1,_,h2⟩
  ·simp at h
  ·exact⟨ad,h1,h2⟩
end
section
variable (ho:o.op=.store ty x y)(hx:a.eval x=.pointer (Gn ⟨b,off,Hn⟩))(cells:Array Dn)(hy:a.eval y=.agg cells)
include ho hx cells hy
theorem BP(ht:w.there b off cells.size)(hi:(P.info? ty).map (·.size)=Gn cells.size)(h1:cells.all (·.oneCell')=Um):
  (execOp a.eval o).run P w=.ok .skip (w.setCells b off cells.toList):=by
 unfold execOp;simp only[ho,hx,hy,Sem.run_bind,Sem.run_pure,Result.andThen_ok,run_storeAt_mid w b off ty cells ht hi h1]
theorem FR(m t:Nat)(f:Nat->Dn)(hr:Tn w b m t f)(hm:off+cells.size<=m)(hi:(P.info? ty).map (·.size)=Gn cells.size)(h1:cells.all (·.oneCell')=Um):
  ∀e∈(execOp a.eval o).events P w #[],∃ad,e.loc=.cell ad/\ad.block=b:=by
 intro e he;cases hq:P.info? ty with
 |none=>simp[hq]at hi
 |some i=>
  have hs:cells.size=i.size:=by simp[hq]at hi;omega
  have hE:(execOp a.eval o).events P w #[]=(storeCells ⟨b,off,Hn⟩ cells.toList).events P w #[]:=by
   unfold execOp;simp[ho,hx,hy,Instr.storeAt,Instr.sureAddr,storeVar,Sem.events_bind,sizeOf,typeInfo,hq,Value.cells,hs]
  rw[hE]at he;obtain⟨cs,g1,g2,_⟩:=hr;rcases events_storeCells_at b off t cells.toList 0 cs w #[] g1 A1 (fun v hv=>(Array.all_eq_true_iff_forall_mem.1 h1) v (by simpa using hv)) e he with h|h
  ·simp at h
  ·exact h
end
end
section
variable {L:Bt}{w0 w w':En}{rows:List Jp}{i:Nat}{r:Jp}
theorem Kn.L_(h:Kn L w0 rows w)(hi:rows[i]?=Gn r)(ht:Rq L L.send w w')(nH:w'.heap[L.c]?=w.heap[L.c]?){es:Array Event}(Eu:∀e∈es,∃ad,e.loc=.cell ad/\ad.block=r.g):L.D1 w w' es:=by
 have ho:=h.row i r hi;obtain⟨o,hg⟩:=ho.rw.calm.there;obtain⟨o',h1,h2,_⟩:=ht.at_ r.g o hg;refine⟨ht,nH,fun e he=>?_⟩;obtain⟨ad,hl,hb⟩:=Eu e he;obtain⟨loc,wr,sy⟩:=e;simp only at hl;subst hl;refine⟨Gq _ _ _,fun x hx _=>?_⟩;have:x=⟨.cell ad,wr,if sy then .atomic else .plain⟩:=by
  cases wr<;>cases sy<;>simp[MemAct.ofEvent,MemAct.touch?]at hx<;>exact hx.symm
 subst this;exact⟨o',by rw[hb];exact h1,by rw[hb];exact fun hm=>ho.rw.calm.no o hg (L.Ap r.g o' o (fun hc=>(h2 hc).symm) hm),fun _=>by rw[hb];exact L.Dp r.g o o' h2 (ho.own o hg)⟩
def Jp.puts(r:Jp)(off:Nat)(vs:List Dn):Jp:={r with f:=fun j=>if off<=j/\j<off+vs.length then vs.getD (j-off) Bn else r.f j}
theorem Kn.setCells:∀(vs:List Dn)(off:Nat)(r:Jp)(rows:List Jp)(w:En),Kn L w0 rows w->rows[i]?=Gn r->Kn L w0 (rows.set i (r.puts off vs)) (w.setCells r.g off vs)/\Rq L L.send w (w.setCells r.g off vs)/\(w.setCells r.g off vs).heap[L.c]?=w.heap[L.c]?
 | [],off,r,rows,w,h,hi=>by
  refine⟨Kn.congr (r:=r) ?_ hi rfl rfl rfl fun j _=>?_,.refl _,rfl⟩
  ·rw[bu hi];exact h
  ·show r.f j=if off<=j/\j<off+0 then _ else r.f j;exact qk
 |v::vs,off,r,rows,w,h,hi=>by
  have h1:=h.set hi off v;obtain⟨h2,h3,h4⟩:=Kn.setCells vs (off+1) (r.put off v) _ _ h1 (ao hi _);rw[List.set_set]at h2;refine⟨Kn.congr h2 hi rfl rfl rfl fun j _=>?_,(h.Ss hi off v).trans h3,h4.trans (h.Yx hi off v)⟩;show (if off+1<=j/\j<off+1+vs.length then vs.getD (j-(off+1)) Bn else upd r.f off v j)=if off<=j/\j<off+(v::vs).length then (v::vs).getD (j-off) Bn else r.f j;simp only[List.length_cons];by_cases hj:off+1<=j/\j<off+1+vs.length
  ·rw[if_pos hj,if_pos E0,show j-off=(j-(off+1))+1 by omega];rfl
  ·rw[if_neg hj];by_cases hk:j=off
   ·subst hk;rw[upd_same,if_pos E0,Nat.sub_self];rfl
   ·rw[upd_ne _ _ hk,if_neg E0]
end
section
variable {L:Bt}{w0:En}{rows:List Jp}{ic g nb:Nat}{num:Int}{code:Dn}{z:Nat->Int}
theorem O70(p:Option Vm)(cap:Nat)(hs:Bq L w0 nb)(ZH:w0.cell? ⟨nb,0,Hn⟩=Gn (.slice p 0 cap))(k:Int)(w:En)(hF:Kn L w0 rows w):
  Ao prog Tm L.R1 L.D1 125 #[.pointer (Gn ⟨nb,0,Hn⟩),.int .i64 k] w (fun _ w'=>Kn L w0 rows w') (fun _ _=>False):=by
 have hk:(base 125).kind≠.early:=J1;refine Ao.intro L.Nn #[.pointer (Gn ⟨nb,0,Hn⟩),.int .i64 k,Bn,Bn,Bn,Bn,Bn,Bn,Bn,Bn,Bn,Bn,Bn,Bn,Bn,Bn,Bn,Bn,Bn,Bn,Bn,Bn,Bn,Bn,Bn,Bn,Bn,Bn,Bn,Bn,Bn,Bn,Bn,Bn,Bn] func125 rfl J0 fun cl cs Bo tt _=>?_;refine km ?_;refine pj fun w1 K hK hF=>?_;have hc:World.cell? _ ⟨nb,0,Hn⟩=Gn (.slice p 0 cap):=(hF.Xo (a:=⟨nb,0,Hn⟩) hs).trans ZH;refine vm ?_ ?_
 ·refine hF.zp hs ?_;exact T9
 clear hK K;clear hc;refine um ?_;refine uj ?_;refine Di ?_;refine bj ?_;refine Pn.Zq L.Nn J2 ?_;refine Pn.exit L.Nn rfl ?_;refine Be ?_;exact tt _ _ _ _ rfl (Ep L.Nn I0 _) hF
def Nr(z:Nat->Int)(j:Nat):Int:=if j=47 then IntKind.i64.wrap (z 47+1)else if 25<=j/\j<46 then z (j-21)else z j
def Ew(z:Nat->Int):List Value:=(Hm 21).map fun j=>.int .i64 (z (4+j))
theorem Ux(z:Nat->Int):(Ew z).length=21:=by simp[Ew]
theorem rY(z:Nat->Int):∀v∈Ew z,v.oneCell'=true:=fun v hv=>by obtain⟨y,_,rfl⟩:=List.mem_map.1 hv;rfl
theorem B10(z:Nat->Int){j:Nat}(hj:j<21):(Ew z).getD j Bn=.int .i64 (z (4+j)):=by simp[Ew,hj]
theorem NH{w:En}{net:Dn}(hF:Kn L w0 rows w)(hi:rows[ic]?=Gn (jo g num net code z)):w.rangeAt g 4 (Ew z):=fun j v hv=>by
 unfold Ew at hv;rw[List.getElem?_map]at hv;obtain⟨y,hy,rfl⟩:=Option.map_eq_some_iff.1 hv;have hj:j<21:=by
  have:=(List.getElem?_eq_some_iff.1 hy).1;exact Vd
 rw[List.getElem?_range hj]at hy;cases hy;exact hF.zw hi (j:=4+j) E0 E0
def tG(z:Nat->Int)(j:Nat):Int:=if 25<=j/\j<46 then z (j-21)else z j
theorem Q60{net:Dn}(j:Nat):((jo g num net code z).puts 25 (Ew z)).f j=Zv num net code (tG z) j:=by
 show (if 25<=j/\j<25+(Ew z).length then (Ew z).getD (j-25) Bn else Zv num net code z j)=_;rw[Ux];unfold Zv tG;by_cases h:25<=j/\j<46
 ·rw[if_pos E0,B10 z E0,if_neg E0,if_neg E0,if_neg E0,if_pos h,show 4+(j-25)=j-21 by omega]
 ·rw[if_neg E0,if_neg h]
theorem S00(z:Nat->Int)(j:Nat):Wn (tG z) 47 (IntKind.i64.wrap (z 47+1)) j=Nr z j:=by
 unfold Wn tG Nr;rfl
end
abbrev qP(b t:Nat)(v:Dn):Jp:=⟨b,1,t,fun _=>v⟩
def Zz(y k:Int):Value:=.agg #[.int .i64 2,.int .i64 y,.int .i64 k]
section
variable {L:Bt}{w0:En}{rows:List Jp}{ic g nb p c y:Nat}{num:Int}{code:Dn}{z:Nat->Int}
theorem ko.l1{ls:List Jp}{w:En}{k b t:Nat}{v:Dn}(h:ko L w0 rows ls w)(hk:ls[k]?=Gn (qP b t v)):w.cell? ⟨b,0,Hn⟩=Gn v:=h.oI hk (j:=0) (show 0<1 by omega)
theorem ko.ng0{ls:List Jp}{w:En}(h:ko L w0 rows ls w){t:Nat}(ht:(t==L.ev)=Tm)(v:Dn):ko L w0 rows (ls++[qP w.heap.size t v]) (w.alloc (.cells #[v] t)):=
 h.alloc #[v] t (fun _=>v) ht fun j hj=>by
  have:j=0:=by simp at hj;exact hj
  subst this;rfl
theorem ko.set1{ls:List Jp}{w:En}{k b t:Nat}{v:Dn}(h:ko L w0 rows ls w)(hk:ls[k]?=Gn (qP b t v))(v':Dn):ko L w0 rows (ls.set k (qP b t v')) (w.setCell ⟨b,0,Hn⟩ v'):=
 (h.rF hk 0 v').eZ hk rfl rfl rfl fun j hj=>by
  have:j=0:=by have:j<1:=hj;omega
  subst this;rfl
abbrev sL(L:Bt)(g p c y:Nat)(v:Int):List Jp:=[qP p 143 (.pointer (Gn ⟨g,0,Hn⟩)),qP c 221 (.chan (Gn L.c)),qP y 2 (.int .i64 v)]
abbrev sc0(p c y:Nat):Deferred:={target:=.fn (.func 111) #[.pointer (Gn ⟨p,0,Hn⟩),.pointer (Gn ⟨c,0,Hn⟩),.pointer (Gn ⟨y,0,Hn⟩)],args:=#[]}
theorem YV{Bo:zn->En->Prop}{fr:Xm}{cs:List Xm}{ls:List Jp}(hm:fr.mode=.returning)(hd:fr.defers=[sc0 p c y])(w:En)(hF:ko L w0 rows ls w)
  (h:∀w',ko L w0 rows ls w'->Pn prog Tm L.R1 L.D1 Bo (G {fr with defers:=[]} cs) w'):Pn prog Tm L.R1 L.D1 Bo (G fr cs) w:=by
 have hk:(baseD 111).kind≠.early:=by simp[baseD]
 refine qd ?_;refine ak ?_;refine Pn.aW L.Nn rfl I0 rfl rfl hm ?_;refine um ?_;refine K9 fun w1 K hK hF=>?_;refine vm ?_ ?_
 ·exact oe
 clear hK K;refine um ?_;refine Xe ?_;refine bj ?_;refine Pn.Zq L.Nn I0 ?_;refine Aj ?_;exact Pn.leaveD L.Nn func111 rfl (Ep L.Nn I0 _) (.inl ⟨hm,rfl⟩) (h _ hF)
end
structure aB(n:Nat)(z:Nat->Int):Prop where
 lo:0<=z 45
 hi:z 45<=n
 first:z 24=0
theorem QA(z:Nat->Int)(j:Nat)(v:Int)(i:Nat):Wn z j v i=if i=j then v else z i:=rfl
section
variable {n:Nat}{z:Nat->Int}
include n z
theorem YE(h:aB n z)(hz:z 45≠n):aB n (Xn z):=by
 have h1:=h.lo;have h2:=h.hi;refine⟨?_,?_,?_⟩
 ·show 0<=Wn _ 45 _ 45;rw[uv];omega
 ·show Wn _ 45 _ 45<=_;rw[uv];omega
 ·show Wn (Wn z 46 _) 45 _ 24=0;rw[Kr _ _ E0,Kr _ _ E0];exact h.first
theorem aB.set(h:aB n z){j:Nat}(h1:25<=j)(h2:j≠45)(v:Int):aB n (Wn z j v):=
 ⟨by rw[Kr _ _ E0];exact h.lo,by rw[Kr _ _ E0];exact h.hi,by rw[Kr _ _ E0];exact h.first⟩
theorem aB.jump(h:aB n z){v:Int}(h1:0<=v)(h2:v<=n):aB n (Wn z 45 v):=
 ⟨by rw[uv];exact h1,by rw[uv];exact h2,by rw[Kr _ _ E0];exact h.first⟩
theorem P60(h:z 24=0):aB n (Nr z):=by
 have e:Nr z 45=0:=by
  have:Nr z 45=z 24:=rfl;rw[this];exact h
 exact⟨by rw[e];omega,by rw[e];omega,h⟩
end
def Nv(k y:Int):Value:=.agg #[.int .i64 3,.int .i64 k,.int .i64 y]
section
variable {L:Bt}{w0:En}{rows:List Jp}{ic g nb p c y cb co n cc:Nat}{num:Int}{z ci:Nat->Int}
theorem KD{w:En}{v:Int}{tmps:Array Dn}(hF:ko L w0 rows (sL L g p c y v) w)(h8:tmps.getD 8 Bn=.pointer (Gn ⟨y,0,Hn⟩)):yw prog L.R1 L.D1 84 Tryz.f84 tmps w (.int .i64 v):=fun w₁ hR=>by
 replace hF:=hF.rely hR;have hc:w₁.cell? ⟨y,0,Hn⟩=Gn (.int .i64 v):=hF.l1 (k:=2) rfl;have h8':tmps[8]?.getD Bn=.pointer (Gn ⟨y,0,Hn⟩):=by simpa using h8
 constructor
 ·simp[results,asAddr,go_sem,hc,h8']
 ·refine hF.Yq (k:=2) rfl fun e he=>?_;have hm:=mem_seen he;simp[results,asAddr,go_sem,hc,h8']at hm;subst hm;exact⟨_,rfl⟩
end
abbrev P50(b0 b1 b2 b3:Nat):Deferred:={target:=.fn (.func 83) #[.pointer (Gn ⟨b0,0,Hn⟩),.pointer (Gn ⟨b1,0,Hn⟩),.pointer (Gn ⟨b2,0,Hn⟩),.pointer (Gn ⟨b3,0,Hn⟩)],args:=#[]}
abbrev lM(P:Ym)(d:Deferred):Frame:={(default:Xm)with fn:=P.funcs.size,defers:=[d],mode:=.panicking [goexitEntry]}
abbrev closeD(c:Nat):Deferred:={target:=.builtin .close #[190] 0 #[Tm],args:=#[.chan (Gn c)]}
section
variable {L:Bt}{w0:En}{rows:List Jp}{ic g nb b0 b1 b2 b3 cb co n cc:Nat}{num:Int}{z ci:Nat->Int}
theorem U60{FS:En->Prop}{a:Act}{todo:List Item}{w:En}(hd:a.defers=[closeD L.c])(hF:FS w):rH prog L.c FS (G {(baseD 83).at a todo with mode:=.returning} [{lM prog (P50 b0 b1 b2 b3)with defers:=[]}]) w:=by
 refine⟨rfl,hF,G {(baseD 83).at ⟨a.tmps,[]⟩ todo with mode:=.returning} [{lM prog (P50 b0 b1 b2 b3)with defers:=[]}],2,?_,fun s r tm hc=>?_⟩
 ·refine .inr ⟨rfl,G {lM prog (P50 b0 b1 b2 b3)with defers:=[]} [],#[],P0,fun w=>?_,.inr ⟨rfl,{frame:={lM prog (P50 b0 b1 b2 b3)with defers:=[]},callers:=[],status:=.finished,dying:=Hn},#[],P0,fun w=>?_,rfl,rfl⟩⟩
  ·have hr:(results Tryz.f83 a.tmps).run prog w=.ok (.tuple #[]) w:=results_none I0 _ _ w;have he:(results Tryz.f83 a.tmps).events prog w #[]=#[]:=events_results_none I0 _ _;simp[G,stepG,Go.unwind,doReturn,Frame.at,baseD,func83,hr,he,GStep.after,seen_none,goexitEntry]
  ·simp[G,stepG,Go.unwind,Frame.catches,goexitEntry];rfl
 ·have h1:=run_close_open (P:=prog) (w:=w) #[190] 0 hc;have h2:=events_close_open (P:=prog) (w:=w) (es:=#[]) #[190] 0 hc;have h3:seen prog 83 (closeEvents L.c)=closeEvents L.c:=seen_eq J0 (by intro e he f;simp only[closeEvents,List.mem_toArray,List.mem_cons,List.not_mem_nil,or_false]at he;rcases he with rfl|rfl<;>simp);have h2':(Builtin.close_ #[190] 0 #[.chan (Gn L.c)]).events prog w #[]=closeEvents L.c:=h2;simp[G,stepG,Go.unwind,Frame.at,baseD,hd,callDeferred,invoke,builtin,h1,h2',h3,GStep.after,World.setChan]
end
section
variable {L:Bt}{w w':En}
theorem l00(hB:L.B<=w.heap.size)(hc:L.c<w.heap.size)(cs:Array Dn)(f:Nat->Dn)(hf:∀j,j<cs.size->cs[j]?=Gn (f j)):Ow L L.main L.send (w.alloc (.cells cs L.ev)) w.heap.size cs.size L.ev f:=by
 have hn:(w.alloc (.cells cs L.ev)).heap[w.heap.size]?=Gn (.cells cs L.ev (0,0)):=heap_alloc_new w _;refine⟨⟨.new w cs L.ev f hf,⟨_,hn⟩,E0,fun o ho hm=>?_⟩,fun o ho=>?_⟩
 ·rw[hn]at ho;cases ho;rcases hm.2 with⟨h,_⟩|⟨_,h⟩
  ·omega
  ·simp[mL]at h
 ·rw[hn]at ho;cases ho;exact⟨E0,.inr ⟨hB,by simp[mL]⟩⟩
theorem Rq.setRow{mine:Nat->Obj->Prop}(w:En)(g:Nat)(arr Ov:Array Dn)(t:Nat)(hg:w.heap[g]?=Gn (.cells Ov t (0,0)))(hm:mine g (.cells Ov t (0,0))):Rq L mine w (w.setRow g arr):=by
 refine⟨rfl,rfl,rfl,P0,fun b o ho=>?_⟩;by_cases hb:b=g
 ·subst hb;rw[hg]at ho;cases ho;exact⟨_,setRow_heap w b Ov arr t (0,0) hg,fun _=>rfl,fun _ x=>absurd hm x⟩
 ·exact⟨o,by rw[setRow_other w g b arr (by exact hb)];exact ho,fun _=>rfl,fun _ _=>rfl⟩
def ev3(k a b:Int)(j:Nat):Value:=.int .i64 (if j=0 then k else if j=1 then a else b)
def evV(k a b:Int):Value:=.agg #[.int .i64 k,.int .i64 a,.int .i64 b]
structure Mt(L:Bt)(w0:En)(T nC:Nat)(f:Nat->Dn)(E:Nat)(e:Nat->Dn)(w:En):Prop where
 ph:Rq L L.both w0 w
 row:Ow L L.main L.send w T nC 61 f
 AA:Ow L L.main L.send w E 3 L.ev e
 hB:L.B<=w.heap.size
 hc:L.c<w.heap.size
structure Mo(L:Bt)(E:Nat)(v:Dn)(m:Nat)(xs:List Dn)(w:En):Prop where
 own:w.ownsRow 0 L.ev 3 v m xs
 blk:∀b,v.ownBlock=Gn b->Calm L L.send w b/\zH L.main w b
 ne:∀b,v.ownBlock=Gn b->b≠E
variable {w0:En}{T nC E m:Nat}{f e:Nat->Dn}{v:Dn}{xs:List Dn}
theorem Mt.rely(h:Mt L w0 T nC f E e w)(r:L.R0 w w'):Mt L w0 T nC f E e w':=
 ⟨h.ph.trans (r.mono fun _ _ x=>.inr x),h.row.rely r,h.AA.rely r,Qm h.hB r.size,Lm h.hc r.size⟩
theorem Py{w w':En}(h:w.ownsRow 0 L.ev 3 v m xs)(hb:∀b,v.ownBlock=Gn b->w'.heap[b]?=w.heap[b]?):w'.ownsRow 0 L.ev 3 v m xs:=by
 refine⟨h.1,?_⟩;rcases h.2 with h|⟨g,cap,Ov,rfl,h1,h2,h3⟩
 ·exact .inl h
 ·exact .inr ⟨g,cap,Ov,rfl,h1,by rw[hb g rfl];exact h2,h3⟩
theorem Mo.rely(h:Mo L E v m xs w)(r:L.R0 w w'):Mo L E v m xs w':=
 ⟨Py h.own fun b hb=>(h.blk b hb).1.stands r,fun b hb=>⟨(h.blk b hb).1.rely r,(h.blk b hb).2.rely (h.blk b hb).1 r⟩,h.ne⟩
section
variable (h:Mt L w0 T nC f E e w)
include h
theorem Mt.still{b:Nat}(hs:Bq L w0 b):w.heap[b]?=w0.heap[b]?:=by
 exact vg
theorem Mt.Xo{a:Vm}(hs:Bq L w0 a.block):w.cell? a=w0.cell? a:=by
 unfold World.cell?;rw[h.still hs]
theorem Mt.zp{b:Nat}(hs:Bq L w0 b){es:Array Event}(Eu:∀e∈es,∃j,e=⟨.cell ⟨b,j,Hn⟩,Tm,Tm⟩):L.D0 w w es:=
 .look w fun e he=>by
  exact Ff
end
theorem Ow.U80{g m t:Nat}{f:Nat->Dn}(h:Ow L L.main L.send w g m t f){es:Array Event}(Eu:∀e∈es,∃j,e=⟨.cell ⟨g,j,Hn⟩,Tm,Tm⟩):L.D0 w w es:=
 .look w fun e he=>by obtain⟨j,rfl⟩:=Eu e he;exact h.look j
theorem Mt.turn(h:Mt L w0 T nC f E e w)(ht:L.R1 w w')(h1:w'.heap[T]?=w.heap[T]?)(h2:w'.heap[E]?=w.heap[E]?):Mt L w0 T nC f E e w':=
 ⟨h.ph.trans (ht.mono fun _ _ x=>.inl x),⟨⟨h.row.rw.row.of_heap h1,h.row.rw.calm.turn L.Dp ht⟩,h.row.own.turn L.Ap h.row.rw.calm.there ht⟩,
  ⟨⟨h.AA.rw.row.of_heap h2,h.AA.rw.calm.turn L.Dp ht⟩,h.AA.own.turn L.Ap h.AA.rw.calm.there ht⟩,Qm h.hB ht.size,Lm h.hc ht.size⟩
theorem Mo.turn(h:Mo L E v m xs w)(ht:L.R1 w w')(hb:∀b,v.ownBlock=Gn b->w'.heap[b]?=w.heap[b]?):Mo L E v m xs w':=
 ⟨Py h.own hb,fun b hv=>⟨(h.blk b hv).1.turn L.Dp ht,(h.blk b hv).2.turn L.Ap (h.blk b hv).1.there ht⟩,h.ne⟩
theorem Mo.lt(h:Mo L E v m xs w){b:Nat}(hb:v.ownBlock=Gn b):b<w.heap.size:=by
 obtain⟨o,ho⟩:=(h.blk b hb).1.there;exact(Array.getElem?_eq_some_iff.1 ho).1
theorem bM(w:En)(o:Obj){b:Nat}(hb:b<w.heap.size):(w.alloc o).heap[b]?=w.heap[b]?:=heap_alloc_old w o hb
section
variable {P:Ym}{i:TypeInfo}(Et:P.info? L.ev=Gn i)(hz:i.zero=Gn (.agg #[.int .i64 0,.int .i64 0,.int .i64 0]))(ju:i.size=3)(OM:i.bytes=24)
include P i Et hz ju OM
theorem zU{t ty:TypeId}(ht:P.underlying t=Gn (.slice L.ev))(ho:Mo L E v m xs w)(S:Nat)(k a b:Int)(hS:w.heap[S]?=Gn (.cells #[.int .i64 k,.int .i64 a,.int .i64 b] L.ev (0,0)))
  (hm:m<=1000000000):∃g cap w',(Builtin.append_ #[t,t] ty #[v,.slice (Gn ⟨S,0,Hn⟩) 1 1]).run P w=.ok (.slice (Gn ⟨g,0,Hn⟩) (m+1) cap) w'/\w'.ownsRow 0 L.ev 3 (.slice (Gn ⟨g,0,Hn⟩) (m+1) cap) (m+1) (xs++[.int .i64 k,.int .i64 a,.int .i64 b])/\L.R1 w w'/\
   (∀x,x<w.heap.size->v.ownBlock≠Gn x->w'.heap[x]?=w.heap[x]?)/\(v.ownBlock=Gn g\/g=w.heap.size)/\g<w'.heap.size:=by
 have qy:∀(j:Nat)(u:Dn),[Value.int .i64 k,.int .i64 a,.int .i64 b][j]?=Gn u->w.cell? ((⟨S,0,Hn⟩:Vm).add j)=Gn u:=by
  have:=World.news_of_block hS;exact Vd
 have h1:∀u∈[Value.int .i64 k,.int .i64 a,.int .i64 b],u.oneCell'=true:=D2;have Q_:m+1<=maxLen:=by simp only[maxLen];omega
 obtain⟨g,cap,w',hr,h2,h3,h4,h5⟩:=run_append_lies (P:=P) w t ty 0 L.ev i _ 3 24 ht Et hz ju OM rfl E0 v m xs ho.own ⟨S,0,Hn⟩ 1 1 [.int .i64 k,.int .i64 a,.int .i64 b] rfl qy h1 E0 Q_ E0 s9 w.heap.size rfl;refine⟨g,cap,w',hr,h2,?_,fun x hx Yp=>h3.block x hx (fun e=>Yp e.symm),h4,h5⟩;have hl:[Value.int .i64 k,.int .i64 a,.int .i64 b].length=1*i.size:=by rw[ju];rfl
 rcases ho.own.2 with⟨rfl,rfl⟩|⟨g0,yp,Ov,rfl,_,hg,hnc,_,hcs,_⟩
 ·have iP:=run_append_nil (P:=P) w t ty L.ev i _ ht Et hz ⟨S,0,Hn⟩ 1 1 _ hl qy E0 E0 (by rw[OM];omega);exact Ai
 ·by_cases bI:m+1<=yp
  ·have VM:m*i.size+[Value.int .i64 k,.int .i64 a,.int .i64 b].length<=Ov.size:=by
    rw[ju,hcs];show m*3+3<=yp*3;omega
   have iP:=run_append_room (P:=P) w t ty L.ev i ht Et g0 m yp Ov hg ⟨S,0,Hn⟩ 1 1 _ hl qy h1 bI VM;rw[hr]at iP;injection iP with _ e
   subst e;exact Rq.setRow w g0 _ Ov L.ev hg ((ho.blk g0 rfl).2 _ hg)
  ·have holds:∀(j:Nat)(u:Dn),xs[j]?=Gn u->w.cell? ((⟨g0,0,Hn⟩:Vm).add j)=Gn u:=ho.own.cells (g:=g0) rfl;have iP:=run_append_grow (P:=P) w t ty L.ev i _ ht Et hz ⟨g0,0,Hn⟩ m yp xs (by rw[ju];exact ho.own.1) holds ⟨S,0,Hn⟩ 1 1 _ hl qy E0 E0 (growslice_fits E0 (by rw[OM];omega));exact Ai
theorem yU{t:TypeId}(ht:P.underlying t=Gn (.slice L.ev))(ho:Mo L E v m xs w)(S:Nat)(k a b:Int)(hS:Ow L L.main L.send w S 3 L.ev (ev3 k a b))
  (hm:m<=1000000000)(nV:L.R1 w w')(nH:w'.heap[L.c]?=w.heap[L.c]?){fn:FuncId}{A:Act}{o:Oper}(x y:Operand)(ep:o.op=.call {callee:=.builtin .append,args:=#[x,y],argTypes:=#[t,t]})(hx:A.eval x=v)(hy:A.eval y=.slice (Gn ⟨S,0,Hn⟩) 1 1):L.D0 w w' (listed P fn A o w):=by
 refine⟨nV,nH,fun e he=>?_⟩;have he:=mem_listed he;rw[events_append_op x y t ep hx hy]at he;have qy:∀(j:Nat)(u:Dn),[Value.int .i64 k,.int .i64 a,.int .i64 b][j]?=Gn u->w.cell? ((⟨S,0,Hn⟩:Vm).add j)=Gn u:=fun j u hu=>by
  have hj:j<3:=by
   have:=(List.getElem?_eq_some_iff.1 hu).1;exact Vd
  rw[Addr.add_mid,Nat.zero_add,hS.cell hj];have:j=0\/j=1\/j=2:=E0;rcases this with rfl|rfl|rfl<;>exact hu
 have rA:∀c,Calm L L.send w c->zH L.main w c->∀wr sy ad,ad.block=c->WA L L.main L.send w' ⟨.cell ad,wr,sy⟩:=fun c h1 h2 wr sy ad hc=>by
  obtain⟨q,hq⟩:=h1.there;obtain⟨q',g1,g2,_⟩:=nV.at_ c q hq;refine⟨Gq _ _ _,fun z hz _=>?_⟩;have:z=⟨.cell ad,wr,if sy then .atomic else .plain⟩:=by
   cases wr<;>cases sy<;>simp[MemAct.ofEvent,MemAct.touch?]at hz<;>exact hz.symm
  subst this;exact⟨q',by rw[hc];exact g1,by rw[hc];exact fun hm=>h1.no q hq (L.Dp c q' q (fun x=>(g2 x).symm) hm),fun _=>by rw[hc];exact L.Ap c q q' g2 (h2 q hq)⟩
 rcases events_append_where (P:=P) w 0 t o.type L.ev i _ 3 24 ht Et hz ju OM v m xs ho.own ⟨S,0,Hn⟩ 1 1 [.int .i64 k,.int .i64 a,.int .i64 b] rfl qy D2 Y1 E0 e he with⟨ad,h1,h2⟩|⟨q,rfl,hq⟩
 ·obtain⟨loc,wr,sy⟩:=e;simp only at h1;subst h1;rcases h2 with⟨_,h2⟩|h2
  ·exact rA S hS.rw.calm hS.own _ _ ad h2
  ·exact rA ad.block (ho.blk _ h2.symm).1 (ho.blk _ h2.symm).2 _ _ ad rfl
 ·refine⟨⟨fun h=>?_,fun h=>?_⟩,fun z hz=>?_⟩
  ·exact Rh
  ·exact Rh
  ·exact Ie
end
end
noncomputable def NJ:Code:=match Tryz.f31.body with
 |some (.seq _ (.seq _ (.block _ (.loop c))))=>c
 |_=>.skip
noncomputable def Xd0:Array Oper:=match NJ with
 |.seq (.region _ ops _) _=>ops
 |_=>#[]
noncomputable def G90:Code:=match NJ with
 |.seq _ c=>c
 |_=>.skip
def cO:Value:=.agg #[.int .i64 0,.int .i64 0,.int .i64 0]
def tq:Dn->List Dn
 |.agg cs=>cs.toList
 |_=>[]
def sQ(v:Dn):Prop:=∃k a b,v=evV k a b
section
variable {P:Ym}{L:Bt}{Fin:zn->En->Prop}{z:Dn}{b:Xm}{a:Act}{k:List Item}{cs:List Xm}{w:En}{ops:Array Oper}{i:Nat}{rest:List Nat}{o:Oper}
theorem AQ(ho:ops[i]?=Gn o)(hw:Region.wanted o (yielded ops a.tmps)=Um)(hk:b.kind≠.early)(hr:∀w,(execOp a.eval o).run P w=.ok (.comm #[rcase L.c z] Um (.recv Um)) w)(he:∀w,(execOp a.eval o).events P w #[]=#[])(w₁:En):
  stepG P Um (G (b.at a (.inRegion ops (i::rest)::k)) cs) w₁=.comm (core (G (b.at a (.inRegion ops (i::rest)::k)) cs)) #[rcase L.c z] Um (.recv Um) w₁ #[]:=by
 rw[stepG_comm ho hw hk (hr w₁),listed_nil (he w₁)];rfl
theorem IQ(ho:ops[i]?=Gn o)(v:Dn):Go.Conc.served (core (G (b.at a (.inRegion ops (i::rest)::k)) cs)) v=G (b.at (a.put o.dst v) (.inRegion ops rest::k)) cs:=by
 rw[core_G,served_G];simp[ho]
theorem Pn.pc0(ho:ops[i]?=Gn o)(hw:Region.wanted o (yielded ops a.tmps)=Um)(hk:b.kind≠.early)(hr:∀w,(execOp a.eval o).run P w=.ok (.comm #[rcase L.c z] Um (.recv Um)) w)(he:∀w,(execOp a.eval o).events P w #[]=#[])
  (h:∀w₂,L.R0 w w₂->Fin (G (b.at (a.put o.dst (.tuple #[z,.bool Tm])) (.inRegion ops rest::k)) cs) w₂):Pn P Um L.R0 L.D0 (StopA P L.c z L.R0 L.D0 L.ML Fin []) (G (b.at a (.inRegion ops (i::rest)::k)) cs) w:=
 .stop rfl fun w₁ r=>⟨#[],AQ ho hw hk hr he w₁,P0,fun w₂ r₂=>by
  show Fin (Go.Conc.served (core _) _) _;rw[IQ ho];exact h w₂ (r.trans r₂)⟩
theorem Pn.x90{v:Dn}{vs:List Dn}(ho:ops[i]?=Gn o)(hw:Region.wanted o (yielded ops a.tmps)=Um)(hk:b.kind≠.early)(hr:∀w,(execOp a.eval o).run P w=.ok (.comm #[rcase L.c z] Um (.recv Um)) w)(he:∀w,(execOp a.eval o).events P w #[]=#[])
  (h:Pn P Um L.R0 L.D0 (StopA P L.c z L.R0 L.D0 L.ML Fin vs) (G (b.at (a.put o.dst (.tuple #[v,.bool Um])) (.inRegion ops rest::k)) cs) w):Pn P Um L.R0 L.D0 (StopA P L.c z L.R0 L.D0 L.ML Fin (v::vs)) (G (b.at a (.inRegion ops (i::rest)::k)) cs) w:=
 .stop rfl fun w₁ r=>⟨#[],AQ ho hw hk hr he w₁,P0,fun w₂ r₂=>by
  show Pn _ _ _ _ _ (Go.Conc.served (core _) _) _;rw[IQ ho];exact(h.rely L.Qq.trans r).rely L.Qq.trans r₂⟩
end
theorem BS:∃i,prog.info? 111=Gn i/\i.zero=Gn (.agg #[.int .i64 0,.int .i64 0,.int .i64 0])/\i.size=3/\i.bytes=24:=by
 have h:(prog.info? 111).map (fun i=>(i.zero,i.size,i.bytes))=Gn (Gn (.agg #[.int .i64 0,.int .i64 0,.int .i64 0]),3,24):=J0;cases hi:prog.info? 111 with
 |none=>rw[hi]at h;cases h
 |some i=>
  rw[hi]at h;simp at h;exact⟨i,rfl,h.1,h.2.1,h.2.2⟩
section
variable {L:Bt}{w0:En}{kb wb T nC cell:Nat}
section
variable {f:Nat->Dn}
include f
theorem Mt.wrote{E:Nat}{e:Nat->Dn}{w:En}(Yp:L.ev≠61)(h:Mt L w0 T nC f E e w)(j:Nat)(v:Dn):Mt L w0 T nC f E (fun i=>if i=j then v else e i) (w.setCell ⟨E,j,Hn⟩ v):=by
 have ht:=h.AA.Ss j v;exact⟨h.ph.trans (ht.mono fun _ _ x=>.inl x),h.row.apart L.Ap L.Dp h.AA j v Yp,h.AA.set L.Ap L.Dp j v,P6,Q6⟩
theorem Mo.wrote{E m:Nat}{e:Nat->Dn}{v:Dn}{xs:List Dn}{w:En}(h:Mt L w0 T nC f E e w)(ho:Mo L E v m xs w)(j:Nat)(x:Dn):Mo L E v m xs (w.setCell ⟨E,j,Hn⟩ x):=
 ho.turn (h.AA.Ss j x) fun b hb=>yn w _ b x (ho.ne b hb)
theorem Mt.Pg0{E m:Nat}{v:Dn}{xs:List Dn}{w:En}(Yp:L.ev≠61)(h:Mt L w0 T nC f E (ev3 0 0 0) w)(ho:Mo L E v m xs w)(k a b:Int):
  Mt L w0 T nC f E (ev3 k a b) (((w.setCell ⟨E,0,Hn⟩ (.int .i64 k)).setCell ⟨E,1,Hn⟩ (.int .i64 a)).setCell ⟨E,2,Hn⟩ (.int .i64 b))/\Mo L E v m xs (((w.setCell ⟨E,0,Hn⟩ (.int .i64 k)).setCell ⟨E,1,Hn⟩ (.int .i64 a)).setCell ⟨E,2,Hn⟩ (.int .i64 b))/\
   L.R1 w (((w.setCell ⟨E,0,Hn⟩ (.int .i64 k)).setCell ⟨E,1,Hn⟩ (.int .i64 a)).setCell ⟨E,2,Hn⟩ (.int .i64 b))/\(((w.setCell ⟨E,0,Hn⟩ (.int .i64 k)).setCell ⟨E,1,Hn⟩ (.int .i64 a)).setCell ⟨E,2,Hn⟩ (.int .i64 b)).heap[L.c]?=w.heap[L.c]?:=by
 have h1:=h.wrote Yp 0 (.int .i64 k);have h2:=h1.wrote Yp 1 (.int .i64 a);have h3:=h2.wrote Yp 2 (.int .i64 b);have o1:=Mo.wrote h ho 0 (.int .i64 k);have o2:=Mo.wrote h1 o1 1 (.int .i64 a);have o3:=Mo.wrote h2 o2 2 (.int .i64 b);refine⟨⟨h3.ph,h3.row,h3.AA.congr fun j hj=>?_,h3.hB,h3.hc⟩,o3,((h.AA.Ss 0 _).trans (h1.AA.Ss 1 _)).trans (h2.AA.Ss 2 _),?_⟩
 ·have:j=0\/j=1\/j=2:=by omega
  rcases this with rfl|rfl|rfl<;>rfl
 ·have hn:=h.AA.rw.calm.nc;simp only[World.setCell,Array.getElem?_modify,if_neg hn]
theorem Mt.ev{E:Nat}{k a b:Int}{w:En}(h:Mt L w0 T nC f E (ev3 k a b) w):w.cell? ⟨E,0,Hn⟩=Gn (.int .i64 k)/\w.cell? ⟨E,1,Hn⟩=Gn (.int .i64 a)/\w.cell? ⟨E,2,Hn⟩=Gn (.int .i64 b):=⟨h.AA.cell E0,h.AA.cell E0,h.AA.cell E0⟩
theorem Mt.yo0{E:Nat}{e:Nat->Dn}{w:En}(h:Mt L w0 T nC f E e w):w.frozen? ⟨E,0,Hn⟩=Tm/\w.frozen? ⟨E,1,Hn⟩=Tm/\w.frozen? ⟨E,2,Hn⟩=false:=⟨h.AA.frozen 0,h.AA.frozen 1,h.AA.frozen 2⟩
end
theorem Ow.Vi0{w w':En}{g m t:Nat}{f:Nat->Dn}(ho:Ow L L.main L.send w g m t f)(ht:L.R1 w w')(nH:w'.heap[L.c]?=w.heap[L.c]?){es:Array Event}(Eu:∀e∈es,∃j wr,e=⟨.cell ⟨g,j,Hn⟩,wr,Tm⟩):L.D0 w w' es:=by
 obtain⟨o,hg⟩:=ho.rw.calm.there;refine⟨ht,nH,fun e he=>?_⟩;obtain⟨j,wr,rfl⟩:=Eu e he;obtain⟨o',h1,h2,_⟩:=ht.at_ g o hg;have hn:¬L.send g o':=fun hm=>ho.rw.calm.no o hg (L.Dp g o' o (fun hc=>(h2 hc).symm) hm);cases wr with
 |false=>exact WA.read (a:=⟨g,j,Hn⟩) h1 hn
 |true=>exact WA.write (a:=⟨g,j,Hn⟩) h1 hn (L.Ap g o o' h2 (ho.own o hg))
structure Ms(L:Bt)(w0:En)(T nC:Nat)(f:Nat->Dn)(cell m:Nat)(xs:List Dn)(w:En):Prop where
 ph:Rq L L.both w0 w
 row:Ow L L.main L.send w T nC 61 f
 hB:L.B<=w.heap.size
 hc:L.c<w.heap.size
 own:w.ownsRow 0 L.ev 3 (f cell) m xs
 blk:∀b,(f cell).ownBlock=Gn b->Calm L L.send w b/\zH L.main w b
theorem Ms.rely{f:Nat->Dn}{m:Nat}{xs:List Dn}{w w':En}(h:Ms L w0 T nC f cell m xs w)(r:L.R0 w w'):Ms L w0 T nC f cell m xs w':=
 ⟨h.ph.trans (r.mono fun _ _ x=>.inr x),h.row.rely r,Qm h.hB r.size,Lm h.hc r.size,Py h.own fun b hb=>(h.blk b hb).1.stands r,fun b hb=>⟨(h.blk b hb).1.rely r,(h.blk b hb).2.rely (h.blk b hb).1 r⟩⟩
theorem Ms.new{f:Nat->Dn}{m:Nat}{xs:List Dn}{w:En}(h:Ms L w0 T nC f cell m xs w)(k a b:Int):Mt L w0 T nC f w.heap.size (ev3 k a b) (w.alloc (.cells #[.int .i64 k,.int .i64 a,.int .i64 b] L.ev))/\Mo L w.heap.size (f cell) m xs (w.alloc (.cells #[.int .i64 k,.int .i64 a,.int .i64 b] L.ev)):=by
 have ht:Rq L L.main w (w.alloc (.cells #[.int .i64 k,.int .i64 a,.int .i64 b] L.ev)):=.alloc w _;have yo:∀b',(f cell).ownBlock=Gn b'->b'<w.heap.size:=fun b' Xq=>by
  obtain⟨o,ho⟩:=(h.blk b' Xq).1.there;exact(Array.getElem?_eq_some_iff.1 ho).1
 refine⟨⟨h.ph.trans (ht.mono fun _ _ x=>.inl x),h.row.alloc L.Ap L.Dp _,l00 h.hB h.hc _ _ fun j hj=>?_,by simp;have:=h.hB;omega,by simp;have:=h.hc;omega⟩,
  ⟨Py h.own fun b' Xq=>bM w _ (yo b' Xq),fun b' Xq=>⟨(h.blk b' Xq).1.turn L.Dp ht,(h.blk b' Xq).2.turn L.Ap (h.blk b' Xq).1.there ht⟩,fun b' Xq=>by have:=yo b' Xq;omega⟩⟩
 have:j=0\/j=1\/j=2:=by simp at hj;omega
 rcases this with rfl|rfl|rfl<;>rfl
theorem Mt.src{f:Nat->Dn}{E m:Nat}{e:Nat->Dn}{v:Dn}{xs:List Dn}{w:En}(h:Mt L w0 T nC f E e w)(ho:Mo L E v m xs w)(k a b:Int):
  Mt L w0 T nC f E e (w.alloc (.cells #[.int .i64 k,.int .i64 a,.int .i64 b] L.ev))/\Mo L E v m xs (w.alloc (.cells #[.int .i64 k,.int .i64 a,.int .i64 b] L.ev))/\Ow L L.main L.send (w.alloc (.cells #[.int .i64 k,.int .i64 a,.int .i64 b] L.ev)) w.heap.size 3 L.ev (ev3 k a b):=by
 have ht:Rq L L.main w (w.alloc (.cells #[.int .i64 k,.int .i64 a,.int .i64 b] L.ev)):=.alloc w _;refine⟨⟨h.ph.trans (ht.mono fun _ _ x=>.inl x),h.row.alloc L.Ap L.Dp _,h.AA.alloc L.Ap L.Dp _,by simp;have:=h.hB;omega,by simp;have:=h.hc;omega⟩,ho.turn ht fun b' Xq=>bM w _ (ho.lt Xq),l00 h.hB h.hc _ _ fun j hj=>?_⟩;have:j=0\/j=1\/j=2:=by simp at hj;omega
 rcases this with rfl|rfl|rfl<;>rfl
theorem Ow.Pj0{w:En}{S:Nat}{k a b:Int}(h:Ow L L.main L.send w S 3 L.ev (ev3 k a b)):w.heap[S]?=Gn (.cells #[.int .i64 k,.int .i64 a,.int .i64 b] L.ev (0,0)):=by
 obtain⟨cs,h1,h2,h3⟩:=h.rw.row;rw[h1];congr 2;refine Array.ext (by simpa using h2) fun j hj kz=>?_;have:=h3 j E0;rw[Bm hj]at this;injection this with this
 rw[this];have:j=0\/j=1\/j=2:=by simp at kz;omega
 rcases this with rfl|rfl|rfl<;>rfl
section
variable {f:Nat->Dn}{E m:Nat}{e:Nat->Dn}{v:Dn}
include f E m e v
theorem Mo.neT{xs:List Dn}{w:En}(Yp:L.ev≠61)(h:Mt L w0 T nC f E e w)(ho:Mo L E v m xs w){b:Nat}(hb:v.ownBlock=Gn b):b≠T:=fun e0=>by
 subst e0;obtain⟨cs,h1,_⟩:=h.row.rw.row;rcases ho.own.2 with⟨rfl,_⟩|⟨g0,yp,Ov,rfl,_,hg,_⟩
 ·exact Vi
 ·have:g0=b:=by simpa[Value.ownBlock]using hb
  subst this;rw[h1]at hg;injection hg with hg
  injection hg with _ hg
  exact Yp hg.symm
theorem Mt.appended{xs ys:List Dn}{w w':En}{g cap:Nat}(Yp:L.ev≠61)(h:Mt L w0 T nC f E e w)(ho:Mo L E v m xs w)(ht:L.R1 w w')(Io:w'.ownsRow 0 L.ev 3 (.slice (Gn ⟨g,0,Hn⟩) (m+1) cap) (m+1) ys)
  (gP:∀x,x<w.heap.size->v.ownBlock≠Gn x->w'.heap[x]?=w.heap[x]?)(hg:v.ownBlock=Gn g\/g=w.heap.size)(yo:g<w'.heap.size):
  Mt L w0 T nC f E e w'/\Mo L E (.slice (Gn ⟨g,0,Hn⟩) (m+1) cap) (m+1) ys w'/\w'.heap[L.c]?=w.heap[L.c]?:=by
 have hT:T<w.heap.size:=by
  obtain⟨o,aI⟩:=h.row.rw.calm.there;exact(Array.getElem?_eq_some_iff.1 aI).1
 have hE:E<w.heap.size:=by
  obtain⟨o,aI⟩:=h.AA.rw.calm.there;exact(Array.getElem?_eq_some_iff.1 aI).1
 have hgE:w'.heap[g]?≠Hn/\(∀o,w'.heap[g]?=Gn o->mL L.ev o=Um):=by
  rcases Io.2 with⟨hx,_⟩|⟨g0,yp,Ov,hx,_,hh,_⟩
  ·simp at hx
  ·have:g=g0:=by simp at hx;exact hx.1
   subst this;exact⟨by rw[hh];simp,fun o aI=>by rw[hh]at aI;cases aI;simp[mL]⟩
 have hgC:v.ownBlock=Gn g\/(L.B<=g/\g≠L.c/\g≠E):=by
  rcases hg with hg|hg
  ·exact .inl hg
  ·subst hg;exact .inr ⟨h.hB,by have:=h.hc;omega,E0⟩
 refine⟨h.turn ht (gP T hT fun hb=>Mo.neT Yp h ho hb rfl) (gP E hE fun hb=>ho.ne E hb rfl),⟨Io,fun b hb=>?_,fun b hb=>?_⟩,gP L.c h.hc fun hb=>(ho.blk _ hb).1.nc rfl⟩
 ·have:g=b:=by simpa[Value.ownBlock]using hb
  subst this;rcases hgC with hg|⟨g1,g2,g3⟩
  ·exact⟨(ho.blk g hg).1.turn L.Dp ht,(ho.blk g hg).2.turn L.Ap (ho.blk g hg).1.there ht⟩
  ·refine⟨⟨Option.ne_none_iff_exists'.1 hgE.1,g2,fun o aI hs=>?_⟩,fun o aI=>⟨g2,.inr ⟨g1,hgE.2 o aI⟩⟩⟩;rcases hs.2 with⟨hs,_⟩|⟨_,hs⟩
   ·omega
   ·rw[hgE.2 o aI]at hs;cases hs
 ·have:g=b:=by simpa[Value.ownBlock]using hb
  subst this;rcases hgC with hg|⟨g1,g2,g3⟩
  ·exact ho.ne g hg
  ·exact g3
theorem Mt.put{xs:List Dn}{w:En}(Yp:L.ev≠61)(h:Mt L w0 T nC f E e w)(ho:Mo L E v m xs w)(cell:Nat):Ms L w0 T nC (fun i=>if i=cell then v else f i) cell m xs (w.setCell ⟨T,cell,Hn⟩ v):=by
 have ht:=h.row.Ss cell v;have aI:=ho.turn ht fun b hb=>yn w _ b v (Mo.neT Yp h ho hb);exact⟨h.ph.trans (ht.mono fun _ _ x=>.inl x),h.row.set L.Ap L.Dp cell v,P6,Q6,by simpa using aI.own,by simpa using aI.blk⟩
end
end
@[go_sem] theorem G70(P:Ym)(w:En)(es:Array Event)(a:Vm)(m:Mode)(b:Option Vm)(l c:Nat):(store a (.slice b l c) m).events P w es=storedEv P w es a (.slice b l c) m:=events_store P w es a _ m rfl
section
variable {L:Bt}{w0:En}{kb wb T nC cell:Nat}
def Pa0(L:Bt)(w0:En)(kb wb T nC cell m:Nat)(f0:Nat->Dn)(xs:List Dn)(x1 x2 x3 x5 x7 x8 x9 x10 x11 x12 x13 x14 x15 x16 x17:Dn)(cs:List Xm)(g:zn)(w:En):Prop:=
 ∃(u6 vC lD rB uB vB xB lA mA nA pA QB TB UB VB WB mD II JI KI LI:Dn)(f:Nat->Dn),g=G ((base 31).at {tmps:=#[.pointer (Gn ⟨kb,0,Hn⟩),x1,x2,x3,.pointer (Gn ⟨wb,0,Hn⟩),x5,u6,x7,x8,x9,x10,x11,x12,x13,x14,x15,x16,x17,.chan (Gn L.c),(.tuple #[cO,.bool Tm]),vC,lD,rB,uB,vB,xB,lA,mA,nA,pA,QB,TB,UB,VB,WB,mD,II,JI,KI,LI],defers:=[]} [.inRegion Xd0 [1],.code G90,.inLoop NJ,.inBlock 0]) cs/\(∀j,j≠cell->f j=f0 j)/\Ms L w0 T nC f cell m xs w
theorem E20(g80:L.ev=111)(sK:Bq L w0 kb)(sW:Bq L w0 wb)(cK:w0.cell? ⟨kb,4,Hn⟩=Gn (.slice (Gn ⟨T,0,Hn⟩) nC nC))(cW:w0.cell? ⟨wb,0,Hn⟩=Gn (.int .i64 cell))(hcell:cell<nC)(x1 x2 x3 x5 x7 x8 x9 x10 x11 x12 x13 x14 x15 x16 x17:Dn)(cs:List Xm)(f0:Nat->Dn):
  ∀(vs:List Dn)(f:Nat->Dn)(m:Nat)(xs:List Dn)(w:En)(u6 uC vC lD rB uB vB xB lA mA nA pA QB TB UB VB WB mD II JI KI LI:Dn),(∀v∈vs,sQ v)->m+vs.length<=1000000000->(∀j,j≠cell->f j=f0 j)->Ms L w0 T nC f cell m xs w->
   Pn prog Um L.R0 L.D0 (StopA prog L.c cO L.R0 L.D0 L.ML (Pa0 L w0 kb wb T nC cell (m+vs.length) f0 (xs++vs.flatMap tq) x1 x2 x3 x5 x7 x8 x9 x10 x11 x12 x13 x14 x15 x16 x17 cs) vs) (G ((base 31).at {tmps:=#[.pointer (Gn ⟨kb,0,Hn⟩),x1,x2,x3,.pointer (Gn ⟨wb,0,Hn⟩),x5,u6,x7,x8,x9,x10,x11,x12,x13,x14,x15,x16,x17,.chan (Gn L.c),uC,vC,lD,rB,uB,vB,xB,lA,mA,nA,pA,QB,TB,UB,VB,WB,mD,II,JI,KI,LI],defers:=[]} [.code NJ,.inLoop NJ,.inBlock 0]) cs) w:=by
 have hk:(base 31).kind≠.early:=J1;intro vs;induction vs with
 |nil=>
  intro f m xs w u6 uC vC lD rB uB vB xB lA mA nA pA QB TB UB VB WB mD II JI KI LI _ _ hf0 hF;refine Pn.seq L.Qq ?_;refine Pn.Un L.Qq [0,1] I0 ?_;refine Pn.pc0 rfl I0 hk (fun w=>J0) (fun w=>J0) fun w2 hR=>?_;exact⟨u6,vC,lD,rB,uB,vB,xB,lA,mA,nA,pA,QB,TB,UB,VB,WB,mD,II,JI,KI,LI,f,rfl,hf0,by simpa using hF.rely hR⟩
 |cons v vs ih=>
  intro f m xs w u6 uC vC lD rB uB vB xB lA mA nA pA QB TB UB VB WB mD II JI KI LI hv hm hf0 hF;obtain⟨k,a,b,rfl⟩:=hv v List.mem_cons_self;have Yp:L.ev≠61:=by rw[g80];decide
  unfold evV;refine Pn.seq L.Qq ?_;refine Pn.Un L.Qq [0,1] I0 ?_;refine Pn.x90 rfl I0 hk (fun w=>J0) (fun w=>J0) ?_;refine um ?_;refine .Yo L.Qq rfl I0 hk ?_;refine um ?_;repeat refine .c1 L.Qq rfl ?_
  refine Pn.vr L.Qq I0 ?_;repeat refine .c1 L.Qq rfl ?_
  refine .Un L.Qq [0,1,2] I0 ?_;refine .Yo L.Qq rfl I0 hk ?_;refine um ?_;refine K9 fun w1 K hK hF=>?_;refine vm ?_ ?_
  ·refine Does.alloc L.Ap L.Dp hF.hc ?_;exact da
  clear hK K;obtain⟨hF',hO⟩:=hF.new 0 0 0;rw[g80]at hF' hO;replace hF:=hF';clear hF';generalize hE:w1.heap.size=E at *;generalize hW:(w1.alloc (.cells #[.int .i64 0,.int .i64 0,.int .i64 0] 111))=w2 at *;clear hW hE w1;refine um ?_;refine .op rfl I0 hk fun w1 hR K hK=>?_;replace hF:=hF.rely hR;replace hO:=hO.rely hR;clear hR;obtain⟨a0,a1,a2⟩:=hF.ev;obtain⟨z0,z1,z2⟩:=hF.yo0;obtain⟨hF3,hO3,ht3,hc3⟩:=hF.Pg0 Yp hO k a b;refine vm ?_ ?_
  ·refine hF.AA.Vi0 ht3 hc3 ?_;(intro e he;have hm:=mem_listed he;simp[go_sem, *]at hm;rcases hm with rfl|rfl|rfl<;>exact⟨_,_,rfl⟩)
  clear hK K;clear a0 a1 a2 z0 z1 z2 ht3 hc3;replace hF:=hF3;replace hO:=hO3;clear hF3 hO3;refine um ?_;repeat refine .c1 L.Qq rfl ?_
  have hci:(cell:Int)<(nC:Int):=E0;refine Pn.vu (S:=Mt L w0 T nC f E (ev3 k a b)) (Die:=fun _ _=>False) L.Qq L.Qe0 19 I0 hk J0 (fun _ _ _ h=>h) S8 fun w1 hR=>?_;replace hF:=(hF.rely hR).rely (Rq.drew _);replace hO:=(hO.rely hR).rely (Rq.drew _);clear hR;refine Vn L.Qq 0 Y8 hF ?_;refine um ?_;refine Vn L.Qq 1 Y8 hF ?_;refine um ?_;refine Vn L.Qq 2 Y8 hF ?_;refine um ?_;refine Jo L.Qq 3 rfl Y8 hF ?_ fun _ hw=>⟨Rm (by
   intro K hK;refine yc fun hc=>?_;go_simp;exact hK),by
   refine yc fun hc=>?_;refine hw.zp sK ?_;co_evs (exact⟨_,rfl⟩)⟩
  refine um ?_;refine Vn L.Qq 4 Y8 hF ?_;refine um ?_;refine Jo L.Qq 5 rfl Y8 hF ?_ fun _ hw=>⟨Rm (by
   intro K hK;refine Md fun hc=>?_;go_simp;exact hK),by
   refine Md fun hc=>?_;refine hw.zp sW ?_;co_evs (exact⟨_,rfl⟩)⟩
  refine um ?_;refine Vn L.Qq 6 Y8 hF ?_;refine um ?_;refine Vn L.Qq 7 Y8 hF ?_;refine um ?_;refine Vn L.Qq 8 Y8 hF ?_;refine um ?_;refine Jo L.Qq 9 rfl Y8 hF ?_ fun _ hw=>⟨Rm (by
   intro K hK;refine yc fun hc=>?_;go_simp;exact hK),by
   refine yc fun hc=>?_;refine hw.zp sK ?_;co_evs (exact⟨_,rfl⟩)⟩
  refine um ?_;refine Vn L.Qq 10 Y8 hF ?_;refine um ?_;refine Jo L.Qq 11 rfl Y8 hF ?_ fun _ hw=>⟨Rm (by
   intro K hK;refine Md fun hc=>?_;go_simp;exact hK),by
   refine Md fun hc=>?_;refine hw.zp sW ?_;co_evs (exact⟨_,rfl⟩)⟩
  refine um ?_;refine Jo L.Qq 12 rfl Y8 hF ?_ fun _ hw=>⟨Rm (by
   intro K hK;go_simp;exact hK),by
   co_still L.Qq⟩
  refine um ?_;refine Jo L.Qq 13 rfl Y8 hF ?_ fun _ hw=>⟨Rm (by
   intro K hK;have hc:World.cell? _ ⟨T,cell,Hn⟩=Gn (f cell):=hw.row.cell hcell;go_simp;exact hK),by
   have hc:World.cell? _ ⟨T,cell,Hn⟩=Gn (f cell):=hw.row.cell hcell;refine hw.row.U80 ?_;co_evs (exact⟨_,rfl⟩)⟩
  refine um ?_;refine Jo L.Qq 14 rfl Y8 hF ?_ fun _ hw=>⟨Rm (by
   intro K hK;obtain⟨a0,a1,a2⟩:=hw.ev;go_simp;exact hK),by
   obtain⟨a0,a1,a2⟩:=hw.ev;refine hw.AA.U80 ?_;(intro e he;have hm:=mem_listed he;simp[go_sem, *]at hm;rcases hm with rfl|rfl|rfl<;>exact⟨_,rfl⟩)⟩
  refine um ?_;refine tu (i:=15) T0 rfl I0 ?_;intro w1 hR K hK;replace hF:=hF.rely hR;replace hO:=hO.rely hR;clear hR;go_simp;obtain⟨Gs,hO2,hS⟩:=hF.src hO k a b;rw[g80]at Gs hO2 hS;refine hK _ _ ⟨?_,?_,?_⟩
  ·refine Does.alloc L.Ap L.Dp hF.hc ?_;exact da
  ·exact .inl Gs
  clear hK K;replace hF:=Gs;replace hO:=hO2;clear Gs hO2;generalize hSz:w1.heap.size=S at *;generalize hW:(w1.alloc (.cells #[.int .i64 k,.int .i64 a,.int .i64 b] 111))=w2 at *;clear hW hSz w1;refine um ?_;refine tu (i:=16) T0 rfl I0 ?_;intro w1 hR K hK;replace hF:=hF.rely hR;replace hO:=hO.rely hR;replace hS:=hS.rely hR;clear hR;obtain⟨i,hi,hz,ju,OM⟩:=BS;rw[<-g80]at hi hS;have hu:prog.underlying 61=Gn (.slice L.ev):=by rw[g80];exact underlying61
  have FY:m<=1000000000:=by simp at hm;omega
  obtain⟨g,cap,w',hr,Io,ht,gP,hg,yo⟩:=zU (P:=prog) hi hz ju OM (t:=61) (ty:=61) hu hO S k a b hS.Pj0 FY;obtain⟨Gs,hO2,nH⟩:=hF.appended Yp hO ht Io gP hg yo;refine uponK_append (.tmp 35) (.tmp 37) 61 rfl rfl rfl hr (hK _ _ ⟨yU hi hz ju OM hu hO S k a b hS FY ht nH (.tmp 35) (.tmp 37) rfl rfl rfl,.inl Gs,?_⟩);replace hF:=Gs;replace hO:=hO2;clear hK K Gs hO2 hS hr Io ht gP hg yo nH hi hz ju OM hu;refine um ?_;refine tu (i:=17) T0 rfl I0 ?_;intro w1 hR K hK;replace hF:=hF.rely hR;replace hO:=hO.rely hR;clear hR;refine qa ?_ ?_ ?_
  ·co_still L.Qq
  ·exact .inl hF
  clear hK K;refine um ?_;refine tu (i:=18) T0 rfl I0 ?_;intro w1 hR K hK;replace hF:=hF.rely hR;replace hO:=hO.rely hR;clear hR;have hc:=hF.row.cell hcell;have hfz:=hF.row.frozen cell;refine qa ?_ ?_ ?_
  ·refine hF.row.does L.Ap L.Dp cell _ ?_;exact yd
  ·exact vd
  clear hK K;replace hF:=hF.put Yp hO cell;clear hc hfz hO;refine za ?_;refine Pn.inBlock L.Qq ?_;refine Pn.inLoop L.Qq ?_;rw[show m+(vs.length+1)=m+1+vs.length by omega,show xs++List.flatMap tq (Value.agg #[Value.int .i64 k,.int .i64 a,.int .i64 b]::vs)=xs++[Value.int .i64 k,.int .i64 a,.int .i64 b]++vs.flatMap tq by simp[tq]];refine ih _ _ _ _ _ _ _ _ _ _ _ _ _ _ _ _ _ _ _ _ _ _ _ _ _ _ (fun v hv'=>hv v (List.mem_cons_of_mem _ hv')) (by simp at hm;omega) (fun j hj=>?_) hF;simp only[if_neg hj];exact hf0 j hj
end
abbrev RS(w w₁:En):Prop:=∃d,w₁=w.at d
abbrev DS(_ _:En)(es:Array Event):Prop:=∀e∈es,yv e
theorem Rn:Terms RS DS:=⟨fun _ _ _ ⟨_,h⟩ ⟨e,k⟩=>⟨e,by rw[k,h];rfl⟩,fun _ e he=>by simp at he⟩
theorem cJ:LetsDraw DS:=fun _ e he=>by simp at he
theorem Ko.Zr{P:Ym}{Post:zn->En->Prop}{g:zn}{w:En}(h:Pn P Um RS DS (Ko P Post) g w):Ko P Post g w:=by
 induction h with
 |stop hs h=>exact h _ ⟨_,rfl⟩
 |step nx hs h1 h2 ih=>exact .step hs fun d=>⟨_,_,_,(h1 _ ⟨d,rfl⟩).1,(h1 _ ⟨d,rfl⟩).2,ih _ ⟨d,rfl⟩⟩
def Is(W w:En):Prop:=∃d,w=W.at d
section
variable {W w w':En}
theorem Is.self(W:En):Is W W:=⟨W.drawn,rfl⟩
theorem Is.rely(h:Is W w)(r:RS w w'):Is W w':=by
 obtain⟨d,rfl⟩:=h;obtain⟨e,rfl⟩:=r;exact⟨e,rfl⟩
theorem Is.drew(h:Is W w):Is W {w with drawn:=w.drawn+1}:=by
 obtain⟨d,rfl⟩:=h;exact⟨d+1,rfl⟩
theorem Is.cell(h:Is W w)(a:Vm):w.cell? a=W.cell? a:=by
 obtain⟨d,rfl⟩:=h;rfl
theorem Is.frozen(h:Is W w)(a:Vm):w.frozen? a=W.frozen? a:=by
 obtain⟨d,rfl⟩:=h;rfl
theorem Is.size(h:Is W w):w.heap.size=W.heap.size:=by
 obtain⟨d,rfl⟩:=h;rfl
theorem Is.alloc(h:Is W w)(o:Obj):Is (W.alloc o) (w.alloc o):=by
 obtain⟨d,rfl⟩:=h;exact⟨d,rfl⟩
theorem Is.set(h:Is W w)(a:Vm)(v:Dn):Is (W.setCell a v) (w.setCell a v):=by
 obtain⟨d,rfl⟩:=h;exact⟨d,rfl⟩
end
def W1(w:En)(cell budget:Nat):World:=w.alloc (.cells #[.int .i64 cell,.int .i64 budget] 102)
def W5(w:En)(cell budget:Nat)(g:Nat)(inV:Dn):World:=((((W1 w cell budget).alloc (.cells #[.pointer (Gn ⟨g,0,Hn⟩)] 143)).alloc (.cells #[.int .i64 budget] 3)).alloc (.cells #[inV] 29)).alloc (.chan 0 #[] Tm 0 0 Tm)
def W7(w:En)(cell budget:Nat)(g:Nat)(inV:Dn):World:=((W5 w cell budget g inV).alloc (.cells #[.chan Hn] 190)).setCell ⟨w.heap.size+5,0,Hn⟩ (.chan (Gn (w.heap.size+4)))
noncomputable def A00:Code:=match Tryz.f31.body with
 |some c=>c
 |none=>.skip
noncomputable def E90:Array Oper:=match A00 with
 |.seq _ (.seq (.region _ ops _) _)=>ops
 |_=>#[]
noncomputable def F90:Code:=match A00 with
 |.seq _ (.seq _ c)=>c
 |_=>.skip
noncomputable def Eg0(kb C nC cC cell budget g n0:Nat)(inV:Dn):Frame:=(base 31).at {tmps:=#[.pointer (Gn ⟨kb,0,Hn⟩),.agg #[.int .i64 cell,.int .i64 budget],inV,Bn,.pointer (Gn ⟨n0,0,Hn⟩),Bn,Bn,.pointer (Gn ⟨kb,0,Hn⟩),.pointer (Gn ⟨kb,0,Hn⟩),.pointer (Gn ⟨kb,2,Hn⟩),.slice (Gn ⟨C,0,Hn⟩) nC cC,.pointer (Gn ⟨n0,0,Hn⟩),.int .i64 cell,.pointer (Gn ⟨C,cell,Hn⟩),.pointer (Gn ⟨g,0,Hn⟩),.pointer (Gn ⟨n0,1,Hn⟩),.int .i64 budget,inV,Bn,Bn,Bn,Bn,Bn,Bn,Bn,Bn,Bn,Bn,Bn,Bn,Bn,Bn,Bn,Bn,Bn,Bn,Bn,Bn,Bn,Bn],defers:=[]} [.inRegion E90 [11],.code F90]
section
variable {P:Ym}{main:Bool}{R:En->En->Prop}{D:En->En->Array Event->Prop}{Bo:zn->En->Prop}{b:Xm}{a:Act}{k:List Item}{cs:List Xm}{w:En}
theorem Pn.Te0(T:Terms R D){ops:Array Oper}{i:Nat}{rest:List Nat}{o:Oper}{f:FuncId}{fn:Func}{c:Code}{args:Array Operand}{EL:Array TypeId}(tm:Array Dn)
  (ho:ops[i]?=Gn o)(hw:Region.wanted o (yielded ops a.tmps)=Um)(hk:b.kind≠.early)(ep:o.op=.call {callee:=.value (.func f),args,argTypes:=EL})
  (hf : P.funcs[f]? = Gn fn) (VC : (fn.name == "runtime.NumGoroutine") = Tm) (hb : fn.body = Gn c) (htm : args.map a.eval ++ Array.replicate (fn.ntmps - (args.map a.eval).size) Bn = tm)
  (h:Pn P main R D Bo (G ((base f).at {tmps:=tm,defers:=[]} [.code c]) (b.at a (.inRegion ops (i::rest)::k)::cs)) w):
  Pn P main R D Bo (G (b.at a (.inRegion ops (i::rest)::k)) cs) w:=by
 refine Pn.enter T ho hw hk ep hf VC hb ?_;rw[htm];exact h
end
noncomputable def la0:Code:=match Tryz.f57.body with
 |some c=>c
 |none=>.skip
noncomputable def Zd0:Array Oper:=match la0 with
 |.seq _ (.seq _ (.seq (.region _ ops _) _))=>ops
 |_=>#[]
noncomputable def ma0:Code:=match la0 with
 |.seq _ (.seq _ (.seq _ c))=>c
 |_=>.skip
noncomputable def Ng0(g budget n0:Nat)(inV:Dn):Frame:=(base 57).at {tmps:=#[.pointer (Gn ⟨g,0,Hn⟩),.int .i64 budget,inV,.pointer (Gn ⟨n0+1,0,Hn⟩),.pointer (Gn ⟨n0+2,0,Hn⟩),.pointer (Gn ⟨n0+3,0,Hn⟩),.chan Hn,.pointer (Gn ⟨n0+5,0,Hn⟩),.chan (Gn (n0+4)),.func (.func 83) #[] #[.pointer (Gn ⟨n0+5,0,Hn⟩),.pointer (Gn ⟨n0+1,0,Hn⟩),.pointer (Gn ⟨n0+2,0,Hn⟩),.pointer (Gn ⟨n0+3,0,Hn⟩)],Bn],defers:=[]} [.inRegion Zd0 [1],.code ma0]
theorem mkc(w:En):(Instr.makeChan 190 (.int .i64 0)).run prog w=.ok (.chan (Gn w.heap.size)) (w.alloc (.chan 0 #[] Tm 0 0 Tm)):=by
 obtain⟨i,hi,hz,ju,OM⟩:=BS;have:=run_makeChan (P:=prog) (w:=w) underlying190 hi .i64 0 E0 P0;exact Vd
theorem tq0(w:En)(es:Array Event):(Instr.makeChan 190 (.int .i64 0)).events prog w es=es:=by
 obtain⟨i,hi,hz,ju,OM⟩:=BS;have:=events_makeChan (P:=prog) (w:=w) underlying190 hi .i64 0 E0 P0 es;exact Vd
theorem Ou{w:En}{a:Vm}{v:Dn}{o:Obj}(h:w.cell? a=Gn v):(w.alloc o).cell? a=Gn v:=by
 have yo:a.block<w.heap.size:=by
  refine Classical.byContradiction fun hn=>?_;have:w.heap[a.block]?=none:=Array.getElem?_eq_none E0;unfold World.cell? at h;rw[this]at h;cases h
 unfold World.cell?;rw[heap_alloc_old w o yo];exact h
theorem EH{W:En}{v:Dn}{t n:Nat}(h:W.heap.size=n):(W.alloc (.cells #[v] t)).cell? ⟨n,0,Hn⟩=Gn v/\(W.alloc (.cells #[v] t)).frozen? ⟨n,0,Hn⟩=false:=by
 subst h;have hr:Tn (W.alloc (.cells #[v] t)) W.heap.size 1 t (fun _=>v):=.new W #[v] t _ fun j hj=>by
  have:j=0:=E2;subst this;rfl
 exact⟨hr.cell E0,hr.frozen 0⟩
section
variable {Post:zn->En->Prop}{w:En}{kb C T nC cC cell budget g:Nat}
theorem Og0{inV:Dn}(T10:∃ip il ic,inV=.slice ip il ic)(cs:List Xm)(w0:En)(hF:Is (W1 w cell budget) w0)(h:∀d,Ko prog Post (G (Ng0 g budget w.heap.size inV) cs) ((W7 w cell budget g inV).at d)):
  Pn prog Um RS DS (Ko prog Post) (G ((base 57).at {tmps:=#[.pointer (Gn ⟨g,0,Hn⟩),.int .i64 budget,inV,Bn,Bn,Bn,Bn,Bn,Bn,Bn,Bn],defers:=[]} [.code la0]) cs) w0:=by
 obtain⟨ip,il,ic,rfl⟩:=T10;have hk:(base 57).kind≠.early:=J1;have vX:(W1 w cell budget).heap.size=w.heap.size+1:=by simp[W1]
 refine S9 ?_;refine Yf ?_;refine K9 fun w1 K hK hF=>?_;refine vm ?_ ?_
 ·exact da
 clear hK K;have ju:=hF.size.trans (show _=w.heap.size+1 by simp[W1]);replace hF:=hF.alloc (.cells #[.pointer (Gn ⟨g,0,Hn⟩)] 143);rw[ju];clear ju;refine um ?_;refine K9 fun w1 K hK hF=>?_;refine vm ?_ ?_
 ·exact da
 clear hK K;have ju:=hF.size.trans (show _=w.heap.size+2 by simp[W1]);replace hF:=hF.alloc (.cells #[.int .i64 budget] 3);rw[ju];clear ju;refine um ?_;refine K9 fun w1 K hK hF=>?_;refine vm ?_ ?_
 ·exact da
 clear hK K;have ju:=hF.size.trans (show _=w.heap.size+3 by simp[W1]);replace hF:=hF.alloc (.cells #[.slice ip il ic] 29);rw[ju];clear ju;refine um ?_;refine Fj ?_;refine Ce ?_;refine K9 fun w1 K hK hF=>?_;have qU:=mkc w1;have hme:=tq0 w1;refine vm ?_ ?_
 ·exact da
 clear hK K;have ju:=hF.size.trans (show _=w.heap.size+4 by simp[W1]);replace hF:=hF.alloc (.chan 0 #[] Tm 0 0 Tm);rw[ju];clear ju qU hme;refine um ?_;refine K9 fun w1 K hK hF=>?_;refine vm ?_ ?_
 ·exact da
 clear hK K;have ju:=hF.size.trans (show _=w.heap.size+5 by simp[W1]);replace hF:=hF.alloc (.cells #[.chan Hn] 190);rw[ju];clear ju;refine um ?_;refine K9 fun w1 K hK hF=>?_;obtain⟨Dx,Vx⟩:=EH (W:=W5 w cell budget g (.slice ip il ic)) (v:=.chan Hn) (t:=190) (show _=w.heap.size+5 by simp[W5,W1]);have hc:=(hF.cell _).trans Dx;have hfz:=(hF.frozen _).trans Vx;refine vm ?_ ?_
 ·exact ze
 clear hK K;replace hF:=hF.set ⟨w.heap.size+5,0,Hn⟩ (.chan (Gn (w.heap.size+4)));clear hc hfz Dx Vx;refine um ?_;refine S9 ?_;refine .Un Rn [0,1] I0 ?_;refine V9 ?_;refine .stop rfl fun w1 hR=>?_;obtain⟨d,rfl⟩:=hF.rely hR;exact h d
end
section
variable {Post:zn->En->Prop}{w:En}{kb C T nC cC cell budget g:Nat}
theorem tl0(ck2:w.cell? ⟨kb,2,Hn⟩=Gn (.slice (Gn ⟨C,0,Hn⟩) nC cC))(cc:w.cell? ⟨C,cell,Hn⟩=Gn (.pointer (Gn ⟨g,0,Hn⟩)))(hcell:cell<nC)(inV:Dn)(T10:∃ip il ic,inV=.slice ip il ic)(cs:List Xm)(h:∀d,Ko prog Post (G (Ng0 g budget w.heap.size inV) (Eg0 kb C nC cC cell budget g w.heap.size inV::cs)) ((W7 w cell budget g inV).at d)):Ko prog Post (G ((base 31).at {tmps:=#[.pointer (Gn ⟨kb,0,Hn⟩),.agg #[.int .i64 cell,.int .i64 budget],inV,Bn,Bn,Bn,Bn,Bn,Bn,Bn,Bn,Bn,Bn,Bn,Bn,Bn,Bn,Bn,Bn,Bn,Bn,Bn,Bn,Bn,Bn,Bn,Bn,Bn,Bn,Bn,Bn,Bn,Bn,Bn,Bn,Bn,Bn,Bn,Bn,Bn],defers:=[]} [.code A00]) cs) w:=by
 obtain⟨ip,il,ic,rfl⟩:=T10;have hk:(base 31).kind≠.early:=J1;have jG:(base 57).kind≠.early:=J1;have yo:∀{a:Vm}{v:Dn},w.cell? a=Gn v->(W1 w cell budget).cell? a=Gn v:=fun h=>Ou h;have hr:Tn (W1 w cell budget) w.heap.size 2 102 (fun j=>if j=0 then .int .i64 cell else .int .i64 budget):=.new w #[.int .i64 cell,.int .i64 budget] _ _ fun j hj=>by
  have:j=0\/j=1:=by simp at hj;omega
  rcases this with rfl|rfl<;>rfl
 have wk2:=yo ck2;have wc:=yo cc;have ww0:(W1 w cell budget).cell? ⟨w.heap.size,0,Hn⟩=Gn (.int .i64 cell):=hr.cell E0;have ww1:(W1 w cell budget).cell? ⟨w.heap.size,1,Hn⟩=Gn (.int .i64 budget):=hr.cell E0;have hci:(cell:Int)<(nC:Int):=E0;refine uc ?_;have hF:=Is.self w;refine S9 ?_;refine Yc ?_;refine K9 fun w1 K hK hF=>?_;refine vm ?_ ?_
 ·exact da
 clear hK K;have ju:=hF.size;replace hF:=hF.alloc (.cells #[.int .i64 cell,.int .i64 budget] 102);rw[ju];clear ju;change Is (W1 w cell budget) _ at hF;refine um ?_;refine S9 ?_;refine Pn.fY (S:=Is (W1 w cell budget)) Rn cJ 12 I0 hk J0 ?_;intro w1 hR;replace hF:=(hF.rely hR).drew;clear hR;co_applyP bp Rn b9 Q8 ?oS (i:=0) rfl T0 T0 T0 T0 (.inl ⟨I0,fun _ hw=>⟨Rm ?MD,?OH⟩⟩) hF ?q00
 case oS=>exact fun _ _ _ h r=>Pn.rely Rn.trans h r
 case MD=>
  exact jb
 case OH=>
  exact gl
 refine um ?_;co_applyP bp Rn b9 Q8 ?pS (i:=1) rfl T0 T0 T0 T0 (.inl ⟨I0,fun _ hw=>⟨Rm ?cH,?PH⟩⟩) hF ?r00
 case pS=>exact fun _ _ _ h r=>Pn.rely Rn.trans h r
 case cH=>
  exact jb
 case PH=>
  exact gl
 refine um ?_;co_applyP bp Rn b9 Q8 ?qS (i:=2) rfl T0 T0 T0 T0 (.inl ⟨I0,fun _ hw=>⟨Rm ?IJ,?QH⟩⟩) hF ?s00
 case qS=>exact fun _ _ _ h r=>Pn.rely Rn.trans h r
 case IJ=>
  exact jb
 case QH=>
  exact gl
 refine um ?_;co_applyP bp Rn b9 Q8 ?rS (i:=3) rfl T0 T0 T0 T0 (.inl ⟨I0,fun _ hw=>⟨Rm ?JJ,?RH⟩⟩) hF ?t00
 case rS=>exact fun _ _ _ h r=>Pn.rely Rn.trans h r
 case JJ=>
  intro K hK;have hc:World.cell? _ ⟨kb,2,Hn⟩=Gn (.slice (Gn ⟨C,0,Hn⟩) nC cC):=(hw.cell _).trans wk2;exact fh
 case RH=>
  have hc:World.cell? _ ⟨kb,2,Hn⟩=Gn (.slice (Gn ⟨C,0,Hn⟩) nC cC):=(hw.cell _).trans wk2;exact ze
 refine um ?_;co_applyP bp Rn b9 Q8 ?sS (i:=4) rfl T0 T0 T0 T0 (.inl ⟨I0,fun _ hw=>⟨Rm ?LN,?SH⟩⟩) hF ?u00
 case sS=>exact fun _ _ _ h r=>Pn.rely Rn.trans h r
 case LN=>
  exact jb
 case SH=>
  exact gl
 refine um ?_;co_applyP bp Rn b9 Q8 ?uS (i:=5) rfl T0 T0 T0 T0 (.inl ⟨I0,fun _ hw=>⟨Rm ?QT,?UH⟩⟩) hF ?v00
 case uS=>exact fun _ _ _ h r=>Pn.rely Rn.trans h r
 case QT=>
  intro K hK;have hc:World.cell? _ ⟨w.heap.size,0,Hn⟩=Gn (.int .i64 cell):=(hw.cell _).trans ww0;exact fh
 case UH=>
  have hc:World.cell? _ ⟨w.heap.size,0,Hn⟩=Gn (.int .i64 cell):=(hw.cell _).trans ww0;exact ze
 refine um ?_;co_applyP bp Rn b9 Q8 ?vS (i:=6) rfl T0 T0 T0 T0 (.inl ⟨I0,fun _ hw=>⟨Rm ?TT,?VH⟩⟩) hF ?w00
 case vS=>exact fun _ _ _ h r=>Pn.rely Rn.trans h r
 case TT=>
  exact jb
 case VH=>
  skip
  co_still Rn
 refine um ?_;co_applyP bp Rn b9 Q8 ?If0 (i:=7) rfl T0 T0 T0 T0 (.inl ⟨I0,fun _ hw=>⟨Rm ?Cg0,?V70⟩⟩) hF ?dl0
 case If0=>exact fun _ _ _ h r=>Pn.rely Rn.trans h r
 case Cg0=>
  intro K hK;have hc:World.cell? _ ⟨C,cell,Hn⟩=Gn (.pointer (Gn ⟨g,0,Hn⟩)):=(hw.cell _).trans wc;exact fh
 case V70=>
  have hc:World.cell? _ ⟨C,cell,Hn⟩=Gn (.pointer (Gn ⟨g,0,Hn⟩)):=(hw.cell _).trans wc;exact ze
 refine um ?_;co_applyP bp Rn b9 Q8 ?Jf0 (i:=8) rfl T0 T0 T0 T0 (.inl ⟨I0,fun _ hw=>⟨Rm ?Dg0,?W70⟩⟩) hF ?el0
 case Jf0=>exact fun _ _ _ h r=>Pn.rely Rn.trans h r
 case Dg0=>
  exact jb
 case W70=>
  exact gl
 refine um ?_;co_applyP bp Rn b9 Q8 ?pk0 (i:=9) rfl T0 T0 T0 T0 (.inl ⟨I0,fun _ hw=>⟨Rm ?ll0,?Ye0⟩⟩) hF ?Cq0
 case pk0=>exact fun _ _ _ h r=>Pn.rely Rn.trans h r
 case ll0=>
  intro K hK;have hc:World.cell? _ ⟨w.heap.size,1,Hn⟩=Gn (.int .i64 budget):=(hw.cell _).trans ww1;exact fh
 case Ye0=>
  have hc:World.cell? _ ⟨w.heap.size,1,Hn⟩=Gn (.int .i64 budget):=(hw.cell _).trans ww1;exact ze
 refine um ?_;co_applyP bp Rn b9 Q8 ?qk0 (i:=10) rfl T0 T0 T0 T0 (.inl ⟨I0,fun _ hw=>⟨Rm ?ml0,?Ze0⟩⟩) hF ?Dq0
 case qk0=>exact fun _ _ _ h r=>Pn.rely Rn.trans h r
 case ml0=>
  exact jb
 case Ze0=>
  exact gl
 refine um ?_;refine WI (i:=11) T0 rfl I0 (Ks rfl T0) ⟨rfl,?_⟩;refine Pn.Te0 Rn #[.pointer (Gn ⟨g,0,Hn⟩),.int .i64 budget,.slice ip il ic,Bn,Bn,Bn,Bn,Bn,Bn,Bn,Bn] rfl I0 hk rfl func57 I0 rfl J0 ?_;exact Og0 ⟨_,_,_,rfl⟩ _ _ hF h
end
theorem Rr{w:En}{a:Vm}{v:Dn}(h:w.cell? a=Gn v):a.block<w.heap.size:=by
 refine Classical.byContradiction fun hn=>?_;have:w.heap[a.block]?=none:=Array.getElem?_eq_none E0;unfold World.cell? at h;rw[this]at h;cases h
section
variable (w:En)(cell budget g:Nat)(inV:Dn)
theorem Xx:(W7 w cell budget g inV).heap.size=w.heap.size+6:=by simp[W7,W5,W1,World.setCell]
theorem MG{b:Nat}(hb:b<w.heap.size):(W7 w cell budget g inV).heap[b]?=w.heap[b]?:=by
 unfold W7;rw[yn _ _ _ _ (by show b≠w.heap.size+5;omega)];unfold W5 W1;repeat rw[heap_alloc_old _ _ A1]
 exact heap_alloc_old w _ hb
theorem Za0:(W7 w cell budget g inV).heap[w.heap.size+4]?=Gn (.chan 0 #[] Tm 0 0 Tm):=by
 unfold W7;rw[yn _ _ _ _ (by show w.heap.size+4≠w.heap.size+5;omega),heap_alloc_old _ _ (by simp[W5,W1])];unfold W5;generalize hX:(((W1 w cell budget).alloc (.cells #[.pointer (Gn ⟨g,0,Hn⟩)] 143)).alloc (.cells #[.int .i64 budget] 3)).alloc (.cells #[inV] 29)=X;have hs:X.heap.size=w.heap.size+4:=by rw[<-hX];simp[W1]
 rw[<-hs];exact heap_alloc_new X _
theorem sD{a:Vm}{v:Dn}(h:w.cell? a=Gn v):(W7 w cell budget g inV).cell? a=Gn v:=by
 have yo:=Rr h;unfold World.cell? at h ⊢;rw[MG w cell budget g inV yo];exact h
theorem RL{W:En}{a:Vm}{v x:Dn}{b:Nat}(h:W.cell? a=Gn v)(hb:a.block≠b):(W.setCell ⟨b,0,Hn⟩ x).cell? a=Gn v:=by
 unfold World.cell? at h ⊢;rw[yn _ _ _ _ hb];exact h
theorem Di0:(W7 w cell budget g inV).cell? ⟨w.heap.size,0,Hn⟩=Gn (.int .i64 cell):=by
 have hr:Tn (W1 w cell budget) w.heap.size 2 102 (fun j=>if j=0 then .int .i64 cell else .int .i64 budget):=.new w #[.int .i64 cell,.int .i64 budget] _ _ fun j hj=>by
  have:j=0\/j=1:=by simp at hj;omega
  rcases this with rfl|rfl<;>rfl
 have h0:(W1 w cell budget).cell? ⟨w.heap.size,0,Hn⟩=Gn (.int .i64 cell):=hr.cell E0;exact RL (Ou (Ou (Ou (Ou (Ou h0))))) (by show w.heap.size≠w.heap.size+5;omega)
theorem Ai0:(W7 w cell budget g inV).cell? ⟨w.heap.size+1,0,Hn⟩=Gn (.pointer (Gn ⟨g,0,Hn⟩)):=by
 have h0:=(EH (W:=W1 w cell budget) (v:=.pointer (Gn ⟨g,0,Hn⟩)) (t:=143) (n:=w.heap.size+1) (by simp[W1])).1;exact RL (Ou (Ou (Ou (Ou h0)))) (by show w.heap.size+1≠w.heap.size+5;omega)
theorem Bi0:(W7 w cell budget g inV).cell? ⟨w.heap.size+2,0,Hn⟩=Gn (.int .i64 budget):=by
 have h0:=(EH (W:=(W1 w cell budget).alloc (.cells #[.pointer (Gn ⟨g,0,Hn⟩)] 143)) (v:=.int .i64 budget) (t:=3) (n:=w.heap.size+2) (by simp[W1])).1;exact RL (Ou (Ou (Ou h0))) (by show w.heap.size+2≠w.heap.size+5;omega)
theorem Ci0:(W7 w cell budget g inV).cell? ⟨w.heap.size+3,0,Hn⟩=Gn inV:=by
 have h0:=(EH (W:=((W1 w cell budget).alloc (.cells #[.pointer (Gn ⟨g,0,Hn⟩)] 143)).alloc (.cells #[.int .i64 budget] 3)) (v:=inV) (t:=29) (n:=w.heap.size+3) (by simp[W1])).1;exact RL (Ou (Ou h0)) (by show w.heap.size+3≠w.heap.size+5;omega)
theorem dd0:(W7 w cell budget g inV).cell? ⟨w.heap.size+5,0,Hn⟩=Gn (.chan (Gn (w.heap.size+4))):=by
 have hr:Tn ((W5 w cell budget g inV).alloc (.cells #[.chan Hn] 190)) (W5 w cell budget g inV).heap.size 1 190 (fun _=>.chan Hn):=.new _ #[.chan Hn] _ _ fun j hj=>by
  have:j=0:=E2;subst this;rfl
 have hs:(W5 w cell budget g inV).heap.size=w.heap.size+5:=by simp[W5,W1]
 rw[hs]at hr;exact(hr.set 0 (.chan (Gn (w.heap.size+4)))).cell E0
end
end Go.Proofs.YtdoghgnifkgfdaaGreat.Mute
