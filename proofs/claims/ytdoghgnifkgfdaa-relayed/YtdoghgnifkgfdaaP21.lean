import Derived.Conc.AppendEvents3
import Derived.Conc.PipeWords
import Derived.Test.YtdoghgnifkgfdaaP17
import Derived.Test.YtdoghgnifkgfdaaP18
import Derived.Test.YtdoghgnifkgfdaaP19
import Derived.Test.YtdoghgnifkgfdaaP20
set_option maxRecDepth 100000
set_option maxHeartbeats 16000000
namespace Go.Proofs.Ytdoghgnifkgfdaa.Mute
open Go Go.Conc Go.RowKit
def CallsE (P:Program) (L:Lot) (FS:World→Prop) (f:FuncId) (args:Array Value) (w:World) (evs:List Value) (Post:Value→World→Prop) (Die:List PanicEntry→World→Prop):Prop:=
 ∀(cl:Frame) (cs:List Frame) (vs:List Value),(∀v w',Post v w'→GoesW P false L.R1 L.D1 (StopB P L.c L.R1 L.D1 L.SL FS vs) (G (cl.finish v) cs) w')→(∀ch w',Die ch w'→GoesW P false L.R1 L.D1 (StopB P L.c L.R1 L.D1 L.SL FS vs) (G (cl.raise ch) cs) w')→
  GoesW P false L.R1 L.D1 (StopB P L.c L.R1 L.D1 L.SL FS (evs++vs)) (G (Frame.enter P f args .normal) (cl::cs)) w
theorem CallsX.quiet {P:Program} {L:Lot} {FS:World→Prop} {f:FuncId} {args:Array Value} {w:World} {Post:Value→World→Prop} {Die:List PanicEntry→World→Prop} (h:CallsX P false L.R1 L.D1 f args w Post Die):CallsE P L FS f args w [] Post Die:=fun cl cs _ h1 h2=>h cl cs _ h1 h2
theorem CallsE.intro {P:Program} {L:Lot} {FS:World→Prop} {f:FuncId} {fn:Func} {c:Code} {args:Array Value} {w:World} {evs:List Value} (tmps:Array Value) {Post:Value→World→Prop} {Die:List PanicEntry→World→Prop} (hf:P.funcs[f]?=some fn) (hb:fn.body=some c) (ht:args++Array.replicate (fn.ntmps-args.size) undef=tmps)
  (h:∀(cl:Frame) (cs:List Frame) (vs:List Value),
   (∀a todo w' v,a.defers=[]→ResultsW P L.R1 L.D1 f fn a.tmps w' v→Post v w'→GoesW P false L.R1 L.D1 (StopB P L.c L.R1 L.D1 L.SL FS vs) (G {(base f).at a todo with mode:=.returning} (cl::cs)) w')→
   (∀fr ch w',fr.fn=f→fr.defers=[]→fr.mode=.panicking ch→Die ch w'→GoesW P false L.R1 L.D1 (StopB P L.c L.R1 L.D1 L.SL FS vs) (G fr (cl::cs)) w')→
   GoesW P false L.R1 L.D1 (StopB P L.c L.R1 L.D1 L.SL FS (evs++vs)) (G ((base f).at {tmps:=tmps,defers:=[]} [.code c]) (cl::cs)) w):CallsE P L FS f args w evs Post Die:=fun cl cs vs hp hd=>by
 rw [enter_at args hf hb,ht];exact h cl cs vs (fun a todo w' v h1 h2 h3=>.leave L.terms1 hf h1 h2 (hp v w' h3)) fun fr ch w' h1 h2 h3 h4=>.up L.terms1 h3 h2 (by rw [h1];exact hf) (hd ch w' h4)
theorem GoesW.send {P:Program} {L:Lot} {FS:World→Prop} {vs:List Value} {b:Frame} {a:Act} {k:List Item} {cs:List Frame} {w:World} {ops:Array Oper} {i:Nat} {rest:List Nat} {o:Oper} {x y:Operand} {v:Value} (ho:ops[i]?=some o) (hw:Region.wanted o (yielded ops a.tmps)=true) (hk:b.kind≠.early) (hop:o.op=.send x y) (hx:a.eval x=.chan (some L.c)) (hy:a.eval y=v)
  (h:GoesW P false L.R1 L.D1 (StopB P L.c L.R1 L.D1 L.SL FS vs) (G (b.at (a.put o.dst undef) (.inRegion ops rest::k)) cs) w):GoesW P false L.R1 L.D1 (StopB P L.c L.R1 L.D1 L.SL FS (v::vs)) (G (b.at a (.inRegion ops (i::rest)::k)) cs) w:=by
 refine .stop rfl fun w₁ r=>⟨G (b.at a (.inRegion ops (i::rest)::k)) cs,.tuple #[],#[],?_,by simp,fun w₂ r₂=>?_⟩
 ·rw [stepG_comm (cases:=#[scase L.c v (.tuple #[])]) (blocking:=true) (shape:=.send) (w':=w₁) ho hw hk (by simp [execOp,hop,hx,hy,scase])];have he:(execOp a.eval o).events P w₁ #[]=#[]:=by
   unfold execOp;simp only [hop];rfl
  rw [listed_nil he]
 ·have e:Go.Conc.served (G (b.at a (.inRegion ops (i::rest)::k)) cs) undef=G (b.at (a.put o.dst undef) (.inRegion ops rest::k)) cs:=by
   rw [served_G];simp [ho]
  rw [e];exact (h.rely L.terms1.trans r).rely L.terms1.trans r₂
section
variable {L:Lot} {w0:World} {rows:List Row} {ic g cb co n cc:Nat} {num:Int} {net:Value} {z ci:Nat→Int}
theorem step_log {FS:World→Prop} (hev:((73:Nat)==L.ev)=false) (hi:rows[ic]?=some (cellRow g num net (.slice (some ⟨cb,co,none⟩) n cc) z)) (hs:Still L w0 cb) (hcode:∀j,j<n*4→w0.cell? ⟨cb,co+j,none⟩=some (.int .i64 (ci j))) (nx:Nat) (hz:z 45=nx) (hlt:nx<n) (hn:n≤48)
  (R A:Nat) (hR4:R<4) (hA4:A<4) (hop:ci (nx*4)=15) (hR:ci (nx*4+1)=R) (hA:ci (nx*4+2)=A) (N:Int) (hN:ci (nx*4+3)=N) (inV:Value) (w:World) (hF:Kn L w0 rows w):
  CallsE Try.prog L FS 83 #[.pointer (some ⟨g,0,none⟩),inV,.chan (some L.c)] w [.agg #[.int .i64 1,.int .i64 ((zset (zset z 46 (IntKind.i64.wrap (z 46+1))) 45 ((nx:Int)+1)) (25+R)),.int .i64 0]] (fun v w'=>v=.int .i64 15∧Kn L w0 (rows.set ic (cellRow g num net (.slice (some ⟨cb,co,none⟩) n cc) (zset (zset z 46 (IntKind.i64.wrap (z 46+1))) 45 ((nx:Int)+1)))) w') (fun _ _=>False):=by
 have hk:(base 83).kind≠.early:=by simp [base]
 refine CallsE.intro (c:=stBody) _ Try.func83 rfl (by kernel_rfl) fun cl cs vs Ret _=>step_front hev hi hs hcode nx hz hlt hn R A hR4 hA4 hop hR hA N hN inV (.chan (some L.c)) w hF fun B w3 hF=>?_;have hRi:(R:Int)<4:=by omega
 have hAi:(A:Int)<4:=by omega
 repeat refine .c1 L.terms1 rfl ?_
 iterate 9 (refine .regionL L.terms1 [0,1] (by rfl) ?_;iterate 2 (refine .opV L.terms1 rfl (by rfl) hk ?_;try walk_nrm);repeat refine .c1 L.terms1 rfl ?_;refine .condF L.terms1 (by rfl) ?_;repeat refine .c1 L.terms1 rfl ?_)
 refine .regionL L.terms1 [0,1] (by rfl) ?_;iterate 2 (refine .opV L.terms1 rfl (by rfl) hk ?_;try walk_nrm)
 repeat refine .c1 L.terms1 rfl ?_
 refine GoesW.condT L.terms1 (by rfl) ?_;repeat refine .c1 L.terms1 rfl ?_
 refine .regionL L.terms1 [0,1,2,3,4,5] (by rfl) ?_;iterate 3 (refine .opV L.terms1 rfl (by rfl) hk ?_;try walk_nrm)
 refine .op rfl (by rfl) hk fun w1 hR K hK=>?_;replace hF:=hF.rely hR;clear hR;have hc:World.cell? _ ⟨g,25+R,none⟩=some (.int .i64 ((zset (zset z 46 (IntKind.i64.wrap (z 46+1))) 45 ((nx:Int)+1)) (25+R))):=KnL.cz hi hF (by omega) (by omega);go_simp;try (unfold stored;go_simp)
 refine hK _ _ ⟨?_,?_⟩
 ·refine KnL.clooks hi hF ?_;co_evs (exact ⟨_,rfl⟩)
 clear hK K;clear hc;try walk_nrm
 refine .opV L.terms1 rfl (by rfl) hk ?_;try walk_nrm
 refine GoesW.send rfl (by rfl) hk rfl rfl rfl ?_;try walk_nrm
 repeat refine .c1 L.terms1 rfl ?_
 refine .regionL L.terms1 [0,1,2] (by rfl) ?_;refine .opV L.terms1 rfl (by rfl) hk ?_;try walk_nrm
 refine .op rfl (by rfl) hk fun w1 hR K hK=>?_;replace hF:=hF.rely hR;clear hR;obtain ⟨a0,a1,a2,a3⟩:=hF.lins (k:=0) rfl;go_simp;try (unfold stored;go_simp)
 refine hK _ _ ⟨?_,?_⟩
 ·refine hF.llooks (k:=0) rfl ?_;co_evs (exact ⟨_,rfl⟩)
 clear hK K;clear a0 a1 a2 a3;try walk_nrm
 refine .opV L.terms1 rfl (by rfl) hk ?_;try walk_nrm
 repeat refine .c1 L.terms1 rfl ?_
 refine GoesW.ret L.terms1 fun todo=>?_;exact Ret _ todo _ _ rfl (resultsW_tmp L.terms1 (by rfl) _) ⟨by rfl,hF.drop⟩
end
section
variable {P:Program} {main:Bool} {R:World→World→Prop} {D:World→World→Array Event→Prop} {Stop:Goroutine→World→Prop} {b:Frame} {a:Act} {k:List Item} {cs:List Frame} {w:World} {ops:Array Oper} {i:Nat} {rest:List Nat} {o:Oper}
theorem GoesW.defer (T:Terms R D) (ho:ops[i]?=some o) (hw:Region.wanted o (yielded ops a.tmps)=true) (hk:b.kind≠.early) (d:Deferred) (hr:∀w,(execOp a.eval o).run P w=.ok (.defer d) w) (he:∀w,(execOp a.eval o).events P w #[]=#[])
  (h:GoesW P main R D Stop (G (b.at (Act.put ⟨a.tmps,d::a.defers⟩ o.dst undef) (.inRegion ops rest::k)) cs) w):GoesW P main R D Stop (G (b.at a (.inRegion ops (i::rest)::k)) cs) w:=by
 refine .ctl T rfl (fun w₁=>?_) h;have hfin:(b.at ⟨a.tmps,d::a.defers⟩ (.inRegion ops (i::rest)::k)).finish undef=b.at (Act.put ⟨a.tmps,d::a.defers⟩ o.dst undef) (.inRegion ops rest::k):=by rw [Frame.finish_at,ho];rfl
 have hk':(b.kind==CallKind.early)=false:=by simpa using hk
 rw [stepG_oper ho hw,←hfin];simp [stepG.apply,hr,he,G,Frame.at,hk',GStep.after,seen_none]
theorem GoesW.recoverNone (T:Terms R D) {c:Frame} (ho:ops[i]?=some o) (hw:Region.wanted o (yielded ops a.tmps)=true) (hk:b.kind=.deferred) (hop:o.op=.call {callee:=.builtin .recover,args:=#[],argTypes:=#[]}) (hc:c.mode=.returning)
  (h:GoesW P main R D Stop (G (b.at (a.put o.dst .nilIface) (.inRegion ops rest::k)) (c::cs)) w):GoesW P main R D Stop (G (b.at a (.inRegion ops (i::rest)::k)) (c::cs)) w:=by
 refine .ctl T rfl (fun w₁=>?_) h;have hfin:(b.at a (.inRegion ops (i::rest)::k)).finish .nilIface=b.at (a.put o.dst .nilIface) (.inRegion ops rest::k):=by rw [Frame.finish_at,ho];rfl
 have hr:(execOp a.eval o).run P w₁=.ok .recover w₁:=by
  unfold execOp;simp [hop,resolve,invoke,builtin]
 have he:(execOp a.eval o).events P w₁ #[]=#[]:=by
  unfold execOp;simp [hop,resolve,invoke,builtin]
 rw [stepG_oper ho hw,←hfin];simp [stepG.apply,hr,he,G,Frame.at,hk,GStep.after,seen_none,tryRecover,hc]
theorem GoesW.recoverSome (T:Terms R D) {c:Frame} {v:Value} (ho:ops[i]?=some o) (hw:Region.wanted o (yielded ops a.tmps)=true) (hk:b.kind=.deferred) (hop:o.op=.call {callee:=.builtin .recover,args:=#[],argTypes:=#[]}) (hc:c.mode=.panicking [{v,recovered:=false}])
  (h:GoesW P main R D Stop (G (b.at (a.put o.dst v) (.inRegion ops rest::k)) ({c with mode:=.panicking [{v,recovered:=true}]}::cs)) w):GoesW P main R D Stop (G (b.at a (.inRegion ops (i::rest)::k)) (c::cs)) w:=by
 refine .ctl T rfl (fun w₁=>?_) h;have hfin:(b.at a (.inRegion ops (i::rest)::k)).finish v=b.at (a.put o.dst v) (.inRegion ops rest::k):=by rw [Frame.finish_at,ho];rfl
 have hr:(execOp a.eval o).run P w₁=.ok .recover w₁:=by
  unfold execOp;simp [hop,resolve,invoke,builtin]
 have he:(execOp a.eval o).events P w₁ #[]=#[]:=by
  unfold execOp;simp [hop,resolve,invoke,builtin]
 rw [stepG_oper ho hw,←hfin];simp [stepG.apply,hr,he,G,Frame.at,hk,GStep.after,seen_none,tryRecover,hc]
theorem GoesW.unwind (T : Terms R D) {fr : Frame} {f : FuncId} {fn : Func} {c : Code} {xs cap : Array Value} {ds : List Deferred} (tmps : Array Value) (hm : fr.mode ≠ .run) (hd : fr.defers = { target := .fn (.func f) cap, args := xs } :: ds) (hf : P.funcs[f]? = some fn) (hname : (fn.name == "runtime.NumGoroutine") = false) (hb : fn.body = some c)
  (ht:(xs++cap)++Array.replicate (fn.ntmps-(xs++cap).size) undef=tmps)
  (h:GoesW P main R D Stop (G ((baseD f).at {tmps:=tmps,defers:=[]} [.code c]) ({fr with defers:=ds}::cs)) w):GoesW P main R D Stop (G fr cs) w:=by
 refine .ctl T rfl (fun w₁=>?_) h;have h1 : ¬ fn.name = "runtime.NumGoroutine" := by simpa using hname
 rw [stepG_unwind hm,←ht,←enter_atD (xs++cap) hf hb];unfold Go.unwind;simp only [hd];simp [callDeferred,invoke,callFunc,hf,h1,hb,GStep.after,seen_none,G]
theorem GoesW.leaveD (T:Terms R D) {f:FuncId} {fn:Func} {todo:List Item} {c c':Frame} {v:Value} (hf:P.funcs[f]?=some fn) (hd:a.defers=[]) (hr:ResultsW P R D f fn a.tmps w v)
  (hc:(c.mode=.returning∧c'=c)∨(∃x,c.mode=.panicking [{v:=x,recovered:=true}]∧c'={c with mode:=.returning}))
  (h:GoesW P main R D Stop (G c' cs) w):GoesW P main R D Stop (G {(baseD f).at a todo with mode:=.returning} (c::cs)) w:=by
 refine .one rfl fun w₁ h₁=>⟨_,_,seen P f ((results fn a.tmps).events P w₁ #[]),?_,(hr w₁ h₁).2,h.rely T.trans h₁⟩;have e:=(hr w₁ h₁).1;rcases hc with ⟨hm,rfl⟩|⟨x,hm,rfl⟩
 ·simp [G,stepG,Go.unwind,doReturn,Frame.at,baseD,hd,hf,e,hm,GStep.after]
 ·simp [G,stepG,Go.unwind,doReturn,Frame.at,baseD,hd,hf,e,hm,GStep.after]
end
section
variable {P:Program} {L:Lot} {FS:World→Prop} {b:Frame} {a:Act} {k:List Item} {cs:List Frame} {w:World} {ops:Array Oper} {i:Nat} {rest:List Nat} {o:Oper}
theorem GoesW.callE {f:FuncId} {fn:Func} {c:Code} {args:Array Operand} {ats:Array TypeId} {Post:Value→World→Prop} {Die:List PanicEntry→World→Prop} {evs vs:List Value}
  (ho:ops[i]?=some o) (hw:Region.wanted o (yielded ops a.tmps)=true) (hk:b.kind≠.early) (hop:o.op=.call {callee:=.value (.func f),args,argTypes:=ats})
  (hf : P.funcs[f]? = some fn) (hname : (fn.name == "runtime.NumGoroutine") = false) (hb : fn.body = some c) (xs : Array Value) (hv : args.map a.eval = xs) (hc : CallsE P L FS f xs w evs Post Die)
  (h:∀v w',Post v w'→GoesW P false L.R1 L.D1 (StopB P L.c L.R1 L.D1 L.SL FS vs) (G (b.at (a.put o.dst v) (.inRegion ops rest::k)) cs) w')
  (hd:∀ch w',Die ch w'→GoesW P false L.R1 L.D1 (StopB P L.c L.R1 L.D1 L.SL FS vs) (G {b.at a (.inRegion ops (i::rest)::k) with mode:=.panicking ch} cs) w'):
  GoesW P false L.R1 L.D1 (StopB P L.c L.R1 L.D1 L.SL FS (evs++vs)) (G (b.at a (.inRegion ops (i::rest)::k)) cs) w:=by
 refine GoesW.enter L.terms1 ho hw hk hop hf hname hb ?_;rw [←enter_at _ hf hb,hv];refine hc _ cs vs (fun v w' x=>?_) fun ch w' x=>hd ch w' x;rw [Frame.finish_at,ho];exact h v w' x
end
inductive Out where
 |on (op:Int) (said:Option Int) (z:Nat→Int)
 |broke (why:Int) (z:Nat→Int)
def fetchedZ (z:Nat→Int):Nat→Int:=zset (zset z 46 (IntKind.i64.wrap (z 46+1))) 45 (((z 45).toNat:Int)+1)
def stepF (n:Nat) (ci z:Nat→Int):Out:=
 if z 45=n then .broke 3 (zset z 46 (IntKind.i64.wrap (z 46+1)))
 else
  let k:=(z 45).toNat*4
  let R:=(ci (k+1)).toNat
  let A:=(ci (k+2)).toNat
  let N:=ci (k+3)
  let y:=fetchedZ z
  if ci k=1 then .on 1 none (zset y (25+R) N)
  else if ci k=2 then .on 2 none (zset y (25+R) (IntKind.i64.wrap (y (25+R)+y (25+A))))
  else if ci k=3 then .on 3 none (zset y (25+R) (IntKind.i64.wrap (y (25+R)-y (25+A))))
  else if ci k=4 then .on 4 none (zset y (25+R) (IntKind.i64.wrap (y (25+R)*y (25+A))))
  else if ci k=5 then (if y (25+A)=0 then .broke 1 y else .on 5 none (zset y (25+R) (IntKind.i64.wrap ((y (25+R)).tdiv (y (25+A))))))
  else if ci k=6 then (if y (25+A)<0∨16≤y (25+A) then .broke 2 y else .on 6 none (zset y (25+R) (y (29+(y (25+A)).toNat))))
  else if ci k=7 then (if y (25+A)<0∨16≤y (25+A) then .broke 2 y else .on 7 none (zset y (29+(y (25+A)).toNat) (y (25+R))))
  else if ci k=8 then .on 8 none (zset y 45 N)
  else if ci k=9 then .on 9 none (if y (25+R)=0 then zset y 45 N else y)
  else if ci k=15 then .on 15 (some (y (25+R))) y
  else .on 0 none y
def said (x:Int):Value:=.agg #[.int .i64 1,.int .i64 x,.int .i64 0]
def Out.sent:Out→List Value
 |.on _ (some x) _=>[said x]
 |_=>[]
section
variable {L:Lot} {w0:World} {rows:List Row} {ic g cb co n cc:Nat} {num:Int} {net:Value} {z ci:Nat→Int}
def brk (y:Int):List PanicEntry:=[{v:=.iface 187 (.int .i64 y),recovered:=false}]
abbrev codeV (cb co n cc:Nat):Value:=.slice (some ⟨cb,co,none⟩) n cc
theorem CallsE.mono {P:Program} {FS:World→Prop} {f:FuncId} {args:Array Value} {w:World} {evs evs':List Value} {Post Post':Value→World→Prop} {Die Die':List PanicEntry→World→Prop} (h:CallsE P L FS f args w evs Post Die) (he:evs=evs') (hp:∀v w',Post v w'→Post' v w') (hd:∀c w',Die c w'→Die' c w'):CallsE P L FS f args w evs' Post' Die':=by
 subst he;exact fun cl cs vs h1 h2=>h cl cs vs (fun v w' x=>h1 v w' (hp v w' x)) fun ch w' x=>h2 ch w' (hd ch w' x)
end
section
variable {P:Program} {o:Oper} {a:Act} {w:World} {x y:Operand} {ty:TypeId} {b off:Nat}
theorem run_load_mid (ho:o.op=.load ty x) (hx:a.eval x=.pointer (some ⟨b,off,none⟩)) (cs:List Value) (d:TypeDesc) (hc:w.rangeAt b off cs) (hu:P.underlying ty=some d) (hd:d.isRow=true) (hi:(P.info? ty).map (·.size)=some cs.length):
  (execOp a.eval o).run P w=.ok (.value (.agg cs.toArray)) w:=by
 unfold execOp;simp only [ho,hx,Sem.run_bind,Sem.run_pure,Result.andThen_ok,run_loadAt_mid w b off ty cs d hc hu hd hi]
theorem ev_load_mid (ho:o.op=.load ty x) (hx:a.eval x=.pointer (some ⟨b,off,none⟩)) (cs:List Value) (d:TypeDesc) (hc:w.rangeAt b off cs) (hu:P.underlying ty=some d) (hd:d.isRow=true) (hi:(P.info? ty).map (·.size)=some cs.length):
  ∀e∈(execOp a.eval o).events P w #[],∃ad,e.loc=.cell ad∧ad.block=b:=by
 intro e he;have hagg:(isAgg ty).run P w=.ok true w:=by
  unfold isAgg;rw [Sem.run_bind,run_underlying hu w];cases d<;>simp_all
 have haggE:(isAgg ty).events P w #[]=#[]:=by
  unfold isAgg;rw [Sem.events_bind,run_underlying hu w,events_underlying];cases d<;>simp_all
 cases hq:P.info? ty with
 |none=>simp [hq] at hi
 |some i=>
  have hs:i.size=cs.length:=by simpa [hq] using hi
  have hE:(execOp a.eval o).events P w #[]=(loadCells ⟨b,off,none⟩ cs.length).events P w #[]:=by
   unfold execOp;simp [ho,hx,Instr.loadAt,Instr.sureAddr,loadVar,Sem.events_bind,hagg,haggE,sizeOf,typeInfo,hq,hs]
  rw [hE] at he;rcases events_loadCellsFrom_at (P:=P) ⟨b,off,none⟩ (fun g=>g=b) rfl cs.length 0 #[] w #[] (fun j hj=>by
   rw [Nat.zero_add,Addr.add_mid,hc j cs[j] (List.getElem?_eq_getElem hj)];rfl) e he with h|⟨ad,h1,_,h2⟩
  ·simp at h
  ·exact ⟨ad,h1,h2⟩
theorem run_store_mid (ho:o.op=.store ty x y) (hx:a.eval x=.pointer (some ⟨b,off,none⟩)) (cells:Array Value) (hy:a.eval y=.agg cells) (ht:w.there b off cells.size) (hi:(P.info? ty).map (·.size)=some cells.size) (h1:cells.all (·.oneCell')=true):
  (execOp a.eval o).run P w=.ok .skip (w.setCells b off cells.toList):=by
 unfold execOp;simp only [ho,hx,hy,Sem.run_bind,Sem.run_pure,Result.andThen_ok,run_storeAt_mid w b off ty cells ht hi h1]
theorem ev_store_mid (ho:o.op=.store ty x y) (hx:a.eval x=.pointer (some ⟨b,off,none⟩)) (cells:Array Value) (hy:a.eval y=.agg cells) (m t:Nat) (f:Nat→Value) (hr:RowF w b m t f) (hm:off+cells.size≤m) (hi:(P.info? ty).map (·.size)=some cells.size) (h1:cells.all (·.oneCell')=true):
  ∀e∈(execOp a.eval o).events P w #[],∃ad,e.loc=.cell ad∧ad.block=b:=by
 intro e he;cases hq:P.info? ty with
 |none=>simp [hq] at hi
 |some i=>
  have hs:cells.size=i.size:=by simp [hq] at hi;omega
  have hE:(execOp a.eval o).events P w #[]=(storeCells ⟨b,off,none⟩ cells.toList).events P w #[]:=by
   unfold execOp;simp [ho,hx,hy,Instr.storeAt,Instr.sureAddr,storeVar,Sem.events_bind,sizeOf,typeInfo,hq,Value.cells,hs]
  rw [hE] at he;obtain ⟨cs,g1,g2,_⟩:=hr;rcases events_storeCells_at b off t cells.toList 0 cs w #[] g1 (by simp;omega) (fun v hv=>(Array.all_eq_true_iff_forall_mem.1 h1) v (by simpa using hv)) e he with h|h
  ·simp at h
  ·exact h
end
section
variable {L:Lot} {w0 w w':World} {rows:List Row} {i:Nat} {r:Row}
theorem Kn.doesAny (h:Kn L w0 rows w) (hi:rows[i]?=some r) (ht:Turn L L.send w w') (hch:w'.heap[L.c]?=w.heap[L.c]?) {es:Array Event} (hes:∀e∈es,∃ad,e.loc=.cell ad∧ad.block=r.g):L.D1 w w' es:=by
 have ho:=h.row i r hi;obtain ⟨o,hg⟩:=ho.rw.calm.there;obtain ⟨o',h1,h2,_⟩:=ht.at_ r.g o hg;refine ⟨ht,hch,fun e he=>?_⟩;obtain ⟨ad,hl,hb⟩:=hes e he;obtain ⟨loc,wr,sy⟩:=e;simp only at hl;subst hl;refine ⟨evOk_cell _ _ _,fun x hx _=>?_⟩;have:x=⟨.cell ad,wr,if sy then .atomic else .plain⟩:=by
  cases wr<;>cases sy<;>simp [MemAct.ofEvent,MemAct.touch?] at hx<;>exact hx.symm
 subst this;exact ⟨o',by rw [hb];exact h1,by rw [hb];exact fun hm=>ho.rw.calm.no o hg (L.tells_main r.g o' o (fun hc=>(h2 hc).symm) hm),fun _=>by rw [hb];exact L.tells_send r.g o o' h2 (ho.own o hg)⟩
def Row.puts (r:Row) (off:Nat) (vs:List Value):Row:={r with f:=fun j=>if off≤j∧j<off+vs.length then vs.getD (j-off) undef else r.f j}
theorem Kn.setCells:∀(vs:List Value) (off:Nat) (r:Row) (rows:List Row) (w:World),Kn L w0 rows w→rows[i]?=some r→Kn L w0 (rows.set i (r.puts off vs)) (w.setCells r.g off vs)∧Turn L L.send w (w.setCells r.g off vs)∧(w.setCells r.g off vs).heap[L.c]?=w.heap[L.c]?
 | [],off,r,rows,w,h,hi=>by
  refine ⟨Kn.congr (r:=r) ?_ hi rfl rfl rfl fun j _=>?_,.refl _,rfl⟩
  ·rw [rows_set_self hi];exact h
  ·show r.f j=if off≤j∧j<off+0 then _ else r.f j;rw [if_neg (by omega)]
 |v::vs,off,r,rows,w,h,hi=>by
  have h1:=h.set hi off v;obtain ⟨h2,h3,h4⟩:=Kn.setCells vs (off+1) (r.put off v) _ _ h1 (rows_set_get hi _);rw [List.set_set] at h2;refine ⟨Kn.congr h2 hi rfl rfl rfl fun j _=>?_,(h.turnSet hi off v).trans h3,h4.trans (h.chanSet hi off v)⟩;show (if off+1≤j∧j<off+1+vs.length then vs.getD (j-(off+1)) undef else upd r.f off v j)=if off≤j∧j<off+(v::vs).length then (v::vs).getD (j-off) undef else r.f j;simp only [List.length_cons];by_cases hj:off+1≤j∧j<off+1+vs.length
  ·rw [if_pos hj,if_pos (by omega),show j-off=(j-(off+1))+1 by omega];rfl
  ·rw [if_neg hj];by_cases hk:j=off
   ·subst hk;rw [upd_same,if_pos (by omega),Nat.sub_self];rfl
   ·rw [upd_ne _ _ hk,if_neg (by omega)]
end
section
variable {L:Lot} {w0:World} {rows:List Row} {ic g nb:Nat} {num:Int} {code:Value} {z:Nat→Int}
theorem forget_x (p:Option Addr) (cap:Nat) (hs:Still L w0 nb) (hnet:w0.cell? ⟨nb,0,none⟩=some (.slice p 0 cap)) (k:Int) (w:World) (hF:Kn L w0 rows w):
  CallsX Try.prog false L.R1 L.D1 87 #[.pointer (some ⟨nb,0,none⟩),.int .i64 k] w (fun _ w'=>Kn L w0 rows w') (fun _ _=>False):=by
 have hk:(base 87).kind≠.early:=by simp [base]
 refine CallsX.intro L.terms1 #[.pointer (some ⟨nb,0,none⟩),.int .i64 k,undef,undef,undef,undef,undef,undef,undef,undef,undef,undef,undef,undef,undef,undef,undef,undef,undef,undef,undef,undef,undef,undef,undef,undef,undef,undef,undef,undef,undef,undef,undef,undef,undef] Try.func87 rfl (by kernel_rfl) fun cl cs Stop Ret _=>?_;repeat refine .c1 L.terms1 rfl ?_
 refine .regionL L.terms1 [0,1,2,3,4,5] (by rfl) ?_;iterate 3 (refine .opV L.terms1 rfl (by rfl) hk ?_;try walk_nrm)
 refine .op rfl (by rfl) hk fun w1 hR K hK=>?_;replace hF:=hF.rely hR;clear hR;have hc:World.cell? _ ⟨nb,0,none⟩=some (.slice p 0 cap):=(hF.stillCell (a:=⟨nb,0,none⟩) hs).trans hnet;go_simp;try (unfold stored;go_simp)
 refine hK _ _ ⟨?_,?_⟩
 ·refine hF.stillLooks hs ?_;co_evs (exact ⟨_,rfl⟩)
 clear hK K;clear hc;try walk_nrm
 iterate 2 (refine .opV L.terms1 rfl (by rfl) hk ?_;try walk_nrm)
 repeat refine .c1 L.terms1 rfl ?_
 refine GoesW.loop L.terms1 ?_;repeat refine .c1 L.terms1 rfl ?_
 refine .regionL L.terms1 [0] (by rfl) ?_;refine .opV L.terms1 rfl (by rfl) hk ?_;try walk_nrm
 repeat refine .c1 L.terms1 rfl ?_
 refine GoesW.condF L.terms1 (by first|rfl|simp [Act.eval]) ?_;refine GoesW.exit L.terms1 rfl ?_;refine GoesW.fin L.terms1 ?_;exact Ret _ _ _ _ rfl (resultsW_none L.terms1 (by rfl) _) hF
def anewZ (z:Nat→Int) (j:Nat):Int:=if j=47 then IntKind.i64.wrap (z 47+1) else if 25≤j∧j<46 then z (j-21) else z j
def firstL (z:Nat→Int):List Value:=(List.range 21).map fun j=>.int .i64 (z (4+j))
theorem firstL_length (z:Nat→Int):(firstL z).length=21:=by simp [firstL]
theorem firstL_one (z:Nat→Int):∀v∈firstL z,v.oneCell'=true:=fun v hv=>by obtain ⟨y,_,rfl⟩:=List.mem_map.1 hv;rfl
theorem firstL_at (z:Nat→Int) {j:Nat} (hj:j<21):(firstL z).getD j undef=.int .i64 (z (4+j)):=by simp [firstL,hj]
theorem firstL_range {w:World} {net:Value} (hF:Kn L w0 rows w) (hi:rows[ic]?=some (cellRow g num net code z)):w.rangeAt g 4 (firstL z):=fun j v hv=>by
 unfold firstL at hv;rw [List.getElem?_map] at hv;obtain ⟨y,hy,rfl⟩:=Option.map_eq_some_iff.1 hv;have hj:j<21:=by
  have:=(List.getElem?_eq_some_iff.1 hy).1;simpa using this
 rw [List.getElem?_range hj] at hy;cases hy;exact hF.cellZ hi (j:=4+j) (by omega) (by omega)
def backZ (z:Nat→Int) (j:Nat):Int:=if 25≤j∧j<46 then z (j-21) else z j
theorem anew_row {net:Value} (j:Nat):((cellRow g num net code z).puts 25 (firstL z)).f j=cellV num net code (backZ z) j:=by
 show (if 25≤j∧j<25+(firstL z).length then (firstL z).getD (j-25) undef else cellV num net code z j)=_;rw [firstL_length];unfold cellV backZ;by_cases h:25≤j∧j<46
 ·rw [if_pos (by omega),firstL_at z (by omega),if_neg (by omega),if_neg (by omega),if_neg (by omega),if_pos h,show 4+(j-25)=j-21 by omega]
 ·rw [if_neg (by omega),if_neg h]
theorem anew_zset (z:Nat→Int) (j:Nat):zset (backZ z) 47 (IntKind.i64.wrap (z 47+1)) j=anewZ z j:=by
 unfold zset backZ anewZ;rfl
end
abbrev one1 (b t:Nat) (v:Value):Row:=⟨b,1,t,fun _=>v⟩
def brokeE (y k:Int):Value:=.agg #[.int .i64 2,.int .i64 y,.int .i64 k]
section
variable {L:Lot} {w0:World} {rows:List Row} {ic g nb p c y:Nat} {num:Int} {code:Value} {z:Nat→Int}
theorem KnL.l1 {ls:List Row} {w:World} {k b t:Nat} {v:Value} (h:KnL L w0 rows ls w) (hk:ls[k]?=some (one1 b t v)):w.cell? ⟨b,0,none⟩=some v:=h.lcell hk (j:=0) (show 0<1 by omega)
theorem KnL.new1 {ls:List Row} {w:World} (h:KnL L w0 rows ls w) {t:Nat} (ht:(t==L.ev)=false) (v:Value):KnL L w0 rows (ls++[one1 w.heap.size t v]) (w.alloc (.cells #[v] t)):=
 h.alloc #[v] t (fun _=>v) ht fun j hj=>by
  have:j=0:=by simp at hj;exact hj
  subst this;rfl
theorem KnL.set1 {ls:List Row} {w:World} {k b t:Nat} {v:Value} (h:KnL L w0 rows ls w) (hk:ls[k]?=some (one1 b t v)) (v':Value):KnL L w0 rows (ls.set k (one1 b t v')) (w.setCell ⟨b,0,none⟩ v'):=
 (h.lset hk 0 v').lcongr hk rfl rfl rfl fun j hj=>by
  have:j=0:=by have:j<1:=hj;omega
  subst this;rfl
abbrev runL (L:Lot) (g p c y:Nat) (v:Int):List Row:=[one1 p 124 (.pointer (some ⟨g,0,none⟩)),one1 c 186 (.chan (some L.c)),one1 y 2 (.int .i64 v)]
abbrev runD (p c y:Nat):Deferred:={target:=.fn (.func 81) #[.pointer (some ⟨p,0,none⟩),.pointer (some ⟨c,0,none⟩),.pointer (some ⟨y,0,none⟩)],args:=#[]}
theorem r1_quiet {Stop:Goroutine→World→Prop} {fr:Frame} {cs:List Frame} {ls:List Row} (hm:fr.mode=.returning) (hd:fr.defers=[runD p c y]) (w:World) (hF:KnL L w0 rows ls w)
  (h:∀w',KnL L w0 rows ls w'→GoesW Try.prog false L.R1 L.D1 Stop (G {fr with defers:=[]} cs) w'):GoesW Try.prog false L.R1 L.D1 Stop (G fr cs) w:=by
 have hk:(baseD 81).kind≠.early:=by simp [baseD]
 refine GoesW.unwind L.terms1 #[.pointer (some ⟨p,0,none⟩),.pointer (some ⟨c,0,none⟩),.pointer (some ⟨y,0,none⟩),undef,undef,undef,undef,undef,undef,undef,undef,undef,undef,undef,undef,undef,undef,undef,undef,undef] (by rw [hm];simp) hd Try.func81 (by rfl) rfl (by kernel_rfl) ?_;repeat refine .c1 L.terms1 rfl ?_
 refine .regionL L.terms1 [0,1,2,3,4,5,6] (by rfl) ?_;refine GoesW.recoverNone L.terms1 rfl (by rfl) rfl rfl hm ?_;try walk_nrm
 refine .op rfl (by rfl) hk fun w1 hR K hK=>?_;replace hF:=hF.rely hR;clear hR;go_simp;try (unfold stored;go_simp)
 refine hK _ _ ⟨?_,?_⟩
 ·rw [listed_nil (by rfl)];exact Terms.idle L.terms1 _
 clear hK K;try walk_nrm
 iterate 5 (refine .opV L.terms1 rfl (by rfl) hk ?_;try walk_nrm)
 repeat refine .c1 L.terms1 rfl ?_
 refine .regionL L.terms1 [0] (by rfl) ?_;refine .opV L.terms1 rfl (by rfl) hk ?_;try walk_nrm
 repeat refine .c1 L.terms1 rfl ?_
 refine GoesW.condF L.terms1 (by rfl) ?_;repeat refine .c1 L.terms1 rfl ?_
 refine GoesW.fin L.terms1 ?_;exact GoesW.leaveD L.terms1 Try.func81 rfl (resultsW_none L.terms1 (by rfl) _) (.inl ⟨hm,rfl⟩) (h _ hF)
end
structure Zok (n:Nat) (z:Nat→Int):Prop where
 lo:0≤z 45
 hi:z 45≤n
 first:z 24=0
theorem fetchedZ_ok {n:Nat} {z:Nat→Int} (h:Zok n z) (hz:z 45≠n):Zok n (fetchedZ z):=by
 have h1:=h.lo;have h2:=h.hi;refine ⟨?_,?_,?_⟩
 ·show 0≤zset _ 45 _ 45;rw [zset_same];omega
 ·show zset _ 45 _ 45≤_;rw [zset_same];omega
 ·show zset (zset z 46 _) 45 _ 24=0;rw [zset_ne _ _ (by omega),zset_ne _ _ (by omega)];exact h.first
theorem Zok.set {n:Nat} {z:Nat→Int} (h:Zok n z) {j:Nat} (h1:25≤j) (h2:j≠45) (v:Int):Zok n (zset z j v):=
 ⟨by rw [zset_ne _ _ (by omega)];exact h.lo,by rw [zset_ne _ _ (by omega)];exact h.hi,by rw [zset_ne _ _ (by omega)];exact h.first⟩
theorem Zok.jump {n:Nat} {z:Nat→Int} (h:Zok n z) {v:Int} (h1:0≤v) (h2:v≤n):Zok n (zset z 45 v):=
 ⟨by rw [zset_same];exact h1,by rw [zset_same];exact h2,by rw [zset_ne _ _ (by omega)];exact h.first⟩
theorem anewZ_ok {n:Nat} {z:Nat→Int} (h:z 24=0):Zok n (anewZ z):=by
 have e:anewZ z 45=0:=by
  have:anewZ z 45=z 24:=rfl;rw [this];exact h
 exact ⟨by rw [e];omega,by rw [e];omega,h⟩
def closedE (k y:Int):Value:=.agg #[.int .i64 3,.int .i64 k,.int .i64 y]
end Go.Proofs.Ytdoghgnifkgfdaa.Mute
