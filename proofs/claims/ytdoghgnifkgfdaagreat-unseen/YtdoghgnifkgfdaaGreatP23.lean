import Derived.Conc.DeferLaws
import Derived.Test.YtdoghgnifkgfdaaGreatP19
import Derived.Test.YtdoghgnifkgfdaaGreatP22
set_option maxRecDepth 100000
set_option maxHeartbeats 16000000
namespace Go.Proofs.YtdoghgnifkgfdaaGreat.Mute
open Go Go.Conc Go.RowKit
theorem Turn.drew {L:Lot} {mine:Nat→Obj→Prop} (w:World):Turn L mine w {w with drawn:=w.drawn+1}:=.draw w _
section
variable {P:Program} {main:Bool} {R:World→World→Prop} {D:World→World→Array Event→Prop} {Stop:Goroutine→World→Prop}
theorem Y75 {fr c:Frame} {cs:List Frame} {ch:List PanicEntry} {w:World} {fn:Func} (hm:fr.mode=.panicking ch) (hd:fr.defers=[]) (hf:P.funcs[fr.fn]?=some fn):stepG P main (G fr (c::cs)) w=.go (G (c.raise ch) cs) w:=by
 have hc:fr.catches P=false:=by simp [Frame.catches,hf]
 rw [Z6 (by rw [hm];simp)];unfold unwind;simp only [hd,hm,hc];rfl
theorem Y1.regionL (T:Terms R D) {b:Frame} {a:Act} {k:List Item} {cs:List Frame} {w:World} {id:Nat} {ops:Array Oper} (l:List Nat) (hl:List.range ops.size=l) (h:Y1 P main R D Stop (G (b.at a (.inRegion ops l::k)) cs) w):Y1 P main R D Stop (G (b.at a (.code (.region id ops false)::k)) cs) w:=.region T (by rw [hl];exact h)
theorem Y1.condT (T:Terms R D) {b:Frame} {a:Act} {k:List Item} {cs:List Frame} {w:World} {c:Operand} {x y:Code} (e:a.eval c=.bool true) (h:Y1 P main R D Stop (G (b.at a (.code x::k)) cs) w):Y1 P main R D Stop (G (b.at a (.code (.cond c x y)::k)) cs) w:=.cond T e h
theorem Y1.condF (T:Terms R D) {b:Frame} {a:Act} {k:List Item} {cs:List Frame} {w:World} {c:Operand} {x y:Code} (e:a.eval c=.bool false) (h:Y1 P main R D Stop (G (b.at a (.code y::k)) cs) w):Y1 P main R D Stop (G (b.at a (.code (.cond c x y)::k)) cs) w:=.cond T e h
theorem Y1.drawnN (T:Terms R D) (hd:LetsDraw D) {b:Frame} {k:List Item} {cs:List Frame} {id:Nat} {a:Act} {w:World} {ops:Array Oper} {Q:Act→World→Prop} {Die:List PanicEntry→World→Prop} {S:World→Prop} (n:Nat) (hn:ops.size=n) (hk:b.kind≠.early) (hm:P.follows .mixedOrders=true)
  (hQ:∀a' w',a'.defers=a.defers→Q a' w'→Y1 P main R D Stop (G (b.at a' k) cs) w') (hD:∀ch w' fr,Die ch w'→fr.fn=b.fn→fr.kind=b.kind→fr.defers=a.defers→fr.mode=.panicking ch→Y1 P main R D Stop (G fr cs) w')
  (h:∀w₁,R w w₁→AnyD P main R D b.fn .any ops Q Die (fun _ _ _=>False) S n (Array.replicate n false) a {w₁ with drawn:=w₁.drawn+1}):Y1 P main R D Stop (G (b.at a (.code (.region id ops true)::k)) cs) w:=
 .drawn (Tail:=fun _ _ _=>False) T hd hk hm hQ hD (fun _ _ _ _ h=>h.elim) (by rw [hn];exact h)
theorem Y1.drawnT (T:Terms R D) (hd:LetsDraw D) {b:Frame} {k:List Item} {cs:List Frame} {id:Nat} {a:Act} {w:World} {ops:Array Oper} {S:World→Prop} (n:Nat) (hn:ops.size=n) (hk:b.kind≠.early) (hm:P.follows .mixedOrders=true)
  (h:∀w₁,R w w₁→AnyD P main R D b.fn .any ops (fun a' w'=>Y1 P main R D Stop (G (b.at a' k) cs) w') (fun _ _=>False) (fun i a' w'=>a'.defers=a.defers∧Y1 P main R D Stop (G (b.at a' (.inRegion ops [i]::k)) cs) w') S n (Array.replicate n false) a {w₁ with drawn:=w₁.drawn+1}):Y1 P main R D Stop (G (b.at a (.code (.region id ops true)::k)) cs) w:=
 .drawn (Die:=fun _ _=>False) (Tail:=fun i a' w'=>a'.defers=a.defers∧Y1 P main R D Stop (G (b.at a' (.inRegion ops [i]::k)) cs) w') T hd hk hm (fun _ _ _ h=>h) (fun _ _ _ h=>h.elim) (fun _ _ _ _ h=>h.2) (by rw [hn];exact h)
theorem Y1.leave (T:Terms R D) {f:FuncId} {fn:Func} {a:Act} {todo:List Item} {c:Frame} {cs:List Frame} {w:World} {v:Value} (hf:P.funcs[f]?=some fn) (hd:a.defers=[]) (hr:ZK P R D f fn a.tmps w v) (h:Y1 P main R D Stop (G (c.finish v) cs) w):
  Y1 P main R D Stop (G {(base f).at a todo with mode:=.returning} (c::cs)) w:=
 .one rfl fun w₁ h₁=>⟨_,_,_,Y6m (b:=base f) rfl hd hf (hr w₁ h₁).1,(hr w₁ h₁).2,h.rely T.trans h₁⟩
theorem Y1.up (T:Terms R D) {fr c:Frame} {cs:List Frame} {ch:List PanicEntry} {w:World} {fn:Func} (hm:fr.mode=.panicking ch) (hd:fr.defers=[]) (hf:P.funcs[fr.fn]?=some fn) (h:Y1 P main R D Stop (G (c.raise ch) cs) w):Y1 P main R D Stop (G fr (c::cs)) w:=
 .ctl T rfl (fun _=>Y75 hm hd hf) h
theorem Yl.intro (T:Terms R D) {f:FuncId} {fn:Func} {c:Code} {args:Array Value} {w:World} (tmps:Array Value) {Post:Value→World→Prop} {Die:List PanicEntry→World→Prop} (hf:P.funcs[f]?=some fn) (hb:fn.body=some c) (ht:args++Array.replicate (fn.ntmps-args.size) undef=tmps)
  (h:∀(cl:Frame) (cs:List Frame) (Stop:Goroutine→World→Prop),
   (∀a todo w' v,a.defers=[]→ZK P R D f fn a.tmps w' v→Post v w'→Y1 P main R D Stop (G {(base f).at a todo with mode:=.returning} (cl::cs)) w')→
   (∀fr ch w',fr.fn=f→fr.defers=[]→fr.mode=.panicking ch→Die ch w'→Y1 P main R D Stop (G fr (cl::cs)) w')→
   Y1 P main R D Stop (G ((base f).at {tmps:=tmps,defers:=[]} [.code c]) (cl::cs)) w):Yl P main R D f args w Post Die:=fun cl cs Stop hp hd=>by
 rw [enter_at args hf hb,ht];exact h cl cs Stop (fun a todo w' v h1 h2 h3=>.leave T hf h1 h2 (hp v w' h3)) fun fr ch w' h1 h2 h3 h4=>.up T h3 h2 (by rw [h1];exact hf) (hd ch w' h4)
theorem Xj (T:Terms R D) {f:FuncId} {fn:Func} {t:Tmp} {w:World} (h:fn.results=#[.tmp t]) (tmps:Array Value):ZK P R D f fn tmps w (tmps.getD t undef):=fun w₁ _=>by
 obtain ⟨h1,h2⟩:=resultsC_tmp (P:=P) h tmps w₁;rw [h2,seen_none];exact ⟨h1,T.idle _⟩
theorem Y0L (T:Terms R D) {f:FuncId} {fn:Func} {w:World} (h:fn.results=#[]) (tmps:Array Value):ZK P R D f fn tmps w (.tuple #[]):=fun w₁ _=>by
 obtain ⟨h1,h2⟩:=resultsC_none (P:=P) h tmps w₁;rw [h2,seen_none];exact ⟨h1,T.idle _⟩
theorem Y1.callX (T:Terms R D) {b:Frame} {a:Act} {k:List Item} {cs:List Frame} {w:World} {ops:Array Oper} {i:Nat} {rest:List Nat} {o:Oper} {f:FuncId} {fn:Func} {c:Code} {args:Array Operand} {ats:Array TypeId} {Post:Value→World→Prop} {Die:List PanicEntry→World→Prop}
  (ho:ops[i]?=some o) (hw:Region.wanted o (yielded ops a.tmps)=true) (hk:b.kind≠.early) (hop:o.op=.call {callee:=.value (.func f),args,argTypes:=ats})
  (hf : P.funcs[f]? = some fn) (hname : (fn.name == "runtime.NumGoroutine") = false) (hb : fn.body = some c) (vs : Array Value) (hv : args.map a.eval = vs) (hc : Yl P main R D f vs w Post Die)
  (h:∀v w',Post v w'→Y1 P main R D Stop (G (b.at (a.put o.dst v) (.inRegion ops rest::k)) cs) w')
  (hd:∀ch w' fr,Die ch w'→fr.fn=b.fn→fr.kind=b.kind→fr.defers=a.defers→fr.mode=.panicking ch→Y1 P main R D Stop (G fr cs) w'):
  Y1 P main R D Stop (G (b.at a (.inRegion ops (i::rest)::k)) cs) w:=by
 refine Y1.enter T ho hw hk hop hf hname hb ?_;rw [←enter_at _ hf hb,hv];refine hc _ cs Stop (fun v w' x=>?_) fun ch w' x=>hd ch w' _ x rfl rfl rfl rfl;rw [Frame.finish_at,ho];exact h v w' x
theorem Y1.panic {b:Frame} {a:Act} {k:List Item} {cs:List Frame} {w:World} {ops:Array Oper} {i:Nat} {rest:List Nat} {o:Oper} {v:Value} (T:Terms R D) (ho:ops[i]?=some o) (hw:Region.wanted o (yielded ops a.tmps)=true) (hk:b.kind≠.early)
  (hr:∀w,(execOp a.eval o).run P w=.halt (.panic v) w) (he:∀w,(execOp a.eval o).events P w #[]=#[])
  (h:∀fr,fr.fn=b.fn→fr.kind=b.kind→fr.defers=a.defers→fr.mode=.panicking [{v,recovered:=false}]→Y1 P main R D Stop (G fr cs) w):Y1 P main R D Stop (G (b.at a (.inRegion ops (i::rest)::k)) cs) w:=by
 have hk':(b.kind==CallKind.early)=false:=by simpa using hk
 refine .ctl T rfl (g':=G ((b.at a (.inRegion ops (i::rest)::k)).raise [{v,recovered:=false}]) cs) (fun w₁=>?_) (h _ rfl rfl rfl rfl);rw [stepG_oper ho hw];simp [stepG.apply,hr,he,G,Frame.at,Frame.raise,hk',GStep.after,seen_none]
end
def zset (z:Nat→Int) (j:Nat) (v:Int) (i:Nat):Int:=if i=j then v else z i
theorem Z7 (z:Nat→Int) (j:Nat) (v:Int):zset z j v j=v:=if_pos rfl
theorem YQ (z:Nat→Int) {i j:Nat} (v:Int) (h:i≠j):zset z j v i=z i:=if_neg h
theorem Y53 (num:Int) (net code:Value) (z:Nat→Int) {j:Nat} (hj:3≤j) (v:Int) (i:Nat):upd (cellV num net code z) j (.int .i64 v) i=cellV num net code (zset z j v) i:=by
 unfold upd cellV zset;by_cases h:i=j
 ·subst h;rw [if_pos rfl,if_neg (by omega),if_neg (by omega),if_neg (by omega),if_pos rfl]
 ·rw [if_neg h,if_neg h]
theorem Y89 (num:Int) (net code:Value) (z:Nat→Int) {j:Nat} (hj:3≤j):cellV num net code z j=.int .i64 (z j):=by
 unfold cellV;rw [if_neg (by omega),if_neg (by omega),if_neg (by omega)]
abbrev Y5 (g:Nat) (num:Int) (net code:Value) (z:Nat→Int):Row:=⟨g,48,186,cellV num net code z⟩
section
variable {L:Lot} {w0 w:World} {rows:List Row} {ic g:Nat} {num:Int} {net code:Value} {z:Nat→Int}
theorem Kn.cellZ (h:Kn L w0 rows w) (hi:rows[ic]?=some (Y5 g num net code z)) {j:Nat} (h3:3≤j) (hj:j<48):w.cell? ⟨g,j,none⟩=some (.int .i64 (z j)):=by
 have:=h.cell hi (j:=j) hj;rw [this];exact congrArg some (Y89 num net code z h3)
theorem Kn.setZ (h:Kn L w0 rows w) (hi:rows[ic]?=some (Y5 g num net code z)) {j:Nat} (h3:3≤j) (v:Int):Kn L w0 (rows.set ic (Y5 g num net code (zset z j v))) (w.setCell ⟨g,j,none⟩ (.int .i64 v)):=
 (h.set hi j (.int .i64 v)).congr hi rfl rfl rfl fun i _=>Y53 num net code z h3 v i
end
def ctl1:List Item→Option (List Item)
 |.code (.seq x y)::k=>some (.code x::.code y::k)
 |.code (.block id c)::k=>some (.code c::.inBlock id::k)
 |.code .skip::k=>some k
 |.inBlock _::k=>some k
 |.inRegion _ []::k=>some k
 |_=>none
section
variable {P:Program} {main:Bool} {R:World→World→Prop} {D:World→World→Array Event→Prop} {Stop:Goroutine→World→Prop} {b:Frame} {a:Act} {k k':List Item} {cs:List Frame} {w:World}
theorem Y1.c1 (T:Terms R D) (e:ctl1 k=some k') (h:Y1 P main R D Stop (G (b.at a k') cs) w):Y1 P main R D Stop (G (b.at a k) cs) w:=by
 unfold ctl1 at e;split at e
 ·cases e;exact .seq T h
 ·cases e;exact .block T h
 ·cases e;exact .skip T h
 ·cases e;exact .inBlock T h
 ·cases e;exact .regionEnd T h
 ·cases e
theorem Y1.opV (T:Terms R D) {ops:Array Oper} {i:Nat} {rest:List Nat} {o:Oper} {v:Value} (ho:ops[i]?=some o) (hw:Region.wanted o (yielded ops a.tmps)=true) (hk:b.kind≠.early)
  (h:Y1 P main R D Stop (G (b.at (a.put o.dst v) (.inRegion ops rest::k)) cs) w)
  (hv:∀w₁,(execOp a.eval o).run P w₁=.ok (.value v) w₁∧(execOp a.eval o).events P w₁ #[]=#[]:=by exact fun _=>⟨run_eq_of (by intro K hK;go_simp;exact hK),by simp [go_sem]⟩):
  Y1 P main R D Stop (G (b.at a (.inRegion ops (i::rest)::k)) cs) w:=by
 refine .op ho hw hk fun w₁ hR K hK=>?_;rw [(hv w₁).1];refine hK _ _ ⟨?_,h.rely T.trans hR⟩;rw [listed_nil (hv w₁).2];exact T.idle _
theorem Y4 (T:Terms R D) (i:Nat) {fn:FuncId} {md:Region.Mode} {ops:Array Oper} {S:World→Prop} {oi:Oper} {v:Value} {fuel:Nat} {lst:Array Bool} {a:Act} (hSR:∀x y,S x→R x y→S y) (hS:S w)
  (h:AnyD P main R D fn md ops (fun a' w'=>Y1 P main R D Stop (G (b.at a' k) cs) w') (fun _ _=>False) (fun _ _ _=>False) S fuel (lst.setIfInBounds i true) (a.put oi.dst v) w)
  (hi:ops[i]?=some oi:=by rfl) (hs:Region.noSelect ops=true:=by first|kernel_rfl|decide +kernel) (hdn:Y05 md ops lst=true:=by first|kernel_rfl|decide +kernel) (hf:Region.free md ops lst i=true:=by first|kernel_rfl|decide +kernel) (hr:(Region.ready md ops lst).contains i=true:=by first|kernel_rfl|decide +kernel)
  (hy:Region.wanted oi (yielded ops a.tmps)=true∧∀w,(execOp a.eval oi).run P w=.ok (.value v) w∧(execOp a.eval oi).events P w #[]=#[]:=by exact ⟨by rfl,fun _=>⟨run_eq_of (by intro K hK;go_simp;exact hK),by simp [go_sem]⟩⟩):
  AnyD P main R D fn md ops (fun a' w'=>Y1 P main R D Stop (G (b.at a' k) cs) w') (fun _ _=>False) (fun _ _ _=>False) S (fuel+1) lst a w:=
 Yq (Q:=fun a' w'=>Y1 P main R D Stop (G (b.at a' k) cs) w') (Die:=fun _ _=>False) (Tail:=fun _ _ _=>False) T (fun _ _ _ _ h _=>h.elim) hSR (fun _ _ _ h r=>Y1.rely T.trans h r) hi hs hdn hf hr (.inl ⟨hy.1,fun w _=>⟨(hy.2 w).1,by rw [listed_nil (hy.2 w).2];exact T.idle _⟩⟩) hS h
theorem Ye (T:Terms R D) (i:Nat) {fn:FuncId} {md:Region.Mode} {ops:Array Oper} {S:World→Prop} {oi:Oper} {v:Value} {fuel:Nat} {lst:Array Bool} {a:Act} (hi:ops[i]?=some oi) (hSR:∀x y,S x→R x y→S y) (hS:S w)
  (h:AnyD P main R D fn md ops (fun a' w'=>Y1 P main R D Stop (G (b.at a' k) cs) w') (fun _ _=>False) (fun _ _ _=>False) S fuel (lst.setIfInBounds i true) (a.put oi.dst v) w)
  (hy:∀w,S w→(execOp a.eval oi).run P w=.ok (.value v) w∧D w w (listed P fn a oi w))
  (hs:Region.noSelect ops=true:=by first|kernel_rfl|decide +kernel) (hdn:Y05 md ops lst=true:=by first|kernel_rfl|decide +kernel) (hf:Region.free md ops lst i=true:=by first|kernel_rfl|decide +kernel) (hr:(Region.ready md ops lst).contains i=true:=by first|kernel_rfl|decide +kernel) (hwt:Region.wanted oi (yielded ops a.tmps)=true:=by rfl):
  AnyD P main R D fn md ops (fun a' w'=>Y1 P main R D Stop (G (b.at a' k) cs) w') (fun _ _=>False) (fun _ _ _=>False) S (fuel+1) lst a w:=
 Yq (Q:=fun a' w'=>Y1 P main R D Stop (G (b.at a' k) cs) w') (Die:=fun _ _=>False) (Tail:=fun _ _ _=>False) T (fun _ _ _ _ h _=>h.elim) hSR (fun _ _ _ h r=>Y1.rely T.trans h r) hi hs hdn hf hr (.inl ⟨hwt,hy⟩) hS h
end
def KnL (L:Lot) (w0:World) (rows ls:List Row) (w:World):Prop:=Kn L w0 (rows++ls) w
section
variable {L:Lot} {w0 w w':World} {rows ls:List Row} {i k ic g j:Nat} {r:Row} {num:Int} {net code:Value} {z:Nat→Int}
theorem Kn.lay (h:Kn L w0 rows w):KnL L w0 rows [] w:=by unfold KnL;rw [List.append_nil];exact h
theorem KnL.drop (h:KnL L w0 rows ls w):Kn L w0 rows w:=Kn.drop h
theorem KnL.rely (h:KnL L w0 rows ls w) (hr:L.R1 w w'):KnL L w0 rows ls w':=Kn.rely h hr
theorem KnL.cell (h:KnL L w0 rows ls w) (hi:rows[i]?=some r) (hj:j<r.m):w.cell? ⟨r.g,j,none⟩=some (r.f j):=Kn.cell h (J2 hi) hj
theorem KnL.cellZ (h:KnL L w0 rows ls w) (hi:rows[ic]?=some (Y5 g num net code z)) (h3:3≤j) (hj:j<48):w.cell? ⟨g,j,none⟩=some (.int .i64 (z j)):=Kn.cellZ h (J2 hi) h3 hj
theorem KnL.frozen (h:KnL L w0 rows ls w) (hi:rows[i]?=some r) (j:Nat):w.frozen? ⟨r.g,j,none⟩=false:=Kn.frozen h (J2 hi) j
theorem KnL.looks (h:KnL L w0 rows ls w) (hi:rows[i]?=some r) {es:Array Event} (hes:∀e∈es,∃j,e=⟨.cell ⟨r.g,j,none⟩,false,false⟩):L.D1 w w es:=Kn.looks h (J2 hi) hes
theorem KnL.does (h:KnL L w0 rows ls w) (hi:rows[i]?=some r) (j:Nat) (v:Value) {es:Array Event} (hes:∀e∈es,e=⟨.cell ⟨r.g,j,none⟩,true,false⟩):L.D1 w (w.setCell ⟨r.g,j,none⟩ v) es:=Kn.does h (J2 hi) j v hes
theorem Y2q (hi:rows[i]?=some r) (r':Row):(rows++ls).set i r'=rows.set i r'++ls:=List.set_append_left i r' (List.getElem?_eq_some_iff.1 hi).1
theorem KnL.setZ (h:KnL L w0 rows ls w) (hi:rows[ic]?=some (Y5 g num net code z)) (h3:3≤j) (v:Int):KnL L w0 (rows.set ic (Y5 g num net code (zset z j v))) ls (w.setCell ⟨g,j,none⟩ (.int .i64 v)):=by
 have:=Kn.setZ h (J2 hi) h3 v;rw [Y2q hi] at this;exact this
theorem Xu (hk:ls[k]?=some r):(rows++ls)[rows.length+k]?=some r:=by
 rw [List.getElem?_append_right (by omega),Nat.add_sub_cancel_left];exact hk
theorem KnL.lcell (h:KnL L w0 rows ls w) (hk:ls[k]?=some r) (hj:j<r.m):w.cell? ⟨r.g,j,none⟩=some (r.f j):=Kn.cell h (Xu hk) hj
theorem KnL.lfrozen (h:KnL L w0 rows ls w) (hk:ls[k]?=some r) (j:Nat):w.frozen? ⟨r.g,j,none⟩=false:=Kn.frozen h (Xu hk) j
theorem KnL.llooks (h:KnL L w0 rows ls w) (hk:ls[k]?=some r) {es:Array Event} (hes:∀e∈es,∃j,e=⟨.cell ⟨r.g,j,none⟩,false,false⟩):L.D1 w w es:=Kn.looks h (Xu hk) hes
theorem KnL.ldoes (h:KnL L w0 rows ls w) (hk:ls[k]?=some r) (j:Nat) (v:Value) {es:Array Event} (hes:∀e∈es,e=⟨.cell ⟨r.g,j,none⟩,true,false⟩):L.D1 w (w.setCell ⟨r.g,j,none⟩ v) es:=Kn.does h (Xu hk) j v hes
theorem KnL.lset (h:KnL L w0 rows ls w) (hk:ls[k]?=some r) (j:Nat) (v:Value):KnL L w0 rows (ls.set k (r.put j v)) (w.setCell ⟨r.g,j,none⟩ v):=by
 have:=Kn.set h (Xu hk) j v;rw [List.set_append_right _ _ (by omega),Nat.add_sub_cancel_left] at this;exact this
theorem KnL.alloc (h:KnL L w0 rows ls w) (cs:Array Value) (t:Nat) (f:Nat→Value) (ht:(t==L.ev)=false) (hf:∀j,j<cs.size→cs[j]?=some (f j)):KnL L w0 rows (ls++[⟨w.heap.size,cs.size,t,f⟩]) (w.alloc (.cells cs t)):=by
 have:=Kn.alloc h cs t f ht hf;rw [List.append_assoc] at this;exact this
theorem KnL.doesAlloc (h:KnL L w0 rows ls w) (o:Obj) {es:Array Event} (hes:∀e∈es,False):L.D1 w (w.alloc o) es:=Kn.doesAlloc h o hes
theorem KnL.stillCell (h:KnL L w0 rows ls w) {a:Addr} (hs:Still L w0 a.block):w.cell? a=w0.cell? a:=Kn.stillCell h hs
theorem KnL.stillLooks (h:KnL L w0 rows ls w) {b:Nat} (hs:Still L w0 b) {es:Array Event} (hes:∀e∈es,∃j,e=⟨.cell ⟨b,j,none⟩,false,false⟩):L.D1 w w es:=Kn.stillLooks h hs hes
theorem KnL.less {ex:List Row} (h:KnL L w0 rows (ls++ex) w):KnL L w0 rows ls w:=by
 unfold KnL at *;rw [←List.append_assoc] at h;exact h.drop
theorem Y4p (hi:rows[i]?=some r):rows.set i r=rows:=by
 apply List.ext_getElem?;intro n;by_cases h:n=i
 ·subst h;rw [YN hi,hi]
 ·rw [ZZ h]
theorem Kn.start (h:Kn L w0 rows w) (hi:rows[i]?=some r):KnL L w0 (rows.set i r) [] w:=by
 rw [Y4p hi];exact h.lay
theorem at2 {q:Row} (hi:rows[i]?=some q) (r:Row):(rows.set i r++ls)[i]?=some r:=J2 (YN hi r)
theorem KnL.back {q r':Row} (hi:rows[i]?=some q) (h:Kn L w0 ((rows.set i r++ls).set i r') w):KnL L w0 (rows.set i r') ls w:=by
 rw [Y2q (YN hi r),List.set_set] at h;exact h
theorem KnL.cz {q:Row} (hi:rows[ic]?=some q) (h:KnL L w0 (rows.set ic (Y5 g num net code z)) ls w) (h3:3≤j) (hj:j<48):w.cell? ⟨g,j,none⟩=some (.int .i64 (z j)):=h.cellZ (YN hi _) h3 hj
theorem KnL.cfz {q:Row} (hi:rows[ic]?=some q) (h:KnL L w0 (rows.set ic (Y5 g num net code z)) ls w) (j:Nat):w.frozen? ⟨g,j,none⟩=false:=h.frozen (YN hi _) j
theorem KnL.clooks {q:Row} (hi:rows[ic]?=some q) (h:KnL L w0 (rows.set ic (Y5 g num net code z)) ls w) {es:Array Event} (hes:∀e∈es,∃j,e=⟨.cell ⟨g,j,none⟩,false,false⟩):L.D1 w w es:=h.looks (YN hi _) hes
theorem KnL.cdoes {q:Row} (hi:rows[ic]?=some q) (h:KnL L w0 (rows.set ic (Y5 g num net code z)) ls w) (j:Nat) (v:Value) {es:Array Event} (hes:∀e∈es,e=⟨.cell ⟨g,j,none⟩,true,false⟩):L.D1 w (w.setCell ⟨g,j,none⟩ v) es:=h.does (YN hi _) j v hes
theorem KnL.cset {q:Row} (hi:rows[ic]?=some q) (h:KnL L w0 (rows.set ic (Y5 g num net code z)) ls w) (h3:3≤j) (v:Int):KnL L w0 (rows.set ic (Y5 g num net code (zset z j v))) ls (w.setCell ⟨g,j,none⟩ (.int .i64 v)):=by
 have:=h.setZ (YN hi _) h3 v;rw [List.set_set] at this;exact this
def ins4 (a b c d:Int) (j:Nat):Value:=.int .i64 (if j=0 then a else if j=1 then b else if j=2 then c else d)
abbrev Yt (g:Nat) (a b c d:Int):Row:=⟨g,4,97,ins4 a b c d⟩
theorem KnL.lins (h:KnL L w0 rows ls w) {a b c d:Int} (hk:ls[k]?=some (Yt g a b c d)):w.cell? ⟨g,0,none⟩=some (.int .i64 a)∧w.cell? ⟨g,1,none⟩=some (.int .i64 b)∧w.cell? ⟨g,2,none⟩=some (.int .i64 c)∧w.cell? ⟨g,3,none⟩=some (.int .i64 d):=
 ⟨h.lcell hk (j:=0) (show 0<4 by omega),h.lcell hk (j:=1) (show 1<4 by omega),h.lcell hk (j:=2) (show 2<4 by omega),h.lcell hk (j:=3) (show 3<4 by omega)⟩
theorem KnL.linsFz (h:KnL L w0 rows ls w) {a b c d:Int} (hk:ls[k]?=some (Yt g a b c d)):w.frozen? ⟨g,0,none⟩=false∧w.frozen? ⟨g,1,none⟩=false∧w.frozen? ⟨g,2,none⟩=false∧w.frozen? ⟨g,3,none⟩=false:=
 ⟨h.lfrozen hk 0,h.lfrozen hk 1,h.lfrozen hk 2,h.lfrozen hk 3⟩
theorem KnL.newIns (h:KnL L w0 rows ls w) (ht:((97:Nat)==L.ev)=false) (a b c d:Int):KnL L w0 rows (ls++[Yt w.heap.size a b c d]) (w.alloc (.cells #[.int .i64 a,.int .i64 b,.int .i64 c,.int .i64 d] 97)):=
 h.alloc #[.int .i64 a,.int .i64 b,.int .i64 c,.int .i64 d] 97 (ins4 a b c d) ht fun j hj=>by
  have:j=0∨j=1∨j=2∨j=3:=by simp at hj;omega
  rcases this with rfl|rfl|rfl|rfl<;>rfl
theorem KnL.lcongr (h:KnL L w0 rows (ls.set k r) w) {r' q:Row} (hk:ls[k]?=some q) (hg:r'.g=r.g) (hm:r'.m=r.m) (ht:r'.t=r.t) (hf:∀j,j<r.m→r.f j=r'.f j):KnL L w0 rows (ls.set k r') w:=by
 have e:∀x:Row,rows++ls.set k x=(rows++ls).set (rows.length+k) x:=fun x=>by rw [List.set_append_right _ _ (by omega),Nat.add_sub_cancel_left]
 unfold KnL at *;rw [e] at h ⊢;exact h.congr (Xu hk) hg hm ht hf
theorem KnL.lsetIns (h:KnL L w0 rows ls w) {a b c d a' b' c' d':Int} (hk:ls[k]?=some (Yt g a b c d)):
  KnL L w0 rows (ls.set k (Yt g a' b' c' d')) ((((w.setCell ⟨g,0,none⟩ (.int .i64 a')).setCell ⟨g,1,none⟩ (.int .i64 b')).setCell ⟨g,2,none⟩ (.int .i64 c')).setCell ⟨g,3,none⟩ (.int .i64 d')):=by
 have hl:=(List.getElem?_eq_some_iff.1 hk).1;have s0:=h.lset hk 0 (.int .i64 a');have s1:=s0.lset (YN hk _) 1 (.int .i64 b');have s2:=s1.lset (YN (YN hk _) _) 2 (.int .i64 c');have s3:=s2.lset (YN (YN (YN hk _) _) _) 3 (.int .i64 d');simp only [List.set_set] at s3;refine s3.lcongr hk rfl rfl rfl fun j hj=>?_;have:j=0∨j=1∨j=2∨j=3:=by have:j<4:=hj;omega
 rcases this with rfl|rfl|rfl|rfl<;>rfl
theorem KnL.ldoesIns (h:KnL L w0 rows ls w) {a b c d:Int} (a' b' c' d':Int) (hk:ls[k]?=some (Yt g a b c d)) {es:Array Event} (hes:∀e∈es,∃j wr,e=⟨.cell ⟨g,j,none⟩,wr,false⟩):
  L.D1 w ((((w.setCell ⟨g,0,none⟩ (.int .i64 a')).setCell ⟨g,1,none⟩ (.int .i64 b')).setCell ⟨g,2,none⟩ (.int .i64 c')).setCell ⟨g,3,none⟩ (.int .i64 d')) es:=by
 have s0:=h.lset hk 0 (.int .i64 a');have k0:=YN hk ((Yt g a b c d).put 0 (.int .i64 a'));have s1:=s0.lset k0 1 (.int .i64 b');have k1:=YN k0 (((Yt g a b c d).put 0 (.int .i64 a')).put 1 (.int .i64 b'));have s2:=s1.lset k1 2 (.int .i64 c');have k2:=YN k1 ((((Yt g a b c d).put 0 (.int .i64 a')).put 1 (.int .i64 b')).put 2 (.int .i64 c'));refine Kn.doesAll h (Xu hk) ?_ ?_ hes
 ·exact (((Kn.turnSet h (Xu hk) 0 _).trans (Kn.turnSet s0 (Xu k0) 1 _)).trans (Kn.turnSet s1 (Xu k1) 2 _)).trans (Kn.turnSet s2 (Xu k2) 3 _)
 ·exact (Kn.chanSet s2 (Xu k2) 3 _).trans ((Kn.chanSet s1 (Xu k1) 2 _).trans ((Kn.chanSet s0 (Xu k0) 1 _).trans (Kn.chanSet h (Xu hk) 0 _)))
end
end Go.Proofs.YtdoghgnifkgfdaaGreat.Mute
