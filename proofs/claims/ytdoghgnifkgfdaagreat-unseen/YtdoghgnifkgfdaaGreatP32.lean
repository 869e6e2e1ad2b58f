import Derived.Test.YtdoghgnifkgfdaaGreatP31
set_option maxRecDepth 100000
set_option maxHeartbeats 16000000
namespace Go.Proofs.YtdoghgnifkgfdaaGreat.Mute
open Go Go.Conc Go.RowKit
section
variable {L:Lot} {w0:World} {rows:List Row} {ic iq g nb kk cq:Nat} {num:Int} {code:Value} {z:Nat→Int} {rq:Row}
theorem Yeo {w':World} {tmp:Row} {i:Nat} {v:Value} {xs:List Int} {x:Int} {p:Option Nat} (hq:rows[iq]?=some rq) (hl:Lst rows v xs p) (h:∃rows' v' p',Kn L w0 rows' w'∧rows'[iq]?=some (rq.put (i*3+1) v')∧Lst rows' v' (xs++[x]) p'∧(rows++[tmp]).length≤rows'.length∧(∀k,k≠iq→p≠some k→k<(rows++[tmp]).length→rows'[k]?=(rows++[tmp])[k]?)∧(p'=p∨p'=some (rows++[tmp]).length)):∃rows' v' p',Kn L w0 rows' w'∧rows'[iq]?=some (rq.put (i*3+1) v')∧Lst rows' v' (xs++[x]) p'∧rows.length≤rows'.length∧(∀k,k≠iq→p≠some k→k<rows.length→rows'[k]?=rows[k]?)∧(p'=p∨p'=some rows.length):=by
 obtain ⟨rows',v',p',hK,h1,h2,h3,h4,h5⟩:=h;have hiq:=(List.getElem?_eq_some_iff.1 hq).1;have he:∀j,(rows'.eraseIdx rows.length)[j]?=if j<rows.length then rows'[j]? else rows'[j+1]?:=fun j=>List.getElem?_eraseIdx ..;have h3':rows.length+1≤rows'.length:=by simpa using h3
 refine ⟨rows'.eraseIdx rows.length,v',if p'=p then p else some rows.length,?_,?_,?_,?_,fun k k1 k2 k3=>?_,?_⟩
 ·refine hK.sub (fun j=>if j<rows.length then j else j+1) (fun j r hj=>?_) (fun a b _ _ e=>?_)
  ·rw [he] at hj;split at hj
   ·rename_i hlt;rw [if_pos hlt];exact hj
   ·rename_i hlt;rw [if_neg hlt];exact hj
  ·revert e;show (if a<rows.length then a else a+1)=(if b<rows.length then b else b+1)→a=b;split<;>split<;>omega
 ·rw [he,if_pos hiq];exact h1
 ·rcases h2 with ⟨rfl,_,h0⟩|⟨k,r,rfl,hr,hrest⟩
  ·simp at h0
  ·rcases h5 with h5|h5
   ·rw [if_pos h5];subst h5;rcases hl with ⟨h0,_⟩|⟨k2,r2,hk2,hr2,_⟩
    ·cases h0
    ·obtain rfl:k=k2:=Option.some.inj hk2;have:=(List.getElem?_eq_some_iff.1 hr2).1;exact .inr ⟨k,r,rfl,by rw [he,if_pos this];exact hr,hrest⟩
   ·have hk:k=rows.length+1:=by simpa using h5
    subst hk;by_cases e:some (rows.length+1)=p
    ·exfalso;rcases hl with ⟨h0,_⟩|⟨k2,r2,hk2,hr2,_⟩
     ·rw [←e] at h0;cases h0
     ·rw [←e] at hk2;have:=(List.getElem?_eq_some_iff.1 hr2).1;have:=Option.some.inj hk2;omega
    ·rw [if_neg e];exact .inr ⟨rows.length,r,rfl,by rw [he,if_neg (by omega)];exact hr,hrest⟩
 ·rw [List.length_eraseIdx,if_pos (by omega)];omega
 ·rw [he,if_pos k3,h4 k k1 k2 (by simp;omega),List.getElem?_append_left k3]
 ·split
  ·exact .inl rfl
  ·exact .inr rfl
theorem YgF (hev:((97:Nat)==L.ev)=false) (hev2:((2:Nat)==L.ev)=false) (hi:rows[ic]?=some (Y5 g num (.pointer (some ⟨nb,0,none⟩)) code z)) (hq:rows[iq]?=some rq) (sn:Still L w0 nb) (n1:w0.cell? ⟨nb,1,none⟩=some (.slice (some ⟨rq.g,0,none⟩) kk cq)) (i:Nat) (hik:i<kk) (hqm:kk*3≤rq.m) {sv:Value} {xs:List Int} {p:Option Nat} (hsv:rq.f (i*3+1)=sv) (hl:Lst rows sv xs p) (hp:p≠some iq) (hn:xs.length≤1000000000) (R A:Nat) (hR4:R<4) (hA4:A<4) (inV:Value) (w:World) (hF:Kn L w0 rows w):
  Yl Tryz.prog false L.R1 L.D1 129 #[.pointer (some ⟨g,0,none⟩),.agg #[.int .i64 10,.int .i64 R,.int .i64 A,.int .i64 i],inV] w (fun v w'=>v=.tuple #[]∧∃rows' v' p',Kn L w0 rows' w'∧rows'[iq]?=some (rq.put (i*3+1) v')∧Lst rows' v' (xs++[z (25+R)]) p'∧rows.length≤rows'.length∧(∀k,k≠iq→p≠some k→k<rows.length→rows'[k]?=rows[k]?)∧(p'=p∨p'=some rows.length)) (fun _ _=>False):=by
 have hk:(base 129).kind≠.early:=by simp [base]
 refine Yl.intro (c:=Ycm) L.terms1 _ Tryz.func129 rfl (by kernel_rfl) fun cl cs Stop Ret _=>Ycr (g:=g) hev R A hR4 hA4 10 i inV w hF fun B w3 hF=>?_;repeat refine .c1 L.terms1 rfl ?_
 refine .regionL L.terms1 [0,1] (by rfl) ?_;iterate 2 (refine .opV L.terms1 rfl (by rfl) hk ?_;try walk_nrm)
 repeat refine .c1 L.terms1 rfl ?_
 refine Y1.condT L.terms1 (by rfl) ?_;repeat refine .c1 L.terms1 rfl ?_
 refine Y1.drawnN (S:=KnL L w0 rows [Yt B 10 R A (i:Nat)]) (Die:=fun _ _=>False) L.terms1 L.draws1 11 (by rfl) hk (by kernel_rfl) (fun _ _ _ h=>h) (fun _ _ _ h=>h.elim) fun w1 hR=>?_;replace hF:=(hF.rely hR).rely (Turn.drew _);clear hR;refine Y4 L.terms1 0 (fun _ _ h r=>KnL.rely h r) hF ?_;try walk_nrm
 refine Y4 L.terms1 1 (fun _ _ h r=>KnL.rely h r) hF ?_;try walk_nrm
 refine Y4 L.terms1 2 (fun _ _ h r=>KnL.rely h r) hF ?_;try walk_nrm
 refine Ye L.terms1 3 rfl (fun _ _ h r=>KnL.rely h r) hF ?_ fun _ hw=>⟨run_eq_of (by
  intro K hK;have hc:World.cell? _ ⟨g,1,none⟩=some (.pointer (some ⟨nb,0,none⟩)):=hw.cell hi (j:=1) (show 1<48 by omega);go_simp;exact hK),by
  have hc:World.cell? _ ⟨g,1,none⟩=some (.pointer (some ⟨nb,0,none⟩)):=hw.cell hi (j:=1) (show 1<48 by omega);refine hw.looks hi ?_;co_evs (exact ⟨_,rfl⟩)⟩
 try walk_nrm
 refine Y4 L.terms1 4 (fun _ _ h r=>KnL.rely h r) hF ?_;try walk_nrm
 refine Ye L.terms1 5 rfl (fun _ _ h r=>KnL.rely h r) hF ?_ fun _ hw=>⟨run_eq_of (by
  intro K hK;obtain ⟨a0,a1,a2,a3⟩:=hw.lins (k:=0) rfl;go_simp;exact hK),by
  obtain ⟨a0,a1,a2,a3⟩:=hw.lins (k:=0) rfl;refine hw.llooks (k:=0) rfl ?_;co_evs (exact ⟨_,rfl⟩)⟩
 try walk_nrm
 refine Y4 L.terms1 7 (fun _ _ h r=>KnL.rely h r) hF ?_;try walk_nrm
 refine Y4 L.terms1 8 (fun _ _ h r=>KnL.rely h r) hF ?_;try walk_nrm
 refine Ye L.terms1 9 rfl (fun _ _ h r=>KnL.rely h r) hF ?_ fun _ hw=>⟨run_eq_of (by
  intro K hK;have hc:World.cell? _ ⟨g,25+R,none⟩=some (.int .i64 (z (25+R))):=hw.cellZ hi (by omega) (by omega);go_simp;exact hK),by
  have hc:World.cell? _ ⟨g,25+R,none⟩=some (.int .i64 (z (25+R))):=hw.cellZ hi (by omega) (by omega);refine hw.looks hi ?_;co_evs (exact ⟨_,rfl⟩)⟩
 try walk_nrm
 refine JS (i:=6) (by first|kernel_rfl|decide +kernel) rfl (by rfl) rfl Tryz.func137 (by rfl) rfl #[.pointer (some ⟨nb,0,none⟩),.int .i64 i] (by kernel_rfl) (YcZ sn n1 i hik _ hF) ?_;rintro v w2 ⟨rfl,hF2⟩;refine ⟨.inl hF2,?_⟩;replace hF:KnL L w0 rows [Yt B 10 R A (i:Nat)] _:=hF2;clear hF2;try walk_nrm
 refine JS (i:=10) (by first|kernel_rfl|decide +kernel) rfl (by rfl) rfl Tryz.func138 (by rfl) rfl #[.pointer (some ⟨rq.g,i*3,none⟩),.int .i64 (z (25+R))] (by kernel_rfl) (YgQ hev2 (J2 hq) i (by omega) (z (25+R)) hsv (hl.app _) hp hn _ hF) ?_;rintro v w' ⟨rfl,hF2⟩;refine ⟨.inr (Z8 rfl (by first|kernel_rfl|decide +kernel)),?_⟩;have hF3:=Yeo hq hl hF2;clear hF2 hF;try walk_nrm
 refine Xi (by first|kernel_rfl|decide +kernel) ?_ _;repeat refine .c1 L.terms1 rfl ?_
 refine Y1.fin L.terms1 ?_;exact Ret _ [] _ _ rfl (Y0L L.terms1 (by rfl) _) ⟨rfl,hF3⟩
end
section
variable {P:Program} {main:Bool} {R:World→World→Prop} {D:World→World→Array Event→Prop} {Stop:Goroutine→World→Prop}
theorem Yfu {a:Act} {w:World} {o:Oper} {x:Operand} {f:FuncId} {fn:Func} {cap:Array Value} {args:Array Operand} {ats:Array TypeId} (hop:o.op=.call {callee:=.value x,args,argTypes:=ats}) (hx:a.eval x=.func (.func f) #[] cap)
  (hf : P.funcs[f]? = some fn) (hname : (fn.name == "runtime.NumGoroutine") = false) (hb : fn.body.isNone = false) : (execOp a.eval o).run P w = .ok (.enter f (args.map a.eval ++ cap)) w ∧ ∀ es, (execOp a.eval o).events P w es = es := by
 have h1 : ¬ fn.name = "runtime.NumGoroutine" := by simpa using hname
 have h2:¬fn.body=none:=by cases hx:fn.body<;>simp_all
 unfold execOp;constructor
 ·simp [hop,resolve,Deferred.ofValue,invoke,callFunc,hf,h1,h2,hx]
 ·intro es;simp [hop,resolve,Deferred.ofValue,invoke,callFunc,hf,h1,h2,hx]
theorem Y1.callV (T:Terms R D) {b:Frame} {a:Act} {k:List Item} {cs:List Frame} {w:World} {ops:Array Oper} {i:Nat} {rest:List Nat} {o:Oper} {x:Operand} {f:FuncId} {fn:Func} {c:Code} {cap:Array Value} {args:Array Operand} {ats:Array TypeId} {Post:Value→World→Prop} {Die:List PanicEntry→World→Prop}
  (ho:ops[i]?=some o) (hw:Region.wanted o (yielded ops a.tmps)=true) (hk:b.kind≠.early) (hop:o.op=.call {callee:=.value x,args,argTypes:=ats}) (hx:a.eval x=.func (.func f) #[] cap)
  (hf : P.funcs[f]? = some fn) (hname : (fn.name == "runtime.NumGoroutine") = false) (hb : fn.body = some c) (vs : Array Value) (hv : args.map a.eval ++ cap = vs) (hc : Yl P main R D f vs w Post Die)
  (h:∀v w',Post v w'→Y1 P main R D Stop (G (b.at (a.put o.dst v) (.inRegion ops rest::k)) cs) w')
  (hd:∀ch w' fr,Die ch w'→fr.fn=b.fn→fr.kind=b.kind→fr.defers=a.defers→fr.mode=.panicking ch→Y1 P main R D Stop (G fr cs) w'):
  Y1 P main R D Stop (G (b.at a (.inRegion ops (i::rest)::k)) cs) w:=by
 have hb':fn.body.isNone=false:=by rw [hb];rfl
 refine .ctl T rfl (g':=G (Frame.enter P f vs .normal) (b.at a (.inRegion ops (i::rest)::k)::cs)) (fun w₁=>?_) ?_
 ·have e:=Yfu (w:=w₁) hop hx hf hname hb';rw [stepG_enter ho hw hk e.1,hv];have:listed P b.fn a o w₁=#[]:=by unfold listed;rw [e.2];exact seen_none P _
  rw [this]
 ·refine hc _ cs Stop (fun v w' x=>?_) fun ch w' x=>hd ch w' _ x rfl rfl rfl rfl;rw [Frame.finish_at,ho];exact h v w' x
end
def Yc0 (ins:List (Int×Int)) (dev:Int):Int×Int:=match ins.find? (fun x=>x.1==dev) with
 |some x=>(x.2,1)
 |none=>(0,0)
def InR (L:Lot) (w0:World) (inV:Value) (ins:List (Int×Int)):Prop:=∃a c,inV=.slice a ins.length c∧∀(j:Nat) (x:Int×Int),ins[j]?=some x→∃ib io,a=some ⟨ib,io,none⟩∧Still L w0 ib∧w0.cell? ⟨ib,io+j*2,none⟩=some (.int .i64 x.1)∧w0.cell? ⟨ib,io+j*2+1,none⟩=some (.int .i64 x.2)
section
variable {L:Lot} {w0 w:World} {rows ls:List Row} {kb b:Nat} {dev:Int}
theorem KnL.newTwo (h:KnL L w0 rows ls w) {t:Nat} (ht:(t==L.ev)=false) (x y:Int):KnL L w0 rows (ls++[⟨w.heap.size,2,t,end2 x y⟩]) (w.alloc (.cells #[.int .i64 x,.int .i64 y] t)):=
 h.alloc #[.int .i64 x,.int .i64 y] t (end2 x y) ht fun j hj=>by
  have:j=0∨j=1:=by simp at hj;omega
  rcases this with rfl|rfl<;>rfl
theorem KnL.newOne (h:KnL L w0 rows ls w) {t:Nat} (ht:(t==L.ev)=false) (x:Int):KnL L w0 rows (ls++[⟨w.heap.size,1,t,fun _=>.int .i64 x⟩]) (w.alloc (.cells #[.int .i64 x] t)):=
 h.alloc #[.int .i64 x] t (fun _=>.int .i64 x) ht fun j hj=>by
  have:j=0:=by simp at hj;omega
  subst this;rfl
theorem YeN (hev:((59:Nat)==L.ev)=false) (hb:rows[kb]?=some ⟨b,1,2,fun _=>.int .i64 dev⟩) (d x:Int) (w:World) (hF:Kn L w0 rows w):
  Yl Tryz.prog false L.R1 L.D1 147 #[.agg #[.int .i64 d,.int .i64 x],.pointer (some ⟨b,0,none⟩)] w (fun v w'=>v=.bool (decide (d=dev))∧Kn L w0 rows w') (fun _ _=>False):=by
 replace hF:=hF.lay;have hk:(base 147).kind≠.early:=by simp [base]
 refine Yl.intro L.terms1 #[.agg #[.int .i64 d,.int .i64 x],.pointer (some ⟨b,0,none⟩),undef,undef,undef,undef,undef,undef] Tryz.func147 rfl (by kernel_rfl) fun cl cs Stop Ret _=>?_;repeat refine .c1 L.terms1 rfl ?_
 refine .regionL L.terms1 [0,1] (by rfl) ?_;refine .op rfl (by rfl) hk fun w1 hR K hK=>?_;replace hF:=hF.rely hR;clear hR;go_simp;try (unfold stored;go_simp)
 refine hK _ _ ⟨?_,?_⟩
 ·refine hF.doesAlloc _ ?_;(intro e he;have hm:=mem_listed he;simp [go_sem, *] at hm)
 clear hK K;replace hF:KnL L w0 rows [⟨w1.heap.size,2,59,end2 d x⟩] _:=hF.newTwo hev d x;generalize hB:w1.heap.size=B at *;generalize hW:(w1.alloc (.cells #[.int .i64 d,.int .i64 x] 59))=w3 at *;clear hW hB w1;try walk_nrm
 refine .opV L.terms1 rfl (by rfl) hk ?_;try walk_nrm
 repeat refine .c1 L.terms1 rfl ?_
 refine .regionL L.terms1 [0,1,2,3,4] (by rfl) ?_;refine .opV L.terms1 rfl (by rfl) hk ?_;try walk_nrm
 refine .op rfl (by rfl) hk fun w1 hR K hK=>?_;replace hF:=hF.rely hR;clear hR;have hc:World.cell? _ ⟨B,0,none⟩=some (.int .i64 d):=hF.lcell (k:=0) rfl (j:=0) (show 0<2 by omega);go_simp;try (unfold stored;go_simp)
 refine hK _ _ ⟨?_,?_⟩
 ·refine hF.llooks (k:=0) rfl ?_;co_evs (exact ⟨_,rfl⟩)
 clear hK K;clear hc;try walk_nrm
 refine .op rfl (by rfl) hk fun w1 hR K hK=>?_;replace hF:=hF.rely hR;clear hR;have hc:World.cell? _ ⟨b,0,none⟩=some (.int .i64 dev):=hF.cell hb (j:=0) (show 0<1 by omega);go_simp;try (unfold stored;go_simp)
 refine hK _ _ ⟨?_,?_⟩
 ·refine hF.looks hb ?_;co_evs (exact ⟨_,rfl⟩)
 clear hK K;clear hc;try walk_nrm
 iterate 2 (refine .opV L.terms1 rfl (by rfl) hk ?_;try walk_nrm)
 repeat refine .c1 L.terms1 rfl ?_
 refine Y1.ret L.terms1 fun todo=>?_;exact Ret _ todo _ _ rfl (Xj L.terms1 (by rfl) _) ⟨by first|rfl|simp|(simp;rfl),hF.drop⟩
noncomputable def YdL:Code:=match Tryz.f146.body with
 |some (.seq _ (.seq (.seq _ (.block _ (.loop c))) _))=>c
 |_=>.skip
noncomputable def YeW:Code:=match Tryz.f146.body with
 |some (.seq _ (.seq _ c))=>c
 |_=>.skip
variable {ins:List (Int×Int)} {a:Option Addr} {c:Nat}
theorem Yfa (hev:((59:Nat)==L.ev)=false) (hb:rows[kb]?=some ⟨b,1,2,fun _=>.int .i64 dev⟩) (hin:∀(j:Nat) (x:Int×Int),ins[j]?=some x→∃ib io,a=some ⟨ib,io,none⟩∧Still L w0 ib∧w0.cell? ⟨ib,io+j*2,none⟩=some (.int .i64 x.1)∧w0.cell? ⟨ib,io+j*2+1,none⟩=some (.int .i64 x.2)) (hln:ins.length≤1000) {Stop:Goroutine→World→Prop} (cs:List Frame)
  (Ret:∀(a:Act) (todo:List Item) (w':World) (v:Value),a.defers=[]→ZK Tryz.prog L.R1 L.D1 146 Tryz.f146 a.tmps w' v→(Kn L w0 rows w'∧((v=.int .i64 (-1)∧∀(j:Nat) (x:Int×Int),ins[j]?=some x→x.1≠dev)∨∃(n:Nat) (x:Int×Int),v=.int .i64 n∧ins[n]?=some x∧x.1=dev∧∀j,j<n→∀y,ins[j]?=some y→y.1≠dev))→Y1 Tryz.prog false L.R1 L.D1 Stop (G {(base 146).at a todo with mode:=.returning} cs) w'):
  ∀(rem i:Nat) (w:World) (u2 u3 u5 u9 u10 u11 u12 u13 u14 u15 u16 u17 u18:Value),i+rem=ins.length→(∀j,j<i→∀y,ins[j]?=some y→y.1≠dev)→KnL L w0 rows [] w→
   Y1 Tryz.prog false L.R1 L.D1 Stop (G ((base 146).at {tmps:=#[.slice a ins.length c,.func (.func 147) #[] #[.pointer (some ⟨b,0,none⟩)],u2,u3,.int .i64 0,u5,.slice a ins.length c,.int .i64 ins.length,.int .i64 i,u9,u10,u11,u12,u13,u14,u15,u16,u17,u18],defers:=[]} [.code YdL,.inLoop YdL,.inBlock 0,.code YeW]) cs) w:=by
 have hk:(base 146).kind≠.early:=by simp [base]
 intro rem;induction rem with
 |zero=>
  intro i w u2 u3 u5 u9 u10 u11 u12 u13 u14 u15 u16 u17 u18 hi hno hF;obtain rfl:i=ins.length:=by omega
  repeat refine .c1 L.terms1 rfl ?_
  refine .regionL L.terms1 [0] (by rfl) ?_;refine .opV L.terms1 rfl (by rfl) hk ?_;try walk_nrm
  repeat refine .c1 L.terms1 rfl ?_
  refine Y1.condF L.terms1 (by first|rfl|simp [Act.eval]) ?_;refine Y1.exit L.terms1 (by rfl) ?_;repeat refine .c1 L.terms1 rfl ?_
  refine .regionL L.terms1 [0] (by rfl) ?_;refine .opV L.terms1 rfl (by rfl) hk ?_;try walk_nrm
  repeat refine .c1 L.terms1 rfl ?_
  refine Y1.ret L.terms1 fun todo=>?_;exact Ret _ todo _ _ rfl (Xj L.terms1 (by rfl) _) ⟨hF.drop,.inl ⟨rfl,fun j x h=>hno j (List.getElem?_eq_some_iff.1 h).1 x h⟩⟩
 |succ rem ih=>
  intro i w u2 u3 u5 u9 u10 u11 u12 u13 u14 u15 u16 u17 u18 hi hno hF;have hlt:i<ins.length:=by omega
  have hli:(i:Int)<(ins.length:Int):=by omega
  have hwr:IntKind.i64.wrap ((i:Int)+1)=((i+1:Nat):Int):=by rw [IntKind.wrap_i64];omega
  obtain ⟨x,hx⟩:∃x,ins[i]?=some x:=⟨_,List.getElem?_eq_getElem hlt⟩;obtain ⟨ib,io,ea,si,c0,c1⟩:=hin i x hx;obtain ⟨d,nn⟩:=x;subst ea;repeat refine .c1 L.terms1 rfl ?_
  refine .regionL L.terms1 [0] (by rfl) ?_;refine .opV L.terms1 rfl (by rfl) hk ?_;try walk_nrm
  repeat refine .c1 L.terms1 rfl ?_
  refine Y1.condT L.terms1 (by first|rfl|simp [Act.eval,hli]|simp [Act.eval]) ?_;repeat refine .c1 L.terms1 rfl ?_
  refine .regionL L.terms1 [0,1] (by rfl) ?_;iterate 2 (refine .opV L.terms1 rfl (by rfl) hk ?_;try walk_nrm)
  repeat refine .c1 L.terms1 rfl ?_
  refine .regionL L.terms1 [0,1,2,3,4,5] (by rfl) ?_;iterate 3 (refine .opV L.terms1 rfl (by rfl) hk ?_;try walk_nrm)
  refine .op rfl (by rfl) hk fun w1 hR K hK=>?_;replace hF:=hF.rely hR;clear hR;go_simp;try (unfold stored;go_simp)
  refine hK _ _ ⟨?_,?_⟩
  ·co_still L.terms1
  clear hK K;try walk_nrm
  refine .op rfl (by rfl) hk fun w1 hR K hK=>?_;replace hF:=hF.rely hR;clear hR;have hc0:World.cell? _ ⟨ib,io+i*2,none⟩=some (.int .i64 d):=(hF.stillCell si).trans c0;have hc1:World.cell? _ ⟨ib,io+i*2+1,none⟩=some (.int .i64 nn):=(hF.stillCell si).trans c1;go_simp;try (unfold stored;go_simp)
  refine hK _ _ ⟨?_,?_⟩
  ·refine hF.stillLooks si ?_;(intro e he;have hm:=mem_listed he;simp [go_sem, *] at hm;rcases hm with rfl|rfl<;>exact ⟨_,rfl⟩)
  clear hK K;clear hc0 hc1;try walk_nrm
  refine Y1.callV L.terms1 (f:=147) (cap:=#[.pointer (some ⟨b,0,none⟩)]) rfl (by rfl) hk rfl (by rfl) Tryz.func147 (by rfl) rfl #[.agg #[.int .i64 d,.int .i64 nn],.pointer (some ⟨b,0,none⟩)] (by kernel_rfl) (YeN hev (J2 hb) d nn _ hF) ?_ (fun _ _ _ h=>h.elim);rintro v w2 ⟨rfl,hF2⟩;replace hF:KnL L w0 rows [] _:=hF2;clear hF2;try walk_nrm
  repeat refine .c1 L.terms1 rfl ?_
  by_cases hd:d=dev
  ·skip;refine Y1.condT L.terms1 (by first|rfl|simp [Act.eval,hd]) ?_;repeat refine .c1 L.terms1 rfl ?_
   refine .regionL L.terms1 [0,1] (by rfl) ?_;iterate 2 (refine .opV L.terms1 rfl (by rfl) hk ?_;try walk_nrm)
   repeat refine .c1 L.terms1 rfl ?_
   refine Y1.ret L.terms1 fun todo=>?_;exact Ret _ todo _ _ rfl (Xj L.terms1 (by rfl) _) ⟨hF.drop,.inr ⟨i,(d,nn),by first|rfl|simp,hx,hd,hno⟩⟩
  ·skip;refine Y1.condF L.terms1 (by first|rfl|simp [Act.eval,hd]) ?_;repeat refine .c1 L.terms1 rfl ?_
   refine .regionL L.terms1 [0,1] (by rfl) ?_;iterate 2 (refine .opV L.terms1 rfl (by rfl) hk ?_;try walk_nrm)
   repeat refine .c1 L.terms1 rfl ?_
   refine Y1.inLoop L.terms1 ?_;refine ih (i+1) _ _ _ _ _ _ _ _ _ _ _ _ _ _ (by omega) (fun j hj y hy=>?_) hF;by_cases hji:j=i
   ·subst hji;rw [hx] at hy;cases hy;exact hd
   ·exact hno j (by omega) y hy
theorem YeM (hev:((59:Nat)==L.ev)=false) (hb:rows[kb]?=some ⟨b,1,2,fun _=>.int .i64 dev⟩) (hin:∀(j:Nat) (x:Int×Int),ins[j]?=some x→∃ib io,a=some ⟨ib,io,none⟩∧Still L w0 ib∧w0.cell? ⟨ib,io+j*2,none⟩=some (.int .i64 x.1)∧w0.cell? ⟨ib,io+j*2+1,none⟩=some (.int .i64 x.2)) (hln:ins.length≤1000) (w:World) (hF:Kn L w0 rows w):
  Yl Tryz.prog false L.R1 L.D1 146 #[.slice a ins.length c,.func (.func 147) #[] #[.pointer (some ⟨b,0,none⟩)]] w (fun v w'=>Kn L w0 rows w'∧((v=.int .i64 (-1)∧∀(j:Nat) (x:Int×Int),ins[j]?=some x→x.1≠dev)∨∃(n:Nat) (x:Int×Int),v=.int .i64 n∧ins[n]?=some x∧x.1=dev∧∀j,j<n→∀y,ins[j]?=some y→y.1≠dev)) (fun _ _=>False):=by
 replace hF:=hF.lay;have hk:(base 146).kind≠.early:=by simp [base]
 refine Yl.intro L.terms1 #[.slice a ins.length c,.func (.func 147) #[] #[.pointer (some ⟨b,0,none⟩)],undef,undef,undef,undef,undef,undef,undef,undef,undef,undef,undef,undef,undef,undef,undef,undef,undef] Tryz.func146 rfl (by kernel_rfl) fun cl cs Stop Ret _=>?_;repeat refine .c1 L.terms1 rfl ?_
 refine .regionL L.terms1 [0] (by rfl) ?_;refine .opV L.terms1 rfl (by rfl) hk ?_;try walk_nrm
 repeat refine .c1 L.terms1 rfl ?_
 refine .regionL L.terms1 [0,1,2] (by rfl) ?_;iterate 3 (refine .opV L.terms1 rfl (by rfl) hk ?_;try walk_nrm)
 repeat refine .c1 L.terms1 rfl ?_
 refine Y1.loop L.terms1 ?_;exact Yfa hev hb hin hln _ Ret ins.length 0 _ _ _ _ _ _ _ _ _ _ _ _ _ _ (by omega) (fun j hj=>by omega) hF
theorem YeG {ins:List (Int×Int)} {dev:Int} (h:∀(j:Nat) (x:Int×Int),ins[j]?=some x→x.1≠dev):Yc0 ins dev=(0,0):=by
 unfold Yc0;have:ins.find? (fun x=>x.1==dev)=none:=by
  rw [List.find?_eq_none];intro x hx;obtain ⟨j,hj⟩:=List.getElem?_of_mem hx;simpa using h j x hj
 rw [this]
theorem YgA {ins:List (Int×Int)} {dev:Int} {n:Nat} {x:Int×Int} (h:ins[n]?=some x) (hd:x.1=dev) (hno:∀j,j<n→∀y,ins[j]?=some y→y.1≠dev):Yc0 ins dev=(x.2,1):=by
 unfold Yc0;have:ins.find? (fun x=>x.1==dev)=some x:=by
  induction ins generalizing n with
  |nil=>simp at h
  |cons y l ih=>
   cases n with
   |zero=>
    simp at h;subst h;rw [List.find?_cons_of_pos];simp [hd]
   |succ n=>
    have h0:=hno 0 (by omega) y rfl;rw [List.find?_cons_of_neg (by simp [h0])];exact ih (by simpa using h) fun j hj z hz=>hno (j+1) (by omega) z (by simpa using hz)
 rw [this]
theorem YeE (hev:((59:Nat)==L.ev)=false) (hev2:((2:Nat)==L.ev)=false) (hin:∀(j:Nat) (x:Int×Int),ins[j]?=some x→∃ib io,a=some ⟨ib,io,none⟩∧Still L w0 ib∧w0.cell? ⟨ib,io+j*2,none⟩=some (.int .i64 x.1)∧w0.cell? ⟨ib,io+j*2+1,none⟩=some (.int .i64 x.2)) (hln:ins.length≤1000) (w:World) (hF:Kn L w0 rows w):
  Yl Tryz.prog false L.R1 L.D1 143 #[.int .i64 dev,.slice a ins.length c] w (fun v w'=>v=.tuple #[.int .i64 (Yc0 ins dev).1,.int .i64 (Yc0 ins dev).2]∧Kn L w0 rows w') (fun _ _=>False):=by
 replace hF:=hF.lay;have hk:(base 143).kind≠.early:=by simp [base]
 refine Yl.intro L.terms1 #[.int .i64 dev,.slice a ins.length c,undef,undef,undef,undef,undef,undef,undef,undef,undef,undef,undef,undef,undef,undef,undef] Tryz.func143 rfl (by kernel_rfl) fun cl cs Stop Ret _=>?_;repeat refine .c1 L.terms1 rfl ?_
 refine .regionL L.terms1 [0,1,2] (by rfl) ?_;refine .op rfl (by rfl) hk fun w1 hR K hK=>?_;replace hF:=hF.rely hR;clear hR;go_simp;try (unfold stored;go_simp)
 refine hK _ _ ⟨?_,?_⟩
 ·refine hF.doesAlloc _ ?_;(intro e he;have hm:=mem_listed he;simp [go_sem, *] at hm)
 clear hK K;replace hF:KnL L w0 rows [⟨w1.heap.size,1,2,fun _=>.int .i64 dev⟩] _:=hF.newOne hev2 dev;generalize hB:w1.heap.size=b at *;generalize hW:(w1.alloc (.cells #[.int .i64 dev] 2))=w3 at *;clear hW hB w1;try walk_nrm
 iterate 2 (refine .opV L.terms1 rfl (by rfl) hk ?_;try walk_nrm)
 repeat refine .c1 L.terms1 rfl ?_
 refine .regionL L.terms1 [0,1,2,3] (by rfl) ?_;iterate 2 (refine .opV L.terms1 rfl (by rfl) hk ?_;try walk_nrm)
 refine Y1.callX L.terms1 rfl (by rfl) hk rfl Tryz.func146 (by rfl) rfl #[.slice a ins.length c,.func (.func 147) #[] #[.pointer (some ⟨b,0,none⟩)]] (by kernel_rfl) (YeM (rows:=rows++_) hev (Xu (k:=0) rfl) hin hln _ hF) ?_ (fun _ _ _ h=>h.elim);rintro v w2 ⟨hF2,hv⟩;replace hF:KnL L w0 rows _ _:=hF2;clear hF2;try walk_nrm
 rcases hv with ⟨rfl,hno⟩|⟨n,x,rfl,hx,hd,hno⟩
 ·skip;refine .opV L.terms1 rfl (by rfl) hk ?_;try walk_nrm
  repeat refine .c1 L.terms1 rfl ?_
  refine .regionL L.terms1 [0,1] (by rfl) ?_;iterate 2 (refine .opV L.terms1 rfl (by rfl) hk ?_;try walk_nrm)
  repeat refine .c1 L.terms1 rfl ?_
  refine Y1.condT L.terms1 (by first|rfl|simp [Act.eval]) ?_;repeat refine .c1 L.terms1 rfl ?_
  refine .regionL L.terms1 [0,1] (by rfl) ?_;iterate 2 (refine .opV L.terms1 rfl (by rfl) hk ?_;try walk_nrm)
  repeat refine .c1 L.terms1 rfl ?_
  refine Y1.ret L.terms1 fun todo=>?_;exact Ret _ todo _ _ rfl (YcF L.terms1 (by rfl) _) ⟨by rw [YeG hno];rfl,hF.drop⟩
 ·skip;obtain ⟨ib,io,ea,si,c0,c1⟩:=hin n x hx;obtain ⟨d,nn⟩:=x;subst ea;have hlt:=(List.getElem?_eq_some_iff.1 hx).1;have hli:(n:Int)<(ins.length:Int):=by omega
  have hnn:¬((n:Int)<0):=by omega
  refine .opV L.terms1 rfl (by rfl) hk ?_;try walk_nrm
  repeat refine .c1 L.terms1 rfl ?_
  refine .regionL L.terms1 [0,1] (by rfl) ?_;iterate 2 (refine .opV L.terms1 rfl (by rfl) hk ?_;try walk_nrm)
  repeat refine .c1 L.terms1 rfl ?_
  refine Y1.condF L.terms1 (by first|rfl|simp [Act.eval,hnn]|simp [Act.eval]) ?_;repeat refine .c1 L.terms1 rfl ?_
  refine .regionL L.terms1 [0,1,2,3,4,5,6] (by rfl) ?_;iterate 2 (refine .opV L.terms1 rfl (by rfl) hk ?_;try walk_nrm)
  refine .op rfl (by rfl) hk fun w1 hR K hK=>?_;replace hF:=hF.rely hR;clear hR;go_simp;try (unfold stored;go_simp)
  refine hK _ _ ⟨?_,?_⟩
  ·co_still L.terms1
  clear hK K;try walk_nrm
  refine .opV L.terms1 rfl (by rfl) hk ?_;try walk_nrm
  refine .op rfl (by rfl) hk fun w1 hR K hK=>?_;replace hF:=hF.rely hR;clear hR;have hc1:World.cell? _ ⟨ib,io+n*2+1,none⟩=some (.int .i64 nn):=(hF.stillCell si).trans c1;go_simp;try (unfold stored;go_simp)
  refine hK _ _ ⟨?_,?_⟩
  ·refine hF.stillLooks si ?_;co_evs (exact ⟨_,rfl⟩)
  clear hK K;clear hc1;try walk_nrm
  iterate 2 (refine .opV L.terms1 rfl (by rfl) hk ?_;try walk_nrm)
  repeat refine .c1 L.terms1 rfl ?_
  refine Y1.ret L.terms1 fun todo=>?_;exact Ret _ todo _ _ rfl (YcF L.terms1 (by rfl) _) ⟨by rw [YgA hx hd hno];rfl,hF.drop⟩
end
section
variable {L:Lot} {w0:World} {rows:List Row} {ic g:Nat} {num dev:Int} {net code:Value} {z:Nat→Int} {ins:List (Int×Int)} {inV:Value}
theorem Yf0 (hev:((97:Nat)==L.ev)=false) (hevI:((59:Nat)==L.ev)=false) (hev2:((2:Nat)==L.ev)=false) (hi:rows[ic]?=some (Y5 g num net code z)) (hin:InR L w0 inV ins) (hln:ins.length≤1000) (R A:Nat) (hR4:R<4) (hA4:A<4) (w:World) (hF:Kn L w0 rows w):
  Yl Tryz.prog false L.R1 L.D1 129 #[.pointer (some ⟨g,0,none⟩),.agg #[.int .i64 14,.int .i64 R,.int .i64 A,.int .i64 dev],inV] w (fun v w'=>v=.tuple #[]∧Kn L w0 (rows.set ic (Y5 g num net code (zset (zset z (25+R) (Yc0 ins dev).1) (25+A) (Yc0 ins dev).2))) w') (fun _ _=>False):=by
 have hk:(base 129).kind≠.early:=by simp [base]
 obtain ⟨a,c,rfl,hin⟩:=hin;refine Yl.intro (c:=Ycm) L.terms1 _ Tryz.func129 rfl (by kernel_rfl) fun cl cs Stop Ret _=>Ycr (g:=g) hev R A hR4 hA4 14 dev (.slice a ins.length c) w hF fun B w3 hF=>?_;replace hF:KnL L w0 (rows.set ic (Y5 g num net code z)) [Yt B 14 R A dev] w3:=by rw [Y4p hi];exact hF
 repeat refine .c1 L.terms1 rfl ?_
 iterate 4 (refine .regionL L.terms1 [0,1] (by rfl) ?_;iterate 2 (refine .opV L.terms1 rfl (by rfl) hk ?_;try walk_nrm);repeat refine .c1 L.terms1 rfl ?_;refine .condF L.terms1 (by rfl) ?_;repeat refine .c1 L.terms1 rfl ?_)
 refine .regionL L.terms1 [0,1] (by rfl) ?_;iterate 2 (refine .opV L.terms1 rfl (by rfl) hk ?_;try walk_nrm)
 repeat refine .c1 L.terms1 rfl ?_
 refine Y1.condT L.terms1 (by rfl) ?_;repeat refine .c1 L.terms1 rfl ?_
 refine .regionL L.terms1 [0,1,2,3,4,5,6,7,8,9,10,11,12] (by rfl) ?_;iterate 3 (refine .opV L.terms1 rfl (by rfl) hk ?_;try walk_nrm)
 refine .op rfl (by rfl) hk fun w1 hR K hK=>?_;replace hF:=hF.rely hR;clear hR;obtain ⟨a0,a1,a2,a3⟩:=hF.lins (k:=0) rfl;go_simp;try (unfold stored;go_simp)
 refine hK _ _ ⟨?_,?_⟩
 ·refine hF.llooks (k:=0) rfl ?_;co_evs (exact ⟨_,rfl⟩)
 clear hK K;clear a0 a1 a2 a3;try walk_nrm
 refine .opV L.terms1 rfl (by rfl) hk ?_;try walk_nrm
 refine Y1.callX L.terms1 rfl (by rfl) hk rfl Tryz.func143 (by rfl) rfl #[.int .i64 dev,.slice a ins.length c] (by kernel_rfl) (YeE (dev:=dev) hevI hev2 hin hln _ hF) ?_ (fun _ _ _ h=>h.elim);rintro v w2 ⟨rfl,hF2⟩;replace hF:KnL L w0 (rows.set ic (Y5 g num net code z)) [Yt B 14 R A dev] _:=hF2;clear hF2;try walk_nrm
 iterate 4 (refine .opV L.terms1 rfl (by rfl) hk ?_;try walk_nrm)
 refine .op rfl (by rfl) hk fun w1 hR K hK=>?_;replace hF:=hF.rely hR;clear hR;have hc:World.cell? _ ⟨g,25+R,none⟩=some (.int .i64 (z (25+R))):=KnL.cz hi hF (by omega) (by omega);have hz2:World.frozen? _ ⟨g,25+R,none⟩=false:=KnL.cfz hi hF (25+R);go_simp;try (unfold stored;go_simp)
 refine hK _ _ ⟨?_,?_⟩
 ·refine KnL.cdoes hi hF (25+R) _ ?_;co_evs (exact rfl)
 clear hK K;clear hc hz2;replace hF:=KnL.cset hi hF (j:=25+R) (by omega) ((Yc0 ins dev).1);try walk_nrm
 refine .opV L.terms1 rfl (by rfl) hk ?_;try walk_nrm
 refine .op rfl (by rfl) hk fun w1 hR K hK=>?_;replace hF:=hF.rely hR;clear hR;have hc:World.cell? _ ⟨g,25+A,none⟩=some (.int .i64 ((zset z (25+R) (Yc0 ins dev).1) (25+A))):=KnL.cz hi hF (by omega) (by omega);have hz2:World.frozen? _ ⟨g,25+A,none⟩=false:=KnL.cfz hi hF (25+A);go_simp;try (unfold stored;go_simp)
 refine hK _ _ ⟨?_,?_⟩
 ·refine KnL.cdoes hi hF (25+A) _ ?_;co_evs (exact rfl)
 clear hK K;clear hc hz2;replace hF:=KnL.cset hi hF (j:=25+A) (by omega) ((Yc0 ins dev).2);try walk_nrm
 repeat refine .c1 L.terms1 rfl ?_
 refine Y1.fin L.terms1 ?_;exact Ret _ [] _ _ rfl (Y0L L.terms1 (by rfl) _) ⟨rfl,hF.drop⟩
end
end Go.Proofs.YtdoghgnifkgfdaaGreat.Mute
