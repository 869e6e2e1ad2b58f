import Derived.Test.YtdoghgnifkgfdaaGreatP00
import Derived.Test.YtdoghgnifkgfdaaGreatP19
import Derived.Test.YtdoghgnifkgfdaaGreatP20
set_option maxRecDepth 100000
set_option maxHeartbeats 16000000
open Option renaming none->Ai,some->yi
open Go renaming World->ui,Value->ti,undef->ri
open Bool renaming true->ji,false->gi
namespace Go.Proofs.YtdoghgnifkgfdaaGreat.Mute
open Tryz Go Go.Conc Go.RowKit
inductive Out where
 |on (op:Int) (said:Option Int) (z:Nat->Int)
 |Xk (why:Int) (z:Nat->Int)
def Ni(z:Nat->Int):Nat->Int:=Ji (Ji z 46 (IntKind.i64.wrap (z 46+1))) 45 (((z 45).toNat:Int)+1)
def tj(n:Nat)(ci z:Nat->Int):Out:=
 if z 45=n then .Xk 3 (Ji z 46 (IntKind.i64.wrap (z 46+1)))
 else
  let k:=(z 45).toNat*4
  let R:=(ci (k+1)).toNat
  let A:=(ci (k+2)).toNat
  let N:=ci (k+3)
  let y:=Ni z
  if ci k=1 then .on 1 Ai (Ji y (25+R) N)
  else if ci k=2 then .on 2 Ai (Ji y (25+R) (IntKind.i64.wrap (y (25+R)+y (25+A))))
  else if ci k=3 then .on 3 Ai (Ji y (25+R) (IntKind.i64.wrap (y (25+R)-y (25+A))))
  else if ci k=4 then .on 4 Ai (Ji y (25+R) (IntKind.i64.wrap (y (25+R)*y (25+A))))
  else if ci k=5 then (if y (25+A)=0 then .Xk 1 y else .on 5 Ai (Ji y (25+R) (IntKind.i64.wrap ((y (25+R)).tdiv (y (25+A))))))
  else if ci k=6 then (if y (25+A)<0\/16<=y (25+A)then .Xk 2 y else .on 6 Ai (Ji y (25+R) (y (29+(y (25+A)).toNat))))
  else if ci k=7 then (if y (25+A)<0\/16<=y (25+A)then .Xk 2 y else .on 7 Ai (Ji y (29+(y (25+A)).toNat) (y (25+R))))
  else if ci k=8 then .on 8 Ai (Ji y 45 N)
  else if ci k=9 then .on 9 Ai (if y (25+R)=0 then Ji y 45 N else y)
  else if ci k=15 then .on 15 (yi (y (25+R))) y
  else .on 0 Ai y
def said(x:Int):Value:=.agg #[.int .i64 1,.int .i64 x,.int .i64 0]
def Out.sent:Out->List ti
 |.on _ (yi x) _=>[said x]
 |_=>[]
section
variable {L:km}{w0:ui}{rows:List Row}{ic g cb co n cc:Nat}{num:Int}{net:ti}{z ci:Nat->Int}
def brk(y:Int):List PanicEntry:=[{v:=.iface 222 (.int .i64 y),recovered:=gi}]
abbrev Um(cb co n cc:Nat):Value:=.slice (yi ⟨cb,co,Ai⟩) n cc
theorem Bt.mono{P:Program}{FS:ui->Prop}{f:FuncId}{args:Array ti}{w:ui}{evs rd0:List ti}{Post YE:ti->ui->Prop}{Die Q_:List PanicEntry->ui->Prop}(h:Bt P L FS f args w evs Post Die)(he:evs=rd0)(hp:∀v w',Post v w'->YE v w')(hd:∀c w',Die c w'->Q_ c w'):Bt P L FS f args w rd0 YE Q_:=by
 subst he;exact fun cl cs vs h1 h2=>h cl cs vs (fun v w' x=>h1 v w' (hp v w' x)) fun ch w' x=>h2 ch w' (hd ch w' x)
end
section
variable {P:Program}{o:Oper}{a:Act}{w:ui}{x y:Operand}{ty:TypeId}{b off:Nat}
theorem eM(ho:o.op=.load ty x)(hx:a.eval x=.pointer (yi ⟨b,off,Ai⟩))(cs:List ti)(d:TypeDesc)(hc:w.rangeAt b off cs)(hu:P.underlying ty=yi d)(hd:d.isRow=ji)(hi:(P.info? ty).map (·.size)=yi cs.length):
  (execOp a.eval o).run P w=.ok (.value (.agg cs.toArray)) w:=by
 unfold execOp;simp only[ho,hx,Sem.run_bind,Sem.run_pure,Result.andThen_ok,run_loadAt_mid w b off ty cs d hc hu hd hi]
theorem lQ(ho:o.op=.load ty x)(hx:a.eval x=.pointer (yi ⟨b,off,Ai⟩))(cs:List ti)(d:TypeDesc)(hc:w.rangeAt b off cs)(hu:P.underlying ty=yi d)(hd:d.isRow=ji)(hi:(P.info? ty).map (·.size)=yi cs.length):
  ∀e∈(execOp a.eval o).events P w #[],∃ad,e.loc=.cell ad/\ad.block=b:=by
 intro e he;have Ki0:(isAgg ty).run P w=.ok ji w:=by
  unfold isAgg;rw[Sem.run_bind,run_underlying hu w];cases d<;>simp_all
 have Lf0:(isAgg ty).events P w #[]=#[]:=by
  unfold isAgg;rw[Sem.events_bind,run_underlying hu w,events_underlying];cases d<;>simp_all
 cases hq:P.info? ty with
 |none=>simp[hq]at hi
 |some i=>
  have hs:i.size=cs.length:=by simpa[hq]using hi
  have hE:(execOp a.eval o).events P w #[]=(loadCells ⟨b,off,Ai⟩ cs.length).events P w #[]:=by
   unfold execOp;simp[ho,hx,Instr.loadAt,Instr.sureAddr,loadVar,Sem.events_bind,Ki0,Lf0,sizeOf,typeInfo,hq,hs]
  rw[hE]at he;rcases events_loadCellsFrom_at (P:=P) ⟨b,off,Ai⟩ (fun g=>g=b) rfl cs.length 0 #[] w #[] (fun j hj=>by
   rw[Nat.zero_add,Addr.add_mid,hc j cs[j] (List.getElem?_eq_getElem hj)];rfl) e he with h|⟨ad,h1,_,h2⟩
  ·simp at h
  ·exact⟨ad,h1,h2⟩
theorem OI(ho:o.op=.store ty x y)(hx:a.eval x=.pointer (yi ⟨b,off,Ai⟩))(cells:Array ti)(hy:a.eval y=.agg cells)(ht:w.there b off cells.size)(hi:(P.info? ty).map (·.size)=yi cells.size)(h1:cells.all (·.oneCell')=ji):
  (execOp a.eval o).run P w=.ok .skip (w.setCells b off cells.toList):=by
 unfold execOp;simp only[ho,hx,hy,Sem.run_bind,Sem.run_pure,Result.andThen_ok,run_storeAt_mid w b off ty cells ht hi h1]
theorem aM(ho:o.op=.store ty x y)(hx:a.eval x=.pointer (yi ⟨b,off,Ai⟩))(cells:Array ti)(hy:a.eval y=.agg cells)(m t:Nat)(f:Nat->ti)(hr:Ei w b m t f)(hm:off+cells.size<=m)(hi:(P.info? ty).map (·.size)=yi cells.size)(h1:cells.all (·.oneCell')=ji):
  ∀e∈(execOp a.eval o).events P w #[],∃ad,e.loc=.cell ad/\ad.block=b:=by
 intro e he;cases hq:P.info? ty with
 |none=>simp[hq]at hi
 |some i=>
  have hs:cells.size=i.size:=by simp[hq]at hi;omega
  have hE:(execOp a.eval o).events P w #[]=(storeCells ⟨b,off,Ai⟩ cells.toList).events P w #[]:=by
   unfold execOp;simp[ho,hx,hy,Instr.storeAt,Instr.sureAddr,storeVar,Sem.events_bind,sizeOf,typeInfo,hq,Value.cells,hs]
  rw[hE]at he;obtain⟨cs,g1,g2,_⟩:=hr;rcases events_storeCells_at b off t cells.toList 0 cs w #[] g1 A1 (fun v hv=>(Array.all_eq_true_iff_forall_mem.1 h1) v (by simpa using hv)) e he with h|h
  ·simp at h
  ·exact h
end
section
variable {L:km}{w0 w w':ui}{rows:List Row}{i:Nat}{r:Row}
theorem Kn.JU(h:Kn L w0 rows w)(hi:rows[i]?=yi r)(ht:Turn L L.send w w')(yB:w'.heap[L.c]?=w.heap[L.c]?){es:Array Event}(zn:∀e∈es,∃ad,e.loc=.cell ad/\ad.block=r.g):L.D1 w w' es:=by
 have ho:=h.row i r hi;obtain⟨o,hg⟩:=ho.rw.calm.there;obtain⟨o',h1,h2,_⟩:=ht.at_ r.g o hg;refine⟨ht,yB,fun e he=>?_⟩;obtain⟨ad,hl,hb⟩:=zn e he;obtain⟨loc,wr,sy⟩:=e;simp only at hl;subst hl;refine⟨Yj _ _ _,fun x hx _=>?_⟩;have:x=⟨.cell ad,wr,if sy then .atomic else .plain⟩:=by
  cases wr<;>cases sy<;>simp[MemAct.ofEvent,MemAct.touch?]at hx<;>exact hx.symm
 subst this;exact⟨o',by rw[hb];exact h1,by rw[hb];exact fun hm=>ho.rw.calm.no o hg (L.Cj r.g o' o (fun hc=>(h2 hc).symm) hm),fun _=>by rw[hb];exact L.Bj r.g o o' h2 (ho.own o hg)⟩
def Row.puts(r:Row)(off:Nat)(vs:List ti):Row:={r with f:=fun j=>if off<=j/\j<off+vs.length then vs.getD (j-off) ri else r.f j}
theorem Kn.setCells:∀(vs:List ti)(off:Nat)(r:Row)(rows:List Row)(w:ui),Kn L w0 rows w->rows[i]?=yi r->Kn L w0 (rows.set i (r.puts off vs)) (w.setCells r.g off vs)/\Turn L L.send w (w.setCells r.g off vs)/\(w.setCells r.g off vs).heap[L.c]?=w.heap[L.c]?
 | [],off,r,rows,w,h,hi=>by
  refine⟨Kn.congr (r:=r) ?_ hi rfl rfl rfl fun j _=>?_,.refl _,rfl⟩
  ·rw[Em hi];exact h
  ·show r.f j=if off<=j/\j<off+0 then _ else r.f j;rw[if_neg E0]
 |v::vs,off,r,rows,w,h,hi=>by
  have h1:=h.set hi off v;obtain⟨h2,h3,h4⟩:=Kn.setCells vs (off+1) (r.put off v) _ _ h1 (Qi hi _);rw[List.set_set]at h2;refine⟨Kn.congr h2 hi rfl rfl rfl fun j _=>?_,(h.Hl hi off v).trans h3,h4.trans (h.Oq hi off v)⟩;show (if off+1<=j/\j<off+1+vs.length then vs.getD (j-(off+1)) ri else upd r.f off v j)=if off<=j/\j<off+(v::vs).length then (v::vs).getD (j-off) ri else r.f j;simp only[List.length_cons];by_cases hj:off+1<=j/\j<off+1+vs.length
  ·rw[if_pos hj,if_pos E0,show j-off=(j-(off+1))+1 by omega];rfl
  ·rw[if_neg hj];by_cases hk:j=off
   ·subst hk;rw[upd_same,if_pos E0,Nat.sub_self];rfl
   ·rw[upd_ne _ _ hk,if_neg E0]
end
section
variable {L:km}{w0:ui}{rows:List Row}{ic g nb:Nat}{num:Int}{code:ti}{z:Nat->Int}
theorem V20(p:Option Addr)(cap:Nat)(hs:Still L w0 nb)(JC:w0.cell? ⟨nb,0,Ai⟩=yi (.slice p 0 cap))(k:Int)(w:ui)(hF:Kn L w0 rows w):
  Xi prog gi L.R1 L.D1 125 #[.pointer (yi ⟨nb,0,Ai⟩),.int .i64 k] w (fun _ w'=>Kn L w0 rows w') (fun _ _=>False):=by
 have hk:(base 125).kind≠.early:=E1;refine Xi.intro L.Bi #[.pointer (yi ⟨nb,0,Ai⟩),.int .i64 k,ri,ri,ri,ri,ri,ri,ri,ri,ri,ri,ri,ri,ri,ri,ri,ri,ri,ri,ri,ri,ri,ri,ri,ri,ri,ri,ri,ri,ri,ri,ri,ri,ri] func125 rfl J0 fun cl cs Stop jm _=>?_;refine J8 ?_;refine N9 ?_;refine P8 ?_;refine K8 fun w1 K hK hF=>?_;have hc:World.cell? _ ⟨nb,0,Ai⟩=yi (.slice p 0 cap):=(hF.nj (a:=⟨nb,0,Ai⟩) hs).trans JC;refine I8 ?_ ?_
 ·refine hF.Aj hs ?_;exact W8
 clear hK K;clear hc;refine W9 ?_;refine Y8 ?_;refine J8 ?_;refine Hh ?_;refine J8 ?_;refine s9 ?_;refine M8 ?_;refine J8 ?_;refine Ci.xk L.Bi G2 ?_;refine Ci.exit L.Bi rfl ?_;refine Cd ?_;exact jm _ _ _ _ rfl (Dj L.Bi I0 _) hF
def Uk(z:Nat->Int)(j:Nat):Int:=if j=47 then IntKind.i64.wrap (z 47+1)else if 25<=j/\j<46 then z (j-21)else z j
def yp(z:Nat->Int):List Value:=(List.range 21).map fun j=>.int .i64 (z (4+j))
theorem Jq(z:Nat->Int):(yp z).length=21:=by simp[yp]
theorem MR(z:Nat->Int):∀v∈yp z,v.oneCell'=true:=fun v hv=>by obtain⟨y,_,rfl⟩:=List.mem_map.1 hv;rfl
theorem gY(z:Nat->Int){j:Nat}(hj:j<21):(yp z).getD j ri=.int .i64 (z (4+j)):=by simp[yp,hj]
theorem ZC{w:ui}{net:ti}(hF:Kn L w0 rows w)(hi:rows[ic]?=yi (Ri g num net code z)):w.rangeAt g 4 (yp z):=fun j v hv=>by
 unfold yp at hv;rw[List.getElem?_map]at hv;obtain⟨y,hy,rfl⟩:=Option.map_eq_some_iff.1 hv;have hj:j<21:=by
  have:=(List.getElem?_eq_some_iff.1 hy).1;exact Yc
 rw[List.getElem?_range hj]at hy;cases hy;exact hF.gp hi (j:=4+j) E0 E0
def tA(z:Nat->Int)(j:Nat):Int:=if 25<=j/\j<46 then z (j-21)else z j
theorem E30{net:ti}(j:Nat):((Ri g num net code z).puts 25 (yp z)).f j=cellV num net code (tA z) j:=by
 show (if 25<=j/\j<25+(yp z).length then (yp z).getD (j-25) ri else cellV num net code z j)=_;rw[Jq];unfold cellV tA;by_cases h:25<=j/\j<46
 ·rw[if_pos E0,gY z E0,if_neg E0,if_neg E0,if_neg E0,if_pos h,show 4+(j-25)=j-21 by omega]
 ·rw[if_neg E0,if_neg h]
theorem gX(z:Nat->Int)(j:Nat):Ji (tA z) 47 (IntKind.i64.wrap (z 47+1)) j=Uk z j:=by
 unfold Ji tA Uk;rfl
end
abbrev one1(b t:Nat)(v:ti):Row:=⟨b,1,t,fun _=>v⟩
def au(y k:Int):Value:=.agg #[.int .i64 2,.int .i64 y,.int .i64 k]
section
variable {L:km}{w0:ui}{rows:List Row}{ic g nb p c y:Nat}{num:Int}{code:ti}{z:Nat->Int}
theorem Si.l1{ls:List Row}{w:ui}{k b t:Nat}{v:ti}(h:Si L w0 rows ls w)(hk:ls[k]?=yi (one1 b t v)):w.cell? ⟨b,0,Ai⟩=yi v:=h.ZB hk (j:=0) (show 0<1 by omega)
theorem Si.ca0{ls:List Row}{w:ui}(h:Si L w0 rows ls w){t:Nat}(ht:(t==L.ev)=gi)(v:ti):Si L w0 rows (ls++[one1 w.heap.size t v]) (w.alloc (.cells #[v] t)):=
 h.alloc #[v] t (fun _=>v) ht fun j hj=>by
  have:j=0:=by simp at hj;exact hj
  subst this;rfl
theorem Si.set1{ls:List Row}{w:ui}{k b t:Nat}{v:ti}(h:Si L w0 rows ls w)(hk:ls[k]?=yi (one1 b t v))(v':ti):Si L w0 rows (ls.set k (one1 b t v')) (w.setCell ⟨b,0,Ai⟩ v'):=
 (h.Qy hk 0 v').uS hk rfl rfl rfl fun j hj=>by
  have:j=0:=by have:j<1:=hj;omega
  subst this;rfl
abbrev fG(L:km)(g p c y:Nat)(v:Int):List Row:=[one1 p 143 (.pointer (yi ⟨g,0,Ai⟩)),one1 c 221 (.chan (yi L.c)),one1 y 2 (.int .i64 v)]
abbrev P50(p c y:Nat):Deferred:={target:=.fn (.func 111) #[.pointer (yi ⟨p,0,Ai⟩),.pointer (yi ⟨c,0,Ai⟩),.pointer (yi ⟨y,0,Ai⟩)],args:=#[]}
theorem fO{Stop:Goroutine->ui->Prop}{fr:Frame}{cs:List Frame}{ls:List Row}(hm:fr.mode=.returning)(hd:fr.defers=[P50 p c y])(w:ui)(hF:Si L w0 rows ls w)
  (h:∀w',Si L w0 rows ls w'->Ci prog gi L.R1 L.D1 Stop (G {fr with defers:=[]} cs) w'):Ci prog gi L.R1 L.D1 Stop (G fr cs) w:=by
 have hk:(baseD 111).kind≠.early:=by simp[baseD]
 refine Ac ?_;refine J8 ?_;refine ga ?_;refine Ci.pO L.Bi rfl I0 rfl rfl hm ?_;refine W9 ?_;refine K8 fun w1 K hK hF=>?_;refine I8 ?_ ?_
 ·exact xd
 clear hK K;refine W9 ?_;refine fe ?_;refine J8 ?_;refine s9 ?_;refine M8 ?_;refine J8 ?_;refine Ci.xk L.Bi I0 ?_;refine J8 ?_;refine Cd ?_;exact Ci.leaveD L.Bi func111 rfl (Dj L.Bi I0 _) (.inl ⟨hm,rfl⟩) (h _ hF)
end
structure Fv(n:Nat)(z:Nat->Int):Prop where
 lo:0<=z 45
 hi:z 45<=n
 first:z 24=0
theorem Lu(z:Nat->Int)(j:Nat)(v:Int)(i:Nat):Ji z j v i=if i=j then v else z i:=rfl
theorem Oy{n:Nat}{z:Nat->Int}(h:Fv n z)(hz:z 45≠n):Fv n (Ni z):=by
 have h1:=h.lo;have h2:=h.hi;refine⟨?_,?_,?_⟩
 ·show 0<=Ji _ 45 _ 45;rw[jo];omega
 ·show Ji _ 45 _ 45<=_;rw[jo];omega
 ·show Ji (Ji z 46 _) 45 _ 24=0;rw[Qk _ _ E0,Qk _ _ E0];exact h.first
theorem Fv.set{n:Nat}{z:Nat->Int}(h:Fv n z){j:Nat}(h1:25<=j)(h2:j≠45)(v:Int):Fv n (Ji z j v):=
 ⟨by rw[Qk _ _ E0];exact h.lo,by rw[Qk _ _ E0];exact h.hi,by rw[Qk _ _ E0];exact h.first⟩
theorem Fv.jump{n:Nat}{z:Nat->Int}(h:Fv n z){v:Int}(h1:0<=v)(h2:v<=n):Fv n (Ji z 45 v):=
 ⟨by rw[jo];exact h1,by rw[jo];exact h2,by rw[Qk _ _ E0];exact h.first⟩
theorem m00{n:Nat}{z:Nat->Int}(h:z 24=0):Fv n (Uk z):=by
 have e:Uk z 45=0:=by
  have:Uk z 45=z 24:=rfl;rw[this];exact h
 exact⟨by rw[e];omega,by rw[e];omega,h⟩
def Ho(k y:Int):Value:=.agg #[.int .i64 3,.int .i64 k,.int .i64 y]
section
variable {L:km}{w0:ui}{rows:List Row}{ic g nb p c y cb co n cc:Nat}{num:Int}{z ci:Nat->Int}
theorem Jx{w:ui}{v:Int}{tmps:Array ti}(hF:Si L w0 rows (fG L g p c y v) w)(h8:tmps.getD 8 ri=.pointer (yi ⟨y,0,Ai⟩)):qp prog L.R1 L.D1 84 Tryz.f84 tmps w (.int .i64 v):=fun w₁ hR=>by
 replace hF:=hF.rely hR;have hc:w₁.cell? ⟨y,0,Ai⟩=yi (.int .i64 v):=hF.l1 (k:=2) rfl;have h8':tmps[8]?.getD ri=.pointer (yi ⟨y,0,Ai⟩):=by simpa using h8
 constructor
 ·simp[results,asAddr,go_sem,hc,h8']
 ·refine hF.vk (k:=2) rfl fun e he=>?_;have hm:=mem_seen he;simp[results,asAddr,go_sem,hc,h8']at hm;subst hm;exact⟨_,rfl⟩
end
abbrev lX(b0 b1 b2 b3:Nat):Deferred:={target:=.fn (.func 83) #[.pointer (yi ⟨b0,0,Ai⟩),.pointer (yi ⟨b1,0,Ai⟩),.pointer (yi ⟨b2,0,Ai⟩),.pointer (yi ⟨b3,0,Ai⟩)],args:=#[]}
abbrev DG(P:Program)(d:Deferred):Frame:={(default:Frame)with fn:=P.funcs.size,defers:=[d],mode:=.panicking [goexitEntry]}
abbrev closeD(c:Nat):Deferred:={target:=.builtin .close #[190] 0 #[gi],args:=#[.chan (yi c)]}
section
variable {L:km}{w0:ui}{rows:List Row}{ic g nb b0 b1 b2 b3 cb co n cc:Nat}{num:Int}{z ci:Nat->Int}
theorem w10{FS:ui->Prop}{a:Act}{todo:List Item}{w:ui}(hd:a.defers=[closeD L.c])(hF:FS w):fD prog L.c FS (G {(baseD 83).at a todo with mode:=.returning} [{DG prog (lX b0 b1 b2 b3)with defers:=[]}]) w:=by
 refine⟨rfl,hF,G {(baseD 83).at ⟨a.tmps,[]⟩ todo with mode:=.returning} [{DG prog (lX b0 b1 b2 b3)with defers:=[]}],2,?_,fun s r tm hc=>?_⟩
 ·refine .inr ⟨rfl,G {DG prog (lX b0 b1 b2 b3)with defers:=[]} [],#[],P0,fun w=>?_,.inr ⟨rfl,{frame:={DG prog (lX b0 b1 b2 b3)with defers:=[]},callers:=[],status:=.finished,dying:=Ai},#[],P0,fun w=>?_,rfl,rfl⟩⟩
  ·have hr:(results Tryz.f83 a.tmps).run prog w=.ok (.tuple #[]) w:=results_none I0 _ _ w;have he:(results Tryz.f83 a.tmps).events prog w #[]=#[]:=events_results_none I0 _ _;simp[G,stepG,Go.unwind,doReturn,Frame.at,baseD,func83,hr,he,GStep.after,seen_none,goexitEntry]
  ·simp[G,stepG,Go.unwind,Frame.catches,goexitEntry];rfl
 ·have h1:=run_close_open (P:=prog) (w:=w) #[190] 0 hc;have h2:=events_close_open (P:=prog) (w:=w) (es:=#[]) #[190] 0 hc;have h3:seen prog 83 (closeEvents L.c)=closeEvents L.c:=seen_eq J0 (by intro e he f;simp only[closeEvents,List.mem_toArray,List.mem_cons,List.not_mem_nil,or_false]at he;rcases he with rfl|rfl<;>simp);have h2':(Builtin.close_ #[190] 0 #[.chan (yi L.c)]).events prog w #[]=closeEvents L.c:=h2;simp[G,stepG,Go.unwind,Frame.at,baseD,hd,callDeferred,invoke,builtin,h1,h2',h3,GStep.after,World.setChan]
end
section
variable {L:km}{w w':ui}
theorem eV(hB:L.B<=w.heap.size)(hc:L.c<w.heap.size)(cs:Array ti)(f:Nat->ti)(hf:∀j,j<cs.size->cs[j]?=yi (f j)):Ow L L.main L.send (w.alloc (.cells cs L.ev)) w.heap.size cs.size L.ev f:=by
 have hn:(w.alloc (.cells cs L.ev)).heap[w.heap.size]?=yi (.cells cs L.ev (0,0)):=heap_alloc_new w _;refine⟨⟨.new w cs L.ev f hf,⟨_,hn⟩,E0,fun o ho hm=>?_⟩,fun o ho=>?_⟩
 ·rw[hn]at ho;cases ho;rcases hm.2 with⟨h,_⟩|⟨_,h⟩
  ·omega
  ·simp[gG]at h
 ·rw[hn]at ho;cases ho;exact⟨E0,.inr ⟨hB,by simp[gG]⟩⟩
theorem Turn.setRow{mine:Nat->Obj->Prop}(w:ui)(g:Nat)(arr cur:Array ti)(t:Nat)(hg:w.heap[g]?=yi (.cells cur t (0,0)))(hm:mine g (.cells cur t (0,0))):Turn L mine w (w.setRow g arr):=by
 refine⟨rfl,rfl,rfl,P0,fun b o ho=>?_⟩;by_cases hb:b=g
 ·subst hb;rw[hg]at ho;cases ho;exact⟨_,setRow_heap w b cur arr t (0,0) hg,fun _=>rfl,fun _ x=>absurd hm x⟩
 ·exact⟨o,by rw[setRow_other w g b arr (by exact hb)];exact ho,fun _=>rfl,fun _ _=>rfl⟩
def ev3(k a b:Int)(j:Nat):Value:=.int .i64 (if j=0 then k else if j=1 then a else b)
def evV(k a b:Int):Value:=.agg #[.int .i64 k,.int .i64 a,.int .i64 b]
structure Mt(L:km)(w0:ui)(T nC:Nat)(f:Nat->ti)(E:Nat)(e:Nat->ti)(w:ui):Prop where
 ph:Turn L L.both w0 w
 row:Ow L L.main L.send w T nC 61 f
 wu:Ow L L.main L.send w E 3 L.ev e
 hB:L.B<=w.heap.size
 hc:L.c<w.heap.size
structure Mo(L:km)(E:Nat)(v:ti)(m:Nat)(xs:List ti)(w:ui):Prop where
 own:w.ownsRow 0 L.ev 3 v m xs
 blk:∀b,v.ownBlock=yi b->Calm L L.send w b/\Mine L.main w b
 ne:∀b,v.ownBlock=yi b->b≠E
variable {w0:ui}{T nC E m:Nat}{f e:Nat->ti}{v:ti}{xs:List ti}
theorem Mt.rely(h:Mt L w0 T nC f E e w)(r:L.R0 w w'):Mt L w0 T nC f E e w':=
 ⟨h.ph.trans (r.mono fun _ _ x=>.inr x),h.row.rely r,h.wu.rely r,Nat.le_trans h.hB r.size,Nat.lt_of_lt_of_le h.hc r.size⟩
theorem Lr{w w':ui}(h:w.ownsRow 0 L.ev 3 v m xs)(hb:∀b,v.ownBlock=yi b->w'.heap[b]?=w.heap[b]?):w'.ownsRow 0 L.ev 3 v m xs:=by
 refine⟨h.1,?_⟩;rcases h.2 with h|⟨g,cap,cur,rfl,h1,h2,h3⟩
 ·exact .inl h
 ·exact .inr ⟨g,cap,cur,rfl,h1,by rw[hb g rfl];exact h2,h3⟩
theorem Mo.rely(h:Mo L E v m xs w)(r:L.R0 w w'):Mo L E v m xs w':=
 ⟨Lr h.own fun b hb=>(h.blk b hb).1.stands r,fun b hb=>⟨(h.blk b hb).1.rely r,(h.blk b hb).2.rely (h.blk b hb).1 r⟩,h.ne⟩
theorem Mt.still(h:Mt L w0 T nC f E e w){b:Nat}(hs:Still L w0 b):w.heap[b]?=w0.heap[b]?:=by
 exact Af
theorem Mt.nj(h:Mt L w0 T nC f E e w){a:Addr}(hs:Still L w0 a.block):w.cell? a=w0.cell? a:=by
 unfold World.cell?;rw[h.still hs]
theorem Mt.Aj(h:Mt L w0 T nC f E e w){b:Nat}(hs:Still L w0 b){es:Array Event}(zn:∀e∈es,∃j,e=⟨.cell ⟨b,j,Ai⟩,gi,gi⟩):L.D0 w w es:=
 .look w fun e he=>by
  exact Be
theorem Ow.H20{g m t:Nat}{f:Nat->ti}(h:Ow L L.main L.send w g m t f){es:Array Event}(zn:∀e∈es,∃j,e=⟨.cell ⟨g,j,Ai⟩,gi,gi⟩):L.D0 w w es:=
 .look w fun e he=>by obtain⟨j,rfl⟩:=zn e he;exact h.look j
theorem Mt.turn(h:Mt L w0 T nC f E e w)(ht:L.R1 w w')(h1:w'.heap[T]?=w.heap[T]?)(h2:w'.heap[E]?=w.heap[E]?):Mt L w0 T nC f E e w':=
 ⟨h.ph.trans (ht.mono fun _ _ x=>.inl x),⟨⟨h.row.rw.row.of_heap h1,h.row.rw.calm.turn L.Bj ht⟩,h.row.own.turn L.Cj h.row.rw.calm.there ht⟩,
  ⟨⟨h.wu.rw.row.of_heap h2,h.wu.rw.calm.turn L.Bj ht⟩,h.wu.own.turn L.Cj h.wu.rw.calm.there ht⟩,Nat.le_trans h.hB ht.size,Nat.lt_of_lt_of_le h.hc ht.size⟩
theorem Mo.turn(h:Mo L E v m xs w)(ht:L.R1 w w')(hb:∀b,v.ownBlock=yi b->w'.heap[b]?=w.heap[b]?):Mo L E v m xs w':=
 ⟨Lr h.own hb,fun b hv=>⟨(h.blk b hv).1.turn L.Bj ht,(h.blk b hv).2.turn L.Cj (h.blk b hv).1.there ht⟩,h.ne⟩
theorem Mo.lt(h:Mo L E v m xs w){b:Nat}(hb:v.ownBlock=yi b):b<w.heap.size:=by
 obtain⟨o,ho⟩:=(h.blk b hb).1.there;exact(Array.getElem?_eq_some_iff.1 ho).1
theorem nH(w:ui)(o:Obj){b:Nat}(hb:b<w.heap.size):(w.alloc o).heap[b]?=w.heap[b]?:=heap_alloc_old w o hb
theorem ZO{P:Program}{i:TypeInfo}(vm:P.info? L.ev=yi i)(hz:i.zero=yi (.agg #[.int .i64 0,.int .i64 0,.int .i64 0]))(hsz:i.size=3)(RG:i.bytes=24){t ty:TypeId}(ht:P.underlying t=yi (.slice L.ev))(ho:Mo L E v m xs w)(S:Nat)(k a b:Int)(hS:w.heap[S]?=yi (.cells #[.int .i64 k,.int .i64 a,.int .i64 b] L.ev (0,0)))
  (hm:m<=1000000000):∃g cap w',(Builtin.append_ #[t,t] ty #[v,.slice (yi ⟨S,0,Ai⟩) 1 1]).run P w=.ok (.slice (yi ⟨g,0,Ai⟩) (m+1) cap) w'/\w'.ownsRow 0 L.ev 3 (.slice (yi ⟨g,0,Ai⟩) (m+1) cap) (m+1) (xs++[.int .i64 k,.int .i64 a,.int .i64 b])/\L.R1 w w'/\
   (∀x,x<w.heap.size->v.ownBlock≠yi x->w'.heap[x]?=w.heap[x]?)/\(v.ownBlock=yi g\/g=w.heap.size)/\g<w'.heap.size:=by
 have Zq:∀(j:Nat)(u:ti),[Value.int .i64 k,.int .i64 a,.int .i64 b][j]?=yi u->w.cell? ((⟨S,0,Ai⟩:Addr).add j)=yi u:=by
  have:=World.news_of_block hS;exact Yc
 have h1:∀u∈[Value.int .i64 k,.int .i64 a,.int .i64 b],u.oneCell'=true:=D2;have zV:m+1<=maxLen:=by simp only[maxLen];omega
 obtain⟨g,cap,w',hr,h2,h3,h4,h5⟩:=run_append_lies (P:=P) w t ty 0 L.ev i _ 3 24 ht vm hz hsz RG rfl E0 v m xs ho.own ⟨S,0,Ai⟩ 1 1 [.int .i64 k,.int .i64 a,.int .i64 b] rfl Zq h1 E0 zV E0 (Nat.zero_le _) w.heap.size rfl;refine⟨g,cap,w',hr,h2,?_,fun x hx Jj=>h3.block x hx (fun e=>Jj e.symm),h4,h5⟩;have hl:[Value.int .i64 k,.int .i64 a,.int .i64 b].length=1*i.size:=by rw[hsz];rfl
 rcases ho.own.2 with⟨rfl,rfl⟩|⟨g0,yj,cur,rfl,_,hg,hnc,_,hcs,_⟩
 ·have DI:=run_append_nil (P:=P) w t ty L.ev i _ ht vm hz ⟨S,0,Ai⟩ 1 1 _ hl Zq E0 E0 (by rw[RG];omega);exact Fh
 ·by_cases XC:m+1<=yj
  ·have qH:m*i.size+[Value.int .i64 k,.int .i64 a,.int .i64 b].length<=cur.size:=by
    rw[hsz,hcs];show m*3+3<=yj*3;omega
   have DI:=run_append_room (P:=P) w t ty L.ev i ht vm g0 m yj cur hg ⟨S,0,Ai⟩ 1 1 _ hl Zq h1 XC qH;rw[hr]at DI;injection DI with _ e
   subst e;exact Turn.setRow w g0 _ cur L.ev hg ((ho.blk g0 rfl).2 _ hg)
  ·have holds:∀(j:Nat)(u:ti),xs[j]?=yi u->w.cell? ((⟨g0,0,Ai⟩:Addr).add j)=yi u:=ho.own.cells (g:=g0) rfl;have DI:=run_append_grow (P:=P) w t ty L.ev i _ ht vm hz ⟨g0,0,Ai⟩ m yj xs (by rw[hsz];exact ho.own.1) holds ⟨S,0,Ai⟩ 1 1 _ hl Zq E0 E0 (growslice_fits E0 (by rw[RG];omega));exact Fh
theorem fP{P:Program}{i:TypeInfo}(vm:P.info? L.ev=yi i)(hz:i.zero=yi (.agg #[.int .i64 0,.int .i64 0,.int .i64 0]))(hsz:i.size=3)(RG:i.bytes=24){t:TypeId}(ht:P.underlying t=yi (.slice L.ev))(ho:Mo L E v m xs w)(S:Nat)(k a b:Int)(hS:Ow L L.main L.send w S 3 L.ev (ev3 k a b))
  (hm:m<=1000000000)(uQ:L.R1 w w')(yB:w'.heap[L.c]?=w.heap[L.c]?){fn:FuncId}{A:Act}{o:Oper}(x y:Operand)(hop:o.op=.call {callee:=.builtin .append,args:=#[x,y],argTypes:=#[t,t]})(hx:A.eval x=v)(hy:A.eval y=.slice (yi ⟨S,0,Ai⟩) 1 1):L.D0 w w' (listed P fn A o w):=by
 refine⟨uQ,yB,fun e he=>?_⟩;have he:=mem_listed he;rw[events_append_op x y t hop hx hy]at he;have Zq:∀(j:Nat)(u:ti),[Value.int .i64 k,.int .i64 a,.int .i64 b][j]?=yi u->w.cell? ((⟨S,0,Ai⟩:Addr).add j)=yi u:=fun j u hu=>by
  have hj:j<3:=by
   have:=(List.getElem?_eq_some_iff.1 hu).1;exact Yc
  rw[Addr.add_mid,Nat.zero_add,hS.cell hj];have:j=0\/j=1\/j=2:=E0;rcases this with rfl|rfl|rfl<;>exact hu
 have ru:∀c,Calm L L.send w c->Mine L.main w c->∀wr sy ad,ad.block=c->Av L L.main L.send w' ⟨.cell ad,wr,sy⟩:=fun c h1 h2 wr sy ad hc=>by
  obtain⟨q,hq⟩:=h1.there;obtain⟨q',g1,g2,_⟩:=uQ.at_ c q hq;refine⟨Yj _ _ _,fun z hz _=>?_⟩;have:z=⟨.cell ad,wr,if sy then .atomic else .plain⟩:=by
   cases wr<;>cases sy<;>simp[MemAct.ofEvent,MemAct.touch?]at hz<;>exact hz.symm
  subst this;exact⟨q',by rw[hc];exact g1,by rw[hc];exact fun hm=>h1.no q hq (L.Bj c q' q (fun x=>(g2 x).symm) hm),fun _=>by rw[hc];exact L.Cj c q q' g2 (h2 q hq)⟩
 rcases events_append_where (P:=P) w 0 t o.type L.ev i _ 3 24 ht vm hz hsz RG v m xs ho.own ⟨S,0,Ai⟩ 1 1 [.int .i64 k,.int .i64 a,.int .i64 b] rfl Zq D2 Y1 E0 e he with⟨ad,h1,h2⟩|⟨q,rfl,hq⟩
 ·obtain⟨loc,wr,sy⟩:=e;simp only at h1;subst h1;rcases h2 with⟨_,h2⟩|h2
  ·exact ru S hS.rw.calm hS.own _ _ ad h2
  ·exact ru ad.block (ho.blk _ h2.symm).1 (ho.blk _ h2.symm).2 _ _ ad rfl
 ·refine⟨⟨fun h=>?_,fun h=>?_⟩,fun z hz=>?_⟩
  ·exact ah
  ·exact ah
  ·exact Qd
end
noncomputable def eE:Code:=match Tryz.f31.body with
 |some (.seq _ (.seq _ (.block _ (.loop c))))=>c
 |_=>.skip
noncomputable def d80:Array Oper:=match eE with
 |.seq (.region _ ops _) _=>ops
 |_=>#[]
noncomputable def l30:Code:=match eE with
 |.seq _ c=>c
 |_=>.skip
def LH:Value:=.agg #[.int .i64 0,.int .i64 0,.int .i64 0]
def Qj:ti->List ti
 |.agg cs=>cs.toList
 |_=>[]
def AK(v:ti):Prop:=∃k a b,v=evV k a b
section
variable {P:Program}{L:km}{Fin:Goroutine->ui->Prop}{z:ti}{b:Frame}{a:Act}{k:List Item}{cs:List Frame}{w:ui}{ops:Array Oper}{i:Nat}{rest:List Nat}{o:Oper}
theorem IK(ho:ops[i]?=yi o)(hw:Region.wanted o (yielded ops a.tmps)=ji)(hk:b.kind≠.early)(hr:∀w,(execOp a.eval o).run P w=.ok (.comm #[rcase L.c z] ji (.recv ji)) w)(he:∀w,(execOp a.eval o).events P w #[]=#[])(w₁:ui):
  stepG P ji (G (b.at a (.inRegion ops (i::rest)::k)) cs) w₁=.comm (core (G (b.at a (.inRegion ops (i::rest)::k)) cs)) #[rcase L.c z] ji (.recv ji) w₁ #[]:=by
 rw[stepG_comm ho hw hk (hr w₁),listed_nil (he w₁)];rfl
theorem xK(ho:ops[i]?=yi o)(v:ti):Go.Conc.served (core (G (b.at a (.inRegion ops (i::rest)::k)) cs)) v=G (b.at (a.put o.dst v) (.inRegion ops rest::k)) cs:=by
 rw[core_G,served_G];simp[ho]
theorem Ci.h50(ho:ops[i]?=yi o)(hw:Region.wanted o (yielded ops a.tmps)=ji)(hk:b.kind≠.early)(hr:∀w,(execOp a.eval o).run P w=.ok (.comm #[rcase L.c z] ji (.recv ji)) w)(he:∀w,(execOp a.eval o).events P w #[]=#[])
  (h:∀w₂,L.R0 w w₂->Fin (G (b.at (a.put o.dst (.tuple #[z,.bool gi])) (.inRegion ops rest::k)) cs) w₂):Ci P ji L.R0 L.D0 (StopA P L.c z L.R0 L.D0 L.ML Fin []) (G (b.at a (.inRegion ops (i::rest)::k)) cs) w:=
 .stop rfl fun w₁ r=>⟨#[],IK ho hw hk hr he w₁,P0,fun w₂ r₂=>by
  show Fin (Go.Conc.served (core _) _) _;rw[xK ho];exact h w₂ (r.trans r₂)⟩
theorem Ci.k00{v:ti}{vs:List ti}(ho:ops[i]?=yi o)(hw:Region.wanted o (yielded ops a.tmps)=ji)(hk:b.kind≠.early)(hr:∀w,(execOp a.eval o).run P w=.ok (.comm #[rcase L.c z] ji (.recv ji)) w)(he:∀w,(execOp a.eval o).events P w #[]=#[])
  (h:Ci P ji L.R0 L.D0 (StopA P L.c z L.R0 L.D0 L.ML Fin vs) (G (b.at (a.put o.dst (.tuple #[v,.bool ji])) (.inRegion ops rest::k)) cs) w):Ci P ji L.R0 L.D0 (StopA P L.c z L.R0 L.D0 L.ML Fin (v::vs)) (G (b.at a (.inRegion ops (i::rest)::k)) cs) w:=
 .stop rfl fun w₁ r=>⟨#[],IK ho hw hk hr he w₁,P0,fun w₂ r₂=>by
  show Ci _ _ _ _ _ (Go.Conc.served (core _) _) _;rw[xK ho];exact(h.rely L.ik.trans r).rely L.ik.trans r₂⟩
end
theorem dM:∃i,prog.info? 111=yi i/\i.zero=yi (.agg #[.int .i64 0,.int .i64 0,.int .i64 0])/\i.size=3/\i.bytes=24:=by
 have h:(prog.info? 111).map (fun i=>(i.zero,i.size,i.bytes))=yi (yi (.agg #[.int .i64 0,.int .i64 0,.int .i64 0]),3,24):=J0;cases hi:prog.info? 111 with
 |none=>rw[hi]at h;cases h
 |some i=>
  rw[hi]at h;simp at h;exact⟨i,rfl,h.1,h.2.1,h.2.2⟩
section
variable {L:km}{w0:ui}{kb wb T nC cell:Nat}
theorem Mt.wrote{f:Nat->ti}{E:Nat}{e:Nat->ti}{w:ui}(Jj:L.ev≠61)(h:Mt L w0 T nC f E e w)(j:Nat)(v:ti):Mt L w0 T nC f E (fun i=>if i=j then v else e i) (w.setCell ⟨E,j,Ai⟩ v):=by
 have ht:=h.wu.Hl j v;exact⟨h.ph.trans (ht.mono fun _ _ x=>.inl x),h.row.apart L.Cj L.Bj h.wu j v Jj,h.wu.set L.Cj L.Bj j v,L6,M6⟩
theorem Mo.wrote{f:Nat->ti}{E m:Nat}{e:Nat->ti}{v:ti}{xs:List ti}{w:ui}(h:Mt L w0 T nC f E e w)(ho:Mo L E v m xs w)(j:Nat)(x:ti):Mo L E v m xs (w.setCell ⟨E,j,Ai⟩ x):=
 ho.turn (h.wu.Hl j x) fun b hb=>heap_setCell_other w _ b x (ho.ne b hb)
theorem Mt.o90{f:Nat->ti}{E m:Nat}{v:ti}{xs:List ti}{w:ui}(Jj:L.ev≠61)(h:Mt L w0 T nC f E (ev3 0 0 0) w)(ho:Mo L E v m xs w)(k a b:Int):
  Mt L w0 T nC f E (ev3 k a b) (((w.setCell ⟨E,0,Ai⟩ (.int .i64 k)).setCell ⟨E,1,Ai⟩ (.int .i64 a)).setCell ⟨E,2,Ai⟩ (.int .i64 b))/\Mo L E v m xs (((w.setCell ⟨E,0,Ai⟩ (.int .i64 k)).setCell ⟨E,1,Ai⟩ (.int .i64 a)).setCell ⟨E,2,Ai⟩ (.int .i64 b))/\
   L.R1 w (((w.setCell ⟨E,0,Ai⟩ (.int .i64 k)).setCell ⟨E,1,Ai⟩ (.int .i64 a)).setCell ⟨E,2,Ai⟩ (.int .i64 b))/\(((w.setCell ⟨E,0,Ai⟩ (.int .i64 k)).setCell ⟨E,1,Ai⟩ (.int .i64 a)).setCell ⟨E,2,Ai⟩ (.int .i64 b)).heap[L.c]?=w.heap[L.c]?:=by
 have h1:=h.wrote Jj 0 (.int .i64 k);have h2:=h1.wrote Jj 1 (.int .i64 a);have h3:=h2.wrote Jj 2 (.int .i64 b);have o1:=Mo.wrote h ho 0 (.int .i64 k);have o2:=Mo.wrote h1 o1 1 (.int .i64 a);have o3:=Mo.wrote h2 o2 2 (.int .i64 b);refine⟨⟨h3.ph,h3.row,h3.wu.congr fun j hj=>?_,h3.hB,h3.hc⟩,o3,((h.wu.Hl 0 _).trans (h1.wu.Hl 1 _)).trans (h2.wu.Hl 2 _),?_⟩
 ·have:j=0\/j=1\/j=2:=by omega
  rcases this with rfl|rfl|rfl<;>rfl
 ·have hn:=h.wu.rw.calm.nc;simp only[World.setCell,Array.getElem?_modify,if_neg hn]
theorem Mt.ev{f:Nat->ti}{E:Nat}{k a b:Int}{w:ui}(h:Mt L w0 T nC f E (ev3 k a b) w):w.cell? ⟨E,0,Ai⟩=yi (.int .i64 k)/\w.cell? ⟨E,1,Ai⟩=yi (.int .i64 a)/\w.cell? ⟨E,2,Ai⟩=yi (.int .i64 b):=⟨h.wu.cell E0,h.wu.cell E0,h.wu.cell E0⟩
theorem Mt.yh0{f:Nat->ti}{E:Nat}{e:Nat->ti}{w:ui}(h:Mt L w0 T nC f E e w):w.frozen? ⟨E,0,Ai⟩=gi/\w.frozen? ⟨E,1,Ai⟩=gi/\w.frozen? ⟨E,2,Ai⟩=false:=⟨h.wu.frozen 0,h.wu.frozen 1,h.wu.frozen 2⟩
theorem Ow.rf0{w w':ui}{g m t:Nat}{f:Nat->ti}(ho:Ow L L.main L.send w g m t f)(ht:L.R1 w w')(yB:w'.heap[L.c]?=w.heap[L.c]?){es:Array Event}(zn:∀e∈es,∃j wr,e=⟨.cell ⟨g,j,Ai⟩,wr,gi⟩):L.D0 w w' es:=by
 obtain⟨o,hg⟩:=ho.rw.calm.there;refine⟨ht,yB,fun e he=>?_⟩;obtain⟨j,wr,rfl⟩:=zn e he;obtain⟨o',h1,h2,_⟩:=ht.at_ g o hg;have hn:¬L.send g o':=fun hm=>ho.rw.calm.no o hg (L.Bj g o' o (fun hc=>(h2 hc).symm) hm);cases wr with
 |false=>exact Av.read (a:=⟨g,j,Ai⟩) h1 hn
 |true=>exact Av.write (a:=⟨g,j,Ai⟩) h1 hn (L.Cj g o o' h2 (ho.own o hg))
structure Ms(L:km)(w0:ui)(T nC:Nat)(f:Nat->ti)(cell m:Nat)(xs:List ti)(w:ui):Prop where
 ph:Turn L L.both w0 w
 row:Ow L L.main L.send w T nC 61 f
 hB:L.B<=w.heap.size
 hc:L.c<w.heap.size
 own:w.ownsRow 0 L.ev 3 (f cell) m xs
 blk:∀b,(f cell).ownBlock=yi b->Calm L L.send w b/\Mine L.main w b
theorem Ms.rely{f:Nat->ti}{m:Nat}{xs:List ti}{w w':ui}(h:Ms L w0 T nC f cell m xs w)(r:L.R0 w w'):Ms L w0 T nC f cell m xs w':=
 ⟨h.ph.trans (r.mono fun _ _ x=>.inr x),h.row.rely r,Nat.le_trans h.hB r.size,Nat.lt_of_lt_of_le h.hc r.size,Lr h.own fun b hb=>(h.blk b hb).1.stands r,fun b hb=>⟨(h.blk b hb).1.rely r,(h.blk b hb).2.rely (h.blk b hb).1 r⟩⟩
theorem Ms.new{f:Nat->ti}{m:Nat}{xs:List ti}{w:ui}(h:Ms L w0 T nC f cell m xs w)(k a b:Int):Mt L w0 T nC f w.heap.size (ev3 k a b) (w.alloc (.cells #[.int .i64 k,.int .i64 a,.int .i64 b] L.ev))/\Mo L w.heap.size (f cell) m xs (w.alloc (.cells #[.int .i64 k,.int .i64 a,.int .i64 b] L.ev)):=by
 have ht:Turn L L.main w (w.alloc (.cells #[.int .i64 k,.int .i64 a,.int .i64 b] L.ev)):=.alloc w _;have Wi:∀b',(f cell).ownBlock=yi b'->b'<w.heap.size:=fun b' uk=>by
  obtain⟨o,ho⟩:=(h.blk b' uk).1.there;exact(Array.getElem?_eq_some_iff.1 ho).1
 refine⟨⟨h.ph.trans (ht.mono fun _ _ x=>.inl x),h.row.alloc L.Cj L.Bj _,eV h.hB h.hc _ _ fun j hj=>?_,by simp;have:=h.hB;omega,by simp;have:=h.hc;omega⟩,
  ⟨Lr h.own fun b' uk=>nH w _ (Wi b' uk),fun b' uk=>⟨(h.blk b' uk).1.turn L.Bj ht,(h.blk b' uk).2.turn L.Cj (h.blk b' uk).1.there ht⟩,fun b' uk=>by have:=Wi b' uk;omega⟩⟩
 have:j=0\/j=1\/j=2:=by simp at hj;omega
 rcases this with rfl|rfl|rfl<;>rfl
theorem Mt.src{f:Nat->ti}{E m:Nat}{e:Nat->ti}{v:ti}{xs:List ti}{w:ui}(h:Mt L w0 T nC f E e w)(ho:Mo L E v m xs w)(k a b:Int):
  Mt L w0 T nC f E e (w.alloc (.cells #[.int .i64 k,.int .i64 a,.int .i64 b] L.ev))/\Mo L E v m xs (w.alloc (.cells #[.int .i64 k,.int .i64 a,.int .i64 b] L.ev))/\Ow L L.main L.send (w.alloc (.cells #[.int .i64 k,.int .i64 a,.int .i64 b] L.ev)) w.heap.size 3 L.ev (ev3 k a b):=by
 have ht:Turn L L.main w (w.alloc (.cells #[.int .i64 k,.int .i64 a,.int .i64 b] L.ev)):=.alloc w _;refine⟨⟨h.ph.trans (ht.mono fun _ _ x=>.inl x),h.row.alloc L.Cj L.Bj _,h.wu.alloc L.Cj L.Bj _,by simp;have:=h.hB;omega,by simp;have:=h.hc;omega⟩,ho.turn ht fun b' uk=>nH w _ (ho.lt uk),eV h.hB h.hc _ _ fun j hj=>?_⟩;have:j=0\/j=1\/j=2:=by simp at hj;omega
 rcases this with rfl|rfl|rfl<;>rfl
theorem Ow.Ad0{w:ui}{S:Nat}{k a b:Int}(h:Ow L L.main L.send w S 3 L.ev (ev3 k a b)):w.heap[S]?=yi (.cells #[.int .i64 k,.int .i64 a,.int .i64 b] L.ev (0,0)):=by
 obtain⟨cs,h1,h2,h3⟩:=h.rw.row;rw[h1];congr 2;refine Array.ext (by simpa using h2) fun j hj Vs=>?_;have:=h3 j E0;rw[Array.getElem?_eq_getElem hj]at this;injection this with this
 rw[this];have:j=0\/j=1\/j=2:=by simp at Vs;omega
 rcases this with rfl|rfl|rfl<;>rfl
theorem Mo.neT{f:Nat->ti}{E m:Nat}{e:Nat->ti}{v:ti}{xs:List ti}{w:ui}(Jj:L.ev≠61)(h:Mt L w0 T nC f E e w)(ho:Mo L E v m xs w){b:Nat}(hb:v.ownBlock=yi b):b≠T:=fun e0=>by
 subst e0;obtain⟨cs,h1,_⟩:=h.row.rw.row;rcases ho.own.2 with⟨rfl,_⟩|⟨g0,yj,cur,rfl,_,hg,_⟩
 ·exact Wh
 ·have:g0=b:=by simpa[Value.ownBlock]using hb
  subst this;rw[h1]at hg;injection hg with hg
  injection hg with _ hg
  exact Jj hg.symm
theorem Mt.appended{f:Nat->ti}{E m:Nat}{e:Nat->ti}{v:ti}{xs ys:List ti}{w w':ui}{g cap:Nat}(Jj:L.ev≠61)(h:Mt L w0 T nC f E e w)(ho:Mo L E v m xs w)(ht:L.R1 w w')(rj:w'.ownsRow 0 L.ev 3 (.slice (yi ⟨g,0,Ai⟩) (m+1) cap) (m+1) ys)
  (vJ:∀x,x<w.heap.size->v.ownBlock≠yi x->w'.heap[x]?=w.heap[x]?)(hg:v.ownBlock=yi g\/g=w.heap.size)(Wi:g<w'.heap.size):
  Mt L w0 T nC f E e w'/\Mo L E (.slice (yi ⟨g,0,Ai⟩) (m+1) cap) (m+1) ys w'/\w'.heap[L.c]?=w.heap[L.c]?:=by
 have hT:T<w.heap.size:=by
  obtain⟨o,FB⟩:=h.row.rw.calm.there;exact(Array.getElem?_eq_some_iff.1 FB).1
 have hE:E<w.heap.size:=by
  obtain⟨o,FB⟩:=h.wu.rw.calm.there;exact(Array.getElem?_eq_some_iff.1 FB).1
 have hgE:w'.heap[g]?≠Ai/\(∀o,w'.heap[g]?=yi o->gG L.ev o=ji):=by
  rcases rj.2 with⟨hx,_⟩|⟨g0,yj,cur,hx,_,hh,_⟩
  ·simp at hx
  ·have:g=g0:=by simp at hx;exact hx.1
   subst this;exact⟨by rw[hh];simp,fun o FB=>by rw[hh]at FB;cases FB;simp[gG]⟩
 have hgC:v.ownBlock=yi g\/(L.B<=g/\g≠L.c/\g≠E):=by
  rcases hg with hg|hg
  ·exact .inl hg
  ·subst hg;exact .inr ⟨h.hB,by have:=h.hc;omega,E0⟩
 refine⟨h.turn ht (vJ T hT fun hb=>Mo.neT Jj h ho hb rfl) (vJ E hE fun hb=>ho.ne E hb rfl),⟨rj,fun b hb=>?_,fun b hb=>?_⟩,vJ L.c h.hc fun hb=>(ho.blk _ hb).1.nc rfl⟩
 ·have:g=b:=by simpa[Value.ownBlock]using hb
  subst this;rcases hgC with hg|⟨g1,g2,g3⟩
  ·exact⟨(ho.blk g hg).1.turn L.Bj ht,(ho.blk g hg).2.turn L.Cj (ho.blk g hg).1.there ht⟩
  ·refine⟨⟨Option.ne_none_iff_exists'.1 hgE.1,g2,fun o FB hs=>?_⟩,fun o FB=>⟨g2,.inr ⟨g1,hgE.2 o FB⟩⟩⟩;rcases hs.2 with⟨hs,_⟩|⟨_,hs⟩
   ·omega
   ·rw[hgE.2 o FB]at hs;cases hs
 ·have:g=b:=by simpa[Value.ownBlock]using hb
  subst this;rcases hgC with hg|⟨g1,g2,g3⟩
  ·exact ho.ne g hg
  ·exact g3
theorem Mt.put{f:Nat->ti}{E m:Nat}{e:Nat->ti}{v:ti}{xs:List ti}{w:ui}(Jj:L.ev≠61)(h:Mt L w0 T nC f E e w)(ho:Mo L E v m xs w)(cell:Nat):Ms L w0 T nC (fun i=>if i=cell then v else f i) cell m xs (w.setCell ⟨T,cell,Ai⟩ v):=by
 have ht:=h.row.Hl cell v;have FB:=ho.turn ht fun b hb=>heap_setCell_other w _ b v (Mo.neT Jj h ho hb);exact⟨h.ph.trans (ht.mono fun _ _ x=>.inl x),h.row.set L.Cj L.Bj cell v,L6,M6,by simpa using FB.own,by simpa using FB.blk⟩
end
end Go.Proofs.YtdoghgnifkgfdaaGreat.Mute
