import Derived.Test.YtdoghgnifkgfdaaGreatP00
import Derived.Test.YtdoghgnifkgfdaaGreatP05
set_option maxRecDepth 100000
set_option maxHeartbeats 16000000
open Option renaming none->Ai,some->yi
open Go renaming World->ui,Value->ti,undef->ri
open Bool renaming true->ji,false->gi
namespace Go.Proofs.YtdoghgnifkgfdaaGreat.Mute
open Tryz Go Go.Conc
section
variable {P:Program}{A:Ou}{Post:Goroutine->ui->Prop}{b:Frame}{a:Act}{k:List Item}{cs:List Frame}{w:ui}
theorem bj.ctl{g g':Goroutine}(hr:g.status=.running)(h:∀w,stepG P ji g w=.go g' w)(hp:bj P Post g' w):bj P Post g w:=
 .step hr fun d=>⟨g',w.at d,#[],h _,P0,hp.at d⟩
theorem bj.seq{x y:Code}(h:bj P Post (G (b.at a (.code x::.code y::k)) cs) w):bj P Post (G (b.at a (.code (.seq x y)::k)) cs) w:=.ctl rfl (fun _=>stepG_seq) h
theorem bj.region{id:Nat}{ops:Array Oper}(h:bj P Post (G (b.at a (.inRegion ops (List.range ops.size)::k)) cs) w):bj P Post (G (b.at a (.code (.region id ops gi)::k)) cs) w:=.ctl rfl (fun _=>stepG_region) h
theorem bj.regionEnd{ops:Array Oper}(h:bj P Post (G (b.at a k) cs) w):bj P Post (G (b.at a (.inRegion ops []::k)) cs) w:=.ctl rfl (fun _=>stepG_region_end) h
theorem bj.ret(h:∀todo,bj P Post (G {b.at a todo with mode:=.returning} cs) w):bj P Post (G (b.at a (.code .ret::k)) cs) w:=.ctl rfl (fun _=>stepG_ret') (h _)
theorem sQ{α:Type}(s:Sem α)(w:ui):s.events P w #[]=(s.runT P w #[]).2:=by rw[Sem.runT_eq]
theorem Lj(H:Dk P A){o:Oper}(hs:Yo A b.fn (fun t=>a.tmps.getD t ri))(hp:gj P A b.fn o=ji)(w:ui):∀e∈listed P b.fn a o w,ko e:=by
 have ho:=ZD (ρ:=a.eval) H hs (fun _=>rfl) hp;obtain⟨_,s2⟩:=Vq P _ w #[] ho P0;unfold listed;rw[sQ];exact zm s2
theorem bj.value{ops:Array Oper}{i:Nat}{rest:List Nat}{o:Oper}{v:ti}{w':ui}(ho:ops[i]?=yi o)(hw:Region.wanted o (yielded ops a.tmps)=ji)(hk:b.kind≠.early)(hr:∀d,∃d',(execOp a.eval o).run P (w.at d)=.ok (.value v) (w'.at d'))
  (he:∀d,∀e∈listed P b.fn a o (w.at d),ko e)(h:bj P Post (G (b.at (a.put o.dst v) (.inRegion ops rest::k)) cs) w'):bj P Post (G (b.at a (.inRegion ops (i::rest)::k)) cs) w:=
 .step rfl fun d=>by
  obtain⟨d',e⟩:=hr d;exact⟨_,_,_,stepG_value ho hw hk e,he d,h.at d'⟩
def Fj(P:Program)(f:FuncId)(args:Array ti)(w:ui)(R:ti->ui->Prop):Prop:=
 ∀(cs:List Frame)(Post:Goroutine->ui->Prop),(∀fr v w',fr.fn=f->(∀d,fr.leaving P (w'.at d) (.returned v))->R v w'->bj P Post (G fr cs) w')->bj P Post (G (Frame.enter P f args .normal) cs) w
theorem Fj.mono{f:FuncId}{args:Array ti}{R R':ti->ui->Prop}(h:Fj P f args w R)(hm:∀v w',R v w'->R' v w'):Fj P f args w R':=fun cs Post hp=>h cs Post fun fr v w' a b c=>hp fr v w' a b (hm v w' c)
theorem Fj.S30(H:Dk P A)(Po:∀g,P.stepOf g=Ai){f:FuncId}{args:Array ti}(hen:vo P A f args)(R:ti->ui->Prop)
  (hc:∀τ,Calls P f args (Rj w τ 0) (fun e w'=>∃v,e=.returned v/\R v w')):Fj P f args w (fun v w'=>∃w₁ τ d d',R v (Rj w₁ τ d)/\w'=Rj w₁ w.tape d'):=fun cs Post hp=>by
 refine bj.JV cs (KF H Po hen (fun _ e w'=>∃v,e=.returned v/\R v w') hc (fun _ _ ⟨v,e,_⟩=>G3)) fun fr e w' d' hf hl ⟨τ,d,v,e1,hR⟩=>?_;subst e1;exact hp fr v (Rj w' w.tape d') hf (fun d=>hl w.tape d) ⟨w',τ,d,d',hR,rfl⟩
theorem bj.leave{fr c:Frame}{v:ti}(hl:∀d,fr.leaving P (w.at d) (.returned v))(h:bj P Post (G (c.finish v) cs) w):bj P Post (G fr (c::cs)) w:=by
 refine .step rfl fun d=>?_;obtain⟨hm,hd,hk,fn,hf,hr⟩:=hl d;have ho:=Ix (P:=P) fn fr.tmps;obtain⟨_,s2⟩:=Vq P _ (w.at d) #[] ho P0;refine⟨G (c.finish v) cs,w.at d,seen P fr.fn ((results fn fr.tmps).runT P (w.at d) #[]).2,?_,zm s2,h.at d⟩;rw[Zl (by rw[hm];simp)];have pS:((results fn fr.tmps).runT P (w.at d) #[]).1=.ok v (w.at d):=by rw[Sem.runT_fst];exact hr
 unfold unwind;cases hx:(results fn fr.tmps).runT P (w.at d) #[]with
 |mk r es=>
  rw[hx]at pS;simp only at pS;subst pS;simp only[hd,hm,hf,hx,doReturn,hk,GStep.after];simp[G]
theorem bj.call{ops:Array Oper}{i:Nat}{rest:List Nat}{o:Oper}{f:FuncId}{args:Array ti}{R:ti->ui->Prop}(ho:ops[i]?=yi o)(hw:Region.wanted o (yielded ops a.tmps)=ji)(hk:b.kind≠.early)
  (hr:∀d,(execOp a.eval o).run P (w.at d)=.ok (.enter f args) (w.at d))(he:∀d,∀e∈listed P b.fn a o (w.at d),ko e)(hc:Fj P f args w R)
  (h:∀v w',R v w'->bj P Post (G (b.at (a.put o.dst v) (.inRegion ops rest::k)) cs) w'):bj P Post (G (b.at a (.inRegion ops (i::rest)::k)) cs) w:=by
 refine .step rfl fun d=>⟨_,_,_,stepG_enter ho hw hk (hr d),he d,bj.at (hc _ _ fun fr v w' _ hl hR=>?_) d⟩;refine bj.leave hl ?_;have Us:(b.at a (.inRegion ops (i::rest)::k)).finish v=b.at (a.put o.dst v) (.inRegion ops rest::k):=by rw[Frame.finish_at,ho];rfl
 rw[Us];exact h v w' hR
theorem Fj.intro{f:FuncId}{args:Array ti}{R:ti->ui->Prop}{fn:Func}{c:Code}(hf:P.funcs[f]?=yi fn)(hb:fn.body=yi c)
  (h:∀(cs:List Frame)(Post:Goroutine->ui->Prop),(∀(a:Act)(todo:List Item)(v:ti)(w':ui),a.defers=[]->(∀d,(results fn a.tmps).run P (w'.at d)=.ok v (w'.at d))->R v w'->bj P Post (G {(base f).at a todo with mode:=.returning} cs) w')->
   bj P Post (G ((base f).at {tmps:=args++Array.replicate (fn.ntmps-args.size) ri,defers:=[]} [.code c]) cs) w):Fj P f args w R:=fun cs Post hp=>by
 rw[enter_at args hf hb];exact h cs Post fun a todo v w' hd hr hR=>hp _ v w' rfl (fun d=>⟨rfl,hd,rfl,fn,hf,hr d⟩) hR
end
section
variable {P:Program}{A:Ou}{fr:Frame}{w:ui}{Q Q':Frame->ui->Prop}{Q90 lA:Array Oper}{tail:List Nat}{s:List Item}
def Alike(Q90 lA:Array Oper):Prop:=∀(i:Nat)(o:Oper),Q90[i]?=yi o->lA[i]?=yi o/\∀tmps,Region.wanted o (yielded lA tmps)=Region.wanted o (yielded Q90 tmps)
end
section
variable {m:Region.Mode}{ops:Array Oper}
def Kw(m:Region.Mode)(ops:Array Oper)(L:Array Bool)(i:Nat):Bool:=
 !L.getD i ji&&((ops[i]?).map (·.after.all fun e=>!Region.binds m e || L.getD e.on gi)).getD gi
def rdy(m:Region.Mode)(ops:Array Oper)(L:Array Bool):List Nat:=(List.range ops.size).filter (Kw m ops L)
theorem go_succ(fuel t:Nat)(L:Array Bool)(acc:List Nat):Region.linearise.go m ops (fuel+1) t L acc=match (rdy m ops L)[t%(rdy m ops L).length]? with
  |some i=>Region.linearise.go m ops fuel (t/(rdy m ops L).length) (L.setIfInBounds i ji) (i::acc)
  |none=>acc.reverse:=rfl
def hangs(m:Region.Mode)(ops:Array Oper)(n:Nat):Bool:=
 ((List.range n).all fun i=>((ops.getD i default).after.all fun e=>decide (e.on<i))&&(List.range (n+1)).any fun j=>decide (i<j)&&(ops.getD j default).after.toList.any fun e=>Region.binds m e&&e.on==i) &&
 (List.range ops.size).all fun i=>decide (i<n) || (((ops.getD i default).after.all fun e=>decide (e.on<i))&&(decide (i=n) || (ops.getD i default).after.toList.any fun e=>Region.binds m e&&e.on+1==i))
theorem filter_one{p:Nat->Bool}{x:Nat}:∀{N:Nat},x<N->p x=ji->(∀i,i<N->i≠x->p i=gi)->(List.range N).filter p=[x]
 |0,h,_,_=>absurd h E0
 |N+1,h,hp,ho=>by
  rw[List.range_succ,List.filter_append];by_cases e:x=N
  ·subst e;have:(List.range x).filter p=[]:=List.filter_eq_nil_iff.2 fun i hi=>by
    have:=List.mem_range.1 hi;rw[ho i E0 E0];simp
   rw[this];simp[hp]
  ·rw[filter_one E0 hp fun i hi Jj=>ho i E0 Jj];simp[ho N E0 E0]
theorem yt{L:Array Bool}{i:Nat}:Kw m ops L i=ji↔L.getD i ji=gi/\∃o,ops[i]?=yi o/\∀e∈o.after,Region.binds m e=ji->L.getD e.on gi=true:=by
 unfold Kw;cases h:ops[i]? with
 |none=>simp
 |some o=>
  simp only[Option.map_some,Option.getD_some,Bool.and_eq_true,Bool.not_eq_true',Option.some.injEq];constructor
  ·rintro⟨h1,h2⟩;refine⟨h1,o,rfl,fun e he hb=>?_⟩;rw[Array.all_eq_true_iff_forall_mem]at h2;have:=h2 e he;simpa[hb]using this
  ·rintro⟨h1,o',rfl,h2⟩;refine⟨h1,?_⟩;rw[Array.all_eq_true_iff_forall_mem];intro e he;cases hb:Region.binds m e with
   |false=>rfl
   |true=>simp[h2 e he hb]
theorem Hr{L:Array Bool}{i:Nat}(hi:i<L.size)(j:Nat)(d:Bool):(L.setIfInBounds i ji).getD j d=if i=j then ji else L.getD j d:=by
 rw[Array.getD_eq_getD_getElem?,Array.getD_eq_getD_getElem?];by_cases e:i=j
 ·subst e;simp[hi]
 ·rw[Array.getElem?_setIfInBounds_ne e,if_neg e]
theorem jx{L:Array Bool}{i:Nat}(hi:i<L.size):L.getD i ji=L.getD i false:=by
 simp[Array.getD,hi]
theorem x60{n:Nat}(h3:∀i,n<=i->i<ops.size->∀e∈(ops.getD i default).after,e.on<i)(h4:∀i,n<i->i<ops.size->∃e∈(ops.getD i default).after,Region.binds m e=ji/\e.on+1=i):
  ∀(r k t:Nat)(L:Array Bool),n+k+r=ops.size->L.size=ops.size->(∀i,i<n+k->L.getD i gi=ji)->(∀i,n+k<=i->L.getD i gi=gi)->Region.linearise.go m ops r t L []=(List.range r).map (n+k+·):=by
 intro r;induction r with
 |zero=>intro k t L _ _ _ _;simp[Region.linearise.go]
 |succ r ih=>
  intro k t L hs hL ht hf;have hx:n+k<ops.size:=E0;have at?:∀i,i<ops.size->ops[i]?=yi (ops.getD i default):=fun i hi=>by simp[Array.getD,hi]
  have hr:rdy m ops L=[n+k]:=by
   refine filter_one hx (yt.2 ⟨by rw[jx E0];exact hf _ (Nat.le_refl _),_,at? _ hx,fun e he _=>ht _ (h3 _ E0 hx e he)⟩) fun i hi Jj=>?_;cases hb:Kw m ops L i with
   |false=>rfl
   |true=>
    exfalso;obtain⟨b1,o,b2,b3⟩:=yt.1 hb;rw[at? i hi]at b2;cases b2;rw[jx E0]at b1;by_cases Wi:i<n+k
    ·rw[ht i Wi]at b1;cases b1
    ·obtain⟨e,he,hb,hon⟩:=h4 i E0 hi;have:=b3 e he hb;rw[hf e.on E0]at this;cases this
  rw [go_succ,hr];simp only [List.length_singleton,Nat.mod_one,Nat.div_one,List.getElem?_cons_zero];rw [linearise_go_acc,ih (k+1) t (L.setIfInBounds (n+k) ji) E0 (by simpa using hL) (fun i hi=>by
    rw[Hr E0];split
    ·rfl
    ·exact ht i E0) (fun i hi=>by
    rw[Hr E0,if_neg E0];exact hf i E0)]
  rw[List.range_succ_eq_map];simp only[List.reverse_singleton,List.singleton_append,List.map_cons,List.map_map,Nat.add_zero,List.cons.injEq,true_and];apply List.map_congr_left;intro a _;simp only[Function.comp];omega
def cnt:Nat->Array Bool->Nat
 |0,_=>0
 |n+1,L=>cnt n L+(if L.getD n gi then 0 else 1)
theorem tV{L:Array Bool}:∀{n:Nat},(∀i,i<n->L.getD i gi=ji)->cnt n L=0
 |0,_=>rfl
 |n+1,h=>by
  unfold cnt;rw[tV fun i hi=>h i E0,h n E0];rfl
theorem eP{L:Array Bool}:∀{n:Nat},cnt n L=0->∀i,i<n->L.getD i gi=ji
 |0,_,i,hi=>absurd hi E0
 |n+1,h,i,hi=>by
  unfold cnt at h;cases hb:L.getD n gi with
  |false=>simp[hb]at h
  |true=>
   rw[hb]at h;by_cases e:i=n
   ·rw[e];exact hb
   ·exact eP Y2 i E0
theorem kQ{L:Array Bool}:∀{n:Nat},(∀i,i<n->L.getD i gi=gi)->cnt n L=n
 |0,_=>rfl
 |n+1,h=>by
  unfold cnt;rw[kQ fun i hi=>h i E0,h n E0];rfl
theorem qK{L:Array Bool}{i:Nat}(hL:i<L.size):∀{n:Nat},n<=i->cnt n (L.setIfInBounds i ji)=cnt n L
 |0,_=>rfl
 |n+1,h=>by
  unfold cnt;have e:(L.setIfInBounds i ji).getD n gi=L.getD n false:=by rw[Hr hL,if_neg E0]
  rw[qK hL E0,e]
theorem fV{L:Array Bool}{i:Nat}(hL:i<L.size)(hf:L.getD i gi=gi):∀{n:Nat},i<n->cnt n (L.setIfInBounds i ji)+1=cnt n L
 |0,h=>absurd h E0
 |n+1,h=>by
  unfold cnt;by_cases e:i=n
  ·subst e;have e1:(L.setIfInBounds i ji).getD i gi=true:=by rw[Hr hL,if_pos rfl]
   rw[qK hL (Nat.le_refl _),e1,hf];rfl
  ·have e1:(L.setIfInBounds i ji).getD n gi=L.getD n false:=by rw[Hr hL,if_neg e]
   rw[e1,<-fV hL hf (n:=n) E0];omega
theorem q20{n:Nat}(hn:n<ops.size)(h1:∀i,i<n->∀e∈(ops.getD i default).after,e.on<i)(h2:∀i,i<n->∃j,i<j/\j<=n/\∃e∈(ops.getD j default).after,Region.binds m e=ji/\e.on=i)
  (h3:∀i,n<=i->i<ops.size->∀e∈(ops.getD i default).after,e.on<i)(h4:∀i,n<i->i<ops.size->∃e∈(ops.getD i default).after,Region.binds m e=ji/\e.on+1=i):
  ∀(fuel t:Nat)(LA LB:Array Bool),LA.size=n->LB.size=ops.size->(∀i,i<n->LB.getD i gi=LA.getD i gi)->(∀i,n<=i->LB.getD i gi=gi)->
   (∀i,i<n->LA.getD i gi=ji->∀e∈(ops.getD i default).after,Region.binds m e=ji->LA.getD e.on gi=ji)->cnt n LA=fuel->
   Region.linearise.go m ops (fuel+(ops.size-n)) t LB []=Region.linearise.go m (ops.extract 0 n) fuel t LA []++(List.range (ops.size-n)).map (n+·):=by
 have at?:∀i,i<ops.size->ops[i]?=yi (ops.getD i default):=fun i hi=>by simp[Array.getD,hi]
 have atA:∀i,i<n->(ops.extract 0 n)[i]?=yi (ops.getD i default):=fun i hi=>by
  rw[<-at? i E0];simp[Array.getElem?_extract];omega
 have r10:(ops.extract 0 n).size=n:=by simp;omega
 intro fuel;induction fuel with
 |zero=>
  intro t LA LB hA hB pR hhi DF hc;have Wq:=eP hc;have:=x60 (m:=m) h3 h4 (ops.size-n) 0 t LB E0 hB (fun i hi=>by rw[pR i E0];exact Wq i E0) (fun i hi=>hhi i E0);rw[Nat.zero_add,this];simp[Region.linearise.go]
 |succ fuel ih=>
  intro t LA LB hA hB pR hhi DF hc;obtain⟨x,hx,hxf,hxl⟩:∃x,x<n/\LA.getD x gi=gi/\∀i,i<x->LA.getD i gi=true:=by
   rcases PD (fun i=>LA.getD i gi=ji) n with h|⟨j,hj,hjf,hjl⟩
   ·rw[tV h]at hc;omega
   ·exact⟨j,hj,by simpa using hjf,hjl⟩
  have S90:∀i,i<n->Kw m ops LB i=Kw m (ops.extract 0 n) LA i:=fun i hi=>by
   have e:Kw m ops LB i=ji↔Kw m (ops.extract 0 n) LA i=true:=by
    rw[yt,yt,at? i E0,atA i hi,jx E0,jx E0,pR i hi];constructor
    ·rintro⟨a,o,ho,b⟩;cases ho;exact⟨a,_,rfl,fun e he hb=>by rw[<-pR _ (by have:=h1 i hi e he;omega)];exact b e he hb⟩
    ·rintro⟨a,o,ho,b⟩;cases ho;exact⟨a,_,rfl,fun e he hb=>by rw[pR _ (by have:=h1 i hi e he;omega)];exact b e he hb⟩
   cases p:Kw m ops LB i<;>cases q:Kw m (ops.extract 0 n) LA i<;>simp_all
  have je0:∀i,n<=i->i<ops.size->Kw m ops LB i=false:=fun i hi his=>by
   cases hb:Kw m ops LB i with
   |false=>rfl
   |true=>
    exfalso;obtain⟨b1,o,b2,b3⟩:=yt.1 hb;rw[at? i his]at b2;cases b2;by_cases e:i=n
    ·subst e;have Wq:∀d y,y<i->i-y<=d->LA.getD y gi=true:=by
      intro d;induction d with
      |zero=>intro y hy hd;omega
      |succ d ihd=>
       intro y hy hd;obtain⟨j,hj1,hj2,e,he,hbe,hon⟩:=h2 y hy;by_cases ej:j=i
       ·subst ej;have:=b3 e he hbe;rw[hon,pR y hy]at this;exact nh
       ·have:=DF j E0 (ihd j E0 E0) e he hbe;rw[hon]at this;exact nh
     rw[Wq (i-x) x hx (Nat.le_refl _)]at hxf;cases hxf
    ·obtain⟨e,he,hbe,hon⟩:=h4 i E0 his;have:=b3 e he hbe;rw[hhi e.on E0]at this;cases this
  have hr:rdy m ops LB=rdy m (ops.extract 0 n) LA:=by
   unfold rdy;rw[r10,show ops.size=n+(ops.size-n)by omega,List.range_add,List.filter_append];have e2:((List.range (ops.size-n)).map (n+·)).filter (Kw m ops LB)=[]:=List.filter_eq_nil_iff.2 fun i hi=>by
    obtain⟨y,hy,rfl⟩:=List.mem_map.1 hi;have:=List.mem_range.1 hy;rw[je0 (n+y) E0 E0];simp
   rw[e2,List.append_nil];exact List.filter_congr fun i hi=>S90 i (List.mem_range.1 hi)
  have hxr:x∈rdy m (ops.extract 0 n) LA:=List.mem_filter.2 ⟨List.mem_range.2 E0,yt.2 ⟨by rw[jx E0];exact hxf,_,atA x hx,fun e he _=>hxl _ (h1 x hx e he)⟩⟩;have lJ:0<(rdy m (ops.extract 0 n) LA).length:=List.length_pos_of_mem hxr;obtain⟨i,hi⟩:∃i,(rdy m (ops.extract 0 n) LA)[t%(rdy m (ops.extract 0 n) LA).length]?=yi i:=⟨_,List.getElem?_eq_getElem (Nat.mod_lt _ lJ)⟩;have G_:=List.mem_filter.1 (List.mem_of_getElem? hi);have Pm:i<n:=by have:=List.mem_range.1 G_.1;omega
  obtain⟨i1,o,i2,i3⟩:=yt.1 G_.2;rw[atA i Pm]at i2;cases i2;rw[jx E0]at i1;rw[show fuel+1+(ops.size-n)=(fuel+(ops.size-n))+1 by omega,go_succ,go_succ,hr,hi];simp only[];rw[linearise_go_acc,linearise_go_acc m (ops.extract 0 n),ih _ (LA.setIfInBounds i ji) (LB.setIfInBounds i ji) (by simpa using hA) (by simpa using hB)
   (fun j hj=>by rw[Hr E0,Hr E0,pR j hj]) (fun j hj=>by rw[Hr E0,if_neg E0];exact hhi j hj)
   (fun j hj hjt e he hb=>by
    rw[Hr E0]at hjt ⊢;split
    ·rfl
    ·by_cases ej:i=j
     ·subst ej;exact i3 e he hb
     ·rw[if_neg ej]at hjt;exact DF j hj hjt e he hb)
   (by have:=fV (L:=LA) (i:=i) E0 i1 (n:=n) Pm;omega)]
  simp
theorem YH{n:Nat}(hn:n<ops.size)(hh:hangs .any ops n=ji)(t:Nat):Region.schedule ji ops t=Region.schedule ji (ops.extract 0 n) t++(List.range (ops.size-n)).map (n+·):=by
 have r10:(ops.extract 0 n).size=n:=by simp;omega
 unfold hangs at hh;simp only [Bool.and_eq_true,List.all_eq_true,List.any_eq_true,List.mem_range,Bool.or_eq_true,decide_eq_true_eq,Array.all_eq_true_iff_forall_mem,Array.mem_toList_iff,beq_iff_eq] at hh;obtain ⟨ha,hb⟩:=hh;have key:=q20 (m:=.any) hn (fun i hi e he=>(ha i hi).1 e he) (fun i hi=>by
   obtain⟨j,hj,hij,e,he,hb,hon⟩:=(ha i hi).2;exact⟨j,hij,E0,e,he,hb,hon⟩)
  (fun i hi his e he=>by
   rcases hb i his with h|h
   ·omega
   ·exact h.1 e he)
  (fun i hi his=>by
   rcases hb i his with h|h
   ·omega
   ·rcases h.2 with h|⟨e,he,hb,hon⟩
    ·omega
    ·exact⟨e,he,hb,hon⟩)
  n t (Array.replicate n gi) (Array.replicate ops.size gi) P0 P0 (fun i hi=>by simp[Array.getD]) (fun i hi=>by simp[Array.getD]) (fun i hi h=>by simp[Array.getD]at h) (kQ fun i hi=>by simp[Array.getD])
 unfold Region.schedule;simp only[Bool.true_or,if_true];unfold Region.linearise;rw[r10,<-key,show n+(ops.size-n)=ops.size by omega]
def guarded(ops:Array Oper)(n:Nat):Bool:=(List.range n).all fun i=>match (ops.getD i default).guard with
 |none=>ji
 |some (g,_)=>decide (g<n)
theorem kJ{n:Nat}(hn:n<ops.size)(hg:guarded ops n=ji):Alike (ops.extract 0 n) ops:=fun i o ho=>by
 have hi:i<n:=by
  have:=(Array.getElem?_eq_some_iff.1 ho).1;simp at this;omega
 have hat:∀j,j<n->(ops.extract 0 n)[j]?=ops[j]?:=fun j hj=>by simp[Array.getElem?_extract];omega
 rw[hat i hi]at ho;refine⟨ho,fun tmps=>?_⟩;unfold guarded at hg;have hgi:=(List.all_eq_true.1 hg) i (List.mem_range.2 hi);have:ops.getD i default=o:=by
  rw[Array.getD_eq_getD_getElem?,ho];rfl
 rw[this]at hgi;unfold Region.wanted;cases UK:o.guard with
 |none=>rfl
 |some x=>
  obtain⟨g,b⟩:=x;rw[UK]at hgi;have Wi:g<n:=by simpa using hgi
  unfold yielded;simp only[hat g Wi]
end
section
variable {P:Program}
theorem UW{fr:Frame}{v:ti}{w:ui}(hl:fr.leaving P w (.returned v))(hi:P.inits.idxOf? fr.fn=Ai):∃es,stepG P ji (G fr []) w=.ended (.done v) w es/\∀e∈es,ko e:=by
 obtain⟨hm,hd,hk,fn,hf,hr⟩:=hl;have ho:=Ix (P:=P) fn fr.tmps;obtain⟨_,s2⟩:=Vq P _ w #[] ho P0;refine⟨seen P fr.fn ((results fn fr.tmps).runT P w #[]).2,?_,zm s2⟩;rw[Zl (by rw[hm];simp)];have pS:((results fn fr.tmps).runT P w #[]).1=.ok v w:=by rw[Sem.runT_fst];exact hr
 unfold unwind;cases hx:(results fn fr.tmps).runT P w #[]with
 |mk r es=>
  rw[hx]at pS;simp only at pS;subst pS;simp only[hd,hm,hf,hx,doReturn,hk,hi,GStep.after];simp
theorem IA:∀{N:Nat}{m:Machine}{t t':Trace}{m':Machine},runNT P N m t=(.next m',t')->runN P N m=.next m'
 |0,m,t,t',m',h=>by
  simp only[runNT]at h;cases h;rfl
 |N+1,m,t,t',m',h=>by
  simp only[runNT]at h;simp only[runN];split at h
  ·rename_i mm ops hs
   have:step P m=.next mm:=by unfold step;rw[hs]
   rw[this];exact IA h
  ·rename_i hx _
   simp only[Prod.mk.injEq]at h;exact absurd h.1 (hx _)
theorem zS{N:Nat}{m mm:Machine}{t ops:Trace}(h:stepT P m=(.next mm,ops)):runNT P (N+1) m t=runNT P N mm (t++ops):=by simp only[runNT,h]
theorem TS{N:Nat}{m m':Machine}{t t' ops:Trace}{o:Outcome}{w':ui}(h:runNT P N m t=(.next m',t'))(hs:stepT P m'=(.ended o w',ops)):runNT P (N+1) m t=(.ended o w',t'++ops):=by
 induction N generalizing m t with
 |zero=>
  simp only[runNT]at h;cases h;simp only[runNT,hs]
 |succ N ih=>
  cases hm:stepT P m with
  |mk s Df0=>
   cases s with
   |next mm=>
    rw[zS hm]at h ⊢;exact ih h
   |ended o w=>
    simp only[runNT,hm]at h;cases h
theorem zW{Post:ti->ui->Prop}{fr:Frame}{v:ti}{w:ui}(hl:∀d,fr.leaving P (w.at d) (.returned v))(hi:P.inits.idxOf? fr.fn=Ai)(hp:∀d,Post v (w.at d)):
  ∀(gs:Array Goroutine)(sl:Option (Nat×Nat))(t:Trace)(q:Nat->Nat)(d:Nat),gs[0]?=yi (G fr [])->Leavers P t gs q->Uo t->
   ∃N last t₁ o w' ops,runNT P N (crowd gs (w.at d) sl) t=(.next last,t₁)/\stepT P last=(.ended o w',ops)/\Go.Conc.Good P Post last o w' (t₁++ops):=by
 intro gs sl t q;generalize hM:Go.ConcN.sumTo gs.size q=M;induction M using Nat.strongRecOn generalizing gs sl t q with
 |_ M ihM=>
  intro d h0 hL hP;obtain⟨i,g,d',sl',uI,hg,wm⟩:=crowd_pick (P:=P) (w:=w.at d) (sl:=sl) (uA hL h0 rfl) ⟨0,_,h0,rfl⟩;by_cases zy:i=0
  ·subst zy;obtain rfl:g=G fr []:=by rw[h0]at uI;exact(Option.some.inj uI).symm
   obtain⟨es,xP,zn⟩:=UW (hl d') hi;have Oo:=runT_many_ended (P:=P) (sl:=sl') (i:=0) h0 (show stepG P (0==0) (G fr []) ((w.at d).at d')=_ from xP);have V_:=hP.own (fn:=(G fr []).frame.fn) (pos:=(G fr []).frame.place) zn;refine⟨0,_,t,_,_,_,rfl,wm.trans Oo,v,rfl,hp d',V_.clean,V_.over,⟨fun x hx=>?_,rfl⟩,fun j x hx hj=>?_⟩
   ·obtain⟨j,hj⟩:=List.mem_iff_getElem?.1 hx;rw[List.getElem?_drop]at hj;exact⟨_,(hL.old (1+j) x E0 (by simpa[crowd]using hj)).leaves⟩
   ·have hq:=hL.old j x E0 hx;refine⟨q j,?_⟩;have e:(t++MemOp.ofEvents 0 (G fr []).frame.fn (G fr []).frame.place es).deaf j (t++MemOp.ofEvents 0 (G fr []).frame.fn (G fr []).frame.place es).size=Deaf t j:=
     Deaf_other t (g:=j) (g':=0) E0 _ ofEvents_g
    rw[e];exact hq.hears _
  ·obtain⟨yk,ops,q',e1,e2,e3,e4,e5,e6⟩:=vC (w:=(w.at d).at d') (sl:=sl') hL hP h0 rfl uI hg E0;obtain⟨N,last,t₁,o,w',Df0,k1,k2,k3⟩:=ihM _ E0 yk sl' (t++ops) q' rfl d' e3 e4 e5;exact⟨N+1,last,t₁,o,w',Df0,by simp only[runNT,wm,e1];exact k1,k2,k3⟩
theorem Fj.good{f:FuncId}{args:Array ti}{W:ui}{R:ti->ui->Prop}{Post:ti->ui->Prop}(h:Fj P f args W R)(hi:P.inits.idxOf? f=Ai)(hp:∀v w' d,R v w'->Post v (w'.at d)):
  ∃M last o w' t',runNT P (M+1) (solo (G (Frame.enter P f args .normal) []) W) #[]=(.ended o w',t')/\runN P M (solo (G (Frame.enter P f args .normal) []) W)=.next last/\step P last=.ended o w'/\Go.Conc.Good P Post last o w' t':=by
 have zu:=h [] (fun g w'=>∃fr v w₀ d,w'=World.at w₀ d/\g=G fr []/\fr.fn=f/\(∀d,fr.leaving P (w₀.at d) (.returned v))/\R v w₀) fun fr v w' hf hl hR=>.done fun d=>⟨fr,v,w',d,rfl,rfl,hf,hl,hR⟩;obtain⟨N,yk,a',w',sl',t',q',h1,_,h3,⟨fr,v,w₀,d,rfl,rfl,hf,hl,hR⟩,h5,h6⟩:=zu #[G (Frame.enter P f args .normal) []] Option.none #[] (fun _=>0) W.drawn rfl (leavers_one _ _) ZW;obtain⟨M,last,t₁,o,w',ops,k1,k2,k3⟩:=zW (Post:=Post) hl (by rw[hf];exact hi) (fun d=>hp v w₀ d hR) yk sl' t' q' d h3 h5 h6;have Wq:=ux h1 k1;refine⟨N+M,last,o,w',t₁++ops,TS Wq k2,IA Wq,by unfold step;rw[k2],k3⟩
end
end Go.Proofs.YtdoghgnifkgfdaaGreat.Mute
