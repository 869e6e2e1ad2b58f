import Derived.Test.YtdoghgnifkgfdaaGreatA13
set_option maxRecDepth 100000
set_option maxHeartbeats 16000000
open Option renaming none->Hn,some->Gn
open Go renaming World->En,Value->Dn,undef->Bn,Goroutine->zn,heap_setCell_other->yn,Calls->Zm,Program->Ym,Frame->Xm,Addr->Vm
open Bool renaming true->Um,false->Tm
open Go.RowKit renaming Below->Sm
open Go.Conc renaming run_eq_of->Rm
open Nat renaming le_trans->Qm,zero_le->Pm,le_refl->Om,lt_of_lt_of_le->Lm
open List renaming range->Hm,getElem?_append_left->Em
namespace Go.Proofs.YtdoghgnifkgfdaaGreat.Mute
open Tryz Go Go.Conc Go.RowKit
section
variable {P:Ym}{main:Bool}{R:En->En->Prop}{D:En->En->Array Event->Prop}{fn:FuncId}{md:Region.Mode}{ops oG:Array Oper}{Q:Act->En->Prop}{S:En->Prop}
theorem R60(T:Terms R D){b:Xm}{k:List Item}{cs:List Xm}{Bo:zn->En->Prop}(hal:Alike ops oG)(LP:List Nat)(hb:b.fn=fn)(hk:b.kind≠.early)(ds:List Deferred)
  (hQ:∀a w,a.defers=ds->Q a w->Pn P main R D Bo (G (b.at a (.inRegion oG LP::k)) cs) w):
  ∀(fuel t:Nat)(listed:Array Bool)(a:Act)(w:En),a.defers=ds->Wy P main R D fn md ops Q (fun _ _=>False) (fun _ _ _=>False) S fuel listed a w->Pn P main R D Bo (G (b.at a (.inRegion oG (Region.linearise.go md ops fuel t listed []++LP)::k)) cs) w:=by
 intro fuel;induction fuel with
 |zero=>intro t listed a w hd h;simpa[Region.linearise.go]using hQ a w hd h.2
 |succ fuel ih=>
  intro t listed a w hd ⟨h₀,h₁⟩;simp only[Region.linearise.go];change Pn P main R D Bo (G (b.at a (.inRegion oG ((match (Region.ready md ops listed)[t%(Region.ready md ops listed).length]? with
   |some i=>Region.linearise.go md ops fuel (t/(Region.ready md ops listed).length) (listed.setIfInBounds i Um) [i]
   |none=>[].reverse)++LP)::k)) cs) w
  cases hi:(Region.ready md ops listed)[t%(Region.ready md ops listed).length]? with
  |none=>
   have lF:Region.ready md ops listed=[]:=by
    cases hr:Region.ready md ops listed with
    |nil=>rfl
    |cons x xs=>
     rw[hr]at hi;have yo:t%(x::xs).length<(x::xs).length:=Nat.mod_lt _ P0;rw[List.getElem?_eq_none_iff]at hi;omega
   exact hQ a w hd (h₀ lF)
  |some i=>
   simp only[];rw[linearise_go_acc,List.reverse_singleton,List.singleton_append,List.cons_append];have ep:=h₁ i (List.mem_of_getElem? hi);unfold wU at ep;cases ho:ops[i]? with
   |none=>rw[ho]at ep;exact ep.elim
   |some o=>
    rw[ho]at ep;obtain⟨hoB,hwB⟩:=hal i o ho;by_cases hw:Region.wanted o (yielded ops a.tmps)=Um
    ·simp only[hw,if_true]at ep;rcases ep with ep|⟨f,args,EL,MR,c,h1,h2,h3,h4,h5⟩|⟨-,htl⟩
     ·refine Pn.op hoB ((hwB _).trans hw) hk fun w₁ r K hK=>uponK_mono hK ?_;have hx:=ep w₁ r;revert hx;cases (execOp a.eval o).run P w₁ with
      |ok n w'=>cases n<;>first|exact id|exact fun x=>⟨hb▸x.1,ih _ _ _ w' ((Dz _ _ _).trans hd) x.2.2⟩
      |halt _ _=>exact id
     ·refine Pn.enter T hoB ((hwB _).trans hw) hk h1 h2 h3 h4 ?_;rw[<-enter_at _ h2 h4];refine h5 _ cs Bo (fun v w' x=>?_) fun ch w' x=>x.elim;rw[Frame.finish_at,hoB];exact ih _ _ _ w' ((Dz _ _ _).trans hd) x.2
     ·exact htl.elim
    ·simp only[hw]at ep;exact Pn.unwanted T hoB ((hwB _).trans (by simpa using hw)) (ih _ _ _ w ((Dz _ _ _).trans hd) ep.2)
theorem BA{α:Type}(l:List α)(n:Nat):l.toArray.extract 0 n=(l.take n).toArray:=P0
theorem Pn.LH(T:Terms R D)(hd:LetsDraw D){b:Xm}{k:List Item}{cs:List Xm}{Bo:zn->En->Prop}{id:Nat}{a:Act}{w:En}(n:Nat)(hn:n<oG.size)(hh:hangs .any oG n=Um)(hg:guarded oG n=Um)(tl:List Nat)(htl:(Hm (oG.size-n)).map (n+·)=tl)(hk:b.kind≠.early)(hm:P.follows .mixedOrders=Um)
  (hA:oG.extract 0 n=ops)(h:∀w₁,R w w₁->Wy P main R D b.fn .any ops (fun a' w'=>Pn P main R D Bo (G (b.at a' (.inRegion oG tl::k)) cs) w') (fun _ _=>False) (fun _ _ _=>False) S n (Array.replicate n Tm) a {w₁ with drawn:=w₁.drawn+1}):Pn P main R D Bo (G (b.at a (.code (.region id oG Um)::k)) cs) w:=
 .one rfl fun w₁ r=>⟨_,_,_,stepG_region_draw,hd _,by
  subst hA;rw[hm,RN hn hh,htl];have ju:(oG.extract 0 n).size=n:=by simp;omega
  simp only[Region.schedule,Bool.true_or,if_true];unfold Region.linearise;rw[ju];exact R60 T (vO hn hg) tl rfl hk a.defers (fun _ _ _ h=>h) n _ _ a _ rfl (h w₁ r)⟩
end
section
variable {P:Ym}{w:En}{es:Array Event}{t e:TypeId}(h:P.underlying t=Gn (.slice e))(a:Option Vm)(n c:Nat){x y z:Int}
include h
theorem t10(h0:0<=x)(h1:x<=c):(Instr.sliceAt t (.slice a n c) Hn (Gn (.int .i64 x)) Hn).events P w es=es:=by
 exact Rf
theorem w10(h0:0<=x)(h1:x<=n):(Instr.sliceAt t (.slice a n c) (Gn (.int .i64 x)) Hn Hn).events P w es=es:=by
 exact Rf
theorem oY(h0:0<=x)(h1:x<=y)(h2:y<=c):(Instr.sliceAt t (.slice a n c) (Gn (.int .i64 x)) (Gn (.int .i64 y)) Hn).events P w es=es:=by
 have h3:0<=y:=Int.le_trans h0 h1;have h4:x<=max y 0:=E0;simp[Instr.sliceAt,Instr.slice,Instr.sliceBounds,Instr.sliceBound,Sem.events_bind,run_underlying h,events_underlying,events_sizeOf,asIntOf,h0,h2,h3,h4]
theorem RU(h0:0<=x)(h1:x<=y)(h2:y<=z)(h3:z<=c):(Instr.sliceAt t (.slice a n c) (Gn (.int .i64 x)) (Gn (.int .i64 y)) (Gn (.int .i64 z))).events P w es=es:=by
 have h4:0<=y:=Int.le_trans h0 h1;have h5:0<=z:=Int.le_trans h4 h2;have h6:x<=max y 0:=E0;have h7:y<=max z 0:=E0;simp[Instr.sliceAt,Instr.slice,Instr.sliceBounds,Instr.sliceBound,Sem.events_bind,run_underlying h,events_underlying,events_sizeOf,asIntOf,h0,h3,h4,h5,h6,h7]
end
theorem pa0(w:En):(zeroValue 2).run prog w=.ok (.int .i64 0) w:=by
 obtain⟨i,hi,hz,ju,OM⟩:=info_parts nF;simp[zeroValue,typeInfo,hi,hz]
theorem c10{w:En}{g n c:Nat}{u:Dn}(hc:w.cell? ⟨g,n,Hn⟩=Gn u)(hf:w.frozen? ⟨g,n,Hn⟩=Tm)(ty:TypeId):(Builtin.clear_ #[51] ty #[.slice (Gn ⟨g,n,Hn⟩) 1 c]).run prog w=.ok (.tuple #[]) (w.setCell ⟨g,n,Hn⟩ (.int .i64 0)):=by
 have:=Lib.run_clear_slice w 51 2 ty (.int .i64 0) underlying51 pa0 rfl rfl g n 1 c E0 (fun j hj=>by
  have e:j=0:=E0;subst e;simp[hc]) (fun j hj=>by
  have e:j=0:=E0;subst e;simpa using hf)
 exact Vh
theorem m70{w:En}{g n c:Nat}{u:Dn}(hc:w.cell? ⟨g,n,Hn⟩=Gn u)(hf:w.frozen? ⟨g,n,Hn⟩=Tm)(ty:TypeId):∀e∈(Builtin.clear_ #[51] ty #[.slice (Gn ⟨g,n,Hn⟩) 1 c]).events prog w #[],e=⟨.cell ⟨g,n,Hn⟩,Um,Tm⟩:=by
 obtain⟨i,hi,hz,ju,OM⟩:=info_parts nF;intro e he;simp[Builtin.clear_,Sem.events_bind,run_underlying underlying51,events_underlying,zeroValue,typeInfo,hi,hz,Builtin.zeroCells,storeCells,go_sem,hc,hf]at he;exact he
section
variable {L:Bt}{w0 w:En}{rows:List Jp}{k:Nat}{r:Jp}
theorem Ly(w:En)(g:Nat)(arr:Array Dn){b:Nat}(h:b≠g):(w.setRow g arr).heap[b]?=w.heap[b]?:=by
 unfold World.setRow;simp only[Array.getElem?_modify,if_neg (Ne.symm h)]
theorem Kn.setRow(h:Kn L w0 rows w)(hk:rows[k]?=Gn r){arr:Array Dn}{f':Nat->Dn}(hs:arr.size=r.m)(hf:∀j,j<r.m->arr[j]?=Gn (f' j)):Kn L w0 (rows.set k {r with f:=f'}) (w.setRow r.g arr)/\Rq L L.send w (w.setRow r.g arr)/\(w.setRow r.g arr).heap[L.c]?=w.heap[L.c]?:=by
 have ho:=h.row k r hk;obtain⟨Ov,hg,hcs,hc⟩:=ho.rw.row;have hgn:=setRow_heap w r.g Ov arr r.t (0,0) hg;have ht:Rq L L.send w (w.setRow r.g arr):=by
  refine⟨rfl,rfl,rfl,P0,fun b o hb=>?_⟩;by_cases e:b=r.g
  ·subst e;rw[hg]at hb;cases hb;exact⟨_,hgn,fun _=>rfl,fun _ x=>absurd (ho.own _ hg) x⟩
  ·exact⟨o,by rw[Ly _ _ _ e];exact hb,fun _=>rfl,fun _ _=>rfl⟩
 have nH:(w.setRow r.g arr).heap[L.c]?=w.heap[L.c]?:=Ly _ _ _ (fun e=>ho.rw.calm.nc e.symm);refine⟨⟨h.ph.trans (ht.mono fun _ _ x=>.inr x),fun m s hm=>?_,fun a b x y ha hb YR=>?_,by simpa using h.hB,by simpa using h.hc⟩,ht,nH⟩
 ·by_cases e:m=k
  ·subst e;rw[ao hk]at hm;cases hm;exact⟨⟨⟨arr,hgn,hs,hf⟩,ho.rw.calm.turn L.Ap ht⟩,ho.own.turn L.Dp ho.rw.calm.there ht⟩
  ·rw[Fo e]at hm;have qK:=h.row m s hm;exact⟨⟨qK.rw.row.of_heap (Ly _ _ _ (h.pw m k s r hm hk e)),qK.rw.calm.turn L.Ap ht⟩,qK.own.turn L.Dp qK.rw.calm.there ht⟩
 ·have key:∀(c:Nat)(x:Jp),(rows.set k {r with f:=f'})[c]?=Gn x->∃x':Jp,rows[c]?=Gn x'/\x'.g=x.g:=fun c x hx=>by
   by_cases UM:c=k
   ·subst UM;rw[ao hk]at hx;cases hx;exact⟨r,hk,rfl⟩
   ·rw[Fo UM]at hx;exact⟨x,hx,rfl⟩
  exact Jd
end
section
variable {L:Bt}{w0:En}{rows:List Jp}{k:Nat}{r:Jp}
theorem x70(TC:rows[k]?=Gn r)(ht:r.t=2)(n:Nat)(xs:Nat->Int)(hxs:∀j,j<n+1->r.f j=.int .i64 (xs j))(mG:n+1<=r.m)(kQ:r.m<=maxLen)(hn9:n<=1000000000)(w:En)(hF:Kn L w0 rows w):
  Ao prog Tm L.R1 L.D1 145 #[.slice (Gn ⟨r.g,0,Hn⟩) (n+1:Nat) r.m,.int .i64 0,.int .i64 1] w (fun v w'=>v=.slice (Gn ⟨r.g,0,Hn⟩) n r.m/\Kn L w0 (rows.set k {r with f:=fun j=>if j<n then r.f (j+1)else if j=n then .int .i64 0 else r.f j}) w') (fun _ _=>False):=by
 have AE:(0:Int)<=(n:Int)+1:=E0;have hi1:(1:Int)<=(n:Int)+1:=E0;have eG:(n:Int)+1<=(r.m:Int):=E0;have hmn:¬r.m=n:=E0;have hi3:(n:Int)<=(n:Int)+1:=E0;have hi4:(0:Int)<=(n:Int):=E0;have hk:(base 145).kind≠.early:=J1;refine Ao.intro L.Nn #[.slice (Gn ⟨r.g,0,Hn⟩) (n+1:Nat) r.m,.int .i64 0,.int .i64 1,Bn,Bn,Bn,Bn,Bn,Bn,Bn,Bn,Bn,Bn,Bn,Bn,Bn,Bn,Bn,Bn,Bn,Bn,Bn,Bn,Bn,Bn,Bn,Bn,Bn,Bn,Bn,Bn,Bn,Bn] func145 rfl J0 fun cl cs Bo tt _=>?_;refine bj ?_;refine Ha ?_;refine Xe ?_;refine K9 fun w1 K hK hF=>?_;refine vm ?_ ?_
 ·rw[listed_nil (by simp[go_sem,RU underlying51, *])];exact Terms.idle L.Nn _
 clear hK K;refine um ?_;refine J9 ?_;refine La ?_;refine O9 ?_;refine J9 ?_;refine Pn.Zq L.Nn J2 ?_;refine J9 ?_;refine La ?_;refine O9 ?_;refine J9 ?_;refine Pn.LH (S:=Kn L w0 rows) L.Nn L.wu 6 U0 j4 j4 [6,7] I0 hk J0 ((BA _ _).trans E6) fun w1 hR=>?_;replace hF:=Kn.rely (Kn.rely hF hR) (Rq.drew _);clear hR;refine Vn L.Nn 0 W8 hF ?_;refine um ?_;refine Vn L.Nn 1 W8 hF ?_;refine um ?_;refine Jo L.Nn 2 rfl W8 hF ?_ fun _ hw=>⟨Rm (by
  intro K hK;go_simp;exact hK),by
  rw[listed_nil (by simp[go_sem,t10 underlying51, *])];exact Terms.idle L.Nn _⟩
 refine um ?_;refine Vn L.Nn 3 W8 hF ?_;refine um ?_;refine Vn L.Nn 4 W8 hF ?_;refine um ?_;refine Jo L.Nn 5 rfl W8 hF ?_ fun _ hw=>⟨Rm (by
  intro K hK;go_simp;exact hK),by
  rw[listed_nil (by simp[go_sem,w10 underlying51, *])];exact Terms.idle L.Nn _⟩
 refine za ?_;obtain⟨ad,had,ep0,fp0⟩:∃ad:Vm,(if r.m=1 then Gn (⟨r.g,0,Hn⟩:Vm)else Gn ⟨r.g,1,Hn⟩)=Gn ad/\ad.block=r.g/\(0<n->ad=⟨r.g,1,Hn⟩):=by
  by_cases e:r.m=1
  ·exact⟨_,by rw[if_pos e],rfl,fun h=>E0⟩
  ·exact⟨_,by rw[if_neg e],rfl,fun _=>rfl⟩
 rw[had];refine .op rfl I0 hk fun w1 hR K hK=>?_;replace hF:=Kn.rely hF hR;clear hR;obtain⟨i,hi,hz,ju,OM⟩:=info_parts nF;have ho:=hF.row k r TC;obtain⟨Ov,hg,hcs,hc⟩:=ho.rw.row;rw[ht]at hg;have qy:∀(j:Nat)(u:Dn),((Hm n).map fun j=>r.f (j+1))[j]?=Gn u->w1.cell? (ad.add j)=Gn u:=fun j u hu=>by
  have hj:j<n:=by
   have:=(List.getElem?_eq_some_iff.1 hu).1;exact Vd
  rw[fp0 E0,Addr.add_mid];simp[hj]at hu;rw[<-hu,Nat.add_comm 1 j];exact ho.cell (show j+1<r.m by omega)
 have JY:∀u∈(Hm n).map (fun j=>r.f (j+1)),u.oneCell'=true:=fun u hu=>by
  obtain⟨j,hj,rfl⟩:=List.mem_map.1 hu;rw[hxs (j+1) (by have:=List.mem_range.1 hj;omega)];rfl
 have JA:=run_append_room (P:=prog) w1 51 51 2 i underlying51 hi r.g 0 r.m Ov hg ad n (r.m-1) _ (by rw[ju];simp) qy JY E0 A1;rw[Nat.zero_mul,List.take_zero,List.nil_append,Nat.zero_add,Nat.zero_add,List.length_map,List.length_range]at JA;obtain⟨hK2,hT2,hC2⟩:=hF.setRow TC (arr:=((Hm n).map (fun j=>r.f (j+1))++Ov.toList.drop n).toArray) (f':=fun j=>if j<n then r.f (j+1)else r.f j) (by simp[hcs];omega) (fun j hj=>by
  simp only[List.getElem?_toArray];by_cases e:j<n
  ·rw[Em (by simpa using e),if_pos e];simp[e]
  ·rw[List.getElem?_append_right A1,if_neg e,List.getElem?_drop];simp only[List.length_map,List.length_range];rw[show n+(j-n)=j by omega,Array.getElem?_toList];exact hc j hj)
 refine uponK_append (.tmp 22) (.tmp 25) 51 rfl rfl rfl JA (hK _ _ ⟨⟨hT2,hC2,?_⟩,?_⟩)
 ·intro e he;have he:=mem_listed he;rw[events_append_op (.tmp 22) (.tmp 25) 51 rfl rfl rfl]at he;have rA:∀wr sy (x:Vm),x.block=r.g->WA L L.send L.main (w1.setRow r.g ((Hm n).map (fun j=>r.f (j+1))++Ov.toList.drop n).toArray) ⟨.cell x,wr,sy⟩:=fun wr sy x hx=>by
   obtain⟨q,hq⟩:=ho.rw.calm.there;obtain⟨q',g1,g2,_⟩:=hT2.at_ r.g q hq;refine⟨Gq _ _ _,fun z hz _=>?_⟩;have:z=⟨.cell x,wr,if sy then .atomic else .plain⟩:=by
    cases wr<;>cases sy<;>simp[MemAct.ofEvent,MemAct.touch?]at hz<;>exact hz.symm
   subst this;exact⟨q',by rw[hx];exact g1,by rw[hx];exact fun hm=>ho.rw.calm.no q hq (L.Ap r.g q' q (fun x=>(g2 x).symm) hm),fun _=>by rw[hx];exact L.Dp r.g q q' g2 (ho.own q hq)⟩
  rcases events_append_where (P:=prog) w1 0 51 _ 2 i _ 1 8 underlying51 hi hz ju OM (.slice (Gn ⟨r.g,0,Hn⟩) 0 r.m) 0 [] ⟨rfl,.inr ⟨r.g,r.m,Ov,rfl,Pm _,hg,Pm _,kQ,by rw[hcs,Nat.mul_one],P0⟩⟩ ad n (r.m-1) ((Hm n).map fun j=>r.f (j+1)) P0 qy JY Y1 E0 e he with⟨x,h1,h2⟩|⟨q,rfl,hq⟩
  ·obtain⟨loc,wr,sy⟩:=e;simp only at h1;subst h1;rcases h2 with⟨_,h2⟩|h2
   ·exact rA _ _ x (h2.trans ep0)
   ·exact rA _ _ x (by simpa[Value.ownBlock]using h2)
  ·refine⟨⟨fun h=>?_,fun h=>?_⟩,fun z hz=>?_⟩
   ·exact Rh
   ·exact Rh
   ·exact Ie
 clear hK K JA hT2 hC2 qy JY;replace hF:=hK2;clear hK2;refine um ?_;refine qj ?_;refine Ha ?_;refine Ja ?_;refine K9 fun w1 K hK hF=>?_;refine vm ?_ ?_
 ·rw[listed_nil (by simp[go_sem,oY underlying51, *])];exact Terms.idle L.Nn _
 clear hK K;refine um ?_;refine K9 fun w1 K hK hF=>?_;have hc:World.cell? _ ⟨r.g,n,Hn⟩=Gn _:=hF.cell (r:={r with f:=fun j=>if j<n then r.f (j+1)else r.f j}) (ao TC _) (j:=n) (by show n<r.m;omega);have zu:World.frozen? _ ⟨r.g,n,Hn⟩=false:=hF.frozen (ao TC {r with f:=fun j=>if j<n then r.f (j+1)else r.f j}) n;have fL:=c10 (c:=r.m-n) hc zu 0;refine vm ?_ ?_
 ·refine hF.does (ao TC {r with f:=fun j=>if j<n then r.f (j+1)else r.f j}) n _ ?_;(intro e he;have hm:=mem_listed he;simp[go_sem]at hm;exact m70 hc zu _ e hm)
 clear hK K;clear hc zu fL;replace hF:=hF.set (r:={r with f:=fun j=>if j<n then r.f (j+1)else r.f j}) (ao TC _) n (.int .i64 0);refine um ?_;refine gj ?_;rw[List.set_set]at hF;have e:({r with f:=fun j=>if j<n then r.f (j+1)else r.f j}:Jp).put n (.int .i64 0)={r with f:=fun j=>if j<n then r.f (j+1)else if j=n then .int .i64 0 else r.f j}:=by
  unfold Jp.put;congr 1;funext j;show upd _ n _ j=_;unfold upd;by_cases e1:j=n
  ·subst e1;simp
  ·rw[if_neg e1,if_neg e1]
 rw[e]at hF;refine Tc fun todo=>?_;exact Gg
theorem b40{iq:Nat}(hq:rows[iq]?=Gn r)(i:Nat)(hm:i*3+3<=r.m){a:Option Vm}{cc:Nat}(hv:r.f (i*3)=.slice a 0 cc)(w:En)(hF:Kn L w0 rows w):
  Ao prog Tm L.R1 L.D1 141 #[.pointer (Gn ⟨r.g,i*3,Hn⟩)] w (fun v w'=>v=.tuple #[.int .i64 0,.int .i64 0]/\Kn L w0 rows w') (fun _ _=>False):=by
 have hk:(base 141).kind≠.early:=J1;refine Ao.intro L.Nn #[.pointer (Gn ⟨r.g,i*3,Hn⟩),Bn,Bn,Bn,Bn,Bn,Bn,Bn,Bn,Bn,Bn,Bn,Bn,Bn,Bn,Bn,Bn,Bn,Bn,Bn,Bn,Bn,Bn,Bn,Bn] func141 rfl J0 fun cl cs Bo tt _=>?_;refine gj ?_;refine Ha ?_;refine pj fun w1 K hK hF=>?_;have hc:World.cell? _ ⟨r.g,i*3,Hn⟩=Gn (.slice a 0 cc):=(hF.cell hq (j:=i*3) Y2).trans (by rw[hv]);refine vm ?_ ?_
 ·exact Bj
 clear hK K;clear hc;refine um ?_;refine uj ?_;refine jh ?_;refine gj ?_;exact Nj
theorem d40{iq:Nat}{rk:Jp}(hq:rows[iq]?=Gn r)(TC:rows[k]?=Gn rk)(Yp:k≠iq)(i:Nat)(hm:i*3+3<=r.m)(ht:rk.t=2)(n:Nat)(xs:Nat->Int)(hxs:∀j,j<n+1->rk.f j=.int .i64 (xs j))(mG:n+1<=rk.m)(kQ:rk.m<=maxLen)(hn9:n<=1000000000)(hv:r.f (i*3)=.slice (Gn ⟨rk.g,0,Hn⟩) (n+1:Nat) rk.m)(w:En)(hF:Kn L w0 rows w):
  Ao prog Tm L.R1 L.D1 141 #[.pointer (Gn ⟨r.g,i*3,Hn⟩)] w (fun v w'=>v=.tuple #[.int .i64 (xs 0),.int .i64 1]/\Kn L w0 ((rows.set k {rk with f:=fun j=>if j<n then rk.f (j+1)else if j=n then .int .i64 0 else rk.f j}).set iq (r.put (i*3) (.slice (Gn ⟨rk.g,0,Hn⟩) n rk.m))) w') (fun _ _=>False):=by
 have hi1:¬((n:Int)+1=0):=E0;have eG:(0:Int)<(n:Int)+1:=E0;have hk:(base 141).kind≠.early:=J1;refine Ao.intro L.Nn #[.pointer (Gn ⟨r.g,i*3,Hn⟩),Bn,Bn,Bn,Bn,Bn,Bn,Bn,Bn,Bn,Bn,Bn,Bn,Bn,Bn,Bn,Bn,Bn,Bn,Bn,Bn,Bn,Bn,Bn,Bn] func141 rfl J0 fun cl cs Bo tt _=>?_;refine gj ?_;refine Ha ?_;refine pj fun w1 K hK hF=>?_;refine ie fun hc=>?_;refine vm ?_ ?_
 ·exact Bj
 clear hK K;clear hc;refine um ?_;refine uj ?_;refine Pn.Zq L.Nn J2 ?_;refine ak ?_;refine pj fun w1 K hK hF=>?_;refine ie fun hc=>?_;refine vm ?_ ?_
 ·exact Bj
 clear hK K;clear hc;refine um ?_;refine K9 fun w1 K hK hF=>?_;refine vm ?_ ?_
 ·exact Uh
 clear hK K;refine um ?_;refine K9 fun w1 K hK hF=>?_;have hc:World.cell? _ ⟨rk.g,0,Hn⟩=Gn (.int .i64 (xs 0)):=(hF.cell TC (j:=0) (by show 0<rk.m;omega)).trans (by rw[hxs 0 E0]);refine vm ?_ ?_
 ·refine hF.looks TC ?_;exact T9
 clear hK K;clear hc;refine um ?_;refine qj ?_;refine .Un L.Nn [0,1,2,3,4,5,6,7,8] I0 ?_;refine Ja ?_;refine K9 fun w1 K hK hF=>?_;refine ie fun hc=>?_;refine vm ?_ ?_
 ·exact Bj
 clear hK K;clear hc;refine um ?_;refine Pn.bB L.Nn rfl I0 hk rfl func145 I0 rfl #[.slice (Gn ⟨rk.g,0,Hn⟩) (n+1:Nat) rk.m,.int .i64 0,.int .i64 1] J0 (x70 TC ht n xs hxs mG kQ hn9 _ hF) ?_ S8;rintro v w2 ⟨rfl,Gs⟩;replace hF:=Gs;clear Gs;have lO:=(Fo (rows:=rows) (Ne.symm Yp) {rk with f:=fun j=>if j<n then rk.f (j+1)else if j=n then .int .i64 0 else rk.f j}).trans hq;refine um ?_;refine Vk fun w1 K hK hF=>?_;have zu:World.frozen? _ ⟨r.g,i*3,Hn⟩=false:=hF.frozen lO (i*3);have hc:World.cell? _ ⟨r.g,i*3,Hn⟩=Gn _:=hF.cell lO (j:=i*3) Y2;refine vm ?_ ?_
 ·refine hF.does lO (i*3) _ ?_;exact Yb
 clear hK K;clear zu hc;replace hF:=hF.set lO (i*3) (.slice (Gn ⟨rk.g,0,Hn⟩) n rk.m);refine um ?_;refine J9 ?_;refine La ?_;refine O9 ?_;refine J9 ?_;exact Nj
end
noncomputable def Ao0:List Item:=match Tryz.f129.body with
 |some (.seq _ (.seq _ (.seq _ c)))=>[.code c]
 |_=>[]
noncomputable def WE:Code:=Tryz.f129.body.getD .skip
section
variable {L:Bt}{w0:En}{rows:List Jp}{g:Nat}
theorem cB(Et:((97:Nat)==L.ev)=Tm)(R A:Nat)(xw:R<4)(vw:A<4)(op N:Int)(inV:Dn)(w:En)(hF:Kn L w0 rows w){Bo:zn->En->Prop}{cs:List Xm}
  (h:∀(B:Nat)(w1:En),ko L w0 rows [qp B op R A N] w1->Pn prog Tm L.R1 L.D1 Bo (G ((base 129).at {tmps:=List.toArray ((.pointer (Gn ⟨g,0,Hn⟩))::(.agg #[.int .i64 op,.int .i64 R,.int .i64 A,.int .i64 N])::(inV)::(Bn)::(.pointer (Gn ⟨B,0,Hn⟩))::(Bn)::(.pointer (Gn ⟨g,25+R,Hn⟩))::(.pointer (Gn ⟨g,25+A,Hn⟩))::(.pointer (Gn ⟨g,0,Hn⟩))::(.pointer (Gn ⟨B,1,Hn⟩))::(.int .i64 R)::(.pointer (Gn ⟨g,0,Hn⟩))::(.pointer (Gn ⟨g,25,Hn⟩))::(.pointer (Gn ⟨g,25,Hn⟩))::(.pointer (Gn ⟨g,25+R,Hn⟩))::(.pointer (Gn ⟨g,0,Hn⟩))::(.pointer (Gn ⟨B,2,Hn⟩))::(.int .i64 A)::(.pointer (Gn ⟨g,0,Hn⟩))::(.pointer (Gn ⟨g,25,Hn⟩))::(.pointer (Gn ⟨g,25,Hn⟩))::(.pointer (Gn ⟨g,25+A,Hn⟩))::(.pointer (Gn ⟨B,0,Hn⟩))::(.int .i64 op)::(Bn)::(Bn)::(Bn)::(Bn)::(Bn)::(Bn)::(Bn)::(Bn)::(Bn)::(Bn)::(Bn)::(Bn)::(Bn)::(Bn)::(Bn)::(Bn)::(Bn)::(Bn)::(Bn)::(Bn)::(Bn)::(Bn)::(Bn)::(Bn)::(Bn)::(Bn)::(Bn)::(Bn)::(Bn)::(Bn)::(Bn)::(Bn)::(Bn)::(Bn)::(Bn)::(Bn)::(Bn)::(Bn)::(Bn)::(Bn)::(Bn)::(Bn)::(Bn)::(Bn)::(Bn)::(Bn)::(Bn)::(Bn)::(Bn)::(Bn)::(Bn)::(Bn)::(Bn)::(Bn)::(Bn)::(Bn)::(Bn)::(Bn)::(Bn)::(Bn)::(Bn)::(Bn)::(Bn)::(Bn)::(Bn)::(Bn)::(Bn)::(Bn)::(Bn)::(Bn)::(Bn)::(Bn)::(Bn)::(Bn)::(Bn)::(Bn)::(Bn)::(Bn)::(Bn)::(Bn)::(Bn)::(Bn)::(Bn)::(Bn)::(Bn)::[]),defers:=[]} Ao0) cs) w1):
  Pn prog Tm L.R1 L.D1 Bo (G ((base 129).at {tmps:=List.toArray ((.pointer (Gn ⟨g,0,Hn⟩))::(.agg #[.int .i64 op,.int .i64 R,.int .i64 A,.int .i64 N])::inV::Bn::Bn::Bn::Bn::Bn::Bn::Bn::Bn::Bn::Bn::Bn::Bn::Bn::Bn::Bn::Bn::Bn::Bn::Bn::Bn::Bn::Bn::Bn::Bn::Bn::Bn::Bn::Bn::Bn::Bn::Bn::Bn::Bn::Bn::Bn::Bn::Bn::Bn::Bn::Bn::Bn::Bn::Bn::Bn::Bn::Bn::Bn::Bn::Bn::Bn::Bn::Bn::Bn::Bn::Bn::Bn::Bn::Bn::Bn::Bn::Bn::Bn::Bn::Bn::Bn::Bn::Bn::Bn::Bn::Bn::Bn::Bn::Bn::Bn::Bn::Bn::Bn::Bn::Bn::Bn::Bn::Bn::Bn::Bn::Bn::Bn::Bn::Bn::Bn::Bn::Bn::Bn::Bn::Bn::Bn::Bn::Bn::Bn::Bn::Bn::Bn::Bn::Bn::Bn::Bn::Bn::[]),defers:=[]} [.code WE]) cs) w:=by
 replace hF:=hF.lay;refine Xj fun hk=>?_;refine jm ?_;refine K9 fun w1 K hK hF=>?_;refine vm ?_ ?_
 ·exact sj
 clear hK K;replace hF:ko L w0 rows [qp w1.heap.size op R A N] _:=hF.uJ Et op R A N;generalize hB:w1.heap.size=B at *;generalize hW:(w1.alloc (.cells #[.int .i64 op,.int .i64 R,.int .i64 A,.int .i64 N] 97))=w3 at *;clear hW hB w1;refine um ?_;refine J9 ?_;refine Zb fun iV eV=>?_;refine Pn.vu (S:=ko L w0 rows [qp B op R A N]) (Die:=fun _ _=>False) L.Nn L.wu 16 I0 hk J0 (fun _ _ _ h=>h) S8 fun w1 hR=>?_;replace hF:=(hF.rely hR).rely (Rq.drew _);clear hR;refine Z9 ?_;refine Jo L.Nn 2 rfl O8 hF ?_ fun _ hw=>⟨Rm (by
  intro K hK;refine uf fun a0 a1 a2 a3=>?_;exact hK),by
  refine Ab fun a0 a1 a2 a3=>?_;co_evs (exact⟨_,rfl⟩)⟩
 refine um ?_;refine Xg ?_;refine um ?_;refine de ?_;refine um ?_;refine bf ?_;refine um ?_;refine Jo L.Nn 6 rfl O8 hF ?_ fun _ hw=>⟨Rm (by
  intro K hK;go_simp;exact hK),by
  rw[listed_nil K8];exact Terms.idle L.Nn _⟩
 refine um ?_;refine ye ?_;refine um ?_;refine Yg ?_;refine um ?_;refine Jo L.Nn 9 rfl O8 hF ?_ fun _ hw=>⟨Rm (by
  intro K hK;refine uf fun a0 a1 a2 a3=>?_;exact hK),by
  refine Ab fun a0 a1 a2 a3=>?_;co_evs (exact⟨_,rfl⟩)⟩
 refine um ?_;refine Vn L.Nn 10 O8 hF ?_;refine um ?_;refine Vn L.Nn 11 O8 hF ?_;refine um ?_;refine Vn L.Nn 12 O8 hF ?_;refine um ?_;refine Jo L.Nn 13 rfl O8 hF ?_ fun _ hw=>⟨Rm (by
  intro K hK;go_simp;exact hK),by
  rw[listed_nil L8];exact Terms.idle L.Nn _⟩
 refine um ?_;refine Vn L.Nn 14 O8 hF ?_;refine um ?_;refine Vn L.Nn 15 O8 hF ?_;refine tj ?_;refine Xc ?_;refine rj fun w1 K hK hF=>?_;refine jc fun a0 a1 a2 a3=>?_;refine vm ?_ ?_
 ·exact nj
 clear hK K;clear a0 a1 a2 a3;refine um ?_;refine .regionEnd L.Nn ?_;exact h B _ hF
end
section
variable {L:Bt}{w0:En}{rows:List Jp}{ic is g nb k eY:Nat}{num:Int}{code:Dn}{z:Nat->Int}{rs:Jp}
theorem L70(Et:((97:Nat)==L.ev)=Tm)(hi:rows[ic]?=Gn (jo g num (.pointer (Gn ⟨nb,0,Hn⟩)) code z))(hs:rows[is]?=Gn rs)(sn:Bq L w0 nb)(n2:w0.cell? ⟨nb,2,Hn⟩=Gn (.slice (Gn ⟨rs.g,0,Hn⟩) k eY))(i:Nat)(xy:i<k)(rU:k*4<=rs.m)(R A:Nat)(xw:R<4)(vw:A<4)(inV:Dn)(w:En)(hF:Kn L w0 rows w):
  Ao prog Tm L.R1 L.D1 129 #[.pointer (Gn ⟨g,0,Hn⟩),.agg #[.int .i64 11,.int .i64 R,.int .i64 A,.int .i64 i],inV] w (fun v w'=>v=.tuple #[]/\Kn L w0 (rows.set is ((rs.put (i*4+2) (.int .i64 (z (25+R)))).put (i*4+3) (.bool Um))) w') (fun _ _=>False):=by
 refine Xj fun hk=>?_;refine Ao.intro (c:=WE) L.Nn _ func129 rfl J0 fun cl cs Bo tt _=>cB (g:=g) Et R A xw vw 11 i inV w hF fun B w3 hF=>?_;refine J9 ?_;refine Oe ?_;refine cj ?_;refine Pn.vu (S:=ko L w0 rows [qp B 11 R A (i:Nat)]) (Die:=fun _ _=>False) L.Nn L.wu 11 I0 hk J0 (fun _ _ _ h=>h) S8 fun w1 hR=>?_;replace hF:=(hF.rely hR).rely (Rq.drew _);clear hR;refine Jj ?_;refine um ?_;refine Jo L.Nn 3 rfl O8 hF ?_ fun _ hw=>⟨Rm (by
  intro K hK;refine jd fun hc=>?_;go_simp;exact hK),by
  refine jd fun hc=>?_;refine ti ?_;co_evs (exact⟨_,rfl⟩)⟩
 refine um ?_;refine de ?_;refine um ?_;refine Jo L.Nn 5 rfl O8 hF ?_ fun _ hw=>⟨Rm (by
  intro K hK;refine uf fun a0 a1 a2 a3=>?_;exact hK),by
  refine Ab fun a0 a1 a2 a3=>?_;co_evs (exact⟨_,rfl⟩)⟩
 refine um ?_;refine ye ?_;refine um ?_;refine Yg ?_;refine um ?_;refine Jo L.Nn 9 rfl O8 hF ?_ fun _ hw=>⟨Rm (by
  intro K hK;refine tf fun hc=>?_;go_simp;exact hK),by
  refine tf fun hc=>?_;refine ti ?_;co_evs (exact⟨_,rfl⟩)⟩
 refine um ?_;refine dt (i:=6) T0 rfl I0 rfl func139 I0 rfl #[.pointer (Gn ⟨nb,0,Hn⟩),.int .i64 i] J0 (tK sn n2 i xy _ hF) ?_;rintro v w2 ⟨rfl,Gs⟩;refine⟨.inl Gs,?_⟩;replace hF:ko L w0 rows [qp B 11 R A (i:Nat)] _:=Gs;clear Gs;refine um ?_;refine dt (i:=10) T0 rfl I0 rfl func140 I0 rfl #[.pointer (Gn ⟨rs.g,i*4,Hn⟩),.int .i64 (z (25+R))] J0 (Ec0 (Aq hs) i (z (25+R)) E0 _ hF) ?_;rintro v w2 ⟨rfl,Gs⟩;refine⟨.inr (Ks rfl T0),?_⟩;rw[List.set_set,FI hs]at Gs;replace hF:=Kn.drop Gs;clear Gs;refine tj ?_;exact Mc
end
section
variable {L:Bt}{w0:En}{rows:List Jp}{ic is g nb k eY:Nat}{num:Int}{code:Dn}{z:Nat->Int}{rs:Jp}
theorem wb0(Et:((97:Nat)==L.ev)=Tm)(hi:rows[ic]?=Gn (jo g num (.pointer (Gn ⟨nb,0,Hn⟩)) code z))(hs:rows[is]?=Gn rs)(Yp:is≠ic)(sn:Bq L w0 nb)(n2:w0.cell? ⟨nb,2,Hn⟩=Gn (.slice (Gn ⟨rs.g,0,Hn⟩) k eY))(i:Nat)(xy:i<k)(rU:k*4<=rs.m)(x y:Int)(hx:rs.f (i*4)=.int .i64 x)(hy:rs.f (i*4+1)=.int .i64 y)(R A:Nat)(xw:R<4)(vw:A<4)(inV:Dn)(w:En)(hF:Kn L w0 rows w):
  Ao prog Tm L.R1 L.D1 129 #[.pointer (Gn ⟨g,0,Hn⟩),.agg #[.int .i64 13,.int .i64 R,.int .i64 A,.int .i64 i],inV] w (fun v w'=>v=.tuple #[]/\Kn L w0 (rows.set ic (jo g num (.pointer (Gn ⟨nb,0,Hn⟩)) code (Wn (Wn z (25+R) x) (25+A) y))) w') (fun _ _=>False):=by
 refine Xj fun hk=>?_;refine Ao.intro (c:=WE) L.Nn _ func129 rfl J0 fun cl cs Bo tt _=>cB (g:=g) Et R A xw vw 13 i inV w hF fun B w3 hF=>?_;replace hF:ko L w0 (rows.set ic (jo g num (.pointer (Gn ⟨nb,0,Hn⟩)) code z)) [qp B 13 R A (i:Nat)] w3:=by rw[bu hi];exact hF
 have GL:∀Z,(rows.set ic (jo g num (.pointer (Gn ⟨nb,0,Hn⟩)) code Z))[is]?=Gn rs:=fun Z=>by rw[Fo Yp];exact hs
 refine J9 ?_;refine Pe ?_;refine cj ?_;refine Pn.vu (S:=fun w=>∃z1,ko L w0 (rows.set ic (jo g num (.pointer (Gn ⟨nb,0,Hn⟩)) code z1)) [qp B 13 R A (i:Nat)] w) (Die:=fun _ _=>False) L.Nn L.wu 17 I0 hk J0 (fun _ _ _ h=>h) S8 fun w1 hR=>?_;replace hF:=(hF.rely hR).rely (Rq.drew _);clear hR;refine Vn L.Nn 0 Z8 ⟨_,hF⟩ ?_;refine um ?_;refine Vn L.Nn 1 Z8 ⟨_,hF⟩ ?_;refine um ?_;refine Vn L.Nn 2 Z8 ⟨_,hF⟩ ?_;refine um ?_;refine Vn L.Nn 3 Z8 ⟨_,hF⟩ ?_;refine um ?_;refine Vn L.Nn 4 Z8 ⟨_,hF⟩ ?_;refine um ?_;refine Jo L.Nn 5 rfl Z8 ⟨_,hF⟩ ?_ fun _ hw=>⟨Rm (by
  intro K hK;obtain⟨z1,hw⟩:=hw;refine Ak fun hc=>?_;go_simp;exact hK),by
  obtain⟨z1,hw⟩:=hw;refine Ak fun hc=>?_;refine hw.looks (ao hi _) ?_;co_evs (exact⟨_,rfl⟩)⟩
 refine um ?_;refine Vn L.Nn 6 Z8 ⟨_,hF⟩ ?_;refine um ?_;refine Jo L.Nn 7 rfl Z8 ⟨_,hF⟩ ?_ fun _ hw=>⟨Rm (by
  intro K hK;obtain⟨z1,hw⟩:=hw;refine uf fun a0 a1 a2 a3=>?_;exact hK),by
  obtain⟨z1,hw⟩:=hw;refine Ab fun a0 a1 a2 a3=>?_;co_evs (exact⟨_,rfl⟩)⟩
 refine um ?_;refine dt (i:=8) T0 rfl I0 rfl func139 I0 rfl #[.pointer (Gn ⟨nb,0,Hn⟩),.int .i64 i] J0 (tK sn n2 i xy _ hF) ?_;rintro v w2 ⟨rfl,Gs⟩;refine⟨.inl ⟨_,Gs⟩,?_⟩;replace hF:ko L w0 (rows.set ic (jo g num (.pointer (Gn ⟨nb,0,Hn⟩)) code z)) [qp B 13 R A (i:Nat)] _:=Gs;clear Gs;refine um ?_;refine dt (i:=9) T0 rfl I0 rfl func142 I0 rfl #[.pointer (Gn ⟨rs.g,i*4,Hn⟩)] J0 (zg0 (Aq (GL z)) i x y hx hy E0 _ hF) ?_;rintro v w2 ⟨rfl,Gs⟩;refine⟨.inl ⟨_,Gs⟩,?_⟩;replace hF:ko L w0 (rows.set ic (jo g num (.pointer (Gn ⟨nb,0,Hn⟩)) code z)) [qp B 13 R A (i:Nat)] _:=Gs;clear Gs;refine um ?_;refine Vn L.Nn 10 Z8 ⟨_,hF⟩ ?_;refine um ?_;refine Vn L.Nn 11 Z8 ⟨_,hF⟩ ?_;refine um ?_;refine Vn L.Nn 12 Z8 ⟨_,hF⟩ ?_;refine um ?_;refine Vn L.Nn 13 Z8 ⟨_,hF⟩ ?_;refine um ?_;refine tu (i:=14) T0 rfl I0 ?_;refine Df fun w1 K hK hF=>?_;have hc:World.cell? _ ⟨g,25+R,Hn⟩=Gn (.int .i64 (z (25+R))):=ko.cz hi hF E0 E0;refine Xb fun zu=>?_;refine qa ?_ ?_ ?_
 ·exact Rb
 ·exact .inl ⟨_,ko.yA hi hF (j:=25+R) E0 (x)⟩
 clear hK K;clear hc zu;replace hF:=ko.yA hi hF (j:=25+R) E0 (x);refine um ?_;refine Vn L.Nn 15 Z8 ⟨_,hF⟩ ?_;refine um ?_;refine tu (i:=16) T0 rfl I0 ?_;refine Df fun w1 K hK hF=>?_;have hc:World.cell? _ ⟨g,25+A,Hn⟩=Gn (.int .i64 ((Wn z (25+R) x) (25+A))):=ko.cz hi hF E0 E0;have zu:World.frozen? _ ⟨g,25+A,Hn⟩=false:=ko.FO hi hF (25+A);refine qa ?_ ?_ ?_
 ·refine ko.Px hi hF (25+A) _ ?_;exact yd
 ·exact vd
 clear hK K;clear hc zu;replace hF:=ko.yA hi hF (j:=25+A) E0 (y);refine tj ?_;exact mb
end
section
variable {L:Bt}{w0:En}{rows:List Jp}{ic iq g nb kk cq k:Nat}{num:Int}{code:Dn}{z:Nat->Int}{rq rk:Jp}
section
variable (Et:((97:Nat)==L.ev)=Tm)(hi:rows[ic]?=Gn (jo g num (.pointer (Gn ⟨nb,0,Hn⟩)) code z))(hq:rows[iq]?=Gn rq)(Yp:iq≠ic)(sn:Bq L w0 nb)(n1:w0.cell? ⟨nb,1,Hn⟩=Gn (.slice (Gn ⟨rq.g,0,Hn⟩) kk cq))(i:Nat)(xy:i<kk)(bN:kk*3<=rq.m)
include Et hi hq Yp sn n1 i xy bN
theorem JR{a:Option Vm}{cc:Nat}(hv:rq.f (i*3)=.slice a 0 cc)(R A:Nat)(xw:R<4)(vw:A<4)(inV:Dn)(w:En)(hF:Kn L w0 rows w):
  Ao prog Tm L.R1 L.D1 129 #[.pointer (Gn ⟨g,0,Hn⟩),.agg #[.int .i64 12,.int .i64 R,.int .i64 A,.int .i64 i],inV] w (fun v w'=>v=.tuple #[]/\Kn L w0 (List.set rows ic (jo g num (.pointer (Gn ⟨nb,0,Hn⟩)) code (Wn (Wn z (25+R) (0)) (25+A) (0)))) w') (fun _ _=>False):=by
 refine Xj fun hk=>?_;refine Ao.intro (c:=WE) L.Nn _ func129 rfl J0 fun cl cs Bo tt _=>cB (g:=g) Et R A xw vw 12 i inV w hF fun B w3 hF=>?_;replace hF:ko L w0 (List.set rows ic (jo g num (.pointer (Gn ⟨nb,0,Hn⟩)) code z)) [qp B 12 R A (i:Nat)] w3:=by rw[bu hi];exact hF
 have lO:∀Z,(rows.set ic (jo g num (.pointer (Gn ⟨nb,0,Hn⟩)) code Z))[iq]?=Gn rq:=fun Z=>by rw[Fo Yp];exact hq
 have kJ:(List.set rows ic (jo g num (.pointer (Gn ⟨nb,0,Hn⟩)) code z))[ic]?=Gn (jo g num (.pointer (Gn ⟨nb,0,Hn⟩)) code z)/\(rows)[ic]?=Gn (jo g num (.pointer (Gn ⟨nb,0,Hn⟩)) code z):=by
  have e:(rows)[ic]?=Gn (jo g num (.pointer (Gn ⟨nb,0,Hn⟩)) code z):=by exact hi
  exact⟨ao e _,e⟩
 have hgs:∀RS:List Jp,(RS=rows\/RS=rows)->RS[ic]?=Gn (jo g num (.pointer (Gn ⟨nb,0,Hn⟩)) code z):=fun RS h=>by
  rcases h with rfl|rfl
  ·exact hi
  ·exact kJ.2
 refine J9 ?_;refine Cb ?_;refine cj ?_;refine Pn.vu (S:=fun w=>∃RS z1,(RS=rows\/RS=rows)/\ko L w0 (RS.set ic (jo g num (.pointer (Gn ⟨nb,0,Hn⟩)) code z1)) [qp B 12 R A (i:Nat)] w) (Die:=fun _ _=>False) L.Nn L.wu 17 I0 hk J0 (fun _ _ _ h=>h) S8 fun w1 hR=>?_;replace hF:=(hF.rely hR).rely (Rq.drew _);clear hR;refine ij ?_;refine Vn L.Nn 4 T8 ⟨_,_,.inl rfl,hF⟩ ?_;refine um ?_;refine Jo L.Nn 5 rfl T8 ⟨_,_,.inl rfl,hF⟩ ?_ fun _ hw=>⟨Rm (by
  intro K hK;obtain⟨RS,z1,jv,hw⟩:=hw;refine Ba fun hc=>?_;go_simp;exact hK),by
  obtain⟨RS,z1,jv,hw⟩:=hw;refine Ba fun hc=>?_;refine hw.looks (ao (hgs RS jv) _) ?_;co_evs (exact⟨_,rfl⟩)⟩
 refine um ?_;refine Vn L.Nn 6 T8 ⟨_,_,.inl rfl,hF⟩ ?_;refine um ?_;refine Jo L.Nn 7 rfl T8 ⟨_,_,.inl rfl,hF⟩ ?_ fun _ hw=>⟨Rm (by
  intro K hK;obtain⟨RS,z1,jv,hw⟩:=hw;refine uf fun a0 a1 a2 a3=>?_;exact hK),by
  obtain⟨RS,z1,jv,hw⟩:=hw;refine Ab fun a0 a1 a2 a3=>?_;co_evs (exact⟨_,rfl⟩)⟩
 refine um ?_;refine qh ?_;rintro v w2 ⟨rfl,Gs⟩;refine⟨.inl ⟨_,_,.inl rfl,Gs⟩,?_⟩;replace hF:ko L w0 (List.set rows ic (jo g num (.pointer (Gn ⟨nb,0,Hn⟩)) code z)) [qp B 12 R A (i:Nat)] _:=Gs;clear Gs;refine um ?_;refine dt (i:=9) T0 rfl I0 rfl func141 I0 rfl #[.pointer (Gn ⟨rq.g,i*3,Hn⟩)] J0 (b40 (Aq (lO z)) i E0 hv _ hF) ?_;rintro v w2 ⟨rfl,Gs⟩;replace hF:ko L w0 (List.set rows ic (jo g num (.pointer (Gn ⟨nb,0,Hn⟩)) code z)) [qp B 12 R A (i:Nat)] _:=Gs;clear Gs;refine⟨.inl ⟨_,_,.inr rfl,hF⟩,?_⟩;refine um ?_;refine Vn L.Nn 10 T8 ⟨_,_,.inr rfl,hF⟩ ?_;refine um ?_;refine Vn L.Nn 11 T8 ⟨_,_,.inr rfl,hF⟩ ?_;refine um ?_;refine Vn L.Nn 12 T8 ⟨_,_,.inr rfl,hF⟩ ?_;refine um ?_;refine Vn L.Nn 13 T8 ⟨_,_,.inr rfl,hF⟩ ?_;refine um ?_;refine tu (i:=14) T0 rfl I0 ?_;refine xc fun w1 K hK hF hc zu=>?_;refine qa ?_ ?_ ?_
 ·exact Pj
 ·exact .inl ⟨_,_,.inr rfl,ko.yA kJ.2 hF (j:=25+R) E0 (0)⟩
 clear hK K;clear hc zu;replace hF:=ko.yA kJ.2 hF (j:=25+R) E0 (0);refine um ?_;refine Vn L.Nn 15 T8 ⟨_,_,.inr rfl,hF⟩ ?_;refine um ?_;refine tu (i:=16) T0 rfl I0 ?_;refine Df fun w1 K hK hF=>?_;have hc:World.cell? _ ⟨g,25+A,Hn⟩=Gn (.int .i64 ((Wn z (25+R) (0)) (25+A))):=ko.cz kJ.2 hF E0 E0;have zu:World.frozen? _ ⟨g,25+A,Hn⟩=false:=ko.FO kJ.2 hF (25+A);refine qa ?_ ?_ ?_
 ·refine ko.Px kJ.2 hF (25+A) _ ?_;exact yd
 ·exact vd
 clear hK K;clear hc zu;replace hF:=ko.yA kJ.2 hF (j:=25+A) E0 (0);refine tj ?_;exact mb
theorem KR(TC:rows[k]?=Gn rk)(hkq:k≠iq)(hkc:k≠ic)(ht:rk.t=2)(n:Nat)(xs:Nat->Int)(hxs:∀j,j<n+1->rk.f j=.int .i64 (xs j))(mG:n+1<=rk.m)(kQ:rk.m<=maxLen)(hn9:n<=1000000000)(hv:rq.f (i*3)=.slice (Gn ⟨rk.g,0,Hn⟩) (n+1:Nat) rk.m)(R A:Nat)(xw:R<4)(vw:A<4)(inV:Dn)(w:En)(hF:Kn L w0 rows w):
  Ao prog Tm L.R1 L.D1 129 #[.pointer (Gn ⟨g,0,Hn⟩),.agg #[.int .i64 12,.int .i64 R,.int .i64 A,.int .i64 i],inV] w (fun v w'=>v=.tuple #[]/\Kn L w0 (List.set ((rows.set k {rk with f:=fun j=>if j<n then rk.f (j+1)else if j=n then .int .i64 0 else rk.f j}).set iq (rq.put (i*3) (.slice (Gn ⟨rk.g,0,Hn⟩) n rk.m))) ic (jo g num (.pointer (Gn ⟨nb,0,Hn⟩)) code (Wn (Wn z (25+R) (xs 0)) (25+A) (1)))) w') (fun _ _=>False):=by
 refine Xj fun hk=>?_;refine Ao.intro (c:=WE) L.Nn _ func129 rfl J0 fun cl cs Bo tt _=>cB (g:=g) Et R A xw vw 12 i inV w hF fun B w3 hF=>?_;replace hF:ko L w0 (List.set rows ic (jo g num (.pointer (Gn ⟨nb,0,Hn⟩)) code z)) [qp B 12 R A (i:Nat)] w3:=by rw[bu hi];exact hF
 have lO:∀Z,(rows.set ic (jo g num (.pointer (Gn ⟨nb,0,Hn⟩)) code Z))[iq]?=Gn rq:=fun Z=>by rw[Fo Yp];exact hq
 have kJ:(List.set ((rows.set k {rk with f:=fun j=>if j<n then rk.f (j+1)else if j=n then .int .i64 0 else rk.f j}).set iq (rq.put (i*3) (.slice (Gn ⟨rk.g,0,Hn⟩) n rk.m))) ic (jo g num (.pointer (Gn ⟨nb,0,Hn⟩)) code z))[ic]?=Gn (jo g num (.pointer (Gn ⟨nb,0,Hn⟩)) code z)/\(((rows.set k {rk with f:=fun j=>if j<n then rk.f (j+1)else if j=n then .int .i64 0 else rk.f j}).set iq (rq.put (i*3) (.slice (Gn ⟨rk.g,0,Hn⟩) n rk.m))))[ic]?=Gn (jo g num (.pointer (Gn ⟨nb,0,Hn⟩)) code z):=by
  have e:(((rows.set k {rk with f:=fun j=>if j<n then rk.f (j+1)else if j=n then .int .i64 0 else rk.f j}).set iq (rq.put (i*3) (.slice (Gn ⟨rk.g,0,Hn⟩) n rk.m))))[ic]?=Gn (jo g num (.pointer (Gn ⟨nb,0,Hn⟩)) code z):=by rw[Fo (Ne.symm Yp),Fo (Ne.symm hkc)];exact hi
  exact⟨ao e _,e⟩
 have hgs:∀RS:List Jp,(RS=rows\/RS=((rows.set k {rk with f:=fun j=>if j<n then rk.f (j+1)else if j=n then .int .i64 0 else rk.f j}).set iq (rq.put (i*3) (.slice (Gn ⟨rk.g,0,Hn⟩) n rk.m))))->RS[ic]?=Gn (jo g num (.pointer (Gn ⟨nb,0,Hn⟩)) code z):=fun RS h=>by
  rcases h with rfl|rfl
  ·exact hi
  ·exact kJ.2
 refine J9 ?_;refine Cb ?_;refine cj ?_;refine Pn.vu (S:=fun w=>∃RS z1,(RS=rows\/RS=((rows.set k {rk with f:=fun j=>if j<n then rk.f (j+1)else if j=n then .int .i64 0 else rk.f j}).set iq (rq.put (i*3) (.slice (Gn ⟨rk.g,0,Hn⟩) n rk.m))))/\ko L w0 (RS.set ic (jo g num (.pointer (Gn ⟨nb,0,Hn⟩)) code z1)) [qp B 12 R A (i:Nat)] w) (Die:=fun _ _=>False) L.Nn L.wu 17 I0 hk J0 (fun _ _ _ h=>h) S8 fun w1 hR=>?_;replace hF:=(hF.rely hR).rely (Rq.drew _);clear hR;refine ij ?_;refine Vn L.Nn 4 T8 ⟨_,_,.inl rfl,hF⟩ ?_;refine um ?_;refine Jo L.Nn 5 rfl T8 ⟨_,_,.inl rfl,hF⟩ ?_ fun _ hw=>⟨Rm (by
  intro K hK;obtain⟨RS,z1,jv,hw⟩:=hw;refine Ba fun hc=>?_;go_simp;exact hK),by
  obtain⟨RS,z1,jv,hw⟩:=hw;refine Ba fun hc=>?_;refine hw.looks (ao (hgs RS jv) _) ?_;co_evs (exact⟨_,rfl⟩)⟩
 refine um ?_;refine Vn L.Nn 6 T8 ⟨_,_,.inl rfl,hF⟩ ?_;refine um ?_;refine Jo L.Nn 7 rfl T8 ⟨_,_,.inl rfl,hF⟩ ?_ fun _ hw=>⟨Rm (by
  intro K hK;obtain⟨RS,z1,jv,hw⟩:=hw;refine uf fun a0 a1 a2 a3=>?_;exact hK),by
  obtain⟨RS,z1,jv,hw⟩:=hw;refine Ab fun a0 a1 a2 a3=>?_;co_evs (exact⟨_,rfl⟩)⟩
 refine um ?_;refine qh ?_;rintro v w2 ⟨rfl,Gs⟩;refine⟨.inl ⟨_,_,.inl rfl,Gs⟩,?_⟩;replace hF:ko L w0 (List.set rows ic (jo g num (.pointer (Gn ⟨nb,0,Hn⟩)) code z)) [qp B 12 R A (i:Nat)] _:=Gs;clear Gs;refine um ?_;refine dt (i:=9) T0 rfl I0 rfl func141 I0 rfl #[.pointer (Gn ⟨rq.g,i*3,Hn⟩)] J0 (d40 (Aq (lO z)) (Aq (by rw[Fo hkc];exact TC)) hkq i E0 ht n xs hxs mG kQ hn9 hv _ hF) ?_;rintro v w2 ⟨rfl,Gs⟩;rw[List.set_append_left _ _ (by simpa using (List.getElem?_eq_some_iff.1 TC).1),List.set_append_left _ _ (by simpa using (List.getElem?_eq_some_iff.1 hq).1),List.set_comm _ _ (Ne.symm hkc),List.set_comm _ _ (Ne.symm Yp)]at Gs;replace hF:ko L w0 (List.set ((rows.set k {rk with f:=fun j=>if j<n then rk.f (j+1)else if j=n then .int .i64 0 else rk.f j}).set iq (rq.put (i*3) (.slice (Gn ⟨rk.g,0,Hn⟩) n rk.m))) ic (jo g num (.pointer (Gn ⟨nb,0,Hn⟩)) code z)) [qp B 12 R A (i:Nat)] _:=Gs;clear Gs;refine⟨.inl ⟨_,_,.inr rfl,hF⟩,?_⟩;refine um ?_;refine Vn L.Nn 10 T8 ⟨_,_,.inr rfl,hF⟩ ?_;refine um ?_;refine Vn L.Nn 11 T8 ⟨_,_,.inr rfl,hF⟩ ?_;refine um ?_;refine Vn L.Nn 12 T8 ⟨_,_,.inr rfl,hF⟩ ?_;refine um ?_;refine Vn L.Nn 13 T8 ⟨_,_,.inr rfl,hF⟩ ?_;refine um ?_;refine tu (i:=14) T0 rfl I0 ?_;refine xc fun w1 K hK hF hc zu=>?_;refine qa ?_ ?_ ?_
 ·exact Pj
 ·exact .inl ⟨_,_,.inr rfl,ko.yA kJ.2 hF (j:=25+R) E0 (xs 0)⟩
 clear hK K;clear hc zu;replace hF:=ko.yA kJ.2 hF (j:=25+R) E0 (xs 0);refine um ?_;refine Vn L.Nn 15 T8 ⟨_,_,.inr rfl,hF⟩ ?_;refine um ?_;refine tu (i:=16) T0 rfl I0 ?_;refine Df fun w1 K hK hF=>?_;have hc:World.cell? _ ⟨g,25+A,Hn⟩=Gn (.int .i64 ((Wn z (25+R) (xs 0)) (25+A))):=ko.cz kJ.2 hF E0 E0;have zu:World.frozen? _ ⟨g,25+A,Hn⟩=false:=ko.FO kJ.2 hF (25+A);refine qa ?_ ?_ ?_
 ·refine ko.Px kJ.2 hF (25+A) _ ?_;exact yd
 ·exact vd
 clear hK K;clear hc zu;replace hF:=ko.yA kJ.2 hF (j:=25+A) E0 (1);refine tj ?_;exact mb
theorem vb0(x:Int)(hx:rq.f (i*3+2)=.int .i64 x)(R A:Nat)(xw:R<4)(vw:A<4)(inV:Dn)(w:En)(hF:Kn L w0 rows w):
  Ao prog Tm L.R1 L.D1 129 #[.pointer (Gn ⟨g,0,Hn⟩),.agg #[.int .i64 16,.int .i64 R,.int .i64 A,.int .i64 i],inV] w (fun v w'=>v=.tuple #[]/\Kn L w0 (List.set (rows.set iq (rq.put (i*3+2) (.int .i64 0))) ic (jo g num (.pointer (Gn ⟨nb,0,Hn⟩)) code (Wn z (25+R) (x)))) w') (fun _ _=>False):=by
 refine Xj fun hk=>?_;refine Ao.intro (c:=WE) L.Nn _ func129 rfl J0 fun cl cs Bo tt _=>cB (g:=g) Et R A xw vw 16 i inV w hF fun B w3 hF=>?_;replace hF:ko L w0 (List.set rows ic (jo g num (.pointer (Gn ⟨nb,0,Hn⟩)) code z)) [qp B 16 R A (i:Nat)] w3:=by rw[bu hi];exact hF
 have lO:∀Z,(rows.set ic (jo g num (.pointer (Gn ⟨nb,0,Hn⟩)) code Z))[iq]?=Gn rq:=fun Z=>by rw[Fo Yp];exact hq
 have kJ:(List.set (rows.set iq (rq.put (i*3+2) (.int .i64 0))) ic (jo g num (.pointer (Gn ⟨nb,0,Hn⟩)) code z))[ic]?=Gn (jo g num (.pointer (Gn ⟨nb,0,Hn⟩)) code z)/\((rows.set iq (rq.put (i*3+2) (.int .i64 0))))[ic]?=Gn (jo g num (.pointer (Gn ⟨nb,0,Hn⟩)) code z):=by
  have e:((rows.set iq (rq.put (i*3+2) (.int .i64 0))))[ic]?=Gn (jo g num (.pointer (Gn ⟨nb,0,Hn⟩)) code z):=by rw[Fo (Ne.symm Yp)];exact hi
  exact⟨ao e _,e⟩
 have hgs:∀RS:List Jp,(RS=rows\/RS=(rows.set iq (rq.put (i*3+2) (.int .i64 0))))->RS[ic]?=Gn (jo g num (.pointer (Gn ⟨nb,0,Hn⟩)) code z):=fun RS h=>by
  rcases h with rfl|rfl
  ·exact hi
  ·exact kJ.2
 refine J9 ?_;refine Eb ?_;refine cj ?_;refine Pn.vu (S:=fun w=>∃RS z1,(RS=rows\/RS=(rows.set iq (rq.put (i*3+2) (.int .i64 0))))/\ko L w0 (RS.set ic (jo g num (.pointer (Gn ⟨nb,0,Hn⟩)) code z1)) [qp B 16 R A (i:Nat)] w) (Die:=fun _ _=>False) L.Nn L.wu 11 I0 hk J0 (fun _ _ _ h=>h) S8 fun w1 hR=>?_;replace hF:=(hF.rely hR).rely (Rq.drew _);clear hR;refine ij ?_;refine Jo L.Nn 4 rfl T8 ⟨_,_,.inl rfl,hF⟩ ?_ fun _ hw=>⟨Rm (by
  intro K hK;obtain⟨RS,z1,jv,hw⟩:=hw;refine Ba fun hc=>?_;go_simp;exact hK),by
  obtain⟨RS,z1,jv,hw⟩:=hw;refine Ba fun hc=>?_;refine hw.looks (ao (hgs RS jv) _) ?_;co_evs (exact⟨_,rfl⟩)⟩
 refine um ?_;refine Vn L.Nn 5 T8 ⟨_,_,.inl rfl,hF⟩ ?_;refine um ?_;refine Jo L.Nn 6 rfl T8 ⟨_,_,.inl rfl,hF⟩ ?_ fun _ hw=>⟨Rm (by
  intro K hK;obtain⟨RS,z1,jv,hw⟩:=hw;refine uf fun a0 a1 a2 a3=>?_;exact hK),by
  obtain⟨RS,z1,jv,hw⟩:=hw;refine Ab fun a0 a1 a2 a3=>?_;co_evs (exact⟨_,rfl⟩)⟩
 refine um ?_;refine dt (i:=7) T0 rfl I0 rfl func137 I0 rfl #[.pointer (Gn ⟨nb,0,Hn⟩),.int .i64 i] J0 (zD sn n1 i xy _ hF) ?_;rintro v w2 ⟨rfl,Gs⟩;refine⟨.inl ⟨_,_,.inl rfl,Gs⟩,?_⟩;replace hF:ko L w0 (List.set rows ic (jo g num (.pointer (Gn ⟨nb,0,Hn⟩)) code z)) [qp B 16 R A (i:Nat)] _:=Gs;clear Gs;refine um ?_;refine dt (i:=8) T0 rfl I0 rfl func144 I0 rfl #[.pointer (Gn ⟨rq.g,i*3,Hn⟩)] J0 (jg0 (Aq (lO z)) i x hx E0 _ hF) ?_;rintro v w2 ⟨rfl,Gs⟩;rw[List.set_append_left _ _ (by simpa using (List.getElem?_eq_some_iff.1 hq).1),List.set_comm _ _ (Ne.symm Yp)]at Gs;replace hF:ko L w0 (List.set (rows.set iq (rq.put (i*3+2) (.int .i64 0))) ic (jo g num (.pointer (Gn ⟨nb,0,Hn⟩)) code z)) [qp B 16 R A (i:Nat)] _:=Gs;clear Gs;refine⟨.inl ⟨_,_,.inr rfl,hF⟩,?_⟩;refine um ?_;refine Vn L.Nn 9 T8 ⟨_,_,.inr rfl,hF⟩ ?_;refine um ?_;refine tu (i:=10) T0 rfl I0 ?_;refine xc fun w1 K hK hF hc zu=>?_;refine qa ?_ ?_ ?_
 ·exact Pj
 ·exact vd
 clear hK K;clear hc zu;replace hF:=ko.yA kJ.2 hF (j:=25+R) E0 (x);refine tj ?_;exact mb
end
end
section
variable {L:Bt}{w0:En}{rows:List Jp}{ic iq g nb kk cq:Nat}{num:Int}{code:Dn}{z:Nat->Int}{rq:Jp}
theorem H30{w':En}{tmp:Jp}{i:Nat}{v:Dn}{xs:List Int}{x:Int}{p:Option Nat}(hq:rows[iq]?=Gn rq)(hl:Xy rows v xs p)(h:∃Iq v' p',Kn L w0 Iq w'/\Iq[iq]?=Gn (rq.put (i*3+1) v')/\Xy Iq v' (xs++[x]) p'/\(rows++[tmp]).length<=Iq.length/\(∀k,k≠iq->p≠Gn k->k<(rows++[tmp]).length->Iq[k]?=(rows++[tmp])[k]?)/\(p'=p\/p'=Gn (rows++[tmp]).length)):∃Iq v' p',Kn L w0 Iq w'/\Iq[iq]?=Gn (rq.put (i*3+1) v')/\Xy Iq v' (xs++[x]) p'/\rows.length<=Iq.length/\(∀k,k≠iq->p≠Gn k->k<rows.length->Iq[k]?=rows[k]?)/\(p'=p\/p'=Gn rows.length):=by
 obtain⟨Iq,v',p',hK,h1,h2,h3,h4,h5⟩:=h;have hiq:=(List.getElem?_eq_some_iff.1 hq).1;have he:∀j,(Iq.eraseIdx rows.length)[j]?=if j<rows.length then Iq[j]? else Iq[j+1]?:=fun j=>List.getElem?_eraseIdx ..;have yY:rows.length+1<=Iq.length:=by simpa using h3
 refine⟨Iq.eraseIdx rows.length,v',if p'=p then p else Gn rows.length,?_,?_,?_,?_,fun k k1 k2 k3=>?_,?_⟩
 ·refine hK.sub (fun j=>if j<rows.length then j else j+1) (fun j r hj=>?_) (fun a b _ _ e=>?_)
  ·rw[he]at hj;split at hj
   ·rename_i yo;rw[if_pos yo];exact hj
   ·rename_i yo;rw[if_neg yo];exact hj
  ·revert e;show (if a<rows.length then a else a+1)=(if b<rows.length then b else b+1)->a=b;split<;>split<;>omega
 ·rw[he,if_pos hiq];exact h1
 ·rcases h2 with⟨rfl,_,h0⟩|⟨k,r,rfl,hr,lQ⟩
  ·simp at h0
  ·rcases h5 with h5|h5
   ·rw[if_pos h5];subst h5;rcases hl with⟨h0,_⟩|⟨k2,r2,jG,iP,_⟩
    ·cases h0
    ·obtain rfl:k=k2:=Option.some.inj jG;have:=(List.getElem?_eq_some_iff.1 iP).1;exact .inr ⟨k,r,rfl,by rw[he,if_pos this];exact hr,lQ⟩
   ·have hk:k=rows.length+1:=by simpa using h5
    subst hk;by_cases e:Gn (rows.length+1)=p
    ·exfalso;rcases hl with⟨h0,_⟩|⟨k2,r2,jG,iP,_⟩
     ·rw[<-e]at h0;cases h0
     ·rw[<-e]at jG;have:=(List.getElem?_eq_some_iff.1 iP).1;have:=Option.some.inj jG;omega
    ·rw[if_neg e];exact .inr ⟨rows.length,r,rfl,by rw[he,if_neg E0];exact hr,lQ⟩
 ·rw[List.length_eraseIdx,if_pos E0];omega
 ·rw[he,if_pos k3,h4 k k1 k2 A1,Em k3]
 ·split
  ·exact .inl rfl
  ·exact .inr rfl
theorem xb0(Et:((97:Nat)==L.ev)=Tm)(jS:((2:Nat)==L.ev)=Tm)(hi:rows[ic]?=Gn (jo g num (.pointer (Gn ⟨nb,0,Hn⟩)) code z))(hq:rows[iq]?=Gn rq)(sn:Bq L w0 nb)(n1:w0.cell? ⟨nb,1,Hn⟩=Gn (.slice (Gn ⟨rq.g,0,Hn⟩) kk cq))(i:Nat)(xy:i<kk)(bN:kk*3<=rq.m){sv:Dn}{xs:List Int}{p:Option Nat}(hsv:rq.f (i*3+1)=sv)(hl:Xy rows sv xs p)(hp:p≠Gn iq)(hn:xs.length<=1000000000)(R A:Nat)(xw:R<4)(vw:A<4)(inV:Dn)(w:En)(hF:Kn L w0 rows w):
  Ao prog Tm L.R1 L.D1 129 #[.pointer (Gn ⟨g,0,Hn⟩),.agg #[.int .i64 10,.int .i64 R,.int .i64 A,.int .i64 i],inV] w (fun v w'=>v=.tuple #[]/\∃Iq v' p',Kn L w0 Iq w'/\Iq[iq]?=Gn (rq.put (i*3+1) v')/\Xy Iq v' (xs++[z (25+R)]) p'/\rows.length<=Iq.length/\(∀k,k≠iq->p≠Gn k->k<rows.length->Iq[k]?=rows[k]?)/\(p'=p\/p'=Gn rows.length)) (fun _ _=>False):=by
 refine Xj fun hk=>?_;refine Ao.intro (c:=WE) L.Nn _ func129 rfl J0 fun cl cs Bo tt _=>cB (g:=g) Et R A xw vw 10 i inV w hF fun B w3 hF=>?_;refine J9 ?_;refine cj ?_;refine Pn.vu (S:=ko L w0 rows [qp B 10 R A (i:Nat)]) (Die:=fun _ _=>False) L.Nn L.wu 11 I0 hk J0 (fun _ _ _ h=>h) S8 fun w1 hR=>?_;replace hF:=(hF.rely hR).rely (Rq.drew _);clear hR;refine Jj ?_;refine um ?_;refine Jo L.Nn 3 rfl O8 hF ?_ fun _ hw=>⟨Rm (by
  intro K hK;refine jd fun hc=>?_;go_simp;exact hK),by
  refine jd fun hc=>?_;refine ti ?_;co_evs (exact⟨_,rfl⟩)⟩
 refine um ?_;refine de ?_;refine um ?_;refine Jo L.Nn 5 rfl O8 hF ?_ fun _ hw=>⟨Rm (by
  intro K hK;refine uf fun a0 a1 a2 a3=>?_;exact hK),by
  refine Ab fun a0 a1 a2 a3=>?_;co_evs (exact⟨_,rfl⟩)⟩
 refine um ?_;refine ye ?_;refine um ?_;refine Yg ?_;refine um ?_;refine Jo L.Nn 9 rfl O8 hF ?_ fun _ hw=>⟨Rm (by
  intro K hK;refine tf fun hc=>?_;go_simp;exact hK),by
  refine tf fun hc=>?_;refine ti ?_;co_evs (exact⟨_,rfl⟩)⟩
 refine um ?_;refine dt (i:=6) T0 rfl I0 rfl func137 I0 rfl #[.pointer (Gn ⟨nb,0,Hn⟩),.int .i64 i] J0 (zD sn n1 i xy _ hF) ?_;rintro v w2 ⟨rfl,Gs⟩;refine⟨.inl Gs,?_⟩;replace hF:ko L w0 rows [qp B 10 R A (i:Nat)] _:=Gs;clear Gs;refine um ?_;refine dt (i:=10) T0 rfl I0 rfl func138 I0 rfl #[.pointer (Gn ⟨rq.g,i*3,Hn⟩),.int .i64 (z (25+R))] J0 (Fg0 jS (Aq hq) i E0 (z (25+R)) hsv (hl.app _) hp hn _ hF) ?_;rintro v w' ⟨rfl,Gs⟩;refine⟨.inr (Ks rfl T0),?_⟩;have hF3:=H30 hq hl Gs;clear Gs hF;refine tj ?_;refine Be ?_;exact tt _ [] _ _ rfl (Ep L.Nn I0 _) ⟨rfl,hF3⟩
end
section
variable {P:Ym}{main:Bool}{R:En->En->Prop}{D:En->En->Array Event->Prop}{Bo:zn->En->Prop}
theorem C30{a:Act}{w:En}{o:Oper}{x:Operand}{f:FuncId}{fn:Func}{cap:Array Dn}{args:Array Operand}{EL:Array TypeId}(ep:o.op=.call {callee:=.value x,args,argTypes:=EL})(hx:a.eval x=.func (.func f) #[] cap)
  (hf : P.funcs[f]? = Gn fn) (VC : (fn.name == "runtime.NumGoroutine") = Tm) (hb : fn.body.isNone = Tm) : (execOp a.eval o).run P w = .ok (.enter f (args.map a.eval ++ cap)) w /\ ∀ es, (execOp a.eval o).events P w es = es := by
 have h1 : ¬ fn.name = "runtime.NumGoroutine" := by simpa using VC
 have h2:¬fn.body=none:=by cases hx:fn.body<;>simp_all
 unfold execOp;constructor
 ·exact om
 ·intro es;exact om
theorem Pn.Oi0(T:Terms R D){b:Xm}{a:Act}{k:List Item}{cs:List Xm}{w:En}{ops:Array Oper}{i:Nat}{rest:List Nat}{o:Oper}{x:Operand}{f:FuncId}{fn:Func}{c:Code}{cap:Array Dn}{args:Array Operand}{EL:Array TypeId}{Post:Dn->En->Prop}{Die:List PanicEntry->En->Prop}
  (ho:ops[i]?=Gn o)(hw:Region.wanted o (yielded ops a.tmps)=Um)(hk:b.kind≠.early)(ep:o.op=.call {callee:=.value x,args,argTypes:=EL})(hx:a.eval x=.func (.func f) #[] cap)
  (hf : P.funcs[f]? = Gn fn) (VC : (fn.name == "runtime.NumGoroutine") = Tm) (hb : fn.body = Gn c) (vs : Array Dn) (hv : args.map a.eval ++ cap = vs) (hc : Ao P main R D f vs w Post Die)
  (h:∀v w',Post v w'->Pn P main R D Bo (G (b.at (a.put o.dst v) (.inRegion ops rest::k)) cs) w')
  (hd:∀ch w' fr,Die ch w'->fr.fn=b.fn->fr.kind=b.kind->fr.defers=a.defers->fr.mode=.panicking ch->Pn P main R D Bo (G fr cs) w'):
  Pn P main R D Bo (G (b.at a (.inRegion ops (i::rest)::k)) cs) w:=by
 have Xq:fn.body.isNone=false:=by rw[hb];rfl
 refine .ctl T rfl (g':=G (Frame.enter P f vs .normal) (b.at a (.inRegion ops (i::rest)::k)::cs)) (fun w₁=>?_) ?_
 ·have e:=C30 (w:=w₁) ep hx hf VC Xq;rw[stepG_enter ho hw hk e.1,hv];have:listed P b.fn a o w₁=#[]:=by unfold listed;rw[e.2];exact seen_none P _
  rw[this]
 ·exact Wg
end
def Yt(ins:List (Int×Int))(dev:Int):Int×Int:=match ins.find? (fun x=>x.1==dev)with
 |some x=>(x.2,1)
 |none=>(0,0)
def InR(L:Bt)(w0:En)(inV:Dn)(ins:List (Int×Int)):Prop:=∃a c,inV=.slice a ins.length c/\∀(j:Nat)(x:Int×Int),ins[j]?=Gn x->∃ib io,a=Gn ⟨ib,io,Hn⟩/\Bq L w0 ib/\w0.cell? ⟨ib,io+j*2,Hn⟩=Gn (.int .i64 x.1)/\w0.cell? ⟨ib,io+j*2+1,Hn⟩=Gn (.int .i64 x.2)
section
variable {L:Bt}{w0 w:En}{rows ls:List Jp}{kb b:Nat}{dev:Int}
theorem ko.qg0(h:ko L w0 rows ls w){t:Nat}(ht:(t==L.ev)=Tm)(x y:Int):ko L w0 rows (ls++[⟨w.heap.size,2,t,C70 x y⟩]) (w.alloc (.cells #[.int .i64 x,.int .i64 y] t)):=
 h.alloc #[.int .i64 x,.int .i64 y] t (C70 x y) ht fun j hj=>by
  have:j=0\/j=1:=by simp at hj;omega
  rcases this with rfl|rfl<;>rfl
theorem ko.pg0(h:ko L w0 rows ls w){t:Nat}(ht:(t==L.ev)=Tm)(x:Int):ko L w0 rows (ls++[⟨w.heap.size,1,t,fun _=>.int .i64 x⟩]) (w.alloc (.cells #[.int .i64 x] t)):=
 h.alloc #[.int .i64 x] t (fun _=>.int .i64 x) ht fun j hj=>by
  have:j=0:=by simp at hj;omega
  subst this;rfl
theorem Si0(Et:((59:Nat)==L.ev)=Tm)(hb:rows[kb]?=Gn ⟨b,1,2,fun _=>.int .i64 dev⟩)(d x:Int)(w:En)(hF:Kn L w0 rows w):
  Ao prog Tm L.R1 L.D1 147 #[.agg #[.int .i64 d,.int .i64 x],.pointer (Gn ⟨b,0,Hn⟩)] w (fun v w'=>v=.bool (decide (d=dev))/\Kn L w0 rows w') (fun _ _=>False):=by
 replace hF:=hF.lay;have hk:(base 147).kind≠.early:=J1;refine Ao.intro L.Nn #[.agg #[.int .i64 d,.int .i64 x],.pointer (Gn ⟨b,0,Hn⟩),Bn,Bn,Bn,Bn,Bn,Bn] func147 rfl J0 fun cl cs Bo tt _=>?_;refine Ej ?_;refine K9 fun w1 K hK hF=>?_;refine vm ?_ ?_
 ·exact sj
 clear hK K;replace hF:ko L w0 rows [⟨w1.heap.size,2,59,C70 d x⟩] _:=hF.qg0 Et d x;generalize hB:w1.heap.size=B at *;generalize hW:(w1.alloc (.cells #[.int .i64 d,.int .i64 x] 59))=w3 at *;clear hW hB w1;refine um ?_;refine qj ?_;refine og ?_;refine rj fun w1 K hK hF=>?_;have hc:World.cell? _ ⟨B,0,Hn⟩=Gn (.int .i64 d):=hF.oI (k:=0) rfl (j:=0) (show 0<2 by omega);refine vm ?_ ?_
 ·exact nj
 clear hK K;clear hc;refine um ?_;refine K9 fun w1 K hK hF=>?_;have hc:World.cell? _ ⟨b,0,Hn⟩=Gn (.int .i64 dev):=hF.cell hb (j:=0) (show 0<1 by omega);refine vm ?_ ?_
 ·refine hF.looks hb ?_;exact T9
 clear hK K;clear hc;refine um ?_;refine uj ?_;refine Tc fun todo=>?_;exact tt _ todo _ _ rfl (Fp L.Nn I0 _) ⟨by first|rfl|simp|(simp;rfl),hF.drop⟩
noncomputable def L80:Code:=match Tryz.f146.body with
 |some (.seq _ (.seq (.seq _ (.block _ (.loop c))) _))=>c
 |_=>.skip
noncomputable def dg0:Code:=match Tryz.f146.body with
 |some (.seq _ (.seq _ c))=>c
 |_=>.skip
variable {ins:List (Int×Int)}{a:Option Vm}{c:Nat}
section
variable (Et:((59:Nat)==L.ev)=Tm)(hb:rows[kb]?=Gn ⟨b,1,2,fun _=>.int .i64 dev⟩)(iu:∀(j:Nat)(x:Int×Int),ins[j]?=Gn x->∃ib io,a=Gn ⟨ib,io,Hn⟩/\Bq L w0 ib/\w0.cell? ⟨ib,io+j*2,Hn⟩=Gn (.int .i64 x.1)/\w0.cell? ⟨ib,io+j*2+1,Hn⟩=Gn (.int .i64 x.2))(YH:ins.length<=1000)
include Et hb iu YH
theorem VY{Bo:zn->En->Prop}(cs:List Xm)
  (tt:∀(a:Act)(todo:List Item)(w':En)(v:Dn),a.defers=[]->yw prog L.R1 L.D1 146 Tryz.f146 a.tmps w' v->(Kn L w0 rows w'/\((v=.int .i64 (-1)/\∀(j:Nat)(x:Int×Int),ins[j]?=Gn x->x.1≠dev)\/∃(n:Nat)(x:Int×Int),v=.int .i64 n/\ins[n]?=Gn x/\x.1=dev/\∀j,j<n->∀y,ins[j]?=Gn y->y.1≠dev))->Pn prog Tm L.R1 L.D1 Bo (G {(base 146).at a todo with mode:=.returning} cs) w'):
  ∀(ez i:Nat)(w:En)(u2 u3 u5 u9 DF EF RD SD jC kC oC qC tC:Dn),i+ez=ins.length->(∀j,j<i->∀y,ins[j]?=Gn y->y.1≠dev)->ko L w0 rows [] w->
   Pn prog Tm L.R1 L.D1 Bo (G ((base 146).at {tmps:=#[.slice a ins.length c,.func (.func 147) #[] #[.pointer (Gn ⟨b,0,Hn⟩)],u2,u3,.int .i64 0,u5,.slice a ins.length c,.int .i64 ins.length,.int .i64 i,u9,DF,EF,RD,SD,jC,kC,oC,qC,tC],defers:=[]} [.code L80,.inLoop L80,.inBlock 0,.code dg0]) cs) w:=by
 have hk:(base 146).kind≠.early:=J1;intro ez;induction ez with
 |zero=>
  intro i w u2 u3 u5 u9 DF EF RD SD jC kC oC qC tC hi oH hF;obtain rfl:i=ins.length:=E0;refine bj ?_;refine je ?_;refine bj ?_;refine Tc fun todo=>?_;exact tt _ todo _ _ rfl (Fp L.Nn I0 _) ⟨hF.drop,.inl ⟨rfl,fun j x h=>oH j (List.getElem?_eq_some_iff.1 h).1 x h⟩⟩
 |succ ez ih=>
  intro i w u2 u3 u5 u9 DF EF RD SD jC kC oC qC tC hi oH hF;have yo:i<ins.length:=E0;have lG:(i:Int)<(ins.length:Int):=E0;have hwr:IntKind.i64.wrap ((i:Int)+1)=((i+1:Nat):Int):=by rw[IntKind.wrap_i64];omega
  obtain⟨x,hx⟩:∃x,ins[i]?=Gn x:=⟨_,List.getElem?_eq_getElem yo⟩;obtain⟨ib,io,ea,si,c0,c1⟩:=iu i x hx;obtain⟨d,nn⟩:=x;subst ea;refine bj ?_;refine Pn.vr L.Nn (by first|rfl|simp[Act.eval,lG]|simp[Act.eval]) ?_;refine gj ?_;refine Ha ?_;refine pj fun w1 K hK hF=>?_;refine vm ?_ ?_
  ·exact Uh
  clear hK K;refine um ?_;refine K9 fun w1 K hK hF=>?_;have pU:World.cell? _ ⟨ib,io+i*2,Hn⟩=Gn (.int .i64 d):=(hF.Xo si).trans c0;have QM:World.cell? _ ⟨ib,io+i*2+1,Hn⟩=Gn (.int .i64 nn):=(hF.Xo si).trans c1;refine vm ?_ ?_
  ·refine hF.zp si ?_;exact Hh
  clear hK K;clear pU QM;refine um ?_;refine Pn.Oi0 L.Nn (f:=147) (cap:=#[.pointer (Gn ⟨b,0,Hn⟩)]) rfl I0 hk rfl I0 func147 I0 rfl #[.agg #[.int .i64 d,.int .i64 nn],.pointer (Gn ⟨b,0,Hn⟩)] J0 (Si0 Et (Aq hb) d nn _ hF) ?_ S8;rintro v w2 ⟨rfl,Gs⟩;replace hF:ko L w0 rows [] _:=Gs;clear Gs;refine um ?_;refine J9 ?_;by_cases hd:d=dev
  ·skip;refine Pn.vr L.Nn (by first|rfl|simp[Act.eval,hd]) ?_;refine gj ?_;refine Tc fun todo=>?_;exact tt _ todo _ _ rfl (Fp L.Nn I0 _) ⟨hF.drop,.inr ⟨i,(d,nn),P5,hx,hd,oH⟩⟩
  ·skip;refine Pn.Zq L.Nn (by first|rfl|simp[Act.eval,hd]) ?_;refine gj ?_;refine Ug ?_;refine ih (i+1) _ _ _ _ _ _ _ _ _ _ _ _ _ _ E0 (fun j hj y hy=>?_) hF;by_cases gy:j=i
   ·subst gy;rw[hx]at hy;cases hy;exact hd
   ·exact oH j E0 y hy
theorem Vb0(w:En)(hF:Kn L w0 rows w):
  Ao prog Tm L.R1 L.D1 146 #[.slice a ins.length c,.func (.func 147) #[] #[.pointer (Gn ⟨b,0,Hn⟩)]] w (fun v w'=>Kn L w0 rows w'/\((v=.int .i64 (-1)/\∀(j:Nat)(x:Int×Int),ins[j]?=Gn x->x.1≠dev)\/∃(n:Nat)(x:Int×Int),v=.int .i64 n/\ins[n]?=Gn x/\x.1=dev/\∀j,j<n->∀y,ins[j]?=Gn y->y.1≠dev)) (fun _ _=>False):=by
 replace hF:=hF.lay;have hk:(base 146).kind≠.early:=J1;refine Ao.intro L.Nn #[.slice a ins.length c,.func (.func 147) #[] #[.pointer (Gn ⟨b,0,Hn⟩)],Bn,Bn,Bn,Bn,Bn,Bn,Bn,Bn,Bn,Bn,Bn,Bn,Bn,Bn,Bn,Bn,Bn] func146 rfl J0 fun cl cs Bo tt _=>?_;refine bj ?_;refine La ?_;refine O9 ?_;refine J9 ?_;refine Di ?_;exact VY Et hb iu YH _ tt ins.length 0 _ _ _ _ _ _ _ _ _ _ _ _ _ _ E0 (fun j hj=>E0) hF
end
theorem MN{ins:List (Int×Int)}{dev:Int}(h:∀(j:Nat)(x:Int×Int),ins[j]?=Gn x->x.1≠dev):Yt ins dev=(0,0):=by
 unfold Yt;have:ins.find? (fun x=>x.1==dev)=none:=by
  rw[List.find?_eq_none];intro x hx;obtain⟨j,hj⟩:=List.getElem?_of_mem hx;simpa using h j x hj
 rw[this]
theorem PN{ins:List (Int×Int)}{dev:Int}{n:Nat}{x:Int×Int}(h:ins[n]?=Gn x)(hd:x.1=dev)(oH:∀j,j<n->∀y,ins[j]?=Gn y->y.1≠dev):Yt ins dev=(x.2,1):=by
 unfold Yt;have:ins.find? (fun x=>x.1==dev)=Gn x:=by
  induction ins generalizing n with
  |nil=>simp at h
  |cons y l ih=>
   cases n with
   |zero=>
    simp at h;subst h;rw[List.find?_cons_of_pos];simp[hd]
   |succ n=>
    have h0:=oH 0 E0 y rfl;rw[List.find?_cons_of_neg (by simp[h0])];exact ih X2 fun j hj z hz=>oH (j+1) E0 z (by simpa using hz)
 rw[this]
theorem I90(Et:((59:Nat)==L.ev)=Tm)(jS:((2:Nat)==L.ev)=Tm)(iu:∀(j:Nat)(x:Int×Int),ins[j]?=Gn x->∃ib io,a=Gn ⟨ib,io,Hn⟩/\Bq L w0 ib/\w0.cell? ⟨ib,io+j*2,Hn⟩=Gn (.int .i64 x.1)/\w0.cell? ⟨ib,io+j*2+1,Hn⟩=Gn (.int .i64 x.2))(YH:ins.length<=1000)(w:En)(hF:Kn L w0 rows w):
  Ao prog Tm L.R1 L.D1 143 #[.int .i64 dev,.slice a ins.length c] w (fun v w'=>v=.tuple #[.int .i64 (Yt ins dev).1,.int .i64 (Yt ins dev).2]/\Kn L w0 rows w') (fun _ _=>False):=by
 replace hF:=hF.lay;have hk:(base 143).kind≠.early:=J1;refine Ao.intro L.Nn #[.int .i64 dev,.slice a ins.length c,Bn,Bn,Bn,Bn,Bn,Bn,Bn,Bn,Bn,Bn,Bn,Bn,Bn,Bn,Bn] func143 rfl J0 fun cl cs Bo tt _=>?_;refine J9 ?_;refine La ?_;refine K9 fun w1 K hK hF=>?_;refine vm ?_ ?_
 ·exact sj
 clear hK K;replace hF:ko L w0 rows [⟨w1.heap.size,1,2,fun _=>.int .i64 dev⟩] _:=hF.pg0 jS dev;generalize hB:w1.heap.size=b at *;generalize hW:(w1.alloc (.cells #[.int .i64 dev] 2))=w3 at *;clear hW hB w1;refine um ?_;refine uj ?_;refine Ec ?_;refine W9 ?_;refine Pn.bB L.Nn rfl I0 hk rfl func146 I0 rfl #[.slice a ins.length c,.func (.func 147) #[] #[.pointer (Gn ⟨b,0,Hn⟩)]] J0 (Vb0 (rows:=rows++_) Et (au (k:=0) rfl) iu YH _ hF) ?_ S8;rintro v w2 ⟨Gs,hv⟩;replace hF:ko L w0 rows _ _:=Gs;clear Gs;refine um ?_;rcases hv with⟨rfl,oH⟩|⟨n,x,rfl,hx,hd,oH⟩
 ·skip;refine M9 ?_;refine gj ?_;refine jh ?_;refine gj ?_;refine Tc fun todo=>?_;exact tt _ todo _ _ rfl (Qy L.Nn I0 _) ⟨by rw[MN oH];rfl,hF.drop⟩
 ·skip;obtain⟨ib,io,ea,si,c0,c1⟩:=iu n x hx;obtain⟨d,nn⟩:=x;subst ea;have yo:=(List.getElem?_eq_some_iff.1 hx).1;have lG:(n:Int)<(ins.length:Int):=by omega
  have hnn:¬((n:Int)<0):=E0;refine M9 ?_;refine gj ?_;refine Pn.Zq L.Nn (by first|rfl|simp[Act.eval,hnn]|simp[Act.eval]) ?_;refine ak ?_;refine Vk fun w1 K hK hF=>?_;refine vm ?_ ?_
  ·exact Uh
  clear hK K;refine um ?_;refine rj fun w1 K hK hF=>?_;have QM:World.cell? _ ⟨ib,io+n*2+1,Hn⟩=Gn (.int .i64 nn):=(hF.Xo si).trans c1;refine vm ?_ ?_
  ·refine hF.zp si ?_;exact T9
  clear hK K;clear QM;refine um ?_;refine uj ?_;refine Tc fun todo=>?_;exact tt _ todo _ _ rfl (Qy L.Nn I0 _) ⟨by rw[PN hx hd oH];rfl,hF.drop⟩
end
section
variable {L:Bt}{w0:En}{rows:List Jp}{ic g:Nat}{num dev:Int}{net code:Dn}{z:Nat->Int}{ins:List (Int×Int)}{inV:Dn}
theorem K70(Et:((97:Nat)==L.ev)=Tm)(sp0:((59:Nat)==L.ev)=Tm)(jS:((2:Nat)==L.ev)=Tm)(hi:rows[ic]?=Gn (jo g num net code z))(iu:InR L w0 inV ins)(YH:ins.length<=1000)(R A:Nat)(xw:R<4)(vw:A<4)(w:En)(hF:Kn L w0 rows w):
  Ao prog Tm L.R1 L.D1 129 #[.pointer (Gn ⟨g,0,Hn⟩),.agg #[.int .i64 14,.int .i64 R,.int .i64 A,.int .i64 dev],inV] w (fun v w'=>v=.tuple #[]/\Kn L w0 (rows.set ic (jo g num net code (Wn (Wn z (25+R) (Yt ins dev).1) (25+A) (Yt ins dev).2))) w') (fun _ _=>False):=by
 refine Xj fun hk=>?_;obtain⟨a,c,rfl,iu⟩:=iu;refine Ao.intro (c:=WE) L.Nn _ func129 rfl J0 fun cl cs Bo tt _=>cB (g:=g) Et R A xw vw 14 dev (.slice a ins.length c) w hF fun B w3 hF=>?_;replace hF:ko L w0 (rows.set ic (jo g num net code z)) [qp B 14 R A dev] w3:=by rw[bu hi];exact hF
 refine J9 ?_;refine Db ?_;refine cj ?_;refine .Un L.Nn [0,1,2,3,4,5,6,7,8,9,10,11,12] I0 ?_;refine pj fun w1 K hK hF=>?_;refine jc fun a0 a1 a2 a3=>?_;refine vm ?_ ?_
 ·exact nj
 clear hK K;clear a0 a1 a2 a3;refine um ?_;refine M9 ?_;refine Pn.bB L.Nn rfl I0 hk rfl func143 I0 rfl #[.int .i64 dev,.slice a ins.length c] J0 (I90 (dev:=dev) sp0 jS iu YH _ hF) ?_ S8;rintro v w2 ⟨rfl,Gs⟩;replace hF:ko L w0 (rows.set ic (jo g num net code z)) [qp B 14 R A dev] _:=Gs;clear Gs;refine um ?_;refine Ja ?_;refine K9 fun w1 K hK hF=>?_;have hc:World.cell? _ ⟨g,25+R,Hn⟩=Gn (.int .i64 (z (25+R))):=ko.cz hi hF E0 E0;refine Xb fun zu=>?_;refine vm ?_ ?_
 ·exact Rb
 clear hK K;clear hc zu;replace hF:=ko.yA hi hF (j:=25+R) E0 ((Yt ins dev).1);refine um ?_;refine rj fun w1 K hK hF=>?_;have hc:World.cell? _ ⟨g,25+A,Hn⟩=Gn (.int .i64 ((Wn z (25+R) (Yt ins dev).1) (25+A))):=ko.cz hi hF E0 E0;have zu:World.frozen? _ ⟨g,25+A,Hn⟩=false:=ko.FO hi hF (25+A);refine vm ?_ ?_
 ·refine ko.Px hi hF (25+A) _ ?_;exact yd
 clear hK K;clear hc zu;replace hF:=ko.yA hi hF (j:=25+A) E0 ((Yt ins dev).2);refine um ?_;refine J9 ?_;exact mb
end
structure Ln where
 wv:Dn
 ws:List Int
 lost:Int
 shown:Bool
 shows:Int
 since:Int
def lB(l:Ln)(j:Nat):Value:=if j=0 then l.wv else if j=1 then .int .i64 l.lost else if j=2 then .bool l.shown else if j=3 then .int .i64 l.shows else .int .i64 l.since
def eu(Ls:Nat->Ln)(j:Nat):Value:=lB (Ls (j/5)) (j%5)
theorem T80(Ls:Nat->Ln)(n:Nat){i:Nat}(hi:i<5):eu Ls (n*5+i)=lB (Ls n) i:=by
 unfold eu;rw[show (n*5+i)/5=n by omega,show (n*5+i)%5=i by omega]
section
variable {w:En}{L m t n i a:Nat}{Ls:Nat->Ln}
theorem Tn.rF(h:Tn w L m t (eu Ls))(hi:i<5)(ha:a=n*5+i){v:Dn}{l':Ln}(hl:∀j,j<5->lB l' j=if j=i then v else lB (Ls n) j):Tn (w.setCell ⟨L,a,Hn⟩ v) L m t (eu (Qo Ls n l')):=by
 subst ha;refine(h.set _ _).congr fun j _=>?_;unfold eu;by_cases e:j/5=n
 ·rw[e,Yn,hl _ (Nat.mod_lt _ E0)];by_cases e2:j%5=i
  ·rw[if_pos e2,if_pos E0]
  ·rw[if_neg e2,if_neg E0]
 ·rw[Oo _ _ e,if_neg E0]
theorem five{j:Nat}(h:j<5):j=0\/j=1\/j=2\/j=3\/j=4:=E0
section
variable (h:Tn w L m t (eu Ls))
include h
theorem Tn.lw(ha:a=n*5+0)(v:Dn)(ws:List Int):Tn (w.setCell ⟨L,a,Hn⟩ v) L m t (eu (Qo Ls n {Ls n with wv:=v,ws:=ws})):=
 Tn.rF h E0 ha fun j hj=>by rcases five hj with rfl|rfl|rfl|rfl|rfl<;>rfl
theorem Tn.ll(ha:a=n*5+1)(x:Int):Tn (w.setCell ⟨L,a,Hn⟩ (.int .i64 x)) L m t (eu (Qo Ls n {Ls n with lost:=x})):=
 Tn.rF h E0 ha fun j hj=>by rcases five hj with rfl|rfl|rfl|rfl|rfl<;>rfl
theorem Tn.yX(hi:i<5)(ha:a=n*5+i)(hm:a<m):w.cell? ⟨L,a,Hn⟩=Gn (lB (Ls n) i):=by
 subst ha;rw[h.cell hm,T80 _ _ hi]
end
end
def InK(w:En)(pi:Option Vm)(l:List (Int×Int)):Prop:=∀(j:Nat)(x:Int×Int),l[j]?=Gn x->∃ib io,pi=Gn ⟨ib,io,Hn⟩/\w.cell? ⟨ib,io+j*2,Hn⟩=Gn (.int .i64 x.1)/\w.cell? ⟨ib,io+j*2+1,Hn⟩=Gn (.int .i64 x.2)
theorem J90(Kb ci:Nat)(pi:Option Vm)(l:List (Int×Int))(dev:Int)(w:En)(h7:w.cell? ⟨Kb,7,Hn⟩=Gn (.slice pi l.length ci))(hs:InK w pi l)(hl:l.length<=1000):
  Zm prog 130 #[.pointer (Gn ⟨Kb,0,Hn⟩),.int .i64 dev] w fun e w'=>e=.returned (.tuple #[.int .i64 (Yt l dev).1,.int .i64 (Yt l dev).2])/\w'=w:=by
 have HS:=Qp hs;obtain⟨n,hn⟩:∃n,n=l.length:=⟨_,rfl⟩;have HN:=Qp hn;rw[<-hn]at h7 hl
 go_enter func130,ntmps130
 go_wp2_with fail
 go_loopw [6] (fun i wr=>∃k:Nat,k<=n/\i=.int .i64 k/\Hid (∀j,j<k->∀y:Int×Int,l[j]?=Gn y->y.1≠dev)/\wr=w) (fun i _=>n-(intOf i).toNat)
 case atStart=>exact⟨0,Pm _,rfl,fun j hj=>absurd hj E0,rfl⟩
 case round=>
  obtain⟨k,hk,rfl,HK,rfl⟩:=hrel;by_cases yo:k<n
  ·have lG:(k:Int)<(n:Int):=by omega
   obtain⟨x,hx⟩:∃x,l[k]?=Gn x:=⟨_,List.getElem?_eq_getElem (by rw[<-HN.out];exact yo)⟩;obtain⟨ib,io,rfl,c0,c1⟩:=HS.out k x hx;have HX:=Qp hx;obtain⟨x0,x1⟩:=x;by_cases he:x0=dev
   ·have HR:=Qp (PN HX.out he HK.out);subst he;go_wp2_with fail
    go_ret2
    exact⟨by rw[HR.out];rfl,rfl⟩
   ·have HK2:Hid (∀j,j<k+1->∀y:Int×Int,l[j]?=Gn y->y.1≠dev):=fun j hj y hy=>by
     rcases Nat.lt_or_ge j k with h|h
     ·exact HK.out j h y hy
     ·obtain rfl:j=k:=by omega
      rw[HX.out]at hy;cases hy;exact he
    exact Ik
  ·obtain rfl:k=n:=by omega
   have HR:=Qp (MN fun j x hj=>HK.out j (by rw[HN.out];exact(List.getElem?_eq_some_iff.1 hj).1) x hj);go_wp2_with fail
   go_ret2
   exact⟨by rw[HR.out];rfl,rfl⟩
theorem sP(Kb ci:Nat)(pi:Option Vm)(l:List (Int×Int))(R A dev:Int)(w:En)(h7:w.cell? ⟨Kb,7,Hn⟩=Gn (.slice pi l.length ci))(hs:InK w pi l)(hl:l.length<=1000):
  Zm prog 115 #[.pointer (Gn ⟨Kb,0,Hn⟩),.agg #[.int .i64 14,.int .i64 R,.int .i64 A,.int .i64 dev]] w fun e w'=>e=.returned (.tuple #[.int .i64 (Yt l dev).1,.int .i64 (Yt l dev).2])/\Sm w.heap.size w w':=by
 have HA:Hid (Sm w.heap.size w (w.alloc (.cells #[.int .i64 14,.int .i64 R,.int .i64 A,.int .i64 dev] 97))):=(Below.refl _ _).alloc N8 _;have HC:Hid (Zm prog 130 #[.pointer (Gn ⟨Kb,0,Hn⟩),.int .i64 dev] (w.alloc (.cells #[.int .i64 14,.int .i64 R,.int .i64 A,.int .i64 dev] 97)) fun e w'=>e=.returned (.tuple #[.int .i64 (Yt l dev).1,.int .i64 (Yt l dev).2])/\w'=w.alloc (.cells #[.int .i64 14,.int .i64 R,.int .i64 A,.int .i64 dev] 97)):=
  J90 Kb ci pi l dev _ ((HA.out.cell (p:=⟨Kb,7,Hn⟩) (Rr h7)).trans h7) (fun j x hj=>by
   obtain⟨ib,io,e,c0,c1⟩:=hs j x hj;exact⟨ib,io,e,(HA.out.cell (p:=⟨ib,_,Hn⟩) (Rr c0)).trans c0,(HA.out.cell (p:=⟨ib,_,Hn⟩) (Rr c1)).trans c1⟩) hl
 go_enter func115,ntmps115
 go_wp2_with (go_at_call 130;refine HC.out.mono ?_;rintro e w' ⟨rfl,rfl⟩)
 go_ret2
 exact⟨rfl,HA.out⟩
theorem BN{w:En}{b e s n:Nat}{v:Dn}{xs:List Dn}(h:w.ownsRow b e s v n xs):∃p cap,v=.slice p n cap:=by
 rcases h.2 with⟨rfl,rfl⟩|⟨g,cap,Ov,rfl,_⟩
 ·exact⟨Hn,0,rfl⟩
 ·exact⟨_,cap,rfl⟩
theorem XB{P:Ym}(w:En){ops:Array Oper}{rest:List Oper}{o:Oper}{a:Act}{Q:Exit->Act->En->Prop}(lS:o.guard=Hn)(s x:Operand)(t:TypeId)
  (ho:o.op=.call {callee:=.builtin .append,args:=#[s,x],argTypes:=#[t,t]})
  (base:Nat)(e:TypeId)(z:Dn)(size bytes:Nat)(ht:P.underlying t=Gn (.slice e))(Ny:(P.info? e).map (fun i=>(i.zero,i.size,i.bytes))=Gn (Gn z,size,bytes))
  (hzs:z.cells.size=size)(ju:0<size)(v:Dn)(n:Nat)(xs:List Dn)(hs:a.eval s=v)(Io:w.ownsRow base e size v n xs)
  (b off m c:Nat)(Wv:List Dn)(hx:a.eval x=.slice (Gn ⟨b,off,Hn⟩) m c)(hl:Wv.length=m*size)(hc:∀j u,Wv[j]?=Gn u->w.cell? ⟨b,off+j,Hn⟩=Gn u)(h1:∀u∈Wv,u.oneCell'=Um)
  (Q_:n+m<=maxLen)(dA:(n+m)*bytes<=140737488355328)(ZD:base<=w.heap.size)
  (h:∀p cap w',w'.ownsRow base e size (.slice p (n+m) cap) (n+m) (xs++Wv)->w.grownBy w' v.ownBlock->((Value.slice p (n+m) cap).ownBlock=v.ownBlock\/(Value.slice p (n+m) cap).ownBlock=Gn w.heap.size)->wpList P ops Q rest (a.put o.dst (.slice p (n+m) cap)) w'):wpList P ops Q (o::rest) a w:=by
 obtain⟨i,h2,h3,h4,h5⟩:=info_parts Ny;obtain⟨v',w',hr,g2,g3,_,g5⟩:=run_append_own_at (P:=P) w base t o.type e i z size bytes ht h2 h3 h4 h5 hzs ju v n xs Io ⟨b,off,Hn⟩ m c Wv hl (fun j u hu=>by rw[Addr.add_lit];exact hc j u hu) h1 Q_ dA ZD;obtain⟨p,cap,rfl⟩:=BN g2;refine wpList_plain lS fun _ hK=>?_;refine zg ?_;exact hK _ _ (h p cap w' g2 g3 g5)
theorem eT(Kb Lb kc N:Nat)(R A:Int)(Ls:Nat->Ln)(w:En)(h5:w.cell? ⟨Kb,5,Hn⟩=Gn (.slice (Gn ⟨Lb,0,Hn⟩) kc kc))(hr:Tn w Lb (kc*5) 175 (eu Ls))(hN:N<kc)(_hk:kc<=1000)(p:Option Vm)(c:Nat)(hw:(Ls N).wv=.slice p 0 c):
  Zm prog 115 #[.pointer (Gn ⟨Kb,0,Hn⟩),.agg #[.int .i64 12,.int .i64 R,.int .i64 A,.int .i64 N]] w fun e w'=>e=.returned (.tuple #[.int .i64 0,.int .i64 0])/\Sm w.heap.size w w':=by
 have HW:=Qp hw;refine bk fun HA=>?_;refine Xd fun HB HR k5 b0 b3=>?_
 go_enter func115,ntmps115
 go_wp2_with fail
 generalize w.alloc (.cells #[.int .i64 12,.int .i64 R,.int .i64 A,.int .i64 N] 97)=W at *;generalize hB:w.heap.size=B at *;go_region_held3 (fun W=>W.cell? ⟨Kb,5,Hn⟩=Gn (.slice (Gn ⟨Lb,0,Hn⟩) kc kc)/\W.cell? ⟨B,3,Hn⟩=Gn (.int .i64 N)) (go_keep) (fail);have e0:W.cell? ⟨Lb,N*5,Hn⟩=Gn (.slice p 0 c):=(Tn.yX HR.out (n:=N) (i:=0) (a:=N*5) E0 rfl E0).trans (congrArg Gn (by show lB (Ls N) 0=_;unfold lB;simp[HW.out]));go_wp2_with fail
 go_ret2
 exact⟨rfl,F6⟩
theorem rP(Kb Lb kc N:Nat)(R A:Int)(Ls:Nat->Ln)(w:En)(h5:w.cell? ⟨Kb,5,Hn⟩=Gn (.slice (Gn ⟨Lb,0,Hn⟩) kc kc))(hr:Tn w Lb (kc*5) 175 (eu Ls))(hN:N<kc)(_hk:kc<=1000)(hw:(Ls N).shown=Tm):
  Zm prog 115 #[.pointer (Gn ⟨Kb,0,Hn⟩),.agg #[.int .i64 13,.int .i64 R,.int .i64 A,.int .i64 N]] w fun e w'=>e=.returned (.tuple #[.int .i64 0,.int .i64 (-1)])/\Sm w.heap.size w w':=by
 refine Ib fun HW HA HB HR k5 b0 b3=>?_
 go_enter func115,ntmps115
 go_wp2_with fail
 generalize w.alloc (.cells #[.int .i64 13,.int .i64 R,.int .i64 A,.int .i64 N] 97)=W at *;generalize hB:w.heap.size=B at *;go_region_held3 (fun W=>W.cell? ⟨Kb,5,Hn⟩=Gn (.slice (Gn ⟨Lb,0,Hn⟩) kc kc)/\W.cell? ⟨B,3,Hn⟩=Gn (.int .i64 N)) (go_keep) (fail);have e2:W.cell? ⟨Lb,N*5+2,Hn⟩=Gn (.bool Tm):=(Tn.yX HR.out (n:=N) (i:=2) (a:=N*5+2) E0 rfl E0).trans (congrArg Gn (by show lB (Ls N) 2=_;unfold lB;simp[HW.out]));go_wp2_with fail
 go_ret2
 exact⟨rfl,F6⟩
theorem iT(Kb Lb kc N:Nat)(R A:Int)(Ls:Nat->Ln)(w:En)(h5:w.cell? ⟨Kb,5,Hn⟩=Gn (.slice (Gn ⟨Lb,0,Hn⟩) kc kc))(hr:Tn w Lb (kc*5) 175 (eu Ls))(hN:N<kc)(_hk:kc<=1000)(hw:(Ls N).shown=Um)(F:Int)(h6:w.cell? ⟨Kb,6,Hn⟩=Gn (.int .i64 F)):
  Zm prog 115 #[.pointer (Gn ⟨Kb,0,Hn⟩),.agg #[.int .i64 13,.int .i64 R,.int .i64 A,.int .i64 N]] w fun e w'=>e=.returned (.tuple #[.int .i64 (Ls N).shows,.int .i64 (IntKind.i64.wrap (F-(Ls N).since))])/\Sm w.heap.size w w':=by
 refine Ib fun HW HA HB HR k5 b0 b3=>?_;have k6:=(HA.out.cell (p:=⟨Kb,6,Hn⟩) (Rr h6)).trans h6
 go_enter func115,ntmps115
 go_wp2_with fail
 generalize w.alloc (.cells #[.int .i64 13,.int .i64 R,.int .i64 A,.int .i64 N] 97)=W at *;generalize hB:w.heap.size=B at *;go_region_held3 (fun W=>W.cell? ⟨Kb,5,Hn⟩=Gn (.slice (Gn ⟨Lb,0,Hn⟩) kc kc)/\W.cell? ⟨B,3,Hn⟩=Gn (.int .i64 N)) (go_keep) (fail);have e2:W.cell? ⟨Lb,N*5+2,Hn⟩=Gn (.bool Um):=(Tn.yX HR.out (n:=N) (i:=2) (a:=N*5+2) E0 rfl E0).trans (congrArg Gn (by show lB (Ls N) 2=_;unfold lB;simp[HW.out]));have e3:W.cell? ⟨Lb,N*5+3,Hn⟩=Gn (.int .i64 (Ls N).shows):=(Tn.yX HR.out (n:=N) (i:=3) (a:=N*5+3) E0 rfl E0).trans rfl;have e4:W.cell? ⟨Lb,N*5+4,Hn⟩=Gn (.int .i64 (Ls N).since):=(Tn.yX HR.out (n:=N) (i:=4) (a:=N*5+4) E0 rfl E0).trans rfl;go_wp2_with fail;go_region_held3 (fun W=>W.cell? ⟨Kb,6,Hn⟩=Gn (.int .i64 F)/\W.cell? ⟨Lb,N*5+3,Hn⟩=Gn (.int .i64 (Ls N).shows)/\W.cell? ⟨Lb,N*5+4,Hn⟩=Gn (.int .i64 (Ls N).since)) (go_keep) (fail);go_wp2_with fail
 go_ret2
 exact⟨by first|rfl|(rw[IntKind.wrap_i64];rfl),by rw[hB];exact HA.out.drew.drew⟩
structure OE(w W w1:En)(Lb:Nat)(v:Dn)(m:Nat)(xs:List Dn):Prop where
 b1:Sm w.heap.size w W
 sz:w.heap.size<=W.heap.size
 gr:W.grownBy w1 Hn
 own:w1.ownsRow 0 2 1 v m xs
 at':v.ownBlock=Hn\/v.ownBlock=Gn W.heap.size
section
variable {w W w1:En}{Lb m:Nat}{v:Dn}{xs:List Dn}
section
variable (h:OE w W w1 Lb v m xs)
include h
theorem OE.but{j:Nat}{x:Dn}:Jq (fun j=>j=Lb) w (w1.setCell ⟨Lb,j,Hn⟩ x):=by
 refine⟨h.gr.os.trans h.b1.os,h.gr.tape.trans h.b1.tape,h.gr.output.trans h.b1.output,?_,fun k hk hn=>?_⟩
 ·rw[size_setCell];exact Qm h.sz h.gr.size
 ·rw[yn _ _ _ _ hn,h.gr.block k (Lm hk h.sz) P0];exact h.b1.block k hk
theorem OE.rL(hL:Lb<W.heap.size){j:Nat}{x:Dn}:(w1.setCell ⟨Lb,j,Hn⟩ x).ownsRow 0 2 1 v m xs:=
 Lr h.own fun b hb=>yn _ (a:=⟨Lb,j,Hn⟩) _ _ (fun e=>by
  have e:b=Lb:=e;rcases h.at' with h1|h1
  ·rw[h1]at hb;cases hb
  ·rw[h1]at hb;have:=Option.some.inj hb;omega)
theorem OE.blk(b:Nat)(hb:v.ownBlock=Gn b):w.heap.size<=b:=by
 rcases h.at' with h1|h1
 ·rw[h1]at hb;cases hb
 ·rw[h1]at hb;have:=Option.some.inj hb;have:=h.sz;omega
end
end
def vE(l:List Int):List Value:=l.map (Value.int .i64)
theorem jT(Kb Lb kc N:Nat)(R A:Int)(Ls:Nat->Ln)(w:En)(h5:w.cell? ⟨Kb,5,Hn⟩=Gn (.slice (Gn ⟨Lb,0,Hn⟩) kc kc))(hr:Tn w Lb (kc*5) 175 (eu Ls))(hN:N<kc)(_hk:kc<=1000)(x:Int)(l:List Int)(Io:w.ownsRow 0 2 1 (Ls N).wv (l.length+1) (vE (x::l)))(hl:l.length<=1000):
  Zm prog 115 #[.pointer (Gn ⟨Kb,0,Hn⟩),.agg #[.int .i64 12,.int .i64 R,.int .i64 A,.int .i64 N]] w fun e w'=>e=.returned (.tuple #[.int .i64 x,.int .i64 1])/\∃v',Tn w' Lb (kc*5) 175 (eu (Qo Ls N {Ls N with wv:=v',ws:=l}))/\Jq (fun j=>j=Lb) w w'/\w'.ownsRow 0 2 1 v' l.length (vE l)/\∀b,v'.ownBlock=Gn b->w.heap.size<=b:=by
 obtain⟨g,cap,hw,hg,op0⟩:∃g cap,(Ls N).wv=.slice (Gn ⟨g,0,Hn⟩) (l.length+1:Nat) cap/\g<w.heap.size/\l.length+1<=cap:=by
  rcases Io.2 with⟨_,h0⟩|⟨g,cap,Ov,hv,hb,hg,hn,_⟩
  ·omega
  ·exact⟨g,cap,hv,(Array.getElem?_eq_some_iff.1 hg).1,hn⟩
 have HW:=Qp hw;rw[hw]at Io;refine bk fun HA=>?_;have HC:Hid (∀j u,(vE (x::l))[j]?=Gn u->(w.alloc (.cells #[.int .i64 12,.int .i64 R,.int .i64 A,.int .i64 N] 97)).cell? ⟨g,j,Hn⟩=Gn u):=fun j u hu=>by
  have:=Io.cells (g:=g) rfl j u hu;rw[Addr.add_lit,Nat.zero_add]at this;exact(HA.out.cell (p:=⟨g,j,Hn⟩) (Rr this)).trans this
 refine Xd fun HB HR k5 b0 b3=>?_;have e1:=HC.out 0 _ rfl;obtain⟨m,hm⟩:∃m,m=l.length:=⟨_,rfl⟩;have HM:=Qp hm;rw[<-hm]at HW hl op0;clear h5 hr HB Io hm
 go_enter func115,ntmps115
 go_wp2_with fail
 generalize w.alloc (.cells #[.int .i64 12,.int .i64 R,.int .i64 A,.int .i64 N] 97)=W at *;generalize hB:w.heap.size=B at *;go_region_held3 (fun W=>W.cell? ⟨Kb,5,Hn⟩=Gn (.slice (Gn ⟨Lb,0,Hn⟩) kc kc)/\W.cell? ⟨B,3,Hn⟩=Gn (.int .i64 N)) (go_keep) (fail);have e0:=(Tn.yX HR.out (n:=N) (i:=0) (a:=N*5) E0 rfl E0).trans (congrArg Gn HW.out);by_cases QM:cap=1
 ·subst QM;obtain rfl:m=0:=by omega
  have hl0:=List.eq_nil_of_length_eq_zero HM.out.symm;subst hl0;go_wp2_with (at_builtin;refine XB _ rfl _ _ 51 rfl 0 2 _ 1 8 underlying51 Zt rfl E0 (.slice Hn 0 0) 0 [] rfl (World.ownsRow_nil _ _ _ _) g 0 0 0 [] rfl rfl (fun j u hu=>by simp at hu) (fun u hu=>by cases hu) Y1 E0 E0 ?_);intro pn Ne0 w1 kq uo jr;have HT:Hid (OE w W.drew w1 Lb (.slice pn 0 Ne0) 0 (vE [])):=⟨F6,HA.out.drew.size,uo,kq,jr⟩;exact od
 ·go_wp2_with (at_builtin;refine XB _ rfl _ _ 51 rfl 0 2 _ 1 8 underlying51 Zt rfl E0 (.slice Hn 0 0) 0 [] rfl (World.ownsRow_nil _ _ _ _) g 1 m (cap-1) (vE l) rfl (by unfold vE;rw[List.length_map,HM.out,Nat.mul_one]) (fun j u hu=>by rw[Nat.add_comm];exact HC.out (j+1) u hu) (fun u hu=>by obtain⟨y,_,rfl⟩:=List.mem_map.1 hu;rfl) Y1 E0 E0 ?_)
  intro pn Ne0 w1 kq uo jr;have HT:Hid (OE w W.drew w1 Lb (.slice pn m Ne0) m (vE l)):=⟨F6,HA.out.drew.size,uo,kq,jr⟩;exact od
end Go.Proofs.YtdoghgnifkgfdaaGreat.Mute
