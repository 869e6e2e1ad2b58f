import Derived.Test.YtdoghgnifkgfdaaGreatP00
import Derived.Test.YtdoghgnifkgfdaaGreatP19
import Derived.Test.YtdoghgnifkgfdaaGreatP24
set_option maxRecDepth 100000
set_option maxHeartbeats 16000000
open Option renaming none->Ai,some->yi
open Go renaming World->ui,Value->ti,undef->ri
open Bool renaming true->ji,false->gi
namespace Go.Proofs.YtdoghgnifkgfdaaGreat.Mute
open Tryz Go Go.Conc Go.RowKit
section
variable {P:Program}{w:ui}{es:Array Event}{t e:TypeId}(h:P.underlying t=yi (.slice e))(a:Option Addr)(n c:Nat){x y z:Int}
include h
theorem PZ(h0:0<=x)(h1:x<=c):(Instr.sliceAt t (.slice a n c) Ai (yi (.int .i64 x)) Ai).events P w es=es:=by
 exact Me
theorem ZV(h0:0<=x)(h1:x<=n):(Instr.sliceAt t (.slice a n c) (yi (.int .i64 x)) Ai Ai).events P w es=es:=by
 exact Me
theorem PS(h0:0<=x)(h1:x<=y)(h2:y<=c):(Instr.sliceAt t (.slice a n c) (yi (.int .i64 x)) (yi (.int .i64 y)) Ai).events P w es=es:=by
 have h3:0<=y:=Int.le_trans h0 h1;have h4:x<=max y 0:=E0;simp[Instr.sliceAt,Instr.slice,Instr.sliceBounds,Instr.sliceBound,Sem.events_bind,run_underlying h,events_underlying,events_sizeOf,asIntOf,h0,h2,h3,h4]
theorem MP(h0:0<=x)(h1:x<=y)(h2:y<=z)(h3:z<=c):(Instr.sliceAt t (.slice a n c) (yi (.int .i64 x)) (yi (.int .i64 y)) (yi (.int .i64 z))).events P w es=es:=by
 have h4:0<=y:=Int.le_trans h0 h1;have h5:0<=z:=Int.le_trans h4 h2;have h6:x<=max y 0:=E0;have h7:y<=max z 0:=E0;simp[Instr.sliceAt,Instr.slice,Instr.sliceBounds,Instr.sliceBound,Sem.events_bind,run_underlying h,events_underlying,events_sizeOf,asIntOf,h0,h3,h4,h5,h6,h7]
end
theorem A20(w:ui):(zeroValue 2).run prog w=.ok (.int .i64 0) w:=by
 obtain⟨i,hi,hz,hsz,RG⟩:=info_parts Oz;simp[zeroValue,typeInfo,hi,hz]
theorem OV{w:ui}{g n c:Nat}{u:ti}(hc:w.cell? ⟨g,n,Ai⟩=yi u)(hf:w.frozen? ⟨g,n,Ai⟩=gi)(ty:TypeId):(Builtin.clear_ #[51] ty #[.slice (yi ⟨g,n,Ai⟩) 1 c]).run prog w=.ok (.tuple #[]) (w.setCell ⟨g,n,Ai⟩ (.int .i64 0)):=by
 have:=Lib.run_clear_slice w 51 2 ty (.int .i64 0) underlying51 A20 rfl rfl g n 1 c E0 (fun j hj=>by
  have e:j=0:=E0;subst e;simp[hc]) (fun j hj=>by
  have e:j=0:=E0;subst e;simpa using hf)
 exact nh
theorem L10{w:ui}{g n c:Nat}{u:ti}(hc:w.cell? ⟨g,n,Ai⟩=yi u)(hf:w.frozen? ⟨g,n,Ai⟩=gi)(ty:TypeId):∀e∈(Builtin.clear_ #[51] ty #[.slice (yi ⟨g,n,Ai⟩) 1 c]).events prog w #[],e=⟨.cell ⟨g,n,Ai⟩,ji,gi⟩:=by
 obtain⟨i,hi,hz,hsz,RG⟩:=info_parts Oz;intro e he;simp[Builtin.clear_,Sem.events_bind,run_underlying underlying51,events_underlying,zeroValue,typeInfo,hi,hz,Builtin.zeroCells,storeCells,go_sem,hc,hf]at he;exact he
section
variable {L:km}{w0 w:ui}{rows:List Row}{k:Nat}{r:Row}
theorem Ur(w:ui)(g:Nat)(arr:Array ti){b:Nat}(h:b≠g):(w.setRow g arr).heap[b]?=w.heap[b]?:=by
 unfold World.setRow;simp only[Array.getElem?_modify,if_neg (Ne.symm h)]
theorem Kn.setRow(h:Kn L w0 rows w)(hk:rows[k]?=yi r){arr:Array ti}{f':Nat->ti}(hs:arr.size=r.m)(hf:∀j,j<r.m->arr[j]?=yi (f' j)):Kn L w0 (rows.set k {r with f:=f'}) (w.setRow r.g arr)/\Turn L L.send w (w.setRow r.g arr)/\(w.setRow r.g arr).heap[L.c]?=w.heap[L.c]?:=by
 have ho:=h.row k r hk;obtain⟨cur,hg,hcs,hc⟩:=ho.rw.row;have hgn:=setRow_heap w r.g cur arr r.t (0,0) hg;have ht:Turn L L.send w (w.setRow r.g arr):=by
  refine⟨rfl,rfl,rfl,P0,fun b o hb=>?_⟩;by_cases e:b=r.g
  ·subst e;rw[hg]at hb;cases hb;exact⟨_,hgn,fun _=>rfl,fun _ x=>absurd (ho.own _ hg) x⟩
  ·exact⟨o,by rw[Ur _ _ _ e];exact hb,fun _=>rfl,fun _ _=>rfl⟩
 have yB:(w.setRow r.g arr).heap[L.c]?=w.heap[L.c]?:=Ur _ _ _ (fun e=>ho.rw.calm.nc e.symm);refine⟨⟨h.ph.trans (ht.mono fun _ _ x=>.inr x),fun m s hm=>?_,fun a b x y ha hb pR=>?_,by simpa using h.hB,by simpa using h.hc⟩,ht,yB⟩
 ·by_cases e:m=k
  ·subst e;rw[Qi hk]at hm;cases hm;exact⟨⟨⟨arr,hgn,hs,hf⟩,ho.rw.calm.turn L.Cj ht⟩,ho.own.turn L.Bj ho.rw.calm.there ht⟩
  ·rw[Yi e]at hm;have KE:=h.row m s hm;exact⟨⟨KE.rw.row.of_heap (Ur _ _ _ (h.pw m k s r hm hk e)),KE.rw.calm.turn L.Cj ht⟩,KE.own.turn L.Bj KE.rw.calm.there ht⟩
 ·have key:∀(c:Nat)(x:Row),(rows.set k {r with f:=f'})[c]?=yi x->∃x':Row,rows[c]?=yi x'/\x'.g=x.g:=fun c x hx=>by
   by_cases kH:c=k
   ·subst kH;rw[Qi hk]at hx;cases hx;exact⟨r,hk,rfl⟩
   ·rw[Yi kH]at hx;exact⟨x,hx,rfl⟩
  exact Oc
end
section
variable {L:km}{w0:ui}{rows:List Row}{k:Nat}{r:Row}
theorem b20(Vw:rows[k]?=yi r)(ht:r.t=2)(n:Nat)(xs:Nat->Int)(hxs:∀j,j<n+1->r.f j=.int .i64 (xs j))(KA:n+1<=r.m)(hml:r.m<=maxLen)(hn9:n<=1000000000)(w:ui)(hF:Kn L w0 rows w):
  Xi prog gi L.R1 L.D1 145 #[.slice (yi ⟨r.g,0,Ai⟩) (n+1:Nat) r.m,.int .i64 0,.int .i64 1] w (fun v w'=>v=.slice (yi ⟨r.g,0,Ai⟩) n r.m/\Kn L w0 (rows.set k {r with f:=fun j=>if j<n then r.f (j+1)else if j=n then .int .i64 0 else r.f j}) w') (fun _ _=>False):=by
 have zy:(0:Int)<=(n:Int)+1:=E0;have hi1:(1:Int)<=(n:Int)+1:=E0;have Ny:(n:Int)+1<=(r.m:Int):=E0;have hmn:¬r.m=n:=E0;have hi3:(n:Int)<=(n:Int)+1:=E0;have hi4:(0:Int)<=(n:Int):=E0;have hk:(base 145).kind≠.early:=E1;refine Xi.intro L.Bi #[.slice (yi ⟨r.g,0,Ai⟩) (n+1:Nat) r.m,.int .i64 0,.int .i64 1,ri,ri,ri,ri,ri,ri,ri,ri,ri,ri,ri,ri,ri,ri,ri,ri,ri,ri,ri,ri,ri,ri,ri,ri,ri,ri,ri,ri,ri,ri] func145 rfl J0 fun cl cs Stop jm _=>?_;refine J8 ?_;refine s9 ?_;refine M8 ?_;refine J8 ?_;refine N9 ?_;refine fe ?_;refine K8 fun w1 K hK hF=>?_;refine I8 ?_ ?_
 ·rw[listed_nil (by simp[go_sem,MP underlying51, *])];exact Terms.idle L.Bi _
 clear hK K;refine W9 ?_;refine J8 ?_;refine Q9 ?_;refine P8 ?_;refine J8 ?_;refine Ci.xk L.Bi G2 ?_;refine J8 ?_;refine Q9 ?_;refine P8 ?_;refine J8 ?_;refine Ci.uC (S:=Kn L w0 rows) L.Bi L.Wm 6 U0 W3 W3 [6,7] I0 hk J0 ((Au _ _).trans t6) fun w1 hR=>?_;replace hF:=Kn.rely (Kn.rely hF hR) (Turn.drew _);clear hR;refine Ii L.Bi 0 (fun _ _ h r=>Kn.rely h r) hF ?_;refine W9 ?_;refine Ii L.Bi 1 (fun _ _ h r=>Kn.rely h r) hF ?_;refine W9 ?_;refine aj L.Bi 2 rfl (fun _ _ h r=>Kn.rely h r) hF ?_ fun _ hw=>⟨run_eq_of (by
  intro K hK;go_simp;exact hK),by
  rw[listed_nil (by simp[go_sem,PZ underlying51, *])];exact Terms.idle L.Bi _⟩
 refine W9 ?_;refine Ii L.Bi 3 (fun _ _ h r=>Kn.rely h r) hF ?_;refine W9 ?_;refine Ii L.Bi 4 (fun _ _ h r=>Kn.rely h r) hF ?_;refine W9 ?_;refine aj L.Bi 5 rfl (fun _ _ h r=>Kn.rely h r) hF ?_ fun _ hw=>⟨run_eq_of (by
  intro K hK;go_simp;exact hK),by
  rw[listed_nil (by simp[go_sem,ZV underlying51, *])];exact Terms.idle L.Bi _⟩
 refine H9 ?_;obtain⟨ad,had,Ui0,ui0⟩:∃ad:Addr,(if r.m=1 then yi (⟨r.g,0,Ai⟩:Addr)else yi ⟨r.g,1,Ai⟩)=yi ad/\ad.block=r.g/\(0<n->ad=⟨r.g,1,Ai⟩):=by
  by_cases e:r.m=1
  ·exact⟨_,by rw[if_pos e],rfl,fun h=>E0⟩
  ·exact⟨_,by rw[if_neg e],rfl,fun _=>rfl⟩
 rw[had];refine .op rfl I0 hk fun w1 hR K hK=>?_;replace hF:=Kn.rely hF hR;clear hR;obtain⟨i,hi,hz,hsz,RG⟩:=info_parts Oz;have ho:=hF.row k r Vw;obtain⟨cur,hg,hcs,hc⟩:=ho.rw.row;rw[ht]at hg;have Zq:∀(j:Nat)(u:ti),((List.range n).map fun j=>r.f (j+1))[j]?=yi u->w1.cell? (ad.add j)=yi u:=fun j u hu=>by
  have hj:j<n:=by
   have:=(List.getElem?_eq_some_iff.1 hu).1;exact Yc
  rw[ui0 E0,Addr.add_mid];simp[hj]at hu;rw[<-hu,Nat.add_comm 1 j];exact ho.cell (show j+1<r.m by omega)
 have nR:∀u∈(List.range n).map (fun j=>r.f (j+1)),u.oneCell'=true:=fun u hu=>by
  obtain⟨j,hj,rfl⟩:=List.mem_map.1 hu;rw[hxs (j+1) (by have:=List.mem_range.1 hj;omega)];rfl
 have zu:=run_append_room (P:=prog) w1 51 51 2 i underlying51 hi r.g 0 r.m cur hg ad n (r.m-1) _ (by rw[hsz];simp) Zq nR E0 A1;rw[Nat.zero_mul,List.take_zero,List.nil_append,Nat.zero_add,Nat.zero_add,List.length_map,List.length_range]at zu;obtain⟨yW,hT2,hC2⟩:=hF.setRow Vw (arr:=((List.range n).map (fun j=>r.f (j+1))++cur.toList.drop n).toArray) (f':=fun j=>if j<n then r.f (j+1)else r.f j) (by simp[hcs];omega) (fun j hj=>by
  simp only[List.getElem?_toArray];by_cases e:j<n
  ·rw[List.getElem?_append_left (by simpa using e),if_pos e];simp[e]
  ·rw[List.getElem?_append_right A1,if_neg e,List.getElem?_drop];simp only[List.length_map,List.length_range];rw[show n+(j-n)=j by omega,Array.getElem?_toList];exact hc j hj)
 refine uponK_append (.tmp 22) (.tmp 25) 51 rfl rfl rfl zu (hK _ _ ⟨⟨hT2,hC2,?_⟩,?_⟩)
 ·intro e he;have he:=mem_listed he;rw[events_append_op (.tmp 22) (.tmp 25) 51 rfl rfl rfl]at he;have ru:∀wr sy (x:Addr),x.block=r.g->Av L L.send L.main (w1.setRow r.g ((List.range n).map (fun j=>r.f (j+1))++cur.toList.drop n).toArray) ⟨.cell x,wr,sy⟩:=fun wr sy x hx=>by
   obtain⟨q,hq⟩:=ho.rw.calm.there;obtain⟨q',g1,g2,_⟩:=hT2.at_ r.g q hq;refine⟨Yj _ _ _,fun z hz _=>?_⟩;have:z=⟨.cell x,wr,if sy then .atomic else .plain⟩:=by
    cases wr<;>cases sy<;>simp[MemAct.ofEvent,MemAct.touch?]at hz<;>exact hz.symm
   subst this;exact⟨q',by rw[hx];exact g1,by rw[hx];exact fun hm=>ho.rw.calm.no q hq (L.Cj r.g q' q (fun x=>(g2 x).symm) hm),fun _=>by rw[hx];exact L.Bj r.g q q' g2 (ho.own q hq)⟩
  rcases events_append_where (P:=prog) w1 0 51 _ 2 i _ 1 8 underlying51 hi hz hsz RG (.slice (yi ⟨r.g,0,Ai⟩) 0 r.m) 0 [] ⟨rfl,.inr ⟨r.g,r.m,cur,rfl,Nat.zero_le _,hg,Nat.zero_le _,hml,by rw[hcs,Nat.mul_one],P0⟩⟩ ad n (r.m-1) ((List.range n).map fun j=>r.f (j+1)) P0 Zq nR Y1 E0 e he with⟨x,h1,h2⟩|⟨q,rfl,hq⟩
  ·obtain⟨loc,wr,sy⟩:=e;simp only at h1;subst h1;rcases h2 with⟨_,h2⟩|h2
   ·exact ru _ _ x (h2.trans Ui0)
   ·exact ru _ _ x (by simpa[Value.ownBlock]using h2)
  ·refine⟨⟨fun h=>?_,fun h=>?_⟩,fun z hz=>?_⟩
   ·exact ah
   ·exact ah
   ·exact Qd
 clear hK K zu hT2 hC2 Zq nR;replace hF:=yW;clear yW;refine W9 ?_;refine M8 ?_;refine J8 ?_;refine N9 ?_;refine P9 ?_;refine K8 fun w1 K hK hF=>?_;refine I8 ?_ ?_
 ·rw[listed_nil (by simp[go_sem,PS underlying51, *])];exact Terms.idle L.Bi _
 clear hK K;refine W9 ?_;refine K8 fun w1 K hK hF=>?_;have hc:World.cell? _ ⟨r.g,n,Ai⟩=yi _:=hF.cell (r:={r with f:=fun j=>if j<n then r.f (j+1)else r.f j}) (Qi Vw _) (j:=n) (by show n<r.m;omega);have Bn:World.frozen? _ ⟨r.g,n,Ai⟩=false:=hF.frozen (Qi Vw {r with f:=fun j=>if j<n then r.f (j+1)else r.f j}) n;have DF:=OV (c:=r.m-n) hc Bn 0;refine I8 ?_ ?_
 ·refine hF.does (Qi Vw {r with f:=fun j=>if j<n then r.f (j+1)else r.f j}) n _ ?_;(intro e he;have hm:=mem_listed he;simp[go_sem]at hm;exact L10 hc Bn _ e hm)
 clear hK K;clear hc Bn DF;replace hF:=hF.set (r:={r with f:=fun j=>if j<n then r.f (j+1)else r.f j}) (Qi Vw _) n (.int .i64 0);refine W9 ?_;refine J8 ?_;refine L8 ?_;refine J8 ?_;rw[List.set_set]at hF;have e:({r with f:=fun j=>if j<n then r.f (j+1)else r.f j}:Row).put n (.int .i64 0)={r with f:=fun j=>if j<n then r.f (j+1)else if j=n then .int .i64 0 else r.f j}:=by
  unfold Row.put;congr 1;funext j;show upd _ n _ j=_;unfold upd;by_cases e1:j=n
  ·subst e1;simp
  ·rw[if_neg e1,if_neg e1]
 rw[e]at hF;refine Wb fun todo=>?_;exact Qf
theorem WX{iq:Nat}(hq:rows[iq]?=yi r)(i:Nat)(hm:i*3+3<=r.m){a:Option Addr}{cc:Nat}(hv:r.f (i*3)=.slice a 0 cc)(w:ui)(hF:Kn L w0 rows w):
  Xi prog gi L.R1 L.D1 141 #[.pointer (yi ⟨r.g,i*3,Ai⟩)] w (fun v w'=>v=.tuple #[.int .i64 0,.int .i64 0]/\Kn L w0 rows w') (fun _ _=>False):=by
 have hk:(base 141).kind≠.early:=E1;refine Xi.intro L.Bi #[.pointer (yi ⟨r.g,i*3,Ai⟩),ri,ri,ri,ri,ri,ri,ri,ri,ri,ri,ri,ri,ri,ri,ri,ri,ri,ri,ri,ri,ri,ri,ri,ri] func141 rfl J0 fun cl cs Stop jm _=>?_;refine J8 ?_;refine L8 ?_;refine J8 ?_;refine N9 ?_;refine P8 ?_;refine K8 fun w1 K hK hF=>?_;have hc:World.cell? _ ⟨r.g,i*3,Ai⟩=yi (.slice a 0 cc):=(hF.cell hq (j:=i*3) X2).trans (by rw[hv]);refine I8 ?_ ?_
 ·refine hF.looks hq ?_;exact W8
 clear hK K;clear hc;refine W9 ?_;refine Y8 ?_;refine J8 ?_;refine ng ?_;refine J8 ?_;refine L8 ?_;refine J8 ?_;refine Wb fun todo=>?_;exact jm _ todo _ _ rfl (Br L.Bi I0 _) ⟨I0,hF⟩
theorem f_{iq:Nat}{rk:Row}(hq:rows[iq]?=yi r)(Vw:rows[k]?=yi rk)(Jj:k≠iq)(i:Nat)(hm:i*3+3<=r.m)(ht:rk.t=2)(n:Nat)(xs:Nat->Int)(hxs:∀j,j<n+1->rk.f j=.int .i64 (xs j))(KA:n+1<=rk.m)(hml:rk.m<=maxLen)(hn9:n<=1000000000)(hv:r.f (i*3)=.slice (yi ⟨rk.g,0,Ai⟩) (n+1:Nat) rk.m)(w:ui)(hF:Kn L w0 rows w):
  Xi prog gi L.R1 L.D1 141 #[.pointer (yi ⟨r.g,i*3,Ai⟩)] w (fun v w'=>v=.tuple #[.int .i64 (xs 0),.int .i64 1]/\Kn L w0 ((rows.set k {rk with f:=fun j=>if j<n then rk.f (j+1)else if j=n then .int .i64 0 else rk.f j}).set iq (r.put (i*3) (.slice (yi ⟨rk.g,0,Ai⟩) n rk.m))) w') (fun _ _=>False):=by
 have hi1:¬((n:Int)+1=0):=E0;have Ny:(0:Int)<(n:Int)+1:=E0;have hk:(base 141).kind≠.early:=E1;refine Xi.intro L.Bi #[.pointer (yi ⟨r.g,i*3,Ai⟩),ri,ri,ri,ri,ri,ri,ri,ri,ri,ri,ri,ri,ri,ri,ri,ri,ri,ri,ri,ri,ri,ri,ri,ri] func141 rfl J0 fun cl cs Stop jm _=>?_;refine J8 ?_;refine L8 ?_;refine J8 ?_;refine N9 ?_;refine P8 ?_;refine K8 fun w1 K hK hF=>?_;refine ud fun hc=>?_;refine I8 ?_ ?_
 ·refine hF.looks hq ?_;exact W8
 clear hK K;clear hc;refine W9 ?_;refine Y8 ?_;refine J8 ?_;refine Ci.xk L.Bi G2 ?_;refine J8 ?_;refine ga ?_;refine P8 ?_;refine K8 fun w1 K hK hF=>?_;refine ud fun hc=>?_;refine I8 ?_ ?_
 ·refine hF.looks hq ?_;exact W8
 clear hK K;clear hc;refine W9 ?_;refine K8 fun w1 K hK hF=>?_;refine I8 ?_ ?_
 ·exact bh
 clear hK K;refine W9 ?_;refine K8 fun w1 K hK hF=>?_;have hc:World.cell? _ ⟨rk.g,0,Ai⟩=yi (.int .i64 (xs 0)):=(hF.cell Vw (j:=0) (by show 0<rk.m;omega)).trans (by rw[hxs 0 E0]);refine I8 ?_ ?_
 ·refine hF.looks Vw ?_;exact W8
 clear hK K;clear hc;refine W9 ?_;refine M8 ?_;refine J8 ?_;refine .Gi L.Bi [0,1,2,3,4,5,6,7,8] I0 ?_;refine P9 ?_;refine K8 fun w1 K hK hF=>?_;refine ud fun hc=>?_;refine I8 ?_ ?_
 ·refine hF.looks hq ?_;exact W8
 clear hK K;clear hc;refine W9 ?_;refine Ci.Bv L.Bi rfl I0 hk rfl func145 I0 rfl #[.slice (yi ⟨rk.g,0,Ai⟩) (n+1:Nat) rk.m,.int .i64 0,.int .i64 1] J0 (b20 Vw ht n xs hxs KA hml hn9 _ hF) ?_ (fun _ _ _ h=>h.elim);rintro v w2 ⟨rfl,ql⟩;replace hF:=ql;clear ql;have pI:=(Yi (rows:=rows) (Ne.symm Jj) {rk with f:=fun j=>if j<n then rk.f (j+1)else if j=n then .int .i64 0 else rk.f j}).trans hq;refine W9 ?_;refine Y8 ?_;refine K8 fun w1 K hK hF=>?_;have Bn:World.frozen? _ ⟨r.g,i*3,Ai⟩=false:=hF.frozen pI (i*3);have hc:World.cell? _ ⟨r.g,i*3,Ai⟩=yi _:=hF.cell pI (j:=i*3) X2;refine I8 ?_ ?_
 ·refine hF.does pI (i*3) _ ?_;exact Wa
 clear hK K;clear Bn hc;replace hF:=hF.set pI (i*3) (.slice (yi ⟨rk.g,0,Ai⟩) n rk.m);refine W9 ?_;refine J8 ?_;refine Q9 ?_;refine P8 ?_;refine J8 ?_;refine Wb fun todo=>?_;exact jm _ todo _ _ rfl (Br L.Bi I0 _) ⟨I0,hF⟩
end
noncomputable def Ji0:List Item:=match Tryz.f129.body with
 |some (.seq _ (.seq _ (.seq _ c)))=>[.code c]
 |_=>[]
noncomputable def oz:Code:=Tryz.f129.body.getD .skip
section
variable {L:km}{w0:ui}{rows:List Row}{g:Nat}
theorem Gv(vm:((97:Nat)==L.ev)=gi)(R A:Nat)(dp:R<4)(ep:A<4)(op N:Int)(inV:ti)(w:ui)(hF:Kn L w0 rows w){Stop:Goroutine->ui->Prop}{cs:List Frame}
  (h:∀(B:Nat)(w1:ui),Si L w0 rows [uj B op R A N] w1->Ci prog gi L.R1 L.D1 Stop (G ((base 129).at {tmps:=List.toArray ((.pointer (yi ⟨g,0,Ai⟩))::(.agg #[.int .i64 op,.int .i64 R,.int .i64 A,.int .i64 N])::(inV)::(ri)::(.pointer (yi ⟨B,0,Ai⟩))::(ri)::(.pointer (yi ⟨g,25+R,Ai⟩))::(.pointer (yi ⟨g,25+A,Ai⟩))::(.pointer (yi ⟨g,0,Ai⟩))::(.pointer (yi ⟨B,1,Ai⟩))::(.int .i64 R)::(.pointer (yi ⟨g,0,Ai⟩))::(.pointer (yi ⟨g,25,Ai⟩))::(.pointer (yi ⟨g,25,Ai⟩))::(.pointer (yi ⟨g,25+R,Ai⟩))::(.pointer (yi ⟨g,0,Ai⟩))::(.pointer (yi ⟨B,2,Ai⟩))::(.int .i64 A)::(.pointer (yi ⟨g,0,Ai⟩))::(.pointer (yi ⟨g,25,Ai⟩))::(.pointer (yi ⟨g,25,Ai⟩))::(.pointer (yi ⟨g,25+A,Ai⟩))::(.pointer (yi ⟨B,0,Ai⟩))::(.int .i64 op)::(ri)::(ri)::(ri)::(ri)::(ri)::(ri)::(ri)::(ri)::(ri)::(ri)::(ri)::(ri)::(ri)::(ri)::(ri)::(ri)::(ri)::(ri)::(ri)::(ri)::(ri)::(ri)::(ri)::(ri)::(ri)::(ri)::(ri)::(ri)::(ri)::(ri)::(ri)::(ri)::(ri)::(ri)::(ri)::(ri)::(ri)::(ri)::(ri)::(ri)::(ri)::(ri)::(ri)::(ri)::(ri)::(ri)::(ri)::(ri)::(ri)::(ri)::(ri)::(ri)::(ri)::(ri)::(ri)::(ri)::(ri)::(ri)::(ri)::(ri)::(ri)::(ri)::(ri)::(ri)::(ri)::(ri)::(ri)::(ri)::(ri)::(ri)::(ri)::(ri)::(ri)::(ri)::(ri)::(ri)::(ri)::(ri)::(ri)::(ri)::(ri)::(ri)::(ri)::(ri)::(ri)::[]),defers:=[]} Ji0) cs) w1):
  Ci prog gi L.R1 L.D1 Stop (G ((base 129).at {tmps:=List.toArray ((.pointer (yi ⟨g,0,Ai⟩))::(.agg #[.int .i64 op,.int .i64 R,.int .i64 A,.int .i64 N])::inV::ri::ri::ri::ri::ri::ri::ri::ri::ri::ri::ri::ri::ri::ri::ri::ri::ri::ri::ri::ri::ri::ri::ri::ri::ri::ri::ri::ri::ri::ri::ri::ri::ri::ri::ri::ri::ri::ri::ri::ri::ri::ri::ri::ri::ri::ri::ri::ri::ri::ri::ri::ri::ri::ri::ri::ri::ri::ri::ri::ri::ri::ri::ri::ri::ri::ri::ri::ri::ri::ri::ri::ri::ri::ri::ri::ri::ri::ri::ri::ri::ri::ri::ri::ri::ri::ri::ri::ri::ri::ri::ri::ri::ri::ri::ri::ri::ri::ri::ri::ri::ri::ri::ri::ri::ri::ri::[]),defers:=[]} [.code oz]) cs) w:=by
 replace hF:=hF.lay;have hk:(base 129).kind≠.early:=E1;refine J8 ?_;refine s9 ?_;refine K8 fun w1 K hK hF=>?_;refine I8 ?_ ?_
 ·refine bf ?_;exact j9
 clear hK K;replace hF:Si L w0 rows [uj w1.heap.size op R A N] _:=hF.IE vm op R A N;generalize hB:w1.heap.size=B at *;generalize hW:(w1.alloc (.cells #[.int .i64 op,.int .i64 R,.int .i64 A,.int .i64 N] 97))=w3 at *;clear hW hB w1;refine W9 ?_;refine J8 ?_;refine Xa fun YN QO=>?_;refine Ci.Ym (S:=Si L w0 rows [uj B op R A N]) (Die:=fun _ _=>False) L.Bi L.Wm 16 I0 hk J0 (fun _ _ _ h=>h) (fun _ _ _ h=>h.elim) fun w1 hR=>?_;replace hF:=(hF.rely hR).rely (Turn.drew _);clear hR;refine Q8 ?_;refine aj L.Bi 2 rfl (fun _ _ h r=>Si.rely h r) hF ?_ fun _ hw=>⟨run_eq_of (by
  intro K hK;refine xe fun a0 a1 a2 a3=>?_;exact hK),by
  refine za fun a0 a1 a2 a3=>?_;co_evs (exact⟨_,rfl⟩)⟩
 refine W9 ?_;refine Ib ?_;refine y9 ?_;refine Ba ?_;refine W9 ?_;refine aj L.Bi 6 rfl (fun _ _ h r=>Si.rely h r) hF ?_ fun _ hw=>⟨run_eq_of (by
  intro K hK;go_simp;exact hK),by
  rw[listed_nil E8];exact Terms.idle L.Bi _⟩
 refine W9 ?_;refine Hf ?_;refine W9 ?_;refine Jb ?_;refine W9 ?_;refine aj L.Bi 9 rfl (fun _ _ h r=>Si.rely h r) hF ?_ fun _ hw=>⟨run_eq_of (by
  intro K hK;refine xe fun a0 a1 a2 a3=>?_;exact hK),by
  refine za fun a0 a1 a2 a3=>?_;co_evs (exact⟨_,rfl⟩)⟩
 refine W9 ?_;refine Bf ?_;refine W9 ?_;refine Ii L.Bi 11 (fun _ _ h r=>Si.rely h r) hF ?_;refine W9 ?_;refine Ii L.Bi 12 (fun _ _ h r=>Si.rely h r) hF ?_;refine W9 ?_;refine aj L.Bi 13 rfl (fun _ _ h r=>Si.rely h r) hF ?_ fun _ hw=>⟨run_eq_of (by
  intro K hK;go_simp;exact hK),by
  rw[listed_nil F8];exact Terms.idle L.Bi _⟩
 refine W9 ?_;refine Ii L.Bi 14 (fun _ _ h r=>Si.rely h r) hF ?_;refine W9 ?_;refine Ii L.Bi 15 (fun _ _ h r=>Si.rely h r) hF ?_;refine H9 ?_;refine J8 ?_;refine Yb ?_;refine M8 ?_;refine K8 fun w1 K hK hF=>?_;refine mb fun a0 a1 a2 a3=>?_;refine I8 ?_ ?_
 ·refine V9 ?_;exact W8
 clear hK K;clear a0 a1 a2 a3;refine W9 ?_;refine .regionEnd L.Bi ?_;exact h B _ hF
end
section
variable {L:km}{w0:ui}{rows:List Row}{ic is g nb k lS:Nat}{num:Int}{code:ti}{z:Nat->Int}{rs:Row}
theorem G00(vm:((97:Nat)==L.ev)=gi)(hi:rows[ic]?=yi (Ri g num (.pointer (yi ⟨nb,0,Ai⟩)) code z))(hs:rows[is]?=yi rs)(sn:Still L w0 nb)(n2:w0.cell? ⟨nb,2,Ai⟩=yi (.slice (yi ⟨rs.g,0,Ai⟩) k lS))(i:Nat)(yr:i<k)(qN:k*4<=rs.m)(R A:Nat)(dp:R<4)(ep:A<4)(inV:ti)(w:ui)(hF:Kn L w0 rows w):
  Xi prog gi L.R1 L.D1 129 #[.pointer (yi ⟨g,0,Ai⟩),.agg #[.int .i64 11,.int .i64 R,.int .i64 A,.int .i64 i],inV] w (fun v w'=>v=.tuple #[]/\Kn L w0 (rows.set is ((rs.put (i*4+2) (.int .i64 (z (25+R)))).put (i*4+3) (.bool ji))) w') (fun _ _=>False):=by
 have hk:(base 129).kind≠.early:=E1;refine Xi.intro (c:=oz) L.Bi _ func129 rfl J0 fun cl cs Stop jm _=>Gv (g:=g) vm R A dp ep 11 i inV w hF fun B w3 hF=>?_;refine J8 ?_;refine Xd ?_;refine L8 ?_;refine J8 ?_;refine T9 ?_;refine J8 ?_;refine Ci.Ym (S:=Si L w0 rows [uj B 11 R A (i:Nat)]) (Die:=fun _ _=>False) L.Bi L.Wm 11 I0 hk J0 (fun _ _ _ h=>h) (fun _ _ _ h=>h.elim) fun w1 hR=>?_;replace hF:=(hF.rely hR).rely (Turn.drew _);clear hR;refine Q8 ?_;refine S9 ?_;refine aj L.Bi 3 rfl (fun _ _ h r=>Si.rely h r) hF ?_ fun _ hw=>⟨run_eq_of (by
  intro K hK;refine uc fun hc=>?_;go_simp;exact hK),by
  refine uc fun hc=>?_;refine Bh ?_;co_evs (exact⟨_,rfl⟩)⟩
 refine y9 ?_;refine aj L.Bi 5 rfl (fun _ _ h r=>Si.rely h r) hF ?_ fun _ hw=>⟨run_eq_of (by
  intro K hK;refine xe fun a0 a1 a2 a3=>?_;exact hK),by
  refine za fun a0 a1 a2 a3=>?_;co_evs (exact⟨_,rfl⟩)⟩
 refine W9 ?_;refine Hf ?_;refine W9 ?_;refine Jb ?_;refine W9 ?_;refine aj L.Bi 9 rfl (fun _ _ h r=>Si.rely h r) hF ?_ fun _ hw=>⟨run_eq_of (by
  intro K hK;refine oe fun hc=>?_;go_simp;exact hK),by
  refine oe fun hc=>?_;refine Bh ?_;co_evs (exact⟨_,rfl⟩)⟩
 refine W9 ?_;refine Rl (i:=6) T0 rfl I0 rfl func139 I0 rfl #[.pointer (yi ⟨nb,0,Ai⟩),.int .i64 i] J0 (qF sn n2 i yr _ hF) ?_;rintro v w2 ⟨rfl,ql⟩;refine⟨.inl ql,?_⟩;replace hF:Si L w0 rows [uj B 11 R A (i:Nat)] _:=ql;clear ql;refine W9 ?_;refine Rl (i:=10) T0 rfl I0 rfl func140 I0 rfl #[.pointer (yi ⟨rs.g,i*4,Ai⟩),.int .i64 (z (25+R))] J0 (k60 (Uj hs) i (z (25+R)) E0 _ hF) ?_;rintro v w2 ⟨rfl,ql⟩;refine⟨.inr (zl rfl T0),?_⟩;rw[List.set_set,KC hs]at ql;replace hF:=Kn.drop ql;clear ql;refine H9 ?_;refine J8 ?_;exact Qb
end
section
variable {L:km}{w0:ui}{rows:List Row}{ic is g nb k lS:Nat}{num:Int}{code:ti}{z:Nat->Int}{rs:Row}
theorem K40(vm:((97:Nat)==L.ev)=gi)(hi:rows[ic]?=yi (Ri g num (.pointer (yi ⟨nb,0,Ai⟩)) code z))(hs:rows[is]?=yi rs)(Jj:is≠ic)(sn:Still L w0 nb)(n2:w0.cell? ⟨nb,2,Ai⟩=yi (.slice (yi ⟨rs.g,0,Ai⟩) k lS))(i:Nat)(yr:i<k)(qN:k*4<=rs.m)(x y:Int)(hx:rs.f (i*4)=.int .i64 x)(hy:rs.f (i*4+1)=.int .i64 y)(R A:Nat)(dp:R<4)(ep:A<4)(inV:ti)(w:ui)(hF:Kn L w0 rows w):
  Xi prog gi L.R1 L.D1 129 #[.pointer (yi ⟨g,0,Ai⟩),.agg #[.int .i64 13,.int .i64 R,.int .i64 A,.int .i64 i],inV] w (fun v w'=>v=.tuple #[]/\Kn L w0 (rows.set ic (Ri g num (.pointer (yi ⟨nb,0,Ai⟩)) code (Ji (Ji z (25+R) x) (25+A) y))) w') (fun _ _=>False):=by
 have hk:(base 129).kind≠.early:=E1;refine Xi.intro (c:=oz) L.Bi _ func129 rfl J0 fun cl cs Stop jm _=>Gv (g:=g) vm R A dp ep 13 i inV w hF fun B w3 hF=>?_;replace hF:Si L w0 (rows.set ic (Ri g num (.pointer (yi ⟨nb,0,Ai⟩)) code z)) [uj B 13 R A (i:Nat)] w3:=by rw[Em hi];exact hF
 have rP:∀Z,(rows.set ic (Ri g num (.pointer (yi ⟨nb,0,Ai⟩)) code Z))[is]?=yi rs:=fun Z=>by rw[Yi Jj];exact hs
 refine J8 ?_;refine Yd ?_;refine L8 ?_;refine J8 ?_;refine T9 ?_;refine J8 ?_;refine Ci.Ym (S:=fun w=>∃z1,Si L w0 (rows.set ic (Ri g num (.pointer (yi ⟨nb,0,Ai⟩)) code z1)) [uj B 13 R A (i:Nat)] w) (Die:=fun _ _=>False) L.Bi L.Wm 17 I0 hk J0 (fun _ _ _ h=>h) (fun _ _ _ h=>h.elim) fun w1 hR=>?_;replace hF:=(hF.rely hR).rely (Turn.drew _);clear hR;refine Ii L.Bi 0 (fun _ _ ⟨z1,h⟩ r=>⟨z1,Si.rely h r⟩) ⟨_,hF⟩ ?_;refine W9 ?_;refine Ii L.Bi 1 (fun _ _ ⟨z1,h⟩ r=>⟨z1,Si.rely h r⟩) ⟨_,hF⟩ ?_;refine W9 ?_;refine Ii L.Bi 2 (fun _ _ ⟨z1,h⟩ r=>⟨z1,Si.rely h r⟩) ⟨_,hF⟩ ?_;refine W9 ?_;refine Ii L.Bi 3 (fun _ _ ⟨z1,h⟩ r=>⟨z1,Si.rely h r⟩) ⟨_,hF⟩ ?_;refine W9 ?_;refine Ii L.Bi 4 (fun _ _ ⟨z1,h⟩ r=>⟨z1,Si.rely h r⟩) ⟨_,hF⟩ ?_;refine W9 ?_;refine aj L.Bi 5 rfl (fun _ _ ⟨z1,h⟩ r=>⟨z1,Si.rely h r⟩) ⟨_,hF⟩ ?_ fun _ hw=>⟨run_eq_of (by
  intro K hK;obtain⟨z1,hw⟩:=hw;have hc:World.cell? _ ⟨g,1,Ai⟩=yi (.pointer (yi ⟨nb,0,Ai⟩)):=hw.cell (Qi hi _) (j:=1) (show 1<48 by omega);go_simp;exact hK),by
  obtain⟨z1,hw⟩:=hw;have hc:World.cell? _ ⟨g,1,Ai⟩=yi (.pointer (yi ⟨nb,0,Ai⟩)):=hw.cell (Qi hi _) (j:=1) (show 1<48 by omega);refine hw.looks (Qi hi _) ?_;co_evs (exact⟨_,rfl⟩)⟩
 refine W9 ?_;refine Ii L.Bi 6 (fun _ _ ⟨z1,h⟩ r=>⟨z1,Si.rely h r⟩) ⟨_,hF⟩ ?_;refine W9 ?_;refine aj L.Bi 7 rfl (fun _ _ ⟨z1,h⟩ r=>⟨z1,Si.rely h r⟩) ⟨_,hF⟩ ?_ fun _ hw=>⟨run_eq_of (by
  intro K hK;obtain⟨z1,hw⟩:=hw;refine xe fun a0 a1 a2 a3=>?_;exact hK),by
  obtain⟨z1,hw⟩:=hw;refine za fun a0 a1 a2 a3=>?_;co_evs (exact⟨_,rfl⟩)⟩
 refine W9 ?_;refine Rl (i:=8) T0 rfl I0 rfl func139 I0 rfl #[.pointer (yi ⟨nb,0,Ai⟩),.int .i64 i] J0 (qF sn n2 i yr _ hF) ?_;rintro v w2 ⟨rfl,ql⟩;refine⟨.inl ⟨_,ql⟩,?_⟩;replace hF:Si L w0 (rows.set ic (Ri g num (.pointer (yi ⟨nb,0,Ai⟩)) code z)) [uj B 13 R A (i:Nat)] _:=ql;clear ql;refine W9 ?_;refine Rl (i:=9) T0 rfl I0 rfl func142 I0 rfl #[.pointer (yi ⟨rs.g,i*4,Ai⟩)] J0 (Ia0 (Uj (rP z)) i x y hx hy E0 _ hF) ?_;rintro v w2 ⟨rfl,ql⟩;refine⟨.inl ⟨_,ql⟩,?_⟩;replace hF:Si L w0 (rows.set ic (Ri g num (.pointer (yi ⟨nb,0,Ai⟩)) code z)) [uj B 13 R A (i:Nat)] _:=ql;clear ql;refine W9 ?_;refine Ii L.Bi 10 (fun _ _ ⟨z1,h⟩ r=>⟨z1,Si.rely h r⟩) ⟨_,hF⟩ ?_;refine W9 ?_;refine Ii L.Bi 11 (fun _ _ ⟨z1,h⟩ r=>⟨z1,Si.rely h r⟩) ⟨_,hF⟩ ?_;refine W9 ?_;refine Ii L.Bi 12 (fun _ _ ⟨z1,h⟩ r=>⟨z1,Si.rely h r⟩) ⟨_,hF⟩ ?_;refine W9 ?_;refine Ii L.Bi 13 (fun _ _ ⟨z1,h⟩ r=>⟨z1,Si.rely h r⟩) ⟨_,hF⟩ ?_;refine W9 ?_;refine Zm (i:=14) T0 rfl I0 ?_;refine ze fun w1 K hK hF=>?_;have hc:World.cell? _ ⟨g,25+R,Ai⟩=yi (.int .i64 (z (25+R))):=Si.cz hi hF E0 E0;refine Va fun Bn=>?_;refine E9 ?_ ?_ ?_
 ·exact Oa
 ·exact .inl ⟨_,Si.yu hi hF (j:=25+R) E0 (x)⟩
 clear hK K;clear hc Bn;replace hF:=Si.yu hi hF (j:=25+R) E0 (x);refine W9 ?_;refine Ii L.Bi 15 (fun _ _ ⟨z1,h⟩ r=>⟨z1,Si.rely h r⟩) ⟨_,hF⟩ ?_;refine W9 ?_;refine Zm (i:=16) T0 rfl I0 ?_;refine ze fun w1 K hK hF=>?_;have hc:World.cell? _ ⟨g,25+A,Ai⟩=yi (.int .i64 ((Ji z (25+R) x) (25+A))):=Si.cz hi hF E0 E0;have Bn:World.frozen? _ ⟨g,25+A,Ai⟩=false:=Si.XI hi hF (25+A);refine E9 ?_ ?_ ?_
 ·refine Si.Hq hi hF (25+A) _ ?_;exact Ec
 ·exact Cc
 clear hK K;clear hc Bn;replace hF:=Si.yu hi hF (j:=25+A) E0 (y);refine H9 ?_;refine J8 ?_;exact qa
end
section
variable {L:km}{w0:ui}{rows:List Row}{ic iq g nb kk cq k:Nat}{num:Int}{code:ti}{z:Nat->Int}{rq rk:Row}
theorem DL(vm:((97:Nat)==L.ev)=gi)(hi:rows[ic]?=yi (Ri g num (.pointer (yi ⟨nb,0,Ai⟩)) code z))(hq:rows[iq]?=yi rq)(Jj:iq≠ic)(sn:Still L w0 nb)(n1:w0.cell? ⟨nb,1,Ai⟩=yi (.slice (yi ⟨rq.g,0,Ai⟩) kk cq))(i:Nat)(yr:i<kk)(cH:kk*3<=rq.m){a:Option Addr}{cc:Nat}(hv:rq.f (i*3)=.slice a 0 cc)(R A:Nat)(dp:R<4)(ep:A<4)(inV:ti)(w:ui)(hF:Kn L w0 rows w):
  Xi prog gi L.R1 L.D1 129 #[.pointer (yi ⟨g,0,Ai⟩),.agg #[.int .i64 12,.int .i64 R,.int .i64 A,.int .i64 i],inV] w (fun v w'=>v=.tuple #[]/\Kn L w0 (List.set rows ic (Ri g num (.pointer (yi ⟨nb,0,Ai⟩)) code (Ji (Ji z (25+R) (0)) (25+A) (0)))) w') (fun _ _=>False):=by
 have hk:(base 129).kind≠.early:=E1;refine Xi.intro (c:=oz) L.Bi _ func129 rfl J0 fun cl cs Stop jm _=>Gv (g:=g) vm R A dp ep 12 i inV w hF fun B w3 hF=>?_;replace hF:Si L w0 (List.set rows ic (Ri g num (.pointer (yi ⟨nb,0,Ai⟩)) code z)) [uj B 12 R A (i:Nat)] w3:=by rw[Em hi];exact hF
 have pI:∀Z,(rows.set ic (Ri g num (.pointer (yi ⟨nb,0,Ai⟩)) code Z))[iq]?=yi rq:=fun Z=>by rw[Yi Jj];exact hq
 have hiT:(List.set rows ic (Ri g num (.pointer (yi ⟨nb,0,Ai⟩)) code z))[ic]?=yi (Ri g num (.pointer (yi ⟨nb,0,Ai⟩)) code z)/\(rows)[ic]?=yi (Ri g num (.pointer (yi ⟨nb,0,Ai⟩)) code z):=by
  have e:(rows)[ic]?=yi (Ri g num (.pointer (yi ⟨nb,0,Ai⟩)) code z):=by exact hi
  exact⟨Qi e _,e⟩
 have hgs:∀RS:List Row,(RS=rows\/RS=rows)->RS[ic]?=yi (Ri g num (.pointer (yi ⟨nb,0,Ai⟩)) code z):=fun RS h=>by
  rcases h with rfl|rfl
  ·exact hi
  ·exact hiT.2
 refine J8 ?_;refine Da ?_;refine L8 ?_;refine J8 ?_;refine T9 ?_;refine J8 ?_;refine Ci.Ym (S:=fun w=>∃RS z1,(RS=rows\/RS=rows)/\Si L w0 (RS.set ic (Ri g num (.pointer (yi ⟨nb,0,Ai⟩)) code z1)) [uj B 12 R A (i:Nat)] w) (Die:=fun _ _=>False) L.Bi L.Wm 17 I0 hk J0 (fun _ _ _ h=>h) (fun _ _ _ h=>h.elim) fun w1 hR=>?_;replace hF:=(hF.rely hR).rely (Turn.drew _);clear hR;refine l9 ?_;refine Ii L.Bi 4 (fun _ _ ⟨RS,z1,ao,h⟩ r=>⟨RS,z1,ao,Si.rely h r⟩) ⟨_,_,.inl rfl,hF⟩ ?_;refine W9 ?_;refine aj L.Bi 5 rfl (fun _ _ ⟨RS,z1,ao,h⟩ r=>⟨RS,z1,ao,Si.rely h r⟩) ⟨_,_,.inl rfl,hF⟩ ?_ fun _ hw=>⟨run_eq_of (by
  intro K hK;obtain⟨RS,z1,ao,hw⟩:=hw;refine I9 fun hc=>?_;go_simp;exact hK),by
  obtain⟨RS,z1,ao,hw⟩:=hw;refine I9 fun hc=>?_;refine hw.looks (Qi (hgs RS ao) _) ?_;co_evs (exact⟨_,rfl⟩)⟩
 refine W9 ?_;refine Ii L.Bi 6 (fun _ _ ⟨RS,z1,ao,h⟩ r=>⟨RS,z1,ao,Si.rely h r⟩) ⟨_,_,.inl rfl,hF⟩ ?_;refine W9 ?_;refine aj L.Bi 7 rfl (fun _ _ ⟨RS,z1,ao,h⟩ r=>⟨RS,z1,ao,Si.rely h r⟩) ⟨_,_,.inl rfl,hF⟩ ?_ fun _ hw=>⟨run_eq_of (by
  intro K hK;obtain⟨RS,z1,ao,hw⟩:=hw;refine xe fun a0 a1 a2 a3=>?_;exact hK),by
  obtain⟨RS,z1,ao,hw⟩:=hw;refine za fun a0 a1 a2 a3=>?_;co_evs (exact⟨_,rfl⟩)⟩
 refine W9 ?_;refine sg ?_;rintro v w2 ⟨rfl,ql⟩;refine⟨.inl ⟨_,_,.inl rfl,ql⟩,?_⟩;replace hF:Si L w0 (List.set rows ic (Ri g num (.pointer (yi ⟨nb,0,Ai⟩)) code z)) [uj B 12 R A (i:Nat)] _:=ql;clear ql;refine W9 ?_;refine Rl (i:=9) T0 rfl I0 rfl func141 I0 rfl #[.pointer (yi ⟨rq.g,i*3,Ai⟩)] J0 (WX (Uj (pI z)) i E0 hv _ hF) ?_;rintro v w2 ⟨rfl,ql⟩;replace hF:Si L w0 (List.set rows ic (Ri g num (.pointer (yi ⟨nb,0,Ai⟩)) code z)) [uj B 12 R A (i:Nat)] _:=ql;clear ql;refine⟨.inl ⟨_,_,.inr rfl,hF⟩,?_⟩;refine O9 ?_;refine yb fun w1 K hK hF hc Bn=>?_;refine E9 ?_ ?_ ?_
 ·refine Si.Hq hiT.2 hF (25+R) _ ?_;exact Ec
 ·exact .inl ⟨_,_,.inr rfl,Si.yu hiT.2 hF (j:=25+R) E0 (0)⟩
 clear hK K;clear hc Bn;replace hF:=Si.yu hiT.2 hF (j:=25+R) E0 (0);refine W9 ?_;refine Ii L.Bi 15 (fun _ _ ⟨RS,z1,ao,h⟩ r=>⟨RS,z1,ao,Si.rely h r⟩) ⟨_,_,.inr rfl,hF⟩ ?_;refine W9 ?_;refine Zm (i:=16) T0 rfl I0 ?_;refine ze fun w1 K hK hF=>?_;have hc:World.cell? _ ⟨g,25+A,Ai⟩=yi (.int .i64 ((Ji z (25+R) (0)) (25+A))):=Si.cz hiT.2 hF E0 E0;have Bn:World.frozen? _ ⟨g,25+A,Ai⟩=false:=Si.XI hiT.2 hF (25+A);refine E9 ?_ ?_ ?_
 ·refine Si.Hq hiT.2 hF (25+A) _ ?_;exact Ec
 ·exact Cc
 clear hK K;clear hc Bn;replace hF:=Si.yu hiT.2 hF (j:=25+A) E0 (0);refine H9 ?_;refine J8 ?_;exact qa
theorem aL(vm:((97:Nat)==L.ev)=gi)(hi:rows[ic]?=yi (Ri g num (.pointer (yi ⟨nb,0,Ai⟩)) code z))(hq:rows[iq]?=yi rq)(Jj:iq≠ic)(sn:Still L w0 nb)(n1:w0.cell? ⟨nb,1,Ai⟩=yi (.slice (yi ⟨rq.g,0,Ai⟩) kk cq))(i:Nat)(yr:i<kk)(cH:kk*3<=rq.m)(Vw:rows[k]?=yi rk)(hkq:k≠iq)(hkc:k≠ic)(ht:rk.t=2)(n:Nat)(xs:Nat->Int)(hxs:∀j,j<n+1->rk.f j=.int .i64 (xs j))(KA:n+1<=rk.m)(hml:rk.m<=maxLen)(hn9:n<=1000000000)(hv:rq.f (i*3)=.slice (yi ⟨rk.g,0,Ai⟩) (n+1:Nat) rk.m)(R A:Nat)(dp:R<4)(ep:A<4)(inV:ti)(w:ui)(hF:Kn L w0 rows w):
  Xi prog gi L.R1 L.D1 129 #[.pointer (yi ⟨g,0,Ai⟩),.agg #[.int .i64 12,.int .i64 R,.int .i64 A,.int .i64 i],inV] w (fun v w'=>v=.tuple #[]/\Kn L w0 (List.set ((rows.set k {rk with f:=fun j=>if j<n then rk.f (j+1)else if j=n then .int .i64 0 else rk.f j}).set iq (rq.put (i*3) (.slice (yi ⟨rk.g,0,Ai⟩) n rk.m))) ic (Ri g num (.pointer (yi ⟨nb,0,Ai⟩)) code (Ji (Ji z (25+R) (xs 0)) (25+A) (1)))) w') (fun _ _=>False):=by
 have hk:(base 129).kind≠.early:=E1;refine Xi.intro (c:=oz) L.Bi _ func129 rfl J0 fun cl cs Stop jm _=>Gv (g:=g) vm R A dp ep 12 i inV w hF fun B w3 hF=>?_;replace hF:Si L w0 (List.set rows ic (Ri g num (.pointer (yi ⟨nb,0,Ai⟩)) code z)) [uj B 12 R A (i:Nat)] w3:=by rw[Em hi];exact hF
 have pI:∀Z,(rows.set ic (Ri g num (.pointer (yi ⟨nb,0,Ai⟩)) code Z))[iq]?=yi rq:=fun Z=>by rw[Yi Jj];exact hq
 have hiT:(List.set ((rows.set k {rk with f:=fun j=>if j<n then rk.f (j+1)else if j=n then .int .i64 0 else rk.f j}).set iq (rq.put (i*3) (.slice (yi ⟨rk.g,0,Ai⟩) n rk.m))) ic (Ri g num (.pointer (yi ⟨nb,0,Ai⟩)) code z))[ic]?=yi (Ri g num (.pointer (yi ⟨nb,0,Ai⟩)) code z)/\(((rows.set k {rk with f:=fun j=>if j<n then rk.f (j+1)else if j=n then .int .i64 0 else rk.f j}).set iq (rq.put (i*3) (.slice (yi ⟨rk.g,0,Ai⟩) n rk.m))))[ic]?=yi (Ri g num (.pointer (yi ⟨nb,0,Ai⟩)) code z):=by
  have e:(((rows.set k {rk with f:=fun j=>if j<n then rk.f (j+1)else if j=n then .int .i64 0 else rk.f j}).set iq (rq.put (i*3) (.slice (yi ⟨rk.g,0,Ai⟩) n rk.m))))[ic]?=yi (Ri g num (.pointer (yi ⟨nb,0,Ai⟩)) code z):=by rw[Yi (Ne.symm Jj),Yi (Ne.symm hkc)];exact hi
  exact⟨Qi e _,e⟩
 have hgs:∀RS:List Row,(RS=rows\/RS=((rows.set k {rk with f:=fun j=>if j<n then rk.f (j+1)else if j=n then .int .i64 0 else rk.f j}).set iq (rq.put (i*3) (.slice (yi ⟨rk.g,0,Ai⟩) n rk.m))))->RS[ic]?=yi (Ri g num (.pointer (yi ⟨nb,0,Ai⟩)) code z):=fun RS h=>by
  rcases h with rfl|rfl
  ·exact hi
  ·exact hiT.2
 refine J8 ?_;refine Da ?_;refine L8 ?_;refine J8 ?_;refine T9 ?_;refine J8 ?_;refine Ci.Ym (S:=fun w=>∃RS z1,(RS=rows\/RS=((rows.set k {rk with f:=fun j=>if j<n then rk.f (j+1)else if j=n then .int .i64 0 else rk.f j}).set iq (rq.put (i*3) (.slice (yi ⟨rk.g,0,Ai⟩) n rk.m))))/\Si L w0 (RS.set ic (Ri g num (.pointer (yi ⟨nb,0,Ai⟩)) code z1)) [uj B 12 R A (i:Nat)] w) (Die:=fun _ _=>False) L.Bi L.Wm 17 I0 hk J0 (fun _ _ _ h=>h) (fun _ _ _ h=>h.elim) fun w1 hR=>?_;replace hF:=(hF.rely hR).rely (Turn.drew _);clear hR;refine l9 ?_;refine Ii L.Bi 4 (fun _ _ ⟨RS,z1,ao,h⟩ r=>⟨RS,z1,ao,Si.rely h r⟩) ⟨_,_,.inl rfl,hF⟩ ?_;refine W9 ?_;refine aj L.Bi 5 rfl (fun _ _ ⟨RS,z1,ao,h⟩ r=>⟨RS,z1,ao,Si.rely h r⟩) ⟨_,_,.inl rfl,hF⟩ ?_ fun _ hw=>⟨run_eq_of (by
  intro K hK;obtain⟨RS,z1,ao,hw⟩:=hw;refine I9 fun hc=>?_;go_simp;exact hK),by
  obtain⟨RS,z1,ao,hw⟩:=hw;refine I9 fun hc=>?_;refine hw.looks (Qi (hgs RS ao) _) ?_;co_evs (exact⟨_,rfl⟩)⟩
 refine W9 ?_;refine Ii L.Bi 6 (fun _ _ ⟨RS,z1,ao,h⟩ r=>⟨RS,z1,ao,Si.rely h r⟩) ⟨_,_,.inl rfl,hF⟩ ?_;refine W9 ?_;refine aj L.Bi 7 rfl (fun _ _ ⟨RS,z1,ao,h⟩ r=>⟨RS,z1,ao,Si.rely h r⟩) ⟨_,_,.inl rfl,hF⟩ ?_ fun _ hw=>⟨run_eq_of (by
  intro K hK;obtain⟨RS,z1,ao,hw⟩:=hw;refine xe fun a0 a1 a2 a3=>?_;exact hK),by
  obtain⟨RS,z1,ao,hw⟩:=hw;refine za fun a0 a1 a2 a3=>?_;co_evs (exact⟨_,rfl⟩)⟩
 refine W9 ?_;refine sg ?_;rintro v w2 ⟨rfl,ql⟩;refine⟨.inl ⟨_,_,.inl rfl,ql⟩,?_⟩;replace hF:Si L w0 (List.set rows ic (Ri g num (.pointer (yi ⟨nb,0,Ai⟩)) code z)) [uj B 12 R A (i:Nat)] _:=ql;clear ql;refine W9 ?_;refine Rl (i:=9) T0 rfl I0 rfl func141 I0 rfl #[.pointer (yi ⟨rq.g,i*3,Ai⟩)] J0 (f_ (Uj (pI z)) (Uj (by rw[Yi hkc];exact Vw)) hkq i E0 ht n xs hxs KA hml hn9 hv _ hF) ?_;rintro v w2 ⟨rfl,ql⟩;rw[List.set_append_left _ _ (by simpa using (List.getElem?_eq_some_iff.1 Vw).1),List.set_append_left _ _ (by simpa using (List.getElem?_eq_some_iff.1 hq).1),List.set_comm _ _ (Ne.symm hkc),List.set_comm _ _ (Ne.symm Jj)]at ql;replace hF:Si L w0 (List.set ((rows.set k {rk with f:=fun j=>if j<n then rk.f (j+1)else if j=n then .int .i64 0 else rk.f j}).set iq (rq.put (i*3) (.slice (yi ⟨rk.g,0,Ai⟩) n rk.m))) ic (Ri g num (.pointer (yi ⟨nb,0,Ai⟩)) code z)) [uj B 12 R A (i:Nat)] _:=ql;clear ql;refine⟨.inl ⟨_,_,.inr rfl,hF⟩,?_⟩;refine O9 ?_;refine yb fun w1 K hK hF hc Bn=>?_;refine E9 ?_ ?_ ?_
 ·refine Si.Hq hiT.2 hF (25+R) _ ?_;exact Ec
 ·exact .inl ⟨_,_,.inr rfl,Si.yu hiT.2 hF (j:=25+R) E0 (xs 0)⟩
 clear hK K;clear hc Bn;replace hF:=Si.yu hiT.2 hF (j:=25+R) E0 (xs 0);refine W9 ?_;refine Ii L.Bi 15 (fun _ _ ⟨RS,z1,ao,h⟩ r=>⟨RS,z1,ao,Si.rely h r⟩) ⟨_,_,.inr rfl,hF⟩ ?_;refine W9 ?_;refine Zm (i:=16) T0 rfl I0 ?_;refine ze fun w1 K hK hF=>?_;have hc:World.cell? _ ⟨g,25+A,Ai⟩=yi (.int .i64 ((Ji z (25+R) (xs 0)) (25+A))):=Si.cz hiT.2 hF E0 E0;have Bn:World.frozen? _ ⟨g,25+A,Ai⟩=false:=Si.XI hiT.2 hF (25+A);refine E9 ?_ ?_ ?_
 ·refine Si.Hq hiT.2 hF (25+A) _ ?_;exact Ec
 ·exact Cc
 clear hK K;clear hc Bn;replace hF:=Si.yu hiT.2 hF (j:=25+A) E0 (1);refine H9 ?_;refine J8 ?_;exact qa
theorem k50(vm:((97:Nat)==L.ev)=gi)(hi:rows[ic]?=yi (Ri g num (.pointer (yi ⟨nb,0,Ai⟩)) code z))(hq:rows[iq]?=yi rq)(Jj:iq≠ic)(sn:Still L w0 nb)(n1:w0.cell? ⟨nb,1,Ai⟩=yi (.slice (yi ⟨rq.g,0,Ai⟩) kk cq))(i:Nat)(yr:i<kk)(cH:kk*3<=rq.m)(x:Int)(hx:rq.f (i*3+2)=.int .i64 x)(R A:Nat)(dp:R<4)(ep:A<4)(inV:ti)(w:ui)(hF:Kn L w0 rows w):
  Xi prog gi L.R1 L.D1 129 #[.pointer (yi ⟨g,0,Ai⟩),.agg #[.int .i64 16,.int .i64 R,.int .i64 A,.int .i64 i],inV] w (fun v w'=>v=.tuple #[]/\Kn L w0 (List.set (rows.set iq (rq.put (i*3+2) (.int .i64 0))) ic (Ri g num (.pointer (yi ⟨nb,0,Ai⟩)) code (Ji z (25+R) (x)))) w') (fun _ _=>False):=by
 have hk:(base 129).kind≠.early:=E1;refine Xi.intro (c:=oz) L.Bi _ func129 rfl J0 fun cl cs Stop jm _=>Gv (g:=g) vm R A dp ep 16 i inV w hF fun B w3 hF=>?_;replace hF:Si L w0 (List.set rows ic (Ri g num (.pointer (yi ⟨nb,0,Ai⟩)) code z)) [uj B 16 R A (i:Nat)] w3:=by rw[Em hi];exact hF
 have pI:∀Z,(rows.set ic (Ri g num (.pointer (yi ⟨nb,0,Ai⟩)) code Z))[iq]?=yi rq:=fun Z=>by rw[Yi Jj];exact hq
 have hiT:(List.set (rows.set iq (rq.put (i*3+2) (.int .i64 0))) ic (Ri g num (.pointer (yi ⟨nb,0,Ai⟩)) code z))[ic]?=yi (Ri g num (.pointer (yi ⟨nb,0,Ai⟩)) code z)/\((rows.set iq (rq.put (i*3+2) (.int .i64 0))))[ic]?=yi (Ri g num (.pointer (yi ⟨nb,0,Ai⟩)) code z):=by
  have e:((rows.set iq (rq.put (i*3+2) (.int .i64 0))))[ic]?=yi (Ri g num (.pointer (yi ⟨nb,0,Ai⟩)) code z):=by rw[Yi (Ne.symm Jj)];exact hi
  exact⟨Qi e _,e⟩
 have hgs:∀RS:List Row,(RS=rows\/RS=(rows.set iq (rq.put (i*3+2) (.int .i64 0))))->RS[ic]?=yi (Ri g num (.pointer (yi ⟨nb,0,Ai⟩)) code z):=fun RS h=>by
  rcases h with rfl|rfl
  ·exact hi
  ·exact hiT.2
 refine J8 ?_;refine Fa ?_;refine L8 ?_;refine J8 ?_;refine T9 ?_;refine J8 ?_;refine Ci.Ym (S:=fun w=>∃RS z1,(RS=rows\/RS=(rows.set iq (rq.put (i*3+2) (.int .i64 0))))/\Si L w0 (RS.set ic (Ri g num (.pointer (yi ⟨nb,0,Ai⟩)) code z1)) [uj B 16 R A (i:Nat)] w) (Die:=fun _ _=>False) L.Bi L.Wm 11 I0 hk J0 (fun _ _ _ h=>h) (fun _ _ _ h=>h.elim) fun w1 hR=>?_;replace hF:=(hF.rely hR).rely (Turn.drew _);clear hR;refine l9 ?_;refine aj L.Bi 4 rfl (fun _ _ ⟨RS,z1,ao,h⟩ r=>⟨RS,z1,ao,Si.rely h r⟩) ⟨_,_,.inl rfl,hF⟩ ?_ fun _ hw=>⟨run_eq_of (by
  intro K hK;obtain⟨RS,z1,ao,hw⟩:=hw;refine I9 fun hc=>?_;go_simp;exact hK),by
  obtain⟨RS,z1,ao,hw⟩:=hw;refine I9 fun hc=>?_;refine hw.looks (Qi (hgs RS ao) _) ?_;co_evs (exact⟨_,rfl⟩)⟩
 refine W9 ?_;refine Ii L.Bi 5 (fun _ _ ⟨RS,z1,ao,h⟩ r=>⟨RS,z1,ao,Si.rely h r⟩) ⟨_,_,.inl rfl,hF⟩ ?_;refine W9 ?_;refine aj L.Bi 6 rfl (fun _ _ ⟨RS,z1,ao,h⟩ r=>⟨RS,z1,ao,Si.rely h r⟩) ⟨_,_,.inl rfl,hF⟩ ?_ fun _ hw=>⟨run_eq_of (by
  intro K hK;obtain⟨RS,z1,ao,hw⟩:=hw;refine xe fun a0 a1 a2 a3=>?_;exact hK),by
  obtain⟨RS,z1,ao,hw⟩:=hw;refine za fun a0 a1 a2 a3=>?_;co_evs (exact⟨_,rfl⟩)⟩
 refine W9 ?_;refine Rl (i:=7) T0 rfl I0 rfl func137 I0 rfl #[.pointer (yi ⟨nb,0,Ai⟩),.int .i64 i] J0 (Yx sn n1 i yr _ hF) ?_;rintro v w2 ⟨rfl,ql⟩;refine⟨.inl ⟨_,_,.inl rfl,ql⟩,?_⟩;replace hF:Si L w0 (List.set rows ic (Ri g num (.pointer (yi ⟨nb,0,Ai⟩)) code z)) [uj B 16 R A (i:Nat)] _:=ql;clear ql;refine W9 ?_;refine Rl (i:=8) T0 rfl I0 rfl func144 I0 rfl #[.pointer (yi ⟨rq.g,i*3,Ai⟩)] J0 (Q80 (Uj (pI z)) i x hx E0 _ hF) ?_;rintro v w2 ⟨rfl,ql⟩;rw[List.set_append_left _ _ (by simpa using (List.getElem?_eq_some_iff.1 hq).1),List.set_comm _ _ (Ne.symm Jj)]at ql;replace hF:Si L w0 (List.set (rows.set iq (rq.put (i*3+2) (.int .i64 0))) ic (Ri g num (.pointer (yi ⟨nb,0,Ai⟩)) code z)) [uj B 16 R A (i:Nat)] _:=ql;clear ql;refine⟨.inl ⟨_,_,.inr rfl,hF⟩,?_⟩;refine W9 ?_;refine Ii L.Bi 9 (fun _ _ ⟨RS,z1,ao,h⟩ r=>⟨RS,z1,ao,Si.rely h r⟩) ⟨_,_,.inr rfl,hF⟩ ?_;refine W9 ?_;refine Zm (i:=10) T0 rfl I0 ?_;refine yb fun w1 K hK hF hc Bn=>?_;refine E9 ?_ ?_ ?_
 ·refine Si.Hq hiT.2 hF (25+R) _ ?_;exact Ec
 ·exact Cc
 clear hK K;clear hc Bn;replace hF:=Si.yu hiT.2 hF (j:=25+R) E0 (x);refine H9 ?_;refine J8 ?_;exact qa
end
end Go.Proofs.YtdoghgnifkgfdaaGreat.Mute
