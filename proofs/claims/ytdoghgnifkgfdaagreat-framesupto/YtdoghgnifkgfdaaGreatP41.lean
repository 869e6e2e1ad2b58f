/-
  For every script that holds, all told, at most 1048576 values, Frames answers true, whatever the schedule, without a data race; the script reads as it did.
-/
import Derived.Test.YtdoghgnifkgfdaaGreatP00
import Derived.Test.YtdoghgnifkgfdaaGreatRows
import Derived.Test.YtdoghgnifkgfdaaGreatP06
import Derived.Test.YtdoghgnifkgfdaaGreatP17
import Derived.Test.YtdoghgnifkgfdaaGreatP40
set_option maxRecDepth 100000
set_option maxHeartbeats 16000000
open Option renaming none->Ai,some->yi
open Go renaming World->ui,Value->ti,undef->ri
open Bool renaming true->ji,false->gi
namespace Go.Proofs.YtdoghgnifkgfdaaGreat.Mute
open Go.Proofs.Tryz Go Go.Conc Go.RowKit
section
variable {w:ui}
theorem EO{lp:Option Addr}{len cap:Nat}{mo:Int}{o:Nat->uE}(hmo:Ua0 mo)(hs:ScR w lp len o)(hlen:len<=1048576):
  Fj prog 7 #[.slice lp len cap,.int .i64 mo] w (fun v w'=>v=.bool ji/\ak (fun b=>w.heap.size<=b) w w'):=by
 refine Fj.UD (List.toArray ((.slice lp len cap)::(.int .i64 mo)::ri::ri::ri::ri::ri::ri::ri::ri::ri::ri::ri::ri::ri::ri::ri::ri::ri::ri::ri::ri::ri::ri::ri::ri::ri::ri::ri::ri::ri::ri::ri::ri::ri::ri::ri::ri::ri::ri::ri::ri::ri::ri::ri::ri::ri::ri::ri::ri::ri::ri::ri::ri::ri::ri::ri::ri::ri::ri::ri::ri::ri::ri::ri::ri::ri::ri::ri::ri::ri::ri::ri::ri::ri::ri::ri::ri::ri::ri::ri::ri::ri::ri::ri::ri::ri::ri::ri::ri::ri::ri::ri::ri::ri::ri::ri::ri::ri::ri::ri::[])) func7 I0 J0 fun cs Post hp=>?_;have hk:(base 7).kind≠.early:=E1;refine vb ?_;have hF:=Is.self w;refine V8 ?_;refine Zb ?_;refine X8 ?_;refine V8 ?_;refine Ed ?_;refine X8 ?_;refine K8 fun w1 K hK hF=>?_;refine I8 ?_ ?_
 ·exact L9
 clear hK K;obtain⟨d1,rfl⟩:=hF;have JK:Below w.heap.size w ((w.at d1).alloc (.cells #[.slice Ai 0 0,.slice Ai 0 0,.slice Ai 0 0,.slice Ai 0 0,.slice Ai 0 0] 79)):=have q:=(Below.refl w.heap.size (w.at d1)).alloc (Nat.le_refl _) _;⟨q.os,q.tape,q.output,q.size,q.block⟩;have Gy:Ei ((w.at d1).alloc (.cells #[.slice Ai 0 0,.slice Ai 0 0,.slice Ai 0 0,.slice Ai 0 0,.slice Ai 0 0] 79)) w.heap.size 5 79 (cells5 (.slice Ai 0 0) (.slice Ai 0 0) (.slice Ai 0 0) (.slice Ai 0 0) (.slice Ai 0 0)):=Ei.new (w.at d1) _ _ _ (fun j hj=>by
  have Vs:j<5:=hj;have:j=0\/j=1\/j=2\/j=3\/j=4:=E0;rcases this with rfl|rfl|rfl|rfl|rfl<;>rfl)
 rw[show (w.at d1).heap.size=w.heap.size from rfl];generalize hWB:(w.at d1).alloc (.cells #[.slice Ai 0 0,.slice Ai 0 0,.slice Ai 0 0,.slice Ai 0 0,.slice Ai 0 0] 79)=wB at *;have hF:=Is.self wB;refine W9 ?_;refine X8 ?_;refine V8 ?_;refine Qe ?_;refine X8 ?_;refine .stop rfl fun w4 hR=>?_;obtain⟨d4,rfl⟩:=hF.rely hR;clear hF hR;refine bj.call rfl I0 hk (fun d=>?zx) (fun d=>?LL) (Ha0 (wB.at d4)) (fun v wS hv=>?_)
 case zx=>kernel_rfl
 case LL=>
  exact Xc
 obtain⟨v0,v1,v2,v3,rfl,hS1,IG⟩:=hv;refine vb ?_;have hF:=Is.self wS;refine W9 ?_;replace IG:Below wB.heap.size wB wS:=⟨IG.os,IG.tape,IG.output,IG.size,IG.block⟩;have hB2:Below w.heap.size w wS:=JK.trans (IG.mono JK.size);have ao:Ei wS w.heap.size 5 79 (cells5 (.slice Ai 0 0) (.slice Ai 0 0) (.slice Ai 0 0) (.slice Ai 0 0) (.slice Ai 0 0)):=Gy.of_heap (IG.block _ Gy.lt);have hBS:ak (fun b=>w.heap.size<=b) w wS:=ak.of_below hB2 _;have hCF:∀w':ui,(∀b,b<wS.heap.size->¬RZ w.heap.size (.slice Ai 0 0) (.slice Ai 0 0) b->w'.heap[b]?=wS.heap[b]?)->Bq w' v0 v1 v2 v3 Nj:=fun w' hk=>hS1 w' fun b h1 h2=>hk b h2 (by
  have h3:=Gy.lt;have h4:wB.heap.size<=b:=h1;rintro (q|q|q)
  ·omega
  ·simp[Value.ownBlock]at q
  ·simp[Value.ownBlock]at q)
 refine .stop rfl fun w4 hR=>?_;obtain⟨d4,rfl⟩:=hF.rely hR;clear hF hR;refine bj.call rfl I0 hk (fun d=>?mB) (fun d=>?E10) ((Vk.start (w0:=w) (w:=wS.at d4) (bw:=w.heap.size) ao (Nat.le_refl _) ⟨hBS.os,hBS.tape,hBS.output,hBS.size,hBS.block⟩).DU (N:=0) (fun _ _=>Nat.le_refl _) hCF QS (Nat.zero_le _)) (fun v wM hv=>?_)
 case mB=>kernel_rfl
 case E10=>
  exact Xc
 obtain⟨rfl,hM⟩:=hv;refine vb ?_;have hF:=Is.self wM;refine W9 ?_;have hI:Il w w.heap.size 1 0 0 0 wM:=by
  rcases hM with⟨-,q⟩|⟨q,-⟩
  ·exact q
  ·exact absurd W_ q
 clear hM;refine X8 ?_;refine V8 ?_;refine Zb ?_;refine X8 ?_;refine V8 ?_;refine Ci.loop Di ?_;refine .stop rfl fun w9 hR=>?_;obtain⟨d9,rfl⟩:=hF.rely hR;clear hF hR;exact ES hmo hs hlen cs hp len 0 1 (wM.at d9) _ _ _ _ _ _ _ _ _ _ _ _ _ _ _ _ _ _ _ _ _ _ _ _ _ _ _ _ _ _ _ _ _ _ _ _ _ _ _ _ _ _ _ _ _ _ _ _ _ _ _ _ _ _ _ _ _ _ _ _ _ _ _ _ _ _ _ _ _ _ _ _ _ _ _ _ _ _ _ _ _ _ _ _ _ _ _ _ _ _ _ _ _ _ _ E0 (Nat.le_refl _) E0 (hI.is ⟨d9,rfl⟩)
end
theorem OM(W:ui)(p:Option Addr)(n cap:Nat)(o:Nat->uE)(hn:n<=1048576)(hc:∀i,i<n->∃lb lo,p=yi ⟨lb,lo,Ai⟩/\lb<W.heap.size/\∀j,j<8->W.cell? ⟨lb,lo+i*8+j,Ai⟩=yi ((o i).cell j))(Pm:∀i,i<n->dY W (o i)):
  Fj prog 4 #[.slice p n cap] W (fun v w'=>v=.bool ji/\Below W.heap.size W w'):=by
 refine Fj.UD (List.toArray (.slice p n cap::ri::ri::ri::ri::[])) func4 I0 J0 fun cs Post hp=>?_;have hk:(base 4).kind≠.early:=E1;refine vb ?_;have hF:=Is.self W;refine V8 ?_;refine Zb ?_;refine X8 ?_;refine V8 ?_;refine Ed ?_;refine X8 ?_;refine .stop rfl fun w4 hR=>?_;obtain⟨d4,rfl⟩:=hF.rely hR;clear hF hR;refine bj.call rfl I0 hk (fun d=>?zx) (fun d=>?LL) (EO (w:=W.at d4) (lp:=p) (len:=n) (cap:=cap) (o:=o) (.inl rfl) ⟨hc,fun i hi=>(Pm i hi).ok (Nat.le_refl _) (fun _ _=>rfl)⟩ hn) (fun v wP hv=>?_)
 case zx=>kernel_rfl
 case LL=>
  exact Xc
 obtain⟨rfl,hB⟩:=hv;refine vb ?_;have hF:=Is.self wP;refine W9 ?_;refine X8 ?_;refine V8 ?_;refine Ci.ret Di fun todo=>?_;refine .stop rfl fun w9 hR=>?_;obtain⟨d9,rfl⟩:=hF.rely hR;exact hp _ _ _ _ rfl (fun d=>(resultsC_tmp (t:=2) I0 _ _).1) ⟨rfl,hB.os,hB.tape,hB.output,hB.size,fun b hb=>hB.block b hb (by show ¬(W.heap.size<=b);omega)⟩
open Go.ChangeShapes Go.WideShapes Go.ChangeAt Go.Deep Go.Joins
section
variable {H:Type}{enc:TypeId×ti->H}{P:Program}{w:ui}{base:Nat}{spare:Nat->Bool}{held:Bool}
theorem kM{t:TypeId}{f0 f1 f2 f3 f4:Field}{fuel:Nat}{cs:List ti}{x:DataW H×List MemPlace}(ht:P.underlying t=yi (.struct #[f0,f1,f2,f3,f4]))(h:DataW.trod enc P w base spare held fuel t cs=yi x):
  ∃y0 y1 y2 y3 y4 n,x=(.agg [y0.1,y1.1,y2.1,y3.1,y4.1],[y0,y1,y2,y3,y4].flatMap (·.2))/\DataW.trod enc P w base spare held n f0.type ((cs.drop f0.offset).take (P.cellsOf f0.type))=yi y0/\DataW.trod enc P w base spare held n f1.type ((cs.drop f1.offset).take (P.cellsOf f1.type))=yi y1/\DataW.trod enc P w base spare held n f2.type ((cs.drop f2.offset).take (P.cellsOf f2.type))=yi y2/\DataW.trod enc P w base spare held n f3.type ((cs.drop f3.offset).take (P.cellsOf f3.type))=yi y3/\DataW.trod enc P w base spare held n f4.type ((cs.drop f4.offset).take (P.cellsOf f4.type))=yi y4:=by
 obtain⟨xs,n,-,rfl,-,hl,hx⟩:=DataW.trod_struct ht h;have GH:xs.length=5:=hl
 match xs,GH with
 | [y0,y1,y2,y3,y4],_=>exact⟨y0,y1,y2,y3,y4,n,rfl,hx 0 f0 rfl,hx 1 f1 rfl,hx 2 f2 rfl,hx 3 f3 rfl,hx 4 f4 rfl⟩
theorem BX{t e fuel n cap:Nat}{p:Option Addr}{x:DataW H×List MemPlace}(ht:P.underlying t=yi (.slice e))(h:DataW.trod enc P w base spare held fuel t [.slice p n cap]=yi x)(qH:Fit P t x.1):P.bytesOf e*n<=140737488351232:=by
 rcases open_slice ht h with⟨hcs,rfl⟩|⟨a,len,qO,m,n',D,Pl,hcs,-,hl,-,sV,rfl,hel⟩
 ·simp at hcs;rw[hcs.2.1];simp
 ·simp at hcs;obtain⟨-,rfl,rfl⟩:=hcs;obtain⟨zB,-⟩:=zK ht qH;simp only[List.length_map,List.length_range,reachBytes]at zB;rw[Nat.mul_comm];refine Nat.le_trans (Nat.mul_le_mul_right _ ?_) zB;omega
theorem iR{t e fuel n cap:Nat}{p:Option Addr}{x:DataW H×List MemPlace}(ht:P.underlying t=yi (.slice e))(h:DataW.trod enc P w base spare held fuel t [.slice p n cap]=yi x):n<=Rows.uptoBulk x.1:=by
 have oa0:∀l:List (DataW H),l.length<=Rows.uptoBulkAll l:=fun l=>by
  induction l with
  |nil=>simp
  |cons d l ih=>
   have:1<=Rows.uptoBulk d:=by
    cases d with
    |lit l=>cases l<;>simp[Rows.uptoBulk]
    |_=>simp[Rows.uptoBulk]
   simp only[Rows.uptoBulkAll,List.length_cons];omega
 rcases open_slice ht h with⟨hcs,rfl⟩|⟨a,len,qO,m,n',D,Pl,hcs,-,hl,-,sV,rfl,hel⟩
 ·simp at hcs;omega
 ·simp at hcs;obtain⟨-,rfl,rfl⟩:=hcs;have:=oa0 ((List.range n).map D);simp only[List.length_map,List.length_range]at this;simp only[Rows.uptoBulk];omega
end
section
variable {H:Type}{enc:TypeId×ti->H}{w:ui}{base:Nat}{spare:Nat->Bool}{held:Bool}
theorem c_op:prog.cellsOf 31=8:=J0
theorem Xj0:prog.bytesOf 31=144:=J0
theorem pj0:prog.cellsOf 59=2:=J0
theorem Od0:prog.bytesOf 59=16:=J0
theorem L90:prog.cellsOf 29=1:=J0
theorem h60:Nums enc prog w base spare held 59 2:=by
 intro fuel cs x h r hr;obtain⟨y0,y1,n,-,-,h0,h1⟩:=trod_struct2 underlying59 h;have:r=0\/r=1:=E0;rcases this with rfl|rfl
 ·exact ag
 ·exact Lm underlying2 pL rfl h1
theorem C40{fuel:Nat}{F:Nat->ti}{x:DataW H×List MemPlace}(h:DataW.trod enc prog w base spare held fuel 31 [F 0,F 1,F 2,F 3,F 4,F 5,F 6,F 7]=yi x)(hf:Fit prog 31 x.1):∃o:uE,(∀j,j<8->F j=o.cell j)/\dY w o:=by
 obtain⟨y0,y1,y2,y3,y4,n,rfl,h0,h1,h2,h3,h4⟩:=kM underlying31 h;have f3:=Gp (j:=3) underlying31 hf rfl rfl;have f4:=Gp (j:=4) underlying31 hf rfl rfl;obtain⟨k0,e0,-,-⟩:=Lm underlying3 Zv rfl h0;obtain⟨k1,e1,l1,u1⟩:=Lm underlying3 Zv rfl h1;obtain⟨k2,e2,-,-⟩:=Lm underlying3 Zv rfl h2;rw[jf0]at h3;rw[L90]at h4;have mU:DataW.trod enc prog w base spare held n 28 [F 3,F 4,F 5,F 6]=yi y3:=h3;have h4':DataW.trod enc prog w base spare held n 29 [F 7]=yi y4:=h4;obtain⟨c,hc,hw⟩:=Q20 mU f3;obtain⟨nl,m,z,⟨p,cap,i1,i2,i3,i4,i5,i6⟩,-⟩:=JD underlying29 pj0 E0 Od0 h60 h4' f4;obtain⟨p0,c0,G0,s0,-⟩:=hc.cells;obtain⟨p1,c1,G1,s1,-⟩:=hc.table;obtain⟨p2,c2,s2,-⟩:=hc.gV;obtain⟨p3,c3,s3,-⟩:=hc.zd0;have hb:=BX underlying29 (by rw[<-i1];exact h4') f4;rw[Od0]at hb;have e0':F 0=.int .i64 k0:=by simpa using e0
 have e1':F 1=.int .i64 k1:=by simpa using e1
 have e2':F 2=.int .i64 k2:=by simpa using e2
 refine⟨⟨k0,k1,k2,fun i=>if i=0 then p0 else if i=1 then p1 else if i=2 then p2 else if i=3 then p3 else p,fun i=>if i=0 then c.nC else if i=1 then c.nT else if i=2 then c.qj else if i=3 then c.nD else m,fun i=>if i=0 then c0 else if i=1 then c1 else if i=2 then c2 else if i=3 then c3 else cap,c,z⟩,fun j hj=>?_,l1,u1,?_,hw,i6,?_,hb⟩
 ·have:j=0\/j=1\/j=2\/j=3\/j=4\/j=5\/j=6\/j=7:=by omega
  rcases this with rfl|rfl|rfl|rfl|rfl|rfl|rfl|rfl
  ·exact e0'
  ·exact e1'
  ·exact e2'
  ·exact s0
  ·exact s1
  ·exact s2
  ·exact s3
  ·exact i1
 ·show Bq w (.slice p0 c.nC c0) (.slice p1 c.nT c1) (.slice p2 c.qj c2) (.slice p3 c.nD c3) c;rw[<-s0,<-s1,<-s2,<-s3];exact hc
 ·show (p=Ai/\m=0)\/∃ad,p=yi ad/\(m=0\/ad.block<w.heap.size);cases p with
  |none=>exact .inl ⟨rfl,(i4 rfl).1⟩
  |some ad=>
   refine .inr ⟨ad,rfl,?_⟩;by_cases hm:m=0
   ·exact .inl hm
   ·obtain⟨b,off,e,vV⟩:=i6.at E0;obtain rfl:=Option.some.inj e;exact .inr (block_lt_of_cell (vV 0 E0))
theorem f00{fuel:Nat}{v:ti}{x:DataW H×List MemPlace}(h:DataW.trod enc prog w base spare held fuel 22 [v]=yi x)(hf:Fit prog 22 x.1):
  ∃(p:Option Addr)(n cap:Nat)(o:Nat->uE),v=.slice p n cap/\n<=Rows.uptoBulk x.1/\(∀i,i<n->∃lb lo,p=yi ⟨lb,lo,Ai⟩/\lb<w.heap.size/\∀j,j<8->w.cell? ⟨lb,lo+i*8+j,Ai⟩=yi ((o i).cell j))/\∀i,i<n->dY w (o i):=by
 obtain⟨l0,p,n,cap,F,D,m,rfl,a2,a3,a4,a5,a6,a7⟩:=oG underlying22 c_op E0 Xj0 h hf;have d0:uE:=⟨0,0,0,fun _=>Ai,fun _=>0,fun _=>0,⟨ji,0,fun _=>0,fun _=>ji,fun _=>0,fun _ _=>0,fun _=>ji,fun _=>0,fun _ _=>0,ji,0,fun _=>ji,fun _=>0,fun _ _=>0,ji,0,fun _=>0,ji,0,fun _=>0⟩,fun _=>0⟩;obtain⟨O,hO⟩:=choose_lt d0 (n:=n) (P:=fun i o=>(∀j,j<8->F (i*8+j)=o.cell j)/\dY w o) (fun i hi=>by
  obtain⟨q1,q2⟩:=a7 i hi;exact C40 (F:=fun j=>F (i*8+j)) q1 q2)
 refine⟨p,n,cap,O,rfl,iR underlying22 h,fun i hi=>?_,fun i hi=>(hO i hi).2⟩;obtain⟨b,off,rfl,hc⟩:=a6.at E0;refine⟨b,off,rfl,block_lt_of_cell (hc (i*8) E0),fun j hj=>?_⟩;have:=hc (i*8+j) E0;rw[(hO i hi).1 j hj,<-Nat.add_assoc]at this;exact nh
end
end Go.Proofs.YtdoghgnifkgfdaaGreat.Mute
namespace Go.Proofs.YtdoghgnifkgfdaaGreat
open Go.Proofs.Tryz Go.ChangeShapes Go.WideShapes Go.ChangeAt Go.RowKit Go.Conc
theorem Tryz.own:ownKnob prog.godebug=Option.none:=J0
theorem Tryz.laidOut:laidOutB prog=true:=J0
theorem bJ(os:Os)(started:os.Started)(H:Type)(enc:TypeId×ti->H)(F:Stop.Interp):
  ReturnsInLeavingWide {} Tryz.checked os 4 .any ((Rows.OpenSpec.upto Rows.framesSpec).pre6 enc prog Tryz.f4 Rows.framesUptoRow.domain gi) (((Rows.OpenSpec.upto Rows.framesSpec).at F).post enc prog Tryz.f4 gi ji gi gi):=by
 refine returnsInLeavingWide_of_good (C:=Tryz.checked) Tryz.own started
  (OpenSpec.witness (enc:=enc) (C:=Tryz.checked) (s:=Rows.OpenSpec.upto Rows.framesSpec) (k:=Rows.uptoSmall) rfl gi ⟨#[],#[.slice Option.none 0 0],[]⟩ 8 J0 J0 J0 (x:=([.nil],[],[])) J0 rfl J0) ?_
 intro w tape i _ _ _ gl hpre _;obtain⟨_,_,_,LM,yi0,_,_,_,_,P70⟩:=gl;obtain rfl:LM=Tryz.f4:=Option.some.inj (yi0.symm.trans func4);obtain⟨ds,gs,before,PW,_,hkk⟩:=(OpenSpec.pre_some (s:=Rows.OpenSpec.upto Rows.framesSpec) (k:=Rows.uptoSmall) rfl _ _ _ _).1 hpre.1;have hsz:(DataW.weightsEach prog (Tryz.f4.params.toList++(Rows.OpenSpec.upto Rows.framesSpec).bare.plain.varTypes prog) (ds++gs)).all (·<=reachBytes)=true:=hpre.2.weights PW;have hW:DataW.Whole enc prog Tryz.f4.params.toList [] gi (w.forCall tape i) i.args.toList ds gs before:=DataW.Whole.of_heap (w':=w.forCall tape i) I0 PW;have hval:∀(j:Nat) t v,Tryz.f4.params[j]?=yi t->i.args[j]?=yi v->Value.okWide prog (w.forCall tape i) .any w.heap.size t v:=P70;clear PW P70 hpre;generalize w.forCall tape i=W at *;generalize i.args=args at *;have hW':=hW;obtain⟨p,q,hA0,hV,rfl,_,_⟩:=hW;have hA:DataW.TrodAll enc prog W 0 (fun _=>ji) ji Tryz.f4.params.toList args.toList ds p:=hA0;rw[params4]at hA hval hsz;obtain⟨v0,d0,rfl,rfl,h0⟩:=trodAll_one hA;obtain⟨rfl,rfl⟩:=trodVars_none hV;obtain⟨a0,s20,yj,rfl⟩:=okWide_slice underlying22 (hval 0 22 v0 rfl rfl);have h0k:=h0;obtain⟨fuel,hf⟩:=h0;clear hA0;simp only[List.append_nil]at hW';have Wi:∀x∈p,x.block<W.heap.size:=fun x hx=>by simpa using hW'.lt x hx
 have Qd0:∀(W':ui),Below W.heap.size W W'->DataW.Trod enc prog W' 0 (fun b=>decide (b<W.heap.size)) ji 22 (.slice a0 s20 yj) d0 p:=
  fun W' hn=>Below.trod Tryz.laidOut J0 (of_decide_eq_true J0) h0k hn Wi
 have qH:Fit prog 22 d0:=fun n hn=>by
  have hh:=List.all_eq_true.1 hsz n (DataW.weights_mem_each (j:=0) (t:=22) (d:=d0) rfl rfl n hn);simpa using hh
 obtain⟨po,n,cap,o,hv,hb,hs,Pm⟩:=Mute.f00 (by simpa[Value.cells]using hf) qH;simp only[Value.slice.injEq]at hv;obtain⟨rfl,rfl,rfl⟩:=hv;have hn:s20<=1048576:=by
  have hk:=of_decide_eq_true hkk;simp only[List.append_nil,Rows.uptoBulkAll]at hk;have uk:s20<=Rows.uptoBulk d0:=hb;omega
 obtain⟨M,last,oc,w',t',r1,r2,r3,r4⟩:=Mute.Fj.good (Post:=fun v W'=>((Rows.OpenSpec.upto Rows.framesSpec).at F).post enc prog Tryz.f4 gi ji gi gi W #[.slice a0 s20 yj] v W') (Mute.OM W a0 s20 yj o hn hs Pm) J0 (fun v w' d hR=>by
  obtain⟨rfl,hB⟩:=hR;have Fq:Below W.heap.size W (w'.at d):=⟨hB.os,hB.tape,hB.output,hB.size,hB.block⟩;refine⟨_,_,_,[],p,[],hW',?_,trodAll_mk1 (Qd0 _ Fq),rfl,Fq.frame _,fun h=>V3⟩;exact trodAll_mk1 (shut_bool underlying4 ji))
 exact⟨M,last,oc,w',t',r1,r2,r3,r4.mono fun v hp=>ChangeSpec.post_blind hp⟩
theorem frames_upto:Rows.FramesUptoSaid:=by
 have dF:prog.stopKnobs=[]:=J0;have Wq:∀t∈Tryz.f4.params,prog.readableRec t=true:=fun t ht=>by
  obtain rfl:t=22:=by simpa[params4]using ht
  kernel_rfl
 have oJ:∀t∈Tryz.f4.resultTypes,prog.readableRec t=ji/\t<prog.types.size:=fun t ht=>by
  have ht':t∈#[4]:=ht;obtain rfl:t=4:=by simpa using ht'
  exact⟨J0,of_decide_eq_true J0⟩
 refine⟨J0,rfl,rfl,rfl,J0,J0,show prog.mayEnter=ji by kernel_rfl,⟨rfl,rfl,rfl,rfl,rfl,rfl,rfl⟩,4,Tryz.f4,J0,func4,⟨Wq,oJ⟩,(fun h=>V3),J0,of_decide_eq_true J0,
  (by unfold Func.isWrapper;first|(rw[if_pos W3];kernel_rfl)|(rw[if_neg W3];exact⟨rfl,rfl⟩)),J0,⟨J0,J0,J0⟩,J0,J0,J0,J0,J0,⟨J0,J0,J0⟩,⟨J0,J0⟩,⟨J0,J0,J0,J0⟩,⟨J0,J0,J0,J0⟩,rfl,(fun n hn=>by cases hn),
  ⟨_,WideRow.started_initial,fun k hk=>by
   have sF:k∈prog.stopKnobs:=hk;rw[dF]at sF;cases sF⟩,[],rfl,fun os st _ H enc _=>?_⟩
 rw[OpenClaim.post_not_still rfl,OpenClaim.pre_of_none' rfl];intro F;exact bJ os st H enc F J0
#print axioms frames_upto
end Go.Proofs.YtdoghgnifkgfdaaGreat
