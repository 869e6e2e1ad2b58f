import Derived.Test.YtdoghgnifkgfdaaGreatP00
import Derived.Test.YtdoghgnifkgfdaaGreatP17
import Derived.Test.YtdoghgnifkgfdaaGreatP24
import Derived.Test.YtdoghgnifkgfdaaGreatP39
set_option maxRecDepth 100000
set_option maxHeartbeats 16000000
open Option renaming none->Ai,some->yi
open Go renaming World->ui,Value->ti,undef->ri
open Bool renaming true->ji,false->gi
namespace Go.Proofs.YtdoghgnifkgfdaaGreat.Mute
open Tryz Go Go.Conc Go.RowKit
theorem lO:vo prog plan 19 #[]:=⟨J0,Vi plain func19 J0 _⟩
theorem Ha0(w:ui):Fj prog 19 #[] w (fun v w'=>∃v0 v1 v2 v3,v=.agg #[v0,v1,v2,v3]/\(∀jK:ui,(∀b,w.heap.size<=b->b<w'.heap.size->jK.heap[b]?=w'.heap[b]?)->Bq jK v0 v1 v2 v3 Nj)/\Below w.heap.size w w'):=by
 refine Fj.Nu lO (fun v w'=>∃v0 v1 v2 v3,v=.agg #[v0,v1,v2,v3]/\(∀jK:ui,(∀b,w.heap.size<=b->b<w'.heap.size->jK.heap[b]?=w'.heap[b]?)->Bq jK v0 v1 v2 v3 Nj)/\w'.os=w.os/\w'.output=w.output/\w.heap.size<=w'.heap.size/\∀b,b<w.heap.size->w'.heap[b]?=w.heap[b]?) (fun τ=>(sZ (Rj w τ 0)).mono ?_) ?_
 ·rintro e w' ⟨v0,v1,v2,v3,rfl,h1,h2⟩;refine⟨_,rfl,v0,v1,v2,v3,rfl,fun jK hk=>h1 jK fun a v ha hc=>?_,h2.os,h2.output,h2.size,h2.block⟩;have hh:=hk a.block ha (block_lt_of_cell hc);unfold World.cell? at hc ⊢;rw[hh];exact hc
 ·rintro v w₁ τ d d' ⟨v0,v1,v2,v3,rfl,h1,h2,h3,h4,h5⟩;exact⟨v0,v1,v2,v3,rfl,h1,⟨h2,rfl,h3,h4,h5⟩⟩
theorem W_:Ui Nj 0 0:=by
 unfold Ui;refine .inr (.inr (.inr (.inr (.inr (.inr (.inr (.inr ⟨?_,?_,fun i hi=>?_,?_,fun i hi=>?_,?_,fun i hi=>?_,fun i hi=>?_,rfl,rfl⟩)))))))
 ·simp[Ss,Nj]
 ·simp[Ns,Nj]
 ·have uI:i<1:=hi;obtain rfl:i=0:=by omega
  refine⟨J3,fun j hj=>?_,?_⟩
  ·have Vs:j<1:=hj;obtain rfl:j=0:=by omega
   simp[Nj,xG]
  ·simp[Nj,sumTo]
 ·simp[Nj]
 ·exact absurd hi (Nat.not_lt_zero _)
 ·simp[Nj]
 ·exact absurd hi (Nat.not_lt_zero _)
 ·have uI:i<1:=hi;obtain rfl:i=0:=by omega
  refine⟨J3,J3,J3,fun j hj=>?_⟩;have Vs:j<3:=hj;have:j=0\/j=1\/j=2:=E0;rcases this with rfl|rfl|rfl<;>simp[Nj,gy,Rr]
theorem QS:OD Nj:=by
 intro i hi j hj;obtain rfl:i=0:=by simp[Nj]at hi;omega
 simp only[Nj]at hj;have:j=0\/j=1\/j=2\/j=3\/j=4\/j=5\/j=6\/j=7\/j=8\/j=9\/j=10\/j=11:=E0;rcases this with rfl|rfl|rfl|rfl|rfl|rfl|rfl|rfl|rfl|rfl|rfl|rfl<;>simp[Nj]
structure uE where
 kd:Int
 at_:Int
 q:Int
 p:Nat->Option Addr
 l:Nat->Nat
 c:Nat->Nat
 cf:vl
 zi:Nat->Int
def uE.cell(o:uE):Nat->Value:=cells8 (.int .i64 o.kd) (.int .i64 o.at_) (.int .i64 o.q) (.slice (o.p 0) (o.l 0) (o.c 0)) (.slice (o.p 1) (o.l 1) (o.c 1)) (.slice (o.p 2) (o.l 2) (o.c 2)) (.slice (o.p 3) (o.l 3) (o.c 3)) (.slice (o.p 4) (o.l 4) (o.c 4))
structure Ae0(w0:ui)(o:uE):Prop where
 lo:-9223372036854775808<=o.at_
 hi:o.at_<=9223372036854775807
 cfg:o.kd=1->(∀w':ui,(∀b,b<w0.heap.size->w'.heap[b]?=w0.heap[b]?)->Bq w' (.slice (o.p 0) (o.l 0) (o.c 0)) (.slice (o.p 1) (o.l 1) (o.c 1)) (.slice (o.p 2) (o.l 2) (o.c 2)) (.slice (o.p 3) (o.l 3) (o.c 3)) o.cf)/\OD o.cf
 ins:∀w':ui,(∀b,b<w0.heap.size->w'.heap[b]?=w0.heap[b]?)->Sl w' (o.p 4) (o.l 4*2) (fun j=>.int .i64 (o.zi j))
 inp:(o.p 4=Ai/\o.l 4=0)\/∃ad,o.p 4=yi ad/\(o.l 4=0\/ad.block<w0.heap.size)
 inb:16*o.l 4<=140737488351232
structure dY(w:ui)(o:uE):Prop where
 lo:-9223372036854775808<=o.at_
 hi:o.at_<=9223372036854775807
 cfg:Bq w (.slice (o.p 0) (o.l 0) (o.c 0)) (.slice (o.p 1) (o.l 1) (o.c 1)) (.slice (o.p 2) (o.l 2) (o.c 2)) (.slice (o.p 3) (o.l 3) (o.c 3)) o.cf
 cw:OD o.cf
 ins:Sl w (o.p 4) (o.l 4*2) (fun j=>.int .i64 (o.zi j))
 inp:(o.p 4=Ai/\o.l 4=0)\/∃ad,o.p 4=yi ad/\(o.l 4=0\/ad.block<w.heap.size)
 inb:16*o.l 4<=140737488351232
theorem dY.ok{W w:ui}{o:uE}(h:dY W o)(hs:W.heap.size<=w.heap.size)(hold:∀b,b<W.heap.size->w.heap[b]?=W.heap[b]?):Ae0 w o:=by
 have hk:∀w':ui,(∀b,b<w.heap.size->w'.heap[b]?=w.heap[b]?)->∀a v,W.cell? a=yi v->w'.cell? a=yi v:=fun w' ha a v hc=>by
  have hb:=block_lt_of_cell hc;exact(cell_of_heap ((ha _ E0).trans (hold _ hb))).trans hc
 exact⟨h.lo,h.hi,fun _=>⟨fun w' ha=>h.cfg.keep (hk w' ha),h.cw⟩,fun w' ha=>h.ins.keep (hk w' ha),h.inp.imp id fun ⟨ad,e,hl⟩=>⟨ad,e,hl.imp id fun x=>E0⟩,h.inb⟩
structure ScR(w0:ui)(lp:Option Addr)(len:Nat)(o:Nat->uE):Prop where
 cells:∀i,i<len->∃lb lo,lp=yi ⟨lb,lo,Ai⟩/\lb<w0.heap.size/\∀j,j<8->w0.cell? ⟨lb,lo+i*8+j,Ai⟩=yi ((o i).cell j)
 ok:∀i,i<len->Ae0 w0 (o i)
section
variable {w0 w w':ui}{bw n mm ff N:Nat}{ks rs:ti}{v:Nat->ti}{m K Kb:Nat->Nat}{S S':Nat->Nat->Prop}{xs:Nat->List ti}
theorem Il.le(h:Il w0 bw n mm ff N w){m2 f2 N2:Nat}(h1:mm<=m2)(h2:ff<=f2)(h3:N<=N2):Il w0 bw n m2 f2 N2 w:=by
 obtain⟨ks,rs,v,m,K,Kb,S,S',xs,h,hN⟩:=h;exact⟨ks,rs,v,m,K,Kb,S,S',xs,⟨h.win,fun i hi=>(h.pr i hi).le h1 h2,h.ap,h.own,h.mkd,h.m4,h.sp,h.us,h.lo,h.ph⟩,fun l hl=>Nat.le_trans (hN l hl) h3⟩
theorem Il.is(h:Il w0 bw n mm ff N w)(hi:Is w w'):Il w0 bw n mm ff N w':=by
 obtain⟨d,rfl⟩:=hi;obtain⟨ks,rs,v,m,K,Kb,S,S',xs,h,hN⟩:=h;exact⟨ks,rs,v,m,K,Kb,S,S',xs,⟨⟨h.win.row,h.win.k,h.win.r,h.win.ne⟩,fun i hi=>(h.pr i hi).keep (fun _ _=>rfl) (Nat.le_refl _),h.ap,h.own,h.mkd,h.m4,h.sp,h.us,h.lo,⟨h.ph.os,h.ph.tape,h.ph.output,h.ph.size,h.ph.block⟩⟩,hN⟩
theorem Il.below(h:Il w0 bw n mm ff N w)(hb:Below w.heap.size w w'):Il w0 bw n mm ff N w':=by
 obtain⟨ks,rs,v,m,K,Kb,S,S',xs,h,hN⟩:=h;exact⟨ks,rs,v,m,K,Kb,S,S',xs,h.below hb,hN⟩
theorem Il.old(h:Il w0 bw n mm ff N w){b:Nat}(hb:b<w0.heap.size):w.heap[b]?=w0.heap[b]?:=by
 obtain⟨ks,rs,v,m,K,Kb,S,S',xs,h,hN⟩:=h;exact h.ph.block b hb E0
theorem ScR.at{lp:Option Addr}{len:Nat}{o:Nat->uE}(hs:ScR w0 lp len o)(h:Il w0 bw n mm ff N w){i:Nat}(hi:i<len):∃lb lo,lp=yi ⟨lb,lo,Ai⟩/\lb<w0.heap.size/\∀j,j<8->w.cell? ⟨lb,lo+i*8+j,Ai⟩=yi ((o i).cell j):=by
 obtain⟨lb,lo,h1,h2,h3⟩:=hs.cells i hi;exact⟨lb,lo,h1,h2,fun j hj=>(cell_of_heap (a:=⟨lb,lo+i*8+j,Ai⟩) (h.old h2)).trans (h3 j hj)⟩
theorem Vk.Va0(h:Vk w0 w bw n mm ff ks rs v m K Kb S S' xs)(hn:0<n):∃gk ck gr cr,ks=.slice (yi ⟨gk,0,Ai⟩) n ck/\rs=.slice (yi ⟨gr,0,Ai⟩) n cr/\w.cell? ⟨bw,0,Ai⟩=yi (.slice (yi ⟨gk,0,Ai⟩) n ck)/\w.cell? ⟨bw,1,Ai⟩=yi (.slice (yi ⟨gr,0,Ai⟩) n cr)/\∀i,i<n->w.cell? ⟨gk,i,Ai⟩=yi (.pointer (yi ⟨K i,0,Ai⟩))/\w.cell? ⟨gr,i,Ai⟩=yi (.pointer (yi ⟨Kb i,0,Ai⟩)):=by
 have hk:=h.win.k;have hr:=h.win.r;have r0:=h.win.row.cell (j:=0) E0;have r1:=h.win.row.cell (j:=1) E0;obtain⟨gk,ck,rfl,-,-⟩:=hk.form hn;obtain⟨gr,cr,rfl,-,-⟩:=hr.form hn;exact⟨gk,ck,gr,cr,rfl,rfl,r0,r1,fun i hi=>⟨Am hk (by simp[dN,hi]),Am hr (by simp[dN,hi])⟩⟩
end
noncomputable def Kz:Code:=match Tryz.f7.body with
 |some (.seq _ (.seq _ (.seq _ (.seq (.seq _ (.block _ (.loop c))) _))))=>c
 |_=>.skip
noncomputable def pM:Code:=match Tryz.f7.body with
 |some (.seq _ (.seq _ (.seq _ (.seq _ c))))=>c
 |_=>.skip
noncomputable def U10:Code:=match Kz with
 |.seq _ (.seq (.block _ (.seq _ (.seq _ c))) _)=>c
 |_=>.skip
noncomputable def y70:Code:=match Kz with
 |.seq _ (.seq _ c)=>c
 |_=>.skip
section
variable {w0 w:ui}{bw n mm ff N:Nat}
theorem Il.VT(h:Il w0 bw n mm ff N w)(hN:N<=1000000000000):Fj prog 23 #[.pointer (yi ⟨bw,2,Ai⟩)] w (fun v w'=>v=.bool ji/\Is w w'):=by
 obtain⟨ks,rs,v,m,K,Kb,S,S',xs,h,hm⟩:=h;exact h.VT (fun l hl=>Nat.le_trans (hm l hl) hN)
theorem Il.DU(h:Il w0 bw n mm ff N w){c:vl}{v0 v1 v2 v3:ti}(qL:∀w':ui,(∀b,b<w0.heap.size->w'.heap[b]?=w0.heap[b]?)->Bq w' v0 v1 v2 v3 c)(hcw:OD c)(hn:n<=8796093022208):
  Fj prog 18 #[.pointer (yi ⟨bw,0,Ai⟩),.agg #[v0,v1,v2,v3]] w (fun v w'=>v=.bool ji/\∃n',n<=n'/\n'<=n+1/\Il w0 bw n' mm ff N w'):=by
 obtain⟨ks,rs,v,m,K,Kb,S,S',xs,h,hm⟩:=h;refine(h.DU hm (c:=c) (fun w' hb=>qL w' fun b hl=>h.agree hb hl) hcw hn).mono ?_;rintro v w' ⟨h1,⟨-,h2⟩|⟨-,h2⟩⟩
 ·exact⟨h1,n+1,E0,E0,h2⟩
 ·exact⟨h1,n,E0,E0,h2⟩
def df0:Prop:=∀(w0 w:ui)(bw n mm ff N:Nat)(ks rs:ti)(v:Nat->ti)(m K Kb:Nat->Nat)(S S':Nat->Nat->Prop)(xs:Nat->List ti),Vk w0 w bw n mm ff ks rs v m K Kb S S' xs->(∀l,l<3->m l<=N)->N<=1000000000->∀i,i<n->∀(a q:Int)(p0 p1 p2 p3 p4:Option Addr)(l0 l1 l2 l3 l4 c0 c1 c2 c3 c4:Nat),
  Fj prog 22 #[.pointer (yi ⟨bw,0,Ai⟩),.pointer (yi ⟨K i,0,Ai⟩),.pointer (yi ⟨Kb i,0,Ai⟩),.agg #[.int .i64 6,.int .i64 a,.int .i64 q,.slice p0 l0 c0,.slice p1 l1 c1,.slice p2 l2 c2,.slice p3 l3 c3,.slice p4 l4 c4]] w (fun v w'=>v=.bool ji/\Il w0 bw n mm ff (N+4) w')
def Ua0(mo:Int):Prop:=mo=5\/(mo=6/\df0)
theorem Il.Va0(h:Il w0 bw n mm ff N w)(hn:0<n){mo:Int}(hmo:Ua0 mo)(hN:N<=1000000000)(sV:mm+1600<=1000000000)(hff:ff<=100000000000):
  ∃(gk ck gr cr:Nat)(K Kb:Nat->Nat),w.cell? ⟨bw,0,Ai⟩=yi (.slice (yi ⟨gk,0,Ai⟩) n ck)/\w.cell? ⟨bw,1,Ai⟩=yi (.slice (yi ⟨gr,0,Ai⟩) n cr)/\
   (∀j,j<n->w.cell? ⟨gk,j,Ai⟩=yi (.pointer (yi ⟨K j,0,Ai⟩))/\w.cell? ⟨gr,j,Ai⟩=yi (.pointer (yi ⟨Kb j,0,Ai⟩)))/\
   (∀(d j:Nat)(ip:Option Addr)(il ic:Nat)(zi:Nat->Int),j<n->Sl w ip (il*2) (fun j=>.int .i64 (zi j))->((ip=Ai/\il=0)\/∃ad,ip=yi ad/\(il=0\/ad.block<w0.heap.size))->16*il<=140737488351232->
    Fj prog 21 #[.pointer (yi ⟨K j,0,Ai⟩),.pointer (yi ⟨Kb j,0,Ai⟩),.slice ip il ic] (w.at d) (fun v w'=>v=.bool ji/\Il w0 bw n (mm+206) (ff+1) N w'))/\
   (∀(d j:Nat)(kd a q:Int)(p0 p1 p2 p3 p4:Option Addr)(l0 l1 l2 l3 l4 c0 c1 c2 c3 c4:Nat),j<n->3<=kd/\kd<=mo->
    Fj prog 22 #[.pointer (yi ⟨bw,0,Ai⟩),.pointer (yi ⟨K j,0,Ai⟩),.pointer (yi ⟨Kb j,0,Ai⟩),.agg #[.int .i64 kd,.int .i64 a,.int .i64 q,.slice p0 l0 c0,.slice p1 l1 c1,.slice p2 l2 c2,.slice p3 l3 c3,.slice p4 l4 c4]] (w.at d) (fun v w'=>v=.bool ji/\Il w0 bw n mm ff (N+4) w')):=by
 obtain⟨ks,rs,v,m,K,Kb,S,S',xs,h,hm⟩:=h;obtain⟨gk,ck,gr,cr,rfl,rfl,k1,k2,k3⟩:=h.Va0 hn;have hat:∀d,Vk w0 (w.at d) bw n mm ff (.slice (yi ⟨gk,0,Ai⟩) n ck) (.slice (yi ⟨gr,0,Ai⟩) n cr) v m K Kb S S' xs:=fun d=>⟨⟨h.win.row,h.win.k,h.win.r,h.win.ne⟩,fun i hi=>(h.pr i hi).keep (fun _ _=>rfl) (Nat.le_refl _),h.ap,h.own,h.mkd,h.m4,h.sp,h.us,h.lo,⟨h.ph.os,h.ph.tape,h.ph.output,h.ph.size,h.ph.block⟩⟩;refine⟨gk,ck,gr,cr,K,Kb,k1,k2,k3,fun d j ip il ic zi hj Pm hp hb=>(hat d).frameC hm hj Pm hp hb sV hff,fun d j kd a q p0 p1 p2 p3 p4 l0 l1 l2 l3 l4 c0 c1 c2 c3 c4 hj YT=>?_⟩;by_cases e6:kd=6
 ·subst e6;rcases hmo with e|⟨-,h6⟩
  ·omega
  ·exact h6 _ _ _ _ _ _ _ _ _ _ _ _ _ _ _ _ (hat d) hm hN j hj a q p0 p1 p2 p3 p4 l0 l1 l2 l3 l4 c0 c1 c2 c3 c4
 ·exact(hat d).Bc0 hm hN E0 hj (by rcases hmo with e|⟨e,-⟩<;>omega) a q p0 p1 p2 p3 p4 l0 l1 l2 l3 l4 c0 c1 c2 c3 c4
end
theorem oS{Post:Goroutine->ui->Prop}{w0:ui}{bw:Nat}{lp:Option Addr}{len cap:Nat}{mo:Int}(cs:List Frame)(i n mm ff N:Nat)(w:ui)(u2 u3 u8 u9 Py pz wx Kx tw vw u16 Aw zw uw xw qx vv u23 yv Nv ku qu lu nu dw Wv u32 Xv gw px u36 aC u38 dD yY YW EZ uY bZ u45 qX gZ CZ FY uZ xX jZ jY aY VX OZ DW LZ SZ NY u61 EY zY u64 qZ KY lZ tZ QY CX SV gW JW rX AY nZ mY MX oZ GX fZ jW eX nY fY jX OW tW vZ mX RY vW m_ QZ GY VY MV cY qW SD:ti)(hi:i<=1048576)(hN:N<=1000000000000)(hI:Il w0 bw n mm ff N w)
  (Fq:∀(w':ui)(u2 u3 u8 u9 Py pz wx Kx tw vw u16 Aw zw uw xw qx vv u23 yv Nv ku qu lu nu dw Wv u32 Xv gw px u36 aC u38 dD yY YW EZ uY bZ u45 qX gZ CZ FY uZ xX jZ jY aY VX OZ DW LZ SZ NY u61 EY zY u64 qZ KY lZ tZ QY CX SV gW JW rX AY nZ mY MX oZ GX fZ jW eX nY fY jX OW tW vZ mX RY vW m_ QZ GY VY MV cY qW SD:ti),Il w0 bw n mm ff N w'->bj prog Post (G ((base 7).at {tmps:=(List.toArray ((.slice lp len cap)::(.int .i64 mo)::(u2)::(u3)::(.bool gi)::(.pointer (yi ⟨bw,0,Ai⟩))::(.bool ji)::(.int .i64 ((i+1:Nat):Int))::(u8)::(u9)::(Py)::(pz)::(wx)::(Kx)::(tw)::(vw)::(u16)::(Aw)::(zw)::(uw)::(xw)::(qx)::(vv)::(u23)::(yv)::(Nv)::(ku)::(qu)::(lu)::(nu)::(dw)::(Wv)::(u32)::(Xv)::(gw)::(px)::(u36)::(aC)::(u38)::(dD)::(yY)::(YW)::(EZ)::(uY)::(bZ)::(u45)::(qX)::(gZ)::(CZ)::(FY)::(uZ)::(xX)::(jZ)::(jY)::(aY)::(VX)::(OZ)::(DW)::(LZ)::(SZ)::(NY)::(u61)::(EY)::(zY)::(u64)::(qZ)::(KY)::(lZ)::(tZ)::(QY)::(CX)::(SV)::(gW)::(JW)::(rX)::(AY)::(nZ)::(mY)::(MX)::(oZ)::(GX)::(fZ)::(jW)::(eX)::(nY)::(fY)::(jX)::(OW)::(tW)::(vZ)::(mX)::(RY)::(vW)::(m_)::(QZ)::(GY)::(VY)::(MV)::(cY)::(qW)::(SD)::[])),defers:=[]} [.code Kz,.inLoop Kz,.inBlock 0,.code pM]) cs) w'):
  bj prog Post (G ((base 7).at {tmps:=(List.toArray ((.slice lp len cap)::(.int .i64 mo)::(u2)::(u3)::(.bool gi)::(.pointer (yi ⟨bw,0,Ai⟩))::(.bool ji)::(.int .i64 i)::(u8)::(u9)::(Py)::(pz)::(wx)::(Kx)::(tw)::(vw)::(u16)::(Aw)::(zw)::(uw)::(xw)::(qx)::(vv)::(u23)::(yv)::(Nv)::(ku)::(qu)::(lu)::(nu)::(dw)::(Wv)::(u32)::(Xv)::(gw)::(px)::(u36)::(aC)::(u38)::(dD)::(yY)::(YW)::(EZ)::(uY)::(bZ)::(u45)::(qX)::(gZ)::(CZ)::(FY)::(uZ)::(xX)::(jZ)::(jY)::(aY)::(VX)::(OZ)::(DW)::(LZ)::(SZ)::(NY)::(u61)::(EY)::(zY)::(u64)::(qZ)::(KY)::(lZ)::(tZ)::(QY)::(CX)::(SV)::(gW)::(JW)::(rX)::(AY)::(nZ)::(mY)::(MX)::(oZ)::(GX)::(fZ)::(jW)::(eX)::(nY)::(fY)::(jX)::(OW)::(tW)::(vZ)::(mX)::(RY)::(vW)::(m_)::(QZ)::(GY)::(VY)::(MV)::(cY)::(qW)::(SD)::[])),defers:=[]} [.code U10,.inBlock 1,.code y70,.inLoop Kz,.inBlock 0,.code pM]) cs) w:=by
 have hk:(base 7).kind≠.early:=E1;have hwr:IntKind.i64.wrap ((i:Int)+1)=((i+1:Nat):Int):=by rw[IntKind.wrap_i64];omega
 refine vb ?_;have hF:=Is.self w;refine V8 ?_;refine Ff ?_;refine R9 ?_;refine .stop rfl fun w4 hR=>?_;obtain⟨d4,rfl⟩:=hF.rely hR;clear hF hR;refine bj.call rfl I0 hk (fun d=>?zx) (fun d=>?LL) ((hI.is (w':=w.at d4) ⟨d4,rfl⟩).VT hN) (fun v wS hv=>?_)
 case zx=>kernel_rfl
 case LL=>
  exact Xc
 obtain⟨rfl,hIs⟩:=hv;refine vb ?_;have hF:=Is.self wS;refine W9 ?_;obtain⟨d5,rfl⟩:=hIs;replace hF:Is w ((w.at d4).at d5):=⟨d5,rfl⟩;refine X8 ?_;refine V8 ?_;refine Ff ?_;iterate 5 (refine .pj Di rfl I0 hk ?_;try walk_nrm)
 refine V8 ?_;refine Ed ?_;refine R9 ?_;refine V8 ?_;refine Ci.inLoop Di ?_;refine .stop rfl fun w9 hR=>?_;have hI9:=hI.is (hF.rely hR);exact Fq _ _ _ _ _ _ _ _ _ _ _ _ _ _ _ _ _ _ _ _ _ _ _ _ _ _ _ _ _ _ _ _ _ _ _ _ _ _ _ _ _ _ _ _ _ _ _ _ _ _ _ _ _ _ _ _ _ _ _ _ _ _ _ _ _ _ _ _ _ _ _ _ _ _ _ _ _ _ _ _ _ _ _ _ _ _ _ _ _ _ _ _ _ _ _ _ hI9
theorem ES{Post:Goroutine->ui->Prop}{w0:ui}{bw:Nat}{lp:Option Addr}{len cap:Nat}{mo:Int}{o:Nat->uE}(hmo:Ua0 mo)(hs:ScR w0 lp len o)(hlen:len<=1048576)(cs:List Frame)
  (hp:∀(a:Act)(todo:List Item)(v:ti)(w':ui),a.defers=[]->(∀d,(results Tryz.f7 a.tmps).run prog (w'.at d)=.ok v (w'.at d))->(v=.bool ji/\ak (fun b=>w0.heap.size<=b) w0 w')->bj prog Post (G {(base 7).at a todo with mode:=.returning} cs) w'):
  ∀(rem i n:Nat)(w:ui)(u2 u3 u8 u9 Py pz wx Kx tw vw u16 Aw zw uw xw qx vv u23 yv Nv ku qu lu nu dw Wv u32 Xv gw px u36 aC u38 dD yY YW EZ uY bZ u45 qX gZ CZ FY uZ xX jZ jY aY VX OZ DW LZ SZ NY u61 EY zY u64 qZ KY lZ tZ QY CX SV gW JW rX AY nZ mY MX oZ GX fZ jW eX nY fY jX OW tW vZ mX RY vW m_ QZ GY VY MV cY qW SD:ti),i+rem=len->1<=n->n<=i+1->Il w0 bw n (i*206) i (i*4) w->
   bj prog Post (G ((base 7).at {tmps:=(List.toArray ((.slice lp len cap)::(.int .i64 mo)::(u2)::(u3)::(.bool gi)::(.pointer (yi ⟨bw,0,Ai⟩))::(.bool ji)::(.int .i64 i)::(u8)::(u9)::(Py)::(pz)::(wx)::(Kx)::(tw)::(vw)::(u16)::(Aw)::(zw)::(uw)::(xw)::(qx)::(vv)::(u23)::(yv)::(Nv)::(ku)::(qu)::(lu)::(nu)::(dw)::(Wv)::(u32)::(Xv)::(gw)::(px)::(u36)::(aC)::(u38)::(dD)::(yY)::(YW)::(EZ)::(uY)::(bZ)::(u45)::(qX)::(gZ)::(CZ)::(FY)::(uZ)::(xX)::(jZ)::(jY)::(aY)::(VX)::(OZ)::(DW)::(LZ)::(SZ)::(NY)::(u61)::(EY)::(zY)::(u64)::(qZ)::(KY)::(lZ)::(tZ)::(QY)::(CX)::(SV)::(gW)::(JW)::(rX)::(AY)::(nZ)::(mY)::(MX)::(oZ)::(GX)::(fZ)::(jW)::(eX)::(nY)::(fY)::(jX)::(OW)::(tW)::(vZ)::(mX)::(RY)::(vW)::(m_)::(QZ)::(GY)::(VY)::(MV)::(cY)::(qW)::(SD)::[])),defers:=[]} [.code Kz,.inLoop Kz,.inBlock 0,.code pM]) cs) w:=by
 have hk:(base 7).kind≠.early:=E1;intro rem;induction rem with
 |zero=>
  intro i n w u2 u3 u8 u9 Py pz wx Kx tw vw u16 Aw zw uw xw qx vv u23 yv Nv ku qu lu nu dw Wv u32 Xv gw px u36 aC u38 dD yY YW EZ uY bZ u45 qX gZ CZ FY uZ xX jZ jY aY VX OZ DW LZ SZ NY u61 EY zY u64 qZ KY lZ tZ QY CX SV gW JW rX AY nZ mY MX oZ GX fZ jW eX nY fY jX OW tW vZ mX RY vW m_ QZ GY VY MV cY qW SD hi KA hn2 hI;obtain rfl:i=len:=E0;refine vb ?_;have hF:=Is.self w;refine V8 ?_;refine .Gi Di [0,1,2,3,4,5,6] I0 ?_;iterate 5 (refine .pj Di rfl I0 hk ?_;try walk_nrm)
  refine Ci.unwanted Di rfl (by first|rfl|simp[Region.wanted,yielded]) ?_;refine X8 ?_;refine V8 ?_;refine Ci.xk Di G2 ?_;refine Ci.exit Di I0 ?_;refine V8 ?_;refine .Gi Di [0,1] I0 ?_;refine X9 ?_;refine V8 ?_;have eO:ak (fun b=>w0.heap.size<=b) w0 w:=by
   obtain⟨_,_,_,_,_,_,_,_,_,h,_⟩:=hI;exact h.ph
  refine .stop rfl fun w9 hR=>?_;obtain⟨d9,rfl⟩:=hF.rely hR;clear hF hR;refine bj.ret fun todo=>?_;exact hp _ _ _ _ rfl (fun d=>(resultsC_tmp (t:=4) I0 _ _).1) ⟨rfl,eO.os,eO.tape,eO.output,eO.size,eO.block⟩
 |succ rem ih=>
  intro i n w u2 u3 u8 u9 Py pz wx Kx tw vw u16 Aw zw uw xw qx vv u23 yv Nv ku qu lu nu dw Wv u32 Xv gw px u36 aC u38 dD yY YW EZ uY bZ u45 qX gZ CZ FY uZ xX jZ jY aY VX OZ DW LZ SZ NY u61 EY zY u64 qZ KY lZ tZ QY CX SV gW JW rX AY nZ mY MX oZ GX fZ jW eX nY fY jX OW tW vZ mX RY vW m_ QZ GY VY MV cY qW SD hi KA hn2 hI;have Wi:i<len:=E0;have FC:(i:Int)<(len:Int):=E0;have tail:∀(n2 mm ff N:Nat)(w2:ui)(u2 u3 u8 u9 Py pz wx Kx tw vw u16 Aw zw uw xw qx vv u23 yv Nv ku qu lu nu dw Wv u32 Xv gw px u36 aC u38 dD yY YW EZ uY bZ u45 qX gZ CZ FY uZ xX jZ jY aY VX OZ DW LZ SZ NY u61 EY zY u64 qZ KY lZ tZ QY CX SV gW JW rX AY nZ mY MX oZ GX fZ jW eX nY fY jX OW tW vZ mX RY vW m_ QZ GY VY MV cY qW SD:ti),1<=n2->n2<=i+2->mm<=(i+1)*206->ff<=i+1->N<=(i+1)*4->Il w0 bw n2 mm ff N w2->bj prog Post (G ((base 7).at {tmps:=(List.toArray ((.slice lp len cap)::(.int .i64 mo)::(u2)::(u3)::(.bool gi)::(.pointer (yi ⟨bw,0,Ai⟩))::(.bool ji)::(.int .i64 i)::(u8)::(u9)::(Py)::(pz)::(wx)::(Kx)::(tw)::(vw)::(u16)::(Aw)::(zw)::(uw)::(xw)::(qx)::(vv)::(u23)::(yv)::(Nv)::(ku)::(qu)::(lu)::(nu)::(dw)::(Wv)::(u32)::(Xv)::(gw)::(px)::(u36)::(aC)::(u38)::(dD)::(yY)::(YW)::(EZ)::(uY)::(bZ)::(u45)::(qX)::(gZ)::(CZ)::(FY)::(uZ)::(xX)::(jZ)::(jY)::(aY)::(VX)::(OZ)::(DW)::(LZ)::(SZ)::(NY)::(u61)::(EY)::(zY)::(u64)::(qZ)::(KY)::(lZ)::(tZ)::(QY)::(CX)::(SV)::(gW)::(JW)::(rX)::(AY)::(nZ)::(mY)::(MX)::(oZ)::(GX)::(fZ)::(jW)::(eX)::(nY)::(fY)::(jX)::(OW)::(tW)::(vZ)::(mX)::(RY)::(vW)::(m_)::(QZ)::(GY)::(VY)::(MV)::(cY)::(qW)::(SD)::[])),defers:=[]} [.code U10,.inBlock 1,.code y70,.inLoop Kz,.inBlock 0,.code pM]) cs) w2:=fun n2 mm ff N w2 u2 u3 u8 u9 Py pz wx Kx tw vw u16 Aw zw uw xw qx vv u23 yv Nv ku qu lu nu dw Wv u32 Xv gw px u36 aC u38 dD yY YW EZ uY bZ u45 qX gZ CZ FY uZ xX jZ jY aY VX OZ DW LZ SZ NY u61 EY zY u64 qZ KY lZ tZ QY CX SV gW JW rX AY nZ mY MX oZ GX fZ jW eX nY fY jX OW tW vZ mX RY vW m_ QZ GY VY MV cY qW SD h1 h2 h3 h4 h5 h6=>oS cs i n2 mm ff N w2 u2 u3 u8 u9 Py pz wx Kx tw vw u16 Aw zw uw xw qx vv u23 yv Nv ku qu lu nu dw Wv u32 Xv gw px u36 aC u38 dD yY YW EZ uY bZ u45 qX gZ CZ FY uZ xX jZ jY aY VX OZ DW LZ SZ NY u61 EY zY u64 qZ KY lZ tZ QY CX SV gW JW rX AY nZ mY MX oZ GX fZ jW eX nY fY jX OW tW vZ mX RY vW m_ QZ GY VY MV cY qW SD E0 E0 h6 fun w' u2 u3 u8 u9 Py pz wx Kx tw vw u16 Aw zw uw xw qx vv u23 yv Nv ku qu lu nu dw Wv u32 Xv gw px u36 aC u38 dD yY YW EZ uY bZ u45 qX gZ CZ FY uZ xX jZ jY aY VX OZ DW LZ SZ NY u61 EY zY u64 qZ KY lZ tZ QY CX SV gW JW rX AY nZ mY MX oZ GX fZ jW eX nY fY jX OW tW vZ mX RY vW m_ QZ GY VY MV cY qW SD h=>ih (i+1) n2 w' u2 u3 u8 u9 Py pz wx Kx tw vw u16 Aw zw uw xw qx vv u23 yv Nv ku qu lu nu dw Wv u32 Xv gw px u36 aC u38 dD yY YW EZ uY bZ u45 qX gZ CZ FY uZ xX jZ jY aY VX OZ DW LZ SZ NY u61 EY zY u64 qZ KY lZ tZ QY CX SV gW JW rX AY nZ mY MX oZ GX fZ jW eX nY fY jX OW tW vZ mX RY vW m_ QZ GY VY MV cY qW SD E0 h1 E0 (h.le h3 h4 h5);clear ih hp;obtain⟨lb,lo,rfl,hlb,hc⟩:=hs.at hI Wi;have gl:=hs.ok i Wi;generalize o i=p at hc gl;have c0:w.cell? ⟨lb,lo+i*8,Ai⟩=yi (.int .i64 p.kd):=hc 0 E0;have c1:w.cell? ⟨lb,lo+i*8+1,Ai⟩=yi (.int .i64 p.at_):=hc 1 E0;have c2:w.cell? ⟨lb,lo+i*8+2,Ai⟩=yi (.int .i64 p.q):=hc 2 E0;have c3:w.cell? ⟨lb,lo+i*8+3,Ai⟩=yi (.slice (p.p 0) (p.l 0) (p.c 0)):=hc 3 E0;have c4:w.cell? ⟨lb,lo+i*8+4,Ai⟩=yi (.slice (p.p 1) (p.l 1) (p.c 1)):=hc 4 E0;have c5:w.cell? ⟨lb,lo+i*8+5,Ai⟩=yi (.slice (p.p 2) (p.l 2) (p.c 2)):=hc 5 E0;have c6:w.cell? ⟨lb,lo+i*8+6,Ai⟩=yi (.slice (p.p 3) (p.l 3) (p.c 3)):=hc 6 E0;have c7:w.cell? ⟨lb,lo+i*8+7,Ai⟩=yi (.slice (p.p 4) (p.l 4) (p.c 4)):=hc 7 E0;clear hc;refine vb ?_;have hF:=Is.self w;refine V8 ?_;refine .Gi Di [0,1,2,3,4,5,6] I0 ?_;iterate 7 (refine .pj Di rfl I0 hk ?_;try walk_nrm)
  refine V8 ?_;refine Ci.zk Di G2 ?_;refine V8 ?_;refine .Gi Di [0,1,2,3,4,5] I0 ?_;refine X9 ?_;refine K8 fun w1 K hK hF=>?_;refine I8 ?_ ?_
  ·exact L9
  clear hK K;refine W9 ?_;refine K8 fun w1 K hK hF=>?_;have k0:=(hF.cell _).trans c0;have k1:=(hF.cell _).trans c1;have k2:=(hF.cell _).trans c2;have k3:=(hF.cell _).trans c3;have k4:=(hF.cell _).trans c4;have k5:=(hF.cell _).trans c5;have k6:=(hF.cell _).trans c6;have k7:=(hF.cell _).trans c7;refine I8 ?_ ?_
  ·exact L9
  clear hK K;refine W9 ?_;refine K8 fun w1 K hK hF=>?_;refine I8 ?_ ?_
  ·exact L9
  clear hK K;obtain⟨d1,rfl⟩:=hF;have JK:Below w.heap.size w ((w.at d1).alloc (.cells #[.int .i64 0,.int .i64 0,.int .i64 0,.slice Ai 0 0,.slice Ai 0 0,.slice Ai 0 0,.slice Ai 0 0,.slice Ai 0 0] 31)):=have q:=(Below.refl w.heap.size (w.at d1)).alloc (Nat.le_refl _) _;⟨q.os,q.tape,q.output,q.size,q.block⟩;have Gy:Ei ((w.at d1).alloc (.cells #[.int .i64 0,.int .i64 0,.int .i64 0,.slice Ai 0 0,.slice Ai 0 0,.slice Ai 0 0,.slice Ai 0 0,.slice Ai 0 0] 31)) w.heap.size 8 31 (cells8 (.int .i64 0) (.int .i64 0) (.int .i64 0) (.slice Ai 0 0) (.slice Ai 0 0) (.slice Ai 0 0) (.slice Ai 0 0) (.slice Ai 0 0)):=Ei.new (w.at d1) _ _ _ (fun j hj=>by
   have Vs:j<8:=hj;have:j=0\/j=1\/j=2\/j=3\/j=4\/j=5\/j=6\/j=7:=E0;rcases this with rfl|rfl|rfl|rfl|rfl|rfl|rfl|rfl<;>rfl)
  rw[show (w.at d1).heap.size=w.heap.size from rfl];generalize hWB:(w.at d1).alloc (.cells #[.int .i64 0,.int .i64 0,.int .i64 0,.slice Ai 0 0,.slice Ai 0 0,.slice Ai 0 0,.slice Ai 0 0,.slice Ai 0 0] 31)=wB at *;clear hWB;have hF:=Is.self wB;refine W9 ?_;refine K8 fun w1 K hK hF=>?_;have g0:=(hF.frozen ⟨w.heap.size,0,Ai⟩).trans (Gy.frozen 0);have k0:=(hF.cell ⟨w.heap.size,0,Ai⟩).trans (Gy.cell (j:=0) E0);have g1:=(hF.frozen ⟨w.heap.size,1,Ai⟩).trans (Gy.frozen 1);have k1:=(hF.cell ⟨w.heap.size,1,Ai⟩).trans (Gy.cell (j:=1) E0);have g2:=(hF.frozen ⟨w.heap.size,2,Ai⟩).trans (Gy.frozen 2);have k2:=(hF.cell ⟨w.heap.size,2,Ai⟩).trans (Gy.cell (j:=2) E0);have g3:=(hF.frozen ⟨w.heap.size,3,Ai⟩).trans (Gy.frozen 3);have k3:=(hF.cell ⟨w.heap.size,3,Ai⟩).trans (Gy.cell (j:=3) E0);have g4:=(hF.frozen ⟨w.heap.size,4,Ai⟩).trans (Gy.frozen 4);have k4:=(hF.cell ⟨w.heap.size,4,Ai⟩).trans (Gy.cell (j:=4) E0);have g5:=(hF.frozen ⟨w.heap.size,5,Ai⟩).trans (Gy.frozen 5);have k5:=(hF.cell ⟨w.heap.size,5,Ai⟩).trans (Gy.cell (j:=5) E0);have g6:=(hF.frozen ⟨w.heap.size,6,Ai⟩).trans (Gy.frozen 6);have k6:=(hF.cell ⟨w.heap.size,6,Ai⟩).trans (Gy.cell (j:=6) E0);have g7:=(hF.frozen ⟨w.heap.size,7,Ai⟩).trans (Gy.frozen 7);have k7:=(hF.cell ⟨w.heap.size,7,Ai⟩).trans (Gy.cell (j:=7) E0);refine I8 ?_ ?_
  ·exact L9
  clear hK K;clear g0 k0 g1 k1 g2 k2 g3 k3 g4 k4 g5 k5 g6 k6 g7 k7;obtain⟨d2,rfl⟩:=hF;have hRb:Ei (wB.at d2) w.heap.size 8 31 _:=Gy;have hBb:Below w.heap.size w (wB.at d2):=⟨JK.os,JK.tape,JK.output,JK.size,JK.block⟩;have hRO:Ei (((((((((wB.at d2).setCell ⟨w.heap.size,0,Ai⟩ (.int .i64 p.kd)).setCell ⟨w.heap.size,1,Ai⟩ (.int .i64 p.at_)).setCell ⟨w.heap.size,2,Ai⟩ (.int .i64 p.q)).setCell ⟨w.heap.size,3,Ai⟩ (.slice (p.p 0) (p.l 0) (p.c 0))).setCell ⟨w.heap.size,4,Ai⟩ (.slice (p.p 1) (p.l 1) (p.c 1))).setCell ⟨w.heap.size,5,Ai⟩ (.slice (p.p 2) (p.l 2) (p.c 2))).setCell ⟨w.heap.size,6,Ai⟩ (.slice (p.p 3) (p.l 3) (p.c 3))).setCell ⟨w.heap.size,7,Ai⟩ (.slice (p.p 4) (p.l 4) (p.c 4))) w.heap.size 8 31 p.cell:=(((((((((hRb.set 0 _).set 1 _).set 2 _).set 3 _).set 4 _).set 5 _).set 6 _).set 7 _).congr fun j hj=>by
   have:j=0\/j=1\/j=2\/j=3\/j=4\/j=5\/j=6\/j=7:=E0;rcases this with rfl|rfl|rfl|rfl|rfl|rfl|rfl|rfl<;>rfl)
  have hBO:Below w.heap.size w (((((((((wB.at d2).setCell ⟨w.heap.size,0,Ai⟩ (.int .i64 p.kd)).setCell ⟨w.heap.size,1,Ai⟩ (.int .i64 p.at_)).setCell ⟨w.heap.size,2,Ai⟩ (.int .i64 p.q)).setCell ⟨w.heap.size,3,Ai⟩ (.slice (p.p 0) (p.l 0) (p.c 0))).setCell ⟨w.heap.size,4,Ai⟩ (.slice (p.p 1) (p.l 1) (p.c 1))).setCell ⟨w.heap.size,5,Ai⟩ (.slice (p.p 2) (p.l 2) (p.c 2))).setCell ⟨w.heap.size,6,Ai⟩ (.slice (p.p 3) (p.l 3) (p.c 3))).setCell ⟨w.heap.size,7,Ai⟩ (.slice (p.p 4) (p.l 4) (p.c 4))):=(((((((hBb.setCell (Nat.le_refl _) _).setCell (Nat.le_refl _) _).setCell (Nat.le_refl _) _).setCell (Nat.le_refl _) _).setCell (Nat.le_refl _) _).setCell (Nat.le_refl _) _).setCell (Nat.le_refl _) _).setCell (Nat.le_refl _) _;have hIO:=hI.below hBO;generalize (((((((((wB.at d2).setCell ⟨w.heap.size,0,Ai⟩ (.int .i64 p.kd)).setCell ⟨w.heap.size,1,Ai⟩ (.int .i64 p.at_)).setCell ⟨w.heap.size,2,Ai⟩ (.int .i64 p.q)).setCell ⟨w.heap.size,3,Ai⟩ (.slice (p.p 0) (p.l 0) (p.c 0))).setCell ⟨w.heap.size,4,Ai⟩ (.slice (p.p 1) (p.l 1) (p.c 1))).setCell ⟨w.heap.size,5,Ai⟩ (.slice (p.p 2) (p.l 2) (p.c 2))).setCell ⟨w.heap.size,6,Ai⟩ (.slice (p.p 3) (p.l 3) (p.c 3))).setCell ⟨w.heap.size,7,Ai⟩ (.slice (p.p 4) (p.l 4) (p.c 4)))=wO at *;clear hRb hBb Gy JK hBO hI c0 c1 c2 c3 c4 c5 c6 c7;have o0:wO.cell? ⟨w.heap.size,0,Ai⟩=yi (.int .i64 p.kd):=hRO.cell (j:=0) E0;have o1:wO.cell? ⟨w.heap.size,1,Ai⟩=yi (.int .i64 p.at_):=hRO.cell (j:=1) E0;have o2:wO.cell? ⟨w.heap.size,2,Ai⟩=yi (.int .i64 p.q):=hRO.cell (j:=2) E0;have o3:wO.cell? ⟨w.heap.size,3,Ai⟩=yi (.slice (p.p 0) (p.l 0) (p.c 0)):=hRO.cell (j:=3) E0;have o4:wO.cell? ⟨w.heap.size,4,Ai⟩=yi (.slice (p.p 1) (p.l 1) (p.c 1)):=hRO.cell (j:=4) E0;have o5:wO.cell? ⟨w.heap.size,5,Ai⟩=yi (.slice (p.p 2) (p.l 2) (p.c 2)):=hRO.cell (j:=5) E0;have o6:wO.cell? ⟨w.heap.size,6,Ai⟩=yi (.slice (p.p 3) (p.l 3) (p.c 3)):=hRO.cell (j:=6) E0;have o7:wO.cell? ⟨w.heap.size,7,Ai⟩=yi (.slice (p.p 4) (p.l 4) (p.c 4)):=hRO.cell (j:=7) E0;generalize w.heap.size=b8 at *;clear hRO;have hF:=Is.self wO;refine W9 ?_;refine V8 ?_;refine Qe ?_;refine X8 ?_;refine K8 fun w1 K hK hF=>?_;have e0:=(hF.cell ⟨b8,0,Ai⟩).trans o0;refine I8 ?_ ?_
  ·exact L9
  clear hK K;clear e0;refine W9 ?_;refine X9 ?_;refine V8 ?_;by_cases h1:p.kd=1
  ·skip;refine Ci.zk Di (by first|rfl|simp[Act.eval,h1]) ?_;obtain⟨qL,hcw⟩:=gl.cfg h1;refine V8 ?_;refine Ff ?_;refine X9 ?_;refine K8 fun w1 K hK hF=>?_;have e3:=(hF.cell ⟨b8,3,Ai⟩).trans o3;have e4:=(hF.cell ⟨b8,4,Ai⟩).trans o4;have e5:=(hF.cell ⟨b8,5,Ai⟩).trans o5;have e6:=(hF.cell ⟨b8,6,Ai⟩).trans o6;refine I8 ?_ ?_
   ·exact L9
   clear hK K;clear e3 e4 e5 e6;refine W9 ?_;refine .stop rfl fun w4 hR=>?_;obtain⟨d4,rfl⟩:=hF.rely hR;clear hF hR;refine bj.call rfl I0 hk (fun d=>?zx) (fun d=>?LL) ((hIO.is (w':=wO.at d4) ⟨d4,rfl⟩).DU (c:=p.cf) qL hcw E0) (fun v wM hv=>?_)
   case zx=>kernel_rfl
   case LL=>
    exact Xc
   obtain⟨rfl,n',hn3,hn4,hM⟩:=hv;refine vb ?_;have hF:=Is.self wM;refine W9 ?_;refine X8 ?_;iterate 2 refine .c1 Di rfl ?_
   refine .stop rfl fun w9 hR=>?_;exact tail n' (i*206) (i) (i*4) w9 _ _ _ _ _ _ _ _ _ _ _ _ _ _ _ _ _ _ _ _ _ _ _ _ _ _ _ _ _ _ _ _ _ _ _ _ _ _ _ _ _ _ _ _ _ _ _ _ _ _ _ _ _ _ _ _ _ _ _ _ _ _ _ _ _ _ _ _ _ _ _ _ _ _ _ _ _ _ _ _ _ _ _ _ _ _ _ _ _ _ _ _ _ _ _ E0 E0 E0 E0 E0 (hM.is (hF.rely hR))
  ·skip;refine Ci.xk Di (by first|rfl|simp[Act.eval,h1]) ?_;refine V8 ?_;refine .Gi Di [0,1,2,3,4,5,6,7,8,9] I0 ?_;refine X8 ?_;refine K8 fun w1 K hK hF=>?_;have e0:=(hF.cell ⟨b8,0,Ai⟩).trans o0;refine I8 ?_ ?_
   ·exact L9
   clear hK K;clear e0;refine W9 ?_;by_cases h2:p.kd<1
   ·skip;refine X9 ?_;iterate 4 (refine Ci.unwanted Di rfl (by first|rfl|simp[Region.wanted,yielded]) ?_;try walk_nrm)
    refine X9 ?_;refine V8 ?_;exact Ha
   ·skip;refine R9 ?_;refine K8 fun w1 K hK hF=>?_;have e0:=(hF.cell ⟨b8,0,Ai⟩).trans o0;refine I8 ?_ ?_
    ·exact L9
    clear hK K;clear e0;refine W9 ?_;refine X8 ?_;by_cases h3:mo<p.kd
    ·skip;refine R9 ?_;refine V8 ?_;exact Ha
    ·skip;refine R9 ?_;refine V8 ?_;refine Ci.xk Di G2 ?_;refine V8 ?_;obtain⟨gk,ck,gr,cr,K,Kb,kc0,kc1,kcc,Dy,cZ⟩:=hIO.Va0 E0 hmo E0 E0 E0;refine Ci.uC (S:=Is wO) Di uD 7 U0 W3 W3 [7,8] I0 hk J0 ((Au _ _).trans t6) fun w1 hR=>?_;replace hF:=(hF.rely hR).drew;clear hR;refine Ii Di 0 (fun _ _ h r=>Is.rely h r) hF ?_;refine W9 ?_;refine aj Di 1 rfl (fun _ _ h r=>Is.rely h r) hF ?_ fun _ hw=>⟨run_eq_of (by
      intro K hK;have e1:=(hw.cell ⟨b8,1,Ai⟩).trans o1;go_simp;exact hK),by
      have e1:=(hw.cell ⟨b8,1,Ai⟩).trans o1;exact Lj plain (Vi plain func7 J0 _) J0 _⟩
     refine W9 ?_;refine Ii Di 2 (fun _ _ h r=>Is.rely h r) hF ?_;refine W9 ?_;refine Ii Di 3 (fun _ _ h r=>Is.rely h r) hF ?_;refine W9 ?_;refine Ii Di 4 (fun _ _ h r=>Is.rely h r) hF ?_;refine W9 ?_;refine aj Di 5 rfl (fun _ _ h r=>Is.rely h r) hF ?_ fun _ hw=>⟨run_eq_of (by
      intro K hK;have hc:=(hw.cell _).trans kc0;go_simp;exact hK),by
      have hc:=(hw.cell _).trans kc0;exact Lj plain (Vi plain func7 J0 _) J0 _⟩
     refine W9 ?_;refine Ii Di 6 (fun _ _ h r=>Is.rely h r) hF ?_;refine H9 ?_;refine .stop rfl fun w4 hR=>?_;obtain⟨d4,rfl⟩:=hF.rely hR;clear hF hR;refine bj.call rfl I0 hk (fun d=>?mB) (fun d=>?E10) (Nc0 p.at_ n (wO.at d4) E0 E0 gl.lo gl.hi) (fun v wP hv=>?_)
     case mB=>kernel_rfl
     case E10=>
      exact Xc
     obtain⟨rfl,hIs⟩:=hv;refine vb ?_;have hF:=Is.self wP;refine W9 ?_;obtain⟨d5,rfl⟩:=hIs;replace hF:Is wO ((wO.at d4).at d5):=⟨d5,rfl⟩;have hj:du p.at_ n<n:=QW p.at_ E0;have Yq:((du p.at_ n:Nat):Int)<(n:Int):=E0;generalize du p.at_ n=j at *;obtain⟨kcK,kcR⟩:=kcc j hj;refine X8 ?_;refine V8 ?_;refine Ed ?_;refine X8 ?_;refine K8 fun w1 K hK hF=>?_;have e0:=(hF.cell ⟨b8,0,Ai⟩).trans o0;refine I8 ?_ ?_
     ·exact L9
     clear hK K;clear e0;refine W9 ?_;refine X8 ?_;refine V8 ?_;by_cases h4:p.kd=2
     ·skip;refine Ci.zk Di (by first|rfl|simp[Act.eval,h4]) ?_;refine He fun w1 hF=>?_;refine W9 ?_;refine Ii Di 1 (fun _ _ h r=>Is.rely h r) hF ?_;refine W9 ?_;refine Ii Di 2 (fun _ _ h r=>Is.rely h r) hF ?_;refine W9 ?_;refine aj Di 3 rfl (fun _ _ h r=>Is.rely h r) hF ?_ fun _ hw=>⟨run_eq_of (by
       intro K hK;have hc:=(hw.cell _).trans kc0;go_simp;exact hK),by
       have hc:=(hw.cell _).trans kc0;exact Lj plain (Vi plain func7 J0 _) J0 _⟩
      refine W9 ?_;refine Ii Di 4 (fun _ _ h r=>Is.rely h r) hF ?_;refine W9 ?_;refine aj Di 5 rfl (fun _ _ h r=>Is.rely h r) hF ?_ fun _ hw=>⟨run_eq_of (by
       intro K hK;go_simp;exact hK),by
       exact Lj plain (Vi plain func7 J0 _) J0 _⟩
      refine W9 ?_;refine aj Di 6 rfl (fun _ _ h r=>Is.rely h r) hF ?_ fun _ hw=>⟨run_eq_of (by
       intro K hK;have hc:=(hw.cell _).trans kcK;go_simp;exact hK),by
       have hc:=(hw.cell _).trans kcK;exact Lj plain (Vi plain func7 J0 _) J0 _⟩
      refine W9 ?_;refine Ii Di 7 (fun _ _ h r=>Is.rely h r) hF ?_;refine W9 ?_;refine Ii Di 8 (fun _ _ h r=>Is.rely h r) hF ?_;refine W9 ?_;refine Ii Di 9 (fun _ _ h r=>Is.rely h r) hF ?_;refine W9 ?_;refine aj Di 10 rfl (fun _ _ h r=>Is.rely h r) hF ?_ fun _ hw=>⟨run_eq_of (by
       intro K hK;have hc:=(hw.cell _).trans kc1;go_simp;exact hK),by
       have hc:=(hw.cell _).trans kc1;exact Lj plain (Vi plain func7 J0 _) J0 _⟩
      refine W9 ?_;refine Ii Di 11 (fun _ _ h r=>Is.rely h r) hF ?_;refine W9 ?_;refine aj Di 12 rfl (fun _ _ h r=>Is.rely h r) hF ?_ fun _ hw=>⟨run_eq_of (by
       intro K hK;go_simp;exact hK),by
       exact Lj plain (Vi plain func7 J0 _) J0 _⟩
      refine W9 ?_;refine aj Di 13 rfl (fun _ _ h r=>Is.rely h r) hF ?_ fun _ hw=>⟨run_eq_of (by
       intro K hK;have hc:=(hw.cell _).trans kcR;go_simp;exact hK),by
       have hc:=(hw.cell _).trans kcR;exact Lj plain (Vi plain func7 J0 _) J0 _⟩
      refine W9 ?_;refine Ii Di 14 (fun _ _ h r=>Is.rely h r) hF ?_;refine W9 ?_;refine aj Di 15 rfl (fun _ _ h r=>Is.rely h r) hF ?_ fun _ hw=>⟨run_eq_of (by
       intro K hK;have e7:=(hw.cell ⟨b8,7,Ai⟩).trans o7;go_simp;exact hK),by
       have e7:=(hw.cell ⟨b8,7,Ai⟩).trans o7;exact Lj plain (Vi plain func7 J0 _) J0 _⟩
      refine H9 ?_;refine .stop rfl fun w4 hR=>?_;obtain⟨d4,rfl⟩:=hF.rely hR;clear hF hR;refine bj.call rfl I0 hk (fun d=>?wE) (fun d=>?Da0) (Dy d4 j (p.p 4) (p.l 4) (p.c 4) p.zi hj (gl.ins wO fun b hb=>hIO.old hb) gl.inp gl.inb) (fun v wF hv=>?_)
      case wE=>kernel_rfl
      case Da0=>
       exact Xc
      obtain⟨rfl,hM⟩:=hv;refine vb ?_;have hF:=Is.self wF;refine W9 ?_;refine X8 ?_;iterate 2 refine .c1 Di rfl ?_
      refine .stop rfl fun w9 hR=>?_;exact tail n (i*206+206) (i+1) (i*4) w9 _ _ _ _ _ _ _ _ _ _ _ _ _ _ _ _ _ _ _ _ _ _ _ _ _ _ _ _ _ _ _ _ _ _ _ _ _ _ _ _ _ _ _ _ _ _ _ _ _ _ _ _ _ _ _ _ _ _ _ _ _ _ _ _ _ _ _ _ _ _ _ _ _ _ _ _ _ _ _ _ _ _ _ _ _ _ _ _ _ _ _ _ _ _ _ E0 E0 E0 E0 E0 (hM.is (hF.rely hR))
     ·skip;refine Ci.xk Di (by first|rfl|simp[Act.eval,h4]) ?_;refine He fun w1 hF=>?_;refine W9 ?_;refine Ii Di 1 (fun _ _ h r=>Is.rely h r) hF ?_;refine W9 ?_;refine Ii Di 2 (fun _ _ h r=>Is.rely h r) hF ?_;refine W9 ?_;refine Ii Di 3 (fun _ _ h r=>Is.rely h r) hF ?_;refine W9 ?_;refine aj Di 4 rfl (fun _ _ h r=>Is.rely h r) hF ?_ fun _ hw=>⟨run_eq_of (by
       intro K hK;have hc:=(hw.cell _).trans kc0;go_simp;exact hK),by
       have hc:=(hw.cell _).trans kc0;exact Lj plain (Vi plain func7 J0 _) J0 _⟩
      refine W9 ?_;refine Ii Di 5 (fun _ _ h r=>Is.rely h r) hF ?_;refine W9 ?_;refine aj Di 6 rfl (fun _ _ h r=>Is.rely h r) hF ?_ fun _ hw=>⟨run_eq_of (by
       intro K hK;go_simp;exact hK),by
       exact Lj plain (Vi plain func7 J0 _) J0 _⟩
      refine W9 ?_;refine aj Di 7 rfl (fun _ _ h r=>Is.rely h r) hF ?_ fun _ hw=>⟨run_eq_of (by
       intro K hK;have hc:=(hw.cell _).trans kcK;go_simp;exact hK),by
       have hc:=(hw.cell _).trans kcK;exact Lj plain (Vi plain func7 J0 _) J0 _⟩
      refine W9 ?_;refine Ii Di 8 (fun _ _ h r=>Is.rely h r) hF ?_;refine W9 ?_;refine Ii Di 9 (fun _ _ h r=>Is.rely h r) hF ?_;refine W9 ?_;refine Ii Di 10 (fun _ _ h r=>Is.rely h r) hF ?_;refine W9 ?_;refine aj Di 11 rfl (fun _ _ h r=>Is.rely h r) hF ?_ fun _ hw=>⟨run_eq_of (by
       intro K hK;have hc:=(hw.cell _).trans kc1;go_simp;exact hK),by
       have hc:=(hw.cell _).trans kc1;exact Lj plain (Vi plain func7 J0 _) J0 _⟩
      refine W9 ?_;refine Ii Di 12 (fun _ _ h r=>Is.rely h r) hF ?_;refine W9 ?_;refine aj Di 13 rfl (fun _ _ h r=>Is.rely h r) hF ?_ fun _ hw=>⟨run_eq_of (by
       intro K hK;go_simp;exact hK),by
       exact Lj plain (Vi plain func7 J0 _) J0 _⟩
      refine W9 ?_;refine aj Di 14 rfl (fun _ _ h r=>Is.rely h r) hF ?_ fun _ hw=>⟨run_eq_of (by
       intro K hK;have hc:=(hw.cell _).trans kcR;go_simp;exact hK),by
       have hc:=(hw.cell _).trans kcR;exact Lj plain (Vi plain func7 J0 _) J0 _⟩
      refine W9 ?_;refine aj Di 15 rfl (fun _ _ h r=>Is.rely h r) hF ?_ fun _ hw=>⟨run_eq_of (by
       intro K hK;refine Qc fun e0 e1 e2 e3 e4 e5 e6 e7=>?_;go_simp;exact hK),by
       refine Qc fun e0 e1 e2 e3 e4 e5 e6 e7=>?_;exact Lj plain (Vi plain func7 J0 _) J0 _⟩
      refine H9 ?_;refine .stop rfl fun w4 hR=>?_;obtain⟨d4,rfl⟩:=hF.rely hR;clear hF hR;refine bj.call rfl I0 hk (fun d=>?MD) (fun d=>?t90) (cZ d4 j p.kd p.at_ p.q (p.p 0) (p.p 1) (p.p 2) (p.p 3) (p.p 4) (p.l 0) (p.l 1) (p.l 2) (p.l 3) (p.l 4) (p.c 0) (p.c 1) (p.c 2) (p.c 3) (p.c 4) hj E0) (fun v wF hv=>?_)
      case MD=>kernel_rfl
      case t90=>
       exact Xc
      obtain⟨rfl,hM⟩:=hv;refine vb ?_;have hF:=Is.self wF;refine W9 ?_;refine X8 ?_;iterate 2 refine .c1 Di rfl ?_
      refine .stop rfl fun w9 hR=>?_;exact tail n (i*206) (i) (i*4+4) w9 _ _ _ _ _ _ _ _ _ _ _ _ _ _ _ _ _ _ _ _ _ _ _ _ _ _ _ _ _ _ _ _ _ _ _ _ _ _ _ _ _ _ _ _ _ _ _ _ _ _ _ _ _ _ _ _ _ _ _ _ _ _ _ _ _ _ _ _ _ _ _ _ _ _ _ _ _ _ _ _ _ _ _ _ _ _ _ _ _ _ _ _ _ _ _ E0 E0 E0 E0 E0 (hM.is (hF.rely hR))
end Go.Proofs.YtdoghgnifkgfdaaGreat.Mute
