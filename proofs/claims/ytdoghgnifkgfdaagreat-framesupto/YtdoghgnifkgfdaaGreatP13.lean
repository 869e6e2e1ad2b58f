import Derived.Test.YtdoghgnifkgfdaaGreatP00
import Derived.Test.YtdoghgnifkgfdaaGreatP12
set_option maxRecDepth 100000
set_option maxHeartbeats 16000000
open Option renaming none->Ai,some->yi
open Go renaming World->ui,Value->ti,undef->ri
open Bool renaming true->ji,false->gi
namespace Go.Proofs.YtdoghgnifkgfdaaGreat
open Tryz Go.RowKit Go.Maps
def Kp(w w':ui):Prop:=∀(b:Nat)(cs:Array ti)(t:Nat)(fz:Nat×Nat),w.heap[b]?=yi (.cells cs t fz)->t≠100->t≠143->t≠94->w'.heap[b]?=w.heap[b]?
theorem Kp.below{w w':ui}(h:Below w.heap.size w w'):Kp w w':=fun b _ _ _ hb _ _ _=>h.block b (Array.getElem?_eq_some_iff.1 hb).1
theorem Kp.trans{a b c:ui}(h:Kp a b)(k:Kp b c):Kp a c:=fun x cs t fz hx h1 h2 h3=>by
 have e:=h x cs t fz hx h1 h2 h3;rw[k x cs t fz (e.trans hx) h1 h2 h3,e]
theorem Kp.row{w w':ui}{g m t:Nat}{f:Nat->ti}(h:Kp w w')(hr:Ei w g m t f)(h1:t≠100)(h2:t≠143)(h3:t≠94):Ei w' g m t f:=by
 obtain⟨cs,hg,_⟩:=id hr;exact hr.of_heap (h g cs t _ hg h1 h2 h3)
theorem Kp.own{w w':ui}{b e s n:Nat}{v:ti}{xs:List ti}(h:Kp w w')(ho:w.ownsRow b e s v n xs)(h1:e≠100)(h2:e≠143)(h3:e≠94):w'.ownsRow b e s v n xs:=by
 rcases ho with⟨hl,hv|⟨g,cap,cur,hv,hb,hg,hr⟩⟩
 ·exact⟨hl,.inl hv⟩
 ·exact⟨hl,.inr ⟨g,cap,cur,hv,hb,(h g _ _ _ hg h1 h2 h3).trans hg,hr⟩⟩
theorem Kp.step{wl wg:ui}{K i e s n b:Nat}{o:Obj}{v x:ti}{xs:List ti}{f:Nat->ti}(ho:wl.ownsRow b e s v n xs)(he:e=100\/e=143)(hK:Ei wl K 5 94 f)(hg:(wl.alloc o).grownBy wg v.ownBlock):Kp wl (wg.setCell ⟨K,i,Ai⟩ x):=fun y cs t fz hy h1 h2 h3=>by
 have Wi:=(Array.getElem?_eq_some_iff.1 hy).1;rw[heap_setCell_other _ _ _ _ (fun e=>by
  obtain⟨cs',hK',_⟩:=hK;have e:y=K:=e;rw[e,hK']at hy;cases hy;exact h3 rfl),hg.block y A1 (fun e'=>by
  rcases ho.2 with⟨hv,_⟩|⟨g,cap,cur,hv,_,yE,_⟩
  ·rw[hv]at e';simp[Value.ownBlock]at e'
  ·rw[hv]at e';have:y=g:=by simpa[Value.ownBlock]using e'
   rw[this,yE]at hy;cases hy;rcases he with he|he
   ·exact h1 he
   ·exact h2 he),heap_alloc_old _ _ Wi]
theorem Kp.alloc(w:ui)(o:Obj):Kp w (w.alloc o):=fun _ _ _ _ hb _ _ _=>heap_alloc_old w o (Array.getElem?_eq_some_iff.1 hb).1
def rZ(B:Nat)(c:vl)(ve vq vs:ti)(wr:ui):Prop:=wr.ownsRow B 151 2 ve c.qj (jw c.ch c.qj)/\wr.ownsRow B 156 3 vq c.qj (Zo c.qj)/\wr.ownsRow B 158 4 vs c.qj (Tm c.qj)
theorem rZ.keep{B:Nat}{c:vl}{ve vq vs:ti}{w w':ui}(h:rZ B c ve vq vs w)(k:Kp w w'):rZ B c ve vq vs w':=
 ⟨k.own h.1 U0 U0 U0,k.own h.2.1 U0 U0 U0,k.own h.2.2 U0 U0 U0⟩
def Ext(B:Nat)(c:vl)(nb:Nat)(tr:ti)(wr:ui):Prop:=
 (B<=nb/\∃ve vq vs,Ei wr nb 3 149 (cells3 ve vq vs)/\(∃p cap,ve=.slice p c.qj cap)/\(∃p cap,vq=.slice p c.qj cap)/\(∃p cap,vs=.slice p c.qj cap)/\rZ B c ve vq vs wr)/\∃T,B<=T/\tr=.slice (yi ⟨T,0,Ai⟩) c.nC c.nC/\Ei wr T c.nC 61 (fun _=>.slice Ai 0 0)
theorem Ext.keep{B:Nat}{c:vl}{nb:Nat}{tr:ti}{w w':ui}(h:Ext B c nb tr w)(k:Kp w w'):Ext B c nb tr w':=by
 obtain⟨⟨h0,ve,vq,vs,h1,h2,h2b,h2c,h2d⟩,T,h00,h3,h4⟩:=h;exact⟨⟨h0,ve,vq,vs,k.row h1 U0 U0 U0,h2,h2b,h2c,h2d.keep k⟩,T,h00,h3,k.row h4 U0 U0 U0⟩
def zt(B:Nat)(c:vl)(k:Nat)(xs:List ti)(wr:ui):Prop:=∀i,i<k->∃g cap,xs[i]?=yi (.slice (yi ⟨g,0,Ai⟩) (c.nRow i) cap)/\wr.ownsRow B 102 2 (.slice (yi ⟨g,0,Ai⟩) (c.nRow i) cap) (c.nRow i) ((List.range (c.nRow i*2)).map fun j=>.int .i64 (c.row i j))
theorem zt.keep{B:Nat}{c:vl}{k:Nat}{xs:List ti}{w w':ui}(h:zt B c k xs w)(kp:Kp w w'):zt B c k xs w':=fun i hi=>by
 obtain⟨g,cap,h1,h2⟩:=h i hi;exact⟨g,cap,h1,kp.own h2 U0 U0 U0⟩
theorem zt.step{c:vl}{B k g cap:Nat}{xs:List ti}{w:ui}(h:zt B c k xs w)(hl:xs.length=k)(ho:w.ownsRow B 102 2 (.slice (yi ⟨g,0,Ai⟩) (c.nRow k) cap) (c.nRow k) ((List.range (c.nRow k*2)).map fun j=>.int .i64 (c.row k j))):zt B c (k+1) (xs++[.slice (yi ⟨g,0,Ai⟩) (c.nRow k) cap]) w:=fun i hi=>by
 by_cases e:i<k
 ·obtain⟨g,cap,h1,h2⟩:=h i e;exact⟨g,cap,by rw[List.getElem?_append_left E0];exact h1,h2⟩
 ·obtain rfl:i=k:=by omega
  exact⟨g,cap,D8,ho⟩
def Tt(B:Nat)(c:vl)(nb k:Nat)(xs:List ti)(wr:ui):Prop:=∃kb:Nat->Nat,(∀i j,i<k->j<k->i≠j->kb i≠kb j)/\∀i,i<k->∃cv,xs[i]?=yi (.pointer (yi ⟨kb i,0,Ai⟩))/\B<=kb i/\kb i<wr.heap.size/\Ei wr (kb i) 48 186 (cellV i (.pointer (yi ⟨nb,0,Ai⟩)) cv (qt (c.lim i) (c.Vj i) (c.img i)))/\wr.ownsRow B 97 4 cv (c.Zi i) ((List.range (c.Zi i*4)).map fun j=>.int .i64 (c.code i j))
theorem Tt.keep{c:vl}{B nb k:Nat}{xs:List ti}{w w':ui}(h:Tt B c nb k xs w)(kp:Kp w w'):Tt B c nb k xs w':=by
 obtain⟨kb,h1,h2⟩:=h;refine⟨kb,h1,fun i hi=>?_⟩;obtain⟨cv,h3,h0,h4,h5,h6⟩:=h2 i hi;have h7:=kp.row h5 U0 U0 U0;exact⟨cv,h3,h0,h7.lt,h7,kp.own h6 U0 U0 U0⟩
theorem Tt.step{c:vl}{nb k b B0 B:Nat}{xs:List ti}{w:ui}{cv:ti}(h:Tt B0 c nb k xs w)(hb0:B0<=b)(hB:∀i j,i<k->xs[i]?=yi (.pointer (yi ⟨j,0,Ai⟩))->j<B)(hb:B<=b)(hl:xs.length=k)(hr:Ei w b 48 186 (cellV k (.pointer (yi ⟨nb,0,Ai⟩)) cv (qt (c.lim k) (c.Vj k) (c.img k))))(ho:w.ownsRow B0 97 4 cv (c.Zi k) ((List.range (c.Zi k*4)).map fun j=>.int .i64 (c.code k j))):Tt B0 c nb (k+1) (xs++[.pointer (yi ⟨b,0,Ai⟩)]) w:=by
 obtain⟨kb,h1,h2⟩:=h;have Wi:∀i,i<k->kb i<B:=fun i hi=>by
  obtain⟨_,h3,_⟩:=h2 i hi;exact hB i _ hi h3
 refine⟨fun i=>if i<k then kb i else b,fun i j hi hj Jj=>?_,fun i hi=>?_⟩
 ·simp only;by_cases e1:i<k
  ·by_cases e2:j<k
   ·rw[if_pos e1,if_pos e2];exact h1 i j e1 e2 Jj
   ·rw[if_pos e1,if_neg e2];have:=Wi i e1;omega
  ·by_cases e2:j<k
   ·rw[if_neg e1,if_pos e2];have:=Wi j e2;omega
   ·omega
 ·simp only;by_cases e:i<k
  ·rw[if_pos e];obtain⟨cv,h3,h4⟩:=h2 i e;exact⟨cv,by rw[List.getElem?_append_left E0];exact h3,h4⟩
  ·obtain rfl:i=k:=by omega
   rw[if_neg e];exact⟨cv,D8,hb0,hr.lt,hr,ho⟩
def Zz(c:vl)(w:ui)(K nb:Nat)(tr:ti)(k:Nat)(wr:ui):Prop:=
 ∃v xs,Below w.heap.size w wr/\Ei wr K 5 94 (su v (.int .i64 0) (.slice Ai 0 0) (.pointer (yi ⟨nb,0,Ai⟩)) tr)/\wr.ownsRow (K+1) 100 1 v k xs/\Ext w.heap.size c nb tr wr/\zt w.heap.size c k xs wr
def Ax(c:vl)(w:ui)(K nb:Nat)(v tr:ti)(k:Nat)(wr:ui):Prop:=
 ∃u xs,Below w.heap.size w wr/\Ei wr K 5 94 (su v (.int .i64 0) u (.pointer (yi ⟨nb,0,Ai⟩)) tr)/\wr.ownsRow (K+1) 143 1 u k xs/\Ext w.heap.size c nb tr wr/\(∃ys,wr.ownsRow (K+1) 100 1 v c.nT ys/\zt w.heap.size c c.nT ys wr)/\Tt w.heap.size c nb k xs wr
def a10(c:vl)(w:ui)(e:Ending)(w':ui):Prop:=
 ∃k:ti,∃x y:Int,e=.returned (.tuple #[k,.int .i64 x,.int .i64 y])/\Ui c x y/\Below w.heap.size w w'/\((x≠0/\k=.pointer Ai)\/(x=0/\∃K nb v tr,k=.pointer (yi ⟨K,0,Ai⟩)/\w.heap.size<K/\Ax c w K nb v tr c.nC w'))
theorem eW{P:Program}(t e:TypeId)(z:ti)(size bytes n:Nat)(ht:P.underlying t=yi (.slice e))(Xr:(P.info? e).map (fun i=>(i.zero,i.size,i.bytes))=yi (yi z,size,bytes))(hb:bytes*n<=281474976710656)(hn:n<=9223372036854775807):
  ∃MC:Array ti,MC.size=n*size/\(∀j,j<n*size->MC[j]?=yi (z.cells[j%z.cells.size]!))/\∀W:ui,(Instr.makeSlice t (.int .i64 n) (.int .i64 n)).run P W=.ok (.slice (yi ⟨W.heap.size,0,Ai⟩) n n) (W.alloc (.cells MC e)):=by
 obtain⟨i,h2,h3,h4,h5⟩:=info_parts Xr;subst h4 h5;refine⟨madeCells z.cells (n*i.size),size_madeCells _ _,fun j hj=>by simp[madeCells,hj],fun W=>?_⟩;have uk:(i.bytes:Int)*(n:Int)<=281474976710656:=by
  have h:((i.bytes*n:Nat):Int)<=281474976710656:=E0;rwa [Int.natCast_mul]at h
 exact Gf
theorem rowT{A:ui}{M:Array ti}{n:Nat}(hs:M.size=n*1)(hM:∀j,j<n*1->M[j]?=yi ((Value.slice Ai 0 0).cells[j%(Value.slice Ai 0 0).cells.size]!)):Ei (A.alloc (.cells M 61)) A.heap.size n 61 (fun _=>.slice Ai 0 0):=by
 have h1:M.size=n:=E0;rw[<-h1];refine Ei.new A M _ _ (fun j hj=>?_);rw[hM j E0];have h:(Value.slice Ai 0 0).cells=#[.slice Ai 0 0]:=rfl;rw[h];have:j%1=0:=E0;simp[this]
theorem Nw{w:ui}{b e s n:Nat}{v:ti}{xs:List ti}(h:w.ownsRow b e s v n xs):∃p cap,v=.slice p n cap:=by
 rcases h.2 with⟨rfl,rfl⟩|⟨g,cap,_,rfl,_⟩
 ·exact⟨_,_,rfl⟩
 ·exact⟨_,_,rfl⟩
theorem dV{w:ui}{b e n:Nat}{v:ti}{xs:List ti}(h:w.ownsRow b e 1 v n xs):xs.length=n:=by have:=h.1;omega
theorem PX(c:vl)(v0 v1 v2 v3:ti)(w:ui)(h:Bq w v0 v1 v2 v3 c)(hw:OD c)(hrn:∀i,i<c.nT->c.jC i=gi):
  Calls prog 27 #[.agg #[v0,v1,v2,v3]] w (a10 c w):=by
 refine U8 fun HA=>?_;have HC:Hid (∀o,Calls prog 50 #[.agg #[v0,v1,v2,v3]] (w.alloc o) (vD c (w.alloc o))):=fun o=>dH c v0 v1 v2 v3 _ (h.below (HA.out _)) hw;obtain⟨p0,yj,F0,p1,wj,F1,p2,cap2,p3,nk,rfl,rfl,rfl,rfl,s0,k0,s1,k1,s2,-,b0,b1,b2,b3⟩:=h.parts;have S2:Hid (Sl w p2 (c.qj*3) (fun j=>.int .i64 (c.ch j))):=s2;have S0:Hid (Sl w p0 (c.nC*3) F0):=s0;have K0:Hid (∀i,i<c.nC->_):=k0;have S1:Hid (Sl w p1 c.nT F1):=s1;have K1:Hid (∀i,i<c.nT->Hu w (F1 i) (c.jC i) (c.nRow i) 2 (c.row i) 16):=k1;have HRN:Hid (∀i,i<c.nT->c.jC i=gi):=hrn;clear hrn;clear h hw s0 k0 s1 k1 s2 b0 b1 b2 b3
 go_enter func27,ntmps27
 go_wp2_with fail
 refine(HC.out _).mono ?_;rintro e w1 ⟨x,y,rfl,hx,Wj⟩;have HX:Hid (Ui c x y):=hx;refine Lc fun Xq=>?_;clear hx Wj;by_cases h0:x=0
 ·have Jj:(x != 0)=false:=by simpa using h0
  have H0:Hid (x=0):=h0;have HOK:Hid (Ss c/\Ns c/\Hj (Wn c) c.nC):=(HX.out.place h0).sizes;have q6:c.nC<=6:=HOK.out.1.2;have q8:c.nT<=8:=HOK.out.2.1.2;obtain⟨M1,hM1,hMC,hm1⟩:=eW (P:=prog) 73 61 _ 1 24 c.nC underlying73 Q50 E0 E0;obtain⟨x0,x1,x2,x3⟩:=OA Xq.out;have jV:w.heap.size<w1.heap.size:=by have:=Xq.out.size;simp at this;omega
  have LY:Hid (Below w.heap.size w w1):=ij Xq.out;have HMC:Hid (M1.size=c.nC*1/\∀j,j<c.nC*1->M1[j]?=yi ((Value.slice Ai 0 0).cells[j%(Value.slice Ai 0 0).cells.size]!)):=⟨hM1,hMC⟩;clear h0 hM1 hMC;have q7:c.qj<=8:=(HX.out.place H0.out).gV;go_wp2_with fail;have HBm:Hid (Below (w.heap.size+1) (w.alloc (.cells #[.slice p0 c.nC yj,.slice p1 c.nT wj,.slice p2 c.qj cap2,.slice p3 c.nD nk] 28)) (w1.alloc (.cells M1 61))):=Xq.out.alloc (by have:=Xq.out.size;simp at this;omega) _;go_region_held3 (fun W=>W.cell? ⟨w.heap.size,2,Ai⟩=yi (.slice p2 c.qj cap2)/\W.cell? ⟨w.heap.size,0,Ai⟩=yi (.slice p0 c.nC yj)) (go_keep)
   (first
    |(go_at_call 51
      refine(oC p2 c.qj cap2 c.ch _ (S2.out.below (ij HBm.out.drew)) q7).mono ?_;rintro e wl ⟨nb,rfl,XS,ve,vq,vs,h3,hr3,oI,YQ,B_⟩;refine da fun oL qI=>?_;clear hr3 oI YQ B_ XS oL;have Yv:Hid (Below (w.heap.size+1) (w.alloc (.cells #[.slice p0 c.nC yj,.slice p1 c.nT wj,.slice p2 c.qj cap2,.slice p3 c.nD nk] 28)) wl):=HBm.out.drew.trans (h3.mono (by have:=HBm.out.size;simp at this;show _<=(w1.alloc (.cells M1 61)).heap.size;simp;omega));have HTL:Hid (Ei wl w1.heap.size c.nC 61 (fun _=>.slice Ai 0 0)):=(rowT (A:=w1) HMC.out.1 HMC.out.2).of_heap (h3.block _ (by show w1.heap.size<(w1.alloc _).heap.size;simp));clear h3;obtain⟨xl0,xl1,xl2,xl3⟩:=OA Yv.out)
    |(go_at_call 51
      refine(oC p2 c.qj cap2 c.ch _ (S2.out.below (ij Xq.out.drew)) q7).mono ?_;rintro e wl ⟨nb,rfl,XS,ve,vq,vs,h3,hr3,oI,YQ,B_⟩;refine da fun oL qI=>?_;clear hr3 oI YQ B_ XS oL;have Yv:Hid (Below (w.heap.size+1) (w.alloc (.cells #[.slice p0 c.nC yj,.slice p1 c.nT wj,.slice p2 c.qj cap2,.slice p3 c.nD nk] 28)) wl):=Xq.out.drew.trans (h3.mono (by have:=Xq.out.size;simp at this;show _<=w1.heap.size;omega));clear h3;obtain⟨xl0,xl1,xl2,xl3⟩:=OA Yv.out))
  have HF:Hid _:=ZU (K:=wl.heap.size+1) (t:=94) (a:=.slice Ai 0 0) (b:=.int .i64 0) (c:=.slice Ai 0 0) (d:=.pointer (yi ⟨nb,0,Ai⟩)) (e:=.slice (yi ⟨wl.heap.size,0,Ai⟩) c.nC c.nC) (Yv.out.alloc J6 (.cells M1 61)) P0 rfl;have W0:Hid (Zz c w (wl.heap.size+1) nb (.slice (yi ⟨wl.heap.size,0,Ai⟩) c.nC c.nC) 0 ((wl.alloc (.cells M1 61)).alloc (.cells #[.slice Ai 0 0,.int .i64 0,.slice Ai 0 0,.pointer (yi ⟨nb,0,Ai⟩),.slice (yi ⟨wl.heap.size,0,Ai⟩) c.nC c.nC] 94))):=⟨_,_,HF.out.1,HF.out.2.1,World.ownsRow_nil _ _ _ _,⟨by
   obtain⟨h0,ve,vq,vs,h1,h2,h2b,h2c,h2d⟩:=qI.out;exact⟨h0,ve,vq,vs,(h1.alloc _).alloc _,h2,h2b,h2c,(h2d.keep (Kp.alloc _ _)).keep (Kp.alloc _ _)⟩,_,J6,rfl,(rowT HMC.out.1 HMC.out.2).alloc _⟩,fun i hi=>absurd hi E0⟩
  have X0:Hid (Ei ((wl.alloc (.cells M1 61)).alloc (.cells #[.slice Ai 0 0,.int .i64 0,.slice Ai 0 0,.pointer (yi ⟨nb,0,Ai⟩),.slice (yi ⟨wl.heap.size,0,Ai⟩) c.nC c.nC] 94)) w.heap.size 4 28 (cells4 (.slice p0 c.nC yj) (.slice p1 c.nT wj) (.slice p2 c.qj cap2) (.slice p3 c.nD nk))):=(row4 w _ _ _ _ _).below HF.out.2.2.2.2 E0;have hK:wl.heap.size+1<((wl.alloc (.cells M1 61)).alloc (.cells #[.slice Ai 0 0,.int .i64 0,.slice Ai 0 0,.pointer (yi ⟨nb,0,Ai⟩),.slice (yi ⟨wl.heap.size,0,Ai⟩) c.nC c.nC] 94)).heap.size:=HF.out.2.2.1;have hKw:w.heap.size<wl.heap.size+1:=HF.out.2.2.2.1;clear HF;generalize ((wl.alloc (.cells M1 61)).alloc (.cells #[.slice Ai 0 0,.int .i64 0,.slice Ai 0 0,.pointer (yi ⟨nb,0,Ai⟩),.slice (yi ⟨wl.heap.size,0,Ai⟩) c.nC c.nC] 94))=w0 at *;generalize hKe:wl.heap.size+1=K at *;generalize (Value.slice (yi ⟨wl.heap.size,0,Ai⟩) c.nC c.nC)=tr at *;clear hKe;rotate_left;have HF:Hid _:=ZU (K:=wl.heap.size) (t:=94) (a:=.slice Ai 0 0) (b:=.int .i64 0) (c:=.slice Ai 0 0) (d:=.pointer (yi ⟨nb,0,Ai⟩)) (e:=.slice (yi ⟨w1.heap.size,0,Ai⟩) c.nC c.nC) Yv.out P0 rfl;have W0:Hid (Zz c w (wl.heap.size) nb (.slice (yi ⟨w1.heap.size,0,Ai⟩) c.nC c.nC) 0 (wl.alloc (.cells #[.slice Ai 0 0,.int .i64 0,.slice Ai 0 0,.pointer (yi ⟨nb,0,Ai⟩),.slice (yi ⟨w1.heap.size,0,Ai⟩) c.nC c.nC] 94))):=⟨_,_,HF.out.1,HF.out.2.1,World.ownsRow_nil _ _ _ _,⟨by
   obtain⟨h0,ve,vq,vs,h1,h2,h2b,h2c,h2d⟩:=qI.out;exact⟨h0,ve,vq,vs,h1.alloc _,h2,h2b,h2c,h2d.keep (Kp.alloc _ _)⟩,_,LY.out.size,rfl,HTL.out.alloc _⟩,fun i hi=>absurd hi E0⟩
  have X0:Hid (Ei (wl.alloc (.cells #[.slice Ai 0 0,.int .i64 0,.slice Ai 0 0,.pointer (yi ⟨nb,0,Ai⟩),.slice (yi ⟨w1.heap.size,0,Ai⟩) c.nC c.nC] 94)) w.heap.size 4 28 (cells4 (.slice p0 c.nC yj) (.slice p1 c.nT wj) (.slice p2 c.qj cap2) (.slice p3 c.nD nk))):=(row4 w _ _ _ _ _).below HF.out.2.2.2.2 E0;have hK:wl.heap.size<(wl.alloc (.cells #[.slice Ai 0 0,.int .i64 0,.slice Ai 0 0,.pointer (yi ⟨nb,0,Ai⟩),.slice (yi ⟨w1.heap.size,0,Ai⟩) c.nC c.nC] 94)).heap.size:=HF.out.2.2.1;have hKw:w.heap.size<wl.heap.size:=HF.out.2.2.2.1;clear HF;generalize (wl.alloc (.cells #[.slice Ai 0 0,.int .i64 0,.slice Ai 0 0,.pointer (yi ⟨nb,0,Ai⟩),.slice (yi ⟨w1.heap.size,0,Ai⟩) c.nC c.nC] 94))=w0 at *;generalize hKe:wl.heap.size=K at *;generalize (Value.slice (yi ⟨w1.heap.size,0,Ai⟩) c.nC c.nC)=tr at *;clear hKe;rotate_left
  all_goals
   try clear HTL
   clear qI HMC;clear jV LY Xq HBm Yv x0 x1 x2 x3 xl0 xl1 xl2 xl3 hm1 q7;obtain⟨x0,x1,x2,x3⟩:=X0.out.at4;go_wp2_with fail;clear x0 x1 x2 x3;go_loopw [33] (fun i wr=>∃k:Nat,k<=c.nT/\i=.int .i64 k/\K<wr.heap.size/\Hid (Zz c w K nb tr k wr)/\Hid (Ei wr w.heap.size 4 28 (cells4 (.slice p0 c.nC yj) (.slice p1 c.nT wj) (.slice p2 c.qj cap2) (.slice p3 c.nD nk)))) (fun i _=>c.nT-(intOf i).toNat)
   case atStart=>exact⟨0,Nat.zero_le _,rfl,hK,W0,X0⟩
   case round=>
    obtain⟨k,hk,rfl,mF,HR,HX4⟩:=hrel;obtain⟨v,xs,aZ,Nk,rj,L20,D20⟩:=HR.out;have HEX:Hid (Ext w.heap.size c nb tr wr):=L20;have HRK:Hid (zt w.heap.size c k xs wr):=D20;clear L20 D20;obtain⟨z0,z1,z2,z3,z4⟩:=Nk.W40;obtain⟨x0,x1,x2,x3⟩:=HX4.out.at4;have hxr:w.heap.size<wr.heap.size:=HX4.out.lt;have Lq:Hid (Below w.heap.size w wr):=aZ;have rV:Hid (Ei wr K 5 94 (su v (.int .i64 0) (.slice Ai 0 0) (.pointer (yi ⟨nb,0,Ai⟩)) tr)):=Nk;have HO:Hid (wr.ownsRow (K+1) 100 1 v k xs):=rj;clear aZ Nk rj HR;by_cases Wi:k<c.nT
    ·obtain⟨b,off,rfl,hc⟩:=(S1.out.below Lq.out).at E0;have c0:=hc k Wi;clear hc;obtain⟨pr,JI,hF,-,hnn,zr,br,sr⟩:=K1.out k Wi;have HPS:Hid (∃ad,pr=yi ad):=by
      cases pr with
      |none=>exact absurd (hnn.1 rfl) (by rw[HRN.out k Wi];simp)
      |some ad=>exact⟨ad,rfl⟩
     clear hnn;rw[hF]at c0;have SR:Hid (Sl w pr (c.nRow k*2) (fun j=>.int .i64 (c.row k j))):=sr;have BR:Hid (16*c.nRow k<=140737488355328):=br;have ZR:Hid (pr=Ai->c.nRow k=0/\JI=0):=zr;clear hF sr br zr;go_wp2_with fail
     go_region_law
      (first
       |(refine Ot rfl 52 _ _ rfl _ rfl Tryz.f52 func52 fN TK (fun r w'=>∃gq cc,r=.slice (yi ⟨gq,0,Ai⟩) (c.nRow k) cc/\Below wr.heap.size wr w'/\w'.ownsRow w.heap.size 102 2 (.slice (yi ⟨gq,0,Ai⟩) (c.nRow k) cc) (c.nRow k) ((List.range (c.nRow k*2)).map fun j=>.int .i64 (c.row k j))) ?_ ?_
         ·obtain⟨ad,had⟩:=HPS.out;subst had;refine(vI ad (c.nRow k) JI (c.row k) wr.drew (SR.out.below Lq.out.drew) BR.out).mono ?_;rintro e w' ⟨gq,cc,h1,h2,h3⟩;exact⟨_,h1,gq,cc,rfl,⟨h2.os,h2.tape,h2.output,h2.size,h2.block⟩,dq h3 Lq.out.size⟩
         rintro r wl ⟨gq,cc,rfl,yo,hwo⟩;have HWO:Hid (wl.ownsRow w.heap.size 102 2 (.slice (yi ⟨gq,0,Ai⟩) (c.nRow k) cc) (c.nRow k) ((List.range (c.nRow k*2)).map fun j=>.int .i64 (c.row k j))):=hwo;clear hwo;have Yv:Hid (Below wr.heap.size wr wl):=yo;have hsl:wr.heap.size<=wl.heap.size:=yo.size;have q0:=(Yv.out.cell (p:=⟨K,0,Ai⟩) mF).trans z0;have q0a:(wl.alloc (.cells #[.slice (yi ⟨gq,0,Ai⟩) (c.nRow k) cc] 100)).cell? ⟨K,0,Ai⟩=yi v:=((Yv.out.alloc hsl _).cell (p:=⟨K,0,Ai⟩) mF).trans z0;clear yo)
       |(refine Ek rfl _ _ 24 rfl (K+1) 100 _ 1 24 underlying24 AB rfl E0 v k xs rfl (own_below HO.out (Yv.out.alloc hsl _)) wl.heap.size [.slice (yi ⟨gq,0,Ai⟩) (c.nRow k) cc] 100 rfl rfl J2 D2 Y1 E0 A1 ?_
         intro g cap wg Oj Ti hat zo;have HOL:Hid (∀j,j<wr.heap.size->v.ownBlock≠yi j->wg.heap[j]?=wr.heap[j]?):=(fun j hj Jj=>(Ti.block j A1 (fun e=>Jj e.symm)).trans ((heap_alloc_old _ _ E0).trans (Yv.out.block j hj)));have HOg:Hid (wg.ownsRow (K+1) 100 1 (.slice (yi ⟨g,0,Ai⟩) (k+1:Nat) cap) (k+1) (xs++[.slice (yi ⟨gq,0,Ai⟩) (c.nRow k) cc])):=Oj;have HSg:Hid (wr.heap.size<=wg.heap.size):=Nat.le_trans (Nat.le_trans hsl P0) Ti.size;have HFg:Hid (wg.os=wr.os/\wg.tape=wr.tape/\wg.output=wr.output):=⟨Ti.os.trans Yv.out.os,Ti.tape.trans Yv.out.tape,Ti.output.trans Yv.out.output⟩;have HRg:Hid (Ei wg K 5 94 (su v (.int .i64 0) (.slice Ai 0 0) (.pointer (yi ⟨nb,0,Ai⟩)) tr)):=rV.out.of_heap (HOL.out K mF (fun e=>by have:=(HO.out.lt K e).1;omega));have HKP:Hid (∀x,Kp wl (wg.setCell ⟨K,0,Ai⟩ x)):=fun x=>Kp.step (own_below HO.out Yv.out) (.inl rfl) (rV.out.below Yv.out mF) Ti;clear q0 q0a;have q0:=HRg.out.W40.1;have xQ:=HRg.out.frozen 0;clear Oj Ti hat zo))
     all_goals
      have HN:Hid (Zz c w K nb tr (k+1) (wg.setCell ⟨K,0,Ai⟩ (.slice (yi ⟨g,0,Ai⟩) (k+1:Nat) cap))):=
       ⟨_,_,jI Lq.out HSg.out HFg.out HOL.out (fun j hj=>(HO.out.lt j hj).1) hKw,(HRg.out.T00 _).1,ownsRow_setCell_below HOg.out P0 _,HEX.out.keep ((Kp.below Yv.out).trans (HKP.out _)),((HRK.out.keep (Kp.below Yv.out)).step (dV HO.out) HWO.out).keep (HKP.out _)⟩
      have HX5:Hid (Ei (wg.setCell ⟨K,0,Ai⟩ (.slice (yi ⟨g,0,Ai⟩) (k+1:Nat) cap)) w.heap.size 4 28 (cells4 (.slice p0 c.nC yj) (.slice (yi ⟨b,off,Ai⟩) c.nT wj) (.slice p2 c.qj cap2) (.slice p3 c.nD nk))):=
       (HX4.out.of_heap (HOL.out _ hxr (fun e=>by have:=(HO.out.lt _ e).1;omega))).other _ _ A1
      have hK5:K<(wg.setCell ⟨K,0,Ai⟩ (.slice (yi ⟨g,0,Ai⟩) (k+1:Nat) cap)).heap.size:=by rw[size_setCell];exact HRg.out.lt
      clear q0 xQ;go_wp2_with fail;exact⟨⟨k+1,E0,J1,hK5,HN,HX5⟩,U1⟩
    ·obtain rfl:k=c.nT:=by omega
     clear Wi hk z0 z1 z2 z3 z4;go_wp2_with fail;have HOv:Hid (∃pv mv cv,v=.slice pv mv cv):=kr HO.out;have V0:Hid (Ax c w K nb v tr 0 wr):=⟨_,_,Lq.out,rV.out,World.ownsRow_nil _ _ _ _,HEX.out,⟨_,HO.out,HRK.out⟩,fun i=>i,fun i j hi=>absurd hi E0,fun i hi=>absurd hi E0⟩;clear HO rV Lq HEX HRK x0 x1 x2 x3 W0 X0 hK;revert V0 HX4 mF hxr;revert wr;intro wr0 mF HX4 hxr V0;go_loopw [52] (fun i wr=>∃k:Nat,k<=c.nC/\i=.int .i64 k/\K<wr.heap.size/\Hid (Ax c w K nb v tr k wr)/\Hid (Ei wr w.heap.size 4 28 (cells4 (.slice p0 c.nC yj) (.slice p1 c.nT wj) (.slice p2 c.qj cap2) (.slice p3 c.nD nk)))) (fun i _=>c.nC-(intOf i).toNat)
     case atStart=>exact⟨0,Nat.zero_le _,rfl,mF,V0,HX4⟩
     case round=>
      clear HX4 mF hxr V0;obtain⟨k,hk,rfl,mF,HR,HX4⟩:=hrel;obtain⟨u,xs,aZ,Nk,rj,L20,D20,xf0⟩:=HR.out;have HEX:Hid (Ext w.heap.size c nb tr wr):=L20;have HRK:Hid (∃ys,wr.ownsRow (K+1) 100 1 v c.nT ys/\zt w.heap.size c c.nT ys wr):=D20;have HCK:Hid (Tt w.heap.size c nb k xs wr):=xf0;clear L20 D20 xf0;obtain⟨z0,z1,z2,z3,z4⟩:=Nk.W40;obtain⟨x0,x1,x2,x3⟩:=HX4.out.at4;have hxr:w.heap.size<wr.heap.size:=HX4.out.lt;have Lq:Hid (Below w.heap.size w wr):=aZ;have rV:Hid (Ei wr K 5 94 (su v (.int .i64 0) u (.pointer (yi ⟨nb,0,Ai⟩)) tr)):=Nk;have HO:Hid (wr.ownsRow (K+1) 143 1 u k xs):=rj;clear aZ Nk rj HR;by_cases Wi:k<c.nC
      ·obtain⟨b,off,rfl,hc⟩:=(S0.out.below Lq.out).at E0;refine Ta fun c0 c1 c2=>?_;rw[<-Nat.add_assoc]at c1 c2;clear hc;obtain⟨sc,si,hl⟩:=K0.out k Wi;obtain⟨pc,Zr,hF,-⟩:=id sc;obtain⟨pi,Yw,hG,-⟩:=id si;rw[hF]at sc c0;rw[hG]at si c1;rw[hl]at c2;have SC:Hid (Hu w (.slice pc (c.Zi k) Zr) (c.Xl k) (c.Zi k) 4 (c.code k) 32):=sc;have SI:Hid (Hu w (.slice pi (c.Vj k) Yw) (c.Yl k) (c.Vj k) 1 (c.img k) 8):=si;have H16:Hid (c.Vj k<=16):=(HOK.out.2.2 k Wi).2.1;clear hF hG hl sc si;go_wp2_with fail;have QJ:Hid (Below wr.heap.size wr (wr.alloc (.cells #[.slice pc (c.Zi k) Zr,.slice pi (c.Vj k) Yw,.int .i64 (c.lim k)] 53))):=(Below.refl _ _).alloc (Nat.le_refl _) _;have hsp:wr.heap.size<(wr.alloc (.cells #[.slice pc (c.Zi k) Zr,.slice pi (c.Vj k) Yw,.int .i64 (c.lim k)] 53)).heap.size:=P0;obtain⟨e0,e1,e2⟩:=(row3 wr (.slice pc (c.Zi k) Zr) (.slice pi (c.Vj k) Yw) (.int .i64 (c.lim k)) 53).at3;have eK:=(QJ.out.cell (p:=⟨K,2,Ai⟩) mF).trans z2;have eN:=(QJ.out.cell (p:=⟨K,3,Ai⟩) mF).trans z3;generalize (wr.alloc (.cells #[.slice pc (c.Zi k) Zr,.slice pi (c.Vj k) Yw,.int .i64 (c.lim k)] 53))=wp at *;have hKp:K<wp.heap.size:=E0
       go_region_law
        (first
         |(refine KI rfl 53 _ _ _ _ _ _ rfl _ _ _ rfl rfl rfl Tryz.f53 func53 QM nL (fun r w'=>∃kb,r=.pointer (yi ⟨kb,0,Ai⟩)/\Below wp.heap.size wp w'/\XB wp k (yi ⟨nb,0,Ai⟩) (c.lim k) (c.Zi k) (c.Vj k) (c.code k) (c.img k) kb w') ?_ ?_
           ·exact(GM _ _ _ _ _ _ _ _ _ _ (c.lim k) wp.drew (SC.out.keep (Yp (Lq.out.trans (QJ.out.mono E0)).drew)) (SI.out.keep (Yp (Lq.out.trans (QJ.out.mono E0)).drew)) H16.out).mono (fun e w' ⟨kb,h1,h2,h3⟩=>⟨_,h1,kb,rfl,⟨h2.os,h2.tape,h2.output,h2.size,h2.block⟩,h3⟩)
           rintro r wl ⟨kb,rfl,yo,hcn⟩;have HCN:Hid (XB wp k (yi ⟨nb,0,Ai⟩) (c.lim k) (c.Zi k) (c.Vj k) (c.code k) (c.img k) kb wl):=hcn;clear hcn;have Yv:Hid (Below wp.heap.size wp wl):=yo;have hsl:wp.heap.size<=wl.heap.size:=yo.size;have q0:=(Yv.out.cell (p:=⟨K,2,Ai⟩) hKp).trans eK;have q0a:(wl.alloc (.cells #[.pointer (yi ⟨kb,0,Ai⟩)] 143)).cell? ⟨K,2,Ai⟩=yi u:=((Yv.out.alloc hsl _).cell (p:=⟨K,2,Ai⟩) hKp).trans eK;clear yo)
         |(refine Ek rfl _ _ 91 rfl (K+1) 143 _ 1 8 underlying91 y60 rfl E0 u k xs rfl (own_below (own_below HO.out QJ.out) (Yv.out.alloc hsl _)) wl.heap.size [.pointer (yi ⟨kb,0,Ai⟩)] 143 rfl rfl J2 D2 Y1 E0 A1 ?_
           intro g cap wg Oj Ti hat zo;have HOL:Hid (∀j,j<wr.heap.size->u.ownBlock≠yi j->wg.heap[j]?=wr.heap[j]?):=(fun j hj Jj=>(Ti.block j A1 (fun e=>Jj e.symm)).trans ((heap_alloc_old _ _ E0).trans ((Yv.out.block j E0).trans (QJ.out.block j hj))));have HOg:Hid (wg.ownsRow (K+1) 143 1 (.slice (yi ⟨g,0,Ai⟩) (k+1:Nat) cap) (k+1) (xs++[.pointer (yi ⟨kb,0,Ai⟩)])):=Oj;have HSg:Hid (wr.heap.size<=wg.heap.size):=Nat.le_trans (Nat.le_trans (by omega:wr.heap.size<=wl.heap.size) P0) Ti.size;have HFg:Hid (wg.os=wr.os/\wg.tape=wr.tape/\wg.output=wr.output):=⟨(Ti.os.trans Yv.out.os).trans QJ.out.os,(Ti.tape.trans Yv.out.tape).trans QJ.out.tape,(Ti.output.trans Yv.out.output).trans QJ.out.output⟩;have HRg:Hid (Ei wg K 5 94 (su v (.int .i64 0) u (.pointer (yi ⟨nb,0,Ai⟩)) tr)):=rV.out.of_heap (HOL.out K mF (fun e=>by have:=(HO.out.lt K e).1;omega));have HGW:Hid (World.grownBy (wl.alloc (.cells #[.pointer (yi ⟨kb,0,Ai⟩)] 143)) wg u.ownBlock):=⟨Ti.os,Ti.tape,Ti.output,Ti.size,Ti.block⟩;clear q0 q0a;have q0:=HRg.out.W40.2.2.1;have xQ:=HRg.out.frozen 2;clear Oj Ti hat zo))
       all_goals
        have HAl:Below wl.heap.size wl (wl.alloc (.cells #[.pointer (yi ⟨kb,0,Ai⟩)] 143)):=(Below.refl _ _).alloc (Nat.le_refl _) _;have HUo:=own_below (own_below HO.out QJ.out) Yv.out;have HKP:Hid (∀x,Kp wl (wg.setCell ⟨K,2,Ai⟩ x)):=fun x=>Kp.step HUo (.inr rfl) ((rV.out.below QJ.out mF).below Yv.out hKp) HGW.out;have HOW:Hid (∃ys,wg.ownsRow (K+1) 100 1 v c.nT ys/\zt w.heap.size c c.nT ys wr):=by
         obtain⟨ys,h1,h2⟩:=HRK.out;have h3:=own_below (own_below (own_below h1 QJ.out) Yv.out) HAl;exact⟨ys,h3.kept HGW.out (NK h3 (own_below HUo HAl) U0),h2⟩
        clear HAl HUo;have HN:Hid (Ax c w K nb v tr (k+1) (wg.setCell ⟨K,2,Ai⟩ (.slice (yi ⟨g,0,Ai⟩) (k+1:Nat) cap))):=
         ⟨_,_,jI Lq.out HSg.out HFg.out HOL.out (fun j hj=>(HO.out.lt j hj).1) hKw,(HRg.out.T00 _).2.2,ownsRow_setCell_below HOg.out P0 _,HEX.out.keep (((Kp.below QJ.out).trans (Kp.below Yv.out)).trans (HKP.out _)),(by
          obtain⟨ys,h1,h2⟩:=HOW.out;exact⟨ys,ownsRow_setCell_below h1 P0 _,h2.keep (((Kp.below QJ.out).trans (Kp.below Yv.out)).trans (HKP.out _))⟩),(by
          obtain⟨cv,h1,h2,h3⟩:=HCN.out;exact((((HCK.out.keep (Kp.below QJ.out)).keep (Kp.below Yv.out)).step (B:=wr.heap.size) (Nat.le_trans Lq.out.size E0) (fun i j hi hx=>by
           obtain⟨kb',_,h5⟩:=HCK.out;obtain⟨_,h6,_,h7,_⟩:=h5 i hi;rw[h6]at hx;cases hx;exact h7) E0 (dV HO.out) h2 (dq h3 (Nat.le_trans Lq.out.size E0)))).keep (HKP.out _))⟩
        have HX5:Hid (Ei (wg.setCell ⟨K,2,Ai⟩ (.slice (yi ⟨g,0,Ai⟩) (k+1:Nat) cap)) w.heap.size 4 28 (cells4 (.slice (yi ⟨b,off,Ai⟩) c.nC yj) (.slice p1 c.nT wj) (.slice p2 c.qj cap2) (.slice p3 c.nD nk))):=
         (HX4.out.of_heap (HOL.out _ hxr (fun e=>by have:=(HO.out.lt _ e).1;omega))).other _ _ A1
        have hK5:K<(wg.setCell ⟨K,2,Ai⟩ (.slice (yi ⟨g,0,Ai⟩) (k+1:Nat) cap)).heap.size:=by rw[size_setCell];exact HRg.out.lt
        clear q0 xQ;go_wp2_with fail;exact⟨⟨k+1,E0,J1,hK5,HN,HX5⟩,U1⟩
      ·obtain rfl:k=c.nC:=by omega
       clear Wi hk;go_wp2_with fail
       go_ret3
       exact⟨_,_,_,rfl,HX.out.place H0.out,Lq.out,.inr ⟨rfl,_,_,_,_,rfl,hKw,u,xs,Lq.out,rV.out,HO.out,HEX.out,HRK.out,HCK.out⟩⟩
 ·have Jj:(x != 0)=true:=by simpa using h0
  have H0:Hid (x≠0):=h0;have HB:Hid (Below w.heap.size w w1):=ij Xq.out;clear h0;go_wp2_with fail
  go_ret3
  exact⟨_,x,y,rfl,HX.out,HB.out,.inl ⟨H0.out,rfl⟩⟩
end Go.Proofs.YtdoghgnifkgfdaaGreat
