import Derived.Test.YtdoghgnifkgfdaaGreatA03
import Derived.Test.YtdoghgnifkgfdaaGreatA09
set_option maxRecDepth 100000
set_option maxHeartbeats 16000000
open Option renaming none->Hn,some->Gn
open Go renaming World->En,Value->Dn,undef->Bn,Goroutine->zn,Calls->Zm,Program->Ym,Frame->Xm,Addr->Vm
open Bool renaming true->Um,false->Tm
open Go.RowKit renaming Below->Sm
open Nat renaming le_trans->Qm,zero_le->Pm,le_refl->Om,lt_of_lt_of_le->Lm,add_assoc->Jm
open List renaming range->Hm,getElem?_append_left->Em
open Array renaming getElem?_eq_getElem->Bm
namespace Go.Proofs.YtdoghgnifkgfdaaGreat
open Tryz Go.RowKit
def GX(P:Ym)(f:FuncId):Prop:=∀(base g c n:Nat)(L:List Int)(w:En),L.length=n->0<n->n<=1000->base<=w.heap.size->w.ownsRow base 3 1 (.slice (Gn ⟨g,0,Hn⟩) n c) n (L.map (Value.int .i64 ·))->
 Zm P f #[.slice (Gn ⟨g,0,Hn⟩) n c] w fun e w'=>e=.returned (.tuple #[])/\Sm base w w'/\∃L':List Int,L'.length=n/\(∀x,x∈L'↔x∈L)/\w'.ownsRow base 3 1 (.slice (Gn ⟨g,0,Hn⟩) n c) n (L'.map (Value.int .i64 ·))/\(L.Nodup->L'.Pairwise (·<·))
def AbX(nC k:Nat)(fr Au:Nat->Int)(cell:Nat)(L:List Int):Prop:=(cell:Int)∈L/\(∀j,j<k->Au j∈L->fr j∈L)/\L.Pairwise (·<·)/\(∀y∈L,0<=y/\y<nC)/\∀P:Int->Prop,P cell->(∀j,j<k->P (Au j)->P (fr j))->∀y∈L,P y
theorem pQ:(prog.info? 3).map (fun i=>(i.zero,i.size,i.bytes))=Gn (Gn (.int .i64 0),1,8):=J0
theorem mT{w w':En}{b e s n:Nat}{v:Dn}{xs:List Dn}(h:w.ownsRow b e s v n xs)(hb:∀g,v.ownBlock=Gn g->w'.heap[g]?=w.heap[g]?):w'.ownsRow b e s v n xs:=by
 rcases h with⟨hl,hv|⟨g,cap,Ov,rfl,hg,hh,h1⟩⟩
 ·exact⟨hl,.inl hv⟩
 ·exact Hl
theorem yI{w:En}{base n c:Nat}{p:Option Vm}{L:List Int}(h:w.ownsRow base 3 1 (.slice p n c) n (L.map (Value.int .i64 ·)))(hn:L.length=n):Sl w p n (fun j=>.int .i64 (L.getD j 0)):=by
 have e:L.map (Value.int .i64 ·)=(Hm (n*1)).map fun j=>.int .i64 (L.getD j 0):=by
  subst hn;apply List.ext_getElem?;intro j;by_cases hj:j<L.length
  ·simp[hj]
  ·simp[hj]
 rw[e]at h;obtain⟨p',c',e',-,-,hs⟩:=nB h;injection e' with e1
 subst e1;rw[Nat.mul_one]at hs;exact hs
theorem JX(Md0:GX prog 55)(nb eb k nC ce:Nat)(a:Option Vm)(fr Au:Nat->Int)(cell:Nat)(w:En)(h0:w.cell? ⟨nb,0,Hn⟩=Gn (.slice a k ce))(ha:0<k->a=Gn ⟨eb,0,Hn⟩)(he:∀j,j<k->w.cell? ⟨eb,j*2,Hn⟩=Gn (.int .i64 (fr j))/\w.cell? ⟨eb,j*2+1,Hn⟩=Gn (.int .i64 (Au j)))(hk:k<=1000)(hr:∀j,j<k->0<=fr j/\fr j<nC)(hnC:nC<=1000)(hcell:cell<nC):
  Zm prog 29 #[.pointer (Gn ⟨nb,0,Hn⟩),.int .i64 cell] w fun e w'=>∃g c n,∃L:List Int,e=.returned (.slice (Gn ⟨g,0,Hn⟩) n c)/\w.heap.size<=g/\L.length=n/\n<=1000/\Sm w.heap.size w w'/\w'.ownsRow w.heap.size 3 1 (.slice (Gn ⟨g,0,Hn⟩) n c) n (L.map (Value.int .i64 ·))/\AbX nC k fr Au cell L:=by
 have HE:Hid (w.cell? ⟨nb,0,Hn⟩=Gn (.slice a k ce)/\(0<k->a=Gn ⟨eb,0,Hn⟩)/\∀j,j<k->w.cell? ⟨eb,j*2,Hn⟩=Gn (.int .i64 (fr j))/\w.cell? ⟨eb,j*2+1,Hn⟩=Gn (.int .i64 (Au j))):=⟨h0,ha,he⟩;have HS:Hid (GX prog 55):=Md0;have HRG:Hid (∀j,j<k->0<=fr j/\fr j<nC):=hr;have HW0:Hid (QK nC k fr Au cell [(cell:Int)] 0 0):=QK.start E0;clear h0 ha he Md0 hr;have HO0:Hid ((w.alloc (.cells #[.int .i64 cell] 3)).ownsRow w.heap.size 3 1 (.slice (Gn ⟨w.heap.size,0,Hn⟩) 1 1) 1 ([(cell:Int)].map (Value.int .i64 ·))/\Sm w.heap.size w (w.alloc (.cells #[.int .i64 cell] 3))):=
  ⟨⟨rfl,.inr ⟨w.heap.size,1,#[.int .i64 cell],rfl,Om _,alloc_at rfl,Om _,by simp[maxLen],rfl,rfl⟩⟩,(Below.refl _ _).alloc N8 _⟩
 go_enter func29,ntmps29
 go_wp2_with fail
 go_loopw [5,6] (fun l i wr=>∃(at_ m:Nat)(g cb:Nat)(L:List Int),i=.int .i64 at_/\l=.slice (Gn ⟨g,0,Hn⟩) m cb/\at_<=m/\Hid (L.length=m/\QK nC k fr Au cell L at_ 0/\wr.ownsRow w.heap.size 3 1 (.slice (Gn ⟨g,0,Hn⟩) m cb) m (L.map (Value.int .i64 ·))/\Sm w.heap.size w wr)) (fun _ i _=>nC-(intOf i).toNat)
 case atStart=>exact⟨0,1,w.heap.size,1,[(cell:Int)],rfl,rfl,E0,rfl,HW0.out,HO0.out.1,HO0.out.2⟩
 case round=>
  obtain⟨at_,m,g,cb,L,rfl,rfl,ham,HR⟩:=hrel;have hmn:m<=nC:=by have:=HR.out.2.1.len;have:=HR.out.1;omega
  by_cases yo:at_<m
  ·have lG:(at_:Int)<(m:Int):=by omega
   have g0:wr.cell? ⟨nb,0,Hn⟩=Gn (.slice a k ce):=Ju HR.out.2.2.2 _ _ HE.out.1;clear HW0 HO0;go_wp2_with fail;go_loopw [5,22] (fun l i wr=>∃(x m:Nat)(g cb:Nat)(L:List Int),i=.int .i64 x/\l=.slice (Gn ⟨g,0,Hn⟩) m cb/\x<=k/\at_<m/\Hid (L.length=m/\QK nC k fr Au cell L at_ x/\wr.ownsRow w.heap.size 3 1 (.slice (Gn ⟨g,0,Hn⟩) m cb) m (L.map (Value.int .i64 ·))/\Sm w.heap.size w wr)) (fun _ i _=>k-(intOf i).toNat)
   case atStart=>exact⟨0,m,g,cb,L,rfl,rfl,Pm _,yo,HR⟩
   case round=>
    clear HR g0 hmn;obtain⟨x,m,g,cb,L,rfl,rfl,hx,q80,HR⟩:=hrel;have hmn:m<=nC:=by have:=HR.out.2.1.len;have:=HR.out.1;omega
    by_cases SY:x<k
    ·have hxi:(x:Int)<(k:Int):=by omega
     obtain rfl:a=Gn ⟨eb,0,Hn⟩:=HE.out.2.1 E0;have e0:wr.cell? ⟨eb,x*2,Hn⟩=Gn (.int .i64 (fr x)):=Ju HR.out.2.2.2 _ _ (HE.out.2.2 x SY).1;have e1:wr.cell? ⟨eb,x*2+1,Hn⟩=Gn (.int .i64 (Au x)):=Ju HR.out.2.2.2 _ _ (HE.out.2.2 x SY).2;obtain⟨fx,HFX⟩:∃fx,Hid (fr x=fx):=⟨_,rfl⟩;obtain⟨tx,HTX⟩:∃tx,Hid (Au x=tx):=⟨_,rfl⟩;rw[HFX.out]at e0;rw[HTX.out]at e1
     go_upto_region 8 with fail
     have HX:Hid (Sm w.heap.size w (wr.alloc (.cells #[.int .i64 fx,.int .i64 tx] 151))/\(wr.alloc (.cells #[.int .i64 fx,.int .i64 tx] 151)).ownsRow w.heap.size 3 1 (.slice (Gn ⟨g,0,Hn⟩) m cb) m (L.map (Value.int .i64 ·))/\(wr.alloc (.cells #[.int .i64 fx,.int .i64 tx] 151)).cell? ⟨wr.heap.size,0,Hn⟩=Gn (.int .i64 fx)/\(wr.alloc (.cells #[.int .i64 fx,.int .i64 tx] 151)).cell? ⟨wr.heap.size,1,Hn⟩=Gn (.int .i64 tx)):=
      ⟨HR.out.2.2.2.alloc HR.out.2.2.2.size _,xo HR.out.2.2.1 P8,P0,P0⟩
     have HL:Hid (L.length=m/\QK nC k fr Au cell L at_ x):=⟨HR.out.1,HR.out.2.1⟩;clear e0 e1 HR;generalize wr.alloc (.cells #[.int .i64 fx,.int .i64 tx] 151)=W3 at *;generalize wr.heap.size=gX at *;have x0:=HX.out.2.2.1;have x1:=HX.out.2.2.2;have HSL:Hid (Sl W3 (Gn ⟨g,0,Hn⟩) m (fun j=>.int .i64 (L.getD j 0))):=yI HX.out.2.1 HL.out.1;obtain⟨la,HLA⟩:∃la,Hid (L.getD at_ 0=la):=⟨_,rfl⟩;have c0:W3.cell? ⟨g,at_,Hn⟩=Gn (.int .i64 la):=by
      obtain⟨b,o,e,hc⟩:=HSL.out.at E0;have e2:=Option.some.inj e;injection e2 with e3 e4
      subst e3 e4;have:=hc at_ q80;rw[Nat.zero_add,HLA.out]at this;exact Vh
     have hai:(at_:Int)<(m:Int):=E0;by_cases ht:tx=la
     ·by_cases hm:fx∈L
      ·have HN:Hid (L.length=m/\QK nC k fr Au cell L at_ (x+1)/\W3.ownsRow w.heap.size 3 1 (.slice (Gn ⟨g,0,Hn⟩) m cb) m (L.map (Value.int .i64 ·))/\Sm w.heap.size w W3):=⟨HL.out.1,HL.out.2.pass (fun _=>by rw[HFX.out];exact hm),HX.out.2.1,HX.out.1⟩;subst ht;go_quiet (refine Calls.quiet_of_same (vG (Gn ⟨g,0,Hn⟩) m cb L fx _ HL.out.1 E0 (HSL.out.keep fun _ _ h=>h)));exact Tf
      ·subst ht;have HN:Hid (QK nC k fr Au cell (L++[fx]) at_ (x+1)):=by
        have h:=HL.out.2.add (by have:=HL.out.1;omega) SY (HTX.out.trans HLA.out.symm) (by rw[HFX.out];exact hm) (HRG.out x SY);rw[HFX.out]at h;exact h
       go_quiet (refine Calls.quiet_of_same (vG (Gn ⟨g,0,Hn⟩) m cb L fx _ HL.out.1 E0 (HSL.out.keep fun _ _ h=>h)))
       have HX2:Hid (Sm w.heap.size w (W3.drewN nq)/\(W3.drewN nq).ownsRow w.heap.size 3 1 (.slice (Gn ⟨g,0,Hn⟩) m cb) m (L.map (Value.int .i64 ·))/\(W3.drewN nq).cell? ⟨gX,0,Hn⟩=Gn (.int .i64 fx)):=⟨below_drewN HX.out.1 _,mT HX.out.2.1 fun _ _=>rfl,x0⟩;clear x0 x1 c0 HX HSL;generalize W3.drewN nq=W4 at *;have x0:=HX2.out.2.2;have OW:Hid (∀a,(W4.alloc a).ownsRow w.heap.size 3 1 (.slice (Gn ⟨g,0,Hn⟩) m cb) m (L.map (Value.int .i64 ·))):=fun a=>xo HX2.out.2.1 ((Below.refl _ _).alloc N8 a);have HSz:Hid (∀a,w.heap.size<=(W4.alloc a).heap.size):=fun a=>by have:=HX2.out.1.size;simp;omega
       go_wp2_with (at_builtin;refine Eo _ rfl _ _ 26 rfl w.heap.size 3 _ 1 8 underlying26 pQ rfl E0 (.slice (Gn ⟨g,0,Hn⟩) m cb) m (L.map (Value.int .i64 ·)) rfl (by exact OW.out _) W4.heap.size [_] 3 rfl rfl G2 (by intro u hu;simp at hu;subst hu;rfl) Y1 E0 (by exact HSz.out _) ?_)
       intro g2 cp w1 Io Zp _ _;have Fd0:w1.ownsRow w.heap.size 3 1 (.slice (Gn ⟨g2,0,Hn⟩) (m+1) cp) (m+1) ((L++[fx]).map (Value.int .i64 ·)):=by
        rw[List.map_append];exact Io
       have KG:Hid ((L++[fx]).length=m+1/\QK nC k fr Au cell (L++[fx]) at_ (x+1)/\w1.ownsRow w.heap.size 3 1 (.slice (Gn ⟨g2,0,Hn⟩) (m+1) cp) (m+1) ((L++[fx]).map (Value.int .i64 ·))/\Sm w.heap.size w w1):=⟨by rw[List.length_append,HL.out.1];rfl,HN.out,Fd0,(HX2.out.1.alloc HX2.out.1.size _).grown Zp (by have:=HX2.out.1.size;simp;omega) (fun j hj=>(HX2.out.2.1.lt j hj).1)⟩;clear Io Fd0 Zp;go_wp2_with fail;exact⟨⟨x+1,m+1,g2,cp,L++[fx],E1,P0,E0,E0,KG⟩,U1⟩
     ·have HN:Hid (L.length=m/\QK nC k fr Au cell L at_ (x+1)/\W3.ownsRow w.heap.size 3 1 (.slice (Gn ⟨g,0,Hn⟩) m cb) m (L.map (Value.int .i64 ·))/\Sm w.heap.size w W3):=⟨HL.out.1,HL.out.2.pass (fun e=>absurd (HTX.out.symm.trans (e.trans HLA.out)) ht),HX.out.2.1,HX.out.1⟩;go_quiet (fail);exact Tf
    ·obtain rfl:x=k:=by omega
     have HN:Hid (L.length=m/\QK nC x fr Au cell L (at_+1) 0/\wr.ownsRow w.heap.size 3 1 (.slice (Gn ⟨g,0,Hn⟩) m cb) m (L.map (Value.int .i64 ·))/\Sm w.heap.size w wr):=⟨HR.out.1,HR.out.2.1.next (by have:=HR.out.1;omega),HR.out.2.2⟩;clear HR;go_wp2_with fail;exact⟨⟨at_+1,m,g,cb,L,E1,rfl,E0,HN⟩,U1⟩
  ·have hnl:¬(at_:Int)<(m:Int):=by omega
   have HC:Hid (Zm prog 55 #[.slice (Gn ⟨g,0,Hn⟩) m cb] wr fun e w'=>e=.returned (.tuple #[])/\Sm w.heap.size wr w'/\∃L':List Int,L'.length=m/\(∀x,x∈L'↔x∈L)/\w'.ownsRow w.heap.size 3 1 (.slice (Gn ⟨g,0,Hn⟩) m cb) m (L'.map (Value.int .i64 ·))/\(L.Nodup->L'.Pairwise (·<·))):=HS.out w.heap.size g cb m L wr HR.out.1 (by have:=HR.out.1;have:=List.length_pos_of_mem HR.out.2.1.has;omega) E0 HR.out.2.2.2.size HR.out.2.2.1;clear HW0 HO0;go_wp2_with (go_at_call 55;refine HC.out.mono ?_;rintro e w' ⟨rfl,Dx,L',hl1,FY,vX,hp1⟩);go_ret;have HW:=HR.out.2.1;exact⟨g,cb,m,L',rfl,(HR.out.2.2.1.lt g rfl).1,hl1,E0,HR.out.2.2.2.trans Dx,vX,(FY _).2 HW.has,fun j hj hm=>(FY _).2 (HW.closed (by have:=HR.out.1;omega) j hj ((FY _).1 hm)),hp1 HW.nd,fun y hy=>HW.rng y ((FY y).1 hy),fun P h1 h2 y hy=>HW.min P h1 h2 y ((FY y).1 hy)⟩
def aL(b:Nat->Bool):Nat->Nat
 |0=>0
 |n+1=>aL b n+(if b n=Um then 1 else 0)
theorem G_(b:Nat->Bool):∀n,aL b n<=n
 |0=>Om _
 |n+1=>by have:=G_ b n;simp only[aL];split<;>omega
theorem cQ{b b':Nat->Bool}(h:∀x,b x=Um->b' x=Um):∀n,aL b n<=aL b' n
 |0=>Om _
 |n+1=>by
  have h1:=cQ h n;have h2:=h n;simp only[aL];split
  ·rw[if_pos (h2 ‹_›)];omega
  ·omega
theorem qR{b b':Nat->Bool}(h:∀x,b x=Um->b' x=Um){i:Nat}(hi:b' i=Um)(hn:¬b i=Um):∀n,i<n->aL b n<aL b' n
 |0,hl=>absurd hl (Nat.not_lt_zero _)
 |n+1,hl=>by
  simp only[aL];by_cases e:i=n
  ·subst e;have:=cQ h i;rw[if_neg hn,if_pos hi];omega
  ·have h1:=qR h hi hn n E0;have h2:=h n;split
   ·rw[if_pos (h2 ‹_›)];omega
   ·omega
def mark(b:Nat->Bool)(i x:Nat):Bool:=if x=i then Um else b x
theorem TS{b:Nat->Bool}{i x:Nat}(h:b x=Um):mark b i x=true:=by unfold mark;split<;>simp[*]
theorem LL(b:Nat->Bool)(i:Nat):mark b i i=true:=if_pos rfl
theorem i00{b:Nat->Bool}{i x:Nat}(h:mark b i x=Um):x=i\/b x=true:=by
 unfold mark at h;split at h
 ·exact .inl ‹_›
 ·exact .inr h
def Shut(k:Nat)(fr Au:Nat->Nat)(b:Nat->Bool):Prop:=∀j,j<k->b (Au j)=Um->b (fr j)=Um
structure SQ(nC k:Nat)(fr Au:Nat->Nat)(cell r i:Nat)(b0 b:Nat->Bool):Prop where
 has:b0 cell=Um
 le:∀x,b0 x=Um->b x=Um
 seen:∀j,j<i->b0 (Au j)=Um->b (fr j)=Um
 min:∀P:Nat->Prop,P cell->(∀j,j<k->P (Au j)->P (fr j))->∀x,b x=Um->P x
 rd:Shut k fr Au b0\/r+1<=aL b0 nC
 ch:b=b0\/(¬Shut k fr Au b0/\aL b0 nC<aL b nC)
section
variable {nC k cell r i:Nat}{fr Au:Nat->Nat}{b0 b:Nat->Bool}
theorem SQ.start(h:cell<nC):SQ nC k fr Au cell 0 0 (mark (fun _=>Tm) cell) (mark (fun _=>Tm) cell):=
 ⟨LL _ _,fun _ h=>h,fun j hj=>absurd hj (Nat.not_lt_zero _),fun P h1 _ x hx=>by
  exact(i00 hx).elim (fun e=>e▸h1) (fun e=>Bool.noConfusion e),.inr (Nat.lt_of_le_of_lt s9 (qR (b:=fun _=>Tm) (fun _ h=>X3) (LL _ _) P0 nC h)),.inl rfl⟩
theorem SQ.pass(h:SQ nC k fr Au cell r i b0 b)(hb:¬b (Au i)=Um):SQ nC k fr Au cell r (i+1) b0 b:=
 ⟨h.has,h.le,fun j hj ht=>by
  by_cases e:j=i
  ·subst e;exact absurd (h.le _ ht) hb
  ·exact h.seen j E0 ht,h.min,h.rd,h.ch⟩
theorem SQ.mark(h:SQ nC k fr Au cell r i b0 b)(hi:i<k)(hb:b (Au i)=Um)(hf:fr i<nC):SQ nC k fr Au cell r (i+1) b0 (mark b (fr i)):=by
 refine⟨h.has,fun x hx=>TS (h.le x hx),fun j hj ht=>?_,fun P h1 h2 x hx=>?_,h.rd,?_⟩
 ·by_cases e:j=i
  ·subst e;exact LL _ _
  ·exact TS (h.seen j E0 ht)
 ·rcases i00 hx with rfl|hx
  ·exact h2 i hi (h.min P h1 h2 _ hb)
  ·exact h.min P h1 h2 x hx
 ·by_cases hm:b (fr i)=Um
  ·have e:Go.Proofs.YtdoghgnifkgfdaaGreat.mark b (fr i)=b:=by
    funext x
    unfold Go.Proofs.YtdoghgnifkgfdaaGreat.mark;split
    ·rename_i e;rw[e,hm]
    ·rfl
   rw[e];exact h.ch
  ·have yo:=qR (b:=b) (b':=Go.Proofs.YtdoghgnifkgfdaaGreat.mark b (fr i)) (fun _=>TS) (LL _ _) hm nC hf;rcases h.ch with e|⟨h1,h2⟩
   ·rw[e]at yo hb hm;exact .inr ⟨fun hs=>hm (hs i hi hb),by rw[e];exact yo⟩
   ·exact .inr ⟨h1,E0⟩
theorem SQ.next(h:SQ nC k fr Au cell r k b0 b):SQ nC k fr Au cell (r+1) 0 b b:=by
 refine⟨h.le _ h.has,fun _ h=>h,fun j hj=>absurd hj (Nat.not_lt_zero _),h.min,?_,.inl rfl⟩;rcases h.ch with e|⟨h1,h2⟩
 ·left
  intro j hj ht;exact h.seen j hj (by rw[<-e];exact ht)
 ·right
  rcases h.rd with h3|h3
  ·exact absurd h3 h1
  ·omega
theorem SQ.shut(h:SQ nC k fr Au cell nC i b b):Shut k fr Au b:=h.rd.elim id fun h=>by have:=G_ b nC;omega
end
def vL(b:Nat->Bool)(n:Nat):List Int:=((Hm n).filter b).map fun x:Nat=>(x:Int)
theorem XW(b:Nat->Bool)(n:Nat):vL b (n+1)=if b n=Um then vL b n++[(n:Int)]else vL b n:=by
 unfold vL;rw[List.range_succ,List.filter_append];by_cases h:b n=Um
 ·rw[if_pos h];simp[h]
 ·rw[if_neg h];simp[h]
theorem BQ:∀(A B:List Int),A.Pairwise (·<·)->B.Pairwise (·<·)->(∀x,x∈A↔x∈B)->A=B
 | [],[],_,_,_=>rfl
 | [],b::B,_,_,h=>by have:=(h b).2 (List.mem_cons_self ..);cases this
 |a::A,[],_,_,h=>by have:=(h a).1 (List.mem_cons_self ..);cases this
 |a::A,b::B,hA,hB,h=>by
  rw[List.pairwise_cons]at hA hB;have e:a=b:=by
   rcases List.mem_cons.1 ((h a).1 (List.mem_cons_self ..))with e|e
   ·exact e
   ·rcases List.mem_cons.1 ((h b).2 (List.mem_cons_self ..))with e'|e'
    ·exact e'.symm
    ·have h1:=hB.1 a e;have h2:=hA.1 b e';omega
  subst e;rw[BQ A B hA.2 hB.2 fun x=>⟨fun hx=>?_,fun hx=>?_⟩]
  ·rcases List.mem_cons.1 ((h x).1 (List.mem_cons_of_mem _ hx))with e|e
   ·have:=hA.1 x hx;omega
   ·exact e
  ·rcases List.mem_cons.1 ((h x).2 (List.mem_cons_of_mem _ hx))with e|e
   ·have:=hB.1 x hx;omega
   ·exact e
theorem L60{nC k cell:Nat}{fr Au:Nat->Int}{fn tn:Nat->Nat}{L:List Int}{b:Nat->Bool}(hf:∀j,j<k->fr j=fn j)(ht:∀j,j<k->Au j=tn j)(hp:L.Pairwise (·<·))(hr:∀y∈L,0<=y/\y<nC)(hh:(cell:Int)∈L)(hc:∀j,j<k->Au j∈L->fr j∈L)(hm:∀P:Int->Prop,P cell->(∀j,j<k->P (Au j)->P (fr j))->∀y∈L,P y)
  (bh:b cell=Um)(bs:Shut k fn tn b)(bm:∀P:Nat->Prop,P cell->(∀j,j<k->P (tn j)->P (fn j))->∀x,b x=Um->P x):L=vL b nC:=by
 refine BQ _ _ hp ?_ fun x=>⟨fun hx=>?_,fun hx=>?_⟩
 ·unfold vL;rw[List.pairwise_map];exact(List.pairwise_lt_range.filter b).imp fun h=>by omega
 ·have h1:=hm (fun y=>b y.toNat=Um) (by simpa using bh) (fun j hj h=>by
   rw[hf j hj,Int.toNat_natCast];rw[ht j hj,Int.toNat_natCast]at h;exact bs j hj h) x hx
  have h2:=hr x hx;unfold vL;exact List.mem_map.2 ⟨x.toNat,List.mem_filter.2 ⟨List.mem_range.2 E0,h1⟩,E0⟩
 ·unfold vL at hx;obtain⟨y,hy,rfl⟩:=List.mem_map.1 hx;refine bm (fun n=>(n:Int)∈L) hh (fun j hj h=>?_) y (List.mem_filter.1 hy).2;rw[<-hf j hj];exact hc j hj (by rw[ht j hj];exact h)
theorem WY:(prog.info? 4).map (fun i=>(i.zero,i.size,i.bytes))=Gn (Gn (.bool Tm),1,1):=J0
structure RaW(w:En)(o0 o1 o2 o3:Dn)(nC:Nat)(b:Nat->Bool)(wr:En):Prop where
 bel:Sm w.heap.size w wr
 box:Tn wr w.heap.size 4 28 (cells4 o0 o1 o2 o3)
 row:Tn wr (w.heap.size+1) nC 4 (fun j=>.bool (b j))
theorem RaW.mark{w wr:En}{o0 o1 o2 o3:Dn}{nC:Nat}{b:Nat->Bool}(h:RaW w o0 o1 o2 o3 nC b wr)(i:Nat):RaW w o0 o1 o2 o3 nC (mark b i) (wr.setCell ⟨w.heap.size+1,i,Hn⟩ (.bool Um)):=
 ⟨h.bel.setCell P0 _,h.box.other _ _ P0,(h.row.set i _).congr fun j _=>by
  unfold Go.Proofs.YtdoghgnifkgfdaaGreat.mark;split<;>rfl⟩
theorem DT(nC k cell c0 c2:Nat)(q0 q2:Option Vm)(o1 o3:Dn)(ch:Nat->Int)(fn tn:Nat->Nat)(w:En)(h1:∃a n c,o1=.slice a n c)(h3:∃a n c,o3=.slice a n c)(hs:Sl w q2 (k*3) (fun j=>.int .i64 (ch j)))(hf:∀j,j<k->ch (j*3+1)=fn j/\fn j<nC)(ht:∀j,j<k->ch (j*3+2)=tn j/\tn j<nC)(hk:k<=1000)(hnC:nC<=1000)(hcell:cell<nC):
  Zm prog 48 #[.agg #[.slice q0 nC c0,o1,.slice q2 k c2,o3],.int .i64 cell] w fun e w'=>∃p m c b,e=.returned (.slice p m c)/\m=(vL b nC).length/\Sm w.heap.size w w'/\Sl w' p m (fun j=>.int .i64 ((vL b nC).getD j 0))/\b cell=Um/\Shut k fn tn b/\∀P:Nat->Prop,P cell->(∀j,j<k->P (tn j)->P (fn j))->∀x,b x=Um->P x:=by
 obtain⟨a1,n1,d1,rfl⟩:=h1;obtain⟨a3,n3,d3,rfl⟩:=h3;obtain⟨M,hM,hMC,hm⟩:=rJ (P:=prog) 178 4 _ 1 1 nC underlying178 WY E0 E0;have HS:Hid (Sl w q2 (k*3) (fun j=>.int .i64 (ch j))):=hs;have HF:Hid (∀j,j<k->ch (j*3+1)=fn j/\fn j<nC):=hf;have HT:Hid (∀j,j<k->ch (j*3+2)=tn j/\tn j<nC):=ht;have HM:Hid (∀o,Tn ((w.alloc o).alloc (.cells M 4)) (w.heap.size+1) nC 4 (fun _=>.bool Tm)):=fun o=>A90 P0 E0 (fun j hj=>by rw[hMC j E0];simp[Value.cells,Nat.mod_one]);clear hs hf ht hM hMC;have hci:(cell:Int)<(nC:Int):=E0
 go_enter func48,ntmps48
 go_upto_region 2 with fail
 have HW1:Hid (RaW w (.slice q0 nC c0) (.slice a1 n1 d1) (.slice q2 k c2) (.slice a3 n3 d3) nC (fun _=>Tm) ((w.alloc (.cells #[.slice q0 nC c0,.slice a1 n1 d1,.slice q2 k c2,.slice a3 n3 d3] 28)).alloc (.cells M 4))):=⟨((Below.refl _ _).alloc N8 _).alloc P0 _,(row4 w _ _ _ _ _).alloc _,HM.out _⟩;clear hm HM;generalize (w.alloc (.cells #[.slice q0 nC c0,.slice a1 n1 d1,.slice q2 k c2,.slice a3 n3 d3] 28)).alloc (.cells M 4)=W1 at *;have c0':=HW1.out.row.cell (j:=cell) hcell;have f0':=HW1.out.row.frozen cell;have HA0:Hid (SQ nC k fn tn cell 0 0 (mark (fun _=>Tm) cell) (mark (fun _=>Tm) cell)):=SQ.start hcell;have HW2:Hid (RaW w (.slice q0 nC c0) (.slice a1 n1 d1) (.slice q2 k c2) (.slice a3 n3 d3) nC (mark (fun _=>Tm) cell) (W1.setCell ⟨w.heap.size+1,cell,Hn⟩ (.bool Um))):=HW1.out.mark cell;go_wp2_with fail;clear c0' f0' HW1;generalize W1.setCell ⟨w.heap.size+1,cell,Hn⟩ (.bool Um)=W2 at *;go_loopw [6] (fun i wr=>∃r:Nat,r<=nC/\i=.int .i64 r/\∃b,Hid (SQ nC k fn tn cell r 0 b b)/\Hid (RaW w (.slice q0 nC c0) (.slice a1 n1 d1) (.slice q2 k c2) (.slice a3 n3 d3) nC b wr)) (fun i _=>nC-(intOf i).toNat)
 case atStart=>exact⟨0,Pm _,rfl,_,HA0,HW2⟩
 case round=>
  clear HA0 HW2;obtain⟨r,hr,rfl,b,HA,HW⟩:=hrel;have x0:wr.cell? ⟨w.heap.size,0,Hn⟩=Gn (.slice q0 nC c0):=HW.out.box.cell (j:=0) E0;by_cases yo:r<nC
  ·have hri:(r:Int)<(nC:Int):=by omega
   go_wp2_with fail
   clear x0;go_loopw [7] (fun i wr=>∃x:Nat,x<=k/\i=.int .i64 x/\∃b',Hid (SQ nC k fn tn cell r x b b')/\Hid (RaW w (.slice q0 nC c0) (.slice a1 n1 d1) (.slice q2 k c2) (.slice a3 n3 d3) nC b' wr)) (fun i _=>k-(intOf i).toNat)
   case atStart=>exact⟨0,Pm _,rfl,b,HA,HW⟩
   case round=>
    clear HW;obtain⟨x,hx,rfl,b',HA',HW⟩:=hrel;have x2:wr.cell? ⟨w.heap.size,2,Hn⟩=Gn (.slice q2 k c2):=HW.out.box.cell (j:=2) E0;by_cases SY:x<k
    ·have hxi:(x:Int)<(k:Int):=by omega
     obtain⟨cb,co,rfl,hc⟩:=(HS.out.below HW.out.bel).at E0;have e1:=hc (x*3+1) E0;have e2:=hc (x*3+2) E0;rw[(HF.out x SY).1,<-Jm]at e1;rw[(HT.out x SY).1,<-Jm]at e2;clear hc;have ht:=(HT.out x SY).2;have hf:=(HF.out x SY).2;have hti:(tn x:Int)<(nC:Int):=E0;have hfi:(fn x:Int)<(nC:Int):=E0;have b2:=HW.out.row.cell (j:=tn x) ht;have b1:=HW.out.row.cell (j:=fn x) hf;have f1:=HW.out.row.frozen (fn x);by_cases hb:b' (tn x)=Um
     ·have HN:Hid (SQ nC k fn tn cell r (x+1) b (mark b' (fn x))):=HA'.out.mark SY hb hf;have HM:Hid (RaW w (.slice q0 nC c0) (.slice a1 n1 d1) (.slice (Gn ⟨cb,co,Hn⟩) k c2) (.slice a3 n3 d3) nC (mark b' (fn x)) (wr.setCell ⟨w.heap.size+1,fn x,Hn⟩ (.bool Um))):=HW.out.mark _;rw[hb]at b2;generalize tn x=tx at *;generalize fn x=fx at *;go_wp2_with fail;exact⟨⟨x+1,E0,E1,_,HN,HM⟩,U1⟩
     ·have HN:Hid (SQ nC k fn tn cell r (x+1) b b'):=HA'.out.pass hb;rw[Bool.eq_false_iff.2 hb]at b2;generalize tn x=tx at *;go_wp2_with fail;exact⟨⟨x+1,E0,E1,_,HN,HW⟩,U1⟩
    ·obtain rfl:x=k:=by omega
     go_wp2_with fail
     exact⟨⟨r+1,E0,E1,_,HA'.out.next,HW⟩,U1⟩
  ·obtain rfl:r=nC:=by omega
   have HSh:Hid (b cell=Um/\Shut k fn tn b/\∀P:Nat->Prop,P cell->(∀j,j<k->P (tn j)->P (fn j))->∀x,b x=Um->P x):=⟨HA.out.has,HA.out.shut,HA.out.min⟩;clear HA;go_wp2_with fail;clear x0;have HW0:=HW;go_loopw [8,9] (fun o i wr=>∃x:Nat,x<=r/\i=.int .i64 x/\∃p m c,o=.slice p m c/\m<=x/\Hid ((vL b x).length=m/\wr.ownsRow (w.heap.size+2) 3 1 (.slice p m c) m ((vL b x).map (Value.int .i64 ·)))/\Hid (RaW w (.slice q0 r c0) (.slice a1 n1 d1) (.slice q2 k c2) (.slice a3 n3 d3) r b wr)) (fun _ i _=>r-(intOf i).toNat)
   case atStart=>exact⟨0,Pm _,rfl,Hn,0,0,rfl,Om _,⟨rfl,World.ownsRow_nil _ _ _ _⟩,HW⟩
   case round=>
    clear HW HW0;obtain⟨x,hx,rfl,p,m,c,rfl,hmx,HO,HW⟩:=hrel;by_cases SY:x<r
    ·have hxi:(x:Int)<(r:Int):=by omega
     have b2:=HW.out.row.cell (j:=x) SY;by_cases hb:b x=Um
     ·rw[hb]at b2;have HU:Hid (vL b (x+1)=vL b x++[(x:Int)]):=by show _=_;rw[XW,if_pos hb]
      have ju:w.heap.size+2<=wr.heap.size:=HW.out.row.lt;have OW:Hid (∀a,(wr.alloc a).ownsRow (w.heap.size+2) 3 1 (.slice p m c) m ((vL b x).map (Value.int .i64 ·))):=fun a=>xo HO.out.2 ((Below.refl _ _).alloc N8 a);go_wp2_with (at_builtin;refine Eo _ rfl _ _ 26 rfl (w.heap.size+2) 3 _ 1 8 underlying26 pQ rfl E0 (.slice p m c) m ((vL b x).map (Value.int .i64 ·)) rfl (by exact OW.out _) wr.heap.size [_] 3 rfl rfl G2 (by intro u hu;simp at hu;subst hu;rfl) Y1 E0 A1 ?_);intro g2 cp w1 Io Zp _ _;have HN:Hid ((vL b (x+1)).length=m+1/\w1.ownsRow (w.heap.size+2) 3 1 (.slice (Gn ⟨g2,0,Hn⟩) (m+1) cp) (m+1) ((vL b (x+1)).map (Value.int .i64 ·))):=by
       show _/\_;rw[HU.out,List.length_append,HO.out.1,List.map_append];exact⟨rfl,Io⟩
      have kp:∀j,j<w.heap.size+2->w1.heap[j]?=wr.heap[j]?:=fun j hj=>(Zp.block j A1 (fun e=>by have:=(HO.out.2.lt j e.symm).1;omega)).trans (heap_alloc_old _ _ E0);have HM:Hid (RaW w (.slice q0 r c0) (.slice a1 n1 d1) (.slice q2 k c2) (.slice a3 n3 d3) r b w1):=⟨(HW.out.bel.alloc HW.out.bel.size _).grown Zp A1 (fun j hj=>by have:=(HO.out.2.lt j hj).1;omega),HW.out.box.of_heap (kp _ E0),HW.out.row.of_heap (kp _ E0)⟩;clear Io Zp kp;go_wp2_with fail;exact⟨⟨x+1,E0,E1,_,m+1,cp,rfl,E0,HN,HM⟩,U1⟩
     ·rw[Bool.eq_false_iff.2 hb]at b2;have HU:Hid (vL b (x+1)=vL b x):=by show _=_;rw[XW,if_neg hb]
      have HN:Hid ((vL b (x+1)).length=m/\wr.ownsRow (w.heap.size+2) 3 1 (.slice p m c) m ((vL b (x+1)).map (Value.int .i64 ·))):=by show _/\_;rw[HU.out];exact HO.out
      go_wp2_with fail
      exact⟨⟨x+1,E0,E1,p,m,c,rfl,E0,HN,HW⟩,U1⟩
    ·obtain rfl:x=r:=by omega
     go_wp2_with fail
     go_ret;exact⟨p,m,c,b,rfl,HO.out.1.symm,HW.out.bel,yI HO.out.2 HO.out.1,HSh.out⟩
open Go.ChangeShapes Go.WideShapes Go.ChangeAt Go.Deep Go.Joins
section
variable {H:Type}{enc:TypeId×Dn->H}{P:Ym}{w:En}{base:Nat}{Qu:Nat->Bool}{held:Bool}
def AX(P:Ym)(t:TypeId)(d:DataW H):Prop:=∀n∈DataW.weights P t d,n<=reachBytes
theorem JF{e:TypeId}:∀{l:List (DataW H)}{d:DataW H},d∈l->∀n∈d.weights P e,n∈DataW.weightsAll P e l
 |x::l,d,hd,n,hn=>by
  simp only[DataW.weightsAll,List.mem_append];rcases List.mem_cons.1 hd with rfl|h
  ·exact .inl hn
  ·exact .inr (JF h n hn)
theorem gQ{t e:TypeId}{elems sp:List (DataW H)}(hu:P.underlying t=Gn (.slice e))(h:AX P t (.slice elems sp)):
  (elems.length+sp.length)*P.bytesOf e<=reachBytes/\∀d∈elems,AX P e d:=by
 unfold AX at h;simp only[DataW.weights,hu,List.mem_cons,List.mem_append]at h;exact⟨h _ (.inl rfl),fun d hd n hn=>h n (.inr (.inl (JF hd n hn)))⟩
theorem Ww{t t':TypeId}{fs:Array Field}{parts:List (DataW H)}{j:Nat}{d:DataW H}(hu:P.underlying t=Gn (.struct fs))(h:AX P t (.agg parts))(ht:(fs.toList.map (·.type))[j]?=Gn t')(hd:parts[j]?=Gn d):AX P t' d:=by
 unfold AX at h;simp only[DataW.weights,hu]at h;exact fun n hn=>h n (DataW.weights_mem_each ht hd n hn)
theorem OL{t e k bn fuel:Nat}{v:Dn}{x:DataW H×List MemPlace}(ht:P.underlying t=Gn (.slice e))(hce:P.cellsOf e=k)(hk:0<k)(hbe:P.bytesOf e=bn)
  (h:DataW.trod enc P w base Qu held fuel t [v]=Gn x)(VM:AX P t x.1):
  ∃(nl:Bool)(p:Option Vm)(n cap:Nat)(F:Nat->Dn)(D:Nat->DataW H×List MemPlace)(m:Nat),v=.slice p n cap/\n<=cap/\(p=Hn↔nl=Um)/\(p=Hn->n=0/\cap=0)/\bn*n<=140737488355328/\Sl w p (n*k) F/\
   ∀i,i<n->DataW.trod enc P w base Qu held m e ((Hm k).map fun r=>F (i*k+r))=Gn (D i)/\AX P e (D i).1:=by
 rcases open_slice ht h with⟨hcs,rfl⟩|⟨a,len,cap,m,n,D,Pl,hcs,-,hl,-,Y_,rfl,hel⟩
 ·obtain rfl:v=.slice Hn 0 0:=by simpa using hcs
  exact⟨Um,Hn,0,0,fun _=>Bn,fun _=>(.nil,[]),0,rfl,Om _,P0,P0,P0,.inl P0,fun i hi=>absurd hi E0⟩
 ·obtain rfl:v=.slice (Gn a) len cap:=by simpa using hcs
  have hlm:len<=m:=by rw[Y_];split<;>omega
  obtain⟨dE,hw2⟩:=gQ ht VM;rw[hbe]at dE;simp only[List.length_map,List.length_range,reachBytes]at dE;have hb:bn*len<=140737488355328:=by
   have h1:len*bn<=(len+(m-len))*bn:=Nat.mul_le_mul_right _ E0;rw[Nat.mul_comm];omega
  rw[hce]at hel;obtain⟨CS,hCS⟩:=choose_lt (α:=List Dn) (n:=len) (p:=fun i cs=>w.cells? base (a.add (i*k)) k=Gn cs/\DataW.trod enc P w base Qu held n e cs=Gn (D i,Pl i)) (fun i hi=>hel i E0);have hdm:∀i r,r<k->(i*k+r)/k=i/\(i*k+r)%k=r:=fun i r hr=>⟨by rw[Nat.mul_comm,Nat.mul_add_div hk,Nat.div_eq_of_lt hr,Nat.add_zero],by rw[Nat.mul_comm,Nat.mul_add_mod,Nat.mod_eq_of_lt hr]⟩;have hcell:∀j,j<len*k->w.cell? (a.add j)=Gn ((CS (j/k))[j%k]!):=fun j hj=>by
   have hi:j/k<len:=(Nat.div_lt_iff_lt_mul hk).2 hj;have hr:j%k<k:=Nat.mod_lt _ hk;obtain⟨_,iy,hc⟩:=World.cells?_some (hCS (j/k) hi).1;have h3:=hc (j%k) hr;rw[add_add,show j/k*k+j%k=j by rw[Nat.mul_comm];exact Nat.div_add_mod j k]at h3;rw[h3];simp[iy,hr]
  refine⟨Tm,Gn a,len,cap,fun j=>(CS (j/k))[j%k]!,fun i=>(D i,Pl i),n,rfl,hl,P0,P0,hb,?_,fun i hi=>⟨?_,hw2 _ (List.mem_map.2 ⟨i,List.mem_range.2 hi,rfl⟩)⟩⟩
  ·by_cases h0:len*k=0
   ·exact .inl h0
   ·obtain⟨b,off,spot⟩:=a;have Ak0:spot=none:=by simpa[Addr.add]using World.cell?_spot (hcell 0 E0)
    subst Ak0;exact .inr ⟨b,off,rfl,fun j hj=>by rw[<-add_plain];exact hcell j hj⟩
  ·obtain⟨h1,h2⟩:=hCS i hi;obtain⟨_,iy,_⟩:=World.cells?_some h1;rw[<-h2];congr 1;apply List.ext_getElem?;intro r;by_cases hr:r<k
   ·have:=hdm i r hr;simp[hr,this.1,Nat.mod_eq_of_lt hr,iy]
   ·simp[hr,iy]
def O00(enc:TypeId×Dn->H)(P:Ym)(w:En)(base:Nat)(Qu:Nat->Bool)(held:Bool)(e k:Nat):Prop:=
 ∀fuel cs x,DataW.trod enc P w base Qu held fuel e cs=Gn x->∀r,r<k->∃n:Int,cs[r]?=Gn (.int .i64 n)/\-9223372036854775808<=n/\n<=9223372036854775807
theorem zJ{t e k bn fuel:Nat}{v:Dn}{x:DataW H×List MemPlace}(ht:P.underlying t=Gn (.slice e))(hce:P.cellsOf e=k)(hk:0<k)(hbe:P.bytesOf e=bn)(hn:O00 enc P w base Qu held e k)
  (h:DataW.trod enc P w base Qu held fuel t [v]=Gn x)(VM:AX P t x.1):
  ∃(nl:Bool)(n:Nat)(z:Nat->Int),FC w v nl n k z bn/\∀j,j<n*k->-9223372036854775808<=z j/\z j<=9223372036854775807:=by
 obtain⟨nl,p,n,cap,F,D,m,h1,h2,h3,h4,h5,h6,h7⟩:=OL ht hce hk hbe h VM;obtain⟨z,hz⟩:=choose_lt (α:=Int) (n:=n*k) (p:=fun j y=>F j=.int .i64 y/\-9223372036854775808<=y/\y<=9223372036854775807) (fun j hj=>by
  have hi:j/k<n:=(Nat.div_lt_iff_lt_mul hk).2 hj;have hr:j%k<k:=Nat.mod_lt _ hk;obtain⟨y,hy,hb⟩:=hn _ _ _ (h7 (j/k) hi).1 (j%k) hr;rw[List.getElem?_map,List.getElem?_range hr]at hy;simp only[Option.map_some,Option.some.injEq]at hy;rw[show j/k*k+j%k=j by rw[Nat.mul_comm];exact Nat.div_add_mod j k]at hy;exact⟨y,hy,hb⟩)
 exact⟨nl,n,z,⟨p,cap,h1,h2,h3,h4,h5,h6.congr (fun j hj=>(hz j hj).1)⟩,fun j hj=>(hz j hj).2⟩
end
section
variable {H:Type}{enc:TypeId×Dn->H}{w:En}{base:Nat}{Qu:Nat->Bool}{held:Bool}
theorem IB:prog.cellsOf 3=1:=J0
theorem lR:prog.cellsOf 2=1:=J0
theorem Li0:prog.cellsOf 97=4:=J0
theorem Ni0:prog.cellsOf 102=2:=J0
theorem Je0:prog.cellsOf 138=3:=J0
theorem Ie0:prog.cellsOf 53=3:=J0
theorem Mi0:prog.cellsOf 100=1:=J0
theorem Ji0:prog.cellsOf 28=4:=J0
theorem Ke0:prog.cellsOf 50=1:=J0
theorem Ki0:prog.cellsOf 51=1:=J0
theorem jb0:prog.cellsOf 23=1:=J0
theorem lb0:prog.cellsOf 24=1:=J0
theorem kb0:prog.cellsOf 25=1:=J0
theorem Le0:prog.cellsOf 26=1:=J0
theorem Bl0:prog.bytesOf 3=8:=J0
theorem Fc0:prog.bytesOf 2=8:=J0
theorem Al0:prog.bytesOf 97=32:=J0
theorem Dl0:prog.bytesOf 102=16:=J0
theorem Tg0:prog.bytesOf 138=24:=J0
theorem Sg0:prog.bytesOf 53=56:=J0
theorem Cl0:prog.bytesOf 100=24:=J0
theorem Wk0{t:Nat}(ht:prog.underlying t=Gn (.int .i64)):O00 enc prog w base Qu held t 1:=by
 intro fuel cs x h r hr;obtain rfl:r=0:=E0;obtain⟨n,rfl,-,hw⟩:=DataW.trod_int ht h;exact⟨n,rfl,bounds_i64 hw⟩
theorem ku{fuel t off c:Nat}{cs:List Dn}{y:DataW H×List MemPlace}(ht:prog.underlying t=Gn (.int .i64))(hc:prog.cellsOf t=c)(h1:c=1)
  (h:DataW.trod enc prog w base Qu held fuel t ((cs.drop off).take (prog.cellsOf t))=Gn y):∃n:Int,cs[off]?=Gn (.int .i64 n)/\-9223372036854775808<=n/\n<=9223372036854775807:=by
 obtain⟨n,e,-,hw⟩:=DataW.trod_int ht h;rw[hc,h1]at e;refine⟨n,?_,bounds_i64 hw⟩;have:=congrArg (fun l=>l[0]?) e;exact Vd
theorem b90:O00 enc prog w base Qu held 97 4:=by
 intro fuel cs x h r hr;obtain⟨y0,y1,y2,y3,n,-,-,h0,h1,h2,h3⟩:=trod_struct4 underlying97 h;have:r=0\/r=1\/r=2\/r=3:=E0;rcases this with rfl|rfl|rfl|rfl
 ·exact Vg
 ·exact Rj
 ·exact ku underlying3 IB rfl h2
 ·exact ku underlying2 lR rfl h3
theorem N20:O00 enc prog w base Qu held 138 3:=by
 intro fuel cs x h r hr;obtain⟨y0,y1,y2,n,-,-,h0,h1,h2⟩:=trod_struct3 underlying138 h;have:r=0\/r=1\/r=2:=E0;rcases this with rfl|rfl|rfl
 ·exact Vg
 ·exact Rj
 ·exact ku underlying3 IB rfl h2
theorem c90:O00 enc prog w base Qu held 102 2:=by
 intro fuel cs x h r hr;obtain⟨y0,y1,n,-,-,h0,h1⟩:=trod_struct2 underlying102 h;have:r=0\/r=1:=E0;rcases this with rfl|rfl
 ·exact Vg
 ·exact Rj
structure k60(w:En)(a b d:Dn)(x:(Bool×Nat×(Nat->Int))×(Bool×Nat×(Nat->Int))×Int):Prop where
 code:FC w a x.1.1 x.1.2.1 4 x.1.2.2 32
 fits:∀j,j<x.1.2.1*4->-9223372036854775808<=x.1.2.2 j/\x.1.2.2 j<=9223372036854775807
 img:FC w b x.2.1.1 x.2.1.2.1 1 x.2.1.2.2 8
 lim:d=.int .i64 x.2.2
theorem R20{fuel:Nat}{a b d:Dn}{x:DataW H×List MemPlace}(h:DataW.trod enc prog w base Qu held fuel 53 [a,b,d]=Gn x)(hf:AX prog 53 x.1):∃y,k60 w a b d y:=by
 obtain⟨y0,y1,y2,n,rfl,-,h0,h1,h2⟩:=trod_struct3 underlying53 h;have f0:=Ww (j:=0) underlying53 hf rfl rfl;have f1:=Ww (j:=1) underlying53 hf rfl rfl;rw[Ke0]at h0;rw[Ki0]at h1;rw[IB]at h2;obtain⟨nl,k,z,hz,hw⟩:=zJ underlying50 Li0 E0 Al0 b90 h0 f0;obtain⟨nl2,k2,z2,zu,_⟩:=zJ underlying51 lR E0 Fc0 (Wk0 underlying2) h1 f1;obtain⟨l,e,-,-⟩:=DataW.trod_int underlying3 h2;exact⟨((nl,k,z),(nl2,k2,z2),l),hz,hw,zu,by simpa using e⟩
theorem h90{fuel:Nat}{a b d f:Dn}{x:DataW H×List MemPlace}(h:DataW.trod enc prog w base Qu held fuel 28 [a,b,d,f]=Gn x)(hf:AX prog 28 x.1):∃c:Ur,Zx w a b d f c/\TK c:=by
 obtain⟨y0,y1,y2,y3,n,rfl,-,h0,h1,h2,h3⟩:=trod_struct4 underlying28 h;have f0:=Ww (j:=0) underlying28 hf rfl rfl;have f1:=Ww (j:=1) underlying28 hf rfl rfl;have f2:=Ww (j:=2) underlying28 hf rfl rfl;have f3:=Ww (j:=3) underlying28 hf rfl rfl;rw[jb0]at h0;rw[lb0]at h1;rw[kb0]at h2;rw[Le0]at h3;obtain⟨l0,p0,n0,yp,F0,D0,m0,a1,a2,a3,a4,a5,a6,a7⟩:=OL underlying23 Ie0 E0 Sg0 h0 f0;obtain⟨l1,p1,n1,gp,F1,D1,m1,b1,b2,b3,b4,b5,b6,b7⟩:=OL underlying24 Mi0 E0 Cl0 h1 f1;obtain⟨l2,n2,z2,zu,_⟩:=zJ underlying25 Je0 E0 Tg0 N20 h2 f2;obtain⟨l3,n3,z3,JL,_⟩:=zJ underlying26 IB E0 Bl0 (Wk0 underlying3) h3 f3;obtain⟨Y,hY⟩:=choose_lt (α:=(Bool×Nat×(Nat->Int))×(Bool×Nat×(Nat->Int))×Int) (n:=n0) (p:=fun i y=>k60 w (F0 (i*3)) (F0 (i*3+1)) (F0 (i*3+2)) y) (fun i hi=>by
  obtain⟨q1,q2⟩:=a7 i hi;exact R20 q1 q2)
 obtain⟨R,hR⟩:=choose_lt (α:=Bool×Nat×(Nat->Int)) (n:=n1) (p:=fun i y=>FC w (F1 i) y.1 y.2.1 2 y.2.2 16) (fun i hi=>by
  obtain⟨q1,q2⟩:=b7 i hi;have q1':DataW.trod enc prog w base Qu held m1 100 [F1 i]=Gn (D1 i):=by simpa using q1
  obtain⟨nl,k,z,hz,_⟩:=zJ underlying100 Ni0 E0 Dl0 c90 q1' q2;exact⟨(nl,k,z),hz⟩)
 refine⟨⟨l0,n0,fun i=>(Y i).2.2,fun i=>(Y i).1.1,fun i=>(Y i).1.2.1,fun i=>(Y i).1.2.2,fun i=>(Y i).2.1.1,fun i=>(Y i).2.1.2.1,fun i=>(Y i).2.1.2.2,l1,n1,fun i=>(R i).1,fun i=>(R i).2.1,fun i=>(R i).2.2,l2,n2,z2,l3,n3,z3⟩,⟨⟨p0,yp,F0,a1,a2,a3,a4,a5,a6,fun i hi=>⟨(hY i hi).code,(hY i hi).img,(hY i hi).lim⟩⟩,⟨p1,gp,F1,b1,b2,b3,b4,b5,by simpa using b6,fun i hi=>hR i hi⟩,zu,JL⟩,fun i hi j hj=>(hY i hi).fits j hj⟩
end
end Go.Proofs.YtdoghgnifkgfdaaGreat
namespace Go.Proofs.YtdoghgnifkgfdaaGreat.Mute
open Tryz Go Go.Conc Go.RowKit
structure Calm(L:Bt)(other:Nat->Obj->Prop)(w:En)(g:Nat):Prop where
 there:∃o,w.heap[g]?=Gn o
 nc:g≠L.c
 no:∀o,w.heap[g]?=Gn o->¬other g o
def zH(mine:Nat->Obj->Prop)(w:En)(g:Nat):Prop:=∀o,w.heap[g]?=Gn o->mine g o
section
variable {L:Bt}{mine other:Nat->Obj->Prop}{w w':En}{g g' m m' t t':Nat}{f f':Nat->Dn}
theorem Calm.stands(h:Calm L other w g)(r:Rq L other w w'):w'.heap[g]?=w.heap[g]?:=by
 obtain⟨o,ho⟩:=h.there;rw[ho,r.keep ho h.nc (h.no o ho)]
theorem Calm.rely(h:Calm L other w g)(r:Rq L other w w'):Calm L other w' g:=by
 have e:=h.stands r;exact⟨by rw[e];exact h.there,h.nc,by rw[e];exact h.no⟩
theorem zH.rely(hm:zH mine w g)(h:Calm L other w g)(r:Rq L other w w'):zH mine w' g:=by
 unfold zH;rw[h.stands r];exact hm
theorem Calm.turn(to:oy L other)(h:Calm L other w g)(r:Rq L mine w w'):Calm L other w' g:=by
 obtain⟨o,ho⟩:=h.there;obtain⟨o',h1,h2,_⟩:=r.at_ g o ho;refine⟨⟨o',h1⟩,h.nc,fun x hx eE=>h.no o ho (to g x o (fun hc=>?_) eE)⟩;rw[h1]at hx;cases hx;exact(h2 hc).symm
theorem zH.turn(tm:oy L mine){who:Nat->Obj->Prop}(hm:zH mine w g)(ht:∃o,w.heap[g]?=Gn o)(r:Rq L who w w'):zH mine w' g:=by
 obtain⟨o,ho⟩:=ht;obtain⟨o',h1,h2,_⟩:=r.at_ g o ho;intro x hx;rw[h1]at hx;cases hx;exact tm g o o' h2 (hm o ho)
structure Rw(L:Bt)(other:Nat->Obj->Prop)(w:En)(g m t:Nat)(f:Nat->Dn):Prop where
 row:Tn w g m t f
 calm:Calm L other w g
theorem Rw.rely(h:Rw L other w g m t f)(r:Rq L other w w'):Rw L other w' g m t f:=⟨h.row.of_heap (h.calm.stands r),h.calm.rely r⟩
theorem Rw.cell(h:Rw L other w g m t f){j:Nat}(hj:j<m):w.cell? ⟨g,j,Hn⟩=Gn (f j):=h.row.cell hj
theorem Rw.look(h:Rw L other w g m t f)(j:Nat):WA L mine other w ⟨.cell ⟨g,j,Hn⟩,Tm,Tm⟩:=by
 obtain⟨o,ho⟩:=h.calm.there;exact WA.read (a:=⟨g,j,Hn⟩) ho (h.calm.no o ho)
structure Ow(L:Bt)(mine other:Nat->Obj->Prop)(w:En)(g m t:Nat)(f:Nat->Dn):Prop where
 rw:Rw L other w g m t f
 own:zH mine w g
theorem Ow.rely(h:Ow L mine other w g m t f)(r:Rq L other w w'):Ow L mine other w' g m t f:=⟨h.rw.rely r,h.own.rely h.rw.calm r⟩
theorem Ow.cell(h:Ow L mine other w g m t f){j:Nat}(hj:j<m):w.cell? ⟨g,j,Hn⟩=Gn (f j):=h.rw.cell hj
theorem Ow.frozen(h:Ow L mine other w g m t f)(j:Nat):w.frozen? ⟨g,j,Hn⟩=false:=h.rw.row.frozen j
theorem Ow.look(h:Ow L mine other w g m t f)(j:Nat):WA L mine other w ⟨.cell ⟨g,j,Hn⟩,Tm,Tm⟩:=h.rw.look j
theorem Ow.Ss(h:Ow L mine other w g m t f)(j:Nat)(v:Dn):Rq L mine w (w.setCell ⟨g,j,Hn⟩ v):=by
 obtain⟨o,ho⟩:=h.rw.calm.there;exact .set w _ v o ho (h.own o ho)
theorem Ow.does(tm:oy L mine)(to:oy L other)(h:Ow L mine other w g m t f)(j:Nat)(v:Dn){es:Array Event}(Eu:∀e∈es,e=⟨.cell ⟨g,j,Hn⟩,Um,Tm⟩):Does L mine other w (w.setCell ⟨g,j,Hn⟩ v) es:=by
 obtain⟨o,ho⟩:=h.rw.calm.there;exact .set tm to ho h.rw.calm.nc (h.own o ho) fun e he=>by rw[Eu e he];exact WA.write (a:=⟨g,j,Hn⟩) ho (h.rw.calm.no o ho) (h.own o ho)
theorem Ow.set(tm:oy L mine)(to:oy L other)(h:Ow L mine other w g m t f)(j:Nat)(v:Dn):Ow L mine other (w.setCell ⟨g,j,Hn⟩ v) g m t (fun i=>if i=j then v else f i):=
 ⟨⟨h.rw.row.set j v,h.rw.calm.turn to (h.Ss j v)⟩,h.own.turn tm h.rw.calm.there (h.Ss j v)⟩
theorem Ow.congr(h:Ow L mine other w g m t f)(hf:∀j,j<m->f j=f' j):Ow L mine other w g m t f':=⟨⟨h.rw.row.congr hf,h.rw.calm⟩,h.own⟩
theorem Fz(h:Tn w g m t f)(h':Tn w g' m' t' f')(ht:t≠t'):g≠g':=fun e=>by
 subst e;obtain⟨cs,h1,_⟩:=h;obtain⟨cs',h1',_⟩:=h';rw[h1]at h1';cases h1';exact ht rfl
theorem Rw.apart(to:oy L other)(h':Rw L other w g' m' t' f')(h:Ow L mine other w g m t f)(j:Nat)(v:Dn)(ht:t≠t'):Rw L other (w.setCell ⟨g,j,Hn⟩ v) g' m' t' f':=
 ⟨h'.row.other _ _ (Fz h.rw.row h'.row ht),h'.calm.turn to (h.Ss j v)⟩
theorem Ow.apart(tm:oy L mine)(to:oy L other)(h':Ow L mine other w g' m' t' f')(h:Ow L mine other w g m t f)(j:Nat)(v:Dn)(ht:t≠t'):Ow L mine other (w.setCell ⟨g,j,Hn⟩ v) g' m' t' f':=
 ⟨h'.rw.apart to h j v ht,h'.own.turn tm h'.rw.calm.there (h.Ss j v)⟩
theorem Rw.alloc(to:oy L other)(h:Rw L other w g m t f)(o:Obj):Rw L other (w.alloc o) g m t f:=⟨h.row.alloc o,h.calm.turn (mine:=fun _ _=>True) to (.alloc w o)⟩
theorem Ow.alloc(tm:oy L mine)(to:oy L other)(h:Ow L mine other w g m t f)(o:Obj):Ow L mine other (w.alloc o) g m t f:=⟨h.rw.alloc to o,h.own.turn tm h.rw.calm.there (.alloc (mine:=mine) w o)⟩
end
section
variable {L:Bt}{w:En}
theorem ug0(hB:L.B<=w.heap.size)(hc:L.c<w.heap.size)(cs:Array Dn)(t:Nat)(f:Nat->Dn)(ht:(t==L.ev)=Tm)(hf:∀j,j<cs.size->cs[j]?=Gn (f j)):Ow L L.send L.main (w.alloc (.cells cs t)) w.heap.size cs.size t f:=by
 have hn:(w.alloc (.cells cs t)).heap[w.heap.size]?=Gn (.cells cs t (0,0)):=heap_alloc_new w _;refine⟨⟨.new w cs t f hf,⟨_,hn⟩,E0,fun o ho hm=>?_⟩,fun o ho=>?_⟩
 ·rw[hn]at ho;cases ho;rcases hm.2 with⟨h,_⟩|⟨_,h⟩
  ·omega
  ·simp[mL,ht]at h
 ·rw[hn]at ho;cases ho;exact⟨E0,.inr ⟨hB,by simpa[mL]using ht⟩⟩
end
structure Jp where
 g:Nat
 m:Nat
 t:Nat
 f:Nat->Dn
def upd(f:Nat->Dn)(j:Nat)(v:Dn)(i:Nat):Value:=if i=j then v else f i
theorem upd_same(f:Nat->Dn)(j:Nat)(v:Dn):upd f j v j=v:=if_pos rfl
theorem upd_ne(f:Nat->Dn){i j:Nat}(v:Dn)(h:i≠j):upd f j v i=f i:=if_neg h
def Jp.put(r:Jp)(j:Nat)(v:Dn):Jp:={r with f:=upd r.f j v}
def Bt.both(L:Bt)(b:Nat)(o:Obj):Prop:=L.main b o\/L.send b o
theorem Rq.mono{L:Bt}{who who':Nat->Obj->Prop}{w w':En}(h:Rq L who w w')(hm:∀b o,who b o->who' b o):Rq L who' w w':=
 ⟨h.os,h.out,h.tape,h.size,fun b o ho=>by
  obtain⟨o',h1,h2,h3⟩:=h.at_ b o ho;exact⟨o',h1,h2,fun hc hn=>h3 hc fun hw=>hn (hm b o hw)⟩⟩
structure Kn(L:Bt)(w0:En)(rows:List Jp)(w:En):Prop where
 ph:Rq L L.both w0 w
 row:∀(i:Nat)(r:Jp),rows[i]?=Gn r->Ow L L.send L.main w r.g r.m r.t r.f
 pw:∀(i j:Nat)(r s:Jp),rows[i]?=Gn r->rows[j]?=Gn s->i≠j->r.g≠s.g
 hB:L.B<=w.heap.size
 hc:L.c<w.heap.size
structure Bq(L:Bt)(w:En)(b:Nat):Prop where
 there:∃o,w.heap[b]?=Gn o
 nc:b≠L.c
 no:∀o,w.heap[b]?=Gn o->¬L.both b o
section
variable {L:Bt}{w0 w w':En}{rows:List Jp}{i j:Nat}{r:Jp}
theorem Kn.rely(h:Kn L w0 rows w)(hr:L.R1 w w'):Kn L w0 rows w':=
 ⟨h.ph.trans (hr.mono fun _ _ x=>.inl x),fun i r hi=>(h.row i r hi).rely hr,h.pw,Qm h.hB hr.size,Lm h.hc hr.size⟩
theorem Kn.cell(h:Kn L w0 rows w)(hi:rows[i]?=Gn r)(hj:j<r.m):w.cell? ⟨r.g,j,Hn⟩=Gn (r.f j):=(h.row i r hi).cell hj
theorem Kn.frozen(h:Kn L w0 rows w)(hi:rows[i]?=Gn r)(j:Nat):w.frozen? ⟨r.g,j,Hn⟩=false:=(h.row i r hi).frozen j
theorem Kn.look(h:Kn L w0 rows w)(hi:rows[i]?=Gn r)(j:Nat):WA L L.send L.main w ⟨.cell ⟨r.g,j,Hn⟩,Tm,Tm⟩:=(h.row i r hi).look j
section
variable (h:Kn L w0 rows w)
include h
theorem Kn.looks(hi:rows[i]?=Gn r){es:Array Event}(Eu:∀e∈es,∃j,e=⟨.cell ⟨r.g,j,Hn⟩,Tm,Tm⟩):L.D1 w w es:=
 .look w fun e he=>by obtain⟨j,rfl⟩:=Eu e he;exact h.look hi j
theorem Kn.still{b:Nat}(hs:Bq L w0 b):w.heap[b]?=w0.heap[b]?:=by
 exact vg
theorem Kn.Xo{a:Vm}(hs:Bq L w0 a.block):w.cell? a=w0.cell? a:=by
 unfold World.cell?;rw[h.still hs]
theorem Kn.zp{b:Nat}(hs:Bq L w0 b){es:Array Event}(Eu:∀e∈es,∃j,e=⟨.cell ⟨b,j,Hn⟩,Tm,Tm⟩):L.D1 w w es:=
 .look w fun e he=>by
  obtain⟨o,ho⟩:=hs.there;obtain⟨j,rfl⟩:=Eu e he;exact WA.read (a:=⟨b,j,Hn⟩) (by rw[h.still hs];exact ho) fun hm=>hs.no o ho (.inl hm)
end
theorem Kn.does(h:Kn L w0 rows w)(hi:rows[i]?=Gn r)(j:Nat)(v:Dn){es:Array Event}(Eu:∀e∈es,e=⟨.cell ⟨r.g,j,Hn⟩,Um,Tm⟩):L.D1 w (w.setCell ⟨r.g,j,Hn⟩ v) es:=
 (h.row i r hi).does L.Dp L.Ap j v Eu
theorem ao(hi:rows[i]?=Gn r)(r':Jp):(rows.set i r')[i]?=Gn r':=by
 have:=(List.getElem?_eq_some_iff.1 hi).1;simp[this]
theorem Fo{k:Nat}(hk:k≠i)(r':Jp):(rows.set i r')[k]?=rows[k]?:=by
 rw[List.getElem?_set_ne (Ne.symm hk)]
theorem Kn.set(h:Kn L w0 rows w)(hi:rows[i]?=Gn r)(j:Nat)(v:Dn):Kn L w0 (rows.set i (r.put j v)) (w.setCell ⟨r.g,j,Hn⟩ v):=by
 have ho:=h.row i r hi;have ht:=ho.Ss j v;refine⟨h.ph.trans (ht.mono fun _ _ x=>.inr x),fun k s hk=>?_,fun a b x y ha hb YR=>?_,P6,Q6⟩
 ·by_cases EY:k=i
  ·subst EY;rw[ao hi]at hk;cases hk;exact ho.set L.Dp L.Ap j v
  ·rw[Fo EY]at hk;have hs:=h.row k s hk;exact⟨⟨hs.rw.row.other _ _ (h.pw i k r s hi hk (Ne.symm EY)),hs.rw.calm.turn L.Ap ht⟩,hs.own.turn L.Dp hs.rw.calm.there ht⟩
 ·have key:∀(c:Nat)(x:Jp),(rows.set i (r.put j v))[c]?=Gn x->∃x':Jp,rows[c]?=Gn x'/\x'.g=x.g:=fun c x hx=>by
   by_cases hci:c=i
   ·subst hci;rw[ao hi]at hx;cases hx;exact⟨r,hi,rfl⟩
   ·rw[Fo hci]at hx;exact⟨x,hx,rfl⟩
  exact Jd
theorem Kn.congr(h:Kn L w0 (rows.set i r) w){r':Jp}{q:Jp}(hi:rows[i]?=Gn q)(hg:r'.g=r.g)(hm:r'.m=r.m)(ht:r'.t=r.t)(hf:∀j,j<r.m->r.f j=r'.f j):Kn L w0 (rows.set i r') w:=by
 refine⟨h.ph,fun k s hk=>?_,fun a b x y ha hb YR=>?_,h.hB,h.hc⟩
 ·by_cases EY:k=i
  ·subst EY;rw[ao hi]at hk;cases hk;have:=h.row k r (ao hi r);rw[hg,hm,ht];exact this.congr hf
  ·rw[Fo EY]at hk;exact h.row k s (by rw[Fo EY];exact hk)
 ·have key:∀(c:Nat)(x:Jp),(rows.set i r')[c]?=Gn x->∃x':Jp,(rows.set i r)[c]?=Gn x'/\x'.g=x.g:=fun c x hx=>by
   by_cases hci:c=i
   ·subst hci;rw[ao hi]at hx;cases hx;exact⟨r,ao hi r,hg.symm⟩
   ·rw[Fo hci]at hx;exact⟨x,by rw[Fo hci];exact hx,rfl⟩
  exact Jd
theorem Kn.alloc(h:Kn L w0 rows w)(cs:Array Dn)(t:Nat)(f:Nat->Dn)(ht:(t==L.ev)=Tm)(hf:∀j,j<cs.size->cs[j]?=Gn (f j)):Kn L w0 (rows++[⟨w.heap.size,cs.size,t,f⟩]) (w.alloc (.cells cs t)):=by
 have yo:∀(k:Nat)(s:Jp),rows[k]?=Gn s->s.g<w.heap.size:=fun k s hk=>(h.row k s hk).rw.row.lt;have key:∀(k:Nat)(s:Jp),(rows++[⟨w.heap.size,cs.size,t,f⟩])[k]?=Gn s->rows[k]?=Gn s\/(k=rows.length/\s=⟨w.heap.size,cs.size,t,f⟩):=fun k s hk=>by
  rcases Nat.lt_trichotomy k rows.length with hl|rfl|hl
  ·rw[Em hl]at hk;exact .inl hk
  ·rw[List.getElem?_append_right (Om _)]at hk;simp at hk;exact .inr ⟨rfl,hk.symm⟩
  ·rw[List.getElem?_eq_none A1]at hk;cases hk
 refine⟨h.ph.trans (.alloc w _),fun k s hk=>?_,fun a b x y ha hb YR=>?_,by simp;have:=h.hB;omega,by simp;have:=h.hc;omega⟩
 ·rcases key k s hk with hk|⟨_,rfl⟩
  ·exact(h.row k s hk).alloc L.Dp L.Ap _
  ·exact ug0 h.hB h.hc cs t f ht hf
 ·rcases key a x ha with ha|⟨ea,rfl⟩<;>rcases key b y hb with hb|⟨eb,rfl⟩
  ·exact h.pw a b x y ha hb YR
  ·have:=yo a x ha;show x.g≠w.heap.size;omega
  ·have:=yo b y hb;show w.heap.size≠y.g;omega
  ·omega
theorem Kn.Tt(h:Kn L w0 rows w)(o:Obj){es:Array Event}(Eu:∀e∈es,False):L.D1 w (w.alloc o) es:=
 .alloc L.Dp L.Ap h.hc fun e he=>(Eu e he).elim
theorem Kn.drop{ex:List Jp}(h:Kn L w0 (rows++ex) w):Kn L w0 rows w:=by
 have key:∀(k:Nat)(s:Jp),rows[k]?=Gn s->(rows++ex)[k]?=Gn s:=fun k s hk=>by
  have:=(List.getElem?_eq_some_iff.1 hk).1;rw[Em this];exact hk
 exact⟨h.ph,fun k s hk=>h.row k s (key k s hk),fun a b x y ha hb=>h.pw a b x y (key a x ha) (key b y hb),h.hB,h.hc⟩
theorem Aq{ex:List Jp}(hi:rows[i]?=Gn r):(rows++ex)[i]?=Gn r:=by
 have:=(List.getElem?_eq_some_iff.1 hi).1;rw[Em this];exact hi
theorem Kn.DR(h:Kn L w0 rows w)(hi:rows[i]?=Gn r)(ht:Rq L L.send w w')(nH:w'.heap[L.c]?=w.heap[L.c]?){es:Array Event}(Eu:∀e∈es,∃j wr,e=⟨.cell ⟨r.g,j,Hn⟩,wr,Tm⟩):L.D1 w w' es:=by
 have ho:=h.row i r hi;obtain⟨o,hg⟩:=ho.rw.calm.there;refine⟨ht,nH,fun e he=>?_⟩;obtain⟨j,wr,rfl⟩:=Eu e he;obtain⟨o',h1,h2,_⟩:=ht.at_ r.g o hg;have hn:¬L.main r.g o':=fun hm=>ho.rw.calm.no o hg (L.Ap r.g o' o (fun hc=>(h2 hc).symm) hm);cases wr with
 |false=>exact WA.read (a:=⟨r.g,j,Hn⟩) h1 hn
 |true=>exact WA.write (a:=⟨r.g,j,Hn⟩) h1 hn (L.Dp r.g o o' h2 (ho.own o hg))
theorem Kn.Ss(h:Kn L w0 rows w)(hi:rows[i]?=Gn r)(j:Nat)(v:Dn):Rq L L.send w (w.setCell ⟨r.g,j,Hn⟩ v):=(h.row i r hi).Ss j v
theorem Kn.Yx(h:Kn L w0 rows w)(hi:rows[i]?=Gn r)(j:Nat)(v:Dn):(w.setCell ⟨r.g,j,Hn⟩ v).heap[L.c]?=w.heap[L.c]?:=by
 have:=(h.row i r hi).rw.calm.nc;simp only[World.setCell,Array.getElem?_modify,if_neg this]
theorem ux(x:Jp):(rows++[x])[rows.length]?=Gn x:=P0
end
section
variable {P:Ym}{main:Bool}{R:En->En->Prop}{D:En->En->Array Event->Prop}{b:Xm}{a:Act}{k:List Item}{cs:List Xm}{w:En}
theorem TN{fn:Func}{todo:List Item}{c:Xm}{v:Dn}(hn:b.kind=.normal)(hd:a.defers=[])(hf:P.funcs[b.fn]?=Gn fn)(hr:(results fn a.tmps).run P w=.ok v w):
  stepG P main (G {b.at a todo with mode:=.returning} (c::cs)) w=.go (G (c.finish v) cs) w (seen P b.fn ((results fn a.tmps).events P w #[])):=by
 simp[G,stepG,unwind,doReturn,Frame.at,hn,hd,hf,hr,GStep.after]
def yw(P:Ym)(R:En->En->Prop)(D:En->En->Array Event->Prop)(f:FuncId)(fn:Func)(tmps:Array Dn)(w:En)(v:Dn):Prop:=
 ∀w₁,R w w₁->(results fn tmps).run P w₁=.ok v w₁/\D w₁ w₁ (seen P f ((results fn tmps).events P w₁ #[]))
end
section
variable (P:Ym)(main:Bool)(R:En->En->Prop)(D:En->En->Array Event->Prop)
def Ao(f:FuncId)(args:Array Dn)(w:En)(Post:Dn->En->Prop)(Die:List PanicEntry->En->Prop):Prop:=
 ∀(c:Xm)(cs:List Xm)(Bo:zn->En->Prop),(∀v w',Post v w'->Pn P main R D Bo (G (c.finish v) cs) w')->(∀ch w',Die ch w'->Pn P main R D Bo (G (c.raise ch) cs) w')->Pn P main R D Bo (G (Frame.enter P f args .normal) (c::cs)) w
def vU(md:Region.Mode)(ops:Array Oper)(listed:Array Bool):Prop:=∀(k:Nat)(o:Oper),ops[k]?=Gn o->listed.getD k Tm=Um->∀e∈o.after,Region.binds md e=Um->listed.getD e.on Tm=Um
def JU(md:Region.Mode)(ops:Array Oper)(listed:Array Bool):Bool:=(Hm ops.size).all fun k=>!listed.getD k Tm || (ops.getD k default).after.all fun e=>!Region.binds md e || listed.getD e.on Tm
def XA(md:Region.Mode)(ops:Array Oper)(j:Nat):Prop:=∀(listed:Array Bool)(k:Nat),vU md ops listed->j∈Region.ready md ops listed->k≠j->k<ops.size->listed.getD k Um=Um
def wU(fn:FuncId)(md:Region.Mode)(ops:Array Oper)(Die:List PanicEntry->En->Prop)(Tail:Nat->Act->En->Prop)(i:Nat)(K:Act->En->Prop)(a:Act)(w:En):Prop:=
 match ops[i]? with
 |none=>False
 |some o=>if Region.wanted o (yielded ops a.tmps) then
   (∀w₁,R w w₁->uponK o a (fun a' w'=>D w₁ w' (listed P fn a o w₁)/\K a' w') ((execOp a.eval o).run P w₁))\/
   (∃ f args EL MR c, o.op = .call { callee := .value (.func f), args, argTypes := EL } /\ P.funcs[f]? = Gn MR /\ (MR.name == "runtime.NumGoroutine") = Tm /\ MR.body = Gn c /\
    Ao P main R D f (args.map a.eval) w (fun v w'=>K (a.put o.dst v) w') Die)\/
   (XA md ops i/\Tail i a w)
  else K (a.put o.dst Bn) w
def Wy(fn:FuncId)(md:Region.Mode)(ops:Array Oper)(Q:Act->En->Prop)(Die:List PanicEntry->En->Prop)(Tail:Nat->Act->En->Prop)(S:En->Prop):Nat->Array Bool->Act->En->Prop
 |0,listed,a,w=>Region.ready md ops listed=[]/\Q a w
 |fuel+1,listed,a,w=>(Region.ready md ops listed=[]->Q a w)/\
  ∀i∈Region.ready md ops listed,wU P main R D fn md ops Die Tail i (fun a' w'=>(S w'\/XA md ops i)/\Wy fn md ops Q Die Tail S fuel (listed.setIfInBounds i Um) a' w') a w
end
section
variable {P:Ym}{main:Bool}{R:En->En->Prop}{D:En->En->Array Event->Prop}{fn:FuncId}{md:Region.Mode}{ops:Array Oper}{Q:Act->En->Prop}{Die:List PanicEntry->En->Prop}{Tail:Nat->Act->En->Prop}{S:En->Prop}
theorem Ao.rely(T:Terms R D){f:FuncId}{args:Array Dn}{w w₁:En}{Post:Dn->En->Prop}(h:Ao P main R D f args w Post Die)(r:R w w₁):Ao P main R D f args w₁ Post Die:=fun c cs Bo h1 h2=>(h c cs Bo h1 h2).rely T.trans r
theorem Ao.mono{f:FuncId}{args:Array Dn}{w:En}{Post XJ:Dn->En->Prop}{m60:List PanicEntry->En->Prop}(h:Ao P main R D f args w Post Die)(hp:∀v w',Post v w'->XJ v w')(hd:∀c w',Die c w'->m60 c w'):Ao P main R D f args w XJ m60:=
 fun c cs Bo h1 h2=>h c cs Bo (fun v w' x=>h1 v w' (hp v w' x)) fun ch w' x=>h2 ch w' (hd ch w' x)
theorem e90{i:Nat}{a:Act}{w:En}{K K':Act->En->Prop}(h:∀a w,K a w->K' a w)(hh:wU P main R D fn md ops Die Tail i K a w):wU P main R D fn md ops Die Tail i K' a w:=by
 unfold wU at *;cases ho:ops[i]? with
 |none=>rw[ho]at hh;exact hh
 |some o=>
  rw[ho]at hh;by_cases hw:Region.wanted o (yielded ops a.tmps)=Um
  ·simp only[hw,if_true]at hh ⊢;rcases hh with hh|⟨f,args,EL,MR,c,h1,h2,h3,h4,h5⟩|hh
   ·exact .inl fun w₁ r=>uponK_mono (fun a' w' x=>⟨x.1,h _ _ x.2⟩) (hh w₁ r)
   ·exact .inr (.inl ⟨f,args,EL,MR,c,h1,h2,h3,h4,h5.mono (fun v w' x=>h _ _ x) fun _ _ x=>x⟩)
   ·exact .inr (.inr hh)
  ·simp only[hw]at hh ⊢;exact h _ _ hh
theorem g90(T:Terms R D)(hTR:∀i a x y,Tail i a x->R x y->Tail i a y){i:Nat}{a:Act}{w w₁:En}{K:Act->En->Prop}(hK:∀a x y,K a x->R x y->K a y)(hh:wU P main R D fn md ops Die Tail i K a w)(r:R w w₁):wU P main R D fn md ops Die Tail i K a w₁:=by
 unfold wU at *;cases ho:ops[i]? with
 |none=>rw[ho]at hh;exact hh
 |some o=>
  rw[ho]at hh;by_cases hw:Region.wanted o (yielded ops a.tmps)=Um
  ·simp only[hw,if_true]at hh ⊢;rcases hh with hh|⟨f,args,EL,MR,c,h1,h2,h3,h4,h5⟩|hh
   ·exact .inl fun w₂ r'=>hh w₂ (T.trans _ _ _ r r')
   ·exact .inr (.inl ⟨f,args,EL,MR,c,h1,h2,h3,h4,h5.rely T r⟩)
   ·exact .inr (.inr ⟨hh.1,hTR _ _ _ _ hh.2 r⟩)
  ·simp only[hw]at hh ⊢;exact hK _ _ _ hh r
theorem Wy.rely(T:Terms R D)(hTR:∀i a x y,Tail i a x->R x y->Tail i a y)(pX:∀x y,S x->R x y->S y)(hQR:∀a x y,Q a x->R x y->Q a y):∀(fuel:Nat)(listed:Array Bool)(a:Act)(w w₁:En),Wy P main R D fn md ops Q Die Tail S fuel listed a w->R w w₁->Wy P main R D fn md ops Q Die Tail S fuel listed a w₁
 |0,_,_,_,_,h,r=>⟨h.1,hQR _ _ _ h.2 r⟩
 |fuel+1,_,_,_,_,h,r=>⟨fun e=>hQR _ _ _ (h.1 e) r,fun i hi=>g90 T hTR (fun a x y hx r'=>⟨hx.1.imp (fun h=>pX _ _ h r') id,Wy.rely T hTR pX hQR fuel _ a x y hx.2 r'⟩) (h.2 i hi) r⟩
theorem sb0{listed:Array Bool}(h:JU md ops listed=Um):vU md ops listed:=fun k o ho hk e he hb=>by
 unfold JU at h;rw[List.all_eq_true]at h;have yo:=(Array.getElem?_eq_some_iff.1 ho).1;have h1:=h k (List.mem_range.2 yo);have eo:ops.getD k default=o:=P7;rw[eo,hk,Bool.not_true,Bool.false_or,Array.all_eq_true_iff_forall_mem]at h1;have:=h1 e he;rw[hb,Bool.not_true,Bool.false_or]at this;exact Vh
theorem dF{listed:Array Bool}{j k:Nat}(h:listed.getD k Tm=Um):(listed.setIfInBounds j Um).getD k Tm=true:=by
 by_cases iG:j=k
 ·subst iG;rcases Nat.lt_or_ge j listed.size with h'|h'
  ·simp[h']
  ·simp[Array.getElem?_eq_none h']at h
 ·rw[getD_set_ne Tm iG];exact h
theorem vU.set{listed:Array Bool}{j:Nat}(h:vU md ops listed)(hj:j∈Region.ready md ops listed):vU md ops (listed.setIfInBounds j Um):=fun k o ho hk e he hb=>by
 by_cases hkj:k=j
 ·subst hkj;obtain⟨_,o',aI,dy⟩:=mem_ready.1 hj;rw[ho]at aI;cases aI;exact dF (dy e he hb)
 ·rw[getD_set_ne Tm (Ne.symm hkj)]at hk;exact dF (h k o ho hk e he hb)
theorem j10(n:Nat):vU md ops (Array.replicate n Tm):=fun k o _ hk=>by
 rcases Nat.lt_or_ge k n with h'|h'
 ·simp[h']at hk
 ·simp[h']at hk
theorem Dz(a:Act)(d:Option Tmp)(v:Dn):(a.put d v).defers=a.defers:=by cases d<;>rfl
theorem nN{listed:Array Bool}(h:Region.ready md ops listed=[]):∀(fuel t:Nat),Region.linearise.go md ops fuel t listed []=[]
 |0,t=>by simp[Region.linearise.go]
 |fuel+1,t=>by
  simp only[Region.linearise.go];change (match (Region.ready md ops listed)[t%(Region.ready md ops listed).length]? with
   |some i=>Region.linearise.go md ops fuel (t/(Region.ready md ops listed).length) (listed.setIfInBounds i Um) [i]
   |none=>[].reverse)=[]
  rw[h];rfl
theorem SX(T:Terms R D){b:Xm}{k:List Item}{cs:List Xm}{Bo:zn->En->Prop}(hb:b.fn=fn)(hk:b.kind≠.early)(ds:List Deferred)
  (hQ:∀a w,a.defers=ds->Q a w->Pn P main R D Bo (G (b.at a k) cs) w)(hD:∀ch w fr,Die ch w->fr.fn=b.fn->fr.kind=b.kind->fr.defers=ds->fr.mode=.panicking ch->Pn P main R D Bo (G fr cs) w)
  (hTl:∀i a w,a.defers=ds->Tail i a w->Pn P main R D Bo (G (b.at a (.inRegion ops [i]::k)) cs) w):
  ∀(fuel t:Nat)(listed:Array Bool)(a:Act)(w:En),vU md ops listed->a.defers=ds->Wy P main R D fn md ops Q Die Tail S fuel listed a w->Pn P main R D Bo (G (b.at a (.inRegion ops (Region.linearise.go md ops fuel t listed [])::k)) cs) w:=by
 intro fuel;induction fuel with
 |zero=>intro t listed a w _ hd h;simpa[Region.linearise.go]using Pn.regionEnd T (hQ a w hd h.2)
 |succ fuel ih=>
  intro t listed a w AY hd ⟨h₀,h₁⟩;simp only[Region.linearise.go];change Pn P main R D Bo (G (b.at a (.inRegion ops (match (Region.ready md ops listed)[t%(Region.ready md ops listed).length]? with
   |some i=>Region.linearise.go md ops fuel (t/(Region.ready md ops listed).length) (listed.setIfInBounds i Um) [i]
   |none=>[].reverse)::k)) cs) w
  cases hi:(Region.ready md ops listed)[t%(Region.ready md ops listed).length]? with
  |none=>
   have lF:Region.ready md ops listed=[]:=by
    cases hr:Region.ready md ops listed with
    |nil=>rfl
    |cons x xs=>
     rw[hr]at hi;have yo:t%(x::xs).length<(x::xs).length:=Nat.mod_lt _ P0;rw[List.getElem?_eq_none_iff]at hi;omega
   exact Pn.regionEnd T (hQ a w hd (h₀ lF))
  |some i=>
   simp only[];rw[linearise_go_acc,List.reverse_singleton,List.singleton_append];have ep:=h₁ i (List.mem_of_getElem? hi);unfold wU at ep;cases ho:ops[i]? with
   |none=>rw[ho]at ep;exact ep.elim
   |some o=>
    rw[ho]at ep;by_cases hw:Region.wanted o (yielded ops a.tmps)=Um
    ·simp only[hw,if_true]at ep;rcases ep with ep|⟨f,args,EL,MR,c,h1,h2,h3,h4,h5⟩|⟨bk0,htl⟩
     ·refine Pn.op ho hw hk fun w₁ r K hK=>uponK_mono hK ?_;have hx:=ep w₁ r;revert hx;cases (execOp a.eval o).run P w₁ with
      |ok n w'=>cases n<;>first|exact id|exact fun x=>⟨hb▸x.1,ih _ _ _ w' (AY.set (List.mem_of_getElem? hi)) ((Dz _ _ _).trans hd) x.2.2⟩
      |halt _ _=>exact id
     ·refine Pn.enter T ho hw hk h1 h2 h3 h4 ?_;rw[<-enter_at _ h2 h4];refine h5 _ cs Bo (fun v w' x=>?_) fun ch w' x=>?_
      ·rw[Frame.finish_at,ho];exact ih _ _ _ w' (AY.set (List.mem_of_getElem? hi)) ((Dz _ _ _).trans hd) x.2
      ·exact hD ch w' _ x U6 U6 (by simp[Frame.raise,Frame.at,hd]) U6
     ·have YM:=List.mem_of_getElem? hi;have lF:Region.ready md ops (listed.setIfInBounds i Um)=[]:=by
       apply List.eq_nil_iff_forall_not_mem.2;intro k jK;obtain⟨h1,ok,Yr,_⟩:=mem_ready.1 jK;by_cases EY:k=i
       ·subst EY;rcases Nat.lt_or_ge k listed.size with h'|h'
        ·simp[h']at h1
        ·simp[h']at h1
       ·rw[getD_set_ne Um (Ne.symm EY)]at h1;have:=bk0 listed k AY YM EY (Array.getElem?_eq_some_iff.1 Yr).1;rw[h1]at this;cases this
      rw[nN lF];exact hTl i a w hd htl
    ·simp only[hw]at ep;exact Pn.unwanted T ho (by simpa using hw) (ih _ _ _ w (AY.set (List.mem_of_getElem? hi)) ((Dz _ _ _).trans hd) ep.2)
theorem bO(pX:∀x y,S x->R x y->S y){i:Nat}{o:Oper}{v:Dn}{a:Act}(hi:ops[i]?=Gn o)(hy:YieldsIfC P D fn ops S o v a){K:Act->En->Prop}(hK:∀a x y,K a x->R x y->K a y){w:En}(hS:S w)(h:K (a.put o.dst v) w):
  wU P main R D fn md ops Die Tail i K a w:=by
 unfold wU;simp only[hi];rcases hy with⟨hw,hv⟩|⟨hw,rfl⟩
 ·simp only[hw,if_true];exact .inl fun w₁ h₁=>by
   rw[(hv w₁ (pX _ _ hS h₁)).1];exact⟨(hv w₁ (pX _ _ hS h₁)).2,hK _ _ _ h h₁⟩
 ·simp only[hw,Bool.false_eq_true,if_false];exact h
theorem Q20{j:Nat}{oi oj:Oper}{v:Dn}(hnl:¬XA md ops j)(hj:ops[j]?=Gn oj)(T_:oi.apart ops oj=Um)(hsi:∀cs b,oi.op≠.select cs b)(hsj:∀cs b,oj.op≠.select cs b){K:Act->En->Prop}{a:Act}{w:En}
  (hy:YieldsIfC P D fn ops S oi v a)(h:wU P main R D fn md ops Die Tail j K (a.put oi.dst v) w):wU P main R D fn md ops Die Tail j (fun a' w'=>YieldsIfC P D fn ops S oi v a'/\K (a'.put oi.dst v) w') a w:=by
 obtain⟨h1,h2,h3⟩:=Oper.apart_spec T_;have keep:∀u,YieldsIfC P D fn ops S oi v (a.put oj.dst u):=fun u=>hy.of_same (execOp_put oi hsi a oj.dst u h3) (wanted_put oi a oj.dst u h3);unfold wU at *;simp only[hj]at *;rw[wanted_put oj a oi.dst v h1]at h;by_cases hw:Region.wanted oj (yielded ops a.tmps)=Um
 ·simp only[hw,if_true]at h ⊢;rcases h with h|⟨f,args,EL,MR,c,e1,e2,e3,e4,h5⟩|h
  ·refine .inl fun w₁ r=>?_;have hx:=h w₁ r;unfold listed at *;rw[execOp_put oj hsj a oi.dst v h1]at hx;generalize (execOp a.eval oj).run P w₁=q at *;cases q with
   |ok n w'=>
    cases n<;>simp only[uponK]at hx ⊢
    case value u=>exact⟨hx.1,keep u,by rw[<-Act.put_comm a v u h2];exact hx.2⟩
    case skip=>exact⟨hx.1,keep _,by rw[<-Act.put_comm a v Bn h2];exact hx.2⟩
   |halt x w'=>simp only[uponK]at hx
  ·have ea:args.map (a.put oi.dst v).eval=args.map a.eval:=by
    apply Array.map_congr_left;intro x hx;refine Act.eval_put fun d hd hxd=>h1 d hd ?_;subst hxd;refine List.mem_append_left _ (List.mem_filterMap.2 ⟨.tmp d,?_,rfl⟩);rw[e1];simpa[Op.operands,Call.operands]using hx
   rw[ea]at h5;exact .inr (.inl ⟨f,args,EL,MR,c,e1,e2,e3,e4,h5.mono (fun u w' x=>⟨keep u,by rw[<-Act.put_comm a v u h2];exact x⟩) fun _ _ x=>x⟩)
  ·exact absurd h.1 hnl
 ·simp only[hw]at h ⊢;exact⟨keep _,by rw[<-Act.put_comm a v Bn h2];exact h⟩
section
variable (T:Terms R D)(hTR:∀i a x y,Tail i a x->R x y->Tail i a y)(pX:∀x y,S x->R x y->S y)(hQR:∀a x y,Q a x->R x y->Q a y){i:Nat}{oi:Oper}{v:Dn}
include T hTR pX hQR i oi v
theorem QX(hi:ops[i]?=Gn oi)(xk0:∀(j:Nat)(o:Oper) cs b,ops[j]?=Gn o->o.op≠.select cs b):
  ∀(fuel:Nat)(listed:Array Bool)(a:Act)(w:En),
   (∀j oj,ops[j]?=Gn oj->j≠i->listed.getD j Um=Tm->(∀e∈oj.after,Region.binds md e=Um->e.on≠i)->oi.apart ops oj=Um)->
   vU md ops listed->i∈Region.ready md ops listed->YieldsIfC P D fn ops S oi v a->S w->Wy P main R D fn md ops Q Die Tail S fuel (listed.setIfInBounds i Um) (a.put oi.dst v) w->Wy P main R D fn md ops Q Die Tail S (fuel+1) listed a w:=by
 have hK:∀j fuel listed,∀a x y,((S x\/XA md ops j)/\Wy P main R D fn md ops Q Die Tail S fuel listed a x)->R x y->((S y\/XA md ops j)/\Wy P main R D fn md ops Q Die Tail S fuel listed a y):=fun j fuel listed a x y h r=>⟨h.1.imp (fun h=>pX _ _ h r) id,Wy.rely T hTR pX hQR fuel listed a x y h.2 r⟩;intro fuel;induction fuel with
 |zero=>
  intro listed a w _ _ hr hy hS H;refine⟨fun h=>(by rw[h]at hr;cases hr),fun j hj=>?_⟩;by_cases gy:j=i
  ·exact Dl
  ·have:=ready_mono hj gy;rw[H.1]at this;cases this
 |succ fuel ih=>
  intro listed a w Bd0 AY hr hy hS H;refine⟨fun h=>(by rw[h]at hr;cases hr),fun j hj=>?_⟩;by_cases gy:j=i
  ·exact Dl
  ·have h1:=H.2 j (ready_mono hj gy);obtain⟨Xj0,oj,hoj,dy⟩:=mem_ready.1 hj;have Mp0:∀e∈oj.after,Region.binds md e=Um->e.on≠i:=fun e he hb Vv=>by
    have h1:=dy e he hb;have h0:=(mem_ready.1 hr).1;rw[Vv]at h1;rcases Nat.lt_or_ge i listed.size with h'|h'
    ·simp[h']at h0 h1;rw[h0]at h1;cases h1
    ·simp[Array.getElem?_eq_none h']at h1
   have hnl:¬XA md ops j:=fun hl=>by
    have h0:=(mem_ready.1 hr).1;have h1:=hl listed i AY hj (Ne.symm gy) (Array.getElem?_eq_some_iff.1 hi).1;rw[h0]at h1;cases h1
   have hSj:∀x,S x\/XA md ops j->S x:=fun x hx=>hx.elim id fun hl=>absurd hl hnl;have h2:=Q20 hnl hoj (Bd0 j oj hoj gy Xj0 Mp0) (fun cs b=>xk0 i oi cs b hi) (fun cs b=>xk0 j oj cs b hoj) hy h1;refine e90 (fun a' w' h3=>⟨h3.2.1,ih (listed.setIfInBounds j Um) a' w' (fun k ok hk EY hun oH=>Bd0 k ok hk EY ?_ oH) (AY.set hj) (ready_mono hr (Ne.symm gy)) h3.1 (hSj _ h3.2.1) ?_⟩) h2
   ·by_cases iG:j=k
    ·subst iG;exact Xj0
    ·rw[getD_set_ne Um iG]at hun;exact hun
   ·rw[Array.setIfInBounds_comm _ _ gy];exact h3.2.2
theorem bp{fuel:Nat}{listed:Array Bool}{a:Act}{w:En}(hi:ops[i]?=Gn oi)
  (hs:Region.noSelect ops=Um)(AY:JU md ops listed=Um)(hf:Region.free md ops listed i=Um)(hr:(Region.ready md ops listed).contains i=Um)
  (hy:YieldsIfC P D fn ops S oi v a)(hS:S w)(h:Wy P main R D fn md ops Q Die Tail S fuel (listed.setIfInBounds i Um) (a.put oi.dst v) w):Wy P main R D fn md ops Q Die Tail S (fuel+1) listed a w:=
 QX T hTR pX hQR hi (Region.noSelect_spec hs) fuel listed a w (Region.free_spec hi hf) (sb0 AY) (by simpa using hr) hy hS h
end
theorem tu{i:Nat}{o:Oper}{fuel:Nat}{listed:Array Bool}{a:Act}{w:En}(hr:Region.ready md ops listed=[i])(ho:ops[i]?=Gn o)(hw:Region.wanted o (yielded ops a.tmps)=Um)
  (h:∀w₁,R w w₁->∀K:Act->En->Prop,(∀a' w',D w₁ w' (Go.Conc.listed P fn a o w₁)/\(S w'\/XA md ops i)/\Wy P main R D fn md ops Q Die Tail S fuel (listed.setIfInBounds i Um) a' w'->K a' w')->uponK o a K ((execOp a.eval o).run P w₁)):Wy P main R D fn md ops Q Die Tail S (fuel+1) listed a w:=by
 refine⟨fun h0=>absurd (hr.symm.trans h0) P0,fun j hj=>?_⟩;rw[hr]at hj;obtain rfl:j=i:=E2;unfold wU;simp only[ho,hw,if_true];exact .inl fun w₁ r=>h w₁ r _ fun _ _ x=>x
def bJ(md:Region.Mode)(ops:Array Oper)(k:Nat):List Nat:=((ops.getD k default).after.toList.filter (Region.binds md)).map (·.on)
def waits(md:Region.Mode)(ops:Array Oper)(j:Nat):List Nat:=(Hm ops.size).reverse.foldl (fun m k=>if m.contains k then m++bJ md ops k else m) (bJ md ops j)
theorem GV{k x:Nat}{o:Oper}(ho:ops[k]?=Gn o)(hx:x∈bJ md ops k):∃e∈o.after,Region.binds md e=Um/\e.on=x:=by
 unfold bJ at hx;have yo:=(Array.getElem?_eq_some_iff.1 ho).1;have eo:ops.getD k default=o:=P7;rw[eo]at hx;obtain⟨e,he,rfl⟩:=List.mem_map.1 hx;obtain⟨h1,h2⟩:=List.mem_filter.1 he;exact⟨e,K5,h2,rfl⟩
theorem Ks{j:Nat}{o:Oper}(ho:ops[j]?=Gn o)(h:(Hm ops.size).all (fun k=>k==j || (waits md ops j).contains k)=Um):XA md ops j:=fun listed k AY hj hk yo=>by
 obtain⟨_,o',aI,dy⟩:=mem_ready.1 hj;rw[ho]at aI;cases aI;have key:∀(l:List Nat)(m:List Nat),(∀x∈l,x<ops.size)->(∀x∈m,listed.getD x Tm=Um)->∀x∈l.foldl (fun m k=>if m.contains k then m++bJ md ops k else m) m,listed.getD x Tm=true:=by
  intro l;induction l with
  |nil=>exact fun m _ hm=>hm
  |cons q l ih=>
   intro m hl hm;refine ih _ (fun x hx=>hl x (List.mem_cons_of_mem _ hx)) ?_;show ∀x∈(if m.contains q then m++bJ md ops q else m),listed.getD x Tm=Um;by_cases hq:m.contains q=Um
   ·rw[if_pos hq];intro x hx;rcases List.mem_append.1 hx with hx|hx
    ·exact hm x hx
    ·have hlq:=hl q List.mem_cons_self;obtain⟨e,he,hb,rfl⟩:=GV (Bm hlq) hx;exact AY q _ (Bm hlq) (hm q (by simpa using hq)) e he hb
   ·rw[if_neg hq];exact hm
 rw[List.all_eq_true]at h;have h1:=h k (List.mem_range.2 yo);have h2:k∈waits md ops j:=by
  have hkj:(k==j)=false:=by simpa using hk
  rw[hkj,Bool.false_or]at h1;simpa using h1
 have h3:=key _ _ (fun x hx=>by simpa using hx) (fun x hx=>by
  obtain⟨e,he,hb,rfl⟩:=GV ho hx;exact dy e he hb) k h2
 rcases Nat.lt_or_ge k listed.size with h'|h'
 ·simp[h']at h3 ⊢;exact h3
 ·simp[h']
section
variable {i:Nat}{o:Oper}{fuel:Nat}{listed:Array Bool}{a:Act}{w:En}(hr:Region.ready md ops listed=[i])(ho:ops[i]?=Gn o)(hw:Region.wanted o (yielded ops a.tmps)=Um)
include i o fuel listed a w hr ho hw
theorem dt
  {f : FuncId} {args : Array Operand} {EL : Array TypeId} {MR : Func} {c : Code} (ep : o.op = .call { callee := .value (.func f), args, argTypes := EL }) (hf : P.funcs[f]? = Gn MR) (hn : (MR.name == "runtime.NumGoroutine") = Tm) (hb : MR.body = Gn c) {Post : Dn -> En -> Prop} (vs : Array Dn) (hv : args.map a.eval = vs)
  (hc:Ao P main R D f vs w Post Die)(h:∀v w',Post v w'->(S w'\/XA md ops i)/\Wy P main R D fn md ops Q Die Tail S fuel (listed.setIfInBounds i Um) (a.put o.dst v) w'):Wy P main R D fn md ops Q Die Tail S (fuel+1) listed a w:=by
 refine⟨fun h0=>absurd (hr.symm.trans h0) P0,fun j hj=>?_⟩;rw[hr]at hj;obtain rfl:j=i:=E2;unfold wU;simp only[ho,hw,if_true];exact .inr (.inl ⟨f,args,EL,MR,c,ep,hf,hn,hb,by rw[hv];exact hc.mono h fun _ _ x=>x⟩)
theorem WI(hl:XA md ops i)(h:Tail i a w):Wy P main R D fn md ops Q Die Tail S (fuel+1) listed a w:=by
 refine⟨fun h0=>absurd (hr.symm.trans h0) P0,fun j hj=>?_⟩;rw[hr]at hj;obtain rfl:j=i:=E2;unfold wU;simp only[ho,hw,if_true];exact .inr (.inr ⟨hl,h⟩)
end
theorem Fq{listed:Array Bool}{a:Act}{w:En}(hr:Region.ready md ops listed=[])(h:Q a w):∀fuel,Wy P main R D fn md ops Q Die Tail S fuel listed a w
 |0=>⟨hr,h⟩
 |_+1=>⟨fun _=>h,fun i hi=>by rw[hr]at hi;cases hi⟩
theorem Pn.drawn(T:Terms R D)(hd:LetsDraw D){b:Xm}{k:List Item}{cs:List Xm}{Bo:zn->En->Prop}{id:Nat}{a:Act}{w:En}(hk:b.kind≠.early)(hm:P.follows .mixedOrders=Um)
  (hQ:∀a' w',a'.defers=a.defers->Q a' w'->Pn P main R D Bo (G (b.at a' k) cs) w')(hD:∀ch w' fr,Die ch w'->fr.fn=b.fn->fr.kind=b.kind->fr.defers=a.defers->fr.mode=.panicking ch->Pn P main R D Bo (G fr cs) w')
  (hTl:∀i a' w',a'.defers=a.defers->Tail i a' w'->Pn P main R D Bo (G (b.at a' (.inRegion ops [i]::k)) cs) w')
  (h:∀w₁,R w w₁->Wy P main R D b.fn .any ops Q Die Tail S ops.size (Array.replicate ops.size Tm) a {w₁ with drawn:=w₁.drawn+1}):Pn P main R D Bo (G (b.at a (.code (.region id ops Um)::k)) cs) w:=
 .one rfl fun w₁ r=>⟨_,_,_,stepG_region_draw,hd _,by
  simp only[Region.schedule,hm,Bool.true_or,if_true];exact SX T rfl hk a.defers hQ hD hTl ops.size _ _ a _ (j10 _) rfl (h w₁ r)⟩
end
end Go.Proofs.YtdoghgnifkgfdaaGreat.Mute
