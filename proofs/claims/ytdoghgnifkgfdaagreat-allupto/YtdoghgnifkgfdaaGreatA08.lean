import Derived.Test.YtdoghgnifkgfdaaGreatA07
set_option maxRecDepth 100000
set_option maxHeartbeats 16000000
open Option renaming none->Hn,some->Gn
open Go renaming World->En,Value->Dn,undef->Bn,heap_setCell_other->yn,Calls->Zm,Program->Ym,block_lt_of_cell->Wm,Addr->Vm
open Bool renaming true->Um,false->Tm
open Go.RowKit renaming Below->Sm
open Nat renaming le_trans->Qm,zero_le->Pm,le_refl->Om,lt_of_lt_of_le->Lm,add_assoc->Jm
open List renaming range->Hm,getElem?_append_left->Em
open Array renaming getElem?_eq_getElem->Bm
namespace Go.Proofs.YtdoghgnifkgfdaaGreat
open Tryz Go.RowKit
def xH(w:En)(c:Ur)(B:Nat)(cb rb:Nat->Nat)(hb db:Nat)(p0:Option Vm)(yp:Nat)(p1:Option Vm)(gp hi eG:Nat)(v0 v1 v2 v3:Dn):Prop:=
 v0=.slice p0 c.nC yp/\c.nC<=yp/\(p0=Hn->c.nC=0/\yp=0)/\Sl w p0 (c.nC*3) (Du c cb)/\
  v1=.slice p1 c.nT gp/\c.nT<=gp/\(p1=Hn->c.nT=0/\gp=0)/\Sl w p1 c.nT (fun i=>Gp Tm (rb i) (c.nRow i))/\
  v2=Gp c.aA hb c.Zo/\v3=Gp c.Vz db c.nD/\Sr w c c.nC B hi cb/\B<=hi/\hi<=eG/\
  (∀i,i<c.nT->xC w Tm (rb i) (c.nRow i) 2 (c.row i)/\hi<=rb i/\rb i<eG)/\(∀i j,i<j->j<c.nT->rb i<rb j)/\
  xC w c.aA hb c.Zo 3 c.ch/\xC w c.Vz db c.nD 1 c.dv/\(c.aA=Tm->eG<=hb)/\(c.Vz=Tm->eG<=db)/\(c.aA=Tm->c.Vz=Tm->hb<db)
theorem YA.ws{w:En}{c:Ur}{B:Nat}{v0 v1 v2 v3:Dn}(h:YA w c B v0 v1 v2 v3):∃cb rb hb db p0 yp p1 gp hi eG,xH w c B cb rb hb db p0 yp p1 gp hi eG v0 v1 v2 v3:=h.ex
def SRX(c:Ur)(cb rb:Nat->Nat)(Jv YB j:Nat):Prop:=SR c cb rb c.nT j\/(c.aA=Tm/\j=Jv)\/(c.Vz=Tm/\j=YB)
theorem ka0(c:Ur)(v0 v1 v2 v3 o0 o1 o2 o3:Dn)(w0 w:En)(h:Zx w0 v0 v1 v2 v3 c)(hb:Sm w0.heap.size w0 w)(cb rb:Nat->Nat)(Jv YB:Nat)(q0:Option Vm)(NI:Nat)(q1:Option Vm)(fQ hi eG:Nat)(hl:xH w c w0.heap.size cb rb Jv YB q0 NI q1 fQ hi eG o0 o1 o2 o3):
  Zm prog 40 #[.agg #[o0,o1,o2,o3],.agg #[v0,v1,v2,v3]] w fun e w'=>e=.returned (.bool Um)/\Sm w0.heap.size w0 w'/\Jq (SRX c cb rb Jv YB) w w':=by
 obtain⟨rfl,lq0,zq0,sU,rfl,lq1,zq1,sq1,rfl,rfl,iu,jQ,hB2,Ir,aN,nH,hdv,hh1,hh2,hh3⟩:=hl;obtain⟨⟨p0,yp,F0,rfl,-,n0,z0,b0,s0,k0⟩,⟨p1,gp,F1,rfl,-,n1,z1,b1,s1,k1⟩,k2,k3⟩:=h;have S0:=Qp s0;have K0:=Qp k0;have S1:=Qp s1;have K1:=Qp k1;have K2:=Qp k2;have K3:=Qp k3;refine Wj fun hb0 Dx=>?_;have IG:=Qp hb;have hw0:w0.heap.size<=w.heap.size:=hb.size;have Q0:=Qp sU;have Q1:=Qp sq1;have HI:=Qp iu;have HRW:=Qp Ir;have HOR:=Qp aN;have HCH:=Qp nH;have HDV:=Qp hdv;have HHH:Hid ((c.aA=Tm->eG<=Jv)/\(c.Vz=Tm->eG<=YB)/\(c.aA=Tm->c.Vz=Tm->Jv<YB)):=⟨hh1,hh2,hh3⟩;clear s0 k0 s1 k1 k2 k3 n0 z0 n1 z1 b0 b1 hb sU sq1 iu Ir aN nH hdv hh1 hh2 hh3 lq0 lq1 zq0 zq1
 go_enter func40,ntmps40
 go_wp2_with fail
 go_loopw [5,6] (fun o i wr=>∃k:Nat,k<=c.nC/\i=.int .i64 k/\o=.bool Um/\Hid (Jq (SC c cb k) w wr)/\Hid (Tn wr w.heap.size 4 28 (cells4 (.slice q0 c.nC NI) (.slice q1 c.nT fQ) (Gp c.aA Jv c.Zo) (Gp c.Vz YB c.nD)))/\Hid (Tn wr (w.heap.size+1) 4 28 (cells4 (.slice p0 c.nC yp) (.slice p1 c.nT gp) v2 v3))) (fun _ i _=>c.nC-(intOf i).toNat)
 case atStart=>
  refine⟨0,Pm _,rfl,rfl,Jq.of_below (((Below.refl _ _).alloc N8 _).alloc P0 _) _,(row4 _ _ _ _ _ _).alloc _,?_⟩;have:=row4 (w.alloc (.cells #[.slice q0 c.nC NI,.slice q1 c.nT fQ,Gp c.aA Jv c.Zo,Gp c.Vz YB c.nD] 28)) (.slice p0 c.nC yp) (.slice p1 c.nT gp) v2 v3 28;show Tn _ _ _ _ _;exact Vd
 case round=>
  obtain⟨k,hk,rfl,rfl,WQ,HO,HC⟩:=hrel;obtain⟨x0,-,-,-⟩:=HO.out.at4;obtain⟨y0,-,-,-⟩:=HC.out.at4;have gf0:Hid (∀k j,k<=c.nC->SC c cb k j->w0.heap.size<=j/\j<hi):=fun k j hk ⟨i,hi,h⟩=>by
   have:=HI.out.lo i E0;omega
  by_cases yo:k<c.nC
  ·obtain⟨bo,oo,rfl,hq⟩:=Q0.out.at E0;have Hf0:∃p n cc,Du c cb 0=.slice p n cc:=by
    obtain⟨e,-,-⟩:=Qx c cb 0;simp only[Nat.zero_mul]at e;rw[e];unfold Gp;split
    ·exact Gi
    ·exact Gi
   have nS1:∀i,i<c.nC->c.Jt i=Tm->bo≠cb i:=fun i hi hn=>by
    obtain⟨ty,hr⟩:=HI.out.code i hi hn;exact FW hq E0 Hf0 hr
   have nS2:∀i,i<c.nC->c.Vt i=Tm->bo≠cb i+1:=fun i hi hn=>by
    obtain⟨ty,hr⟩:=HI.out.img i hi hn;exact FW hq E0 Hf0 hr
   have nS:¬SC c cb k bo:=fun ⟨i,hi,h⟩=>by
    rcases h with⟨hn,e⟩|⟨hn,e⟩
    ·exact nS1 i E0 hn e
    ·exact nS2 i E0 hn e
   have o0:=WQ.out.cell (hq (k*3) E0) nS;have o1:=WQ.out.cell (hq (k*3+1) E0) nS;obtain⟨ef0,ef1,-⟩:=Qx c cb k;rw[ef0]at o0;rw[ef1,<-Jm]at o1;have Aw:=Qp (WQ.out.below IG.out (fun j hj=>(gf0.out k j hk hj).1));obtain⟨b,off,rfl,hc⟩:=(S0.out.below Aw.out).at E0;have c0:=hc (k*3) E0;have c1:=hc (k*3+1) E0;rw[<-Jm]at c1;have hbw:b<w0.heap.size:=by
    obtain⟨b',Xk0,e,zE⟩:=S0.out.at E0;simp only[Option.some.injEq,Addr.mk.injEq]at e;have:=Wm (zE 0 E0);simp only at this;omega
   have lok:=HI.out.lo k yo;have lt1:Hid (c.Jt k=Tm->cb k<w.heap.size):=fun hn=>by
    obtain⟨ty,hr⟩:=HI.out.code k yo hn;exact hr.lt
   have lt2:Hid (c.Vt k=Tm->cb k+1<w.heap.size):=fun hn=>by
    obtain⟨ty,hr⟩:=HI.out.img k yo hn;exact hr.lt
   have HIc:=Qp ((HI.out.code k yo).keep (fun hn=>WQ.out.block _ (lt1.out hn) (fun ⟨i,hi,h⟩=>by have:=HI.out.ord i k hi yo;omega)));have HIi:=Qp ((HI.out.img k yo).keep (fun hn=>WQ.out.block _ (lt2.out hn) (fun ⟨i,hi,h⟩=>by have:=HI.out.ord i k hi yo;omega)));obtain⟨sz0,sz1,-⟩:=K0.out k yo;have SZ0:=Qp (sz0.keep (Ju Aw.out));have SZ1:=Qp sz1;generalize F0 (k*3)=u0 at *;generalize F0 (k*3+1)=u1 at *;have nA1:¬(c.Jt k=Tm/\w.heap.size=cb k):=fun ⟨hn,e⟩=>by have:=lt1.out hn;omega
   have nA2:¬(c.Jt k=Tm/\w.heap.size+1=cb k):=fun ⟨hn,e⟩=>by have:=lt1.out hn;omega
   have nA3:¬(c.Jt k=Tm/\bo=cb k):=fun ⟨hn,e⟩=>nS1 k yo hn e;have nA4:¬(c.Jt k=Tm/\b=cb k):=fun ⟨hn,e⟩=>by omega
   have HNA:Hid (_/\_/\_/\_):=⟨nA1,nA2,nA3,nA4⟩;have HNB:Hid (¬(c.Vt k=Tm/\bo=cb k+1)):=fun ⟨hn,e⟩=>nS2 k yo hn e;clear hc sz0 sz1 hq nS1 nS2 nS ef0 ef1 Hf0 nA1 nA2 nA3 nA4;go_wp2_with fail;go_region_held3 (fun W=>W.cell? ⟨w.heap.size,0,Hn⟩=Gn (.slice (Gn ⟨bo,oo,Hn⟩) c.nC NI)/\W.cell? ⟨bo,oo+k*3,Hn⟩=Gn (Gp (c.Jt k) (cb k) (c.Ho k))/\W.cell? ⟨w.heap.size+1,0,Hn⟩=Gn (.slice (Gn ⟨b,off,Hn⟩) c.nC yp)/\W.cell? ⟨b,off+k*3,Hn⟩=Gn u0) (go_keep)
    (first
     |(go_at_call 70;refine(YN _ _ _ _ _ _ (by exact HIc.out) (by exact SZ0.out)).mono ?_;rintro e wc ⟨rfl,Yu⟩;have t0:=Yu.cell (a:=⟨w.heap.size,0,Hn⟩) x0 HNA.out.1;have t1:=Yu.cell (a:=⟨bo,oo+k*3,Hn⟩) o0 HNA.out.2.2.1;have t2:=Yu.cell (a:=⟨w.heap.size+1,0,Hn⟩) y0 HNA.out.2.1;have t3:=Yu.cell (a:=⟨b,off+k*3,Hn⟩) c0 HNA.out.2.2.2))
   refine Ii fun hH hH1=>?_;have uH:Hid (Jq (fun j=>c.Jt k=Tm/\j=cb k) wr wc):=⟨Yu.os,Yu.tape,Yu.output,Yu.size,Yu.block⟩;have r0:=uH.out.cell (a:=⟨bo,oo+k*3+1,Hn⟩) o1 HNA.out.2.2.1;have r1:=uH.out.cell (a:=⟨b,off+k*3+1,Hn⟩) c1 HNA.out.2.2.2;have HOc:=Qp (HO.out.of_heap (uH.out.block _ hH HNA.out.1));have HCc:=Qp (HC.out.of_heap (uH.out.block _ hH1 HNA.out.2.1));have HIw:=Qp (HIi.out.keep (fun hn=>uH.out.block _ (by have:=lt2.out hn;omega) (fun ⟨_,e⟩=>E0)));have HBw:=Qp (uH.out.below Aw.out (fun j hj=>E0));have SZw:=Qp (SZ1.out.keep (Ju HBw.out));have mA1:¬(c.Vt k=Tm/\w.heap.size=cb k+1):=fun ⟨hn,e⟩=>by have:=lt2.out hn;omega
   have mA2:¬(c.Vt k=Tm/\w.heap.size+1=cb k+1):=fun ⟨hn,e⟩=>by have:=lt2.out hn;omega
   have mA4:¬(c.Vt k=Tm/\b=cb k+1):=fun ⟨hn,e⟩=>by omega
   have HMA:Hid (_/\_/\_/\_):=⟨mA1,mA2,HNB.out,mA4⟩;clear Yu o0 o1 c0 c1 x0 y0 t1 t3 mA1 mA2 mA4;go_wp2_with fail;go_region_held3 (fun W=>W.cell? ⟨w.heap.size,0,Hn⟩=Gn (.slice (Gn ⟨bo,oo,Hn⟩) c.nC NI)/\W.cell? ⟨bo,oo+k*3+1,Hn⟩=Gn (Gp (c.Vt k) (cb k+1) (c.Hq k))/\W.cell? ⟨w.heap.size+1,0,Hn⟩=Gn (.slice (Gn ⟨b,off,Hn⟩) c.nC yp)/\W.cell? ⟨b,off+k*3+1,Hn⟩=Gn u1) (go_keep)
    (first
     |(go_at_call 71;refine(yL _ _ _ _ _ _ (by exact HIw.out) (by exact SZw.out)).mono ?_;rintro e wi ⟨rfl,Yu⟩;have t0:=Yu.cell (a:=⟨w.heap.size,0,Hn⟩) t0 HMA.out.1;have t1:=Yu.cell (a:=⟨bo,oo+k*3+1,Hn⟩) r0 HMA.out.2.2.1;have t2:=Yu.cell (a:=⟨w.heap.size+1,0,Hn⟩) t2 HMA.out.2.1;have t3:=Yu.cell (a:=⟨b,off+k*3+1,Hn⟩) r1 HMA.out.2.2.2))
   have HBI:Hid (Jq (fun j=>c.Vt k=Tm/\j=cb k+1) wc wi):=⟨Yu.os,Yu.tape,Yu.output,Yu.size,Yu.block⟩;have hsc:wr.heap.size<=wc.heap.size:=uH.out.size;have HOi:Hid (Tn wi w.heap.size 4 28 (cells4 (.slice (Gn ⟨bo,oo,Hn⟩) c.nC NI) (.slice q1 c.nT fQ) (Gp c.aA Jv c.Zo) (Gp c.Vz YB c.nD))):=HOc.out.of_heap (HBI.out.block _ E0 HMA.out.1);have HCi:Hid (Tn wi (w.heap.size+1) 4 28 (cells4 (.slice (Gn ⟨b,off,Hn⟩) c.nC yp) (.slice p1 c.nT gp) v2 v3)):=HCc.out.of_heap (HBI.out.block _ E0 HMA.out.2.1);have HBF:Hid (Jq (SC c cb (k+1)) w wi):=(WQ.out.trans uH.out (U:=SC c cb (k+1)) (fun j ⟨i,hi,h⟩=>⟨i,E0,h⟩) (fun j _ hj=>⟨k,E0,.inl hj⟩)).trans HBI.out (fun j h=>h) (fun j _ hj=>⟨k,E0,.inr hj⟩);clear Yu t0 t1 t2 t3 r0 r1 HOc HCc HIw SZw HIc HIi SZ0 SZ1;exact Yl
  ·obtain rfl:k=c.nC:=by omega
   have nn0:=WQ;have HO0:=HO;have HC0:=HC;clear WQ HO HC x0 yo hk;go_wp2_with fail;clear y0;go_loopw [5,9] (fun o i wr=>∃k:Nat,k<=c.nT/\i=.int .i64 k/\o=.bool Um/\Hid (Jq (SR c cb rb k) w wr)/\Hid (Tn wr w.heap.size 4 28 (cells4 (.slice q0 c.nC NI) (.slice q1 c.nT fQ) (Gp c.aA Jv c.Zo) (Gp c.Vz YB c.nD)))/\Hid (Tn wr (w.heap.size+1) 4 28 (cells4 (.slice p0 c.nC yp) (.slice p1 c.nT gp) v2 v3))) (fun _ i _=>c.nT-(intOf i).toNat)
   case atStart=>exact⟨0,Pm _,rfl,rfl,nn0.out.mono (fun j hj=>.inl hj),HO0,HC0⟩
   case round=>
    obtain⟨k,hk,rfl,rfl,WQ,HO,HC⟩:=hrel;obtain⟨-,x0,-,-⟩:=HO.out.at4;obtain⟨-,y0,-,-⟩:=HC.out.at4;have XR:Hid (∀k j,k<=c.nT->SR c cb rb k j->w0.heap.size<=j/\j<eG):=fun k j hk h=>by
     rcases h with h|⟨i,hi,rfl⟩
     ·have:=gf0.out c.nC j N8 h;omega
     ·have:=(HRW.out i E0).2;omega
    have Aw:Hid (Sm w0.heap.size w0 wr):=WQ.out.below IG.out (fun j hj=>(XR.out k j hk hj).1);by_cases yo:k<c.nT
    ·obtain⟨bo,oo,rfl,hq⟩:=Q1.out.at E0;have hqF:∃p n cc,Gp Tm (rb 0) (c.nRow 0)=.slice p n cc:=⟨_,_,_,rfl⟩;have nS1:∀i,i<c.nC->c.Jt i=Tm->bo≠cb i:=fun i hi hn=>by
      obtain⟨ty,hr⟩:=HI.out.code i hi hn;exact FW hq E0 hqF hr
     have nS2:∀i,i<c.nC->c.Vt i=Tm->bo≠cb i+1:=fun i hi hn=>by
      obtain⟨ty,hr⟩:=HI.out.img i hi hn;exact FW hq E0 hqF hr
     have nS3:∀i,i<c.nT->bo≠rb i:=fun i hi=>by
      obtain⟨ty,hr⟩:=(HRW.out i hi).1 rfl;exact FW hq E0 hqF hr
     have nS:¬SR c cb rb k bo:=fun h=>by
      rcases h with⟨i,hi,h⟩|⟨i,hi,h⟩
      ·rcases h with⟨hn,e⟩|⟨hn,e⟩
       ·exact nS1 i hi hn e
       ·exact nS2 i hi hn e
      ·exact nS3 i E0 h
     have o0:=WQ.out.cell (hq k yo) nS;obtain⟨b,off,rfl,hc⟩:=(S1.out.below Aw.out).at E0;have c0:=hc k yo;have hbw:b<w0.heap.size:=by
      obtain⟨b',Xk0,e,zE⟩:=S1.out.at E0;simp only[Option.some.injEq,Addr.mk.injEq]at e;have:=Wm (zE 0 E0);simp only at this;omega
     obtain⟨xy,sy0,ty0⟩:=HRW.out k yo;have lt1:rb k<w.heap.size:=by
      obtain⟨ty,hr⟩:=xy rfl;exact hr.lt
     have HIc:Hid (xC wr Tm (rb k) (c.nRow k) 2 (c.row k)):=xy.keep (fun hn=>WQ.out.block _ lt1 (fun h=>by
      rcases h with h|⟨i,hi,e⟩
      ·have:=gf0.out c.nC _ N8 h;omega
      ·have:=HOR.out i k hi yo;omega))
     have SZ0:Hid (FC wr (F1 k) (c.EJ k) (c.nRow k) 2 (c.row k) 16):=(K1.out k yo).keep (Ju Aw.out);generalize F1 k=u0 at *;have HNA:Hid (_/\_):=⟨nS3 k yo,(by omega:b≠rb k)⟩;refine Ii fun hH hH1=>?_;clear hc hq nS1 nS2 nS3 nS hqF xy;go_wp2_with fail;go_region_held3 (fun W=>W.cell? ⟨w.heap.size,1,Hn⟩=Gn (.slice (Gn ⟨bo,oo,Hn⟩) c.nT fQ)/\W.cell? ⟨bo,oo+k,Hn⟩=Gn (Gp Tm (rb k) (c.nRow k))/\W.cell? ⟨w.heap.size+1,1,Hn⟩=Gn (.slice (Gn ⟨b,off,Hn⟩) c.nT gp)/\W.cell? ⟨b,off+k,Hn⟩=Gn u0) (go_keep)
      (first
       |(go_at_call 72;refine(RP _ _ _ _ _ _ (by exact HIc.out) (by exact SZ0.out)).mono ?_;rintro e wc ⟨rfl,Yu⟩;have t0:=Yu.cell (a:=⟨w.heap.size,1,Hn⟩) x0 A1;have t1:=Yu.cell (a:=⟨bo,oo+k,Hn⟩) o0 HNA.out.1;have t2:=Yu.cell (a:=⟨w.heap.size+1,1,Hn⟩) y0 A1;have t3:=Yu.cell (a:=⟨b,off+k,Hn⟩) c0 HNA.out.2))
     have uH:Hid (Jq (fun j=>j=rb k) wr wc):=⟨Yu.os,Yu.tape,Yu.output,Yu.size,Yu.block⟩;have HOi:Hid (Tn wc w.heap.size 4 28 (cells4 (.slice q0 c.nC NI) (.slice (Gn ⟨bo,oo,Hn⟩) c.nT fQ) (Gp c.aA Jv c.Zo) (Gp c.Vz YB c.nD))):=HO.out.of_heap (uH.out.block _ E0 E0);have HCi:Hid (Tn wc (w.heap.size+1) 4 28 (cells4 (.slice p0 c.nC yp) (.slice (Gn ⟨b,off,Hn⟩) c.nT gp) v2 v3)):=HC.out.of_heap (uH.out.block _ E0 E0);have HBF:Hid (Jq (SR c cb rb (k+1)) w wc):=WQ.out.trans uH.out (fun j h=>h.elim .inl (fun ⟨i,hi,e⟩=>.inr ⟨i,E0,e⟩)) (fun j _ hj=>.inr ⟨k,E0,hj⟩);clear Yu t0 t1 t2 t3 HIc SZ0 o0 c0 x0 y0;exact Yl
    ·obtain rfl:k=c.nT:=by omega
     clear yo hk x0;obtain⟨p2,dq,rfl,-,n2,zz2,bb2,ss2⟩:=K2.out;obtain⟨p3,Lq,rfl,-,n3,zX,bb3,ss3⟩:=K3.out;have SS2:Hid (Sl w0 p2 (c.Zo*3) (fun j=>.int .i64 (c.ch j))):=ss2;have SS3:Hid (Sl w0 p3 c.nD (fun j=>.int .i64 (c.dv j))):=by show Sl _ _ _ _;rwa [Nat.mul_one]at ss3
     have BB2:Hid (24*c.Zo<=140737488355328):=bb2;have BB3:Hid (8*c.nD<=140737488355328):=bb3;refine sg fun Vx dS=>?_;have NN:Hid ((p2=Hn↔c.aA=Um)/\(p2=Hn->c.Zo=0/\dq=0)/\(p3=Hn↔c.Vz=Um)/\(p3=Hn->c.nD=0/\Lq=0)):=⟨n2,zz2,n3,zX⟩;clear K2 K3 ss2 ss3 bb2 bb3 n2 zz2 n3 zX;obtain⟨-,-,x2,x3⟩:=HO.out.at4;obtain⟨-,-,y2,y3⟩:=HC.out.at4;refine Ii fun hH hH1=>?_;obtain⟨n2,zz2,n3,zX⟩:=NN.out;have zn0:Hid (c.aA=Tm->∃ty,Tn wr Jv ((c.Zo+2)*3) ty (fun j=>.int .i64 (uq 3 c.Zo c.ch j))):=fun hn=>HCH.out.keep (fun hn=>by
      obtain⟨ty,hr⟩:=HCH.out hn;exact WQ.out.block _ hr.lt (fun h=>by have:=XR.out _ _ N8 h;have:=HHH.out.1 hn;omega)) hn
     have An0:Hid (c.Vz=Tm->∃ty,Tn wr YB ((c.nD+2)*1) ty (fun j=>.int .i64 (uq 1 c.nD c.dv j))):=fun hn=>HDV.out.keep (fun hn=>by
      obtain⟨ty,hr⟩:=HDV.out hn;exact WQ.out.block _ hr.lt (fun h=>O7)) hn
     have ltC:Hid (c.aA=Tm->Jv<w.heap.size):=fun hn=>by
      obtain⟨ty,hr⟩:=HCH.out hn;exact hr.lt
     have ltD:Hid (c.Vz=Tm->YB<w.heap.size):=fun hn=>by
      obtain⟨ty,hr⟩:=HDV.out hn;exact hr.lt
     cases p2 with
     |none=>
      obtain⟨zu,rfl⟩:=zz2 rfl;have KG:Hid (c.aA=Um):=n2.1 rfl;rw[zu]at y2;clear zz2 n2 zu;cases p3 with
      |none=>
       obtain⟨JL,rfl⟩:=zX rfl;rw[JL]at y3;clear zX n3 JL;go_wp2_with fail;go_ret;exact⟨rfl,WQ.out.below IG.out (fun j hj=>(XR.out _ j N8 hj).1),WQ.out.mono (fun j hj=>.inl hj)⟩
      |some q=>
       obtain⟨bq3,oq3,sq3⟩:=q;have qO:Hid (c.Vz=Tm):=by
        show _=_;cases h:c.Vz
        ·rfl
        ·exact absurd (n3.2 h) P0
       clear zX n3;rw[qO.out]at x3;have x3':wr.cell? ⟨w.heap.size,3,Hn⟩=Gn (.slice (Gn ⟨YB,0,Hn⟩) c.nD (c.nD+2)):=x3;clear x3;have hd1:=ltD.out qO.out;have hd2:=HHH.out.2.1 qO.out;have hH3:=hH;have hI3:=hH1;go_wp2_with fail;refine(KH (Gn ⟨bq3,oq3,sq3⟩) c.nD Lq c.dv _ (SS3.out.below Aw.out) P0 BB3.out).mono ?_;rintro e wA3 ⟨rfl,gB,xt,Xw⟩;have io0:Hid (wA3.heap.size=wr.heap.size+1):=gB;have ye0:Hid (Tn wA3 wr.heap.size ((c.nD+2)*1) 3 (fun j=>.int .i64 (uq 1 c.nD c.dv j))):=Xw;have te0:=HO.out.below xt hH3;have je0:=HC.out.below xt hI3;obtain⟨ty3,MY⟩:=An0.out qO.out;have Mb0:YB<wr.heap.size:=MY.lt;refine Zl fun le0=>?_;have ee0:Hid (Jq (fun j=>SR c cb rb c.nT j\/j=YB) w wA3):=WQ.out.trans (Jq.of_below xt (fun _=>False)) (fun j hj=>.inl hj) (fun j _ hj=>hj.elim);have Lp0:wr.heap.size≠YB:=E0;clear gB xt Xw MY;go_wp2_with fail;go_loopw [5,16] (fun o i wz=>∃k:Nat,k<=c.nD+2/\i=.int .i64 k/\o=.bool Um/\Hid (Jq (fun j=>SR c cb rb c.nT j\/j=YB) w wz)/\Hid (Tn wz w.heap.size 4 28 (cells4 (.slice q0 c.nC NI) (.slice q1 c.nT fQ) (Gp c.aA Jv c.Zo) (Gp c.Vz YB c.nD)))/\Hid (Tn wz (w.heap.size+1) 4 28 (cells4 (.slice p0 c.nC yp) (.slice p1 c.nT gp) (.slice Hn c.Zo 0) (.slice (Gn ⟨bq3,oq3,sq3⟩) c.nD Lq)))/\Hid (Nq wz YB ((c.nD+2)*1) ty3 (k) (fun j=>.int .i64 (uq 1 c.nD c.dv j)))/\Hid (Tn wz wr.heap.size ((c.nD+2)*1) 3 (fun j=>.int .i64 (uq 1 c.nD c.dv j)))) (fun _ i _=>c.nD+2-(intOf i).toNat)
       case atStart=>exact⟨0,Pm _,rfl,rfl,ee0,te0,je0,le0.out.mono E0,ye0⟩
       case round=>
        revert hrel;revert wr;intro wz3 hrel;obtain⟨k,hk,rfl,rfl,JG,ue0,ke0,HF,HV⟩:=hrel;by_cases yo:k<c.nD+2
        ·skip;have a0:=HF.out.cell (j:=k) E0 E0;have d0:=HV.out.cell (j:=k) E0;have f0:=HF.out.frozen (k);generalize uq 1 c.nD c.dv (k)=g0 at a0 d0;go_wp2_with fail;go_quiet (fail);go_wp2_with fail;exact⟨⟨k+1,E0,E1,rfl,⟨JG.out.os,JG.out.tape,JG.out.output,by have:=JG.out.size;simpa[size_setCell]using this,fun j hj hn=>by
          rw[yn _ _ _ _ (fun e=>hn (.inr e))];exact JG.out.block j hj hn⟩,((ue0.out.drewN _).other _ _ A1),((ke0.out.drewN _).other _ _ A1),((((HF.out.drewN _).mono E0).set _ _ E0):Nq _ _ _ _ (k+1) _),((HV.out.drewN _).other _ _ A1)⟩,U1⟩
        ·obtain rfl:k=c.nD+2:=by omega
         clear yo hk HF HV;go_wp2_with fail;go_ret;exact⟨rfl,JG.out.below IG.out (fun j hj=>hj.elim (fun h=>(XR.out _ j N8 h).1) (fun h=>E0)),JG.out.mono (fun j hj=>hj.elim .inl (fun e=>.inr (.inr ⟨qO.out,e⟩)))⟩
     |some q=>
      obtain⟨bq2,oq2,sq2⟩:=q;have KG:Hid (c.aA=Tm):=by
       show _=_;cases h:c.aA
       ·rfl
       ·exact absurd (n2.2 h) P0
      clear zz2 n2;rw[KG.out]at x2;have x2':wr.cell? ⟨w.heap.size,2,Hn⟩=Gn (.slice (Gn ⟨Jv,0,Hn⟩) c.Zo (c.Zo+2)):=x2;clear x2;have QM:=ltC.out KG.out;have mH:=HHH.out.1 KG.out;have hH2:=hH;have hI2:=hH1;go_wp2_with fail;refine(bQ (Gn ⟨bq2,oq2,sq2⟩) c.Zo dq c.ch _ (SS2.out.below Aw.out) P0 BB2.out).mono ?_;rintro e wA2 ⟨rfl,gB,xt,Xw⟩;have vv0:Hid (wA2.heap.size=wr.heap.size+1):=gB;have eo0:Hid (Tn wA2 wr.heap.size ((c.Zo+2)*3) 138 (fun j=>.int .i64 (uq 3 c.Zo c.ch j))):=Xw;have In0:=HO.out.below xt hH2;have qn0:=HC.out.below xt hI2;obtain⟨ty2,Kf0⟩:=zn0.out KG.out;have q80:Jv<wr.heap.size:=Kf0.lt;have un0:Hid (Nq wA2 Jv ((c.Zo+2)*3) ty2 0 (fun j=>.int .i64 (uq 3 c.Zo c.ch j))):=Nq.of (Kf0.below xt q80) _;have in0:Hid (Jq (fun j=>SR c cb rb c.nT j\/j=Jv) w wA2):=WQ.out.trans (Jq.of_below xt (fun _=>False)) (fun j hj=>.inl hj) (fun j _ hj=>hj.elim);have Bx0:wr.heap.size≠Jv:=E0;clear gB xt Xw Kf0;go_wp2_with fail;go_loopw [5,13] (fun o i wz=>∃k:Nat,k<=c.Zo+2/\i=.int .i64 k/\o=.bool Um/\Hid (Jq (fun j=>SR c cb rb c.nT j\/j=Jv) w wz)/\Hid (Tn wz w.heap.size 4 28 (cells4 (.slice q0 c.nC NI) (.slice q1 c.nT fQ) (Gp c.aA Jv c.Zo) (Gp c.Vz YB c.nD)))/\Hid (Tn wz (w.heap.size+1) 4 28 (cells4 (.slice p0 c.nC yp) (.slice p1 c.nT gp) (.slice (Gn ⟨bq2,oq2,sq2⟩) c.Zo dq) (.slice p3 c.nD Lq)))/\Hid (Nq wz Jv ((c.Zo+2)*3) ty2 (k*3) (fun j=>.int .i64 (uq 3 c.Zo c.ch j)))/\Hid (Tn wz wr.heap.size ((c.Zo+2)*3) 138 (fun j=>.int .i64 (uq 3 c.Zo c.ch j)))) (fun _ i _=>c.Zo+2-(intOf i).toNat)
      case atStart=>exact⟨0,Pm _,rfl,rfl,in0,In0,qn0,un0.out.mono E0,eo0⟩
      case round=>
       revert hrel;revert wr;intro wz2 hrel;obtain⟨k,hk,rfl,rfl,oO,Ta0,Sa0,HF,HV⟩:=hrel;by_cases yo:k<c.Zo+2
       ·skip;have a0:=HF.out.cell (j:=k*3) E0 E0;have d0:=HV.out.cell (j:=k*3) E0;have f0:=HF.out.frozen (k*3);have a1:=HF.out.cell (j:=k*3+1) E0 E0;have d1:=HV.out.cell (j:=k*3+1) E0;have f1:=HF.out.frozen (k*3+1);have a2:=HF.out.cell (j:=k*3+2) E0 E0;have d2:=HV.out.cell (j:=k*3+2) E0;have f2:=HF.out.frozen (k*3+2);generalize uq 3 c.Zo c.ch (k*3)=g0 at a0 d0;generalize uq 3 c.Zo c.ch (k*3+1)=g1 at a1 d1;generalize uq 3 c.Zo c.ch (k*3+2)=g2 at a2 d2;go_wp2_with fail;go_quiet (fail);go_wp2_with fail;exact⟨⟨k+1,E0,E1,rfl,⟨oO.out.os,oO.out.tape,oO.out.output,by have:=oO.out.size;simpa[size_setCell]using this,fun j hj hn=>by
         rw[yn _ _ _ _ (fun e=>hn (.inr e)),yn _ _ _ _ (fun e=>hn (.inr e)),yn _ _ _ _ (fun e=>hn (.inr e))];exact oO.out.block j hj hn⟩,((((Ta0.out.drewN _).other _ _ A1).other _ _ A1).other _ _ A1),((((Sa0.out.drewN _).other _ _ A1).other _ _ A1).other _ _ A1),((((((HF.out.drewN _).mono E0).set _ _ E0).set _ _ E0).set _ _ E0):Nq _ _ _ _ ((k+1)*3) _),((((HV.out.drewN _).other _ _ A1).other _ _ A1).other _ _ A1)⟩,U1⟩
       ·obtain rfl:k=c.Zo+2:=by omega
        clear yo hk HF HV;have HBz:Hid (Sm w0.heap.size w0 wz2):=oO.out.below IG.out (fun j hj=>hj.elim (fun h=>(XR.out _ j N8 h).1) (fun h=>E0));have Bn0:Hid (c.Vz=Tm->∃ty,Tn wz2 YB ((c.nD+2)*1) ty (fun j=>.int .i64 (uq 1 c.nD c.dv j))):=fun hn=>HDV.out.keep (fun hn=>by
         obtain⟨ty,hr⟩:=HDV.out hn;exact oO.out.block _ hr.lt (fun h=>h.elim (fun h=>O7) (fun h=>by have:=HHH.out.2.2 KG.out hn;omega))) hn
        obtain⟨-,-,-,u3⟩:=Ta0.out.at4;obtain⟨-,-,-,v3'⟩:=Sa0.out.at4;have hHz:w.heap.size<wz2.heap.size:=Ta0.out.lt;have Po0:w.heap.size+1<wz2.heap.size:=Sa0.out.lt;clear x2' x3 y2 y3;cases p3 with
        |none=>
         obtain⟨JL,rfl⟩:=zX rfl;rw[JL]at v3';clear zX n3 JL;go_wp2_with fail;go_ret;exact⟨rfl,oO.out.below IG.out (fun j hj=>hj.elim (fun h=>(XR.out _ j N8 h).1) (fun h=>E0)),oO.out.mono (fun j hj=>hj.elim .inl (fun e=>.inr (.inl ⟨KG.out,e⟩)))⟩
        |some q=>
         obtain⟨bq3,oq3,sq3⟩:=q;have qO:Hid (c.Vz=Tm):=by
          show _=_;cases h:c.Vz
          ·rfl
          ·exact absurd (n3.2 h) P0
         clear zX n3;rw[qO.out]at u3;have x3':wz2.cell? ⟨w.heap.size,3,Hn⟩=Gn (.slice (Gn ⟨YB,0,Hn⟩) c.nD (c.nD+2)):=u3;clear u3;have hd1:=ltD.out qO.out;have hd2:=HHH.out.2.1 qO.out;have hH3:=hHz;have hI3:=Po0;go_wp2_with fail;refine(KH (Gn ⟨bq3,oq3,sq3⟩) c.nD Lq c.dv _ (SS3.out.below HBz.out) P0 BB3.out).mono ?_;rintro e wA3 ⟨rfl,gB,xt,Xw⟩;have io0:Hid (wA3.heap.size=wz2.heap.size+1):=gB;have ye0:Hid (Tn wA3 wz2.heap.size ((c.nD+2)*1) 3 (fun j=>.int .i64 (uq 1 c.nD c.dv j))):=Xw;have te0:=Ta0.out.below xt hH3;have je0:=Sa0.out.below xt hI3;obtain⟨ty3,MY⟩:=Bn0.out qO.out;have Mb0:YB<wz2.heap.size:=MY.lt;refine Zl fun le0=>?_;have ee0:Hid (Jq (fun j=>(SR c cb rb c.nT j\/j=Jv)\/j=YB) w wA3):=oO.out.trans (Jq.of_below xt (fun _=>False)) (fun j hj=>.inl hj) (fun j _ hj=>hj.elim);have Lp0:wz2.heap.size≠YB:=E0;clear gB xt Xw MY;go_wp2_with fail;go_loopw [5,16] (fun o i wz=>∃k:Nat,k<=c.nD+2/\i=.int .i64 k/\o=.bool Um/\Hid (Jq (fun j=>(SR c cb rb c.nT j\/j=Jv)\/j=YB) w wz)/\Hid (Tn wz w.heap.size 4 28 (cells4 (.slice q0 c.nC NI) (.slice q1 c.nT fQ) (Gp c.aA Jv c.Zo) (Gp c.Vz YB c.nD)))/\Hid (Tn wz (w.heap.size+1) 4 28 (cells4 (.slice p0 c.nC yp) (.slice p1 c.nT gp) (.slice (Gn ⟨bq2,oq2,sq2⟩) c.Zo dq) (.slice (Gn ⟨bq3,oq3,sq3⟩) c.nD Lq)))/\Hid (Nq wz YB ((c.nD+2)*1) ty3 (k) (fun j=>.int .i64 (uq 1 c.nD c.dv j)))/\Hid (Tn wz wz2.heap.size ((c.nD+2)*1) 3 (fun j=>.int .i64 (uq 1 c.nD c.dv j)))) (fun _ i _=>c.nD+2-(intOf i).toNat)
         case atStart=>exact⟨0,Pm _,rfl,rfl,ee0,te0,je0,le0.out.mono E0,ye0⟩
         case round=>
          revert hrel;revert wr;intro wz3 hrel;obtain⟨k,hk,rfl,rfl,JG,ue0,ke0,HF,HV⟩:=hrel;by_cases yo:k<c.nD+2
          ·skip;have a0:=HF.out.cell (j:=k) E0 E0;have d0:=HV.out.cell (j:=k) E0;have f0:=HF.out.frozen (k);generalize uq 1 c.nD c.dv (k)=g0 at a0 d0;go_wp2_with fail;go_quiet (fail);go_wp2_with fail;exact⟨⟨k+1,E0,E1,rfl,⟨JG.out.os,JG.out.tape,JG.out.output,by have:=JG.out.size;simpa[size_setCell]using this,fun j hj hn=>by
            rw[yn _ _ _ _ (fun e=>hn (.inr e))];exact JG.out.block j hj hn⟩,((ue0.out.drewN _).other _ _ A1),((ke0.out.drewN _).other _ _ A1),((((HF.out.drewN _).mono E0).set _ _ E0):Nq _ _ _ _ (k+1) _),((HV.out.drewN _).other _ _ A1)⟩,U1⟩
          ·obtain rfl:k=c.nD+2:=by omega
           clear yo hk HF HV;go_wp2_with fail;go_ret;exact⟨rfl,JG.out.below IG.out (fun j hj=>hj.elim (fun h=>h.elim (fun h=>(XR.out _ j N8 h).1) (fun h=>E0)) (fun h=>E0)),JG.out.mono (fun j hj=>hj.elim (fun h=>h.elim .inl (fun e=>.inr (.inl ⟨KG.out,e⟩))) (fun e=>.inr (.inr ⟨qO.out,e⟩)))⟩
theorem H50(x y:Int)(w:En):Zm prog 114 #[.int .i64 2,.int .i64 x,.int .i64 y] w fun e w'=>e=.returned (.tuple #[.int .i64 (wrap64 (x+y)),.bool Um])/\w'=w:=by
 exact ec
theorem N50(x y:Int)(w:En):Zm prog 114 #[.int .i64 3,.int .i64 x,.int .i64 y] w fun e w'=>e=.returned (.tuple #[.int .i64 (wrap64 (x-y)),.bool Um])/\w'=w:=by
 exact ec
theorem K50(x y:Int)(w:En):Zm prog 114 #[.int .i64 4,.int .i64 x,.int .i64 y] w fun e w'=>e=.returned (.tuple #[.int .i64 (wrap64 (x*y)),.bool Um])/\w'=w:=by
 exact ec
theorem u_(x:Int)(w:En):Zm prog 114 #[.int .i64 5,.int .i64 x,.int .i64 0] w fun e w'=>e=.returned (.tuple #[.int .i64 0,.bool Tm])/\w'=w:=by
 exact ec
theorem L50(x:Int)(w:En):Zm prog 114 #[.int .i64 5,.int .i64 x,.int .i64 (-1)] w fun e w'=>e=.returned (.tuple #[.int .i64 (wrap64 (-x)),.bool Um])/\w'=w:=by
 exact ec
theorem M50(x y:Int)(w:En)(h0:(y==0)=Tm)(h1:(y==-1)=Tm):Zm prog 114 #[.int .i64 5,.int .i64 x,.int .i64 y] w fun e w'=>e=.returned (.tuple #[.int .i64 (wrap64 (x.tdiv y)),.bool Um])/\w'=w:=by
 go_enter func114,ntmps114
 go_wp2_with fail
 ·rename_i hy
  rw[hy]at h0;cases h0
 ·go_ret2
  exact Xl
open Go
theorem A90{A:En}{M:Array Dn}{n G ty:Nat}{f:Nat->Dn}(hG:A.heap.size=G)(hs:M.size=n)(hM:∀j,j<n->M[j]?=Gn (f j)):Tn (A.alloc (.cells M ty)) G n ty f:=by
 subst hG;rw[<-hs];exact Tn.new A M _ _ (fun j hj=>hM j E0)
theorem rJ{P:Ym}(t e:TypeId)(z:Dn)(size bytes n:Nat)(ht:P.underlying t=Gn (.slice e))(Ny:(P.info? e).map (fun i=>(i.zero,i.size,i.bytes))=Gn (Gn z,size,bytes))(hb:bytes*n<=281474976710656)(hn:n<=9223372036854775807):
  ∃MC:Array Dn,MC.size=n*size/\(∀j,j<n*size->MC[j]?=Gn (z.cells[j%z.cells.size]!))/\∀W:En,(Instr.makeSlice t (.int .i64 n) (.int .i64 n)).run P W=.ok (.slice (Gn ⟨W.heap.size,0,Hn⟩) n n) (W.alloc (.cells MC e)):=by
 obtain⟨i,h2,h3,h4,h5⟩:=info_parts Ny;subst h4 h5;refine⟨madeCells z.cells (n*i.size),size_madeCells _ _,fun j hj=>by simp[madeCells,hj],fun W=>?_⟩;have Xq:(i.bytes:Int)*(n:Int)<=281474976710656:=by
  have h:((i.bytes*n:Nat):Int)<=281474976710656:=E0;rwa [Int.natCast_mul]at h
 exact Bg
section
variable {w:En}{base e size n cap g:Nat}{xs:List Dn}
theorem yt(h:w.ownsRow base e size (.slice (Gn ⟨g,0,Hn⟩) n cap) n xs){j:Nat}{u:Dn}(hx:xs[j]?=Gn u):w.cell? ⟨g,j,Hn⟩=Gn u:=by
 have:=h.cells (g:=g) rfl j u hx;rwa [Addr.add_lit,Nat.zero_add]at this
end
theorem l30{w:En}{g t:Nat}{a b c:Dn}(h:Tn w g 3 t (cells3 a b c)):w.heap[g]?=Gn (.cells #[a,b,c] t (0,0)):=by
 obtain⟨cs,h1,h2,h3⟩:=h;rw[h1];congr 2;apply Array.ext
 ·simp[h2]
 ·intro j hj kz;have:=h3 j E0;rw[Bm hj]at this;have e:=Option.some.inj this;rw[e];have:j=0\/j=1\/j=2:=by omega
  rcases this with rfl|rfl|rfl<;>rfl
theorem eH:(prog.info? 63).map (·.size)=Gn 3:=J0
theorem Rz{P:Ym}{fn:Func}{p u:Tmp}{ty:TypeId}(h:fn.results=#[.cell p ty,.tmp u])(tmps:Array Dn)(w:En)(g:Nat)(t:TypeId)(cs:Array Dn)(fr:Nat×Nat)(d:TypeDesc)
  (hp:tmps.getD p Bn=.pointer (Gn ⟨g,0,Hn⟩))(hg:w.heap[g]?=Gn (.cells cs t fr))
  (hu:P.underlying ty=Gn d)(hd:(match d with|.struct _|.array _ _=>Um|_=>Tm)=Um)(hi:(P.info? ty).map (·.size)=Gn cs.size):
  (results fn tmps).run P w=.ok (.tuple #[.agg cs,tmps.getD u Bn]) w:=by
 have lV:tmps[p]?.getD Bn=.pointer (Gn ⟨g,0,Hn⟩):=by simpa using hp
 rw[results_cell_tmp h];simp[lV,asAddr,run_loadVar_row w g t ty cs fr d hg hu hd hi,Result.andThen]
section
variable (kb nC cC:Nat)(q:Option Vm)(cell:Int)(w:En)(h2:w.cell? ⟨kb,2,Hn⟩=Gn (.slice q nC cC))
include kb nC cC q cell w h2
theorem MB:
  Zm prog 28 #[.pointer (Gn ⟨kb,0,Hn⟩),.int .i64 cell] w fun e w'=>e=.returned (.bool (decide (0<=cell/\cell<nC)))/\w'=w:=by
 by_cases h0:0<=cell
 ·go_enter func28,ntmps28
  go_wp2_with fail
  go_ret;exact⟨by congr 1;simp;omega,rfl⟩
 ·go_enter func28,ntmps28
  go_wp2_with fail
  go_ret;exact⟨by congr 2;simp;omega,rfl⟩
theorem ga0(hc:¬(0<=cell/\cell<nC)):
  Zm prog 33 #[.pointer (Gn ⟨kb,0,Hn⟩),.int .i64 cell] w fun e w'=>e=.returned (.tuple #[.slice Hn 0 0,.int .i64 7])/\w'=w:=by
 have hd:decide (0<=cell/\cell<nC)=false:=X5
 go_enter func33,ntmps33
 exact Bc
theorem G20(hc:¬(0<=cell/\cell<nC)):
  Zm prog 34 #[.pointer (Gn ⟨kb,0,Hn⟩),.int .i64 cell] w fun e w'=>e=.returned (.tuple #[.slice Hn 0 0,.int .i64 7])/\w'=w:=by
 have hd:decide (0<=cell/\cell<nC)=false:=X5
 go_enter func34,ntmps34
 exact Bc
theorem U90(hc:¬(0<=cell/\cell<nC)):
  Zm prog 35 #[.pointer (Gn ⟨kb,0,Hn⟩),.int .i64 cell] w fun e w'=>e=.returned (.tuple #[.agg #[.int .i64 0,.int .i64 0,.bool Tm],.int .i64 7])/\Sm w.heap.size w w':=by
 have hd:decide (0<=cell/\cell<nC)=false:=X5;refine U9 fun HA=>?_;have yo:=Wm h2
 go_enter func35,ntmps35
 go_wp2_with fail
 refine(MB kb nC cC q cell _ (((HA.out _).cell (p:=⟨kb,2,Hn⟩) yo).trans h2)).mono ?_;rintro e w1 ⟨rfl,rfl⟩;rw[hd];go_wp2_with fail
 (try simp only[Exit.inBlock,Exit.then])
 refine bodyPost_ret (Rz (P:=prog) rfl _ _ w.heap.size 63 #[.int .i64 0,.int .i64 0,.bool Tm] (0,0) _ rfl (heap_alloc_new w _) underlying63 rfl eH) rfl ?_;exact⟨rfl,HA.out _⟩
end
theorem e40(kb T nC cT cC cell m:Nat)(q:Option Vm)(v:Dn)(tz:Nat->Int)(w:En)(h2:w.cell? ⟨kb,2,Hn⟩=Gn (.slice q nC cC))(h4:w.cell? ⟨kb,4,Hn⟩=Gn (.slice (Gn ⟨T,0,Hn⟩) nC cT))(ht:w.cell? ⟨T,cell,Hn⟩=Gn v)
  (hv:w.ownsRow 0 111 3 v m ((Hm (m*3)).map fun j=>.int .i64 (tz j)))(hc:cell<nC)(hb:24*m<=140737488355328):
  Zm prog 33 #[.pointer (Gn ⟨kb,0,Hn⟩),.int .i64 cell] w fun e w'=>∃u,e=.returned (.tuple #[u,.int .i64 0])/\Sm w.heap.size w w'/\w'.ownsRow w.heap.size 111 3 u m ((Hm (m*3)).map fun j=>.int .i64 (tz j)):=by
 have hd:decide (0<=(cell:Int)/\(cell:Int)<nC)=true:=by simp;omega
 have lG:(cell:Int)<(nC:Int):=E0;obtain⟨p,cap,rfl,-,hz,hs⟩:=nB hv;have HS:Hid (Sl w p (m*3) fun j=>.int .i64 (tz j)):=hs;have HZ:Hid (p=Hn->m=0/\cap=0):=hz;clear hv hs hz
 go_enter func33,ntmps33
 go_wp2_with fail
 refine(MB kb nC cC q cell _ h2).mono ?_;rintro e w1 ⟨rfl,rfl⟩;rw[hd];go_wp2_with fail;refine(EU p m cap tz _ HS.out HZ.out hb).mono ?_;exact He
theorem oM(g:Nat)(num:Int)(net code:Dn)(z:Nat->Int)(w:En)(hr:Tn w g 48 186 (Zv num net code z)):
  Zm prog 61 #[.pointer (Gn ⟨g,0,Hn⟩)] w fun e w'=>∃u,e=.returned u/\Sm w.heap.size w w'/\w'.ownsRow w.heap.size 2 1 u 16 ((Hm 16).map fun j=>.int .i64 (z (29+j))):=by
 have HS:Hid (Sl w (Gn ⟨g,29,Hn⟩) (16*1) fun j=>.int .i64 (z (29+j))):=.inr ⟨g,29,rfl,fun j hj=>by
  rw[hr.cell E0];unfold Zv;rw[if_neg E0,if_neg E0,if_neg E0]⟩
 clear hr
 go_enter func61,ntmps61
 go_wp2_with fail
 refine(pR (Gn ⟨g,29,Hn⟩) 16 16 (fun j=>z (29+j)) _ HS.out (fun h=>X3) E0).mono ?_;rintro e w' ⟨u,rfl,h1,h2⟩;have H1:Hid _:=h1;have H2:Hid _:=h2;obtain⟨pu,mu,cu,rfl⟩:=sx h2;clear h1 h2;go_wp2_with fail;go_ret;exact⟨_,rfl,H1.out,H2.out⟩
theorem pZ(kb C g nC cC cell:Nat)(num:Int)(net code:Dn)(z:Nat->Int)(w:En)(h2:w.cell? ⟨kb,2,Hn⟩=Gn (.slice (Gn ⟨C,0,Hn⟩) nC cC))(hp:w.cell? ⟨C,cell,Hn⟩=Gn (.pointer (Gn ⟨g,0,Hn⟩)))(hr:Tn w g 48 186 (Zv num net code z))(hc:cell<nC):
  Zm prog 34 #[.pointer (Gn ⟨kb,0,Hn⟩),.int .i64 cell] w fun e w'=>∃u,e=.returned (.tuple #[u,.int .i64 0])/\Sm w.heap.size w w'/\w'.ownsRow w.heap.size 2 1 u 16 ((Hm 16).map fun j=>.int .i64 (z (29+j))):=by
 have hd:decide (0<=(cell:Int)/\(cell:Int)<nC)=true:=by simp;omega
 have lG:(cell:Int)<(nC:Int):=E0;have HR:Hid (Tn w g 48 186 (Zv num net code z)):=hr;clear hr
 go_enter func34,ntmps34
 go_wp2_with fail
 refine(MB kb nC cC _ cell _ h2).mono ?_;rintro e w1 ⟨rfl,rfl⟩;rw[hd];go_wp2_with fail;refine(oM g num net code z _ HR.out).mono ?_;exact He
theorem NW(g:Nat)(a b:Int)(w:En)(h47:w.cell? ⟨g,47,Hn⟩=Gn (.int .i64 a))(h3:w.cell? ⟨g,3,Hn⟩=Gn (.int .i64 b)):
  Zm prog 86 #[.pointer (Gn ⟨g,0,Hn⟩)] w fun e w'=>e=.returned (.bool (decide (b<a)))/\w'=w.drew:=by
 go_enter func86,ntmps86
 go_wp2_with fail
 go_region_held3 (fun W=>W.cell? ⟨g,47,Hn⟩=Gn (.int .i64 a)/\W.cell? ⟨g,3,Hn⟩=Gn (.int .i64 b)) (go_keep) (fail)
 exact Td
theorem EO(g:Nat)(a b c:Int)(w:En)(h46:w.cell? ⟨g,46,Hn⟩=Gn (.int .i64 c))(h47:w.cell? ⟨g,47,Hn⟩=Gn (.int .i64 a))(h3:w.cell? ⟨g,3,Hn⟩=Gn (.int .i64 b)):
  Zm prog 62 #[.pointer (Gn ⟨g,0,Hn⟩)] w fun e w'=>e=.returned (.agg #[.int .i64 c,.int .i64 a,.bool (decide (b<a))])/\Sm w.heap.size w w':=by
 refine U9 fun HA=>?_;have yo:g<w.heap.size:=Wm h46;have Yp:g≠w.heap.size:=E0;have A47:Hid (∀o,(w.alloc o).cell? ⟨g,47,Hn⟩=Gn (.int .i64 a)):=fun o=>((HA.out o).cell (p:=⟨g,47,Hn⟩) yo).trans h47;have A3:Hid (∀o,(w.alloc o).cell? ⟨g,3,Hn⟩=Gn (.int .i64 b)):=fun o=>((HA.out o).cell (p:=⟨g,3,Hn⟩) yo).trans h3
 go_enter func62,ntmps62
 go_wp2_with fail
 go_region_held3 (fun W=>W.cell? ⟨g,46,Hn⟩=Gn (.int .i64 c)/\W.cell? ⟨g,47,Hn⟩=Gn (.int .i64 a)/\W.cell? ⟨g,3,Hn⟩=Gn (.int .i64 b)) (go_keep)
  (first
   |(go_at_call 86
     refine(NW g a b _ (by exact A47.out _) (by exact A3.out _)).mono ?_;rintro e wl ⟨rfl,rfl⟩))
 go_wp2_with fail
 (try simp only[Exit.inBlock,Exit.then])
 refine bodyPost_ret (results_cell_row (P:=prog) rfl _ _ w.heap.size 63 #[.int .i64 c,.int .i64 a,.bool (decide (b<a))] (0,0) _ rfl (by exact heap_alloc_new w _) underlying63 rfl eH) rfl ?_;exact⟨rfl,(HA.out _).drew.drew⟩
theorem T30(kb C g nC cC cell:Nat)(num:Int)(net code:Dn)(z:Nat->Int)(w:En)(h2:w.cell? ⟨kb,2,Hn⟩=Gn (.slice (Gn ⟨C,0,Hn⟩) nC cC))(hp:w.cell? ⟨C,cell,Hn⟩=Gn (.pointer (Gn ⟨g,0,Hn⟩)))(hr:Tn w g 48 186 (Zv num net code z))(hc:cell<nC):
  Zm prog 35 #[.pointer (Gn ⟨kb,0,Hn⟩),.int .i64 cell] w fun e w'=>e=.returned (.tuple #[.agg #[.int .i64 (z 46),.int .i64 (z 47),.bool (decide (z 3<z 47))],.int .i64 0])/\Sm w.heap.size w w':=by
 have hd:decide (0<=(cell:Int)/\(cell:Int)<nC)=true:=by simp;omega
 have lG:(cell:Int)<(nC:Int):=E0;refine U9 fun HA=>?_;have l2:kb<w.heap.size:=Wm h2;have lC:C<w.heap.size:=Wm hp;have A2:Hid (∀o,(w.alloc o).cell? ⟨kb,2,Hn⟩=Gn (.slice (Gn ⟨C,0,Hn⟩) nC cC)):=fun o=>((HA.out o).cell (p:=⟨kb,2,Hn⟩) l2).trans h2;have n2:kb≠w.heap.size:=E0;have nC':C≠w.heap.size:=E0;have HR:Hid (∀o,Tn (w.alloc o) g 48 186 (Zv num net code z)):=fun o=>hr.alloc o;clear hr
 go_enter func35,ntmps35
 go_wp2_with fail
 refine(MB kb nC cC _ cell _ (A2.out _)).mono ?_;rintro e w1 ⟨rfl,rfl⟩;rw[hd];go_wp2_with fail;refine(EO g (z 47) (z 3) (z 46) _ ((HR.out _).cell E0) ((HR.out _).cell E0) ((HR.out _).cell E0)).mono ?_;rintro e w' ⟨rfl,h1⟩;have H1:Hid (Sm w.heap.size w w'):=(HA.out _).trans (h1.mono P0);have HW:Hid (Tn w' w.heap.size 3 63 (cells3 (.int .i64 0) (.int .i64 0) (.bool Tm))):=(row3 w _ _ _ _).of_heap (h1.block _ P0);have b0:=HW.out.at3.1;have b1:=HW.out.at3.2.1;have b2:=HW.out.at3.2.2;have f0:=HW.out.frozen 0;have f1:=HW.out.frozen 1;have f2:=HW.out.frozen 2;clear h1;go_wp2_with fail;have HF:=l30 ((((HW.out.UZ (.int .i64 (z 46))).1.UZ (.int .i64 (z 47))).2.1.UZ (.bool (decide (z 3<z 47)))).2.2)
 (try simp only[Exit.inBlock,Exit.then])
 refine bodyPost_ret (Rz (P:=prog) rfl _ _ w.heap.size 63 #[.int .i64 (z 46),.int .i64 (z 47),.bool (decide (z 3<z 47))] (0,0) _ rfl (by exact HF) underlying63 rfl eH) rfl ?_;exact⟨rfl,((H1.out.setCell P0 _).setCell P0 _).setCell P0 _⟩
theorem GK(p q:Option Vm)(m c c':Nat)(z:Nat->Int)(w:En)(hs:Sl w p (m*3) (fun j=>.int .i64 (z j)))(hq:Sl w q (m*3) (fun j=>.int .i64 (z j)))(hm:m<=1000000000000):
  Zm prog 45 #[.slice p m c,.slice q m c'] w fun e w'=>e=.returned (.bool Um)/\Sm w.heap.size w w':=by
 have HS:Hid (Sl w p (m*3) (fun j=>.int .i64 (z j))):=hs;have HQ:Hid (Sl w q (m*3) (fun j=>.int .i64 (z j))):=hq;clear hs hq
 go_enter func45,ntmps45
 go_wp2_with fail
 go_loopw [5] (fun i wr=>∃k:Nat,k<=m/\i=.int .i64 k/\Hid (Sm w.heap.size w wr)) (fun i _=>m-(intOf i).toNat)
 case atStart=>exact⟨0,Pm _,rfl,Below.refl _ _⟩
 case round=>
  obtain⟨k,hk,rfl,HB⟩:=hrel;by_cases yo:k<m
  ·obtain⟨b,o,rfl,hc⟩:=(HS.out.below HB.out).at E0;obtain⟨b',o',rfl,zE⟩:=(HQ.out.below HB.out).at E0;refine Vb fun c0 c1 c2=>?_;have d0:=zE (k*3) E0;have d1:=zE (k*3+1) E0;have d2:=zE (k*3+2) E0;rw[<-Jm]at c1 c2 d1 d2;clear hc zE;have lG:(k:Int)<(m:Int):=by omega
   generalize z (k*3)=x0 at *;generalize z (k*3+1)=x1 at *;generalize z (k*3+2)=x2 at *;go_wp2_with fail;go_region_held3 (fun W=>W.cell? ⟨b,o+k*3,Hn⟩=Gn (.int .i64 x0)/\W.cell? ⟨b,o+k*3+1,Hn⟩=Gn (.int .i64 x1)/\W.cell? ⟨b,o+k*3+2,Hn⟩=Gn (.int .i64 x2)/\W.cell? ⟨b',o'+k*3,Hn⟩=Gn (.int .i64 x0)/\W.cell? ⟨b',o'+k*3+1,Hn⟩=Gn (.int .i64 x1)/\W.cell? ⟨b',o'+k*3+2,Hn⟩=Gn (.int .i64 x2)) (go_keep) (fail);go_wp2_with fail;exact⟨⟨k+1,E0,E1,HB.out.drew⟩,U1⟩
  ·obtain rfl:k=m:=by omega
   go_wp2_with fail
   go_ret;exact⟨rfl,HB.out⟩
def gA(c:Int)(n:Nat):Nat:=((if c<0 then -(c+1)else c)%(n:Int)).toNat
theorem b30(c:Int){n:Nat}(hn:0<n):gA c n<n:=by
 unfold gA;have h1:=Int.emod_nonneg (if c<0 then -(c+1)else c) (show (n:Int)≠0 by omega);have h2:=Int.emod_lt_of_pos (if c<0 then -(c+1)else c) (show (0:Int)<n by omega);omega
theorem pick_any(c:Int)(n:Nat)(w:En)(hn:0<n)(hn':n<=1000000000000)(h1:-9223372036854775808<=c)(h2:c<=9223372036854775807):
  Zm prog 20 #[.int .i64 c,.int .i64 n] w fun e w'=>e=.returned (.int .i64 (gA c n:Nat))/\w'=w:=by
 have hz:¬((n:Int)=0):=E0;by_cases h:c<0
 ·have e1:IntKind.i64.wrap (c+1)=c+1:=by rw[IntKind.wrap_i64];omega
  have e2:IntKind.i64.wrap (-(c+1))=-(c+1):=by rw[IntKind.wrap_i64];omega
  have e3:((gA c n:Nat):Int)=(-(c+1)).tmod n:=by
   unfold gA;rw[if_pos h,Int.toNat_of_nonneg (Int.emod_nonneg _ hz),Int.tmod_eq_emod_of_nonneg E0]
  rw[e3]
  go_enter func20,ntmps20
  go_wp2_with fail
  go_ret;exact⟨by rw[Int.neg_tmod];rfl,rfl⟩
 ·have e3:((gA c n:Nat):Int)=c%n:=by
   unfold gA;rw[if_neg h,Int.toNat_of_nonneg (Int.emod_nonneg _ hz)]
  rw[e3]
  go_enter func20,ntmps20
  exact Td
def Ot(w:En)(k:Nat)(v:Dn)(i:Nat):Prop:=∃p m c,v=.slice p m c/\m<=1000000000000/\(m=0\/∃b,p=Gn ⟨b,0,Hn⟩/\∀j,j<m*k->w.cell? ⟨b,j,Hn⟩=Gn (.int .i64 (if j%k=0 then -1000-((i/4:Nat):Int)else 0)))
theorem Ot.sl{w:En}{k:Nat}{v:Dn}{i:Nat}(h:Ot w k v i):∃p m c,v=.slice p m c/\m<=1000000000000/\Sl w p (m*k) (fun j=>.int .i64 (if j%k=0 then -1000-((i/4:Nat):Int)else 0)):=by
 obtain⟨p,m,c,h1,h2,h3⟩:=h;refine⟨p,m,c,h1,h2,?_⟩;rcases h3 with rfl|⟨b,rfl,h3⟩
 ·exact .inl (Nat.zero_mul _)
 ·exact .inr ⟨b,0,rfl,fun j hj=>by rw[Nat.zero_add];exact h3 j hj⟩
theorem Y30(B o nE cE nW cW nC cC:Nat)(pE pW pC:Option Vm)(fE fW fC:Nat->Dn)(w:En)(h0:w.cell? ⟨B,o,Hn⟩=Gn (.slice pE nE cE))(h1:w.cell? ⟨B,o+1,Hn⟩=Gn (.slice pW nW cW))(h2:w.cell? ⟨B,o+2,Hn⟩=Gn (.slice pC nC cC))
  (hE:Sl w pE nE fE)(hW:Sl w pW nW fW)(hC:Sl w pC nC fC)(mE:∀i,i<nE->Ot w 3 (fE i) i)(mW:∀i,i<nW->Ot w 1 (fW i) i)(mC:∀i,i<nC->Ot w 1 (fC i) i)(bE:nE<=1000000000000)(bW:nW<=1000000000000)(bC:nC<=1000000000000):
  Zm prog 23 #[.pointer (Gn ⟨B,o,Hn⟩)] w fun e w'=>e=.returned (.bool Um)/\w'=w:=by
 have HE:Hid (Sl w pE nE fE):=hE;have HW:Hid (Sl w pW nW fW):=hW;have ME:Hid (∀i,i<nE->Ot w 3 (fE i) i):=mE;have MW:Hid (∀i,i<nW->Ot w 1 (fW i) i):=mW;have HC:Hid (Sl w pC nC fC):=hC;have MC:Hid (∀i,i<nC->Ot w 1 (fC i) i):=mC;clear hE hW mE mW hC mC
 go_enter func23,ntmps23
 go_wp2_with fail
 go_loop [3] (fun i=>∃k:Nat,k<=nE/\i=.int .i64 k) (fun i=>nE-(intOf i).toNat)
 case atStart=>exact⟨0,Pm _,rfl⟩
 case round=>
  obtain⟨k,hk,rfl⟩:=hrel;by_cases yo:k<nE
  ·obtain⟨b,oo,rfl,hc⟩:=HE.out.at E0;have c0:=hc k yo;clear hc;obtain⟨p,m,c,hv,hm,hs⟩:=(ME.out k yo).sl;rw[hv]at c0;clear hv;have HS:Hid (Sl w p (m*3) (fun j=>.int .i64 (if j%3=0 then -1000-((k/4:Nat):Int)else 0))):=hs;clear hs;have lG:(k:Int)<(nE:Int):=by omega
   have hq:(-1000:Int)-(k:Int)/4=-1000-((k/4:Nat):Int):=E0;generalize (-1000:Int)-((k/4:Nat):Int)=mk at *;go_wp2_with fail
   go_loop [4] (fun i=>∃j:Nat,j<=m/\i=.int .i64 j) (fun i=>m-(intOf i).toNat)
   case atStart=>exact⟨0,Pm _,rfl⟩
   case round=>
    obtain⟨j,hj,rfl⟩:=hrel;by_cases X_:j<m
    ·obtain⟨b2,o2,rfl,hc⟩:=HS.out.at E0;have d0:=hc (j*3) E0;have d1:=hc (j*3+1) E0;have d2:=hc (j*3+2) E0;rw[if_pos E0]at d0;rw[if_neg E0,<-Jm]at d1 d2;clear hc;have hl3:(j:Int)<(m:Int):=by omega
     exact Oi
    ·obtain rfl:j=m:=by omega
     exact Qi
  ·obtain rfl:k=nE:=by omega
   go_wp2_with fail
   go_loop [5] (fun i=>∃k:Nat,k<=nW/\i=.int .i64 k) (fun i=>nW-(intOf i).toNat)
   case atStart=>exact⟨0,Pm _,rfl⟩
   case round=>
    obtain⟨k,hk,rfl⟩:=hrel;by_cases yo:k<nW
    ·obtain⟨b,oo,rfl,hc⟩:=HW.out.at E0;have c0:=hc k yo;clear hc;obtain⟨p,m,c,hv,hm,hs⟩:=(MW.out k yo).sl;rw[hv]at c0;clear hv;have HS:Hid (Sl w p (m*1) (fun j=>.int .i64 (if j%1=0 then -1000-((k/4:Nat):Int)else 0))):=hs;clear hs;have lG:(k:Int)<(nW:Int):=by omega
     have hq:(-1000:Int)-(k:Int)/4=-1000-((k/4:Nat):Int):=E0;generalize (-1000:Int)-((k/4:Nat):Int)=mk at *;go_wp2_with fail
     go_loop [6] (fun i=>∃j:Nat,j<=m/\i=.int .i64 j) (fun i=>m-(intOf i).toNat)
     case atStart=>exact⟨0,Pm _,rfl⟩
     case round=>
      obtain⟨j,hj,rfl⟩:=hrel;by_cases X_:j<m
      ·obtain⟨b2,o2,rfl,hc⟩:=HS.out.at E0;have d0:=hc j E0;rw[if_pos E0]at d0;clear hc;have hl3:(j:Int)<(m:Int):=by omega
       exact Oi
      ·obtain rfl:j=m:=by omega
       exact Qi
    ·obtain rfl:k=nW:=by omega
     go_wp2_with fail
     go_loop [7] (fun i=>∃k:Nat,k<=nC/\i=.int .i64 k) (fun i=>nC-(intOf i).toNat)
     case atStart=>exact⟨0,Pm _,rfl⟩
     case round=>
      obtain⟨k,hk,rfl⟩:=hrel;by_cases yo:k<nC
      ·obtain⟨b,oo,rfl,hc⟩:=HC.out.at E0;have c0:=hc k yo;clear hc;obtain⟨p,m,c,hv,hm,hs⟩:=(MC.out k yo).sl;rw[hv]at c0;clear hv;have HS:Hid (Sl w p (m*1) (fun j=>.int .i64 (if j%1=0 then -1000-((k/4:Nat):Int)else 0))):=hs;clear hs;have lG:(k:Int)<(nC:Int):=by omega
       have hq:(-1000:Int)-(k:Int)/4=-1000-((k/4:Nat):Int):=E0;generalize (-1000:Int)-((k/4:Nat):Int)=mk at *;go_wp2_with fail
       go_loop [8] (fun i=>∃j:Nat,j<=m/\i=.int .i64 j) (fun i=>m-(intOf i).toNat)
       case atStart=>exact⟨0,Pm _,rfl⟩
       case round=>
        obtain⟨j,hj,rfl⟩:=hrel;by_cases X_:j<m
        ·obtain⟨b2,o2,rfl,hc⟩:=HS.out.at E0;have d0:=hc j E0;rw[if_pos E0]at d0;clear hc;have hl3:(j:Int)<(m:Int):=by omega
         exact Oi
        ·obtain rfl:j=m:=by omega
         exact Qi
      ·obtain rfl:k=nC:=by omega
       exact Td
section
variable {P:Ym}(w:En)
theorem tL(t ty:TypeId)(base:Nat)(e:TypeId)(i:TypeInfo)(z:Dn)(size bytes:Nat)(ht:P.underlying t=Gn (.slice e))(hi:P.info? e=Gn i)(hz:i.zero=Gn z)
  (hsize:i.size=size)(OM:i.bytes=bytes)(hzs:z.cells.size=size)(ju:0<size)
  (v:Dn)(n:Nat)(xs:List Dn)(Io:w.ownsRow base e size v n xs)
  (ad:Vm)(m c:Nat)(Wv:List Dn)(hl:Wv.length=m*size)(qy:∀j u,Wv[j]?=Gn u->w.cell? (ad.add j)=Gn u)(h1:∀u∈Wv,u.oneCell'=Um)
  (hm:0<m)(Q_:n+m<=maxLen)(dA:(n+m)*bytes<=140737488355328)(ZD:base<=w.heap.size):
  ∃g cap w',(Builtin.append_ #[t,t] ty #[v,.slice (Gn ad) m c]).run P w=.ok (.slice (Gn ⟨g,0,Hn⟩) (n+m) cap) w'/\
   w'.ownsRow base e size (.slice (Gn ⟨g,0,Hn⟩) (n+m) cap) (n+m) (xs++Wv)/\w.grownBy w' v.ownBlock/\(v.ownBlock=Gn g\/g=w.heap.size)/\g<w'.heap.size/\w'.ownsRow base e size v n xs/\(∀b j u,w.cell? ⟨b,j,Hn⟩=Gn u->(n*size<=j/\j<n*size+Wv.length/\w'.cell? ⟨b,j,Hn⟩=Wv[j-n*size]?)\/w'.cell? ⟨b,j,Hn⟩=Gn u):=by
 obtain⟨g,cap,w',hr,h2,h3,h4,h5⟩:=run_append_lies (P:=P) w t ty base e i z size bytes ht hi hz hsize OM hzs ju v n xs Io ad m c Wv hl qy h1 hm Q_ dA ZD _ rfl;refine⟨g,cap,w',hr,h2,h3,h4,h5,?_⟩;subst hsize;subst OM
 rcases Io.2 with⟨rfl,rfl⟩|⟨g0,yp,Ov,rfl,oU,hg,hnc,hcm,hcs,b00⟩
 ·exact⟨⟨Io.1,.inl ⟨rfl,rfl⟩⟩,fun b j u hu=>.inr (h3.cell hu Y4)⟩
 ·by_cases bI:n+m<=yp
  ·have VM:n*i.size+Wv.length<=Ov.size:=by rw[hl,hcs,<-Nat.add_mul];exact Nat.mul_le_mul_right _ bI
   have LY:=run_append_room (P:=P) w t ty e i ht hi g0 n yp Ov hg ad m c Wv hl qy h1 bI VM;rw[LY]at hr;injection hr with _ hw
   subst hw;refine⟨⟨Io.1,.inr ⟨g0,yp,_,rfl,oU,setRow_heap w g0 Ov _ e _ hg,hnc,hcm,?_,?_⟩⟩,fun b j u hu=>?_⟩
   ·simp only[List.size_toArray,List.length_append,List.length_take,List.length_drop,Array.length_toList];omega
   ·have hx:(Ov.toList.take (n*i.size)).length=n*i.size:=by rw[b00];exact Io.1
    rw[List.append_assoc];exact(List.take_left' hx).trans b00
   ·by_cases hb:b=g0
    ·subst hb;have kP:Ov[j]?=Gn u:=by
      have:=hu;unfold World.cell? at this;rw[hg]at this;exact Vd
     have hj:j<Ov.size:=(Array.getElem?_eq_some_iff.1 kP).1;have iy:(Ov.toList.take (n*i.size)).length=n*i.size:=by rw[b00];exact Io.1
     have hcell:∀vs:List Dn,(w.setRow b vs.toArray).cell? ⟨b,j,Hn⟩=vs[j]?:=fun vs=>by
      unfold World.cell?;rw[setRow_heap w b Ov _ e _ hg];simp
     rw[hcell];by_cases h6:j<n*i.size
     ·right
      rw[List.append_assoc,Em E0,List.getElem?_take_of_lt h6];simpa using kP
     ·by_cases h7:j<n*i.size+Wv.length
      ·left
       refine⟨E0,h7,?_⟩;rw[List.append_assoc,List.getElem?_append_right E0,Em E0,iy]
      ·right
       rw[List.append_assoc,List.getElem?_append_right E0,List.getElem?_append_right E0,iy,List.getElem?_drop,show n*i.size+Wv.length+(j-n*i.size-Wv.length)=j by omega];simpa using kP
    ·right
     exact h3.cell hu D6
  ·have holds:∀j u,xs[j]?=Gn u->w.cell? ((⟨g0,0,Hn⟩:Vm).add j)=Gn u:=Io.cells (g:=g0) rfl;have LY:=run_append_grow (P:=P) w t ty e i z ht hi hz ⟨g0,0,Hn⟩ n yp xs Io.1 holds ad m c Wv hl qy E0 (by simp only[maxLen]at Q_;omega) (growslice_fits E0 dA);rw[LY]at hr;injection hr with _ hw
   subst hw;have hG:w.grownBy (w.drew.alloc (.cells (xs.toArray++Wv.toArray++Builtin.zeroCells z.cells (grownCap w (n+m) yp e-(n+m))) e)) none:=⟨rfl,rfl,rfl,P0,fun k hk _=>heap_alloc_old w.drew _ hk⟩;exact⟨Io.kept (row:=Hn) hG Y4,fun b j u hu=>.inr (hG.cell hu P0)⟩
theorem kr{ops:Array Oper}{rest:List Oper}{o:Oper}{a:Act}{Q:Exit->Act->En->Prop}(lS:o.guard=Hn)(s x:Operand)(t:TypeId)
  (ho:o.op=.call {callee:=.builtin .append,args:=#[s,x],argTypes:=#[t,t]})
  (base:Nat)(e:TypeId)(z:Dn)(size bytes:Nat)(ht:P.underlying t=Gn (.slice e))(Ny:(P.info? e).map (fun i=>(i.zero,i.size,i.bytes))=Gn (Gn z,size,bytes))
  (hzs:z.cells.size=size)(ju:0<size)(v:Dn)(n:Nat)(xs:List Dn)(hs:a.eval s=v)(Io:w.ownsRow base e size v n xs)
  (B m:Nat)(Wv:List Dn)(ty:TypeId)(hx:a.eval x=.slice (Gn ⟨B,0,Hn⟩) m m)(hl:Wv.length=m*size)(Ir:w.heap[B]?=Gn (.cells Wv.toArray ty (0,0)))(h1:∀u∈Wv,u.oneCell'=Um)
  (hm:0<m)(Q_:n+m<=maxLen)(dA:(n+m)*bytes<=140737488355328)(ZD:base<=w.heap.size)
  (h:∀g cap w',w'.ownsRow base e size (.slice (Gn ⟨g,0,Hn⟩) (n+m) cap) (n+m) (xs++Wv)->w.grownBy w' v.ownBlock->(v.ownBlock=Gn g\/g=w.heap.size)->g<w'.heap.size->w'.ownsRow base e size v n xs->(∀b j u,w.cell? ⟨b,j,Hn⟩=Gn u->(n*size<=j/\j<n*size+Wv.length/\w'.cell? ⟨b,j,Hn⟩=Wv[j-n*size]?)\/w'.cell? ⟨b,j,Hn⟩=Gn u)->wpList P ops Q rest (a.put o.dst (.slice (Gn ⟨g,0,Hn⟩) (n+m) cap)) w'):wpList P ops Q (o::rest) a w:=by
 obtain⟨i,h2,h3,h4,h5⟩:=info_parts Ny;obtain⟨g,cap,w',hr,k2,k3,k4,k5,k6,k7⟩:=tL (P:=P) w t o.type base e i z size bytes ht h2 h3 h4 h5 hzs ju v n xs Io ⟨B,0,Hn⟩ m m Wv hl (by
  have:=World.news_of_block Ir;simpa using this) h1 hm Q_ dA ZD
 refine wpList_plain lS fun _ hK=>?_;refine zg ?_;exact hK _ _ (h g cap w' k2 k3 k4 k5 k6 k7)
end
def pat(k i j:Nat):Value:=.int .i64 (if j%k=0 then -1000-((i/4:Nat):Int)else 0)
def Oq(k i m:Nat):List Value:=(Hm (m*k)).map (pat k i)
theorem UA(k i m j:Nat):(Oq k i m)[j]?=if j<m*k then Gn (pat k i j)else none:=by
 unfold Oq;rw[List.getElem?_map];by_cases h:j<m*k
 ·rw[List.getElem?_range h,if_pos h];rfl
 ·rw[if_neg h,List.getElem?_eq_none X2];rfl
theorem Nu(k i m:Nat):(Oq k i m).length=m*k:=by simp[Oq]
theorem wQ(k i m j:Nat)(h:m*k<=j):pat k i (j-m*k)=pat k i j:=by
 unfold pat;have:(j-m*k)%k=j%k:=by
  rw[show j=(j-m*k)+m*k by omega,Nat.add_sub_cancel,Nat.add_mul_mod_self_right]
 rw[this]
theorem oZ(k i m q:Nat):Oq k i m++Oq k i q=Oq k i (m+q):=by
 apply List.ext_getElem?;intro j;rw[UA,List.getElem?_append,Nu];by_cases h:j<m*k
 ·rw[if_pos h,UA,if_pos h,if_pos (by rw[Nat.add_mul];omega)]
 ·rw[if_neg h,UA];by_cases h2:j-m*k<q*k
  ·rw[if_pos h2,if_pos (by rw[Nat.add_mul];omega),wQ _ _ _ _ E0]
  ·rw[if_neg h2,if_neg (by rw[Nat.add_mul];omega)]
section
variable {w w' w0:En}{base e size n cap g:Nat}{xs:List Dn}{k i m:Nat}{v l:Dn}
section
variable (h:w.ownsRow base e size (.slice (Gn ⟨g,0,Hn⟩) n cap) n xs)(j:Nat)
include h j
theorem dD(u:Dn):(w.setCell ⟨g,j,Hn⟩ u).ownsRow base e size (.slice (Gn ⟨g,0,Hn⟩) n cap) n (xs.set j u):=by
 rcases h with⟨hl,⟨hv,_⟩|⟨g',BU,Ov,hv,hb,hg,h1,h2,h3,h4⟩⟩
 ·cases hv
 ·simp only[Value.slice.injEq,Option.some.injEq,Addr.mk.injEq]at hv;obtain⟨⟨rfl,-⟩,-,rfl⟩:=hv;refine⟨by simp[hl],.inr ⟨g,cap,Ov.setIfInBounds j u,rfl,hb,heap_setCell_same w g j Ov e u hg,h1,h2,by simp[h3],?_⟩⟩;rw[Array.toList_setIfInBounds,List.take_set,h4]
theorem mB:w.frozen? ⟨g,j,Hn⟩=false:=by
 rcases h with⟨hl,⟨hv,_⟩|⟨g',BU,Ov,hv,hb,hg,h1,h2,h3,h4⟩⟩
 ·cases hv
 ·simp only[Value.slice.injEq,Option.some.injEq,Addr.mk.injEq]at hv;obtain⟨⟨rfl,-⟩,-,rfl⟩:=hv;unfold World.frozen?;simp[hg]
end
theorem Ot.ZS(h:w.ownsRow base e k v m (Oq k i m))(hm:m<=1000000000000):Ot w k v i:=by
 rcases h.2 with⟨rfl,rfl⟩|⟨g,cap,Ov,rfl,_⟩
 ·exact⟨Hn,0,0,rfl,E0,.inl rfl⟩
 ·exact⟨_,m,cap,rfl,hm,.inr ⟨g,rfl,fun j hj=>yt h (by rw[UA,if_pos hj];rfl)⟩⟩
theorem Ot.append{n q:Nat}{u:Dn}(h:Ot w k u i)(hK:∀b j x,w.cell? ⟨b,j,Hn⟩=Gn x->(n*k<=j/\j<n*k+(Oq k i q).length/\w'.cell? ⟨b,j,Hn⟩=(Oq k i q)[j-n*k]?)\/w'.cell? ⟨b,j,Hn⟩=Gn x):Ot w' k u i:=by
 obtain⟨p,m,c,h1,h2,h3⟩:=h;refine⟨p,m,c,h1,h2,h3.imp id fun ⟨b,hb,hc⟩=>⟨b,hb,fun j hj=>?_⟩⟩;rcases hK b j _ (hc j hj)with⟨e1,e2,e3⟩|e3
 ·rw[Nu]at e2;rw[e3,UA,if_pos E0,wQ _ _ _ _ e1];rfl
 ·exact e3
theorem Ot.heap{u:Dn}(h:Ot w k u i)(he:∀b,u.ownBlock=Gn b->w'.heap[b]?=w.heap[b]?):Ot w' k u i:=by
 obtain⟨p,m,c,rfl,h2,h3⟩:=h;refine⟨p,m,c,rfl,h2,h3.imp id fun ⟨b,hb,hc⟩=>⟨b,hb,fun j hj=>?_⟩⟩;subst hb;rw[World.cell?_of_block (a:=⟨b,j,Hn⟩) (he b rfl)];exact hc j hj
theorem iC{w w':En}{base e size n:Nat}{v:Dn}{xs:List Dn}(h:w.ownsRow base e size v n xs)(he:∀b,v.ownBlock=Gn b->w'.heap[b]?=w.heap[b]?):w'.ownsRow base e size v n xs:=by
 rcases h with⟨hl,⟨hv,hn⟩|⟨g,cap,Ov,hv,hb,hg,h1,h2,h3,h4⟩⟩
 ·exact⟨hl,.inl ⟨hv,hn⟩⟩
 ·exact⟨hl,.inr ⟨g,cap,Ov,hv,hb,(he g (by rw[hv];rfl)).trans hg,h1,h2,h3,h4⟩⟩
theorem Jq.setB{w0 w:En}{base b:Nat}(h:Jq (fun j=>base<=j) w0 w)(hb:base<=b)(j:Nat)(v:Dn):Jq (fun j=>base<=j) w0 (w.setCell ⟨b,j,Hn⟩ v):=
 ⟨h.os,h.tape,h.output,j6,fun k hk hn=>(yn _ _ _ _ (fun e=>hn (by rw[e];exact hb))).trans (h.block k hk hn)⟩
structure vA(w0:En)(base e k i m:Nat)(l:Dn)(us:List Dn)(w:En):Prop where
 but:Jq (fun j=>base<=j) w0 w
 own:w.ownsRow base e k l m (Oq k i m)
 full:∀u,u∈us->Ot w k u i
 ub:∀u,u∈us->∀b,u.ownBlock=Gn b->base<=b/\b<w.heap.size
theorem vA.app{wA:En}{us:List Dn}{q g cap:Nat}(h:vA w0 base e k i m l us w)(hA:Sm w.heap.size w wA)(ho:w'.ownsRow base e k (.slice (Gn ⟨g,0,Hn⟩) (m+q:Nat) cap) (m+q) (Oq k i m++Oq k i q))(hg:wA.grownBy w' l.ownBlock)(hl:w'.ownsRow base e k l m (Oq k i m))
  (hK:∀b j x,wA.cell? ⟨b,j,Hn⟩=Gn x->(m*k<=j/\j<m*k+(Oq k i q).length/\w'.cell? ⟨b,j,Hn⟩=(Oq k i q)[j-m*k]?)\/w'.cell? ⟨b,j,Hn⟩=Gn x)(hm:m+q<=1000000000000):
  vA w0 base e k i m l (us++[.slice (Gn ⟨g,0,Hn⟩) (m+q:Nat) cap]) w':=by
 have hs:w.heap.size<=w'.heap.size:=Qm hA.size hg.size;refine⟨⟨hg.os.trans (hA.os.trans h.but.os),hg.tape.trans (hA.tape.trans h.but.tape),hg.output.trans (hA.output.trans h.but.output),Qm h.but.size hs,fun b hb hn=>?_⟩,hl,fun u hu=>?_,fun u hu b hb=>?_⟩
 ·have Xq:b<w.heap.size:=Lm hb h.but.size;rw[hg.block b (Lm Xq hA.size) (fun e=>hn (h.own.lt b e.symm).1),hA.block b Xq];exact h.but.block b hb hn
 ·rcases List.mem_append.1 hu with hu|hu
  ·exact((h.full u hu).heap (w':=wA) fun b hb=>hA.block b (h.ub u hu b hb).2).append hK
  ·rw[List.mem_singleton.1 hu];rw[oZ]at ho;exact Ot.ZS ho hm
 ·rcases List.mem_append.1 hu with hu|hu
  ·exact⟨(h.ub u hu b hb).1,Lm (h.ub u hu b hb).2 hs⟩
  ·rw[List.mem_singleton.1 hu]at hb;exact ho.lt b hb
structure lx(w0:En)(base S B c tB t k i:Nat)(fB:Nat->Dn)(ve:Dn)(us:List Dn)(v:Dn)(n:Nat)(xs:List Dn)(w:En):Prop where
 but:Jq (fun j=>j=B\/ve.ownBlock=Gn j\/base<=j) w0 w
 sz:S<=w.heap.size
 full:∀u,u∈us->Ot w k u i
 ub:∀u,u∈us->∀b,u.ownBlock=Gn b->base<=b/\b<S
 row:Tn w B 5 tB (fun j=>if j=c then v else fB j)
 own:w.ownsRow 0 t 1 v n xs
 blk:∀b,v.ownBlock=Gn b->ve.ownBlock=Gn b\/S<=b
theorem lx.app{wA:En}{us:List Dn}{S B c tB t g cap:Nat}{fB:Nat->Dn}{ve u v:Dn}{n:Nat}{xs:List Dn}(h:lx w0 base S B c tB t k i fB ve us v n xs w)(hA:Sm w.heap.size w wA)(ho:w'.ownsRow 0 t 1 (.slice (Gn ⟨g,0,Hn⟩) (n+1:Nat) cap) (n+1) (xs++[u]))(hg:wA.grownBy w' v.ownBlock)(jr:v.ownBlock=Gn g\/g=wA.heap.size)
  (jQ:B<base)(hB2:ve.ownBlock≠Gn B)(hve:∀b,ve.ownBlock=Gn b->b<base)(hbS:base<=S)(h0S:w0.heap.size<=S):
  lx w0 base S B c tB t k i fB ve us (.slice (Gn ⟨g,0,Hn⟩) (n+1:Nat) cap) (n+1) (xs++[u]) (w'.setCell ⟨B,c,Hn⟩ (.slice (Gn ⟨g,0,Hn⟩) (n+1:Nat) cap))/\Tn w' B 5 tB (fun j=>if j=c then v else fB j):=by
 have hs:w.heap.size<=w'.heap.size:=Qm hA.size hg.size;have eI:v.ownBlock≠Gn B:=fun e=>by
  rcases h.blk B e with e|e
  ·exact hB2 e
  ·omega
 have hr:Tn w' B 5 tB (fun j=>if j=c then v else fB j):=(h.row.of_heap (hA.block B h.row.lt)).of_heap (hg.block B (Lm h.row.lt hA.size) (fun e=>eI e.symm));have hSA:S<=wA.heap.size:=Qm h.sz hA.size;refine⟨⟨⟨hg.os.trans (hA.os.trans h.but.os),hg.tape.trans (hA.tape.trans h.but.tape),hg.output.trans (hA.output.trans h.but.output),I6,fun b hb hn=>?_⟩,by rw[size_setCell];exact Qm h.sz hs,fun x hx=>?_,h.ub,(hr.set c _).congr fun j _=>?_,?_,fun b hb=>?_⟩,hr⟩
 ·have Xq:b<w.heap.size:=Lm hb h.but.size;rw[yn _ _ _ _ (fun e=>hn (.inl e)),hg.block b (Lm Xq hA.size) (fun e=>by
   rcases h.blk b e.symm with e|e
   ·exact hn (.inr (.inl e))
   ·omega),hA.block b Xq]
  exact h.but.block b hb hn
 ·refine(h.full x hx).heap fun b hb=>?_;have Xq:=h.ub x hx b hb;have hbw:b<w.heap.size:=Lm Xq.2 h.sz;rw[yn _ _ _ _ (by show b≠B;omega),hg.block b (Lm hbw hA.size) (fun e=>by
   rcases h.blk b e.symm with e|e
   ·have:=hve b e;omega
   ·omega),hA.block b hbw]
 ·by_cases e:j=c
  ·rw[if_pos e,if_pos e]
  ·rw[if_neg e,if_neg e,if_neg e]
 ·have hgB:g≠B:=fun e=>by
   subst e;rcases jr with e|e
   ·exact eI e
   ·omega
  exact ho.kept (row:=Gn B) ⟨rfl,rfl,rfl,by rw[size_setCell];exact Om _,fun j _ Yp=>yn _ _ _ _ (fun e=>Yp (by rw[e]))⟩ (.inr (by simpa[Value.ownBlock]using hgB))
 ·have hgb:g=b:=by simpa[Value.ownBlock]using hb
  subst hgb;rcases jr with e|e
  ·exact h.blk g e
  ·exact .inr E0
end
end Go.Proofs.YtdoghgnifkgfdaaGreat
