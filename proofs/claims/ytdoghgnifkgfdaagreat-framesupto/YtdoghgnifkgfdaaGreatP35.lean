import Derived.Test.YtdoghgnifkgfdaaGreatP00
import Derived.Test.YtdoghgnifkgfdaaGreatP34
set_option maxRecDepth 100000
set_option maxHeartbeats 16000000
open Option renaming none->Ai,some->yi
open Go renaming World->ui,Value->ti,undef->ri
open Bool renaming true->ji,false->gi
namespace Go.Proofs.YtdoghgnifkgfdaaGreat.Mute
open Tryz Go Go.Conc Go.RowKit
def NU:Code->Code
 |.seq x _=>x
 |c=>c
def Gw:Code->Code
 |.seq _ y=>y
 |c=>c
noncomputable def Ds:Code:=match Tryz.f44.body with
 |some c=>c
 |none=>.skip
noncomputable def SU:Code:=NU (Gw (Gw (Gw (Gw (Gw (Gw (Gw (Ds))))))))
theorem JL:∀(l:List (Int×Int))(j:Nat)(x:Int×Int),l[j]?=yi x->(Qo l)[j*2]?=yi (.int .i64 x.1)/\(Qo l)[j*2+1]?=yi (.int .i64 x.2)
 | [],j,x,h=>by simp at h
 |p::l,0,x,h=>by
  have:p=x:=Y2;subst this;exact⟨rfl,rfl⟩
 |p::l,j+1,x,h=>by
  obtain⟨h1,h2⟩:=JL l j x Y2;have e:Qo (p::l)=.int .i64 p.1::.int .i64 p.2::Qo l:=rfl;rw[e,show (j+1)*2=j*2+1+1 by omega];exact⟨I5,by simpa using h2⟩
theorem kY{c:Nat}{l:List (Int×Int)}{i:Nat}{x:Int×Int}(h:l[i]?=yi x):ry c (l.take (i+1))=if x.1=(c:Int)then ry c (l.take i)++[x.2]else ry c (l.take i):=by
 have e:l.take (i+1)=l.take i++[x]:=by
  rw[List.take_add_one,h];rfl
 unfold ry;rw[e,List.filter_append,List.map_append];by_cases hx:x.1=(c:Int)
 ·rw[if_pos hx];simp[hx]
 ·rw[if_neg hx];simp[hx]
def slt(a:Act)(j:Nat):Value:=a.tmps.toList.getD j ri
def At0(a:Act)(v:ti):Prop:=a.tmps.size=216/\a.defers=[]/\a.tmps.toList.getD 0 ri=v
theorem Pz(a:Act)(h:a.tmps.size=216)(hd:a.defers=[]):a={tmps:=#[slt a 0,slt a 1,slt a 2,slt a 3,slt a 4,slt a 5,slt a 6,slt a 7,slt a 8,slt a 9,slt a 10,slt a 11,slt a 12,slt a 13,slt a 14,slt a 15,slt a 16,slt a 17,slt a 18,slt a 19,slt a 20,slt a 21,slt a 22,slt a 23,slt a 24,slt a 25,slt a 26,slt a 27,slt a 28,slt a 29,slt a 30,slt a 31,slt a 32,slt a 33,slt a 34,slt a 35,slt a 36,slt a 37,slt a 38,slt a 39,slt a 40,slt a 41,slt a 42,slt a 43,slt a 44,slt a 45,slt a 46,slt a 47,slt a 48,slt a 49,slt a 50,slt a 51,slt a 52,slt a 53,slt a 54,slt a 55,slt a 56,slt a 57,slt a 58,slt a 59,slt a 60,slt a 61,slt a 62,slt a 63,slt a 64,slt a 65,slt a 66,slt a 67,slt a 68,slt a 69,slt a 70,slt a 71,slt a 72,slt a 73,slt a 74,slt a 75,slt a 76,slt a 77,slt a 78,slt a 79,slt a 80,slt a 81,slt a 82,slt a 83,slt a 84,slt a 85,slt a 86,slt a 87,slt a 88,slt a 89,slt a 90,slt a 91,slt a 92,slt a 93,slt a 94,slt a 95,slt a 96,slt a 97,slt a 98,slt a 99,slt a 100,slt a 101,slt a 102,slt a 103,slt a 104,slt a 105,slt a 106,slt a 107,slt a 108,slt a 109,slt a 110,slt a 111,slt a 112,slt a 113,slt a 114,slt a 115,slt a 116,slt a 117,slt a 118,slt a 119,slt a 120,slt a 121,slt a 122,slt a 123,slt a 124,slt a 125,slt a 126,slt a 127,slt a 128,slt a 129,slt a 130,slt a 131,slt a 132,slt a 133,slt a 134,slt a 135,slt a 136,slt a 137,slt a 138,slt a 139,slt a 140,slt a 141,slt a 142,slt a 143,slt a 144,slt a 145,slt a 146,slt a 147,slt a 148,slt a 149,slt a 150,slt a 151,slt a 152,slt a 153,slt a 154,slt a 155,slt a 156,slt a 157,slt a 158,slt a 159,slt a 160,slt a 161,slt a 162,slt a 163,slt a 164,slt a 165,slt a 166,slt a 167,slt a 168,slt a 169,slt a 170,slt a 171,slt a 172,slt a 173,slt a 174,slt a 175,slt a 176,slt a 177,slt a 178,slt a 179,slt a 180,slt a 181,slt a 182,slt a 183,slt a 184,slt a 185,slt a 186,slt a 187,slt a 188,slt a 189,slt a 190,slt a 191,slt a 192,slt a 193,slt a 194,slt a 195,slt a 196,slt a 197,slt a 198,slt a 199,slt a 200,slt a 201,slt a 202,slt a 203,slt a 204,slt a 205,slt a 206,slt a 207,slt a 208,slt a 209,slt a 210,slt a 211,slt a 212,slt a 213,slt a 214,slt a 215],defers:=[]}:=by
 obtain⟨⟨l⟩,ds⟩:=a;obtain rfl:ds=[]:=hd;have hl:l.length=216:=h;have e:l=(List.range 216).map fun j=>l.getD j undef:=by
  apply List.ext_getElem?;intro j;by_cases hj:j<216
  ·simp[hj,hl]
  ·simp[hj,hl]
 exact congrArg (fun x=>(⟨⟨x⟩,[]⟩:Act)) e
section
variable {w:ui}{r:RK}{Ls:Nat->Ln}{Q:Nat->RC}{nl:Nat->List (Int×Int)}{ch:Nat->Int}{fr:Nat->Nat}{qc:Option Addr}{cc nC:Nat}{F1:Int}
structure LnS(w:ui)(r:RK)(Ls:Nat->Ln)(Q:Nat->RC)(nl:Nat->List (Int×Int))(ch:Nat->Int)(fr:Nat->Nat)(qc:Option Addr)(cc nC:Nat)(F1:Int):Prop where
 h2:w.cell? ⟨r.Kb,2,Ai⟩=yi (.slice qc r.kc cc)
 h4:w.cell? ⟨r.Kb,4,Ai⟩=yi (.slice (yi ⟨r.Gc,0,Ai⟩) nC nC)
 h5:w.cell? ⟨r.Kb,5,Ai⟩=yi (.slice (yi ⟨r.Lb,0,Ai⟩) r.kc r.kc)
 h6:w.cell? ⟨r.Kb,6,Ai⟩=yi (.int .i64 F1)
 yB:Sl w qc (r.kc*3) (fun j=>.int .i64 (ch j))
 hqc:∀b o,qc=yi ⟨b,o,Ai⟩->b≠r.Lb/\∀c,c<r.kc->(Ls c).wv.ownBlock≠yi b
 hK:r.Kb≠r.Lb/\∀c,c<r.kc->(Ls c).wv.ownBlock≠yi r.Kb
 row:Ei w r.Gc (nC*26) 131 (Sj Q)
 ln:tG w r Ls Ls w
 yD:∀i,i<nC->w.ownsRow 0 177 2 (Q i).nt (nl i).length (Qo (nl i))
 Dy:∀c,c<r.kc->ch (c*3+1)=fr c/\fr c<nC
 bd:r.kc<=1000/\nC<=1000/\∀i,i<nC->(nl i).length<=1000000000
theorem LnS.K(h:LnS w r Ls Q nl ch fr qc cc nC F1){L:Nat->Ln}{wr:ui}(hl:tG w r Ls L wr):wr.heap[r.Kb]?=w.heap[r.Kb]?:=hl.but.block _ (cell_lt h.h2) (fun e=>by
 rcases e with e|⟨c,hc,e⟩
 ·exact h.hK.1 e
 ·exact h.hK.2 c hc e)
theorem LnS.R(h:LnS w r Ls Q nl ch fr qc cc nC F1){L:Nat->Ln}{wr:ui}(hl:tG w r Ls L wr):Ei wr r.Gc (nC*26) 131 (Sj Q):=h.row.of_heap (hl.but.block _ h.row.lt (fun e=>by
 rcases e with e|⟨c,hc,e⟩
 ·have h1:=h.row;rw[e]at h1;exact rows_apart h1 h.ln.row U0 rfl
 ·exact xj (h.ln.own c hc) h.row U0 e))
theorem LnS.C(h:LnS w r Ls Q nl ch fr qc cc nC F1){L:Nat->Ln}{wr:ui}(hl:tG w r Ls L wr){j:Nat}(hj:j<r.kc*3):∃b o,qc=yi ⟨b,o,Ai⟩/\wr.cell? ⟨b,o+j,Ai⟩=yi (.int .i64 (ch j)):=by
 obtain⟨b,o,e,hc⟩:=h.yB.at E0;refine⟨b,o,e,(World.cell?_of_block (hl.but.block b (cell_lt (hc j hj)) (fun x=>?_))).trans (hc j hj)⟩;rcases x with x|⟨c,Iy,x⟩
 ·exact(h.hqc b o e).1 x
 ·exact(h.hqc b o e).2 c Iy x
theorem LnS.N(h:LnS w r Ls Q nl ch fr qc cc nC F1){L:Nat->Ln}{wr:ui}(hl:tG w r Ls L wr){i:Nat}(hi:i<nC):wr.ownsRow 0 177 2 (Q i).nt (nl i).length (Qo (nl i)):=Rk (h.yD i hi) fun b hb=>hl.but.block b (Io (h.yD i hi) hb) (fun e=>by
 rcases e with e|⟨c,hc,e⟩
 ·exact xj (h.yD i hi) h.ln.row U0 D4
 ·exact Px (h.yD i hi) (h.ln.own c hc) U0 hb e)
theorem tG.drew{L:Nat->Ln}{wr:ui}(h:tG w r Ls L wr):tG w r Ls L wr.drew:=⟨h.but.drew,h.row,fun c hc=>Rk (h.own c hc) fun _ _=>rfl,h.ne,h.blk⟩
theorem tG.lL{M:Nat->Ln}{wr:ui}{n:Nat}(h:tG w r Ls M wr)(x:Int):tG w r Ls (fj M n {M n with shown:=ji,shows:=x,since:=F1}) (((wr.setCell ⟨r.Lb,n*5+2,Ai⟩ (.bool ji)).setCell ⟨r.Lb,n*5+3,Ai⟩ (.int .i64 x)).setCell ⟨r.Lb,n*5+4,Ai⟩ (.int .i64 F1)):=by
 have h1:=h.set (c:=n) (a:=n*5+2) (v:=.bool ji) (ln:={M n with shown:=ji}) (Ei.Qy h.row (i:=2) E0 rfl fun j hj=>by rcases five hj with rfl|rfl|rfl|rfl|rfl<;>rfl) rfl rfl;have h2:=h1.set (c:=n) (a:=n*5+3) (v:=.int .i64 x) (ln:={M n with shown:=ji,shows:=x}) (Ei.Qy h1.row (i:=3) E0 rfl fun j hj=>X7) (by rw[Oi]) (by rw[Oi]);rw[Yk]at h2;have h3:=h2.set (c:=n) (a:=n*5+4) (v:=.int .i64 F1) (ln:={M n with shown:=ji,shows:=x,since:=F1}) (Ei.Qy h2.row (i:=4) E0 rfl fun j hj=>X7) (by rw[Oi]) (by rw[Oi]);rw[Yk]at h3;exact h3
theorem JY{a b:Ln}{k F:Int}{x:Int}(h:Ao a b):Ao (Ap k F a x) (Ap k F b x):=by
 obtain⟨h1,h2,h3,h4,h5⟩:=h;unfold Ap;split
 ·exact⟨h1,h2,rfl,rfl,rfl⟩
 ·rw[h1];split
  ·exact⟨rfl,h2,h3,h4,h5⟩
  ·exact⟨rfl,by simp only[h2],h3,h4,h5⟩
theorem n00(h:LnS w r Ls Q nl ch fr qc cc nC F1){a:Act}(z0:At0 a (.pointer (yi ⟨r.Kb,0,Ai⟩))):
  Code.wp prog SU (fun e a' w'=>e=.normal/\(a'.tmps.size=216/\a'.defers=[]/\a'.tmps.toList.getD 0 ri=.pointer (yi ⟨r.Kb,0,Ai⟩))/\∃L,tG w r Ls L w'/\(∀c,c<r.kc->Ao (L c) ((ry c (nl (fr c))).foldl (Ap (ch (c*3)) F1) (Ls c)))) a w:=by
 refine Ig ?_;clear z0;have H:Hid (LnS w r Ls Q nl ch fr qc cc nC F1):=h;have hkc:=h.bd.1;have hnC:=h.bd.2.1;clear h;simp only[SU,Ds,Tryz.f44,NU,Gw];go_wp2_with fail;go_loopw [8] (fun i wr=>∃(n:Nat)(L:Nat->Ln),n<=r.kc/\i=.int .i64 n/\Hid (tG w r Ls L wr/\(∀c,c<n->Ao (L c) ((ry c (nl (fr c))).foldl (Ap (ch (c*3)) F1) (Ls c)))/\∀c,n<=c->L c=Ls c)) (fun i _=>r.kc-(intOf i).toNat)
 case atStart=>exact⟨0,Ls,Nat.zero_le _,rfl,H.out.ln,fun c hc=>absurd hc E0,fun _ _=>rfl⟩
 case round=>
  obtain⟨n,L,hn,rfl,HL⟩:=hrel;have k2:wr.cell? ⟨r.Kb,2,Ai⟩=yi (.slice qc r.kc cc):=(World.cell?_of_block (H.out.K HL.out.1)).trans H.out.h2;have k4:wr.cell? ⟨r.Kb,4,Ai⟩=yi (.slice (yi ⟨r.Gc,0,Ai⟩) nC nC):=(World.cell?_of_block (H.out.K HL.out.1)).trans H.out.h4;have k5:wr.cell? ⟨r.Kb,5,Ai⟩=yi (.slice (yi ⟨r.Lb,0,Ai⟩) r.kc r.kc):=(World.cell?_of_block (H.out.K HL.out.1)).trans H.out.h5;by_cases Wi:n<r.kc
  ·have FC:(n:Int)<(r.kc:Int):=by omega
   obtain⟨f,hf⟩:∃f:Nat,f=fr n:=⟨_,rfl⟩;have HFR:Hid (f=fr n):=hf;have QA:f<nC:=by rw[hf];exact(H.out.Dy n Wi).2
   obtain⟨qb,qo,rfl,c1⟩:=H.out.C HL.out.1 (j:=n*3+1) E0;rw[(H.out.Dy n Wi).1,<-hf,<-Nat.add_assoc]at c1;have hfi:(f:Int)<(nC:Int):=E0;obtain⟨pn,cn,hnt⟩:=pH (H.out.yD f QA);have qI:Hid ((Q f).nt=.slice pn (nl f).length cn):=hnt;have e21:wr.cell? ⟨r.Gc,f*26+21,Ai⟩=yi (.slice pn (nl f).length cn):=(Ei.rat (H.out.R HL.out.1) (n:=f) (i:=21) E0 rfl E0).trans (congrArg yi hnt);obtain⟨q,hq⟩:∃q,q=(nl f).length:=⟨_,rfl⟩;have HQ:Hid (q=(nl f).length):=hq;rw[<-hq]at e21;have hqb:q<=1000000000:=by rw[hq];exact H.out.bd.2.2 f QA
   clear hf hnt hq;go_wp2_with fail;go_region_held3 (fun W=>W.cell? ⟨r.Kb,4,Ai⟩=yi (.slice (yi ⟨r.Gc,0,Ai⟩) nC nC)/\W.cell? ⟨r.Kb,2,Ai⟩=yi (.slice (yi ⟨qb,qo,Ai⟩) r.kc cc)/\W.cell? ⟨qb,qo+n*3+1,Ai⟩=yi (.int .i64 f)/\W.cell? ⟨r.Gc,f*26+21,Ai⟩=yi (.slice pn q cn)) (go_keep) (fail)
   go_wp2_with fail
   have HD:Hid (tG w r Ls L wr.drew):=HL.out.1.drew;clear k2 k4 k5 c1 e21;generalize wr.drew=wd at *;go_loopw [11] (fun i wr'=>∃(j:Nat)(M:Nat->Ln),j<=q/\i=.int .i64 j/\Hid (tG w r Ls M wr'/\(∀c,c≠n->M c=L c)/\Ao (M n) ((ry n ((nl f).take j)).foldl (Ap (ch (n*3)) F1) (Ls n)))) (fun i _=>q-(intOf i).toNat)
   case atStart=>exact⟨0,L,Nat.zero_le _,rfl,HD.out,fun _ _=>rfl,by rw[List.take_zero,dQ,HL.out.2.2 n (Nat.le_refl _)];exact Ao.refl _⟩
   case round=>
    clear HD;obtain⟨j,M,hj,rfl,HM⟩:=hrel;by_cases hjl:j<q
    ·have Yq:(j:Int)<(q:Int):=by omega
     obtain⟨x,hx⟩:∃x,(nl f)[j]?=yi x:=⟨_,List.getElem?_eq_getElem (by rw[<-HQ.out];exact hjl)⟩;obtain⟨x0,x1⟩:=x;have HX:Hid ((nl f)[j]?=yi (x0,x1)):=hx;have qB:=H.out.N HM.out.1 QA;rw[qI.out]at qB;obtain⟨gn,rfl⟩:∃gn,pn=yi ⟨gn,0,Ai⟩:=by
      rcases qB.2 with⟨_,h0⟩|⟨g,cap,cur,ev,_⟩
      ·have:=HQ.out;omega
      ·injection ev with e1
       exact⟨g,e1⟩
     have n0:=qB.cells (g:=gn) rfl _ _ (JL _ _ _ hx).1;have n1:=qB.cells (g:=gn) rfl _ _ (JL _ _ _ hx).2;rw[Addr.add_lit,Nat.zero_add]at n0 n1;have hgL:gn≠r.Lb:=fun e=>xj qB HM.out.1.row U0 V2;clear qB hx;have HT:Hid (∀M':Nat->Ln,(∀c,c≠n->M' c=M c)->Ao (M' n) (if x0=(n:Int)then Ap (ch (n*3)) F1 (M n) x1 else M n)->(∀c,c≠n->M' c=L c)/\Ao (M' n) ((ry n ((nl f).take (j+1))).foldl (Ap (ch (n*3)) F1) (Ls n))):=fun M' h1 h2=>⟨fun c hc=>(h1 c hc).trans (HM.out.2.1 c hc),by
      rw[kY HX.out];by_cases e:x0=(n:Int)
      ·rw[if_pos e]at h2;rw[if_pos e,List.foldl_append];have:=JY (k:=ch (n*3)) (F:=F1) (x:=x1) HM.out.2.2;exact⟨h2.1.trans this.1,h2.2.1.trans this.2.1,h2.2.2.1.trans this.2.2.1,h2.2.2.2.1.trans this.2.2.2.1,h2.2.2.2.2.trans this.2.2.2.2⟩
      ·rw[if_neg e]at h2;rw[if_neg e];have:=HM.out.2.2;exact⟨h2.1.trans this.1,h2.2.1.trans this.2.1,h2.2.2.1.trans this.2.2.1,h2.2.2.2.1.trans this.2.2.2.1,h2.2.2.2.2.trans this.2.2.2.2⟩⟩
     by_cases he:x0=(n:Int)
     ·subst he;have HT2:Hid (∀M':Nat->Ln,(∀c,c≠n->M' c=M c)->Ao (M' n) (Ap (ch (n*3)) F1 (M n) x1)->(∀c,c≠n->M' c=L c)/\Ao (M' n) ((ry n ((nl f).take (j+1))).foldl (Ap (ch (n*3)) F1) (Ls n))):=fun M' h1 h2=>HT.out M' h1 (by rw[if_pos rfl];exact h2);have k2:wr.cell? ⟨r.Kb,2,Ai⟩=yi (.slice (yi ⟨qb,qo,Ai⟩) r.kc cc):=(World.cell?_of_block (H.out.K HM.out.1)).trans H.out.h2;obtain⟨qb2,qo2,eq,c0⟩:=H.out.C HM.out.1 (j:=n*3) E0;obtain⟨rfl,rfl⟩:qb=qb2/\qo=qo2:=by injection eq with eq;injection eq with e1 e2;exact⟨e1,e2⟩
      obtain⟨kd,HKD⟩:∃kd,Hid (ch (n*3)=kd):=⟨_,rfl⟩;rw[HKD.out]at c0;clear HT eq;by_cases hk:kd=2
      ·subst hk;have hKL:r.Kb≠r.Lb:=H.out.hK.1;have k6:wr.cell? ⟨r.Kb,6,Ai⟩=yi (.int .i64 F1):=(World.cell?_of_block (H.out.K HM.out.1)).trans H.out.h6;have l2:=Ei.LQ HM.out.1.row (n:=n) (i:=2) (a:=n*5+2) E0 rfl E0;have l3:=Ei.LQ HM.out.1.row (n:=n) (i:=3) (a:=n*5+3) E0 rfl E0;have l4:=Ei.LQ HM.out.1.row (n:=n) (i:=4) (a:=n*5+4) E0 rfl E0;have f2:=HM.out.1.row.frozen (n*5+2);have f3:=HM.out.1.row.frozen (n*5+3);have f4:=HM.out.1.row.frozen (n*5+4);generalize uv (M n) 2=y2 at *;generalize uv (M n) 3=y3 at *;generalize uv (M n) 4=y4 at *;go_wp2_with fail;exact⟨⟨j+1,fj M n {M n with shown:=ji,shows:=x1,since:=F1},E0,J1,HM.out.1.lL x1,HT2.out _ (fun c hc=>cj _ _ hc) (by rw[Oi,HKD.out];exact Ao.refl _)⟩,U1⟩
      ·have qA:(kd==2)=false:=by simpa using hk
       obtain⟨pw,cw,hw⟩:=pH (HM.out.1.own n Wi);have HWV:Hid ((M n).wv=.slice pw (M n).ws.length cw):=hw;have l0:wr.cell? ⟨r.Lb,n*5,Ai⟩=yi (.slice pw (M n).ws.length cw):=(Ei.LQ HM.out.1.row (n:=n) (i:=0) (a:=n*5) E0 rfl E0).trans (congrArg yi hw);obtain⟨sl,HSL⟩:∃sl,Hid ((M n).ws.length=sl):=⟨_,rfl⟩;rw[HSL.out]at l0;clear hw;by_cases hsl:sl<4
       ·have hsi:(sl:Int)<4:=by omega
        have HOW:Hid (∀o,(wr.alloc o).ownsRow 0 2 1 (.slice pw sl cw) sl (xy (M n).ws)):=fun o=>by
         have:=own_below (HM.out.1.own n Wi) ((Below.refl _ wr).alloc (Nat.le_refl _) o);rw[HWV.out,HSL.out]at this;exact nh
        have hLl:r.Lb<wr.heap.size:=HM.out.1.row.lt;have hgl:gn<wr.heap.size:=cell_lt n1;have q1:∀o,(wr.alloc o).cell? ⟨r.Lb,n*5,Ai⟩=yi (.slice pw sl cw):=fun o=>(((Below.refl _ wr).alloc (Nat.le_refl _) o).cell (p:=⟨r.Lb,n*5,Ai⟩) hLl).trans l0;have q2:∀o,(wr.alloc o).cell? ⟨gn,j*2+1,Ai⟩=yi (.int .i64 x1):=fun o=>(((Below.refl _ wr).alloc (Nat.le_refl _) o).cell (p:=⟨gn,j*2+1,Ai⟩) hgl).trans n1;go_wp2_with fail;refine wp_region_noPanic ?_
        go_region_law (refine Ek rfl _ _ 51 rfl 0 2 _ 1 8 underlying51 Dm rfl E0 (.slice pw sl cw) sl (xy (M n).ws) rfl K5 wr.heap.size [.int .i64 x1] 2 rfl rfl J2 D2 Y1 E0 E0 ?_;intro g cap w1 Oj Ti hat zo;have HP:Hid _:=HM.out.1.push (c:=n) (a:=n*5) (x:=x1) (g:=g) (cap:=cap) (o:=.cells #[.int .i64 x1] 2) (w1:=w1) Wi (by rw[HWV.out,HSL.out];exact⟨Ti.os,Ti.tape,Ti.output,Ti.size,Ti.block⟩) (by rw[HSL.out];exact Oj) (by rw[HWV.out,HSL.out];exact hat.imp id (fun e=>I3)) rfl;have v0:w1.cell? ⟨r.Lb,n*5,Ai⟩=yi _:=Ei.LQ HP.out.1 (n:=n) (i:=0) (a:=n*5) E0 rfl E0;have v0f:=HP.out.1.frozen (n*5))
        all_goals
         refine NoPanic.normal ?_;clear Oj Ti hat zo;have HE:Hid (tG w r Ls (fj M n {M n with wv:=.slice (yi ⟨g,0,Ai⟩) (sl+1:Nat) cap,ws:=(M n).ws++[x1]}) (w1.setCell ⟨r.Lb,n*5,Ai⟩ (.slice (yi ⟨g,0,Ai⟩) (sl+1:Nat) cap))):=by
          have:=HP.out.2;rw[HSL.out]at this;exact nh
         have HF:Hid (Ao (fj M n {M n with wv:=.slice (yi ⟨g,0,Ai⟩) (sl+1:Nat) cap,ws:=(M n).ws++[x1]} n) (Ap (ch (n*3)) F1 (M n) x1)):=by
          show Ao _ _;rw[Oi,HKD.out];unfold Ap;rw[if_neg hk,if_pos (by rw[HSL.out];exact hsl)];exact⟨rfl,rfl,rfl,rfl,rfl⟩
         clear HP v0 v0f q1 q2;go_wp2_with fail;exact⟨⟨j+1,_,E0,J1,(by first|exact HE.out|exact HE.out.drew|exact HE.out.drew.drew),HT2.out _ (fun c hc=>cj _ _ hc) HF.out⟩,U1⟩
       ·have hsi:¬((sl:Int)<4):=by omega
        have l1:wr.cell? ⟨r.Lb,n*5+1,Ai⟩=yi (.int .i64 (M n).lost):=Ei.LQ HM.out.1.row (n:=n) (i:=1) (a:=n*5+1) E0 rfl E0;have f1:=HM.out.1.row.frozen (n*5+1);have HE:Hid (tG w r Ls (fj M n {M n with lost:=wrap64 ((M n).lost+1)}) (wr.setCell ⟨r.Lb,n*5+1,Ai⟩ (.int .i64 (wrap64 ((M n).lost+1))))):=HM.out.1.set (c:=n) (Ei.ll HM.out.1.row rfl _) rfl rfl;have HF:Hid (Ao (fj M n {M n with lost:=wrap64 ((M n).lost+1)} n) (Ap (ch (n*3)) F1 (M n) x1)):=by
         show Ao _ _;rw[Oi,HKD.out];unfold Ap;rw[if_neg hk,if_neg (by rw[HSL.out];exact hsl),w64];exact Ao.refl _
        generalize (M n).lost=lo at *;go_wp2_with fail;exact⟨⟨j+1,_,E0,J1,HE.out,HT2.out _ (fun c hc=>cj _ _ hc) HF.out⟩,U1⟩
     ·have Iz:(x0==(n:Int))=false:=by simpa using he
      go_wp2_with fail
      exact⟨⟨j+1,M,E0,J1,HM.out.1,HT.out M (fun _ _=>rfl) (by rw[if_neg he];exact Ao.refl _)⟩,U1⟩
    ·obtain rfl:j=q:=by omega
     go_wp2_with fail
     refine⟨⟨n+1,M,E0,J1,HM.out.1,fun c hc=>?_,fun c hc=>?_⟩,U1⟩
     ·by_cases e:c=n
      ·subst e;have:=HM.out.2.2;rw[HQ.out,List.take_length]at this;rw[<-HFR.out];exact nh
      ·rw[HM.out.2.1 c e];exact HL.out.2.1 c E0
     ·rw[HM.out.2.1 c E0];exact HL.out.2.2 c E0
  ·obtain rfl:n=r.kc:=by omega
   go_wp2_with fail
   exact⟨L,HL.out.1,HL.out.2.1⟩
end
def kf8(a b c d e f g h:ti)(j:Nat):Value:=if j=0 then a else if j=1 then b else if j=2 then c else if j=3 then d else if j=4 then e else if j=5 then f else if j=6 then g else h
theorem Ei.r90{w:ui}{g0 t:Nat}{a b c d e f g h:ti}(hr:Ei w g0 8 t (kf8 a b c d e f g h))(v:ti):Ei (w.setCell ⟨g0,6,Ai⟩ v) g0 8 t (kf8 a b c d e f v h)/\Ei (w.setCell ⟨g0,7,Ai⟩ v) g0 8 t (kf8 a b c d e f g v):=by
 refine⟨(hr.set 6 v).congr ?_,(hr.set 7 v).congr ?_⟩
 all_goals
  intro j hj;have:j=0\/j=1\/j=2\/j=3\/j=4\/j=5\/j=6\/j=7:=E0;rcases this with rfl|rfl|rfl|rfl|rfl|rfl|rfl|rfl<;>rfl
noncomputable def Hd0:Code:=NU (Gw (Gw (Gw (Ds))))
def JF(zi:Nat->Int)(nD m:Nat):List (Int×Int):=((List.range m).map fun j=>(zi (j*2),zi (j*2+1))).filter fun x=>decide (0<=x.1)&&decide (x.1<nD)
theorem O20(zi:Nat->Int)(nD m:Nat):JF zi nD (m+1)=if 0<=zi (m*2)/\zi (m*2)<nD then JF zi nD m++[(zi (m*2),zi (m*2+1))]else JF zi nD m:=by
 unfold JF;rw[List.range_succ,List.map_append,List.filter_append];by_cases h:0<=zi (m*2)/\zi (m*2)<nD
 ·rw[if_pos h];simp[h.1,h.2]
 ·rw[if_neg h];have:(decide (0<=zi (m*2))&&decide (zi (m*2)<nD))=false:=by
   by_cases h1:0<=zi (m*2)
   ·simp[h1];omega
   ·simp[h1]
  simp[this]
theorem oV(zi:Nat->Int)(nD m:Nat):(JF zi nD m).length<=m:=by
 unfold JF;exact Nat.le_trans (List.length_filter_le _ _) P0
theorem j20:(prog.info? 59).map (fun i=>(i.zero,i.size,i.bytes))=yi (yi (.agg #[.int .i64 0,.int .i64 0]),2,16):=J0
structure sJ(w0:ui)(Kb:Nat)(fK:ti->Nat->ti)(inV:ti)(l:List (Int×Int))(w:ui):Prop where
 row:Ei w Kb 8 126 (fK inV)
 own:w.ownsRow 0 59 2 inV l.length (Qo l)
 but:ak (fun j=>j=Kb) w0 w
 blk:∀b,inV.ownBlock=yi b->w0.heap.size<=b
section
variable {w:ui}{r:RK}{ip q3:Option Addr}{il ic nD c3:Nat}{zi:Nat->Int}{k0 k1 k2 k4 k5 k6:ti}
theorem sJ.push{w1 wr:ui}{o:Obj}{inV:ti}{l:List (Int×Int)}{x:Int×Int}{g cap:Nat}(h:sJ w r.Kb (kf8 k0 k1 k2 (.slice q3 nD c3) k4 k5 k6) inV l wr)(hg:(wr.alloc o).grownBy w1 inV.ownBlock)(ho:w1.ownsRow 0 59 2 (.slice (yi ⟨g,0,Ai⟩) (l.length+1:Nat) cap) (l.length+1) (Qo l++[.int .i64 x.1,.int .i64 x.2]))(hat:inV.ownBlock=yi g\/wr.heap.size<=g):
  Ei w1 r.Kb 8 126 (kf8 k0 k1 k2 (.slice q3 nD c3) k4 k5 k6 inV)/\sJ w r.Kb (kf8 k0 k1 k2 (.slice q3 nD c3) k4 k5 k6) (.slice (yi ⟨g,0,Ai⟩) (l.length+1:Nat) cap) (l++[x]) (w1.setCell ⟨r.Kb,7,Ai⟩ (.slice (yi ⟨g,0,Ai⟩) (l.length+1:Nat) cap)):=by
 have hs:wr.heap.size<=w1.heap.size:=Nat.le_trans P0 hg.size;have kept:∀b,b<wr.heap.size->inV.ownBlock≠yi b->w1.heap[b]?=wr.heap[b]?:=fun b hb Jj=>(hg.block b A1 (fun e=>Jj e.symm)).trans (heap_alloc_old wr _ hb);have hK:=xj h.own h.row U0;have hr:=h.row.of_heap (kept _ h.row.lt hK);have gK:g≠r.Kb:=fun e=>by
  rcases hat with x|x
  ·exact hK (by rw[<-e];exact x)
  ·have:=h.row.lt;omega
 refine⟨hr,(Ei.r90 hr _).2,?_,⟨hg.os.trans h.but.os,hg.tape.trans h.but.tape,hg.output.trans h.but.output,E6,fun k hk hn=>?_⟩,fun b hb=>?_⟩
 ·rw[jD,List.length_append];exact Rk ho fun b hb=>heap_setCell_other _ (a:=⟨r.Kb,7,Ai⟩) _ _ (fun e=>gK ((show g=b by simpa[Value.ownBlock]using hb).trans e))
 ·rw[heap_setCell_other _ _ _ _ hn,kept k (Nat.lt_of_lt_of_le hk h.but.size) (fun e=>by have:=h.blk k e;omega)];exact h.but.block k hk hn
 ·have:g=b:=by simpa[Value.ownBlock]using hb
  subst this;rcases hat with x|x
  ·exact h.blk g x
  ·exact Nat.le_trans h.but.size x
theorem jd0(hK:Ei w r.Kb 8 126 (kf8 k0 k1 k2 (.slice q3 nD c3) k4 k5 k6 (.slice Ai 0 0)))(Pm:Sl w ip (il*2) (fun j=>.int .i64 (zi j)))(hiK:il=0\/∀b o,ip=yi ⟨b,o,Ai⟩->b≠r.Kb)(rU:il<=4)(_Gs0:nD<=1000){a:Act}(z0:At0 a (.pointer (yi ⟨r.Kb,0,Ai⟩)))(z1:slt a 1=.slice ip il ic):
  Code.wp prog Hd0 (fun e a' w'=>e=.normal/\(a'.tmps.size=216/\a'.defers=[]/\a'.tmps.toList.getD 0 ri=.pointer (yi ⟨r.Kb,0,Ai⟩))/\∃inV,sJ w r.Kb (kf8 k0 k1 k2 (.slice q3 nD c3) k4 k5 k6) inV (JF zi nD il) w') a w:=by
 rw[Pz a z0.1 z0.2.1,show slt a 0=_ from z0.2.2,z1];clear z0 z1;have HI:Hid (Sl w ip (il*2) (fun j=>.int .i64 (zi j))/\(il=0\/∀b o,ip=yi ⟨b,o,Ai⟩->b≠r.Kb)):=⟨Pm,hiK⟩;have H0:Hid (sJ w r.Kb (kf8 k0 k1 k2 (.slice q3 nD c3) k4 k5 k6) (.slice Ai 0 0) (JF zi nD 0) w):=⟨hK,World.ownsRow_nil _ _ _ _,ak.refl _ _,fun b hb=>by cases hb⟩;simp only[Hd0,Ds,Tryz.f44,NU,Gw];go_wp2_with fail;go_loopw [5] (fun i wr=>∃(j:Nat)(pv:Option Addr)(mv cv:Nat),j<=il/\i=.int .i64 j/\Hid (sJ w r.Kb (kf8 k0 k1 k2 (.slice q3 nD c3) k4 k5 k6) (.slice pv mv cv) (JF zi nD j) wr)/\Hid (mv=(JF zi nD j).length)) (fun i _=>il-(intOf i).toNat)
 case atStart=>exact⟨0,Ai,0,0,Nat.zero_le _,rfl,H0,rfl⟩
 case round=>
  obtain⟨j,pv,mv,cv,hj,rfl,HW,HMV⟩:=hrel;by_cases Wi:j<il
  ·have FC:(j:Int)<(il:Int):=by omega
   obtain⟨b,o,rfl,hc⟩:=HI.out.1.at E0;have hbK:b≠r.Kb:=by
    rcases HI.out.2 with e|e
    ·omega
    ·exact e b o rfl
   have kp:∀i,i<il*2->wr.cell? ⟨b,o+i,Ai⟩=yi (.int .i64 (zi i)):=fun i hi=>(World.cell?_of_block (HW.out.but.block b (cell_lt (hc i hi)) hbK)).trans (hc i hi);have d0:=kp (j*2) E0;have d1:=kp (j*2+1) E0;rw[<-Nat.add_assoc]at d1;have x3:wr.cell? ⟨r.Kb,3,Ai⟩=yi (.slice q3 nD c3):=HW.out.row.cell (j:=3) E0;have hmv:mv<=4:=by have:=HMV.out;have:=oV zi nD j;omega
   clear hc kp;have HS:=O20 zi nD j;obtain⟨y0,HY0⟩:∃y,Hid (zi (j*2)=y):=⟨_,rfl⟩;obtain⟨y1,HY1⟩:∃y,Hid (zi (j*2+1)=y):=⟨_,rfl⟩;rw[HY0.out]at d0 HS;rw[HY1.out]at d1 HS;by_cases h0:0<=y0
   ·by_cases h1:y0<(nD:Int)
    ·rw[if_pos ⟨h0,h1⟩]at HS;have HSS:=Gl HS;have x7:=HW.out.row.cell (j:=7) E0;have HOW:Hid (∀o,(wr.alloc o).ownsRow 0 59 2 (.slice pv mv cv) mv (Qo (JF zi nD j))):=fun o=>by
      have:=own_below HW.out.own ((Below.refl _ wr).alloc (Nat.le_refl _) o);rw[<-HMV.out]at this;exact nh
     go_wp2_with fail
     go_quiet (fail)
     go_wp2_with fail
     have HWd:Hid (sJ w r.Kb (kf8 k0 k1 k2 (.slice q3 nD c3) k4 k5 k6) (.slice pv mv cv) (JF zi nD j) (wr.drewN nq)):=⟨HW.out.row,Rk HW.out.own fun _ _=>rfl,⟨HW.out.but.os,HW.out.but.tape,HW.out.but.output,HW.out.but.size,HW.out.but.block⟩,HW.out.blk⟩;have HOd:Hid (∀o,((wr.drewN nq).alloc o).ownsRow 0 59 2 (.slice pv mv cv) mv (Qo (JF zi nD j))):=fun o=>Rk (HOW.out o) fun _ _=>rfl;have e7:(wr.drewN nq).cell? ⟨r.Kb,7,Ai⟩=yi (.slice pv mv cv):=x7;have e0:(wr.drewN nq).cell? ⟨b,o+j*2,Ai⟩=yi (.int .i64 y0):=d0;have e1:(wr.drewN nq).cell? ⟨b,o+j*2+1,Ai⟩=yi (.int .i64 y1):=d1;generalize wr.drewN nq=wd at *;have hKl:=cell_lt e7;have yo:=cell_lt e0;have q7:∀o,(wd.alloc o).cell? ⟨r.Kb,7,Ai⟩=yi (.slice pv mv cv):=fun o=>(((Below.refl _ wd).alloc (Nat.le_refl _) o).cell (p:=⟨r.Kb,7,Ai⟩) hKl).trans e7;have q0:∀o',(wd.alloc o').cell? ⟨b,o+j*2,Ai⟩=yi (.int .i64 y0):=fun o'=>(((Below.refl _ wd).alloc (Nat.le_refl _) o').cell (p:=⟨b,o+j*2,Ai⟩) yo).trans e0;have q1:∀o',(wd.alloc o').cell? ⟨b,o+j*2+1,Ai⟩=yi (.int .i64 y1):=fun o'=>(((Below.refl _ wd).alloc (Nat.le_refl _) o').cell (p:=⟨b,o+j*2+1,Ai⟩) yo).trans e1;refine wp_region_noPanic ?_
     go_region_law (refine Ek rfl _ _ 29 rfl 0 59 _ 2 16 underlying29 j20 rfl E0 (.slice pv mv cv) mv (Qo (JF zi nD j)) rfl (by exact HOd.out _) wd.heap.size [.int .i64 y0,.int .i64 y1] 59 rfl rfl J2 D2 Y1 E0 E0 ?_;intro g cap w1 Oj Ti hat zo;have HP:Hid _:=HWd.out.push (x:=(y0,y1)) (g:=g) (cap:=cap) (o:=.cells #[.int .i64 y0,.int .i64 y1] 59) (w1:=w1) ⟨Ti.os,Ti.tape,Ti.output,Ti.size,Ti.block⟩ (by rw[<-HMV.out];exact Oj) (hat.imp id (fun e=>I3));have v7:w1.cell? ⟨r.Kb,7,Ai⟩=yi _:=HP.out.1.cell (j:=7) E0;have v7f:=HP.out.1.frozen 7)
     all_goals
      refine NoPanic.normal ?_;have HE:Hid (sJ w r.Kb (kf8 k0 k1 k2 (.slice q3 nD c3) k4 k5 k6) (.slice (yi ⟨g,0,Ai⟩) (mv+1:Nat) cap) (JF zi nD (j+1)) (w1.setCell ⟨r.Kb,7,Ai⟩ (.slice (yi ⟨g,0,Ai⟩) (mv+1:Nat) cap))):=by
       have:=HP.out.2;rw[<-HMV.out,<-HSS.out]at this;exact nh
      have HE2:Hid (mv+1=(JF zi nD (j+1)).length):=by
       show _=_;rw[HSS.out,List.length_append,<-HMV.out];rfl
      go_wp2_with fail
      exact⟨⟨j+1,_,_,_,E0,J1,(by first|exact HE|exact⟨HE.out.row,Rk HE.out.own fun _ _=>rfl,HE.out.but.drew,HE.out.blk⟩),HE2⟩,U1⟩
    ·rw[if_neg (fun h=>h1 h.2)]at HS;have HE2:Hid (∀d,sJ w r.Kb (kf8 k0 k1 k2 (.slice q3 nD c3) k4 k5 k6) (.slice pv mv cv) (JF zi nD (j+1)) (wr.at d)):=fun d=>by rw[HS];exact Ce
     have HM2:Hid (mv=(JF zi nD (j+1)).length):=by rw[HS];exact HMV
     go_wp2_with fail
     go_quiet (fail)
     go_wp2_with fail
     all_goals exact⟨⟨j+1,_,_,_,E0,J1,HE2.out _,HM2⟩,U1⟩
   ·rw[if_neg (fun h=>h0 h.1)]at HS;have HE2:Hid (∀d,sJ w r.Kb (kf8 k0 k1 k2 (.slice q3 nD c3) k4 k5 k6) (.slice pv mv cv) (JF zi nD (j+1)) (wr.at d)):=fun d=>by rw[HS];exact Ce
    have HM2:Hid (mv=(JF zi nD (j+1)).length):=by rw[HS];exact HMV
    obtain⟨dn,rfl⟩:∃dn:Nat,y0=Int.negSucc dn:=⟨(-y0-1).toNat,E0⟩;go_wp2_with fail;go_quiet (fail)
    go_wp2_with fail
    all_goals exact⟨⟨j+1,_,_,_,E0,J1,HE2.out _,HM2⟩,U1⟩
  ·obtain rfl:j=il:=by omega
   go_wp2_with fail
   exact⟨_,HW.out⟩
end
noncomputable def s70:Code:=NU (Gw (Gw (Gw (Gw (Gw (Gw (Gw (Gw (Ds)))))))))
def lx(Q:Nat->RC)(j i:Nat):RC:=if i<j then {Q i with nt:=.slice Ai 0 0}else Q i
theorem ZY(Q:Nat->RC)(j:Nat):fj (lx Q j) j {lx Q j j with nt:=.slice Ai 0 0}=lx Q (j+1):=by
 funext i
 by_cases e:i=j
 ·subst e;rw[Oi];unfold lx;rw[if_neg (Nat.lt_irrefl _),if_pos (Nat.lt_succ_self _)]
 ·rw[cj _ _ e];unfold lx;by_cases h:i<j
  ·rw[if_pos h,if_pos E0]
  ·rw[if_neg h,if_neg E0]
section
variable {w:ui}{r:RK}{Q:Nat->RC}{nC:Nat}
theorem U20(h4:w.cell? ⟨r.Kb,4,Ai⟩=yi (.slice (yi ⟨r.Gc,0,Ai⟩) nC nC))(hr:Ei w r.Gc (nC*26) 131 (Sj Q))(hK:r.Kb≠r.Gc)(hnC:nC<=1000){a:Act}(z0:At0 a (.pointer (yi ⟨r.Kb,0,Ai⟩))):
  Code.wp prog s70 (fun e a' w'=>e=.normal/\(a'.tmps.size=216/\a'.defers=[]/\a'.tmps.toList.getD 0 ri=.pointer (yi ⟨r.Kb,0,Ai⟩))/\Ei w' r.Gc (nC*26) 131 (Sj (lx Q nC))/\ak (fun j=>j=r.Gc) w w') a w:=by
 refine Ig ?_;clear z0;have H:Hid (w.cell? ⟨r.Kb,4,Ai⟩=yi (.slice (yi ⟨r.Gc,0,Ai⟩) nC nC)/\r.Kb≠r.Gc):=⟨h4,hK⟩;have H0:Hid (Ei w r.Gc (nC*26) 131 (Sj (lx Q 0))/\ak (fun j=>j=r.Gc) w w):=⟨hr,ak.refl _ _⟩;clear h4 hr hK;simp only[s70,Ds,Tryz.f44,NU,Gw];go_wp2_with fail;go_loopw [12] (fun i wr=>∃j:Nat,j<=nC/\i=.int .i64 j/\Hid (Ei wr r.Gc (nC*26) 131 (Sj (lx Q j))/\ak (fun j=>j=r.Gc) w wr)) (fun i _=>nC-(intOf i).toNat)
 case atStart=>exact⟨0,Nat.zero_le _,rfl,H0⟩
 case round=>
  clear H0;obtain⟨j,hj,rfl,HA⟩:=hrel;have x4:wr.cell? ⟨r.Kb,4,Ai⟩=yi (.slice (yi ⟨r.Gc,0,Ai⟩) nC nC):=(World.cell?_of_block (HA.out.2.block r.Kb (cell_lt H.out.1) H.out.2)).trans H.out.1;by_cases hl:j<nC
  ·have x21:=Ei.rat HA.out.1 (n:=j) (i:=21) E0 rfl E0;have f21:=HA.out.1.frozen (j*26+21);have Yq:(j:Int)<(nC:Int):=by omega
   have HE:Hid (Ei (wr.setCell ⟨r.Gc,j*26+21,Ai⟩ (.slice Ai 0 0)) r.Gc (nC*26) 131 (Sj (lx Q (j+1)))/\ak (fun j=>j=r.Gc) w (wr.setCell ⟨r.Gc,j*26+21,Ai⟩ (.slice Ai 0 0))):=⟨by have:=Ei.rn HA.out.1 (n:=j) (a:=j*26+21) rfl (.slice Ai 0 0);rw[ZY]at this;exact this,vj HA.out.2 _ _⟩;generalize Et (lx Q j j) 21=y at *;go_wp2_with fail;exact⟨⟨j+1,E0,J1,HE⟩,U1⟩
  ·obtain rfl:j=nC:=by omega
   go_wp2_with fail
   exact HA.out
end
noncomputable def M70:Code:=NU (Gw (Gw (Gw (Gw (Gw (Ds))))))
section
variable {w wr:ui}{k:Vu}{K:Nl}{r:RK}{s:Hy}{vs ts RL:Nat->ti}{nl:Nat->List (Int×Int)}{Ls UH:Nat->Ln}{kind:Nat->Int}{F:Int}{inV:ti}{il ins:List (Int×Int)}{wn:Nat->Nat×Nat}{d nW cW Iq wo nD:Nat}
theorem Tn.at{Q:Nat->RC}{m:Nat->Nat}{xs:Nat->List ti}(h:Tn wr k r Q m xs)(e:Nat):Tn (wr.at e) k r Q m xs:=
 ⟨h.h0,h.h4,h.sK,h.sb,h.sc,h.si,h.oh,h.hc,h.hi,h.hl,h.code,h.bQ,h.row,h.own,h.Un,h.g16,h.n48,h.ok,h.fst⟩
theorem Om.at{nC:Nat}{Q:Nat->RC}(h:Om wr nC r Q nl Ls F inV il)(e:Nat):Om (wr.at e) nC r Q nl Ls F inV il:=
 ⟨h.h5,h.h6,h.h7,h.ino,h.row,h.lo,h.own,h.Un,h.oh,h.yD,h.YF,h.u_⟩
theorem BQ.at(h:BQ w RL UH k K r kind s vs ts nl Ls F inV il d wr)(e:Nat):BQ w RL UH k K r kind s vs ts nl Ls F inV il d (wr.at e):=
 ⟨h.kn.at e,h.net.at e,h.rel,h.wt,⟨h.but.os,h.but.tape,h.but.output,h.but.size,h.but.block⟩,h.blk,h.iI,h.B50,h.dl⟩
theorem e50(hF:BQ w RL UH k K r kind s vs ts nl Ls F inV il d w)(hS:E_ k s)(XD:∀i,i<k.nC->k.num i=i)(rj:∀i b,i<k.nC->(RL i).ownBlock=yi b->r.hi<=b)(sW:Hm r w Iq)(c0:∀j,j<nW->w.cell? ⟨Iq,wo+j*2,Ai⟩=yi (.int .i64 (wn j).1))(c1:∀j,j<nW->w.cell? ⟨Iq,wo+j*2+1,Ai⟩=yi (.int .i64 (wn j).2))(hnW:nW<=1000)(TJ:∀j,j<nW->(wn j).1<k.nC/\(wn j).2<=200)(hm:∀i,s.m i+nW*201+300<=1000000000)
  (hd:d+nW*200+300<=1000000000)(yQ:∀i,i<k.nC->TC i kind K.fr nD (k.n i) (k.ci i))(Pm:∀N:Int,0<=N->N<nD->Cm il N=Cm ins N)(Dy:∀c,c<r.kc->0<=K.fr c)(hFb:0<=F/\F<=1000000000000){a:Act}(z0:At0 a (.pointer (yi ⟨r.Kb,0,Ai⟩)))(z1:slt a 6=.slice (yi ⟨Iq,wo,Ai⟩) nW cW):
  Code.wp prog M70 (fun e a' w'=>e=.normal/\(a'.tmps.size=216/\a'.defers=[]/\a'.tmps.toList.getD 0 ri=.pointer (yi ⟨r.Kb,0,Ai⟩))/\∃Sv ts' nl' Jw d',BQ w RL UH k K r kind (Eo k K ins wn nW 0 s) Sv ts' nl' Jw F inV il d' w'/\E_ k (Eo k K ins wn nW 0 s)/\d'<=d+nW*200) a w:=by
 rw[Pz a z0.1 z0.2.1,show slt a 0=_ from z0.2.2,z1];clear z0 z1;have H0:Hid (BQ w RL UH k K r kind s vs ts nl Ls F inV il d w):=hF;have HSO:Hid (E_ k s):=hS;have HMM:Hid (∀i,s.m i+nW*201+300<=1000000000):=hm;have HC:Hid ((∀i,i<k.nC->k.num i=i)/\(∀j,j<nW->(wn j).1<k.nC/\(wn j).2<=200)/\(∀i,i<k.nC->TC i kind K.fr nD (k.n i) (k.ci i))/\(∀N:Int,0<=N->N<nD->Cm il N=Cm ins N)/\(∀c,c<r.kc->0<=K.fr c)/\0<=F/\F<=1000000000000):=⟨XD,TJ,yQ,Pm,Dy,hFb⟩;have t_:Hid (Hm r w Iq/\(∀j,j<nW->w.cell? ⟨Iq,wo+j*2,Ai⟩=yi (.int .i64 (wn j).1))/\(∀j,j<nW->w.cell? ⟨Iq,wo+j*2+1,Ai⟩=yi (.int .i64 (wn j).2))/\∀i b,i<k.nC->(RL i).ownBlock=yi b->r.hi<=b):=⟨sW,c0,c1,rj⟩;clear hF hS hm XD TJ yQ Pm Dy hFb sW c0 c1 rj;simp only[M70,Ds,Tryz.f44,NU,Gw];go_wp2_with fail;go_loopw [7] (fun i wr=>∃(j:Nat)(s':Hy)(Sv ts':Nat->ti)(nl':Nat->List (Int×Int))(Jw:Nat->Ln)(e:Nat),j<=nW/\i=.int .i64 j/\Hid (Eo k K ins wn (nW-j) j s'=Eo k K ins wn nW 0 s)/\Hid (E_ k s')/\Hid (∀i,s'.m i+(nW-j)*201+300<=1000000000)/\Hid (BQ w RL UH k K r kind s' Sv ts' nl' Jw F inV il e wr)/\e<=d+j*200) (fun i _=>nW-(intOf i).toNat)
 case atStart=>exact⟨0,s,vs,ts,nl,Ls,d,Nat.zero_le _,rfl,by show Eo k K ins wn (nW-0) 0 s=_;rw[Nat.sub_zero],HSO,by show ∀i,_;simpa using HMM.out,H0,E0⟩
 case round=>
  clear H0 HSO HMM;obtain⟨j,s',Sv,ts',nl',Jw,e,hj,rfl,HRS,HSS,HM,HF,he⟩:=hrel;by_cases Wi:j<nW
  ·have y0:wr.cell? ⟨Iq,wo+j*2,Ai⟩=yi (.int .i64 (wn j).1):=(World.cell?_of_block (HF.out.stat t_.out.1 t_.out.2.2.2)).trans (t_.out.2.1 j Wi);have y1:wr.cell? ⟨Iq,wo+j*2+1,Ai⟩=yi (.int .i64 (wn j).2):=(World.cell?_of_block (HF.out.stat t_.out.1 t_.out.2.2.2)).trans (t_.out.2.2.1 j Wi);obtain⟨hp1,hp2⟩:=HC.out.2.1 j Wi;have FC:(j:Int)<(nW:Int):=by omega
   have HFd:Hid (BQ w RL UH k K r kind s' Sv ts' nl' Jw F inV il e wr.drew):=HF.out.at _;have hz:=HSS.out _ hp1;have sV:=HM.out (wn j).1;have hdl:=HF.out.dl (wn j).1 hp1;have vm:=EN (p:=Qp k K ins (wn j).1) (wn j).2 (s'.z (wn j).1) s'.D;go_wp2_with fail;go_region_held3 (fun W=>W.cell? ⟨Iq,wo+j*2,Ai⟩=yi (.int .i64 (wn j).1)/\W.cell? ⟨Iq,wo+j*2+1,Ai⟩=yi (.int .i64 (wn j).2)) (go_keep)
    (first
     |(go_at_call 74
       refine(r50 (ins:=ins) (nD:=nD) HFd.out.kn HFd.out.net HFd.out.rel HC.out.2.2.2.2.1 hp1 hz.1 rfl rfl hz.2 (wn j).2 hp2 E0 (HC.out.2.2.1 _ hp1) HC.out.2.2.2.1 E0 HC.out.2.2.2.2.2 HFd.out.wt).mono ?_;rintro e2 wl ⟨rfl,hA⟩;obtain⟨vs2,ts2,nl2,Ls2,ql⟩:=HFd.out.after hp1 (HC.out.1 _ hp1) HSS.out hA;have HF2:Hid (BQ w RL UH k K r kind (gx k K ins (wn j) s') vs2 ts2 nl2 Ls2 F inV il (e+(wn j).2) wl):=ql;clear hA ql;have z0:wl.cell? ⟨Iq,wo+j*2,Ai⟩=yi (.int .i64 (wn j).1):=(World.cell?_of_block (HF2.out.stat t_.out.1 t_.out.2.2.2)).trans (t_.out.2.1 j Wi);have z1:wl.cell? ⟨Iq,wo+j*2+1,Ai⟩=yi (.int .i64 (wn j).2):=(World.cell?_of_block (HF2.out.stat t_.out.1 t_.out.2.2.2)).trans (t_.out.2.2.1 j Wi)))
   go_wp2_with fail
   refine⟨⟨j+1,gx k K ins (wn j) s',vs2,ts2,nl2,Ls2,e+(wn j).2,E0,J1,?_,?_,?_,HF2,E0⟩,U1⟩
   ·show Eo k K ins wn (nW-(j+1)) (j+1) (gx k K ins (wn j) s')=_;have:=HRS.out;rw[show nW-j=(nW-(j+1))+1 by omega]at this;exact nh
   ·exact HSS.out.win HF.out.kn.ok hp1
   ·show ∀i,fj s'.m (wn j).1 _ i+(nW-(j+1))*201+300<=1000000000;intro i;have hi:=HM.out i;by_cases e:i=(wn j).1
    ·rw[e,Oi];rw[e]at hi;have hm1:(nW-(j+1))*201+201=(nW-j)*201:=by omega
     omega
    ·rw[cj _ _ e];omega
  ·obtain rfl:j=nW:=by omega
   have hs:s'=Eo k K ins wn j 0 s:=by
    have:=HRS.out;rw[Nat.sub_self]at this;exact nh
   have HFE:Hid (BQ w RL UH k K r kind (Eo k K ins wn j 0 s) Sv ts' nl' Jw F inV il e wr/\E_ k (Eo k K ins wn j 0 s)):=by rw[<-hs];exact⟨HF.out,HSS.out⟩
   clear HF HSS hs HRS HM;go_wp2_with fail;exact⟨Sv,ts',nl',Jw,e,HFE.out.1,HFE.out.2,he⟩
end
theorem OY(zi:Nat->Int)(nD m:Nat)(N:Int)(h0:0<=N)(h1:N<nD):Cm (JF zi nD m) N=Cm ((List.range m).map fun j=>(zi (j*2),zi (j*2+1))) N:=by
 unfold Cm JF;rw[List.find?_filter];have:(fun a:Int×Int=>decide ((decide (0<=a.1)&&decide (a.1<(nD:Int)))=ji/\(a.1==N)=ji))=fun a=>a.1==N:=by
  funext a
  by_cases e:a.1=N
  ·simp[e,h0,h1]
  ·have:(a.1==N)=false:=by simpa using e
   simp[this]
 rw[this]
noncomputable def rf2:Code:=NU (Gw (Gw (Ds)))
noncomputable def rf4:Code:=NU (Gw (Gw (Gw (Gw (Ds)))))
noncomputable def rf6:Code:=NU (Gw (Gw (Gw (Gw (Gw (Gw (Ds)))))))
section
variable {w:ui}{r:RK}{tb RD nT cT Iq wo nW cW fr:Nat}{k0 k2 k3 k4 k5 k7:ti}
theorem M90(hK:Ei w r.Kb 8 126 (kf8 k0 (.slice (yi ⟨tb,RD,Ai⟩) nT cT) k2 k3 k4 k5 (.int .i64 fr) k7))(Nk:w.cell? ⟨tb,RD+fr%nT,Ai⟩=yi (.slice (yi ⟨Iq,wo,Ai⟩) nW cW))(hnT:1<=nT)(Me0:nT<=1000)(Dy:fr<=1000000000000){a:Act}(z0:At0 a (.pointer (yi ⟨r.Kb,0,Ai⟩))):
  Code.wp prog rf4 (fun e a' w'=>e=.normal/\(a'.tmps.size=216/\a'.defers=[]/\a'.tmps.toList.getD 0 ri=.pointer (yi ⟨r.Kb,0,Ai⟩)/\a'.tmps.toList.getD 6 ri=.slice (yi ⟨Iq,wo,Ai⟩) nW cW)/\∃d,w'=w.at d) a w:=by
 refine Ig ?_;clear z0;have x1:w.cell? ⟨r.Kb,1,Ai⟩=yi (.slice (yi ⟨tb,RD,Ai⟩) nT cT):=hK.cell (j:=1) E0;have x6:w.cell? ⟨r.Kb,6,Ai⟩=yi (.int .i64 fr):=hK.cell (j:=6) E0;have fp0:fr%nT<nT:=Nat.mod_lt _ E0;have hnz:¬((nT:Int)=0):=E0;clear hK;simp only[rf4,Ds,Tryz.f44,NU,Gw];go_wp2_with fail;go_quiet (fail)
 go_wp2_with fail
 exact⟨_,rfl⟩
theorem A60{ip:Option Addr}{il ic:Nat}{fK:Nat->ti}(hK:Ei w r.Kb 8 126 fK){a:Act}(z0:At0 a (.pointer (yi ⟨r.Kb,0,Ai⟩)))(z1:slt a 1=.slice ip il ic):
  Code.wp prog rf2 (fun e a' w'=>e=.normal/\(a'.tmps.size=216/\a'.defers=[]/\a'.tmps.toList.getD 0 ri=.pointer (yi ⟨r.Kb,0,Ai⟩)/\a'.tmps.toList.getD 1 ri=.slice ip il ic)/\w'=w.setCell ⟨r.Kb,7,Ai⟩ (.slice Ai 0 0)) a w:=by
 rw[Pz a z0.1 z0.2.1,show slt a 0=_ from z0.2.2,z1];clear z0 z1;have x7:=hK.cell (j:=7) E0;have f7:=hK.frozen 7;clear hK;simp only[rf2,Ds,Tryz.f44,NU,Gw];go_wp2_with fail
theorem V50(hK:Ei w r.Kb 8 126 (kf8 k0 (.slice (yi ⟨tb,RD,Ai⟩) nT cT) k2 k3 k4 k5 (.int .i64 fr) k7))(Dy:fr<=1000000000000){a:Act}(z0:At0 a (.pointer (yi ⟨r.Kb,0,Ai⟩))):
  Code.wp prog rf6 (fun e a' w'=>e=.normal/\(a'.tmps.size=216/\a'.defers=[]/\a'.tmps.toList.getD 0 ri=.pointer (yi ⟨r.Kb,0,Ai⟩))/\w'=w.setCell ⟨r.Kb,6,Ai⟩ (.int .i64 ((fr:Int)+1))) a w:=by
 refine Ig ?_;clear z0;have x6:w.cell? ⟨r.Kb,6,Ai⟩=yi (.int .i64 fr):=hK.cell (j:=6) E0;have f6:=hK.frozen 6;clear hK;simp only[rf6,Ds,Tryz.f44,NU,Gw];go_wp2_with fail
end
end Go.Proofs.YtdoghgnifkgfdaaGreat.Mute
