import Derived.Test.YtdoghgnifkgfdaaGreatA18
set_option maxRecDepth 100000
set_option maxHeartbeats 16000000
open Option renaming none->Hn,some->Gn
open Go renaming World->En,Value->Dn,undef->Bn,heap_setCell_other->yn,Calls->Zm,block_lt_of_cell->Wm,Addr->Vm
open Bool renaming true->Um,false->Tm
open Go.RowKit renaming Below->Sm
open Nat renaming le_trans->Qm,zero_le->Pm,le_refl->Om,lt_of_lt_of_le->Lm,add_assoc->Jm
open List renaming range->Hm
namespace Go.Proofs.YtdoghgnifkgfdaaGreat.Mute
open Tryz Go Go.Conc Go.RowKit
def O_:Code->Code
 |.seq x _=>x
 |c=>c
def zC:Code->Code
 |.seq _ y=>y
 |c=>c
noncomputable def Ry:Code:=match Tryz.f44.body with
 |some c=>c
 |none=>.skip
noncomputable def x00:Code:=O_ (zC (zC (zC (zC (zC (zC (zC (Ry))))))))
theorem YS:∀(l:List (Int×Int))(j:Nat)(x:Int×Int),l[j]?=Gn x->(gw l)[j*2]?=Gn (.int .i64 x.1)/\(gw l)[j*2+1]?=Gn (.int .i64 x.2)
 | [],j,x,h=>by simp at h
 |p::l,0,x,h=>by
  have:p=x:=X2;subst this;exact⟨rfl,rfl⟩
 |p::l,j+1,x,h=>by
  obtain⟨h1,h2⟩:=YS l j x X2;have e:gw (p::l)=.int .i64 p.1::.int .i64 p.2::gw l:=rfl;rw[e,show (j+1)*2=j*2+1+1 by omega];exact⟨K5,by simpa using h2⟩
theorem P20{c:Nat}{l:List (Int×Int)}{i:Nat}{x:Int×Int}(h:l[i]?=Gn x):xE c (l.take (i+1))=if x.1=(c:Int)then xE c (l.take i)++[x.2]else xE c (l.take i):=by
 have e:l.take (i+1)=l.take i++[x]:=by
  rw[List.take_add_one,h];rfl
 unfold xE;rw[e,List.filter_append,List.map_append];by_cases hx:x.1=(c:Int)
 ·rw[if_pos hx];simp[hx]
 ·rw[if_neg hx];simp[hx]
def Wp(a:Act)(j:Nat):Value:=a.tmps.toList.getD j Bn
def At0(a:Act)(v:Dn):Prop:=a.tmps.size=216/\a.defers=[]/\a.tmps.toList.getD 0 Bn=v
theorem QE(a:Act)(h:a.tmps.size=216)(hd:a.defers=[]):a={tmps:=#[Wp a 0,Wp a 1,Wp a 2,Wp a 3,Wp a 4,Wp a 5,Wp a 6,Wp a 7,Wp a 8,Wp a 9,Wp a 10,Wp a 11,Wp a 12,Wp a 13,Wp a 14,Wp a 15,Wp a 16,Wp a 17,Wp a 18,Wp a 19,Wp a 20,Wp a 21,Wp a 22,Wp a 23,Wp a 24,Wp a 25,Wp a 26,Wp a 27,Wp a 28,Wp a 29,Wp a 30,Wp a 31,Wp a 32,Wp a 33,Wp a 34,Wp a 35,Wp a 36,Wp a 37,Wp a 38,Wp a 39,Wp a 40,Wp a 41,Wp a 42,Wp a 43,Wp a 44,Wp a 45,Wp a 46,Wp a 47,Wp a 48,Wp a 49,Wp a 50,Wp a 51,Wp a 52,Wp a 53,Wp a 54,Wp a 55,Wp a 56,Wp a 57,Wp a 58,Wp a 59,Wp a 60,Wp a 61,Wp a 62,Wp a 63,Wp a 64,Wp a 65,Wp a 66,Wp a 67,Wp a 68,Wp a 69,Wp a 70,Wp a 71,Wp a 72,Wp a 73,Wp a 74,Wp a 75,Wp a 76,Wp a 77,Wp a 78,Wp a 79,Wp a 80,Wp a 81,Wp a 82,Wp a 83,Wp a 84,Wp a 85,Wp a 86,Wp a 87,Wp a 88,Wp a 89,Wp a 90,Wp a 91,Wp a 92,Wp a 93,Wp a 94,Wp a 95,Wp a 96,Wp a 97,Wp a 98,Wp a 99,Wp a 100,Wp a 101,Wp a 102,Wp a 103,Wp a 104,Wp a 105,Wp a 106,Wp a 107,Wp a 108,Wp a 109,Wp a 110,Wp a 111,Wp a 112,Wp a 113,Wp a 114,Wp a 115,Wp a 116,Wp a 117,Wp a 118,Wp a 119,Wp a 120,Wp a 121,Wp a 122,Wp a 123,Wp a 124,Wp a 125,Wp a 126,Wp a 127,Wp a 128,Wp a 129,Wp a 130,Wp a 131,Wp a 132,Wp a 133,Wp a 134,Wp a 135,Wp a 136,Wp a 137,Wp a 138,Wp a 139,Wp a 140,Wp a 141,Wp a 142,Wp a 143,Wp a 144,Wp a 145,Wp a 146,Wp a 147,Wp a 148,Wp a 149,Wp a 150,Wp a 151,Wp a 152,Wp a 153,Wp a 154,Wp a 155,Wp a 156,Wp a 157,Wp a 158,Wp a 159,Wp a 160,Wp a 161,Wp a 162,Wp a 163,Wp a 164,Wp a 165,Wp a 166,Wp a 167,Wp a 168,Wp a 169,Wp a 170,Wp a 171,Wp a 172,Wp a 173,Wp a 174,Wp a 175,Wp a 176,Wp a 177,Wp a 178,Wp a 179,Wp a 180,Wp a 181,Wp a 182,Wp a 183,Wp a 184,Wp a 185,Wp a 186,Wp a 187,Wp a 188,Wp a 189,Wp a 190,Wp a 191,Wp a 192,Wp a 193,Wp a 194,Wp a 195,Wp a 196,Wp a 197,Wp a 198,Wp a 199,Wp a 200,Wp a 201,Wp a 202,Wp a 203,Wp a 204,Wp a 205,Wp a 206,Wp a 207,Wp a 208,Wp a 209,Wp a 210,Wp a 211,Wp a 212,Wp a 213,Wp a 214,Wp a 215],defers:=[]}:=by
 obtain⟨⟨l⟩,ds⟩:=a;obtain rfl:ds=[]:=hd;have hl:l.length=216:=h;have e:l=(Hm 216).map fun j=>l.getD j undef:=by
  apply List.ext_getElem?;intro j;by_cases hj:j<216
  ·simp[hj,hl]
  ·simp[hj,hl]
 exact congrArg (fun x=>(⟨⟨x⟩,[]⟩:Act)) e
section
variable {w:En}{r:RK}{Ls:Nat->Ln}{Q:Nat->RC}{nl:Nat->List (Int×Int)}{ch:Nat->Int}{fr:Nat->Nat}{qc:Option Vm}{cc nC:Nat}{F1:Int}
structure LnS(w:En)(r:RK)(Ls:Nat->Ln)(Q:Nat->RC)(nl:Nat->List (Int×Int))(ch:Nat->Int)(fr:Nat->Nat)(qc:Option Vm)(cc nC:Nat)(F1:Int):Prop where
 h2:w.cell? ⟨r.Kb,2,Hn⟩=Gn (.slice qc r.kc cc)
 h4:w.cell? ⟨r.Kb,4,Hn⟩=Gn (.slice (Gn ⟨r.Gc,0,Hn⟩) nC nC)
 h5:w.cell? ⟨r.Kb,5,Hn⟩=Gn (.slice (Gn ⟨r.Lb,0,Hn⟩) r.kc r.kc)
 h6:w.cell? ⟨r.Kb,6,Hn⟩=Gn (.int .i64 F1)
 nH:Sl w qc (r.kc*3) (fun j=>.int .i64 (ch j))
 hqc:∀b o,qc=Gn ⟨b,o,Hn⟩->b≠r.Lb/\∀c,c<r.kc->(Ls c).wv.ownBlock≠Gn b
 hK:r.Kb≠r.Lb/\∀c,c<r.kc->(Ls c).wv.ownBlock≠Gn r.Kb
 row:Tn w r.Gc (nC*26) 131 (yq Q)
 ln:BL w r Ls Ls w
 yJ:∀i,i<nC->w.ownsRow 0 177 2 (Q i).nt (nl i).length (gw (nl i))
 aE:∀c,c<r.kc->ch (c*3+1)=fr c/\fr c<nC
 bd:r.kc<=1000/\nC<=1000/\∀i,i<nC->(nl i).length<=1000000000
section
variable (h:LnS w r Ls Q nl ch fr qc cc nC F1){L:Nat->Ln}{wr:En}(hl:BL w r Ls L wr)
include h L wr hl
theorem LnS.K:wr.heap[r.Kb]?=w.heap[r.Kb]?:=hl.but.block _ (Rr h.h2) (fun e=>by
 rcases e with e|⟨c,hc,e⟩
 ·exact h.hK.1 e
 ·exact h.hK.2 c hc e)
theorem LnS.R:Tn wr r.Gc (nC*26) 131 (yq Q):=h.row.of_heap (hl.but.block _ h.row.lt (fun e=>by
 rcases e with e|⟨c,hc,e⟩
 ·have h1:=h.row;rw[e]at h1;exact Fz h1 h.ln.row U0 rfl
 ·exact xp (h.ln.own c hc) h.row U0 e))
theorem LnS.C{j:Nat}(hj:j<r.kc*3):∃b o,qc=Gn ⟨b,o,Hn⟩/\wr.cell? ⟨b,o+j,Hn⟩=Gn (.int .i64 (ch j)):=by
 obtain⟨b,o,e,hc⟩:=h.nH.at E0;refine⟨b,o,e,(World.cell?_of_block (hl.but.block b (Rr (hc j hj)) (fun x=>?_))).trans (hc j hj)⟩;rcases x with x|⟨c,zE,x⟩
 ·exact(h.hqc b o e).1 x
 ·exact(h.hqc b o e).2 c zE x
theorem LnS.N{i:Nat}(hi:i<nC):wr.ownsRow 0 177 2 (Q i).nt (nl i).length (gw (nl i)):=Lr (h.yJ i hi) fun b hb=>hl.but.block b (Qv (h.yJ i hi) hb) (fun e=>by
 rcases e with e|⟨c,hc,e⟩
 ·exact xp (h.yJ i hi) h.ln.row U0 G4
 ·exact ED (h.yJ i hi) (h.ln.own c hc) U0 hb e)
end
theorem BL.drew{L:Nat->Ln}{wr:En}(h:BL w r Ls L wr):BL w r Ls L wr.drew:=⟨h.but.drew,h.row,fun c hc=>Lr (h.own c hc) fun _ _=>rfl,h.ne,h.blk⟩
theorem BL.WT{M:Nat->Ln}{wr:En}{n:Nat}(h:BL w r Ls M wr)(x:Int):BL w r Ls (Qo M n {M n with shown:=Um,shows:=x,since:=F1}) (((wr.setCell ⟨r.Lb,n*5+2,Hn⟩ (.bool Um)).setCell ⟨r.Lb,n*5+3,Hn⟩ (.int .i64 x)).setCell ⟨r.Lb,n*5+4,Hn⟩ (.int .i64 F1)):=by
 have h1:=h.set (c:=n) (a:=n*5+2) (v:=.bool Um) (ln:={M n with shown:=Um}) (Tn.rF h.row (i:=2) E0 rfl fun j hj=>by rcases five hj with rfl|rfl|rfl|rfl|rfl<;>rfl) rfl rfl;have h2:=h1.set (c:=n) (a:=n*5+3) (v:=.int .i64 x) (ln:={M n with shown:=Um,shows:=x}) (Tn.rF h1.row (i:=3) E0 rfl fun j hj=>v8) (by rw[Yn]) (by rw[Yn]);rw[Es]at h2;have h3:=h2.set (c:=n) (a:=n*5+4) (v:=.int .i64 F1) (ln:={M n with shown:=Um,shows:=x,since:=F1}) (Tn.rF h2.row (i:=4) E0 rfl fun j hj=>v8) (by rw[Yn]) (by rw[Yn]);rw[Es]at h3;exact h3
theorem E30{a b:Ln}{k F:Int}{x:Int}(h:Gv a b):Gv (Iw k F a x) (Iw k F b x):=by
 obtain⟨h1,h2,h3,h4,h5⟩:=h;unfold Iw;split
 ·exact⟨h1,h2,rfl,rfl,rfl⟩
 ·rw[h1];split
  ·exact⟨rfl,h2,h3,h4,h5⟩
  ·exact⟨rfl,by simp only[h2],h3,h4,h5⟩
theorem S70(h:LnS w r Ls Q nl ch fr qc cc nC F1){a:Act}(z0:At0 a (.pointer (Gn ⟨r.Kb,0,Hn⟩))):
  Code.wp prog x00 (fun e a' w'=>e=.normal/\(a'.tmps.size=216/\a'.defers=[]/\a'.tmps.toList.getD 0 Bn=.pointer (Gn ⟨r.Kb,0,Hn⟩))/\∃L,BL w r Ls L w'/\(∀c,c<r.kc->Gv (L c) ((xE c (nl (fr c))).foldl (Iw (ch (c*3)) F1) (Ls c)))) a w:=by
 refine Eh ?_;clear z0;have H:Hid (LnS w r Ls Q nl ch fr qc cc nC F1):=h;have hkc:=h.bd.1;have hnC:=h.bd.2.1;clear h;simp only[x00,Ry,Tryz.f44,O_,zC];go_wp2_with fail;go_loopw [8] (fun i wr=>∃(n:Nat)(L:Nat->Ln),n<=r.kc/\i=.int .i64 n/\Hid (BL w r Ls L wr/\(∀c,c<n->Gv (L c) ((xE c (nl (fr c))).foldl (Iw (ch (c*3)) F1) (Ls c)))/\∀c,n<=c->L c=Ls c)) (fun i _=>r.kc-(intOf i).toNat)
 case atStart=>exact⟨0,Ls,Pm _,rfl,H.out.ln,fun c hc=>absurd hc E0,fun _ _=>rfl⟩
 case round=>
  obtain⟨n,L,hn,rfl,HL⟩:=hrel;have k2:wr.cell? ⟨r.Kb,2,Hn⟩=Gn (.slice qc r.kc cc):=(World.cell?_of_block (H.out.K HL.out.1)).trans H.out.h2;have k4:wr.cell? ⟨r.Kb,4,Hn⟩=Gn (.slice (Gn ⟨r.Gc,0,Hn⟩) nC nC):=(World.cell?_of_block (H.out.K HL.out.1)).trans H.out.h4;have k5:wr.cell? ⟨r.Kb,5,Hn⟩=Gn (.slice (Gn ⟨r.Lb,0,Hn⟩) r.kc r.kc):=(World.cell?_of_block (H.out.K HL.out.1)).trans H.out.h5;by_cases yo:n<r.kc
  ·have lG:(n:Int)<(r.kc:Int):=by omega
   obtain⟨f,hf⟩:∃f:Nat,f=fr n:=⟨_,rfl⟩;have HFR:Hid (f=fr n):=hf;have UG:f<nC:=by rw[hf];exact(H.out.aE n yo).2
   obtain⟨qb,qo,rfl,c1⟩:=H.out.C HL.out.1 (j:=n*3+1) E0;rw[(H.out.aE n yo).1,<-hf,<-Jm]at c1;have hfi:(f:Int)<(nC:Int):=E0;obtain⟨pn,cn,hnt⟩:=BN (H.out.yJ f UG);have eO:Hid ((Q f).nt=.slice pn (nl f).length cn):=hnt;have e21:wr.cell? ⟨r.Gc,f*26+21,Hn⟩=Gn (.slice pn (nl f).length cn):=(Tn.rat (H.out.R HL.out.1) (n:=f) (i:=21) E0 rfl E0).trans (congrArg Gn hnt);obtain⟨q,hq⟩:∃q,q=(nl f).length:=⟨_,rfl⟩;have HQ:Hid (q=(nl f).length):=hq;rw[<-hq]at e21;have hqb:q<=1000000000:=by rw[hq];exact H.out.bd.2.2 f UG
   clear hf hnt hq;go_wp2_with fail;go_region_held3 (fun W=>W.cell? ⟨r.Kb,4,Hn⟩=Gn (.slice (Gn ⟨r.Gc,0,Hn⟩) nC nC)/\W.cell? ⟨r.Kb,2,Hn⟩=Gn (.slice (Gn ⟨qb,qo,Hn⟩) r.kc cc)/\W.cell? ⟨qb,qo+n*3+1,Hn⟩=Gn (.int .i64 f)/\W.cell? ⟨r.Gc,f*26+21,Hn⟩=Gn (.slice pn q cn)) (go_keep) (fail);go_wp2_with fail;have HD:Hid (BL w r Ls L wr.drew):=HL.out.1.drew;clear k2 k4 k5 c1 e21;generalize wr.drew=wd at *;go_loopw [11] (fun i wr'=>∃(j:Nat)(M:Nat->Ln),j<=q/\i=.int .i64 j/\Hid (BL w r Ls M wr'/\(∀c,c≠n->M c=L c)/\Gv (M n) ((xE n ((nl f).take j)).foldl (Iw (ch (n*3)) F1) (Ls n)))) (fun i _=>q-(intOf i).toNat)
   case atStart=>exact⟨0,L,Pm _,rfl,HD.out,fun _ _=>rfl,by rw[List.take_zero,PV,HL.out.2.2 n (Om _)];exact Gv.refl _⟩
   case round=>
    clear HD;obtain⟨j,M,hj,rfl,HM⟩:=hrel;by_cases hjl:j<q
    ·have gy:(j:Int)<(q:Int):=by omega
     obtain⟨x,hx⟩:∃x,(nl f)[j]?=Gn x:=⟨_,List.getElem?_eq_getElem (by rw[<-HQ.out];exact hjl)⟩;obtain⟨x0,x1⟩:=x;have HX:Hid ((nl f)[j]?=Gn (x0,x1)):=hx;have oH:=H.out.N HM.out.1 UG;rw[eO.out]at oH;obtain⟨gn,rfl⟩:∃gn,pn=Gn ⟨gn,0,Hn⟩:=by
      rcases oH.2 with⟨_,h0⟩|⟨g,cap,Ov,ev,_⟩
      ·have:=HQ.out;omega
      ·injection ev with e1
       exact⟨g,e1⟩
     have n0:=oH.cells (g:=gn) rfl _ _ (YS _ _ _ hx).1;have n1:=oH.cells (g:=gn) rfl _ _ (YS _ _ _ hx).2;rw[Addr.add_lit,Nat.zero_add]at n0 n1;have hgL:gn≠r.Lb:=fun e=>xp oH HM.out.1.row U0 V2;clear oH hx;have HT:Hid (∀M':Nat->Ln,(∀c,c≠n->M' c=M c)->Gv (M' n) (if x0=(n:Int)then Iw (ch (n*3)) F1 (M n) x1 else M n)->(∀c,c≠n->M' c=L c)/\Gv (M' n) ((xE n ((nl f).take (j+1))).foldl (Iw (ch (n*3)) F1) (Ls n))):=fun M' h1 h2=>⟨fun c hc=>(h1 c hc).trans (HM.out.2.1 c hc),by
      rw[P20 HX.out];by_cases e:x0=(n:Int)
      ·rw[if_pos e]at h2;rw[if_pos e,List.foldl_append];have:=E30 (k:=ch (n*3)) (F:=F1) (x:=x1) HM.out.2.2;exact⟨h2.1.trans this.1,h2.2.1.trans this.2.1,h2.2.2.1.trans this.2.2.1,h2.2.2.2.1.trans this.2.2.2.1,h2.2.2.2.2.trans this.2.2.2.2⟩
      ·rw[if_neg e]at h2;rw[if_neg e];have:=HM.out.2.2;exact⟨h2.1.trans this.1,h2.2.1.trans this.2.1,h2.2.2.1.trans this.2.2.1,h2.2.2.2.1.trans this.2.2.2.1,h2.2.2.2.2.trans this.2.2.2.2⟩⟩
     by_cases he:x0=(n:Int)
     ·subst he;have HT2:Hid (∀M':Nat->Ln,(∀c,c≠n->M' c=M c)->Gv (M' n) (Iw (ch (n*3)) F1 (M n) x1)->(∀c,c≠n->M' c=L c)/\Gv (M' n) ((xE n ((nl f).take (j+1))).foldl (Iw (ch (n*3)) F1) (Ls n))):=fun M' h1 h2=>HT.out M' h1 (by rw[if_pos rfl];exact h2);have k2:wr.cell? ⟨r.Kb,2,Hn⟩=Gn (.slice (Gn ⟨qb,qo,Hn⟩) r.kc cc):=(World.cell?_of_block (H.out.K HM.out.1)).trans H.out.h2;obtain⟨qb2,qo2,eq,c0⟩:=H.out.C HM.out.1 (j:=n*3) E0;obtain⟨rfl,rfl⟩:qb=qb2/\qo=qo2:=by injection eq with eq;injection eq with e1 e2;exact⟨e1,e2⟩
      obtain⟨kd,HKD⟩:∃kd,Hid (ch (n*3)=kd):=⟨_,rfl⟩;rw[HKD.out]at c0;clear HT eq;by_cases hk:kd=2
      ·subst hk;have hKL:r.Kb≠r.Lb:=H.out.hK.1;have k6:wr.cell? ⟨r.Kb,6,Hn⟩=Gn (.int .i64 F1):=(World.cell?_of_block (H.out.K HM.out.1)).trans H.out.h6;have l2:=Tn.yX HM.out.1.row (n:=n) (i:=2) (a:=n*5+2) E0 rfl E0;have l3:=Tn.yX HM.out.1.row (n:=n) (i:=3) (a:=n*5+3) E0 rfl E0;have l4:=Tn.yX HM.out.1.row (n:=n) (i:=4) (a:=n*5+4) E0 rfl E0;have f2:=HM.out.1.row.frozen (n*5+2);have f3:=HM.out.1.row.frozen (n*5+3);have f4:=HM.out.1.row.frozen (n*5+4);generalize lB (M n) 2=y2 at *;generalize lB (M n) 3=y3 at *;generalize lB (M n) 4=y4 at *;go_wp2_with fail;exact⟨⟨j+1,Qo M n {M n with shown:=Um,shows:=x1,since:=F1},E0,E1,HM.out.1.WT x1,HT2.out _ (fun c hc=>Oo _ _ hc) (by rw[Yn,HKD.out];exact Gv.refl _)⟩,U1⟩
      ·have jG:(kd==2)=false:=by simpa using hk
       obtain⟨pw,cw,hw⟩:=BN (HM.out.1.own n yo);have HWV:Hid ((M n).wv=.slice pw (M n).ws.length cw):=hw;have l0:wr.cell? ⟨r.Lb,n*5,Hn⟩=Gn (.slice pw (M n).ws.length cw):=(Tn.yX HM.out.1.row (n:=n) (i:=0) (a:=n*5) E0 rfl E0).trans (congrArg Gn hw);obtain⟨sl,HSL⟩:∃sl,Hid ((M n).ws.length=sl):=⟨_,rfl⟩;rw[HSL.out]at l0;clear hw;by_cases yS:sl<4
       ·have hsi:(sl:Int)<4:=by omega
        have rO:Hid (∀o,(wr.alloc o).ownsRow 0 2 1 (.slice pw sl cw) sl (vE (M n).ws)):=fun o=>by
         have:=xo (HM.out.1.own n yo) ((Below.refl _ wr).alloc N8 o);rw[HWV.out,HSL.out]at this;exact Vh
        have hLl:r.Lb<wr.heap.size:=HM.out.1.row.lt;have hgl:gn<wr.heap.size:=Rr n1;have q1:∀o,(wr.alloc o).cell? ⟨r.Lb,n*5,Hn⟩=Gn (.slice pw sl cw):=fun o=>(((Below.refl _ wr).alloc N8 o).cell (p:=⟨r.Lb,n*5,Hn⟩) hLl).trans l0;have q2:∀o,(wr.alloc o).cell? ⟨gn,j*2+1,Hn⟩=Gn (.int .i64 x1):=fun o=>(((Below.refl _ wr).alloc N8 o).cell (p:=⟨gn,j*2+1,Hn⟩) hgl).trans n1;go_wp2_with fail;refine wp_region_noPanic ?_
        go_region_law (refine Br rfl _ _ 51 rfl 0 2 _ 1 8 underlying51 Zt rfl E0 (.slice pw sl cw) sl (vE (M n).ws) rfl O5 wr.heap.size [.int .i64 x1] 2 rfl rfl G2 D2 Y1 E0 E0 ?_;intro g cap w1 kq uo jr Av;have HP:Hid _:=HM.out.1.push (c:=n) (a:=n*5) (x:=x1) (g:=g) (cap:=cap) (o:=.cells #[.int .i64 x1] 2) (w1:=w1) yo (by rw[HWV.out,HSL.out];exact⟨uo.os,uo.tape,uo.output,uo.size,uo.block⟩) (by rw[HSL.out];exact kq) (by rw[HWV.out,HSL.out];exact jr.imp id (fun e=>Z2)) rfl;have v0:w1.cell? ⟨r.Lb,n*5,Hn⟩=Gn _:=Tn.yX HP.out.1 (n:=n) (i:=0) (a:=n*5) E0 rfl E0;have v0f:=HP.out.1.frozen (n*5))
        all_goals
         refine NoPanic.normal ?_;clear kq uo jr Av;have HE:Hid (BL w r Ls (Qo M n {M n with wv:=.slice (Gn ⟨g,0,Hn⟩) (sl+1:Nat) cap,ws:=(M n).ws++[x1]}) (w1.setCell ⟨r.Lb,n*5,Hn⟩ (.slice (Gn ⟨g,0,Hn⟩) (sl+1:Nat) cap))):=by
          have:=HP.out.2;rw[HSL.out]at this;exact Vh
         have HF:Hid (Gv (Qo M n {M n with wv:=.slice (Gn ⟨g,0,Hn⟩) (sl+1:Nat) cap,ws:=(M n).ws++[x1]} n) (Iw (ch (n*3)) F1 (M n) x1)):=by
          show Gv _ _;rw[Yn,HKD.out];unfold Iw;rw[if_neg hk,if_pos (by rw[HSL.out];exact yS)];exact⟨rfl,rfl,rfl,rfl,rfl⟩
         clear HP v0 v0f q1 q2;go_wp2_with fail;exact⟨⟨j+1,_,E0,E1,(by first|exact HE.out|exact HE.out.drew|exact HE.out.drew.drew),HT2.out _ (fun c hc=>Oo _ _ hc) HF.out⟩,U1⟩
       ·have hsi:¬((sl:Int)<4):=by omega
        have l1:wr.cell? ⟨r.Lb,n*5+1,Hn⟩=Gn (.int .i64 (M n).lost):=Tn.yX HM.out.1.row (n:=n) (i:=1) (a:=n*5+1) E0 rfl E0;have f1:=HM.out.1.row.frozen (n*5+1);have HE:Hid (BL w r Ls (Qo M n {M n with lost:=wrap64 ((M n).lost+1)}) (wr.setCell ⟨r.Lb,n*5+1,Hn⟩ (.int .i64 (wrap64 ((M n).lost+1))))):=HM.out.1.set (c:=n) (Tn.ll HM.out.1.row rfl _) rfl rfl;have HF:Hid (Gv (Qo M n {M n with lost:=wrap64 ((M n).lost+1)} n) (Iw (ch (n*3)) F1 (M n) x1)):=by
         show Gv _ _;rw[Yn,HKD.out];unfold Iw;rw[if_neg hk,if_neg (by rw[HSL.out];exact yS),w64];exact Gv.refl _
        generalize (M n).lost=lo at *;go_wp2_with fail;exact⟨⟨j+1,_,E0,E1,HE.out,HT2.out _ (fun c hc=>Oo _ _ hc) HF.out⟩,U1⟩
     ·have mF:(x0==(n:Int))=false:=by simpa using he
      go_wp2_with fail
      exact⟨⟨j+1,M,E0,E1,HM.out.1,HT.out M (fun _ _=>rfl) (by rw[if_neg he];exact Gv.refl _)⟩,U1⟩
    ·obtain rfl:j=q:=by omega
     go_wp2_with fail
     refine⟨⟨n+1,M,E0,E1,HM.out.1,fun c hc=>?_,fun c hc=>?_⟩,U1⟩
     ·by_cases e:c=n
      ·subst e;have:=HM.out.2.2;rw[HQ.out,List.take_length]at this;rw[<-HFR.out];exact Vh
      ·rw[HM.out.2.1 c e];exact HL.out.2.1 c E0
     ·rw[HM.out.2.1 c E0];exact HL.out.2.2 c E0
  ·obtain rfl:n=r.kc:=by omega
   go_wp2_with fail
   exact⟨L,HL.out.1,HL.out.2.1⟩
end
def oL(a b c d e f g h:Dn)(j:Nat):Value:=if j=0 then a else if j=1 then b else if j=2 then c else if j=3 then d else if j=4 then e else if j=5 then f else if j=6 then g else h
theorem Tn.Gg0{w:En}{g0 t:Nat}{a b c d e f g h:Dn}(hr:Tn w g0 8 t (oL a b c d e f g h))(v:Dn):Tn (w.setCell ⟨g0,6,Hn⟩ v) g0 8 t (oL a b c d e f v h)/\Tn (w.setCell ⟨g0,7,Hn⟩ v) g0 8 t (oL a b c d e f g v):=by
 refine⟨(hr.set 6 v).congr ?_,(hr.set 7 v).congr ?_⟩
 all_goals
  intro j hj;have:j=0\/j=1\/j=2\/j=3\/j=4\/j=5\/j=6\/j=7:=E0;rcases this with rfl|rfl|rfl|rfl|rfl|rfl|rfl|rfl<;>rfl
noncomputable def fl0:Code:=O_ (zC (zC (zC (Ry))))
def lL(zi:Nat->Int)(nD m:Nat):List (Int×Int):=((Hm m).map fun j=>(zi (j*2),zi (j*2+1))).filter fun x=>decide (0<=x.1)&&decide (x.1<nD)
theorem I80(zi:Nat->Int)(nD m:Nat):lL zi nD (m+1)=if 0<=zi (m*2)/\zi (m*2)<nD then lL zi nD m++[(zi (m*2),zi (m*2+1))]else lL zi nD m:=by
 unfold lL;rw[List.range_succ,List.map_append,List.filter_append];by_cases h:0<=zi (m*2)/\zi (m*2)<nD
 ·rw[if_pos h];simp[h.1,h.2]
 ·rw[if_neg h];have:(decide (0<=zi (m*2))&&decide (zi (m*2)<nD))=false:=by
   by_cases h1:0<=zi (m*2)
   ·simp[h1];omega
   ·simp[h1]
  simp[this]
theorem d00(zi:Nat->Int)(nD m:Nat):(lL zi nD m).length<=m:=by
 unfold lL;exact Qm (List.length_filter_le _ _) P0
theorem J80:(prog.info? 59).map (fun i=>(i.zero,i.size,i.bytes))=Gn (Gn (.agg #[.int .i64 0,.int .i64 0]),2,16):=J0
structure sO(w0:En)(Kb:Nat)(fK:Dn->Nat->Dn)(inV:Dn)(l:List (Int×Int))(w:En):Prop where
 row:Tn w Kb 8 126 (fK inV)
 own:w.ownsRow 0 59 2 inV l.length (gw l)
 but:Jq (fun j=>j=Kb) w0 w
 blk:∀b,inV.ownBlock=Gn b->w0.heap.size<=b
section
variable {w:En}{r:RK}{ip q3:Option Vm}{il ic nD c3:Nat}{zi:Nat->Int}{k0 k1 k2 k4 k5 k6:Dn}
theorem sO.push{w1 wr:En}{o:Obj}{inV:Dn}{l:List (Int×Int)}{x:Int×Int}{g cap:Nat}(h:sO w r.Kb (oL k0 k1 k2 (.slice q3 nD c3) k4 k5 k6) inV l wr)(hg:(wr.alloc o).grownBy w1 inV.ownBlock)(ho:w1.ownsRow 0 59 2 (.slice (Gn ⟨g,0,Hn⟩) (l.length+1:Nat) cap) (l.length+1) (gw l++[.int .i64 x.1,.int .i64 x.2]))(jr:inV.ownBlock=Gn g\/wr.heap.size<=g):
  Tn w1 r.Kb 8 126 (oL k0 k1 k2 (.slice q3 nD c3) k4 k5 k6 inV)/\sO w r.Kb (oL k0 k1 k2 (.slice q3 nD c3) k4 k5 k6) (.slice (Gn ⟨g,0,Hn⟩) (l.length+1:Nat) cap) (l++[x]) (w1.setCell ⟨r.Kb,7,Hn⟩ (.slice (Gn ⟨g,0,Hn⟩) (l.length+1:Nat) cap)):=by
 have hs:wr.heap.size<=w1.heap.size:=Qm P0 hg.size;have kept:∀b,b<wr.heap.size->inV.ownBlock≠Gn b->w1.heap[b]?=wr.heap[b]?:=fun b hb Yp=>(hg.block b A1 (fun e=>Yp e.symm)).trans (heap_alloc_old wr _ hb);have hK:=xp h.own h.row U0;have hr:=h.row.of_heap (kept _ h.row.lt hK);have gK:g≠r.Kb:=fun e=>by
  rcases jr with x|x
  ·exact hK (by rw[<-e];exact x)
  ·have:=h.row.lt;omega
 refine⟨hr,(Tn.Gg0 hr _).2,?_,⟨hg.os.trans h.but.os,hg.tape.trans h.but.tape,hg.output.trans h.but.output,I6,fun k hk hn=>?_⟩,fun b hb=>?_⟩
 ·rw[xJ,List.length_append];exact Lr ho fun b hb=>yn _ (a:=⟨r.Kb,7,Hn⟩) _ _ (fun e=>gK ((show g=b by simpa[Value.ownBlock]using hb).trans e))
 ·rw[yn _ _ _ _ hn,kept k (Lm hk h.but.size) (fun e=>by have:=h.blk k e;omega)];exact jk
 ·have:g=b:=by simpa[Value.ownBlock]using hb
  subst this;rcases jr with x|x
  ·exact h.blk g x
  ·exact Qm h.but.size x
theorem uj0(hK:Tn w r.Kb 8 126 (oL k0 k1 k2 (.slice q3 nD c3) k4 k5 k6 (.slice Hn 0 0)))(iu:Sl w ip (il*2) (fun j=>.int .i64 (zi j)))(hiK:il=0\/∀b o,ip=Gn ⟨b,o,Hn⟩->b≠r.Kb)(CY:il<=4)(_hnD:nD<=1000){a:Act}(z0:At0 a (.pointer (Gn ⟨r.Kb,0,Hn⟩)))(z1:Wp a 1=.slice ip il ic):
  Code.wp prog fl0 (fun e a' w'=>e=.normal/\(a'.tmps.size=216/\a'.defers=[]/\a'.tmps.toList.getD 0 Bn=.pointer (Gn ⟨r.Kb,0,Hn⟩))/\∃inV,sO w r.Kb (oL k0 k1 k2 (.slice q3 nD c3) k4 k5 k6) inV (lL zi nD il) w') a w:=by
 refine zl ?_;clear z0 z1;have HI:Hid (Sl w ip (il*2) (fun j=>.int .i64 (zi j))/\(il=0\/∀b o,ip=Gn ⟨b,o,Hn⟩->b≠r.Kb)):=⟨iu,hiK⟩;have H0:Hid (sO w r.Kb (oL k0 k1 k2 (.slice q3 nD c3) k4 k5 k6) (.slice Hn 0 0) (lL zi nD 0) w):=⟨hK,World.ownsRow_nil _ _ _ _,Jq.refl _ _,fun b hb=>by cases hb⟩;simp only[fl0,Ry,Tryz.f44,O_,zC];go_wp2_with fail;go_loopw [5] (fun i wr=>∃(j:Nat)(pv:Option Vm)(mv cv:Nat),j<=il/\i=.int .i64 j/\Hid (sO w r.Kb (oL k0 k1 k2 (.slice q3 nD c3) k4 k5 k6) (.slice pv mv cv) (lL zi nD j) wr)/\Hid (mv=(lL zi nD j).length)) (fun i _=>il-(intOf i).toNat)
 case atStart=>exact⟨0,Hn,0,0,Pm _,rfl,H0,rfl⟩
 case round=>
  obtain⟨j,pv,mv,cv,hj,rfl,HW,HMV⟩:=hrel;by_cases yo:j<il
  ·have lG:(j:Int)<(il:Int):=by omega
   obtain⟨b,o,rfl,hc⟩:=HI.out.1.at E0;have hbK:b≠r.Kb:=by
    rcases HI.out.2 with e|e
    ·omega
    ·exact e b o rfl
   have kp:∀i,i<il*2->wr.cell? ⟨b,o+i,Hn⟩=Gn (.int .i64 (zi i)):=fun i hi=>(World.cell?_of_block (HW.out.but.block b (Rr (hc i hi)) hbK)).trans (hc i hi);have d0:=kp (j*2) E0;have d1:=kp (j*2+1) E0;rw[<-Jm]at d1;have x3:wr.cell? ⟨r.Kb,3,Hn⟩=Gn (.slice q3 nD c3):=HW.out.row.cell (j:=3) E0;have hmv:mv<=4:=by have:=HMV.out;have:=d00 zi nD j;omega
   clear hc kp;have HS:=I80 zi nD j;obtain⟨y0,HY0⟩:∃y,Hid (zi (j*2)=y):=⟨_,rfl⟩;obtain⟨y1,HY1⟩:∃y,Hid (zi (j*2+1)=y):=⟨_,rfl⟩;rw[HY0.out]at d0 HS;rw[HY1.out]at d1 HS;by_cases h0:0<=y0
   ·by_cases h1:y0<(nD:Int)
    ·rw[if_pos ⟨h0,h1⟩]at HS;have HSS:=Qp HS;have x7:=HW.out.row.cell (j:=7) E0;have rO:Hid (∀o,(wr.alloc o).ownsRow 0 59 2 (.slice pv mv cv) mv (gw (lL zi nD j))):=fun o=>by
      have:=xo HW.out.own ((Below.refl _ wr).alloc N8 o);rw[<-HMV.out]at this;exact Vh
     go_wp2_with fail
     go_quiet (fail)
     go_wp2_with fail
     have HWd:Hid (sO w r.Kb (oL k0 k1 k2 (.slice q3 nD c3) k4 k5 k6) (.slice pv mv cv) (lL zi nD j) (wr.drewN nq)):=⟨HW.out.row,Lr HW.out.own fun _ _=>rfl,⟨HW.out.but.os,HW.out.but.tape,HW.out.but.output,HW.out.but.size,HW.out.but.block⟩,HW.out.blk⟩;have HOd:Hid (∀o,((wr.drewN nq).alloc o).ownsRow 0 59 2 (.slice pv mv cv) mv (gw (lL zi nD j))):=fun o=>Lr (rO.out o) fun _ _=>rfl;have e7:(wr.drewN nq).cell? ⟨r.Kb,7,Hn⟩=Gn (.slice pv mv cv):=x7;have e0:(wr.drewN nq).cell? ⟨b,o+j*2,Hn⟩=Gn (.int .i64 y0):=d0;have e1:(wr.drewN nq).cell? ⟨b,o+j*2+1,Hn⟩=Gn (.int .i64 y1):=d1;generalize wr.drewN nq=wd at *;have hKl:=Rr e7;have Jv:=Rr e0;have q7:∀o,(wd.alloc o).cell? ⟨r.Kb,7,Hn⟩=Gn (.slice pv mv cv):=fun o=>(((Below.refl _ wd).alloc N8 o).cell (p:=⟨r.Kb,7,Hn⟩) hKl).trans e7;have q0:∀o',(wd.alloc o').cell? ⟨b,o+j*2,Hn⟩=Gn (.int .i64 y0):=fun o'=>(((Below.refl _ wd).alloc N8 o').cell (p:=⟨b,o+j*2,Hn⟩) Jv).trans e0;have q1:∀o',(wd.alloc o').cell? ⟨b,o+j*2+1,Hn⟩=Gn (.int .i64 y1):=fun o'=>(((Below.refl _ wd).alloc N8 o').cell (p:=⟨b,o+j*2+1,Hn⟩) Jv).trans e1;refine wp_region_noPanic ?_
     go_region_law (refine Br rfl _ _ 29 rfl 0 59 _ 2 16 underlying29 J80 rfl E0 (.slice pv mv cv) mv (gw (lL zi nD j)) rfl (by exact HOd.out _) wd.heap.size [.int .i64 y0,.int .i64 y1] 59 rfl rfl G2 D2 Y1 E0 E0 ?_;intro g cap w1 kq uo jr Av;have HP:Hid _:=HWd.out.push (x:=(y0,y1)) (g:=g) (cap:=cap) (o:=.cells #[.int .i64 y0,.int .i64 y1] 59) (w1:=w1) ⟨uo.os,uo.tape,uo.output,uo.size,uo.block⟩ (by rw[<-HMV.out];exact kq) (jr.imp id (fun e=>Z2));have v7:w1.cell? ⟨r.Kb,7,Hn⟩=Gn _:=HP.out.1.cell (j:=7) E0;have v7f:=HP.out.1.frozen 7)
     all_goals
      refine NoPanic.normal ?_;have HE:Hid (sO w r.Kb (oL k0 k1 k2 (.slice q3 nD c3) k4 k5 k6) (.slice (Gn ⟨g,0,Hn⟩) (mv+1:Nat) cap) (lL zi nD (j+1)) (w1.setCell ⟨r.Kb,7,Hn⟩ (.slice (Gn ⟨g,0,Hn⟩) (mv+1:Nat) cap))):=by
       have:=HP.out.2;rw[<-HMV.out,<-HSS.out]at this;exact Vh
      have HE2:Hid (mv+1=(lL zi nD (j+1)).length):=by
       show _=_;rw[HSS.out,List.length_append,<-HMV.out];rfl
      go_wp2_with fail
      exact⟨⟨j+1,_,_,_,E0,E1,(by first|exact HE|exact⟨HE.out.row,Lr HE.out.own fun _ _=>rfl,HE.out.but.drew,HE.out.blk⟩),HE2⟩,U1⟩
    ·rw[if_neg (fun h=>h1 h.2)]at HS;have HE2:Hid (∀d,sO w r.Kb (oL k0 k1 k2 (.slice q3 nD c3) k4 k5 k6) (.slice pv mv cv) (lL zi nD (j+1)) (wr.at d)):=fun d=>by rw[HS];exact Gf
     have HM2:Hid (mv=(lL zi nD (j+1)).length):=by rw[HS];exact HMV
     go_wp2_with fail
     go_quiet (fail)
     go_wp2_with fail
     all_goals exact⟨⟨j+1,_,_,_,E0,E1,HE2.out _,HM2⟩,U1⟩
   ·rw[if_neg (fun h=>h0 h.1)]at HS;have HE2:Hid (∀d,sO w r.Kb (oL k0 k1 k2 (.slice q3 nD c3) k4 k5 k6) (.slice pv mv cv) (lL zi nD (j+1)) (wr.at d)):=fun d=>by rw[HS];exact Gf
    have HM2:Hid (mv=(lL zi nD (j+1)).length):=by rw[HS];exact HMV
    obtain⟨dn,rfl⟩:∃dn:Nat,y0=Int.negSucc dn:=⟨(-y0-1).toNat,E0⟩;go_wp2_with fail;go_quiet (fail);go_wp2_with fail
    all_goals exact⟨⟨j+1,_,_,_,E0,E1,HE2.out _,HM2⟩,U1⟩
  ·obtain rfl:j=il:=by omega
   go_wp2_with fail
   exact⟨_,HW.out⟩
end
noncomputable def Ud0:Code:=O_ (zC (zC (zC (zC (zC (zC (zC (zC (Ry)))))))))
def LC(Q:Nat->RC)(j i:Nat):RC:=if i<j then {Q i with nt:=.slice Hn 0 0}else Q i
theorem i10(Q:Nat->RC)(j:Nat):Qo (LC Q j) j {LC Q j j with nt:=.slice Hn 0 0}=LC Q (j+1):=by
 funext i
 by_cases e:i=j
 ·subst e;rw[Yn];unfold LC;rw[if_neg (Nat.lt_irrefl _),if_pos (Nat.lt_succ_self _)]
 ·refine Xk ?_;unfold LC;by_cases h:i<j
  ·rw[if_pos h,if_pos E0]
  ·rw[if_neg h,if_neg E0]
section
variable {w:En}{r:RK}{Q:Nat->RC}{nC:Nat}
theorem R70(h4:w.cell? ⟨r.Kb,4,Hn⟩=Gn (.slice (Gn ⟨r.Gc,0,Hn⟩) nC nC))(hr:Tn w r.Gc (nC*26) 131 (yq Q))(hK:r.Kb≠r.Gc)(hnC:nC<=1000){a:Act}(z0:At0 a (.pointer (Gn ⟨r.Kb,0,Hn⟩))):
  Code.wp prog Ud0 (fun e a' w'=>e=.normal/\(a'.tmps.size=216/\a'.defers=[]/\a'.tmps.toList.getD 0 Bn=.pointer (Gn ⟨r.Kb,0,Hn⟩))/\Tn w' r.Gc (nC*26) 131 (yq (LC Q nC))/\Jq (fun j=>j=r.Gc) w w') a w:=by
 refine Eh ?_;clear z0;have H:Hid (w.cell? ⟨r.Kb,4,Hn⟩=Gn (.slice (Gn ⟨r.Gc,0,Hn⟩) nC nC)/\r.Kb≠r.Gc):=⟨h4,hK⟩;have H0:Hid (Tn w r.Gc (nC*26) 131 (yq (LC Q 0))/\Jq (fun j=>j=r.Gc) w w):=⟨hr,Jq.refl _ _⟩;clear h4 hr hK;simp only[Ud0,Ry,Tryz.f44,O_,zC];go_wp2_with fail;go_loopw [12] (fun i wr=>∃j:Nat,j<=nC/\i=.int .i64 j/\Hid (Tn wr r.Gc (nC*26) 131 (yq (LC Q j))/\Jq (fun j=>j=r.Gc) w wr)) (fun i _=>nC-(intOf i).toNat)
 case atStart=>exact⟨0,Pm _,rfl,H0⟩
 case round=>
  clear H0;obtain⟨j,hj,rfl,HA⟩:=hrel;have x4:wr.cell? ⟨r.Kb,4,Hn⟩=Gn (.slice (Gn ⟨r.Gc,0,Hn⟩) nC nC):=(World.cell?_of_block (HA.out.2.block r.Kb (Rr H.out.1) H.out.2)).trans H.out.1;by_cases hl:j<nC
  ·have x21:=Tn.rat HA.out.1 (n:=j) (i:=21) E0 rfl E0;have f21:=HA.out.1.frozen (j*26+21);have gy:(j:Int)<(nC:Int):=by omega
   have HE:Hid (Tn (wr.setCell ⟨r.Gc,j*26+21,Hn⟩ (.slice Hn 0 0)) r.Gc (nC*26) 131 (yq (LC Q (j+1)))/\Jq (fun j=>j=r.Gc) w (wr.setCell ⟨r.Gc,j*26+21,Hn⟩ (.slice Hn 0 0))):=⟨by have:=Tn.rn HA.out.1 (n:=j) (a:=j*26+21) rfl (.slice Hn 0 0);rw[i10]at this;exact this,tp HA.out.2 _ _⟩;generalize Ez (LC Q j j) 21=y at *;go_wp2_with fail;exact⟨⟨j+1,E0,E1,HE⟩,U1⟩
  ·obtain rfl:j=nC:=by omega
   go_wp2_with fail
   exact HA.out
end
noncomputable def Vd0:Code:=O_ (zC (zC (zC (zC (zC (Ry))))))
section
variable {w wr:En}{k:RA}{K:Ys}{r:RK}{s:yC}{vs ts gU:Nat->Dn}{nl:Nat->List (Int×Int)}{Ls YL:Nat->Ln}{kind:Nat->Int}{F:Int}{inV:Dn}{il ins:List (Int×Int)}{wn:Nat->Nat×Nat}{d nW cW Wx wo nD:Nat}
theorem Uu.at{Q:Nat->RC}{m:Nat->Nat}{xs:Nat->List Dn}(h:Uu wr k r Q m xs)(e:Nat):Uu (wr.at e) k r Q m xs:=
 ⟨h.h0,h.h4,h.sK,h.sb,h.sc,h.si,h.oh,h.hc,h.hi,h.hl,h.code,h.qV,h.row,h.own,h.Wu,h.g16,h.n48,h.ok,h.fst⟩
theorem lu.at{nC:Nat}{Q:Nat->RC}(h:lu wr nC r Q nl Ls F inV il)(e:Nat):lu (wr.at e) nC r Q nl Ls F inV il:=
 ⟨h.h5,h.h6,h.h7,h.ino,h.row,h.lo,h.own,h.Wu,h.oh,h.yJ,h.qL,h.noh⟩
theorem mX.at(h:mX w gU YL k K r kind s vs ts nl Ls F inV il d wr)(e:Nat):mX w gU YL k K r kind s vs ts nl Ls F inV il d (wr.at e):=
 ⟨h.kn.at e,h.net.at e,h.rel,h.wt,⟨h.but.os,h.but.tape,h.but.output,h.but.size,h.but.block⟩,h.blk,h.tN,h.Dc0,h.dl⟩
theorem Ab0(hF:mX w gU YL k K r kind s vs ts nl Ls F inV il d w)(hS:SOk k s)(lJ:∀i,i<k.nC->k.num i=i)(Io:∀i b,i<k.nC->(gU i).ownBlock=Gn b->r.hi<=b)(sW:du r w Wx)(c0:∀j,j<nW->w.cell? ⟨Wx,wo+j*2,Hn⟩=Gn (.int .i64 (wn j).1))(c1:∀j,j<nW->w.cell? ⟨Wx,wo+j*2+1,Hn⟩=Gn (.int .i64 (wn j).2))(hnW:nW<=1000)(nQ:∀j,j<nW->(wn j).1<k.nC/\(wn j).2<=200)(hm:∀i,s.m i+nW*201+300<=1000000000)
  (hd:d+nW*200+300<=1000000000)(qX:∀i,i<k.nC->tH i kind K.fr nD (k.n i) (k.ci i))(iu:∀N:Int,0<=N->N<nD->Yt il N=Yt ins N)(aE:∀c,c<r.kc->0<=K.fr c)(hFb:0<=F/\F<=1000000000000){a:Act}(z0:At0 a (.pointer (Gn ⟨r.Kb,0,Hn⟩)))(z1:Wp a 6=.slice (Gn ⟨Wx,wo,Hn⟩) nW cW):
  Code.wp prog Vd0 (fun e a' w'=>e=.normal/\(a'.tmps.size=216/\a'.defers=[]/\a'.tmps.toList.getD 0 Bn=.pointer (Gn ⟨r.Kb,0,Hn⟩))/\∃CB ts' nl' EC d',mX w gU YL k K r kind (Hv k K ins wn nW 0 s) CB ts' nl' EC F inV il d' w'/\SOk k (Hv k K ins wn nW 0 s)/\d'<=d+nW*200) a w:=by
 refine zl ?_;clear z0 z1;have H0:Hid (mX w gU YL k K r kind s vs ts nl Ls F inV il d w):=hF;have HSO:Hid (SOk k s):=hS;have HMM:Hid (∀i,s.m i+nW*201+300<=1000000000):=hm;have HC:Hid ((∀i,i<k.nC->k.num i=i)/\(∀j,j<nW->(wn j).1<k.nC/\(wn j).2<=200)/\(∀i,i<k.nC->tH i kind K.fr nD (k.n i) (k.ci i))/\(∀N:Int,0<=N->N<nD->Yt il N=Yt ins N)/\(∀c,c<r.kc->0<=K.fr c)/\0<=F/\F<=1000000000000):=⟨lJ,nQ,qX,iu,aE,hFb⟩;have HW8:Hid (du r w Wx/\(∀j,j<nW->w.cell? ⟨Wx,wo+j*2,Hn⟩=Gn (.int .i64 (wn j).1))/\(∀j,j<nW->w.cell? ⟨Wx,wo+j*2+1,Hn⟩=Gn (.int .i64 (wn j).2))/\∀i b,i<k.nC->(gU i).ownBlock=Gn b->r.hi<=b):=⟨sW,c0,c1,Io⟩;clear hF hS hm lJ nQ qX iu aE hFb sW c0 c1 Io;simp only[Vd0,Ry,Tryz.f44,O_,zC];go_wp2_with fail;go_loopw [7] (fun i wr=>∃(j:Nat)(s':yC)(CB ts':Nat->Dn)(nl':Nat->List (Int×Int))(EC:Nat->Ln)(e:Nat),j<=nW/\i=.int .i64 j/\Hid (Hv k K ins wn (nW-j) j s'=Hv k K ins wn nW 0 s)/\Hid (SOk k s')/\Hid (∀i,s'.m i+(nW-j)*201+300<=1000000000)/\Hid (mX w gU YL k K r kind s' CB ts' nl' EC F inV il e wr)/\e<=d+j*200) (fun i _=>nW-(intOf i).toNat)
 case atStart=>exact⟨0,s,vs,ts,nl,Ls,d,Pm _,rfl,by show Hv k K ins wn (nW-0) 0 s=_;rw[Nat.sub_zero],HSO,by show ∀i,_;simpa using HMM.out,H0,E0⟩
 case round=>
  clear H0 HSO HMM;obtain⟨j,s',CB,ts',nl',EC,e,hj,rfl,HRS,HSS,HM,HF,he⟩:=hrel;by_cases yo:j<nW
  ·have y0:wr.cell? ⟨Wx,wo+j*2,Hn⟩=Gn (.int .i64 (wn j).1):=(World.cell?_of_block (HF.out.stat HW8.out.1 HW8.out.2.2.2)).trans (HW8.out.2.1 j yo);have y1:wr.cell? ⟨Wx,wo+j*2+1,Hn⟩=Gn (.int .i64 (wn j).2):=(World.cell?_of_block (HF.out.stat HW8.out.1 HW8.out.2.2.2)).trans (HW8.out.2.2.1 j yo);obtain⟨hp1,hp2⟩:=HC.out.2.1 j yo;have lG:(j:Int)<(nW:Int):=by omega
   have HFd:Hid (mX w gU YL k K r kind s' CB ts' nl' EC F inV il e wr.drew):=HF.out.at _;have hz:=HSS.out _ hp1;have Y_:=HM.out (wn j).1;have hdl:=HF.out.dl (wn j).1 hp1;have Et:=ZW (p:=Yw k K ins (wn j).1) (wn j).2 (s'.z (wn j).1) s'.D;go_wp2_with fail;go_region_held3 (fun W=>W.cell? ⟨Wx,wo+j*2,Hn⟩=Gn (.int .i64 (wn j).1)/\W.cell? ⟨Wx,wo+j*2+1,Hn⟩=Gn (.int .i64 (wn j).2)) (go_keep)
    (first
     |(go_at_call 74
       refine(tc0 (ins:=ins) (nD:=nD) HFd.out.kn HFd.out.net HFd.out.rel HC.out.2.2.2.2.1 hp1 hz.1 rfl rfl hz.2 (wn j).2 hp2 E0 (HC.out.2.2.1 _ hp1) HC.out.2.2.2.1 E0 HC.out.2.2.2.2.2 HFd.out.wt).mono ?_;rintro e2 wl ⟨rfl,hA⟩;obtain⟨vs2,ts2,nl2,Ls2,Gs⟩:=HFd.out.after hp1 (HC.out.1 _ hp1) HSS.out hA;have HF2:Hid (mX w gU YL k K r kind (jD k K ins (wn j) s') vs2 ts2 nl2 Ls2 F inV il (e+(wn j).2) wl):=Gs;clear hA Gs;have z0:wl.cell? ⟨Wx,wo+j*2,Hn⟩=Gn (.int .i64 (wn j).1):=(World.cell?_of_block (HF2.out.stat HW8.out.1 HW8.out.2.2.2)).trans (HW8.out.2.1 j yo);have z1:wl.cell? ⟨Wx,wo+j*2+1,Hn⟩=Gn (.int .i64 (wn j).2):=(World.cell?_of_block (HF2.out.stat HW8.out.1 HW8.out.2.2.2)).trans (HW8.out.2.2.1 j yo)))
   go_wp2_with fail
   refine⟨⟨j+1,jD k K ins (wn j) s',vs2,ts2,nl2,Ls2,e+(wn j).2,E0,E1,?_,?_,?_,HF2,E0⟩,U1⟩
   ·show Hv k K ins wn (nW-(j+1)) (j+1) (jD k K ins (wn j) s')=_;have:=HRS.out;rw[show nW-j=(nW-(j+1))+1 by omega]at this;exact Vh
   ·exact HSS.out.win HF.out.kn.ok hp1
   ·show ∀i,Qo s'.m (wn j).1 _ i+(nW-(j+1))*201+300<=1000000000;intro i;have hi:=HM.out i;by_cases e:i=(wn j).1
    ·rw[e,Yn];rw[e]at hi;have FY:(nW-(j+1))*201+201=(nW-j)*201:=by omega
     omega
    ·refine Xk ?_;omega
  ·obtain rfl:j=nW:=by omega
   have hs:s'=Hv k K ins wn j 0 s:=by
    have:=HRS.out;rw[Nat.sub_self]at this;exact Vh
   have HFE:Hid (mX w gU YL k K r kind (Hv k K ins wn j 0 s) CB ts' nl' EC F inV il e wr/\SOk k (Hv k K ins wn j 0 s)):=by rw[<-hs];exact⟨HF.out,HSS.out⟩
   clear HF HSS hs HRS HM;go_wp2_with fail;exact⟨CB,ts',nl',EC,e,HFE.out.1,HFE.out.2,he⟩
end
theorem D30(zi:Nat->Int)(nD m:Nat)(N:Int)(h0:0<=N)(h1:N<nD):Yt (lL zi nD m) N=Yt ((Hm m).map fun j=>(zi (j*2),zi (j*2+1))) N:=by
 unfold Yt lL;rw[List.find?_filter];have:(fun a:Int×Int=>decide ((decide (0<=a.1)&&decide (a.1<(nD:Int)))=Um/\(a.1==N)=Um))=fun a=>a.1==N:=by
  funext a
  by_cases e:a.1=N
  ·simp[e,h0,h1]
  ·have:(a.1==N)=false:=by simpa using e
   simp[this]
 rw[this]
noncomputable def rf2:Code:=O_ (zC (zC (Ry)))
noncomputable def rf4:Code:=O_ (zC (zC (zC (zC (Ry)))))
noncomputable def rf6:Code:=O_ (zC (zC (zC (zC (zC (zC (Ry)))))))
section
variable {w:En}{r:RK}{tb Au nT cT Wx wo nW cW fr:Nat}{k0 k2 k3 k4 k5 k7:Dn}
theorem Xe0(hK:Tn w r.Kb 8 126 (oL k0 (.slice (Gn ⟨tb,Au,Hn⟩) nT cT) k2 k3 k4 k5 (.int .i64 fr) k7))(Ir:w.cell? ⟨tb,Au+fr%nT,Hn⟩=Gn (.slice (Gn ⟨Wx,wo,Hn⟩) nW cW))(hnT:1<=nT)(jk0:nT<=1000)(aE:fr<=1000000000000){a:Act}(z0:At0 a (.pointer (Gn ⟨r.Kb,0,Hn⟩))):
  Code.wp prog rf4 (fun e a' w'=>e=.normal/\(a'.tmps.size=216/\a'.defers=[]/\a'.tmps.toList.getD 0 Bn=.pointer (Gn ⟨r.Kb,0,Hn⟩)/\a'.tmps.toList.getD 6 Bn=.slice (Gn ⟨Wx,wo,Hn⟩) nW cW)/\∃d,w'=w.at d) a w:=by
 refine Eh ?_;clear z0;have x1:w.cell? ⟨r.Kb,1,Hn⟩=Gn (.slice (Gn ⟨tb,Au,Hn⟩) nT cT):=hK.cell (j:=1) E0;have x6:w.cell? ⟨r.Kb,6,Hn⟩=Gn (.int .i64 fr):=hK.cell (j:=6) E0;have yx0:fr%nT<nT:=Nat.mod_lt _ E0;have hnz:¬((nT:Int)=0):=E0;clear hK;simp only[rf4,Ry,Tryz.f44,O_,zC];go_wp2_with fail;go_quiet (fail);go_wp2_with fail;exact⟨_,rfl⟩
theorem Bb0{ip:Option Vm}{il ic:Nat}{fK:Nat->Dn}(hK:Tn w r.Kb 8 126 fK){a:Act}(z0:At0 a (.pointer (Gn ⟨r.Kb,0,Hn⟩)))(z1:Wp a 1=.slice ip il ic):
  Code.wp prog rf2 (fun e a' w'=>e=.normal/\(a'.tmps.size=216/\a'.defers=[]/\a'.tmps.toList.getD 0 Bn=.pointer (Gn ⟨r.Kb,0,Hn⟩)/\a'.tmps.toList.getD 1 Bn=.slice ip il ic)/\w'=w.setCell ⟨r.Kb,7,Hn⟩ (.slice Hn 0 0)) a w:=by
 refine zl ?_;clear z0 z1;have x7:=hK.cell (j:=7) E0;have f7:=hK.frozen 7;clear hK;simp only[rf2,Ry,Tryz.f44,O_,zC];go_wp2_with fail
theorem zb0(hK:Tn w r.Kb 8 126 (oL k0 (.slice (Gn ⟨tb,Au,Hn⟩) nT cT) k2 k3 k4 k5 (.int .i64 fr) k7))(aE:fr<=1000000000000){a:Act}(z0:At0 a (.pointer (Gn ⟨r.Kb,0,Hn⟩))):
  Code.wp prog rf6 (fun e a' w'=>e=.normal/\(a'.tmps.size=216/\a'.defers=[]/\a'.tmps.toList.getD 0 Bn=.pointer (Gn ⟨r.Kb,0,Hn⟩))/\w'=w.setCell ⟨r.Kb,6,Hn⟩ (.int .i64 ((fr:Int)+1))) a w:=by
 refine Eh ?_;clear z0;have x6:w.cell? ⟨r.Kb,6,Hn⟩=Gn (.int .i64 fr):=hK.cell (j:=6) E0;have f6:=hK.frozen 6;clear hK;simp only[rf6,Ry,Tryz.f44,O_,zC];go_wp2_with fail
end
structure FX(k:RA)(r:RK):Prop where
 b:r.bo≠r.Kb
 c:∀i,i<k.nC->r.cb i≠r.Kb
 i:∀i,i<k.nC->∀b o,r.iq i=Gn ⟨b,o,Hn⟩->b≠r.Kb
section
variable {w w':En}{k:RA}{r:RK}{Q:Nat->RC}{m:Nat->Nat}{xs:Nat->List Dn}{nC:Nat}{nl:Nat->List (Int×Int)}{Ls L:Nat->Ln}{F F':Int}{inV uz:Dn}{il il':List (Int×Int)}{fK:Nat->Dn}
theorem Uu.kb(h:Uu w k r Q m xs)(ha:FX k r)(hb:Jq (fun j=>j=r.Kb) w w')(c0:w'.cell? ⟨r.Kb,0,Hn⟩=w.cell? ⟨r.Kb,0,Hn⟩)(c4:w'.cell? ⟨r.Kb,4,Hn⟩=w.cell? ⟨r.Kb,4,Hn⟩)(hK:Tn w r.Kb 8 126 fK):Uu w' k r Q m xs:=by
 have kk:∀{b:Nat},du r w b->b≠r.Kb->w'.heap[b]?=w.heap[b]?:=fun hs Yp=>hb.block _ hs.lt Yp;have to:∀{b:Nat},du r w b->du r w' b:=fun hs=>hs.to hb.size;refine⟨c0.trans h.h0,c4.trans h.h4,to h.sK,to h.sb,fun i hi=>to (h.sc i hi),fun i hi b o e=>to (h.si i hi b o e),h.oh,
  fun i hi=>(Zn (a:=⟨r.bo,r.oo+i*3,Hn⟩) (kk h.sb ha.b)).trans (h.hc i hi),fun i hi=>(Zn (a:=⟨r.bo,r.oo+i*3+1,Hn⟩) (kk h.sb ha.b)).trans (h.hi i hi),fun i hi=>(Zn (a:=⟨r.bo,r.oo+i*3+2,Hn⟩) (kk h.sb ha.b)).trans (h.hl i hi),
  fun i hi j hj=>(Zn (a:=⟨r.cb i,r.co i+j,Hn⟩) (kk (h.sc i hi) (ha.c i hi))).trans (h.code i hi j hj),fun i hi=>?_,h.row.of_heap (hb.block _ h.row.lt (fun e=>h.sK.2.1.1 e.symm)),fun i hi=>Lr (h.own i hi) fun b Xq=>hb.block b (Qv (h.own i hi) Xq) (fun e=>xp (h.own i hi) hK U0 (by rw[<-e];exact Xq)),h.Wu,h.g16,h.n48,h.ok,h.fst⟩
 rcases h.qV i hi with e|⟨b,o,e,hc⟩
 ·exact .inl e
 ·exact .inr ⟨b,o,e,fun j hj=>(Zn (a:=⟨b,o+j,Hn⟩) (kk (h.si i hi b o e) (ha.i i hi b o e))).trans (hc j hj)⟩
theorem lu.kb(h:lu w nC r Q nl Ls F inV il)(hb:Jq (fun j=>j=r.Kb) w w')(hK:Tn w r.Kb 8 126 fK)(h5:w'.cell? ⟨r.Kb,5,Hn⟩=w.cell? ⟨r.Kb,5,Hn⟩)(h6:w'.cell? ⟨r.Kb,6,Hn⟩=Gn (.int .i64 F'))(h7:w'.cell? ⟨r.Kb,7,Hn⟩=Gn uz)(ino:w'.ownsRow 0 59 2 uz il'.length (gw il'))(hl:il'.length<=1000):lu w' nC r Q nl Ls F' uz il':=by
 have ty:∀{b e s n2:Nat}{v:Dn}{ys:List Dn},w.ownsRow b e s v n2 ys->e≠126->w'.ownsRow b e s v n2 ys:=fun ho h1=>Lr ho fun g hg=>hb.block g (Qv ho hg) (fun e=>xp ho hK h1 l5);exact⟨h5.trans h.h5,h6,h7,ino,h.row.of_heap (hb.block _ h.row.lt h.lo.2.2.1),⟨h.lo.1,h.lo.2.1,h.lo.2.2.1,h.lo.2.2.2.1,hl⟩,fun c hc=>ty (h.own c hc) U0,h.Wu,h.oh,fun i hi=>ty (h.yJ i hi) U0,h.qL,h.noh⟩
section
variable (h:Uu w k r Q m xs)(hN:lu w k.nC r Q nl Ls F inV il)
include h hN
theorem Uu.lines(hl:BL w r Ls L w'):Uu w' k r Q m xs/\lu w' k.nC r Q nl L F inV il:=by
 have ns:∀{b:Nat},du r w b->w'.heap[b]?=w.heap[b]?:=fun {b} hs=>hl.but.block _ hs.lt (fun e=>by
  rcases e with e|⟨c,hc,e⟩
  ·exact hs.2.1.2 e
  ·exact hs.yz (fun b=>hN.oh c b hc) e)
 have to:∀{b:Nat},du r w b->du r w' b:=fun hs=>hs.to hl.but.size;have ty:∀{b e s n2:Nat}{v:Dn}{ys:List Dn},w.ownsRow b e s v n2 ys->e≠175->e≠2->w'.ownsRow b e s v n2 ys:=fun ho h1 h2=>Lr ho fun g hg=>hl.but.block g (Qv ho hg) (fun e=>by
  rcases e with e|⟨c,hc,e⟩
  ·exact xp ho hN.row h1 l5
  ·exact ED ho (hN.own c hc) h2 hg e)
 have kG:w'.heap[r.Gc]?=w.heap[r.Gc]?:=hl.but.block _ h.row.lt (fun e=>by
  rcases e with e|⟨c,hc,e⟩
  ·exact hN.lo.2.1 e.symm
  ·exact xp (hN.own c hc) h.row U0 e)
 refine⟨⟨(Zn (a:=⟨r.Kb,0,Hn⟩) (ns h.sK)).trans h.h0,(Zn (a:=⟨r.Kb,4,Hn⟩) (ns h.sK)).trans h.h4,to h.sK,to h.sb,fun i hi=>to (h.sc i hi),fun i hi b o e=>to (h.si i hi b o e),h.oh,
  fun i hi=>(Zn (a:=⟨r.bo,r.oo+i*3,Hn⟩) (ns h.sb)).trans (h.hc i hi),fun i hi=>(Zn (a:=⟨r.bo,r.oo+i*3+1,Hn⟩) (ns h.sb)).trans (h.hi i hi),fun i hi=>(Zn (a:=⟨r.bo,r.oo+i*3+2,Hn⟩) (ns h.sb)).trans (h.hl i hi),
  fun i hi j hj=>(Zn (a:=⟨r.cb i,r.co i+j,Hn⟩) (ns (h.sc i hi))).trans (h.code i hi j hj),fun i hi=>?_,h.row.of_heap kG,fun i hi=>ty (h.own i hi) U0 U0,h.Wu,h.g16,h.n48,h.ok,h.fst⟩,
  ⟨(Zn (a:=⟨r.Kb,5,Hn⟩) (ns h.sK)).trans hN.h5,(Zn (a:=⟨r.Kb,6,Hn⟩) (ns h.sK)).trans hN.h6,(Zn (a:=⟨r.Kb,7,Hn⟩) (ns h.sK)).trans hN.h7,ty hN.ino U0 U0,hl.row,hN.lo,hl.own,hl.ne,fun c b hc hb=>?_,fun i hi=>ty (hN.yJ i hi) U0 U0,hN.qL,hN.noh⟩⟩
 ·rcases h.qV i hi with e|⟨b,o,e,hc⟩
  ·exact .inl e
  ·exact rh
 ·rcases hl.blk c b hc hb with x|x
  ·exact hN.oh c b hc x
  ·exact Qm h.sK.2.2 x
theorem Uu.cleared(hb:Jq (fun j=>j=r.Gc) w w')(hr:Tn w' r.Gc (k.nC*26) 131 (yq (LC Q k.nC))):Uu w' k r (LC Q k.nC) m xs/\lu w' k.nC r (LC Q k.nC) (fun _=>[]) Ls F inV il:=by
 have ns:∀{b:Nat},du r w b->w'.heap[b]?=w.heap[b]?:=fun {b} hs=>hb.block _ hs.lt hs.2.1.1;have to:∀{b:Nat},du r w b->du r w' b:=fun hs=>hs.to hb.size;have ty:∀{b e s n2:Nat}{v:Dn}{ys:List Dn},w.ownsRow b e s v n2 ys->e≠131->w'.ownsRow b e s v n2 ys:=fun ho h1=>Lr ho fun g hg=>hb.block g (Qv ho hg) (fun e=>xp ho h.row h1 l5);have q:∀i,(LC Q k.nC i).v=(Q i).v/\(LC Q k.nC i).z=(Q i).z:=fun i=>by unfold LC;split<;>exact⟨rfl,rfl⟩
 have qn:∀i,i<k.nC->(LC Q k.nC i).nt=.slice Hn 0 0:=fun i hi=>by unfold LC;rw[if_pos hi]
 refine⟨⟨(Zn (a:=⟨r.Kb,0,Hn⟩) (ns h.sK)).trans h.h0,(Zn (a:=⟨r.Kb,4,Hn⟩) (ns h.sK)).trans h.h4,to h.sK,to h.sb,fun i hi=>to (h.sc i hi),fun i hi b o e=>to (h.si i hi b o e),fun i b hi=>by rw[(q i).1];exact h.oh i b hi,
  fun i hi=>(Zn (a:=⟨r.bo,r.oo+i*3,Hn⟩) (ns h.sb)).trans (h.hc i hi),fun i hi=>(Zn (a:=⟨r.bo,r.oo+i*3+1,Hn⟩) (ns h.sb)).trans (h.hi i hi),fun i hi=>(Zn (a:=⟨r.bo,r.oo+i*3+2,Hn⟩) (ns h.sb)).trans (h.hl i hi),
  fun i hi j hj=>(Zn (a:=⟨r.cb i,r.co i+j,Hn⟩) (ns (h.sc i hi))).trans (h.code i hi j hj),fun i hi=>?_,hr,fun i hi=>by rw[(q i).1];exact ty (h.own i hi) U0,fun i j hi hj Yp b=>by rw[(q i).1,(q j).1];exact h.Wu i j hi hj Yp b,h.g16,h.n48,h.ok,fun i hi j=>by rw[(q i).2];exact h.fst i hi j⟩,
  ⟨(Zn (a:=⟨r.Kb,5,Hn⟩) (ns h.sK)).trans hN.h5,(Zn (a:=⟨r.Kb,6,Hn⟩) (ns h.sK)).trans hN.h6,(Zn (a:=⟨r.Kb,7,Hn⟩) (ns h.sK)).trans hN.h7,ty hN.ino U0,hN.row.of_heap (hb.block _ hN.row.lt hN.lo.2.1),hN.lo,fun c hc=>ty (hN.own c hc) U0,hN.Wu,hN.oh,fun i hi=>by rw[qn i hi];exact World.ownsRow_nil _ _ _ _,fun i j hi hj Yp b Dx=>(by rw[qn i hi]at Dx;cases Dx),fun i b hi Dx=>(by rw[qn i hi]at Dx;cases Dx)⟩⟩
 rcases h.qV i hi with e|⟨b,o,e,hc⟩
 ·exact .inl e
 ·exact rh
end
end
theorem xP(Kb:Nat)(ip:Option Vm)(il ic:Nat)(w:En)(h:4<il):
  Zm prog 44 #[.pointer (Gn ⟨Kb,0,Hn⟩),.slice ip il ic] w fun e w'=>e=.returned (.int .i64 6)/\w'=w:=by
 go_enter func44,ntmps44
 exact Td
def ad0(w:En)(vs:Nat->Dn)(Ls:Nat->Ln)(w':En)(k:RA)(K:Ys)(r:RK)(kind:Nat->Int)(s1:yC)(F1:Int)(il:List (Int×Int))(kf:Dn->Nat->Dn):Prop:=∃CB EC uz,Uu w' k r (JD s1 CB (fun _=>.slice Hn 0 0)) s1.m s1.xs/\lu w' k.nC r (JD s1 CB (fun _=>.slice Hn 0 0)) (fun _=>[]) EC F1 uz il/\Ns r.kc kind K.fr (fun _=>[]) EC F1 s1.D/\Yv r.kc s1.D/\SOk k s1/\Tn w' r.Kb 8 126 (kf uz)/\Jq (fun j=>(j=r.Kb\/j=r.Gc\/j=r.Lb)\/(∃i,i<k.nC/\(vs i).ownBlock=Gn j)\/∃c,c<r.kc/\(Ls c).wv.ownBlock=Gn j) w w'/\(∀i b,i<k.nC->(CB i).ownBlock=Gn b->(vs i).ownBlock=Gn b\/w.heap.size<=b)/\(∀c b,c<r.kc->(EC c).wv.ownBlock=Gn b->(Ls c).wv.ownBlock=Gn b\/w.heap.size<=b)/\∀b,uz.ownBlock=Gn b->w.heap.size<=b
section
variable {w:En}{k:RA}{K:Ys}{r:RK}{kind:Nat->Int}{s:yC}{vs:Nat->Dn}{Ls:Nat->Ln}{fr:Nat}{Jk0:Dn}{il0:List (Int×Int)}{tb Au nT cT Wx wo nW cW cc nD c3 il ic:Nat}{qc q3 ip:Option Vm}{zi ch:Nat->Int}{wn:Nat->Nat×Nat}
theorem R90{W W':En}{p:Option Vm}{n:Nat}{f:Nat->Dn}(h:Sl W p n f)(hk:∀b o,p=Gn ⟨b,o,Hn⟩->W'.heap[b]?=W.heap[b]?):Sl W' p n f:=by
 rcases h with h|⟨b,o,e,hc⟩
 ·exact .inl h
 ·exact .inr ⟨b,o,e,fun j hj=>(World.cell?_of_block (hk b o e)).trans (hc j hj)⟩
theorem Uu.Oe0{Q Q':Nat->RC}{m:Nat->Nat}{xs:Nat->List Dn}(h:Uu w k r Q m xs)(e:∀i,i<k.nC->Q' i=Q i):Uu w k r Q' m xs:=
 ⟨h.h0,h.h4,h.sK,h.sb,h.sc,h.si,fun i b hi=>by rw[e i hi];exact h.oh i b hi,h.hc,h.hi,h.hl,h.code,h.qV,h.row.congr fun j hj=>by unfold yq;rw[e (j/26) E0],fun i hi=>by rw[e i hi];exact h.own i hi,fun i j hi hj Yp b=>by rw[e i hi,e j hj];exact h.Wu i j hi hj Yp b,h.g16,h.n48,h.ok,fun i hi j=>by rw[e i hi];exact h.fst i hi j⟩
theorem lu.Oe0{nC:Nat}{Q Q':Nat->RC}{nl:Nat->List (Int×Int)}{F:Int}{inV:Dn}{l:List (Int×Int)}(h:lu w nC r Q nl Ls F inV l)(e:∀i,i<nC->Q' i=Q i):lu w nC r Q' nl Ls F inV l:=
 ⟨h.h5,h.h6,h.h7,h.ino,h.row,h.lo,h.own,h.Wu,h.oh,fun i hi=>by rw[e i hi];exact h.yJ i hi,fun i j hi hj Yp b=>by rw[e i hi,e j hj];exact h.qL i j hi hj Yp b,fun i b hi=>by rw[e i hi];exact h.noh i b hi⟩
theorem y90(oK:Uu w k r (JD s vs (fun _=>.slice Hn 0 0)) s.m s.xs)(ZH:lu w k.nC r (JD s vs (fun _=>.slice Hn 0 0)) (fun _=>[]) Ls fr Jk0 il0)(hrel:Ns r.kc kind K.fr (fun _=>[]) Ls fr s.D)(RY:Yv r.kc s.D)(hS:SOk k s)(ha:FX k r)(hkK:K.k=r.kc)(lJ:∀i,i<k.nC->k.num i=i)
  (hK:Tn w r.Kb 8 126 (oL (.slice (Gn ⟨r.bo,r.oo,Hn⟩) k.nC r.cq) (.slice (Gn ⟨tb,Au,Hn⟩) nT cT) (.slice qc r.kc cc) (.slice q3 nD c3) (.slice (Gn ⟨r.Gc,0,Hn⟩) k.nC k.nC) (.slice (Gn ⟨r.Lb,0,Hn⟩) r.kc r.kc) (.int .i64 fr) Jk0))(st:du r w tb)(htK:tb≠r.Kb)(Ir:w.cell? ⟨tb,Au+fr%nT,Hn⟩=Gn (.slice (Gn ⟨Wx,wo,Hn⟩) nW cW))(sW:du r w Wx)(hwK:Wx≠r.Kb)(c0:∀j,j<nW->w.cell? ⟨Wx,wo+j*2,Hn⟩=Gn (.int .i64 (wn j).1))(c1:∀j,j<nW->w.cell? ⟨Wx,wo+j*2+1,Hn⟩=Gn (.int .i64 (wn j).2))
  (nH:Sl w qc (r.kc*3) (fun j=>.int .i64 (ch j)))(hqs:∀b o,qc=Gn ⟨b,o,Hn⟩->du r w b/\b≠r.Kb)(hkf:∀c,c<r.kc->kind c=ch (c*3)/\K.fr c=ch (c*3+1)/\0<=K.fr c/\K.fr c<k.nC)
  (iu:Sl w ip (il*2) (fun j=>.int .i64 (zi j)))(hiK:il=0\/∀b o,ip=Gn ⟨b,o,Hn⟩->b≠r.Kb)(CY:il<=4)(hnD:nD<=1000)(hnT:1<=nT)(jk0:nT<=1000)(aE:fr<=100000000000)(hnW:nW<=1000)(nQ:∀j,j<nW->(wn j).1<k.nC/\(wn j).2<=200)(hnC:k.nC<=1000)(hm:∀i,s.m i+nW*201+300<=1000000000)(qX:∀i,i<k.nC->tH i kind K.fr nD (k.n i) (k.ci i)):
  Zm prog 44 #[.pointer (Gn ⟨r.Kb,0,Hn⟩),.slice ip il ic] w fun e w'=>e=.returned (.int .i64 0)/\ad0 w vs Ls w' k K r kind (bA k K wn nW ((Hm il).map fun j=>(zi (j*2),zi (j*2+1))) s) ((fr:Int)+1) (lL zi nD il) (oL (.slice (Gn ⟨r.bo,r.oo,Hn⟩) k.nC r.cq) (.slice (Gn ⟨tb,Au,Hn⟩) nT cT) (.slice qc r.kc cc) (.slice q3 nD c3) (.slice (Gn ⟨r.Gc,0,Hn⟩) k.nC k.nC) (.slice (Gn ⟨r.Lb,0,Hn⟩) r.kc r.kc) (.int .i64 ((fr:Int)+1))):=by
 go_enter func44,ntmps44
 go_upto_region 3 with fail
 refine Code.wp_mono (fun e a' w' h=>?_) (Bb0 (ip:=ip) (il:=il) (ic:=ic) hK ⟨rfl,rfl,rfl⟩ rfl);obtain⟨rfl,⟨y1,y2,y3,z1⟩,rfl⟩:=h;refine ‹∀(a:Act)(w:En),Code.wp _ _ _ a w->_› _ _ ?_;have z0:At0 a' _:=⟨y1,y2,y3⟩;have hB7:Jq (fun j=>j=r.Kb) w (w.setCell ⟨r.Kb,7,Hn⟩ (.slice Hn 0 0)):=tp j9 _ _;have hK7:=(Tn.Gg0 hK (.slice Hn 0 0)).2;have Cp0:Sl (w.setCell ⟨r.Kb,7,Hn⟩ (.slice Hn 0 0)) ip (il*2) (fun j=>.int .i64 (zi j)):=by
  rcases iu with e|⟨b,o,e,hc⟩
  ·exact .inl e
  ·rcases hiK with e0|hiK
   ·exact .inl E0
   ·exact .inr ⟨b,o,e,fun j hj=>(World.cell?_of_block (yn _ _ _ _ (hiK b o e))).trans (hc j hj)⟩
 generalize w.setCell ⟨r.Kb,7,Hn⟩ (.slice Hn 0 0)=w7 at *;refine wp_seq (Code.wp_mono (fun e a' w8 h=>?_) (uj0 hK7 Cp0 hiK CY hnD z0 z1));obtain⟨rfl,z0,inV,hI⟩:=h;refine(?_:Code.wp _ _ _ a' w8);have hB8:=hB7.trans hI.but (fun _ x=>x) (fun _ _ x=>x);have hK8:=hI.row;have kn8:=oK.kb ha hB8 ((hK8.cell (j:=0) E0).trans (hK.cell (j:=0) E0).symm) ((hK8.cell (j:=4) E0).trans (hK.cell (j:=4) E0).symm) hK;have vq0:=ZH.kb hB8 hK ((hK8.cell (j:=5) E0).trans (hK.cell (j:=5) E0).symm) (hK8.cell (j:=6) E0) (hK8.cell (j:=7) E0) hI.own (by have:=d00 zi nD il;omega);refine wp_seq (Code.wp_mono (fun e a' w9 h=>?_) (Xe0 hK8 ((World.cell?_of_block (hB8.block tb st.lt htK)).trans Ir) hnT jk0 E0 z0));obtain⟨rfl,⟨y1,y2,y3,z1⟩,d9,rfl⟩:=h;refine(?_:Code.wp _ _ _ a' _);have z0:At0 a' _:=⟨y1,y2,y3⟩;have hF9:mX (w8.at d9) vs Ls k K r kind s vs (fun _=>.slice Hn 0 0) (fun _=>[]) Ls fr inV (lL zi nD il) 0 (w8.at d9):=⟨kn8.at d9,vq0.at d9,hrel,RY,Jq.refl _ _,fun _ _ _ x=>.inl x,fun _ _ _ x=>(by cases x),fun _ _ _ x=>.inl x,fun _ _=>Om _⟩;have hB9:Jq (fun j=>j=r.Kb) w (w8.at d9):=⟨hB8.os,hB8.tape,hB8.output,hB8.size,hB8.block⟩;have hK9:Tn (w8.at d9) r.Kb 8 126 (oL (.slice (Gn ⟨r.bo,r.oo,Hn⟩) k.nC r.cq) (.slice (Gn ⟨tb,Au,Hn⟩) nT cT) (.slice qc r.kc cc) (.slice q3 nD c3) (.slice (Gn ⟨r.Gc,0,Hn⟩) k.nC k.nC) (.slice (Gn ⟨r.Lb,0,Hn⟩) r.kc r.kc) (.int .i64 fr) inV):=hK8;have kp0:∀b,inV.ownBlock=Gn b->w.heap.size<=b:=fun b hb=>Qm hB7.size (hI.blk b hb);generalize w8.at d9=w9 at *;have Io:∀i b,i<k.nC->(vs i).ownBlock=Gn b->r.hi<=b:=fun i b hi hb=>oK.oh i b hi hb;refine wp_seq (Code.wp_mono (fun e a2 wW h=>?_) (Ab0 (ins:=((Hm il).map fun j=>(zi (j*2),zi (j*2+1)))) (nD:=nD) hF9 hS lJ Io (sW.to hB9.size) (fun j hj=>(World.cell?_of_block (hB9.block Wx sW.lt hwK)).trans (c0 j hj)) (fun j hj=>(World.cell?_of_block (hB9.block Wx sW.lt hwK)).trans (c1 j hj)) hnW nQ hm E0 qX (fun N h0 h1=>D30 zi nD il N h0 h1) (fun c hc=>(hkf c hc).2.2.1) E0 z0 z1));obtain⟨rfl,z0,vsW,tsW,nlW,LsW,dW,nX,hSW,hdW⟩:=h;refine(?_:Code.wp _ _ _ a2 _);have hsK:=hF9.kn.sK;have hKW:=hK9.of_heap (nX.stat hsK Io);refine wp_seq (Code.wp_mono (fun e a3 wX h=>?_) (zb0 hKW E0 z0));obtain⟨rfl,z0,rfl⟩:=h;refine(?_:Code.wp _ _ _ a3 _);have hBX:Jq (fun j=>j=r.Kb) wW (wW.setCell ⟨r.Kb,6,Hn⟩ (.int .i64 ((fr:Int)+1))):=tp j9 _ _;have hKX:=(Tn.Gg0 hKW (.int .i64 ((fr:Int)+1))).1;have knX:=nX.kn.kb ha hBX ((hKX.cell (j:=0) E0).trans (hKW.cell (j:=0) E0).symm) ((hKX.cell (j:=4) E0).trans (hKW.cell (j:=4) E0).symm) hKW;have JV:=nX.net.kb (F':=(fr:Int)+1) hBX hKW ((hKX.cell (j:=5) E0).trans (hKW.cell (j:=5) E0).symm) (hKX.cell (j:=6) E0) (hKX.cell (j:=7) E0) (Lr nX.net.ino fun b hb=>hBX.block b (Qv nX.net.ino hb) (fun e=>xp nX.net.ino hKW U0 G4)) nX.net.lo.2.2.2.2;have Pk0:∀b,du r w b->b≠r.Kb->(wW.setCell ⟨r.Kb,6,Hn⟩ (.int .i64 ((fr:Int)+1))).heap[b]?=w.heap[b]?:=fun b hs Yp=>(yn _ _ _ _ Yp).trans ((nX.stat (hs.to hB9.size) Io).trans (hB9.block b hs.lt Yp));generalize wW.setCell ⟨r.Kb,6,Hn⟩ (.int .i64 ((fr:Int)+1))=wX at *;have hLS:LnS wX r LsW (JD (Hv k K ((Hm il).map fun j=>(zi (j*2),zi (j*2+1))) wn nW 0 s) vsW tsW) nlW ch (fun c=>(K.fr c).toNat) qc cc k.nC ((fr:Int)+1):=⟨hKX.cell (j:=2) E0,hKX.cell (j:=4) E0,hKX.cell (j:=5) E0,hKX.cell (j:=6) E0,R90 nH fun b o e=>Pk0 b (hqs b o e).1 (hqs b o e).2,fun b o e=>⟨(hqs b o e).1.2.1.2,fun c hc=>(hqs b o e).1.yz (fun b=>JV.oh c b hc)⟩,⟨knX.sK.2.1.2,fun c hc=>knX.sK.yz (fun b=>JV.oh c b hc)⟩,knX.row,⟨Jq.refl _ _,JV.row,JV.own,JV.Wu,fun _ _ _ x=>.inl x⟩,JV.yJ,fun c hc=>by
  obtain⟨-,e1,e2,e3⟩:=hkf c hc;exact⟨by rw[<-e1];show _=((K.fr c).toNat:Int);omega,E0⟩,⟨JV.lo.2.2.2.1,hnC,fun i hi=>by have:=nX.dl i hi;omega⟩⟩
 refine wp_seq (Code.wp_mono (fun e a4 wY h=>?_) (S70 hLS z0));obtain⟨rfl,z0,L,hL,Bj0⟩:=h;refine(?_:Code.wp _ _ _ a4 _);obtain⟨knY,wq0⟩:=knX.lines JV hL;have hKY:=hKX.of_heap (hLS.K hL);have Bq0:=rZ nX.rel E0 (fun c hc=>by rw[(hkf c hc).1];exact Bj0 c hc);refine wp_seq (Code.wp_mono (fun e a5 wZ h=>?_) (R70 knY.h4 knY.row knY.sK.2.1.1 hnC z0));obtain⟨rfl,z0,hrZ,hbZ⟩:=h;refine(?_:Code.wp _ _ _ a5 _);rw[QE a5 z0.1 z0.2.1];obtain⟨knZ,xq0⟩:=knY.cleared wq0 hbZ hrZ;have hKZ:=hKY.of_heap (hbZ.block _ hKY.lt knY.sK.2.1.1);have eQ:∀i,i<k.nC->JD (bA k K wn nW ((Hm il).map fun j=>(zi (j*2),zi (j*2+1))) s) vsW (fun _=>.slice Hn 0 0) i=LC (JD (Hv k K ((Hm il).map fun j=>(zi (j*2),zi (j*2+1))) wn nW 0 s) vsW tsW) k.nC i:=fun i hi=>by
  unfold LC;rw[if_pos hi];rfl
 have eD:(bA k K wn nW ((Hm il).map fun j=>(zi (j*2),zi (j*2+1))) s).D=MH r.kc (Hv k K ((Hm il).map fun j=>(zi (j*2),zi (j*2+1))) wn nW 0 s).D:=by
  show MH K.k _=_;rw[hkK]
 have nq0:Yv r.kc (bA k K wn nW ((Hm il).map fun j=>(zi (j*2),zi (j*2+1))) s).D:=by
  rw[eD];exact fun i hi=>(KU nX.wt i hi).2
 have hBE:Jq (fun j=>(j=r.Kb\/j=r.Gc\/j=r.Lb)\/(∃i,i<k.nC/\(vs i).ownBlock=Gn j)\/∃c,c<r.kc/\(Ls c).wv.ownBlock=Gn j) w wZ:=by
  refine(((hB9.trans nX.but (fun _ x=>.inl (.inl x)) (fun j hj x=>?_)).trans hBX (fun _ x=>x) (fun j hj x=>.inl (.inl x))).trans hL.but (fun _ x=>x) (fun j hj x=>?_)).trans hbZ (fun _ x=>x) (fun j hj x=>.inl (.inr (.inl x)))
  ·rcases x with (x|x)|x
   ·exact .inl (.inr (.inl x))
   ·exact .inl (.inr (.inr x))
   ·exact .inr (.inl x)
  ·rcases x with x|⟨c,hc,x⟩
   ·exact .inl (.inr (.inr x))
   ·rcases nX.Dc0 c j hc x with x|x
    ·exact .inr (.inr ⟨c,hc,x⟩)
    ·have:=hB9.size;omega
 have hwX:=Qm hB9.size (Qm nX.but.size hBX.size);have hDN:ad0 w vs Ls wZ k K r kind (bA k K wn nW ((Hm il).map fun j=>(zi (j*2),zi (j*2+1))) s) ((fr:Int)+1) (lL zi nD il) (oL (.slice (Gn ⟨r.bo,r.oo,Hn⟩) k.nC r.cq) (.slice (Gn ⟨tb,Au,Hn⟩) nT cT) (.slice qc r.kc cc) (.slice q3 nD c3) (.slice (Gn ⟨r.Gc,0,Hn⟩) k.nC k.nC) (.slice (Gn ⟨r.Lb,0,Hn⟩) r.kc r.kc) (.int .i64 ((fr:Int)+1))):=⟨vsW,L,inV,knZ.Oe0 eQ,xq0.Oe0 eQ,by rw[eD];exact Bq0,nq0,hSW,hKZ,hBE,fun i b hi hb=>(nX.blk i b hi hb).imp id (Qm hB9.size),fun c b hc hb=>by
  rcases hL.blk c b hc hb with x|x
  ·exact(nX.Dc0 c b hc x).imp id (Qm hB9.size)
  ·exact .inr (Qm hwX x),kp0⟩
 go_wp2_with fail
 go_ret;exact⟨rfl,hDN⟩
end
def wE(c:Ur)(k i:Nat):RC:=if i<k then ⟨Az (c.lim i) (c.Hq i) (c.img i),0,.slice Hn 0 0,Tm,.slice Hn 0 0⟩else ⟨fun _=>0,0,.slice Hn 0 0,Tm,.slice Hn 0 0⟩
theorem tQ(c:Ur)(k:Nat)(h16:c.Hq k<=16)(j:Nat):yq (Qo (wE c k) k {wE c k k with z:=ZB (c.Hq k) (c.img k) (wE c k k).z,nt:=.slice Hn 0 0}) j=yq (wE c (k+1)) j:=by
 unfold yq;by_cases e:j/26=k
 ·rw[e,Yn];have e1:wE c k k=⟨fun _=>0,0,.slice Hn 0 0,Tm,.slice Hn 0 0⟩:=if_neg (Nat.lt_irrefl _);have e2:wE c (k+1) k=⟨Az (c.lim k) (c.Hq k) (c.img k),0,.slice Hn 0 0,Tm,.slice Hn 0 0⟩:=if_pos (Nat.lt_succ_self _);rw[e1,e2];refine qB (c:=⟨fun _=>0,0,.slice Hn 0 0,Tm,.slice Hn 0 0⟩) (fun i hi=>?_) _;unfold ZB Az;by_cases h:25<=i/\i<46
  ·rw[if_pos h];by_cases h2:29<=i/\i<29+c.Hq k
   ·rw[if_pos h2,if_neg (show ¬i=3 by omega),if_neg E0]
   ·rw[if_neg h2,if_neg (show ¬i=3 by omega),if_neg E0]
  ·rw[if_neg h,if_neg E0,if_neg E0,if_neg E0]
 ·refine Xk ?_;have:wE c k (j/26)=wE c (k+1) (j/26):=by
   unfold wE;by_cases h:j/26<k
   ·rw[if_pos h,if_pos E0]
   ·rw[if_neg h,if_neg E0]
  rw[this]
theorem z90(A:En)(t:Nat)(a b c d e f g h:Dn)(G:Nat)(hG:A.heap.size=G):Tn (A.alloc (.cells #[a,b,c,d,e,f,g,h] t)).drew G 8 t (oL a b c d e f g h):=by
 subst hG;exact Tn.new A #[a,b,c,d,e,f,g,h] t _ (fun j hj=>by
  have:j=0\/j=1\/j=2\/j=3\/j=4\/j=5\/j=6\/j=7:=by simp at hj;omega
  rcases this with rfl|rfl|rfl|rfl|rfl|rfl|rfl|rfl<;>rfl)
def uK:Ln:=⟨.slice Hn 0 0,[],0,Tm,0,0⟩
theorem dX(j:Nat):(Value.agg #[.slice Hn 0 0,.int .i64 0,.bool Tm,.int .i64 0,.int .i64 0]).cells[j%(Value.agg #[.slice Hn 0 0,.int .i64 0,.bool Tm,.int .i64 0,.int .i64 0]).cells.size]! = eu (fun _=>uK) j:=by
 show (#[Value.slice Hn 0 0,.int .i64 0,.bool Tm,.int .i64 0,.int .i64 0]:Array Dn)[j%5]! = lB uK (j%5);have h:j%5<5:=Nat.mod_lt _ E0;generalize j%5=i at h;have:i=0\/i=1\/i=2\/i=3\/i=4:=E0;rcases this with rfl|rfl|rfl|rfl|rfl<;>rfl
def J60(c:Ur)(w:En)(o0 o1 o2 o3:Dn)(kb Gc L:Nat)(w':En):Prop:=
 w.heap.size<=kb/\w.heap.size<=Gc/\kb≠Gc/\Tn w' kb 8 126 (oL o0 o1 o2 o3 (.slice (Gn ⟨Gc,0,Hn⟩) c.nC c.nC) (.slice (Gn ⟨L,0,Hn⟩) c.Zo c.Zo) (.int .i64 0) (.slice Hn 0 0))/\Tn w' Gc (c.nC*26) 131 (yq (wE c c.nC))/\w.heap.size<=L/\L≠Gc/\L≠kb/\Tn w' L (c.Zo*5) 175 (eu fun _=>uK)
theorem jU(c:Ur)(j:Nat):(Value.agg #[.int .i64 0,.int .i64 0,.int .i64 0,.int .i64 0,.int .i64 0,.int .i64 0,.int .i64 0,.int .i64 0,.int .i64 0,.int .i64 0,.int .i64 0,.int .i64 0,.int .i64 0,.int .i64 0,.int .i64 0,.int .i64 0,.int .i64 0,.int .i64 0,.int .i64 0,.int .i64 0,.int .i64 0,.slice Hn 0 0,.slice Hn 0 0,.int .i64 0,.int .i64 0,.bool Tm]).cells[j%(Value.agg #[.int .i64 0,.int .i64 0,.int .i64 0,.int .i64 0,.int .i64 0,.int .i64 0,.int .i64 0,.int .i64 0,.int .i64 0,.int .i64 0,.int .i64 0,.int .i64 0,.int .i64 0,.int .i64 0,.int .i64 0,.int .i64 0,.int .i64 0,.int .i64 0,.int .i64 0,.int .i64 0,.int .i64 0,.slice Hn 0 0,.slice Hn 0 0,.int .i64 0,.int .i64 0,.bool Tm]).cells.size]! = yq (wE c 0) j:=by
 have e1:wE c 0 (j/26)=⟨fun _=>0,0,.slice Hn 0 0,Tm,.slice Hn 0 0⟩:=if_neg (Nat.not_lt_zero _);unfold yq;rw[e1];show (#[Value.int .i64 0,.int .i64 0,.int .i64 0,.int .i64 0,.int .i64 0,.int .i64 0,.int .i64 0,.int .i64 0,.int .i64 0,.int .i64 0,.int .i64 0,.int .i64 0,.int .i64 0,.int .i64 0,.int .i64 0,.int .i64 0,.int .i64 0,.int .i64 0,.int .i64 0,.int .i64 0,.int .i64 0,.slice Hn 0 0,.slice Hn 0 0,.int .i64 0,.int .i64 0,.bool Tm]:Array Dn)[j%26]! = _;have h:j%26<26:=Nat.mod_lt _ E0;generalize j%26=i at h;have:i=0\/i=1\/i=2\/i=3\/i=4\/i=5\/i=6\/i=7\/i=8\/i=9\/i=10\/i=11\/i=12\/i=13\/i=14\/i=15\/i=16\/i=17\/i=18\/i=19\/i=20\/i=21\/i=22\/i=23\/i=24\/i=25:=E0;rcases this with rfl|rfl|rfl|rfl|rfl|rfl|rfl|rfl|rfl|rfl|rfl|rfl|rfl|rfl|rfl|rfl|rfl|rfl|rfl|rfl|rfl|rfl|rfl|rfl|rfl|rfl<;>rfl
theorem FT(c:Ur)(o0 o1 o2 o3:Dn)(B:Nat)(w:En)(hl:YA w c B o0 o1 o2 o3)(h16:∀i,i<c.nC->c.Hq i<=16)(h6:c.nC<=6)(h8:c.Zo<=8)(pU:1<=c.nC)(zu:c.aA=Um->c.Zo=0)(JL:c.Vz=Um->c.nD=0)(hzi:∀i,i<c.nC->c.Vt i=Um->c.Hq i=0):
  Zm prog 42 #[.agg #[o0,o1,o2,o3]] w fun e w'=>∃kb Gc L,e=.returned (.pointer (Gn ⟨kb,0,Hn⟩))/\Sm w.heap.size w w'/\J60 c w o0 o1 o2 o3 kb Gc L w':=by
 obtain⟨cb,rb,Jv,YB,q0,NI,q1,fQ,hi,eG,rfl,lq0,zq0,sU,rfl,lq1,zq1,sq1,rfl,rfl,iu,jQ,hB2,Ir,aN,nH,hdv,hh1,hh2,hh3⟩:=hl.ex;obtain⟨q2,cq2,e2⟩:∃q cc,Gp c.aA Jv c.Zo=.slice q c.Zo cc:=jy _ _ _ zu;obtain⟨q3,cq3,e3⟩:∃q cc,Gp c.Vz YB c.nD=.slice q c.nD cc:=jy _ _ _ JL;obtain⟨bo,oo,rfl,hq⟩:=sU.at E0;obtain⟨M1,hM1,hMC,FY⟩:=rJ (P:=prog) 123 131 _ 26 240 c.nC underlying123 ZY E0 E0;obtain⟨M2,hM2,hML,hm2⟩:=rJ (P:=prog) 124 175 _ 5 56 c.Zo underlying124 aZ E0 E0;rw[e2,e3];have HQ:=Qp hq;have HI:=Qp iu;have H16:=Qp h16;have HM1:=Qp hM1;have HMC:Hid (∀j,j<c.nC*26->M1[j]?=Gn (yq (wE c 0) j)):=fun j hj=>by rw[hMC j hj];exact congrArg Gn (jU c j)
 have HM2:=Qp hM2;have HML:Hid (∀j,j<c.Zo*5->M2[j]?=Gn ((eu fun _=>uK) j)):=fun j hj=>by rw[hML j hj];exact congrArg Gn (dX j)
 have HZI:=Qp hzi;have hbo:bo<w.heap.size:=by
  have:=Wm (hq 0 E0);exact Vh
 go_enter func42,ntmps42
 go_wp2_with fail
 go_region_held3 (fun W=>W.cell? ⟨w.heap.size,0,Hn⟩=Gn (.slice (Gn ⟨bo,oo,Hn⟩) c.nC NI)/\W.cell? ⟨w.heap.size,1,Hn⟩=Gn (.slice q1 c.nT fQ)/\W.cell? ⟨w.heap.size,2,Hn⟩=Gn (.slice q2 c.Zo cq2)/\W.cell? ⟨w.heap.size,3,Hn⟩=Gn (.slice q3 c.nD cq3)) (go_keep) (fail)
 ·go_wp2_with fail
  go_loopw [4] (fun i wr=>∃k:Nat,k<=c.nC/\i=.int .i64 k/\Hid (Sm w.heap.size w wr)/\Hid (wr.cell? ⟨w.heap.size,0,Hn⟩=Gn (.slice (Gn ⟨bo,oo,Hn⟩) c.nC NI))/\Hid (Tn wr (w.heap.size+1+1+1) 8 126 (oL (.slice (Gn ⟨bo,oo,Hn⟩) c.nC NI) (.slice q1 c.nT fQ) (.slice q2 c.Zo cq2) (.slice q3 c.nD cq3) (.slice (Gn ⟨w.heap.size+1,0,Hn⟩) c.nC c.nC) (.slice (Gn ⟨w.heap.size+1+1,0,Hn⟩) c.Zo c.Zo) (.int .i64 0) (.slice Hn 0 0)))/\Hid (Tn wr (w.heap.size+1) (c.nC*26) 131 (yq (wE c k)))/\Hid (Tn wr (w.heap.size+1+1) (c.Zo*5) 175 (eu fun _=>uK))) (fun i _=>c.nC-(intOf i).toNat)
  case atStart=>
   refine⟨0,Pm _,rfl,?_,?_,?_,?_,?_⟩
   ·exact Wh
   ·show _=_;simp[go_sem]
   ·exact z90 _ _ _ _ _ _ _ _ _ _ _ P0
   ·exact((A90 (A:=w.alloc _) P0 HM1.out HMC.out).alloc _).alloc _
   ·exact(A90 (A:=(w.alloc _).alloc _) P0 HM2.out HML.out).alloc _
  case round=>
   obtain⟨k,hk,rfl,HB,X0,HKb,HR,HL⟩:=hrel;have x0:=X0.out;by_cases yo:k<c.nC
   ·have c1:=(HB.out.cell (p:=⟨bo,oo+(k*3+1),Hn⟩) hbo).trans (HQ.out (k*3+1) E0);obtain⟨-,ef,-⟩:=Qx c cb k;rw[ef,<-Jm]at c1;obtain⟨qi,ci,e1,yS,hqb⟩:∃qi ci,Gp (c.Vt k) (cb k+1) (c.Hq k)=.slice qi (c.Hq k) ci/\Sl wr qi (c.Hq k) (fun j=>.int .i64 (c.img k j))/\∀b o,qi=Gn ⟨b,o,Hn⟩->b<w.heap.size:=mN (HI.out.img k yo) HB.out (HZI.out k yo);rw[e1]at c1;go_wp2_with fail;refine(aF (w.heap.size+1+1+1) (w.heap.size+1) k c.nC NI bo oo (c.Hq k) ci 131 qi (c.img k) (wE c k) _ (HKb.out.cell (j:=0) E0) (HKb.out.cell (j:=4) E0) c1 yS HR.out yo (H16.out k yo) E0 E0 (fun b o h=>by have:=hqb b o h;omega)).mono ?_;exact Qa
   ·obtain rfl:k=c.nC:=by omega
    go_wp2_with fail
    go_ret;exact⟨w.heap.size+1+1+1,w.heap.size+1,w.heap.size+1+1,rfl,HB.out,E0,E0,E0,HKb.out,HR.out,E0,E0,E0,HL.out⟩
 ·go_wp2_with fail
  go_loopw [4] (fun i wr=>∃k:Nat,k<=c.nC/\i=.int .i64 k/\Hid (Sm w.heap.size w wr)/\Hid (wr.cell? ⟨w.heap.size,0,Hn⟩=Gn (.slice (Gn ⟨bo,oo,Hn⟩) c.nC NI))/\Hid (Tn wr (w.heap.size+1+1+1) 8 126 (oL (.slice (Gn ⟨bo,oo,Hn⟩) c.nC NI) (.slice q1 c.nT fQ) (.slice q2 c.Zo cq2) (.slice q3 c.nD cq3) (.slice (Gn ⟨w.heap.size+1+1,0,Hn⟩) c.nC c.nC) (.slice (Gn ⟨w.heap.size+1,0,Hn⟩) c.Zo c.Zo) (.int .i64 0) (.slice Hn 0 0)))/\Hid (Tn wr (w.heap.size+1+1) (c.nC*26) 131 (yq (wE c k)))/\Hid (Tn wr (w.heap.size+1) (c.Zo*5) 175 (eu fun _=>uK))) (fun i _=>c.nC-(intOf i).toNat)
  case atStart=>
   refine⟨0,Pm _,rfl,?_,?_,?_,?_,?_⟩
   ·exact Wh
   ·show _=_;simp[go_sem]
   ·exact z90 _ _ _ _ _ _ _ _ _ _ _ P0
   ·exact(A90 (A:=(w.alloc _).alloc _) P0 HM1.out HMC.out).alloc _
   ·exact((A90 (A:=w.alloc _) P0 HM2.out HML.out).alloc _).alloc _
  case round=>
   obtain⟨k,hk,rfl,HB,X0,HKb,HR,HL⟩:=hrel;have x0:=X0.out;by_cases yo:k<c.nC
   ·have c1:=(HB.out.cell (p:=⟨bo,oo+(k*3+1),Hn⟩) hbo).trans (HQ.out (k*3+1) E0);obtain⟨-,ef,-⟩:=Qx c cb k;rw[ef,<-Jm]at c1;obtain⟨qi,ci,e1,yS,hqb⟩:∃qi ci,Gp (c.Vt k) (cb k+1) (c.Hq k)=.slice qi (c.Hq k) ci/\Sl wr qi (c.Hq k) (fun j=>.int .i64 (c.img k j))/\∀b o,qi=Gn ⟨b,o,Hn⟩->b<w.heap.size:=mN (HI.out.img k yo) HB.out (HZI.out k yo);rw[e1]at c1;go_wp2_with fail;refine(aF (w.heap.size+1+1+1) (w.heap.size+1+1) k c.nC NI bo oo (c.Hq k) ci 131 qi (c.img k) (wE c k) _ (HKb.out.cell (j:=0) E0) (HKb.out.cell (j:=4) E0) c1 yS HR.out yo (H16.out k yo) E0 E0 (fun b o h=>by have:=hqb b o h;omega)).mono ?_;exact Qa
   ·obtain rfl:k=c.nC:=by omega
    go_wp2_with fail
    go_ret;exact⟨w.heap.size+1+1+1,w.heap.size+1+1,w.heap.size+1,rfl,HB.out,E0,E0,E0,HKb.out,HR.out,E0,E0,E0,HL.out⟩
end Go.Proofs.YtdoghgnifkgfdaaGreat.Mute
