import Derived.Test.YtdoghgnifkgfdaaGreatP05
set_option maxRecDepth 100000
set_option maxHeartbeats 4000000
namespace Go.Proofs.YtdoghgnifkgfdaaGreat
open Go.RowKit
def Zi (w:World) (c:Cfg) (B:Nat) (cb rb:Nat→Nat) (hb db:Nat) (p0:Option Addr) (cap0:Nat) (p1:Option Addr) (cap1 hi hi2:Nat) (v0 v1 v2 v3:Value):Prop:=
 v0=.slice p0 c.nC cap0∧c.nC≤cap0∧(p0=none→c.nC=0∧cap0=0)∧Sl w p0 (c.nC*3) (Yy c cb)∧
  v1=.slice p1 c.nT cap1∧c.nT≤cap1∧(p1=none→c.nT=0∧cap1=0)∧Sl w p1 c.nT (fun i=>Y6 false (rb i) (c.nRow i))∧
  v2=Y6 c.chN hb c.nCh∧v3=Y6 c.dvN db c.nD∧YJ w c c.nC B hi cb∧B≤hi∧hi≤hi2∧
  (∀i,i<c.nT→Inn w false (rb i) (c.nRow i) 2 (c.row i)∧hi≤rb i∧rb i<hi2)∧(∀i j,i<j→j<c.nT→rb i<rb j)∧
  Inn w c.chN hb c.nCh 3 c.ch∧Inn w c.dvN db c.nD 1 c.dv∧(c.chN=false→hi2≤hb)∧(c.dvN=false→hi2≤db)∧(c.chN=false→c.dvN=false→hb<db)
theorem X5.ws {w:World} {c:Cfg} {B:Nat} {v0 v1 v2 v3:Value} (h:X5 w c B v0 v1 v2 v3):∃cb rb hb db p0 cap0 p1 cap1 hi hi2,Zi w c B cb rb hb db p0 cap0 p1 cap1 hi hi2 v0 v1 v2 v3:=h.ex
def SRX (c:Cfg) (cb rb:Nat→Nat) (hbl dbl j:Nat):Prop:=SR c cb rb c.nT j∨(c.chN=false∧j=hbl)∨(c.dvN=false∧j=dbl)
theorem Y9O (c:Cfg) (v0 v1 v2 v3 o0 o1 o2 o3:Value) (w0 w:World) (h:CfgR w0 v0 v1 v2 v3 c) (hb:Below w0.heap.size w0 w) (cb rb:Nat→Nat) (hbl dbl:Nat) (q0:Option Addr) (cq0:Nat) (q1:Option Addr) (cq1 hi hi2:Nat) (hl:Zi w c w0.heap.size cb rb hbl dbl q0 cq0 q1 cq1 hi hi2 o0 o1 o2 o3):
  Calls Tryz.prog 40 #[.agg #[o0,o1,o2,o3],.agg #[v0,v1,v2,v3]] w fun e w'=>e=.returned (.bool true)∧Below w0.heap.size w0 w'∧But (SRX c cb rb hbl dbl) w w':=by
 obtain ⟨rfl,lq0,zq0,sq0,rfl,lq1,zq1,sq1,rfl,rfl,hin,hB1,hB2,hrow,hord,hch,hdv,hh1,hh2,hh3⟩:=hl;obtain ⟨⟨p0,cap0,F0,rfl,-,n0,z0,b0,s0,k0⟩,⟨p1,cap1,F1,rfl,-,n1,z1,b1,s1,k1⟩,k2,k3⟩:=h;have S0:Hid (Sl w0 p0 (c.nC*3) F0):=s0;have K0:Hid (∀i,i<c.nC→SlZ w0 (F0 (i*3)) (c.codeN i) (c.nCode i) 4 (c.code i) 32∧SlZ w0 (F0 (i*3+1)) (c.imgN i) (c.nImg i) 1 (c.img i) 8∧F0 (i*3+2)=.int .i64 (c.lim i)):=k0;have S1:Hid (Sl w0 p1 c.nT F1):=s1;have K1:Hid (∀i,i<c.nT→SlZ w0 (F1 i) (c.rowN i) (c.nRow i) 2 (c.row i) 16):=k1;have K2:Hid (SlZ w0 v2 c.chN c.nCh 3 c.ch 24):=k2;have K3:Hid (SlZ w0 v3 c.dvN c.nD 1 c.dv 8):=k3;have hb0:c.nC≤2513169434916:=by omega
 have hb1:c.nT≤5864062014805:=by omega
 have HBL:Hid (Below w0.heap.size w0 w):=hb;have hw0:w0.heap.size≤w.heap.size:=hb.size;have Q0:Hid (Sl w q0 (c.nC*3) (Yy c cb)):=sq0;have Q1:Hid (Sl w q1 c.nT (fun i=>Y6 false (rb i) (c.nRow i))):=sq1;have HI:Hid (YJ w c c.nC w0.heap.size hi cb):=hin;have HRW:Hid (∀i,i<c.nT→Inn w false (rb i) (c.nRow i) 2 (c.row i)∧hi≤rb i∧rb i<hi2):=hrow;have HOR:Hid (∀i j,i<j→j<c.nT→rb i<rb j):=hord;have HCH:Hid (Inn w c.chN hbl c.nCh 3 c.ch):=hch;have HDV:Hid (Inn w c.dvN dbl c.nD 1 c.dv):=hdv;have HHH:Hid ((c.chN=false→hi2≤hbl)∧(c.dvN=false→hi2≤dbl)∧(c.chN=false→c.dvN=false→hbl<dbl)):=⟨hh1,hh2,hh3⟩;clear s0 k0 s1 k1 k2 k3 n0 z0 n1 z1 b0 b1 hb sq0 sq1 hin hrow hord hch hdv hh1 hh2 hh3 lq0 lq1 zq0 zq1
 go_enter Tryz.func40,Tryz.ntmps40
 go_wp2_with fail
 go_loopw [5,6] (fun o i wr=>∃k:Nat,k≤c.nC∧i=.int .i64 k∧o=.bool true∧Hid (But (SC c cb k) w wr)∧Hid (RowF wr w.heap.size 4 28 (Yc (.slice q0 c.nC cq0) (.slice q1 c.nT cq1) (Y6 c.chN hbl c.nCh) (Y6 c.dvN dbl c.nD)))∧Hid (RowF wr (w.heap.size+1) 4 28 (Yc (.slice p0 c.nC cap0) (.slice p1 c.nT cap1) v2 v3))) (fun _ i _=>c.nC-(intOf i).toNat)
 case atStart=>
  refine ⟨0,Nat.zero_le _,rfl,rfl,But.of_below (((Below.refl _ _).alloc (Nat.le_refl _) _).alloc (by simp) _) _,(row4 _ _ _ _ _ _).alloc _,?_⟩;have:=row4 (w.alloc (.cells #[.slice q0 c.nC cq0,.slice q1 c.nT cq1,Y6 c.chN hbl c.nCh,Y6 c.dvN dbl c.nD] 28)) (.slice p0 c.nC cap0) (.slice p1 c.nT cap1) v2 v3 28;show RowF _ _ _ _ _;simpa using this
 case round=>
  obtain ⟨k,hk,rfl,rfl,HBT,HO,HC⟩:=hrel;obtain ⟨x0,-,-,-⟩:=HO.out.at4;obtain ⟨y0,-,-,-⟩:=HC.out.at4;have hSlo:Hid (∀k j,k≤c.nC→SC c cb k j→w0.heap.size≤j∧j<hi):=fun k j hk ⟨i,hi,h⟩=>by
   have:=HI.out.lo i (by omega);omega
  by_cases hlt:k<c.nC
  ·obtain ⟨bo,oo,rfl,hq⟩:=Q0.out.at (by omega);have hq0F:∃p n cc,Yy c cb 0=.slice p n cc:=by
    obtain ⟨e,-,-⟩:=XP c cb 0;simp only [Nat.zero_mul] at e;rw [e];unfold Y6;split
    ·exact ⟨_,_,_,rfl⟩
    ·exact ⟨_,_,_,rfl⟩
   have nS1:∀i,i<c.nC→c.codeN i=false→bo≠cb i:=fun i hi hn=>by
    obtain ⟨ty,hr⟩:=HI.out.code i hi hn;exact Ze hq (by omega) hq0F hr
   have nS2:∀i,i<c.nC→c.imgN i=false→bo≠cb i+1:=fun i hi hn=>by
    obtain ⟨ty,hr⟩:=HI.out.img i hi hn;exact Ze hq (by omega) hq0F hr
   have nS:¬SC c cb k bo:=fun ⟨i,hi,h⟩=>by
    rcases h with ⟨hn,e⟩|⟨hn,e⟩
    ·exact nS1 i (by omega) hn e
    ·exact nS2 i (by omega) hn e
   have o0:=HBT.out.cell (hq (k*3) (by omega)) nS;have o1:=HBT.out.cell (hq (k*3+1) (by omega)) nS;obtain ⟨ef0,ef1,-⟩:=XP c cb k;rw [ef0] at o0;rw [ef1,←Nat.add_assoc] at o1;have HBr:Hid (Below w0.heap.size w0 wr):=HBT.out.below HBL.out (fun j hj=>(hSlo.out k j hk hj).1);obtain ⟨b,off,rfl,hc⟩:=(S0.out.below HBr.out).at (by omega);have c0:=hc (k*3) (by omega);have c1:=hc (k*3+1) (by omega);rw [←Nat.add_assoc] at c1;have hbw:b<w0.heap.size:=by
    obtain ⟨b',off',e,hc'⟩:=S0.out.at (by omega);simp only [Option.some.injEq,Addr.mk.injEq] at e;have:=block_lt_of_cell (hc' 0 (by omega));simp only at this;omega
   have lok:=HI.out.lo k hlt;have lt1:Hid (c.codeN k=false→cb k<w.heap.size):=fun hn=>by
    obtain ⟨ty,hr⟩:=HI.out.code k hlt hn;exact hr.lt
   have lt2:Hid (c.imgN k=false→cb k+1<w.heap.size):=fun hn=>by
    obtain ⟨ty,hr⟩:=HI.out.img k hlt hn;exact hr.lt
   have HIc:Hid (Inn wr (c.codeN k) (cb k) (c.nCode k) 4 (c.code k)):=(HI.out.code k hlt).keep (fun hn=>HBT.out.block _ (lt1.out hn) (fun ⟨i,hi,h⟩=>by have:=HI.out.ord i k hi hlt;omega));have HIi:Hid (Inn wr (c.imgN k) (cb k+1) (c.nImg k) 1 (c.img k)):=(HI.out.img k hlt).keep (fun hn=>HBT.out.block _ (lt2.out hn) (fun ⟨i,hi,h⟩=>by have:=HI.out.ord i k hi hlt;omega));obtain ⟨sz0,sz1,-⟩:=K0.out k hlt;have SZ0:Hid (SlZ wr (F0 (k*3)) (c.codeN k) (c.nCode k) 4 (c.code k) 32):=sz0.keep (Zc HBr.out);have SZ1:Hid (SlZ w0 (F0 (k*3+1)) (c.imgN k) (c.nImg k) 1 (c.img k) 8):=sz1;generalize F0 (k*3)=u0 at *;generalize F0 (k*3+1)=u1 at *;have nA1:¬(c.codeN k=false∧w.heap.size=cb k):=fun ⟨hn,e⟩=>by have:=lt1.out hn;omega
   have nA2:¬(c.codeN k=false∧w.heap.size+1=cb k):=fun ⟨hn,e⟩=>by have:=lt1.out hn;omega
   have nA3:¬(c.codeN k=false∧bo=cb k):=fun ⟨hn,e⟩=>nS1 k hlt hn e;have nA4:¬(c.codeN k=false∧b=cb k):=fun ⟨hn,e⟩=>by omega
   have HNA:Hid (_∧_∧_∧_):=⟨nA1,nA2,nA3,nA4⟩;have HNB:Hid (¬(c.imgN k=false∧bo=cb k+1)):=fun ⟨hn,e⟩=>nS2 k hlt hn e;clear hc sz0 sz1 hq nS1 nS2 nS ef0 ef1 hq0F nA1 nA2 nA3 nA4;go_wp2_with fail
   go_region_held3 (fun W=>W.cell? ⟨w.heap.size,0,none⟩=some (.slice (some ⟨bo,oo,none⟩) c.nC cq0)∧W.cell? ⟨bo,oo+k*3,none⟩=some (Y6 (c.codeN k) (cb k) (c.nCode k))∧W.cell? ⟨w.heap.size+1,0,none⟩=some (.slice (some ⟨b,off,none⟩) c.nC cap0)∧W.cell? ⟨b,off+k*3,none⟩=some u0) (go_keep)
    (first
     |(go_at_call 70;refine (Y3r _ _ _ _ _ _ (by exact HIc.out) (by exact SZ0.out)).mono ?_;rintro e wc ⟨rfl,hbut⟩;have t0:=hbut.cell (a:=⟨w.heap.size,0,none⟩) x0 HNA.out.1;have t1:=hbut.cell (a:=⟨bo,oo+k*3,none⟩) o0 HNA.out.2.2.1;have t2:=hbut.cell (a:=⟨w.heap.size+1,0,none⟩) y0 HNA.out.2.1;have t3:=hbut.cell (a:=⟨b,off+k*3,none⟩) c0 HNA.out.2.2.2))
   have hH:w.heap.size<wr.heap.size:=HO.out.lt;have hH1:w.heap.size+1<wr.heap.size:=HC.out.lt;have HBC:Hid (But (fun j=>c.codeN k=false∧j=cb k) wr wc):=⟨hbut.os,hbut.tape,hbut.output,hbut.size,hbut.block⟩;have r0:=HBC.out.cell (a:=⟨bo,oo+k*3+1,none⟩) o1 HNA.out.2.2.1;have r1:=HBC.out.cell (a:=⟨b,off+k*3+1,none⟩) c1 HNA.out.2.2.2;have HOc:Hid (RowF wc w.heap.size 4 28 (Yc (.slice (some ⟨bo,oo,none⟩) c.nC cq0) (.slice q1 c.nT cq1) (Y6 c.chN hbl c.nCh) (Y6 c.dvN dbl c.nD))):=HO.out.of_heap (HBC.out.block _ hH HNA.out.1);have HCc:Hid (RowF wc (w.heap.size+1) 4 28 (Yc (.slice (some ⟨b,off,none⟩) c.nC cap0) (.slice p1 c.nT cap1) v2 v3)):=HC.out.of_heap (HBC.out.block _ hH1 HNA.out.2.1);have HIw:Hid (Inn wc (c.imgN k) (cb k+1) (c.nImg k) 1 (c.img k)):=HIi.out.keep (fun hn=>HBC.out.block _ (by have:=lt2.out hn;omega) (fun ⟨_,e⟩=>by omega));have HBw:Hid (Below w0.heap.size w0 wc):=HBC.out.below HBr.out (fun j hj=>by omega);have SZw:Hid (SlZ wc u1 (c.imgN k) (c.nImg k) 1 (c.img k) 8):=SZ1.out.keep (Zc HBw.out);have mA1:¬(c.imgN k=false∧w.heap.size=cb k+1):=fun ⟨hn,e⟩=>by have:=lt2.out hn;omega
   have mA2:¬(c.imgN k=false∧w.heap.size+1=cb k+1):=fun ⟨hn,e⟩=>by have:=lt2.out hn;omega
   have mA4:¬(c.imgN k=false∧b=cb k+1):=fun ⟨hn,e⟩=>by omega
   have HMA:Hid (_∧_∧_∧_):=⟨mA1,mA2,HNB.out,mA4⟩;clear hbut o0 o1 c0 c1 x0 y0 t1 t3 mA1 mA2 mA4;go_wp2_with fail
   go_region_held3 (fun W=>W.cell? ⟨w.heap.size,0,none⟩=some (.slice (some ⟨bo,oo,none⟩) c.nC cq0)∧W.cell? ⟨bo,oo+k*3+1,none⟩=some (Y6 (c.imgN k) (cb k+1) (c.nImg k))∧W.cell? ⟨w.heap.size+1,0,none⟩=some (.slice (some ⟨b,off,none⟩) c.nC cap0)∧W.cell? ⟨b,off+k*3+1,none⟩=some u1) (go_keep)
    (first
     |(go_at_call 71;refine (Y2I _ _ _ _ _ _ (by exact HIw.out) (by exact SZw.out)).mono ?_;rintro e wi ⟨rfl,hbut⟩;have t0:=hbut.cell (a:=⟨w.heap.size,0,none⟩) t0 HMA.out.1;have t1:=hbut.cell (a:=⟨bo,oo+k*3+1,none⟩) r0 HMA.out.2.2.1;have t2:=hbut.cell (a:=⟨w.heap.size+1,0,none⟩) t2 HMA.out.2.1;have t3:=hbut.cell (a:=⟨b,off+k*3+1,none⟩) r1 HMA.out.2.2.2))
   have HBI:Hid (But (fun j=>c.imgN k=false∧j=cb k+1) wc wi):=⟨hbut.os,hbut.tape,hbut.output,hbut.size,hbut.block⟩;have hsc:wr.heap.size≤wc.heap.size:=HBC.out.size;have HOi:Hid (RowF wi w.heap.size 4 28 (Yc (.slice (some ⟨bo,oo,none⟩) c.nC cq0) (.slice q1 c.nT cq1) (Y6 c.chN hbl c.nCh) (Y6 c.dvN dbl c.nD))):=HOc.out.of_heap (HBI.out.block _ (by omega) HMA.out.1);have HCi:Hid (RowF wi (w.heap.size+1) 4 28 (Yc (.slice (some ⟨b,off,none⟩) c.nC cap0) (.slice p1 c.nT cap1) v2 v3)):=HCc.out.of_heap (HBI.out.block _ (by omega) HMA.out.2.1);have HBF:Hid (But (SC c cb (k+1)) w wi):=(HBT.out.trans HBC.out (U:=SC c cb (k+1)) (fun j ⟨i,hi,h⟩=>⟨i,by omega,h⟩) (fun j _ hj=>⟨k,by omega,.inl hj⟩)).trans HBI.out (fun j h=>h) (fun j _ hj=>⟨k,by omega,.inr hj⟩);clear hbut t0 t1 t2 t3 r0 r1 HOc HCc HIw SZw HIc HIi SZ0 SZ1;go_wp2_with fail
   exact ⟨⟨k+1,by omega,by go_num,rfl,HBF,HOi,HCi⟩,by simp [intOf];omega⟩
  ·obtain rfl:k=c.nC:=by omega
   have HBT0:=HBT;have HO0:=HO;have HC0:=HC;clear HBT HO HC x0 hlt hk;go_wp2_with fail
   clear y0;go_loopw [5,9] (fun o i wr=>∃k:Nat,k≤c.nT∧i=.int .i64 k∧o=.bool true∧Hid (But (SR c cb rb k) w wr)∧Hid (RowF wr w.heap.size 4 28 (Yc (.slice q0 c.nC cq0) (.slice q1 c.nT cq1) (Y6 c.chN hbl c.nCh) (Y6 c.dvN dbl c.nD)))∧Hid (RowF wr (w.heap.size+1) 4 28 (Yc (.slice p0 c.nC cap0) (.slice p1 c.nT cap1) v2 v3))) (fun _ i _=>c.nT-(intOf i).toNat)
   case atStart=>exact ⟨0,Nat.zero_le _,rfl,rfl,HBT0.out.mono (fun j hj=>.inl hj),HO0,HC0⟩
   case round=>
    obtain ⟨k,hk,rfl,rfl,HBT,HO,HC⟩:=hrel;obtain ⟨-,x0,-,-⟩:=HO.out.at4;obtain ⟨-,y0,-,-⟩:=HC.out.at4;have hRlo:Hid (∀k j,k≤c.nT→SR c cb rb k j→w0.heap.size≤j∧j<hi2):=fun k j hk h=>by
     rcases h with h|⟨i,hi,rfl⟩
     ·have:=hSlo.out c.nC j (Nat.le_refl _) h;omega
     ·have:=(HRW.out i (by omega)).2;omega
    have HBr:Hid (Below w0.heap.size w0 wr):=HBT.out.below HBL.out (fun j hj=>(hRlo.out k j hk hj).1);by_cases hlt:k<c.nT
    ·obtain ⟨bo,oo,rfl,hq⟩:=Q1.out.at (by omega);have hqF:∃p n cc,Y6 false (rb 0) (c.nRow 0)=.slice p n cc:=⟨_,_,_,rfl⟩;have nS1:∀i,i<c.nC→c.codeN i=false→bo≠cb i:=fun i hi hn=>by
      obtain ⟨ty,hr⟩:=HI.out.code i hi hn;exact Ze hq (by omega) hqF hr
     have nS2:∀i,i<c.nC→c.imgN i=false→bo≠cb i+1:=fun i hi hn=>by
      obtain ⟨ty,hr⟩:=HI.out.img i hi hn;exact Ze hq (by omega) hqF hr
     have nS3:∀i,i<c.nT→bo≠rb i:=fun i hi=>by
      obtain ⟨ty,hr⟩:=(HRW.out i hi).1 rfl;exact Ze hq (by omega) hqF hr
     have nS:¬SR c cb rb k bo:=fun h=>by
      rcases h with ⟨i,hi,h⟩|⟨i,hi,h⟩
      ·rcases h with ⟨hn,e⟩|⟨hn,e⟩
       ·exact nS1 i hi hn e
       ·exact nS2 i hi hn e
      ·exact nS3 i (by omega) h
     have o0:=HBT.out.cell (hq k hlt) nS;obtain ⟨b,off,rfl,hc⟩:=(S1.out.below HBr.out).at (by omega);have c0:=hc k hlt;have hbw:b<w0.heap.size:=by
      obtain ⟨b',off',e,hc'⟩:=S1.out.at (by omega);simp only [Option.some.injEq,Addr.mk.injEq] at e;have:=block_lt_of_cell (hc' 0 (by omega));simp only at this;omega
     obtain ⟨hik,lok1,lok2⟩:=HRW.out k hlt;have lt1:rb k<w.heap.size:=by
      obtain ⟨ty,hr⟩:=hik rfl;exact hr.lt
     have HIc:Hid (Inn wr false (rb k) (c.nRow k) 2 (c.row k)):=hik.keep (fun hn=>HBT.out.block _ lt1 (fun h=>by
      rcases h with h|⟨i,hi,e⟩
      ·have:=hSlo.out c.nC _ (Nat.le_refl _) h;omega
      ·have:=HOR.out i k hi hlt;omega))
     have SZ0:Hid (SlZ wr (F1 k) (c.rowN k) (c.nRow k) 2 (c.row k) 16):=(K1.out k hlt).keep (Zc HBr.out);generalize F1 k=u0 at *;have HNA:Hid (_∧_):=⟨nS3 k hlt,(by omega:b≠rb k)⟩;have hH:w.heap.size<wr.heap.size:=HO.out.lt;have hH1:w.heap.size+1<wr.heap.size:=HC.out.lt;clear hc hq nS1 nS2 nS3 nS hqF hik;go_wp2_with fail
     go_region_held3 (fun W=>W.cell? ⟨w.heap.size,1,none⟩=some (.slice (some ⟨bo,oo,none⟩) c.nT cq1)∧W.cell? ⟨bo,oo+k,none⟩=some (Y6 false (rb k) (c.nRow k))∧W.cell? ⟨w.heap.size+1,1,none⟩=some (.slice (some ⟨b,off,none⟩) c.nT cap1)∧W.cell? ⟨b,off+k,none⟩=some u0) (go_keep)
      (first
       |(go_at_call 72;refine (Y35 _ _ _ _ _ _ (by exact HIc.out) (by exact SZ0.out)).mono ?_;rintro e wc ⟨rfl,hbut⟩;have t0:=hbut.cell (a:=⟨w.heap.size,1,none⟩) x0 (by simp;omega);have t1:=hbut.cell (a:=⟨bo,oo+k,none⟩) o0 HNA.out.1;have t2:=hbut.cell (a:=⟨w.heap.size+1,1,none⟩) y0 (by simp;omega);have t3:=hbut.cell (a:=⟨b,off+k,none⟩) c0 HNA.out.2))
     have HBC:Hid (But (fun j=>j=rb k) wr wc):=⟨hbut.os,hbut.tape,hbut.output,hbut.size,hbut.block⟩;have HOi:Hid (RowF wc w.heap.size 4 28 (Yc (.slice q0 c.nC cq0) (.slice (some ⟨bo,oo,none⟩) c.nT cq1) (Y6 c.chN hbl c.nCh) (Y6 c.dvN dbl c.nD))):=HO.out.of_heap (HBC.out.block _ (by omega) (by omega));have HCi:Hid (RowF wc (w.heap.size+1) 4 28 (Yc (.slice p0 c.nC cap0) (.slice (some ⟨b,off,none⟩) c.nT cap1) v2 v3)):=HC.out.of_heap (HBC.out.block _ (by omega) (by omega));have HBF:Hid (But (SR c cb rb (k+1)) w wc):=HBT.out.trans HBC.out (fun j h=>h.elim .inl (fun ⟨i,hi,e⟩=>.inr ⟨i,by omega,e⟩)) (fun j _ hj=>.inr ⟨k,by omega,hj⟩);clear hbut t0 t1 t2 t3 HIc SZ0 o0 c0 x0 y0;go_wp2_with fail
     exact ⟨⟨k+1,by omega,by go_num,rfl,HBF,HOi,HCi⟩,by simp [intOf];omega⟩
    ·obtain rfl:k=c.nT:=by omega
     clear hlt hk x0;obtain ⟨p2,cap2,rfl,-,n2,zz2,bb2,ss2⟩:=K2.out;obtain ⟨p3,cap3,rfl,-,n3,zz3,bb3,ss3⟩:=K3.out;have SS2:Hid (Sl w0 p2 (c.nCh*3) (fun j=>.int .i64 (c.ch j))):=ss2;have SS3:Hid (Sl w0 p3 c.nD (fun j=>.int .i64 (c.dv j))):=by show Sl _ _ _ _;rwa [Nat.mul_one] at ss3
     have BB2:Hid (24*c.nCh≤140737488355328):=bb2;have BB3:Hid (8*c.nD≤140737488355328):=bb3;have hb2:c.nCh≤8796093022208:=by omega
     have hb3:c.nD≤17592186044416:=by omega
     have NN:Hid ((p2=none↔c.chN=true)∧(p2=none→c.nCh=0∧cap2=0)∧(p3=none↔c.dvN=true)∧(p3=none→c.nD=0∧cap3=0)):=⟨n2,zz2,n3,zz3⟩;clear K2 K3 ss2 ss3 bb2 bb3 n2 zz2 n3 zz3;obtain ⟨-,-,x2,x3⟩:=HO.out.at4;obtain ⟨-,-,y2,y3⟩:=HC.out.at4;have hH:w.heap.size<wr.heap.size:=HO.out.lt;have hH1:w.heap.size+1<wr.heap.size:=HC.out.lt;obtain ⟨n2,zz2,n3,zz3⟩:=NN.out;have HICH:Hid (c.chN=false→∃ty,RowF wr hbl ((c.nCh+2)*3) ty (fun j=>.int .i64 (padZ 3 c.nCh c.ch j))):=fun hn=>HCH.out.keep (fun hn=>by
      obtain ⟨ty,hr⟩:=HCH.out hn;exact HBT.out.block _ hr.lt (fun h=>by have:=hRlo.out _ _ (Nat.le_refl _) h;have:=HHH.out.1 hn;omega)) hn
     have HIDV:Hid (c.dvN=false→∃ty,RowF wr dbl ((c.nD+2)*1) ty (fun j=>.int .i64 (padZ 1 c.nD c.dv j))):=fun hn=>HDV.out.keep (fun hn=>by
      obtain ⟨ty,hr⟩:=HDV.out hn;exact HBT.out.block _ hr.lt (fun h=>by have:=hRlo.out _ _ (Nat.le_refl _) h;have:=HHH.out.2.1 hn;omega)) hn
     have ltC:Hid (c.chN=false→hbl<w.heap.size):=fun hn=>by
      obtain ⟨ty,hr⟩:=HCH.out hn;exact hr.lt
     have ltD:Hid (c.dvN=false→dbl<w.heap.size):=fun hn=>by
      obtain ⟨ty,hr⟩:=HDV.out hn;exact hr.lt
     cases p2 with
     |none=>
      obtain ⟨hz2,rfl⟩:=zz2 rfl;have HN2:Hid (c.chN=true):=n2.1 rfl;rw [hz2] at y2;clear zz2 n2 hz2;cases p3 with
      |none=>
       obtain ⟨hz3,rfl⟩:=zz3 rfl;rw [hz3] at y3;clear zz3 n3 hz3;go_wp2_with fail
       go_ret;exact ⟨rfl,HBT.out.below HBL.out (fun j hj=>(hRlo.out _ j (Nat.le_refl _) hj).1),HBT.out.mono (fun j hj=>.inl hj)⟩
      |some q=>
       obtain ⟨bq3,oq3,sq3⟩:=q;have HN3:Hid (c.dvN=false):=by
        show _=_;cases h:c.dvN
        ·rfl
        ·exact absurd (n3.2 h) (by simp)
       clear zz3 n3;rw [HN3.out] at x3;have x3':wr.cell? ⟨w.heap.size,3,none⟩=some (.slice (some ⟨dbl,0,none⟩) c.nD (c.nD+2)):=x3;clear x3;have hd1:=ltD.out HN3.out;have hd2:=HHH.out.2.1 HN3.out;have hH3:=hH;have hI3:=hH1;go_wp2_with fail
       refine (Jq (some ⟨bq3,oq3,sq3⟩) c.nD cap3 c.dv _ (SS3.out.below HBr.out) (by simp) BB3.out).mono ?_;rintro e wA3 ⟨rfl,hszA,hbelA,hrowA⟩;have HZA3:Hid (wA3.heap.size=wr.heap.size+1):=hszA;have HV03:Hid (RowF wA3 wr.heap.size ((c.nD+2)*1) 3 (fun j=>.int .i64 (padZ 1 c.nD c.dv j))):=hrowA;have HO03:=HO.out.below hbelA hH3;have HC03:=HC.out.below hbelA hI3;obtain ⟨ty3,hrl3⟩:=HIDV.out HN3.out;have hlt3:dbl<wr.heap.size:=hrl3.lt;have HF03:Hid (Yn wA3 dbl ((c.nD+2)*1) ty3 0 (fun j=>.int .i64 (padZ 1 c.nD c.dv j))):=Yn.of (hrl3.below hbelA hlt3) _;have HB03:Hid (But (fun j=>SR c cb rb c.nT j∨j=dbl) w wA3):=HBT.out.trans (But.of_below hbelA (fun _=>False)) (fun j hj=>.inl hj) (fun j _ hj=>hj.elim);have hne3:wr.heap.size≠dbl:=by omega
       clear hszA hbelA hrowA hrl3;go_wp2_with fail
       go_loopw [5,16] (fun o i wz=>∃k:Nat,k≤c.nD+2∧i=.int .i64 k∧o=.bool true∧Hid (But (fun j=>SR c cb rb c.nT j∨j=dbl) w wz)∧Hid (RowF wz w.heap.size 4 28 (Yc (.slice q0 c.nC cq0) (.slice q1 c.nT cq1) (Y6 c.chN hbl c.nCh) (Y6 c.dvN dbl c.nD)))∧Hid (RowF wz (w.heap.size+1) 4 28 (Yc (.slice p0 c.nC cap0) (.slice p1 c.nT cap1) (.slice none c.nCh 0) (.slice (some ⟨bq3,oq3,sq3⟩) c.nD cap3)))∧Hid (Yn wz dbl ((c.nD+2)*1) ty3 (k) (fun j=>.int .i64 (padZ 1 c.nD c.dv j)))∧Hid (RowF wz wr.heap.size ((c.nD+2)*1) 3 (fun j=>.int .i64 (padZ 1 c.nD c.dv j)))) (fun _ i _=>c.nD+2-(intOf i).toNat)
       case atStart=>exact ⟨0,Nat.zero_le _,rfl,rfl,HB03,HO03,HC03,HF03.out.mono (by omega),HV03⟩
       case round=>
        revert hrel;revert wr;intro wz3 hrel;obtain ⟨k,hk,rfl,rfl,HBZ3,HOZ3,HCZ3,HF,HV⟩:=hrel;by_cases hlt:k<c.nD+2
        ·skip;have a0:=HF.out.cell (j:=k) (by omega) (by omega);have d0:=HV.out.cell (j:=k) (by omega);have f0:=HF.out.frozen (k);generalize padZ 1 c.nD c.dv (k)=g0 at a0 d0;go_wp2_with fail
         go_quiet (fail)
         go_wp2_with fail
         exact ⟨⟨k+1,by omega,by go_num,rfl,⟨HBZ3.out.os,HBZ3.out.tape,HBZ3.out.output,by have:=HBZ3.out.size;simpa [size_setCell] using this,fun j hj hn=>by
          rw [heap_setCell_other _ _ _ _ (fun e=>hn (.inr e))];exact HBZ3.out.block j hj hn⟩,((HOZ3.out.drewN _).other _ _ (by simp;omega)),((HCZ3.out.drewN _).other _ _ (by simp;omega)),((((HF.out.drewN _).mono (by omega)).set _ _ (by omega)):Yn _ _ _ _ (k+1) _),((HV.out.drewN _).other _ _ (by simp;omega))⟩,by simp [intOf];omega⟩
        ·obtain rfl:k=c.nD+2:=by omega
         clear hlt hk HF HV;go_wp2_with fail
         go_ret;exact ⟨rfl,HBZ3.out.below HBL.out (fun j hj=>hj.elim (fun h=>(hRlo.out _ j (Nat.le_refl _) h).1) (fun h=>by omega)),HBZ3.out.mono (fun j hj=>hj.elim .inl (fun e=>.inr (.inr ⟨HN3.out,e⟩)))⟩
     |some q=>
      obtain ⟨bq2,oq2,sq2⟩:=q;have HN2:Hid (c.chN=false):=by
       show _=_;cases h:c.chN
       ·rfl
       ·exact absurd (n2.2 h) (by simp)
      clear zz2 n2;rw [HN2.out] at x2;have x2':wr.cell? ⟨w.heap.size,2,none⟩=some (.slice (some ⟨hbl,0,none⟩) c.nCh (c.nCh+2)):=x2;clear x2;have hc1:=ltC.out HN2.out;have hc2:=HHH.out.1 HN2.out;have hH2:=hH;have hI2:=hH1;go_wp2_with fail
      refine (Y1J (some ⟨bq2,oq2,sq2⟩) c.nCh cap2 c.ch _ (SS2.out.below HBr.out) (by simp) BB2.out).mono ?_;rintro e wA2 ⟨rfl,hszA,hbelA,hrowA⟩;have HZA2:Hid (wA2.heap.size=wr.heap.size+1):=hszA;have HV02:Hid (RowF wA2 wr.heap.size ((c.nCh+2)*3) 138 (fun j=>.int .i64 (padZ 3 c.nCh c.ch j))):=hrowA;have HO02:=HO.out.below hbelA hH2;have HC02:=HC.out.below hbelA hI2;obtain ⟨ty2,hrl2⟩:=HICH.out HN2.out;have hlt2:hbl<wr.heap.size:=hrl2.lt;have HF02:Hid (Yn wA2 hbl ((c.nCh+2)*3) ty2 0 (fun j=>.int .i64 (padZ 3 c.nCh c.ch j))):=Yn.of (hrl2.below hbelA hlt2) _;have HB02:Hid (But (fun j=>SR c cb rb c.nT j∨j=hbl) w wA2):=HBT.out.trans (But.of_below hbelA (fun _=>False)) (fun j hj=>.inl hj) (fun j _ hj=>hj.elim);have hne2:wr.heap.size≠hbl:=by omega
      clear hszA hbelA hrowA hrl2;go_wp2_with fail
      go_loopw [5,13] (fun o i wz=>∃k:Nat,k≤c.nCh+2∧i=.int .i64 k∧o=.bool true∧Hid (But (fun j=>SR c cb rb c.nT j∨j=hbl) w wz)∧Hid (RowF wz w.heap.size 4 28 (Yc (.slice q0 c.nC cq0) (.slice q1 c.nT cq1) (Y6 c.chN hbl c.nCh) (Y6 c.dvN dbl c.nD)))∧Hid (RowF wz (w.heap.size+1) 4 28 (Yc (.slice p0 c.nC cap0) (.slice p1 c.nT cap1) (.slice (some ⟨bq2,oq2,sq2⟩) c.nCh cap2) (.slice p3 c.nD cap3)))∧Hid (Yn wz hbl ((c.nCh+2)*3) ty2 (k*3) (fun j=>.int .i64 (padZ 3 c.nCh c.ch j)))∧Hid (RowF wz wr.heap.size ((c.nCh+2)*3) 138 (fun j=>.int .i64 (padZ 3 c.nCh c.ch j)))) (fun _ i _=>c.nCh+2-(intOf i).toNat)
      case atStart=>exact ⟨0,Nat.zero_le _,rfl,rfl,HB02,HO02,HC02,HF02.out.mono (by omega),HV02⟩
      case round=>
       revert hrel;revert wr;intro wz2 hrel;obtain ⟨k,hk,rfl,rfl,HBZ2,HOZ2,HCZ2,HF,HV⟩:=hrel;by_cases hlt:k<c.nCh+2
       ·skip;have a0:=HF.out.cell (j:=k*3) (by omega) (by omega);have d0:=HV.out.cell (j:=k*3) (by omega);have f0:=HF.out.frozen (k*3);have a1:=HF.out.cell (j:=k*3+1) (by omega) (by omega);have d1:=HV.out.cell (j:=k*3+1) (by omega);have f1:=HF.out.frozen (k*3+1);have a2:=HF.out.cell (j:=k*3+2) (by omega) (by omega);have d2:=HV.out.cell (j:=k*3+2) (by omega);have f2:=HF.out.frozen (k*3+2);generalize padZ 3 c.nCh c.ch (k*3)=g0 at a0 d0;generalize padZ 3 c.nCh c.ch (k*3+1)=g1 at a1 d1;generalize padZ 3 c.nCh c.ch (k*3+2)=g2 at a2 d2;go_wp2_with fail
        go_quiet (fail)
        go_wp2_with fail
        exact ⟨⟨k+1,by omega,by go_num,rfl,⟨HBZ2.out.os,HBZ2.out.tape,HBZ2.out.output,by have:=HBZ2.out.size;simpa [size_setCell] using this,fun j hj hn=>by
         rw [heap_setCell_other _ _ _ _ (fun e=>hn (.inr e)),heap_setCell_other _ _ _ _ (fun e=>hn (.inr e)),heap_setCell_other _ _ _ _ (fun e=>hn (.inr e))];exact HBZ2.out.block j hj hn⟩,((((HOZ2.out.drewN _).other _ _ (by simp;omega)).other _ _ (by simp;omega)).other _ _ (by simp;omega)),((((HCZ2.out.drewN _).other _ _ (by simp;omega)).other _ _ (by simp;omega)).other _ _ (by simp;omega)),((((((HF.out.drewN _).mono (by omega)).set _ _ (by omega)).set _ _ (by omega)).set _ _ (by omega)):Yn _ _ _ _ ((k+1)*3) _),((((HV.out.drewN _).other _ _ (by simp;omega)).other _ _ (by simp;omega)).other _ _ (by simp;omega))⟩,by simp [intOf];omega⟩
       ·obtain rfl:k=c.nCh+2:=by omega
        clear hlt hk HF HV;have HBz:Hid (Below w0.heap.size w0 wz2):=HBZ2.out.below HBL.out (fun j hj=>hj.elim (fun h=>(hRlo.out _ j (Nat.le_refl _) h).1) (fun h=>by omega));have HIDZ:Hid (c.dvN=false→∃ty,RowF wz2 dbl ((c.nD+2)*1) ty (fun j=>.int .i64 (padZ 1 c.nD c.dv j))):=fun hn=>HDV.out.keep (fun hn=>by
         obtain ⟨ty,hr⟩:=HDV.out hn;exact HBZ2.out.block _ hr.lt (fun h=>h.elim (fun h=>by have:=hRlo.out _ _ (Nat.le_refl _) h;have:=HHH.out.2.1 hn;omega) (fun h=>by have:=HHH.out.2.2 HN2.out hn;omega))) hn
        obtain ⟨-,-,-,u3⟩:=HOZ2.out.at4;obtain ⟨-,-,-,v3'⟩:=HCZ2.out.at4;have hHz:w.heap.size<wz2.heap.size:=HOZ2.out.lt;have hHz1:w.heap.size+1<wz2.heap.size:=HCZ2.out.lt;clear x2' x3 y2 y3;cases p3 with
        |none=>
         obtain ⟨hz3,rfl⟩:=zz3 rfl;rw [hz3] at v3';clear zz3 n3 hz3;go_wp2_with fail
         go_ret;exact ⟨rfl,HBZ2.out.below HBL.out (fun j hj=>hj.elim (fun h=>(hRlo.out _ j (Nat.le_refl _) h).1) (fun h=>by omega)),HBZ2.out.mono (fun j hj=>hj.elim .inl (fun e=>.inr (.inl ⟨HN2.out,e⟩)))⟩
        |some q=>
         obtain ⟨bq3,oq3,sq3⟩:=q;have HN3:Hid (c.dvN=false):=by
          show _=_;cases h:c.dvN
          ·rfl
          ·exact absurd (n3.2 h) (by simp)
         clear zz3 n3;rw [HN3.out] at u3;have x3':wz2.cell? ⟨w.heap.size,3,none⟩=some (.slice (some ⟨dbl,0,none⟩) c.nD (c.nD+2)):=u3;clear u3;have hd1:=ltD.out HN3.out;have hd2:=HHH.out.2.1 HN3.out;have hH3:=hHz;have hI3:=hHz1;go_wp2_with fail
         refine (Jq (some ⟨bq3,oq3,sq3⟩) c.nD cap3 c.dv _ (SS3.out.below HBz.out) (by simp) BB3.out).mono ?_;rintro e wA3 ⟨rfl,hszA,hbelA,hrowA⟩;have HZA3:Hid (wA3.heap.size=wz2.heap.size+1):=hszA;have HV03:Hid (RowF wA3 wz2.heap.size ((c.nD+2)*1) 3 (fun j=>.int .i64 (padZ 1 c.nD c.dv j))):=hrowA;have HO03:=HOZ2.out.below hbelA hH3;have HC03:=HCZ2.out.below hbelA hI3;obtain ⟨ty3,hrl3⟩:=HIDZ.out HN3.out;have hlt3:dbl<wz2.heap.size:=hrl3.lt;have HF03:Hid (Yn wA3 dbl ((c.nD+2)*1) ty3 0 (fun j=>.int .i64 (padZ 1 c.nD c.dv j))):=Yn.of (hrl3.below hbelA hlt3) _;have HB03:Hid (But (fun j=>(SR c cb rb c.nT j∨j=hbl)∨j=dbl) w wA3):=HBZ2.out.trans (But.of_below hbelA (fun _=>False)) (fun j hj=>.inl hj) (fun j _ hj=>hj.elim);have hne3:wz2.heap.size≠dbl:=by omega
         clear hszA hbelA hrowA hrl3;go_wp2_with fail
         go_loopw [5,16] (fun o i wz=>∃k:Nat,k≤c.nD+2∧i=.int .i64 k∧o=.bool true∧Hid (But (fun j=>(SR c cb rb c.nT j∨j=hbl)∨j=dbl) w wz)∧Hid (RowF wz w.heap.size 4 28 (Yc (.slice q0 c.nC cq0) (.slice q1 c.nT cq1) (Y6 c.chN hbl c.nCh) (Y6 c.dvN dbl c.nD)))∧Hid (RowF wz (w.heap.size+1) 4 28 (Yc (.slice p0 c.nC cap0) (.slice p1 c.nT cap1) (.slice (some ⟨bq2,oq2,sq2⟩) c.nCh cap2) (.slice (some ⟨bq3,oq3,sq3⟩) c.nD cap3)))∧Hid (Yn wz dbl ((c.nD+2)*1) ty3 (k) (fun j=>.int .i64 (padZ 1 c.nD c.dv j)))∧Hid (RowF wz wz2.heap.size ((c.nD+2)*1) 3 (fun j=>.int .i64 (padZ 1 c.nD c.dv j)))) (fun _ i _=>c.nD+2-(intOf i).toNat)
         case atStart=>exact ⟨0,Nat.zero_le _,rfl,rfl,HB03,HO03,HC03,HF03.out.mono (by omega),HV03⟩
         case round=>
          revert hrel;revert wr;intro wz3 hrel;obtain ⟨k,hk,rfl,rfl,HBZ3,HOZ3,HCZ3,HF,HV⟩:=hrel;by_cases hlt:k<c.nD+2
          ·skip;have a0:=HF.out.cell (j:=k) (by omega) (by omega);have d0:=HV.out.cell (j:=k) (by omega);have f0:=HF.out.frozen (k);generalize padZ 1 c.nD c.dv (k)=g0 at a0 d0;go_wp2_with fail
           go_quiet (fail)
           go_wp2_with fail
           exact ⟨⟨k+1,by omega,by go_num,rfl,⟨HBZ3.out.os,HBZ3.out.tape,HBZ3.out.output,by have:=HBZ3.out.size;simpa [size_setCell] using this,fun j hj hn=>by
            rw [heap_setCell_other _ _ _ _ (fun e=>hn (.inr e))];exact HBZ3.out.block j hj hn⟩,((HOZ3.out.drewN _).other _ _ (by simp;omega)),((HCZ3.out.drewN _).other _ _ (by simp;omega)),((((HF.out.drewN _).mono (by omega)).set _ _ (by omega)):Yn _ _ _ _ (k+1) _),((HV.out.drewN _).other _ _ (by simp;omega))⟩,by simp [intOf];omega⟩
          ·obtain rfl:k=c.nD+2:=by omega
           clear hlt hk HF HV;go_wp2_with fail
           go_ret;exact ⟨rfl,HBZ3.out.below HBL.out (fun j hj=>hj.elim (fun h=>h.elim (fun h=>(hRlo.out _ j (Nat.le_refl _) h).1) (fun h=>by omega)) (fun h=>by omega)),HBZ3.out.mono (fun j hj=>hj.elim (fun h=>h.elim .inl (fun e=>.inr (.inl ⟨HN2.out,e⟩))) (fun e=>.inr (.inr ⟨HN3.out,e⟩)))⟩
end Go.Proofs.YtdoghgnifkgfdaaGreat
