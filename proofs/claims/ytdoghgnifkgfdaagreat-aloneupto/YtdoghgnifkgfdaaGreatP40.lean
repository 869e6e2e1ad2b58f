import Derived.Deep.RegionHeld3
import Derived.Deep.AppendLies
import Derived.Test.YtdoghgnifkgfdaaGreatP05
import Derived.Test.YtdoghgnifkgfdaaGreatP11
import Derived.Test.YtdoghgnifkgfdaaGreatP37
import Derived.Test.YtdoghgnifkgfdaaGreatP39
set_option maxRecDepth 100000
set_option maxHeartbeats 4000000
namespace Go.Proofs.YtdoghgnifkgfdaaGreat.Mute
open Go Go.Conc Go.RowKit
def RB (k:Ker) (r:RK) (vs:Nat→Value) (b:Nat):Prop:=b=r.Kb∨b=r.Gc∨b=r.bo∨∃i,i<k.nC∧(b=r.cb i∨(∃o,r.iq i=some ⟨b,o,none⟩)∨(vs i).ownBlock=some b)
section
variable {w w':World} {k:Ker} {r:RK} {s:KSt} {vs:Nat→Value}
theorem RNow.keep {Q:Nat→RC} {m:Nat→Nat} {xs:Nat→List Value} (h:RNow w k r Q m xs) (hk:∀b,RB k r (fun i=>(Q i).v) b→w'.heap[b]?=w.heap[b]?) (hs:w.heap.size≤w'.heap.size):RNow w' k r Q m xs:=by
 have hKb:=hk r.Kb (.inl rfl);have hGc:=hk r.Gc (.inr (.inl rfl));have hbo:=hk r.bo (.inr (.inr (.inl rfl)));have hcb:∀i,i<k.nC→w'.heap[r.cb i]?=w.heap[r.cb i]?:=fun i hi=>hk _ (.inr (.inr (.inr ⟨i,hi,.inl rfl⟩)));refine ⟨(cell_of_heap (a:=⟨r.Kb,0,none⟩) hKb).trans h.h0,(cell_of_heap (a:=⟨r.Kb,4,none⟩) hKb).trans h.h4,h.sK.to hs,h.sb.to hs,fun i hi=>(h.sc i hi).to hs,fun i hi b o e=>(h.si i hi b o e).to hs,h.oh,
  fun i hi=>(cell_of_heap (a:=⟨r.bo,r.oo+i*3,none⟩) hbo).trans (h.hc i hi),fun i hi=>(cell_of_heap (a:=⟨r.bo,r.oo+i*3+1,none⟩) hbo).trans (h.hi i hi),fun i hi=>(cell_of_heap (a:=⟨r.bo,r.oo+i*3+2,none⟩) hbo).trans (h.hl i hi),fun i hi j hj=>(cell_of_heap (a:=⟨r.cb i,r.co i+j,none⟩) (hcb i hi)).trans (h.code i hi j hj),fun i hi=>?_,h.row.of_heap hGc,fun i hi=>?_,h.ownNe,h.g16,h.n48,h.ok,h.fst⟩
 ·rcases h.imgs i hi with e|⟨b,o,e,hc⟩
  ·exact .inl e
  ·exact .inr ⟨b,o,e,fun j hj=>(cell_of_heap (a:=⟨b,o+j,none⟩) (hk b (.inr (.inr (.inr ⟨i,hi,.inr (.inl ⟨o,e⟩)⟩))))).trans (hc j hj)⟩
 ·exact Xd (L:=⟨0,0,111,fun _=>False,fun _=>False⟩) (h.own i hi) fun b hb=>hk b (.inr (.inr (.inr ⟨i,hi,.inr (.inr hb)⟩)))
structure YZ (w:World) (k:Ker) (r:RK) (t:Tab) (to_:Nat) (s:KSt) (vs:Nat→Value) (fr:Nat) (S:Nat→Prop):Prop where
 kn:RNow w k r (rcOf s vs) s.m s.xs
 so:SOk k s
 ap:Y0R k r
 rowK:∃v2 q3 c3 q5 c5 v7,RowF w r.Kb 8 126 (kf8 (.slice (some ⟨r.bo,r.oo,none⟩) k.nC r.cq) (.slice (some ⟨t.tb,to_,none⟩) t.nT t.cT) v2 (.slice q3 0 c3) (.slice (some ⟨r.Gc,0,none⟩) k.nC k.nC) (.slice q5 0 c5) (.int .i64 fr) v7)
 stb:YM r w t.tb
 tbK:t.tb≠r.Kb
 rows:∀i,i<t.nT→w.cell? ⟨t.tb,to_+i,none⟩=some (.slice (some ⟨t.ws i,t.wo i,none⟩) (t.nw i) (t.cw i))
 sW:∀i,i<t.nT→YM r w (t.ws i)
 wK:∀i,i<t.nT→t.ws i≠r.Kb
 c0:∀i,i<t.nT→∀j,j<t.nw i→w.cell? ⟨t.ws i,t.wo i+j*2,none⟩=some (.int .i64 (t.wn i j).1)
 c1:∀i,i<t.nT→∀j,j<t.nw i→w.cell? ⟨t.ws i,t.wo i+j*2+1,none⟩=some (.int .i64 (t.wn i j).2)
 n1:1≤t.nT
 nT:t.nT≤1000
 nw:∀i,i<t.nT→t.nw i≤6
 wnb:∀i,i<t.nT→∀j,j<t.nw i→(t.wn i j).1<k.nC∧(t.wn i j).2≤200
 nC:k.nC≤1000
 inS:∀b,RB k r vs b∨b=t.tb∨(∃i,i<t.nT∧b=t.ws i)→S b
 sz:∀b,S b→b<w.heap.size
variable {t:Tab} {to_ fr:Nat} {S:Nat→Prop}
theorem YZ.keep (h:YZ w k r t to_ s vs fr S) (hk:∀b,S b→w'.heap[b]?=w.heap[b]?) (hs:w.heap.size≤w'.heap.size):YZ w' k r t to_ s vs fr S:=by
 have hK:∀b,RB k r vs b→w'.heap[b]?=w.heap[b]?:=fun b hb=>hk b (h.inS b (.inl hb));have htb:=hk t.tb (h.inS _ (.inr (.inl rfl)));have hws:∀i,i<t.nT→w'.heap[t.ws i]?=w.heap[t.ws i]?:=fun i hi=>hk _ (h.inS _ (.inr (.inr ⟨i,hi,rfl⟩)));obtain ⟨v2,q3,c3,q5,c5,v7,hr⟩:=h.rowK;exact ⟨h.kn.keep hK hs,h.so,h.ap,⟨v2,q3,c3,q5,c5,v7,hr.of_heap (hK _ (.inl rfl))⟩,h.stb.to hs,h.tbK,fun i hi=>(cell_of_heap (a:=⟨t.tb,to_+i,none⟩) htb).trans (h.rows i hi),fun i hi=>(h.sW i hi).to hs,h.wK,fun i hi j hj=>(cell_of_heap (a:=⟨t.ws i,t.wo i+j*2,none⟩) (hws i hi)).trans (h.c0 i hi j hj),fun i hi j hj=>(cell_of_heap (a:=⟨t.ws i,t.wo i+j*2+1,none⟩) (hws i hi)).trans (h.c1 i hi j hj),h.n1,h.nT,h.nw,h.wnb,h.nC,h.inS,fun b hb=>Nat.lt_of_lt_of_le (h.sz b hb) hs⟩
theorem YZ.frame (h:YZ w k r t to_ s vs fr S) (hfr:fr≤1000000000000) (hm:∀i,s.m i+1600≤1000000000) {ip:Option Addr} {il ic:Nat} {zi:Nat→Int} (hin:Sl w ip (il*2) (fun j=>.int .i64 (zi j))) (hiK:il=0∨∀b o,ip=some ⟨b,o,none⟩→b≠r.Kb) (hil:il≤4):
  Calls Tryz.prog 44 #[.pointer (some ⟨r.Kb,0,none⟩),.slice ip il ic] w fun e w'=>e=.returned (.int .i64 0)∧∃vs',YZ w' k r t to_ (rowS k (t.wn (fr % t.nT)) (t.nw (fr % t.nT)) 0 s) vs' (fr+1) (fun b=>S b∨(w.heap.size≤b∧b<w'.heap.size))∧But S w w':=by
 obtain ⟨v2,q3,c3,q5,c5,v7,hr⟩:=h.rowK;have hml:fr % t.nT<t.nT:=Nat.mod_lt _ h.n1;have hnw:=h.nw _ hml;have hmul:t.nw (fr % t.nT)*201≤6*201:=Nat.mul_le_mul_right _ hnw;refine (Y77 h.kn h.so h.ap hr h.stb h.tbK (h.rows _ hml) (h.sW _ hml) (h.wK _ hml) (h.c0 _ hml) (h.c1 _ hml) hin hiK hil h.n1 h.nT hfr (by omega) (h.wnb _ hml) h.nC (fun i=>by have:=hm i;omega)).mono ?_;rintro e w' ⟨rfl,vs',h1,h2,h3,h4,h5⟩;have kept:∀b,YM r w b→b≠r.Kb→w'.heap[b]?=w.heap[b]?:=fun b hs hne=>h4.block b hs.lt (fun e=>by
  rcases e with e|e|⟨i,hi,e⟩
  ·exact hne e
  ·exact hs.2.1 e
  ·exact hs.ne_own (fun b=>h.kn.oh i b hi) e)
 refine ⟨rfl,vs',⟨h1,h2,h.ap,⟨v2,q3,c3,q5,c5,_,h3⟩,h.stb.to h4.size,h.tbK,fun i hi=>(cell_of_heap (a:=⟨t.tb,to_+i,none⟩) (kept _ h.stb h.tbK)).trans (h.rows i hi),fun i hi=>(h.sW i hi).to h4.size,h.wK,fun i hi j hj=>(cell_of_heap (a:=⟨t.ws i,t.wo i+j*2,none⟩) (kept _ (h.sW i hi) (h.wK i hi))).trans (h.c0 i hi j hj),fun i hi j hj=>(cell_of_heap (a:=⟨t.ws i,t.wo i+j*2+1,none⟩) (kept _ (h.sW i hi) (h.wK i hi))).trans (h.c1 i hi j hj),h.n1,h.nT,h.nw,h.wnb,h.nC,fun b hb=>?_,fun b hb=>?_⟩,h4.mono fun b hb=>?_⟩
 ·rcases hb with (hb|hb|hb|⟨i,hi,hb|hb|hb⟩)|hb|hb
  ·exact .inl (h.inS b (.inl (.inl hb)))
  ·exact .inl (h.inS b (.inl (.inr (.inl hb))))
  ·exact .inl (h.inS b (.inl (.inr (.inr (.inl hb)))))
  ·exact .inl (h.inS b (.inl (.inr (.inr (.inr ⟨i,hi,.inl hb⟩)))))
  ·exact .inl (h.inS b (.inl (.inr (.inr (.inr ⟨i,hi,.inr (.inl hb)⟩)))))
  ·rcases h5 i b hi hb with e|e
   ·exact .inl (h.inS b (.inl (.inr (.inr (.inr ⟨i,hi,.inr (.inr e)⟩)))))
   ·exact .inr ⟨e,Y01 (h1.own i hi) hb⟩
  ·exact .inl (h.inS b (.inr (.inl hb)))
  ·exact .inl (h.inS b (.inr (.inr hb)))
 ·rcases hb with hb|hb
  ·exact Nat.lt_of_lt_of_le (h.sz b hb) h4.size
  ·exact hb.2
 ·rcases hb with hb|hb|⟨i,hi,hb⟩
  ·exact h.inS b (.inl (.inl hb))
  ·exact h.inS b (.inl (.inr (.inl hb)))
  ·exact h.inS b (.inl (.inr (.inr (.inr ⟨i,hi,.inr (.inr hb)⟩))))
end
end Go.Proofs.YtdoghgnifkgfdaaGreat.Mute
namespace Go.Proofs.YtdoghgnifkgfdaaGreat
open Go.RowKit
theorem Y3c (p q:Option Addr) (m c c':Nat) (z:Nat→Int) (w:World) (hs:Sl w p (m*3) (fun j=>.int .i64 (z j))) (hq:Sl w q (m*3) (fun j=>.int .i64 (z j))) (hm:m≤1000000000000):
  Calls Tryz.prog 45 #[.slice p m c,.slice q m c'] w fun e w'=>e=.returned (.bool true)∧Below w.heap.size w w':=by
 have HS:Hid (Sl w p (m*3) (fun j=>.int .i64 (z j))):=hs;have HQ:Hid (Sl w q (m*3) (fun j=>.int .i64 (z j))):=hq;clear hs hq
 go_enter Tryz.func45,Tryz.ntmps45
 go_wp2_with fail
 go_loopw [5] (fun i wr=>∃k:Nat,k≤m∧i=.int .i64 k∧Hid (Below w.heap.size w wr)) (fun i _=>m-(intOf i).toNat)
 case atStart=>exact ⟨0,Nat.zero_le _,rfl,Below.refl _ _⟩
 case round=>
  obtain ⟨k,hk,rfl,HB⟩:=hrel;by_cases hlt:k<m
  ·obtain ⟨b,o,rfl,hc⟩:=(HS.out.below HB.out).at (by omega);obtain ⟨b',o',rfl,hc'⟩:=(HQ.out.below HB.out).at (by omega);have c0:=hc (k*3) (by omega);have c1:=hc (k*3+1) (by omega);have c2:=hc (k*3+2) (by omega);have d0:=hc' (k*3) (by omega);have d1:=hc' (k*3+1) (by omega);have d2:=hc' (k*3+2) (by omega);rw [←Nat.add_assoc] at c1 c2 d1 d2;clear hc hc';have hli:(k:Int)<(m:Int):=by omega
   generalize z (k*3)=x0 at *;generalize z (k*3+1)=x1 at *;generalize z (k*3+2)=x2 at *;go_wp2_with fail
   go_region_held3 (fun W=>W.cell? ⟨b,o+k*3,none⟩=some (.int .i64 x0)∧W.cell? ⟨b,o+k*3+1,none⟩=some (.int .i64 x1)∧W.cell? ⟨b,o+k*3+2,none⟩=some (.int .i64 x2)∧W.cell? ⟨b',o'+k*3,none⟩=some (.int .i64 x0)∧W.cell? ⟨b',o'+k*3+1,none⟩=some (.int .i64 x1)∧W.cell? ⟨b',o'+k*3+2,none⟩=some (.int .i64 x2)) (go_keep) (fail)
   go_wp2_with fail
   exact ⟨⟨k+1,by omega,by go_num,HB.out.drew⟩,by simp [intOf];omega⟩
  ·obtain rfl:k=m:=by omega
   go_wp2_with fail
   go_ret;exact ⟨rfl,HB.out⟩
def XX (c:Int) (n:Nat):Nat:=((if c<0 then -(c+1) else c) % (n:Int)).toNat
theorem Y7y (c:Int) {n:Nat} (hn:0<n):XX c n<n:=by
 unfold XX;have h1:=Int.emod_nonneg (if c<0 then -(c+1) else c) (show (n:Int)≠0 by omega);have h2:=Int.emod_lt_of_pos (if c<0 then -(c+1) else c) (show (0:Int)<n by omega);omega
theorem Yal (c:Int) (n:Nat) (w:World) (hn:0<n) (hn':n≤1000000000000) (h1:-9223372036854775808≤c) (h2:c≤9223372036854775807):
  Calls Tryz.prog 20 #[.int .i64 c,.int .i64 n] w fun e w'=>e=.returned (.int .i64 (XX c n:Nat))∧w'=w:=by
 have hz:¬((n:Int)=0):=by omega
 by_cases h:c<0
 ·have e1:IntKind.i64.wrap (c+1)=c+1:=by rw [IntKind.wrap_i64];omega
  have e2:IntKind.i64.wrap (-(c+1))=-(c+1):=by rw [IntKind.wrap_i64];omega
  have e3:((XX c n:Nat):Int)=(-(c+1)).tmod n:=by
   unfold XX;rw [if_pos h,Int.toNat_of_nonneg (Int.emod_nonneg _ hz),Int.tmod_eq_emod_of_nonneg (by omega)]
  rw [e3]
  go_enter Tryz.func20,Tryz.ntmps20
  go_wp2_with fail
  go_ret;exact ⟨by rw [Int.neg_tmod];rfl,rfl⟩
 ·have e3:((XX c n:Nat):Int)=c % n:=by
   unfold XX;rw [if_neg h,Int.toNat_of_nonneg (Int.emod_nonneg _ hz)]
  rw [e3]
  go_enter Tryz.func20,Tryz.ntmps20
  go_wp2_with fail
  go_ret;exact ⟨rfl,rfl⟩
def YO (w:World) (k:Nat) (v:Value) (i:Nat):Prop:=∃p m c,v=.slice p m c∧m≤1000000000000∧(m=0∨∃b,p=some ⟨b,0,none⟩∧∀j,j<m*k→w.cell? ⟨b,j,none⟩=some (.int .i64 (if j % k=0 then -1000-((i / 4:Nat):Int) else 0)))
theorem YO.sl {w:World} {k:Nat} {v:Value} {i:Nat} (h:YO w k v i):∃p m c,v=.slice p m c∧m≤1000000000000∧Sl w p (m*k) (fun j=>.int .i64 (if j % k=0 then -1000-((i / 4:Nat):Int) else 0)):=by
 obtain ⟨p,m,c,h1,h2,h3⟩:=h;refine ⟨p,m,c,h1,h2,?_⟩;rcases h3 with rfl|⟨b,rfl,h3⟩
 ·exact .inl (Nat.zero_mul _)
 ·exact .inr ⟨b,0,rfl,fun j hj=>by rw [Nat.zero_add];exact h3 j hj⟩
theorem YbE (B o nE cE nW cW:Nat) (pE pW:Option Addr) (fE fW:Nat→Value) (q:Option Addr) (cC:Nat) (w:World) (h0:w.cell? ⟨B,o,none⟩=some (.slice pE nE cE)) (h1:w.cell? ⟨B,o+1,none⟩=some (.slice pW nW cW)) (h2:w.cell? ⟨B,o+2,none⟩=some (.slice q 0 cC))
  (hE:Sl w pE nE fE) (hW:Sl w pW nW fW) (mE:∀i,i<nE→YO w 3 (fE i) i) (mW:∀i,i<nW→YO w 1 (fW i) i) (bE:nE≤1000000000000) (bW:nW≤1000000000000):
  Calls Tryz.prog 23 #[.pointer (some ⟨B,o,none⟩)] w fun e w'=>e=.returned (.bool true)∧w'=w:=by
 have HE:Hid (Sl w pE nE fE):=hE;have HW:Hid (Sl w pW nW fW):=hW;have ME:Hid (∀i,i<nE→YO w 3 (fE i) i):=mE;have MW:Hid (∀i,i<nW→YO w 1 (fW i) i):=mW;clear hE hW mE mW
 go_enter Tryz.func23,Tryz.ntmps23
 go_wp2_with fail
 go_loop [3] (fun i=>∃k:Nat,k≤nE∧i=.int .i64 k) (fun i=>nE-(intOf i).toNat)
 case atStart=>exact ⟨0,Nat.zero_le _,rfl⟩
 case round=>
  obtain ⟨k,hk,rfl⟩:=hrel;by_cases hlt:k<nE
  ·obtain ⟨b,oo,rfl,hc⟩:=HE.out.at (by omega);have c0:=hc k hlt;clear hc;obtain ⟨p,m,c,hv,hm,hs⟩:=(ME.out k hlt).sl;rw [hv] at c0;clear hv;have HS:Hid (Sl w p (m*3) (fun j=>.int .i64 (if j % 3=0 then -1000-((k / 4:Nat):Int) else 0))):=hs;clear hs;have hli:(k:Int)<(nE:Int):=by omega
   have hq:(-1000:Int)-(k:Int) / 4=-1000-((k / 4:Nat):Int):=by omega
   generalize (-1000:Int)-((k / 4:Nat):Int)=mk at *;go_wp2_with fail
   go_loop [4] (fun i=>∃j:Nat,j≤m∧i=.int .i64 j) (fun i=>m-(intOf i).toNat)
   case atStart=>exact ⟨0,Nat.zero_le _,rfl⟩
   case round=>
    obtain ⟨j,hj,rfl⟩:=hrel;by_cases hl2:j<m
    ·obtain ⟨b2,o2,rfl,hc⟩:=HS.out.at (by omega);have d0:=hc (j*3) (by omega);have d1:=hc (j*3+1) (by omega);have d2:=hc (j*3+2) (by omega);rw [if_pos (by omega)] at d0;rw [if_neg (by omega),←Nat.add_assoc] at d1 d2;clear hc;have hl3:(j:Int)<(m:Int):=by omega
     go_wp2_with fail
     exact ⟨⟨j+1,by omega,by go_num⟩,by simp [intOf];omega⟩
    ·obtain rfl:j=m:=by omega
     go_wp2_with fail
     exact ⟨⟨k+1,by omega,by go_num⟩,by simp [intOf];omega⟩
  ·obtain rfl:k=nE:=by omega
   go_wp2_with fail
   go_loop [5] (fun i=>∃k:Nat,k≤nW∧i=.int .i64 k) (fun i=>nW-(intOf i).toNat)
   case atStart=>exact ⟨0,Nat.zero_le _,rfl⟩
   case round=>
    obtain ⟨k,hk,rfl⟩:=hrel;by_cases hlt:k<nW
    ·obtain ⟨b,oo,rfl,hc⟩:=HW.out.at (by omega);have c0:=hc k hlt;clear hc;obtain ⟨p,m,c,hv,hm,hs⟩:=(MW.out k hlt).sl;rw [hv] at c0;clear hv;have HS:Hid (Sl w p (m*1) (fun j=>.int .i64 (if j % 1=0 then -1000-((k / 4:Nat):Int) else 0))):=hs;clear hs;have hli:(k:Int)<(nW:Int):=by omega
     have hq:(-1000:Int)-(k:Int) / 4=-1000-((k / 4:Nat):Int):=by omega
     generalize (-1000:Int)-((k / 4:Nat):Int)=mk at *;go_wp2_with fail
     go_loop [6] (fun i=>∃j:Nat,j≤m∧i=.int .i64 j) (fun i=>m-(intOf i).toNat)
     case atStart=>exact ⟨0,Nat.zero_le _,rfl⟩
     case round=>
      obtain ⟨j,hj,rfl⟩:=hrel;by_cases hl2:j<m
      ·obtain ⟨b2,o2,rfl,hc⟩:=HS.out.at (by omega);have d0:=hc j (by omega);rw [if_pos (by omega)] at d0;clear hc;have hl3:(j:Int)<(m:Int):=by omega
       go_wp2_with fail
       exact ⟨⟨j+1,by omega,by go_num⟩,by simp [intOf];omega⟩
      ·obtain rfl:j=m:=by omega
       go_wp2_with fail
       exact ⟨⟨k+1,by omega,by go_num⟩,by simp [intOf];omega⟩
    ·obtain rfl:k=nW:=by omega
     go_wp2_with fail
     go_loop [7] (fun i=>i=.int .i64 0) (fun _=>0)
     case atStart=>rfl
     case round=>
      subst hrel;go_wp2_with fail
      go_ret;exact ⟨rfl,rfl⟩
section
variable {P:Program} (w:World)
theorem Y66 (t ty:TypeId) (base:Nat) (e:TypeId) (i:TypeInfo) (z:Value) (size bytes:Nat) (ht:P.underlying t=some (.slice e)) (hi:P.info? e=some i) (hz:i.zero=some z)
  (hsize:i.size=size) (hby:i.bytes=bytes) (hzs:z.cells.size=size) (hsz:0<size)
  (v:Value) (n:Nat) (xs:List Value) (hown:w.ownsRow base e size v n xs)
  (ad:Addr) (m c:Nat) (news:List Value) (hl:news.length=m*size) (hnews:∀j u,news[j]?=some u→w.cell? (ad.add j)=some u) (h1:∀u∈news,u.oneCell'=true)
  (hm:0<m) (h63:n+m≤maxLen) (hbytes:(n+m)*bytes≤140737488355328) (hbase:base≤w.heap.size):
  ∃g cap w',(Builtin.append_ #[t,t] ty #[v,.slice (some ad) m c]).run P w=.ok (.slice (some ⟨g,0,none⟩) (n+m) cap) w'∧
   w'.ownsRow base e size (.slice (some ⟨g,0,none⟩) (n+m) cap) (n+m) (xs++news)∧w.grownBy w' v.ownBlock∧(v.ownBlock=some g∨g=w.heap.size)∧g<w'.heap.size∧w'.ownsRow base e size v n xs∧(∀b j u,w.cell? ⟨b,j,none⟩=some u→(n*size≤j∧j<n*size+news.length∧w'.cell? ⟨b,j,none⟩=news[j-n*size]?)∨w'.cell? ⟨b,j,none⟩=some u):=by
 obtain ⟨g,cap,w',hr,h2,h3,h4,h5⟩:=run_append_lies (P:=P) w t ty base e i z size bytes ht hi hz hsize hby hzs hsz v n xs hown ad m c news hl hnews h1 hm h63 hbytes hbase _ rfl;refine ⟨g,cap,w',hr,h2,h3,h4,h5,?_⟩;subst hsize;subst hby
 rcases hown.2 with ⟨rfl,rfl⟩|⟨g0,cap0,cur,rfl,hbg,hg,hnc,hcm,hcs,htake⟩
 ·exact ⟨⟨hown.1,.inl ⟨rfl,rfl⟩⟩,fun b j u hu=>.inr (h3.cell hu (by simp [Value.ownBlock]))⟩
 ·by_cases hroom:n+m≤cap0
  ·have hfit:n*i.size+news.length≤cur.size:=by rw [hl,hcs,←Nat.add_mul];exact Nat.mul_le_mul_right _ hroom
   have hr':=run_append_room (P:=P) w t ty e i ht hi g0 n cap0 cur hg ad m c news hl hnews h1 hroom hfit;rw [hr'] at hr;injection hr with _ hw
   subst hw;refine ⟨⟨hown.1,.inr ⟨g0,cap0,_,rfl,hbg,setRow_heap w g0 cur _ e _ hg,hnc,hcm,?_,?_⟩⟩,fun b j u hu=>?_⟩
   ·simp only [List.size_toArray,List.length_append,List.length_take,List.length_drop,Array.length_toList];omega
   ·have hx:(cur.toList.take (n*i.size)).length=n*i.size:=by rw [htake];exact hown.1
    rw [List.append_assoc];exact (List.take_left' hx).trans htake
   ·by_cases hb:b=g0
    ·subst hb;have hu':cur[j]?=some u:=by
      have:=hu;unfold World.cell? at this;rw [hg] at this;simpa using this
     have hj:j<cur.size:=(Array.getElem?_eq_some_iff.1 hu').1;have hlen:(cur.toList.take (n*i.size)).length=n*i.size:=by rw [htake];exact hown.1
     have hcell:∀vs:List Value,(w.setRow b vs.toArray).cell? ⟨b,j,none⟩=vs[j]?:=fun vs=>by
      unfold World.cell?;rw [setRow_heap w b cur _ e _ hg];simp
     rw [hcell];by_cases h6:j<n*i.size
     ·right
      rw [List.append_assoc,List.getElem?_append_left (by omega),List.getElem?_take_of_lt h6];simpa using hu'
     ·by_cases h7:j<n*i.size+news.length
      ·left
       refine ⟨by omega,h7,?_⟩;rw [List.append_assoc,List.getElem?_append_right (by omega),List.getElem?_append_left (by omega),hlen]
      ·right
       rw [List.append_assoc,List.getElem?_append_right (by omega),List.getElem?_append_right (by omega),hlen,List.getElem?_drop,show n*i.size+news.length+(j-n*i.size-news.length)=j by omega];simpa using hu'
    ·right
     exact h3.cell hu (by simpa [Value.ownBlock] using hb)
  ·have holds:∀j u,xs[j]?=some u→w.cell? ((⟨g0,0,none⟩:Addr).add j)=some u:=hown.cells (g:=g0) rfl;have hr':=run_append_grow (P:=P) w t ty e i z ht hi hz ⟨g0,0,none⟩ n cap0 xs hown.1 holds ad m c news hl hnews (by omega) (by simp only [maxLen] at h63;omega) (growslice_fits (by omega) hbytes);rw [hr'] at hr;injection hr with _ hw
   subst hw;have hG:w.grownBy (w.drew.alloc (.cells (xs.toArray++news.toArray++Builtin.zeroCells z.cells (grownCap w (n+m) cap0 e-(n+m))) e)) none:=⟨rfl,rfl,rfl,by simp,fun k hk _=>heap_alloc_old w.drew _ hk⟩;exact ⟨hown.kept (row:=none) hG (by simp [Value.ownBlock]),fun b j u hu=>.inr (hG.cell hu (by simp))⟩
theorem JB {ops:Array Oper} {rest:List Oper} {o:Oper} {a:Act} {Q:Exit→Act→World→Prop} (hgd:o.guard=none) (s x:Operand) (t:TypeId)
  (ho:o.op=.call {callee:=.builtin .append,args:=#[s,x],argTypes:=#[t,t]})
  (base:Nat) (e:TypeId) (z:Value) (size bytes:Nat) (ht:P.underlying t=some (.slice e)) (hinfo:(P.info? e).map (fun i=>(i.zero,i.size,i.bytes))=some (some z,size,bytes))
  (hzs:z.cells.size=size) (hsz:0<size) (v:Value) (n:Nat) (xs:List Value) (hs:a.eval s=v) (hown:w.ownsRow base e size v n xs)
  (B m:Nat) (news:List Value) (ty:TypeId) (hx:a.eval x=.slice (some ⟨B,0,none⟩) m m) (hl:news.length=m*size) (hrow:w.heap[B]?=some (.cells news.toArray ty (0,0))) (h1:∀u∈news,u.oneCell'=true)
  (hm:0<m) (h63:n+m≤maxLen) (hbytes:(n+m)*bytes≤140737488355328) (hbase:base≤w.heap.size)
  (h:∀g cap w',w'.ownsRow base e size (.slice (some ⟨g,0,none⟩) (n+m) cap) (n+m) (xs++news)→w.grownBy w' v.ownBlock→(v.ownBlock=some g∨g=w.heap.size)→g<w'.heap.size→w'.ownsRow base e size v n xs→(∀b j u,w.cell? ⟨b,j,none⟩=some u→(n*size≤j∧j<n*size+news.length∧w'.cell? ⟨b,j,none⟩=news[j-n*size]?)∨w'.cell? ⟨b,j,none⟩=some u)→wpList P ops Q rest (a.put o.dst (.slice (some ⟨g,0,none⟩) (n+m) cap)) w'):wpList P ops Q (o::rest) a w:=by
 obtain ⟨i,h2,h3,h4,h5⟩:=info_parts hinfo;obtain ⟨g,cap,w',hr,k2,k3,k4,k5,k6,k7⟩:=Y66 (P:=P) w t o.type base e i z size bytes ht h2 h3 h4 h5 hzs hsz v n xs hown ⟨B,0,none⟩ m m news hl (by
  have:=World.news_of_block hrow;simpa using this) h1 hm h63 hbytes hbase
 refine wpList_plain hgd fun _ hK=>?_;unfold Oper.wp execOp;simp only [ho,resolve,invoke,builtin,Sem.run_bind,Sem.run_pure,Result.andThen_ok,List.map_toArray,List.map_cons,List.map_nil,hs,hx,hr];exact hK _ _ (h g cap w' k2 k3 k4 k5 k6 k7)
end
def pat (k i j:Nat):Value:=.int .i64 (if j % k=0 then -1000-((i / 4:Nat):Int) else 0)
def Yx (k i m:Nat):List Value:=(List.range (m*k)).map (pat k i)
theorem Jy (k i m j:Nat):(Yx k i m)[j]?=if j<m*k then some (pat k i j) else none:=by
 unfold Yx;rw [List.getElem?_map];by_cases h:j<m*k
 ·rw [List.getElem?_range h,if_pos h];rfl
 ·rw [if_neg h,List.getElem?_eq_none (by simpa using h)];rfl
theorem ZM (k i m:Nat):(Yx k i m).length=m*k:=by simp [Yx]
theorem Y2w (k i m j:Nat) (h:m*k≤j):pat k i (j-m*k)=pat k i j:=by
 unfold pat;have:(j-m*k) % k=j % k:=by
  rw [show j=(j-m*k)+m*k by omega,Nat.add_sub_cancel,Nat.add_mul_mod_self_right]
 rw [this]
theorem Y9t (k i m q:Nat):Yx k i m++Yx k i q=Yx k i (m+q):=by
 apply List.ext_getElem?;intro j;rw [Jy,List.getElem?_append,ZM];by_cases h:j<m*k
 ·rw [if_pos h,Jy,if_pos h,if_pos (by rw [Nat.add_mul];omega)]
 ·rw [if_neg h,Jy];by_cases h2:j-m*k<q*k
  ·rw [if_pos h2,if_pos (by rw [Nat.add_mul];omega),Y2w _ _ _ _ (by omega)]
  ·rw [if_neg h2,if_neg (by rw [Nat.add_mul];omega)]
section
variable {w w' w0:World} {base e size n cap g:Nat} {xs:List Value} {k i m:Nat} {v l:Value}
theorem XC (h:w.ownsRow base e size (.slice (some ⟨g,0,none⟩) n cap) n xs) {j:Nat} {u:Value} (hx:xs[j]?=some u):w.cell? ⟨g,j,none⟩=some u:=by
 have:=h.cells (g:=g) rfl j u hx;rwa [Addr.add_lit,Nat.zero_add] at this
theorem Y0k (h:w.ownsRow base e size (.slice (some ⟨g,0,none⟩) n cap) n xs) (j:Nat) (u:Value):(w.setCell ⟨g,j,none⟩ u).ownsRow base e size (.slice (some ⟨g,0,none⟩) n cap) n (xs.set j u):=by
 rcases h with ⟨hl,⟨hv,_⟩|⟨g',cap',cur,hv,hb,hg,h1,h2,h3,h4⟩⟩
 ·cases hv
 ·simp only [Value.slice.injEq,Option.some.injEq,Addr.mk.injEq] at hv;obtain ⟨⟨rfl,-⟩,-,rfl⟩:=hv;refine ⟨by simp [hl],.inr ⟨g,cap,cur.setIfInBounds j u,rfl,hb,heap_setCell_same w g j cur e u hg,h1,h2,by simp [h3],?_⟩⟩;rw [Array.toList_setIfInBounds,List.take_set,h4]
theorem Y13 (h:w.ownsRow base e size (.slice (some ⟨g,0,none⟩) n cap) n xs) (j:Nat):w.frozen? ⟨g,j,none⟩=false:=by
 rcases h with ⟨hl,⟨hv,_⟩|⟨g',cap',cur,hv,hb,hg,h1,h2,h3,h4⟩⟩
 ·cases hv
 ·simp only [Value.slice.injEq,Option.some.injEq,Addr.mk.injEq] at hv;obtain ⟨⟨rfl,-⟩,-,rfl⟩:=hv;unfold World.frozen?;simp [hg]
theorem YO.of_own (h:w.ownsRow base e k v m (Yx k i m)) (hm:m≤1000000000000):YO w k v i:=by
 rcases h.2 with ⟨rfl,rfl⟩|⟨g,cap,cur,rfl,_⟩
 ·exact ⟨none,0,0,rfl,by omega,.inl rfl⟩
 ·exact ⟨_,m,cap,rfl,hm,.inr ⟨g,rfl,fun j hj=>XC h (by rw [Jy,if_pos hj];rfl)⟩⟩
theorem YO.append {n q:Nat} {u:Value} (h:YO w k u i) (hK:∀b j x,w.cell? ⟨b,j,none⟩=some x→(n*k≤j∧j<n*k+(Yx k i q).length∧w'.cell? ⟨b,j,none⟩=(Yx k i q)[j-n*k]?)∨w'.cell? ⟨b,j,none⟩=some x):YO w' k u i:=by
 obtain ⟨p,m,c,h1,h2,h3⟩:=h;refine ⟨p,m,c,h1,h2,h3.imp id fun ⟨b,hb,hc⟩=>⟨b,hb,fun j hj=>?_⟩⟩;rcases hK b j _ (hc j hj) with ⟨e1,e2,e3⟩|e3
 ·rw [ZM] at e2;rw [e3,Jy,if_pos (by omega),Y2w _ _ _ _ e1];rfl
 ·exact e3
theorem YO.heap {u:Value} (h:YO w k u i) (he:∀b,u.ownBlock=some b→w'.heap[b]?=w.heap[b]?):YO w' k u i:=by
 obtain ⟨p,m,c,rfl,h2,h3⟩:=h;refine ⟨p,m,c,rfl,h2,h3.imp id fun ⟨b,hb,hc⟩=>⟨b,hb,fun j hj=>?_⟩⟩;subst hb;rw [World.cell?_of_block (a:=⟨b,j,none⟩) (he b rfl)];exact hc j hj
theorem XD {w w':World} {base e size n:Nat} {v:Value} {xs:List Value} (h:w.ownsRow base e size v n xs) (he:∀b,v.ownBlock=some b→w'.heap[b]?=w.heap[b]?):w'.ownsRow base e size v n xs:=by
 rcases h with ⟨hl,⟨hv,hn⟩|⟨g,cap,cur,hv,hb,hg,h1,h2,h3,h4⟩⟩
 ·exact ⟨hl,.inl ⟨hv,hn⟩⟩
 ·exact ⟨hl,.inr ⟨g,cap,cur,hv,hb,(he g (by rw [hv];rfl)).trans hg,h1,h2,h3,h4⟩⟩
theorem But.setB {w0 w:World} {base b:Nat} (h:But (fun j=>base≤j) w0 w) (hb:base≤b) (j:Nat) (v:Value):But (fun j=>base≤j) w0 (w.setCell ⟨b,j,none⟩ v):=
 ⟨h.os,h.tape,h.output,by rw [size_setCell];exact h.size,fun k hk hn=>(heap_setCell_other _ _ _ _ (fun e=>hn (by rw [e];exact hb))).trans (h.block k hk hn)⟩
structure KInv (w0:World) (base e k i m:Nat) (l:Value) (us:List Value) (w:World):Prop where
 but:But (fun j=>base≤j) w0 w
 own:w.ownsRow base e k l m (Yx k i m)
 full:∀u,u∈us→YO w k u i
 ub:∀u,u∈us→∀b,u.ownBlock=some b→base≤b∧b<w.heap.size
theorem KInv.app {wA:World} {us:List Value} {q g cap:Nat} (h:KInv w0 base e k i m l us w) (hA:Below w.heap.size w wA) (ho:w'.ownsRow base e k (.slice (some ⟨g,0,none⟩) (m+q:Nat) cap) (m+q) (Yx k i m++Yx k i q)) (hg:wA.grownBy w' l.ownBlock) (hl:w'.ownsRow base e k l m (Yx k i m))
  (hK:∀b j x,wA.cell? ⟨b,j,none⟩=some x→(m*k≤j∧j<m*k+(Yx k i q).length∧w'.cell? ⟨b,j,none⟩=(Yx k i q)[j-m*k]?)∨w'.cell? ⟨b,j,none⟩=some x) (hm:m+q≤1000000000000):
  KInv w0 base e k i m l (us++[.slice (some ⟨g,0,none⟩) (m+q:Nat) cap]) w':=by
 have hs:w.heap.size≤w'.heap.size:=Nat.le_trans hA.size hg.size;refine ⟨⟨hg.os.trans (hA.os.trans h.but.os),hg.tape.trans (hA.tape.trans h.but.tape),hg.output.trans (hA.output.trans h.but.output),Nat.le_trans h.but.size hs,fun b hb hn=>?_⟩,hl,fun u hu=>?_,fun u hu b hb=>?_⟩
 ·have hb':b<w.heap.size:=Nat.lt_of_lt_of_le hb h.but.size;rw [hg.block b (Nat.lt_of_lt_of_le hb' hA.size) (fun e=>hn (h.own.lt b e.symm).1),hA.block b hb'];exact h.but.block b hb hn
 ·rcases List.mem_append.1 hu with hu|hu
  ·exact ((h.full u hu).heap (w':=wA) fun b hb=>hA.block b (h.ub u hu b hb).2).append hK
  ·rw [List.mem_singleton.1 hu];rw [Y9t] at ho;exact YO.of_own ho hm
 ·rcases List.mem_append.1 hu with hu|hu
  ·exact ⟨(h.ub u hu b hb).1,Nat.lt_of_lt_of_le (h.ub u hu b hb).2 hs⟩
  ·rw [List.mem_singleton.1 hu] at hb;exact ho.lt b hb
structure HInv (w0:World) (base S B c tB t k i:Nat) (fB:Nat→Value) (ve:Value) (us:List Value) (v:Value) (n:Nat) (xs:List Value) (w:World):Prop where
 but:But (fun j=>j=B∨ve.ownBlock=some j∨base≤j) w0 w
 sz:S≤w.heap.size
 full:∀u,u∈us→YO w k u i
 ub:∀u,u∈us→∀b,u.ownBlock=some b→base≤b∧b<S
 row:RowF w B 5 tB (fun j=>if j=c then v else fB j)
 own:w.ownsRow 0 t 1 v n xs
 blk:∀b,v.ownBlock=some b→ve.ownBlock=some b∨S≤b
theorem HInv.app {wA:World} {us:List Value} {S B c tB t g cap:Nat} {fB:Nat→Value} {ve u v:Value} {n:Nat} {xs:List Value} (h:HInv w0 base S B c tB t k i fB ve us v n xs w) (hA:Below w.heap.size w wA) (ho:w'.ownsRow 0 t 1 (.slice (some ⟨g,0,none⟩) (n+1:Nat) cap) (n+1) (xs++[u])) (hg:wA.grownBy w' v.ownBlock) (hat:v.ownBlock=some g∨g=wA.heap.size)
  (hB1:B<base) (hB2:ve.ownBlock≠some B) (hve:∀b,ve.ownBlock=some b→b<base) (hbS:base≤S) (h0S:w0.heap.size≤S):
  HInv w0 base S B c tB t k i fB ve us (.slice (some ⟨g,0,none⟩) (n+1:Nat) cap) (n+1) (xs++[u]) (w'.setCell ⟨B,c,none⟩ (.slice (some ⟨g,0,none⟩) (n+1:Nat) cap))∧RowF w' B 5 tB (fun j=>if j=c then v else fB j):=by
 have hs:w.heap.size≤w'.heap.size:=Nat.le_trans hA.size hg.size;have hvB:v.ownBlock≠some B:=fun e=>by
  rcases h.blk B e with e|e
  ·exact hB2 e
  ·omega
 have hr:RowF w' B 5 tB (fun j=>if j=c then v else fB j):=(h.row.of_heap (hA.block B h.row.lt)).of_heap (hg.block B (Nat.lt_of_lt_of_le h.row.lt hA.size) (fun e=>hvB e.symm));have hSA:S≤wA.heap.size:=Nat.le_trans h.sz hA.size;refine ⟨⟨⟨hg.os.trans (hA.os.trans h.but.os),hg.tape.trans (hA.tape.trans h.but.tape),hg.output.trans (hA.output.trans h.but.output),by rw [size_setCell];exact Nat.le_trans h.but.size hs,fun b hb hn=>?_⟩,by rw [size_setCell];exact Nat.le_trans h.sz hs,fun x hx=>?_,h.ub,(hr.set c _).congr fun j _=>?_,?_,fun b hb=>?_⟩,hr⟩
 ·have hb':b<w.heap.size:=Nat.lt_of_lt_of_le hb h.but.size;rw [heap_setCell_other _ _ _ _ (fun e=>hn (.inl e)),hg.block b (Nat.lt_of_lt_of_le hb' hA.size) (fun e=>by
   rcases h.blk b e.symm with e|e
   ·exact hn (.inr (.inl e))
   ·omega),hA.block b hb']
  exact h.but.block b hb hn
 ·refine (h.full x hx).heap fun b hb=>?_;have hb':=h.ub x hx b hb;have hbw:b<w.heap.size:=Nat.lt_of_lt_of_le hb'.2 h.sz;rw [heap_setCell_other _ _ _ _ (by show b≠B;omega),hg.block b (Nat.lt_of_lt_of_le hbw hA.size) (fun e=>by
   rcases h.blk b e.symm with e|e
   ·have:=hve b e;omega
   ·omega),hA.block b hbw]
 ·by_cases e:j=c
  ·rw [if_pos e,if_pos e]
  ·rw [if_neg e,if_neg e,if_neg e]
 ·have hgB:g≠B:=fun e=>by
   subst e;rcases hat with e|e
   ·exact hvB e
   ·omega
  exact ho.kept (row:=some B) ⟨rfl,rfl,rfl,by rw [size_setCell];exact Nat.le_refl _,fun j _ hne=>heap_setCell_other _ _ _ _ (fun e=>hne (by rw [e]))⟩ (.inr (by simpa [Value.ownBlock] using hgB))
 ·have hgb:g=b:=by simpa [Value.ownBlock] using hb
  subst hgb;rcases hat with e|e
  ·exact h.blk g e
  ·exact .inr (by omega)
end
end Go.Proofs.YtdoghgnifkgfdaaGreat
