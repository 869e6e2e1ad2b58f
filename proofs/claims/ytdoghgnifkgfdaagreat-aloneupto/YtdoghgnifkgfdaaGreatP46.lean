import Derived.Test.YtdoghgnifkgfdaaGreatP41
import Derived.Test.YtdoghgnifkgfdaaGreatP43
import Derived.Test.YtdoghgnifkgfdaaGreatP45
set_option maxRecDepth 100000
set_option maxHeartbeats 4000000
namespace Go.Proofs.YtdoghgnifkgfdaaGreat.Mute
open Go Go.Conc Go.RowKit
def Jz (k:Ker) (s:KSt):Prop:=∀i,i<k.nC→∀v,v∈s.xs i→∃x,v=.int .i64 x
theorem Jz.win {k:Ker} {s:KSt} (h:Jz k s) (p:Nat×Nat):Jz k (winS k p s):=fun i hi v hv=>by
 by_cases e:i=p.1
 ·subst e;have hv':v∈updN s.xs p.1 (s.xs p.1++(Yf (k.n p.1) (k.ci p.1) p.2 (s.z p.1)).1.flatMap Yv) p.1:=hv;rw [Yh] at hv';rcases List.mem_append.1 hv' with hv'|hv'
  ·exact h _ hi v hv'
  ·obtain ⟨e,he,hm⟩:=List.mem_flatMap.1 hv';obtain ⟨a,b,c,rfl⟩:=(JW _ _ _ _).1 e he;have hm':v∈[Value.int .i64 a,.int .i64 b,.int .i64 c]:=hm;simp only [List.mem_cons,List.not_mem_nil,or_false] at hm';rcases hm' with rfl|rfl|rfl<;>exact ⟨_,rfl⟩
 ·have hv':v∈updN s.xs p.1 (s.xs p.1++(Yf (k.n p.1) (k.ci p.1) p.2 (s.z p.1)).1.flatMap Yv) i:=hv;rw [YG _ _ e] at hv';exact h _ hi v hv'
theorem Ybb (k:Ker) (p:Nat×Nat) (s:KSt) (i:Nat):(winS k p s).m i≤s.m i+p.2+1:=by
 show updN s.m p.1 (s.m p.1+(Yf (k.n p.1) (k.ci p.1) p.2 (s.z p.1)).1.length) i≤s.m i+p.2+1;have:=(JW (k.n p.1) (k.ci p.1) p.2 (s.z p.1)).2;by_cases e:i=p.1
 ·subst e;rw [Yh];omega
 ·rw [YG _ _ e];omega
def sumE (wn:Nat→Nat×Nat):Nat→Nat
 |0=>0
 |m+1=>sumE wn m+(wn m).2+1
theorem Y3k {k:Ker} (wn:Nat→Nat×Nat):∀(rem j:Nat) (s:KSt),Jz k s→Jz k (rowS k wn rem j s)∧∀i,(rowS k wn rem j s).m i+sumE wn j≤s.m i+sumE wn (j+rem)
 |0,_,_,h=>⟨h,fun _=>Nat.le_refl _⟩
 |rem+1,j,s,h=>by
  obtain ⟨h1,h2⟩:=Y3k wn rem (j+1) (winS k (wn j) s) (h.win _);refine ⟨h1,fun i=>?_⟩;have h3:=h2 i;have h4:=Ybb k (wn j) s i;have h5:sumE wn (j+1)=sumE wn j+(wn j).2+1:=rfl;show (rowS k wn rem (j+1) (winS k (wn j) s)).m i+sumE wn j≤_;rw [show j+(rem+1)=j+1+rem by omega];omega
theorem Y3b (c:Cfg) (i:Nat):∀m,(∀j,j<m→1≤c.row i (j*2+1))→(sumE (wnOf c i) m:Int)=sumTo (c.row i) m+m
 |0,_=>rfl
 |m+1,h=>by
  have h1:=Y3b c i m (fun j hj=>h j (by omega));have h2:=h m (by omega);have h3:sumE (wnOf c i) (m+1)=sumE (wnOf c i) m+(c.row i (m*2+1)).toNat+1:=rfl;have h4:sumTo (c.row i) (m+1)=sumTo (c.row i) m+c.row i (m*2+1):=rfl;rw [h3,h4];omega
theorem Y9N {c:Cfg} {i:Nat} (h:YU c i):sumE (wnOf c i) (c.nRow i)≤206:=by
 obtain ⟨h1,h2,h3⟩:=h;have h4:=Y3b c i (c.nRow i) (fun j hj=>(h2 j hj).2.2);omega
theorem Y7F {n:Nat} {xs:List Value} (hl:xs.length=n) (h:∀v,v∈xs→∃x,v=.int .i64 x):∃tz:Nat→Int,xs=(List.range n).map fun j=>.int .i64 (tz j):=by
 obtain ⟨tz,ht⟩:=choose_lt (0:Int) (n:=n) (P:=fun i x=>xs[i]?=some (.int .i64 x)) (fun i hi=>by
  obtain ⟨x,hx⟩:=h (xs[i]'(by omega)) (List.getElem_mem _);exact ⟨x,by rw [List.getElem?_eq_getElem (by omega),hx]⟩)
 refine ⟨tz,List.ext_getElem? fun i=>?_⟩;by_cases hi:i<n
 ·rw [ht i hi];simp [hi]
 ·rw [List.getElem?_eq_none (by omega)];simp [hi]
structure Pair (w:World) (K Kb mm ff:Nat) (S S':Nat→Prop):Prop where
 ex:∃(k:Ker) (t:Tab) (s:KSt) (f:Nat→Value) (rr:Nat) (r:RK) (t':Tab) (to_:Nat) (vs:Nat→Value) (fr:Nat),X8 w k t s f rr S∧YZ w k r t' to_ s vs fr S'∧k.kb=K∧r.Kb=Kb∧t'.nT=t.nT∧t'.nw=t.nw∧t'.wn=t.wn∧rr=fr % t.nT∧(Jz k s∧∀i,i<t.nT→sumE (t.wn i) (t.nw i)≤206)∧(∀i,s.m i≤mm)∧fr≤ff
 ap:∀b,S b→S' b→False
section
variable {w w':World} {K Kb mm ff:Nat} {S S':Nat→Prop}
theorem Pair.keep (h:Pair w K Kb mm ff S S') (hk:∀b,S b∨S' b→w'.heap[b]?=w.heap[b]?) (hs:w.heap.size≤w'.heap.size):Pair w' K Kb mm ff S S':=by
 obtain ⟨⟨k,t,s,f,rr,r,t',to_,vs,fr,h1,h2,h3⟩,ha⟩:=h;exact ⟨⟨k,t,s,f,rr,r,t',to_,vs,fr,h1.keep (fun b hb=>hk b (.inl hb)) hs,h2.keep (fun b hb=>hk b (.inr hb)) hs,h3⟩,ha⟩
theorem Pair.lt (h:Pair w K Kb mm ff S S') {b:Nat} (hb:S b∨S' b):b<w.heap.size:=by
 obtain ⟨⟨k,t,s,f,rr,r,t',to_,vs,fr,h1,h2,-⟩,-⟩:=h;rcases hb with hb|hb
 ·exact h1.sz b hb
 ·exact h2.sz b hb
theorem Pair.le (h:Pair w K Kb mm ff S S') {m2 f2:Nat} (hm:mm≤m2) (hf:ff≤f2):Pair w K Kb m2 f2 S S':=by
 obtain ⟨⟨k,t,s,f,rr,r,t',to_,vs,fr,h1,h2,h3,h4,h5,h6,h7,h8,h9,h10,h11⟩,ha⟩:=h;exact ⟨⟨k,t,s,f,rr,r,t',to_,vs,fr,h1,h2,h3,h4,h5,h6,h7,h8,h9,fun i=>Nat.le_trans (h10 i) hm,Nat.le_trans h11 hf⟩,ha⟩
theorem Pair.frame (h:Pair w K Kb mm ff S S') {ip:Option Addr} {il ic:Nat} {zi:Nat→Int} (hin:Sl w ip (il*2) (fun j=>.int .i64 (zi j))) (hp:(ip=none∧il=0)∨∃ad,ip=some ad∧(il=0∨∀lb lo,ad=⟨lb,lo,none⟩→¬S lb∧¬S' lb)) (hb:16*il≤140737488351232) (hmm:mm+1600≤1000000000) (hff:ff≤1000000000000):
  CallsR Tryz.prog 21 #[.pointer (some ⟨K,0,none⟩),.pointer (some ⟨Kb,0,none⟩),.slice ip il ic] w (fun v w'=>v=.bool true∧∃SK SR,Pair w' K Kb (mm+206) (ff+1) SK SR∧But (fun b=>S b∨S' b) w w'∧(∀b,SK b→S b∨w.heap.size≤b)∧∀b,SR b→S' b∨w.heap.size≤b):=by
 obtain ⟨⟨k,t,s,f,rr,r,t',to_,vs,fr,h1,h2,rfl,rfl,h5,h6,h7,h8,h9,h10,h11⟩,ha⟩:=h;have hrl:=h1.rlt;have hro:=Y3k (k:=k) (t.wn rr) (t.nw rr) 0 s h9.1;have hmm':∀i,s.m i+1600≤1000000000:=fun i=>by have:=h10 i;omega
 have hsum:=h9.2 rr hrl;have step:∀(v:Value) (w':World),(v=.bool true∧∃f' vs' SK SR,X8 w' k t (rowS k (t.wn rr) (t.nw rr) 0 s) f' ((rr+1) % t.nT) SK∧YZ w' k r t' to_ (rowS k (t'.wn (fr % t'.nT)) (t'.nw (fr % t'.nT)) 0 s) vs' (fr+1) SR∧But (fun b=>S b∨S' b) w w'∧(∀b,SK b→SR b→False)∧(∀b,SK b→S b∨w.heap.size≤b)∧∀b,SR b→S' b∨w.heap.size≤b)→
   (v=.bool true∧∃SK SR,Pair w' k.kb r.Kb (mm+206) (ff+1) SK SR∧But (fun b=>S b∨S' b) w w'∧(∀b,SK b→S b∨w.heap.size≤b)∧∀b,SR b→S' b∨w.heap.size≤b):=by
  rintro v w' ⟨rfl,f',vs',SK,SR,k1,k2,k3,k4,k5,k6⟩;rw [h5,h6,h7,←h8] at k2;refine ⟨rfl,SK,SR,⟨⟨k,t,_,f',_,r,t',to_,vs',fr+1,k1,k2,rfl,rfl,h5,h6,h7,?_,⟨hro.1,h9.2⟩,fun i=>?_,by omega⟩,k4⟩,k3,k5,k6⟩
  ·rw [h8,Nat.mod_add_mod]
  ·have q1:=hro.2 i;have q2:=h10 i;have q3:sumE (t.wn rr) 0=0:=rfl;rw [Nat.zero_add] at q1;omega
 rcases hp with ⟨rfl,h0⟩|⟨ad,rfl,hS⟩
 ·exact (Y55 h1 h2 ha h0 (by omega) hmm').mono step
 ·by_cases h4:il≤4
  ·exact (Ybd h1 h2 ha hin hS h4 (by omega) hmm').mono step
  ·obtain ⟨lb,lo,e,hc⟩:=hin.at (by omega);obtain rfl:=Option.some.inj e;have hS:=(hS.resolve_left (by omega)) lb lo rfl;refine (Y8W h1 h2 ha hin hS (by omega) hb).mono ?_;rintro v w' ⟨rfl,f',vs',SK,SR,k1,k2,k3,k4,k5,k6⟩;exact ⟨rfl,SK,SR,⟨⟨k,t,s,f',rr,r,t',to_,vs',fr,k1,k2,rfl,rfl,h5,h6,h7,h8,h9,fun i=>by have:=h10 i;omega,by omega⟩,k4⟩,k3,k5,k6⟩
theorem YZ.cellAt {k:Ker} {r:RK} {t:Tab} {to_ fr:Nat} {s:KSt} {vs:Nat→Value} (h:YZ w k r t to_ s vs fr S') {i j:Nat} (hi:i<k.nC) (hj:j<26):w.cell? ⟨r.Gc,i*26+j,none⟩=some (refV (rcOf s vs i) j):=by
 have:=h.kn.row.cell (j:=i*26+j) (by omega);rw [Y1r _ _ hj] at this;exact this
theorem Pair.trace (h:Pair w K Kb mm ff S S') (bw nE:Nat) (a n:Int) (p0 p1 p2 p3 p4:Option Addr) (l0 l1 l2 l3 l4 c0 c1 c2 c3 c4:Nat) (ve:Value) (xsE:List Value) (fB:Nat→Value) (hB:RowF w bw 5 79 fB) (hf:fB 2=ve) (hE:w.ownsRow 0 61 1 ve nE xsE) (hvB:ve.ownBlock≠some bw) (bE:nE≤1000000000) (hmm:mm≤1000000000):
  Calls Tryz.prog 22 #[.pointer (some ⟨bw,0,none⟩),.pointer (some ⟨K,0,none⟩),.pointer (some ⟨Kb,0,none⟩),.agg #[.int .i64 3,.int .i64 a,.int .i64 n,.slice p0 l0 c0,.slice p1 l1 c1,.slice p2 l2 c2,.slice p3 l3 c3,.slice p4 l4 c4]] w fun e w'=>e=.returned (.bool true)∧∃ve' us S base,us.length=4∧w.heap.size≤base∧base≤S∧HInv w base S bw 2 79 61 3 nE fB ve us ve' (nE+4) (xsE++us) w':=by
 obtain ⟨⟨k,t,s,f,rr,r,t',to_,vs,fr,h1,h2,rfl,rfl,h5,h6,h7,h8,h9,h10,h11⟩,ha⟩:=h;by_cases hn:0≤n∧n<k.nC
 ·obtain ⟨cell,rfl⟩:∃cell:Nat,n=cell:=⟨n.toNat,by omega⟩;have hc:cell<k.nC:=by omega
  obtain ⟨tz,htz⟩:=Y7F (h1.kn.own cell hc).1 (h9.1 cell hc);have o1:=h1.kn.own cell hc;have o2:=h2.kn.own cell hc;rw [htz] at o1 o2;have o2':w.ownsRow 0 111 3 (vs cell) (s.m cell) ((List.range (s.m cell*3)).map fun j=>.int .i64 (tz j)):=o2;obtain ⟨pr,cr,hv,-,-,hs⟩:=Zk o2';have c22:w.cell? ⟨r.Gc,cell*26+22,none⟩=some (vs cell):=h2.cellAt hc (by omega);rw [hv] at c22;exact Y6K bw k.kb r.Kb r.Gc k.T k.nC k.cC k.nC k.nC nE cell (s.m cell) cr _ pr (f cell) tz a p0 p1 p2 p3 p4 l0 l1 l2 l3 l4 c0 c1 c2 c3 c4 ve xsE fB w hB hf hE hvB bE h1.kn.k2 h1.kn.k4 (h1.kn.tr.cell hc) o1 h2.kn.h4 c22 hs hc (Nat.le_trans (h10 cell) hmm)
 ·exact Y86 bw k.kb r.Kb r.Gc k.nC k.cC k.nC nE _ a n p0 p1 p2 p3 p4 l0 l1 l2 l3 l4 c0 c1 c2 c3 c4 ve xsE fB w hB hf hE hvB bE h1.kn.k2 h2.kn.h4 hn
theorem Pair.memory (h:Pair w K Kb mm ff S S') (bw nE:Nat) (a n:Int) (p0 p1 p2 p3 p4:Option Addr) (l0 l1 l2 l3 l4 c0 c1 c2 c3 c4:Nat) (ve:Value) (xsE:List Value) (fB:Nat→Value) (hB:RowF w bw 5 79 fB) (hf:fB 3=ve) (hE:w.ownsRow 0 51 1 ve nE xsE) (hvB:ve.ownBlock≠some bw) (bE:nE≤1000000000):
  Calls Tryz.prog 22 #[.pointer (some ⟨bw,0,none⟩),.pointer (some ⟨K,0,none⟩),.pointer (some ⟨Kb,0,none⟩),.agg #[.int .i64 4,.int .i64 a,.int .i64 n,.slice p0 l0 c0,.slice p1 l1 c1,.slice p2 l2 c2,.slice p3 l3 c3,.slice p4 l4 c4]] w fun e w'=>e=.returned (.bool true)∧∃ve' us S base,us.length=4∧w.heap.size≤base∧base≤S∧HInv w base S bw 3 79 51 1 nE fB ve us ve' (nE+4) (xsE++us) w':=by
 obtain ⟨⟨k,t,s,f,rr,r,t',to_,vs,fr,h1,h2,rfl,rfl,h5,h6,h7,h8,h9,h10,h11⟩,ha⟩:=h;by_cases hn:0≤n∧n<k.nC
 ·obtain ⟨cell,rfl⟩:∃cell:Nat,n=cell:=⟨n.toNat,by omega⟩;have hc:cell<k.nC:=by omega
  refine Y7u bw k.kb r.Kb r.Gc k.C (k.g cell) k.nC k.cC k.nC nE cell _ _ _ (s.z cell) a p0 p1 p2 p3 p4 l0 l1 l2 l3 l4 c0 c1 c2 c3 c4 ve xsE fB w hB hf hE hvB bE h1.kn.k2 (h1.kn.cl cell hc) (h1.kn.row cell hc) h2.kn.h4 (fun j hj=>?_) hc;have:=h2.cellAt (j:=4+j) hc (by omega);rw [←Nat.add_assoc] at this;rw [this];unfold refV;rw [if_pos (by omega),show 25+(4+j)=29+j by omega];rfl
 ·exact YaA bw k.kb r.Kb r.Gc k.nC k.cC k.nC nE _ a n p0 p1 p2 p3 p4 l0 l1 l2 l3 l4 c0 c1 c2 c3 c4 ve xsE fB w hB hf hE hvB bE h1.kn.k2 h2.kn.h4 hn
theorem Pair.stats (h:Pair w K Kb mm ff S S') (bw:Nat) (a n:Int) (p0 p1 p2 p3 p4:Option Addr) (l0 l1 l2 l3 l4 c0 c1 c2 c3 c4:Nat):
  Calls Tryz.prog 22 #[.pointer (some ⟨bw,0,none⟩),.pointer (some ⟨K,0,none⟩),.pointer (some ⟨Kb,0,none⟩),.agg #[.int .i64 5,.int .i64 a,.int .i64 n,.slice p0 l0 c0,.slice p1 l1 c1,.slice p2 l2 c2,.slice p3 l3 c3,.slice p4 l4 c4]] w fun e w'=>e=.returned (.bool true)∧Below w.heap.size w w':=by
 obtain ⟨⟨k,t,s,f,rr,r,t',to_,vs,fr,h1,h2,rfl,rfl,h5,h6,h7,h8,h9,h10,h11⟩,ha⟩:=h;by_cases hn:0≤n∧n<k.nC
 ·obtain ⟨cell,rfl⟩:∃cell:Nat,n=cell:=⟨n.toNat,by omega⟩;have hc:cell<k.nC:=by omega
  exact Y9X bw k.kb r.Kb r.Gc k.C (k.g cell) k.nC k.cC k.nC cell _ _ _ (s.z cell) a p0 p1 p2 p3 p4 l0 l1 l2 l3 l4 c0 c1 c2 c3 c4 w h1.kn.k2 (h1.kn.cl cell hc) (h1.kn.row cell hc) h2.kn.h4 (h2.cellAt (j:=23) hc (by omega)) (h2.cellAt (j:=24) hc (by omega)) (h2.cellAt (j:=25) hc (by omega)) hc
 ·exact Y4O bw k.kb r.Kb r.Gc k.nC k.cC k.nC _ a n p0 p1 p2 p3 p4 l0 l1 l2 l3 l4 c0 c1 c2 c3 c4 w h1.kn.k2 h2.kn.h4 hn
end
def cutW (w:World) (B N:Nat):World:={w with heap:=Array.ofFn (n:=N) fun i=>if B≤i.1 then w.heap.getD i.1 (.cells #[] 0 (0,0)) else .cells #[] 0 (0,0)}
theorem Y4l (w:World) {B N b:Nat} (h1:B≤b) (h2:b<N) (h3:N≤w.heap.size):(cutW w B N).heap[b]?=w.heap[b]?:=by
 show (Array.ofFn (n:=N) fun i=>if B≤i.1 then w.heap.getD i.1 (.cells #[] 0 (0,0)) else .cells #[] 0 (0,0))[b]?=_;rw [Array.getElem?_ofFn,dif_pos h2];simp only [if_pos h1];rw [Array.getD_eq_getD_getElem?,Array.getElem?_eq_getElem (by omega)];rfl
theorem Y6d (w:World) {B N b:Nat} (h1:b<B):(cutW w B N).heap[b]?=none∨(cutW w B N).heap[b]?=some (.cells #[] 0 (0,0)):=by
 show (Array.ofFn (n:=N) fun i=>if B≤i.1 then w.heap.getD i.1 (.cells #[] 0 (0,0)) else .cells #[] 0 (0,0))[b]?=none∨_;rw [Array.getElem?_ofFn];by_cases h2:b<N
 ·right
  show (Array.ofFn (n:=N) fun i=>if B≤i.1 then w.heap.getD i.1 (.cells #[] 0 (0,0)) else .cells #[] 0 (0,0))[b]?=_;rw [Array.getElem?_ofFn,dif_pos h2];simp only [if_neg (Nat.not_le.2 h1)]
 ·left
  rw [dif_neg h2]
theorem Y21 (w:World) (B N:Nat):(cutW w B N).heap.size=N:=Array.size_ofFn
theorem Y8u {c:Cfg} {bw m:Nat} {ks rs H2 H3 H4:Value} {xsK ysR:List Value} {w w':World} (h:Y42 c bw m ks rs H2 H3 H4 xsK ysR w w') (hi:XY w bw m ks rs H2 H3 H4 xsK ysR) (hck:Y8 c 0 0) (hch:c.nCh=0) (hd:c.nD=0) (hcn:∀i,i<c.nC→c.codeN i=true→c.nCode i=0) (him:∀i,i<c.nC→c.imgN i=true→c.nImg i=0):
  ∃ks' rs' K kb S S',But (RZ bw ks rs) w w'∧XY w' bw (m+1) ks' rs' H2 H3 H4 (xsK++[.pointer (some ⟨K,0,none⟩)]) (ysR++[.pointer (some ⟨kb,0,none⟩)])∧Pair w' K kb 0 0 S S'∧(∀b,S b∨S' b→w.heap.size≤b)∧
   ∀b,ks'.ownBlock=some b∨rs'.ownBlock=some b→((ks.ownBlock=some b∨rs.ownBlock=some b)∨w.heap.size≤b)∧¬S b∧¬S' b:=by
 rcases h with ⟨h,-⟩|⟨-,ks',rs',K,nb,vt,tr,kb,Gc,L,B,N1,B2,N2,hB,hN1,hN2,⟨hbut,hinv⟩,hsz,hks,hrs,hkm,wl,wk,o0,o1,o2,o3,hwk,hwl,hlr,hbl,hrn,hag⟩
 ·exact absurd hck h
 have hNw:N1≤w'.heap.size:=by omega
 have hm1:=hkm (cutW w' B N1) (fun b h1 h2=>Y4l w' h1 h2 hNw);have hBK:B≤K:=by
  rcases Nat.lt_or_ge K B with hlt|hge
  ·obtain ⟨u,xs,⟨cs,h1,h2,-⟩,-⟩:=hm1;rcases Y6d w' (N:=N1) hlt with e|e
   ·rw [e] at h1;cases h1
   ·rw [e] at h1;cases h1
  ·exact hge
 obtain ⟨k,t,f,hkf,hk1,hk2,hk3,hk4,hk5,hk6,hk7⟩:=Ybc hm1 hBK hck hch hd;obtain ⟨r,t',to_,vs,hrf,hr1,hr2,hr3,hr4,hr5⟩:=Y7N hlr hbl hrn hck hch hd hcn him hk2 hk3 hk4;have hkf':=hkf.keep (w':=w') (fun b hb=>(Y4l w' hb.1 (by have:=hb.2;rw [Y21] at this;exact this) hNw).symm) (by rw [Y21];exact hNw);have hrf':=hrf.keep (w':=w') (fun b hb=>hag b hb.1 (by have:=hb.2;omega)) (by omega);have hs1:=Y21 w' B N1;have hBN:B<N1:=by
  have h5:=hkf.sz K (hkf.inS K (.inl (.inl hk1.symm)));omega
 refine ⟨ks',rs',K,kb,_,_,hbut,hinv,⟨⟨k,t,s0 c,f,0,r,t',to_,vs,0,hkf',hrf',hk1,hr1,by rw [hr3,hk5],by rw [hr4,hk6],by rw [hr5,hk7],(Nat.zero_mod _).symm,⟨fun i _ v hv=>?_,fun i hi=>?_⟩,fun _=>Nat.le_refl _,Nat.le_refl _⟩,fun b h1 h2=>?_⟩,fun b hb=>?_,fun b hb=>?_⟩
 ·exact absurd hv (by show ¬v∈([]:List Value);simp)
 ·rw [hk6,hk7];exact Y9N (Y8.rowsAll hck i (by rw [←hk5];exact hi))
 ·have h3:=h1.2;have h4:=h2.1;omega
 ·rcases hb with hb|hb
  ·have:=hb.1;omega
  ·have:=hb.1;omega
 ·rcases hb with hb|hb
  ·rcases hks b hb with e|⟨e1,e2⟩
   ·have:=(hi.k.lt b e).2;exact ⟨.inl (.inl e),fun h=>by have:=h.1;omega,fun h=>by have:=h.1;omega⟩
   ·exact ⟨.inr (by omega),fun h=>by have:=h.2;omega,fun h=>by have:=h.1;omega⟩
  ·rcases hrs b hb with e|e
   ·have:=(hi.r.lt b e).2;exact ⟨.inl (.inr e),fun h=>by have:=h.1;omega,fun h=>by have:=h.1;omega⟩
   ·exact ⟨.inr (by omega),fun h=>by have:=h.2;omega,fun h=>by have:=h.2;omega⟩
def Spot (bw:Nat) (ks rs ve vw:Value) (b:Nat):Prop:=b=bw∨ks.ownBlock=some b∨rs.ownBlock=some b∨ve.ownBlock=some b∨vw.ownBlock=some b
def ptrL (n:Nat) (K:Nat→Nat):List Value:=(List.range n).map fun i=>.pointer (some ⟨K i,0,none⟩)
structure Yp (w0 w:World) (bw n mm ff nE nW:Nat) (ks rs ve vw:Value) (qc:Option Addr) (cc:Nat) (K Kb:Nat→Nat) (S S':Nat→Nat→Prop) (xsE xsW:List Value):Prop where
 win:XY w bw n ks rs ve vw (.slice qc 0 cc) (ptrL n K) (ptrL n Kb)
 pr:∀i,i<n→Pair w (K i) (Kb i) mm ff (S i) (S' i)
 ap:∀i j b,i<n→j<n→i≠j→S i b∨S' i b→¬(S j b∨S' j b)
 oE:w.ownsRow 0 61 1 ve nE xsE
 oW:w.ownsRow 0 51 1 vw nW xsW
 hE:∀(i:Nat) (u:Value),xsE[i]?=some u→YO w 3 u i
 hW:∀(i:Nat) (u:Value),xsW[i]?=some u→YO w 1 u i
 e4:nE % 4=0
 w4:nW % 4=0
 sp:∀b,Spot bw ks rs ve vw b→∀i,i<n→¬(S i b∨S' i b)
 us:∀u,u∈xsE∨u∈xsW→∀b,u.ownBlock=some b→b<w.heap.size∧¬Spot bw ks rs ve vw b∧∀i,i<n→¬(S i b∨S' i b)
 lo:w0.heap.size≤bw∧(∀b,ve.ownBlock=some b∨vw.ownBlock=some b→w0.heap.size≤b)∧∀i b,i<n→S i b∨S' i b→w0.heap.size≤b
 ph:But (fun b=>w0.heap.size≤b) w0 w
section
variable {w0 w w':World} {bw n mm ff nE nW cc:Nat} {ks rs ve vw:Value} {qc:Option Addr} {K Kb:Nat→Nat} {S S':Nat→Nat→Prop} {xsE xsW:List Value}
theorem own_ne {b e s n b2 e2 s2 n2:Nat} {v v2:Value} {xs ys:List Value} (h:w.ownsRow b e s v n xs) (h2:w.ownsRow b2 e2 s2 v2 n2 ys) (he:e≠e2) {g:Nat} (hg:v.ownBlock=some g):v2.ownBlock≠some g:=fun hg2=>by
 obtain ⟨cs,h3⟩:=Zy h hg;obtain ⟨cs2,h4⟩:=Zy h2 hg2;exact Jb h3 h4 he rfl
theorem Jh {b e s n g m t:Nat} {v:Value} {xs:List Value} {f:Nat→Value} (h:w.ownsRow b e s v n xs) (hr:RowF w g m t f) (he:e≠t):v.ownBlock≠some g:=fun hg=>by
 obtain ⟨cs,h3⟩:=Zy h hg;obtain ⟨cs2,h4,-⟩:=hr;exact Jb h3 h4 he rfl
theorem Yp.lt (h:Yp w0 w bw n mm ff nE nW ks rs ve vw qc cc K Kb S S' xsE xsW) {b:Nat} (hb:Spot bw ks rs ve vw b):b<w.heap.size:=by
 rcases hb with rfl|hb|hb|hb|hb
 ·exact h.win.row.lt
 ·exact (h.win.k.lt b hb).2
 ·exact (h.win.r.lt b hb).2
 ·exact (h.oE.lt b hb).2
 ·exact (h.oW.lt b hb).2
theorem Yp.move (h:Yp w0 w bw n mm ff nE nW ks rs ve vw qc cc K Kb S S' xsE xsW) {m2 f2:Nat} {S2 S2':Nat→Nat→Prop} (hsz:w.heap.size≤w'.heap.size) (hph:But (fun b=>w0.heap.size≤b) w0 w')
  (hk:∀b,b<w.heap.size→(∀i,i<n→¬(S i b∨S' i b))→w'.heap[b]?=w.heap[b]?) (hpr:∀i,i<n→Pair w' (K i) (Kb i) m2 f2 (S2 i) (S2' i)) (hS:∀i b,i<n→S2 i b∨S2' i b→(S i b∨S' i b)∨w.heap.size≤b) (hap:∀i j b,i<n→j<n→i≠j→S2 i b∨S2' i b→¬(S2 j b∨S2' j b)):
  Yp w0 w' bw n m2 f2 nE nW ks rs ve vw qc cc K Kb S2 S2' xsE xsW:=by
 have hsp:∀b,Spot bw ks rs ve vw b→w'.heap[b]?=w.heap[b]?:=fun b hb=>hk b (h.lt hb) (h.sp b hb);have hmk:∀u,u∈xsE∨u∈xsW→∀b,u.ownBlock=some b→w'.heap[b]?=w.heap[b]?:=fun u hu b hb=>hk b (h.us u hu b hb).1 (h.us u hu b hb).2.2;refine ⟨⟨h.win.row.of_heap (hsp bw (.inl rfl)),XD h.win.k fun b hb=>hsp b (.inr (.inl hb)),XD h.win.r fun b hb=>hsp b (.inr (.inr (.inl hb))),h.win.ne⟩,hpr,hap,XD h.oE fun b hb=>hsp b (.inr (.inr (.inr (.inl hb)))),XD h.oW fun b hb=>hsp b (.inr (.inr (.inr (.inr hb)))),
  fun i u hu=>(h.hE i u hu).heap fun b hb=>hmk u (.inl (List.mem_of_getElem? hu)) b hb,fun i u hu=>(h.hW i u hu).heap fun b hb=>hmk u (.inr (List.mem_of_getElem? hu)) b hb,h.e4,h.w4,fun b hb i hi hc=>?_,fun u hu b hb=>?_,⟨h.lo.1,h.lo.2.1,fun i b hi hb=>?_⟩,hph⟩
 ·rcases hS i b hi hc with e|e
  ·exact h.sp b hb i hi e
  ·have:=h.lt hb;omega
 ·obtain ⟨h1,h2,h3⟩:=h.us u hu b hb;refine ⟨by omega,h2,fun i hi hc=>?_⟩;rcases hS i b hi hc with e|e
  ·exact h3 i hi e
  ·omega
 ·rcases hS i b hi hb with e|e
  ·exact h.lo.2.2 i b hi e
  ·exact Nat.le_trans h.ph.size e
theorem But.trans' {P Q:Nat→Prop} {a b c:World} (h1:But P a b) (h2:But Q b c) (hQ:∀j,j<a.heap.size→Q j→P j):But P a c:=
 ⟨h2.os.trans h1.os,h2.tape.trans h1.tape,h2.output.trans h1.output,Nat.le_trans h1.size h2.size,fun j hj hn=>(h2.block j (Nat.lt_of_lt_of_le hj h1.size) (fun q=>hn (hQ j hj q))).trans (h1.block j hj hn)⟩
theorem Yp.below (h:Yp w0 w bw n mm ff nE nW ks rs ve vw qc cc K Kb S S' xsE xsW) (hb:Below w.heap.size w w'):Yp w0 w' bw n mm ff nE nW ks rs ve vw qc cc K Kb S S' xsE xsW:=
 h.move hb.size (But.trans' h.ph (But.of_below hb (fun _=>False)) (fun _ _ q=>q.elim)) (fun b hl _=>hb.block b hl) (fun i hi=>(h.pr i hi).keep (fun b hS=>hb.block b ((h.pr i hi).lt hS)) hb.size) (fun _ _ _ hS=>.inl hS) h.ap
theorem Yp.frame (h:Yp w0 w bw n mm ff nE nW ks rs ve vw qc cc K Kb S S' xsE xsW) {i:Nat} (hi:i<n) {m2 f2:Nat} (hm:mm≤m2) (hf:ff≤f2) {SK SR:Nat→Prop} (hp:Pair w' (K i) (Kb i) m2 f2 SK SR) (hb:But (fun b=>S i b∨S' i b) w w') (h1:∀b,SK b→S i b∨w.heap.size≤b) (h2:∀b,SR b→S' i b∨w.heap.size≤b):
  Yp w0 w' bw n m2 f2 nE nW ks rs ve vw qc cc K Kb (fun j=>if j=i then SK else S j) (fun j=>if j=i then SR else S' j) xsE xsW:=by
 have hK:∀b,SK b∨SR b→(S i b∨S' i b)∨w.heap.size≤b:=fun b hb=>by
  rcases hb with hb|hb
  ·exact (h1 b hb).imp .inl id
  ·exact (h2 b hb).imp .inr id
 refine h.move hb.size (But.trans' h.ph hb (fun j _ q=>h.lo.2.2 i j hi q)) (fun b hl hn=>hb.block b hl (hn i hi)) (fun j hj=>?_) (fun j b hj hS=>?_) (fun j j2 b hj hj2 hne hS hS2=>?_)
 ·by_cases e:j=i
  ·subst e;simp only [if_true];exact hp
  ·simp only [if_neg e];exact ((h.pr j hj).keep (fun b hS=>hb.block b ((h.pr j hj).lt hS) (h.ap j i b hj hi e hS)) hb.size).le hm hf
 ·by_cases e:j=i
  ·subst e;simp only [if_true] at hS;exact hK b hS
  ·simp only [if_neg e] at hS;exact .inl hS
 ·by_cases e:j=i
  ·subst e;have e2:j2≠j:=fun e2=>hne e2.symm;simp only [if_true] at hS;simp only [if_neg e2] at hS2;rcases hK b hS with q|q
   ·exact h.ap j j2 b hj hj2 hne q hS2
   ·have:=(h.pr j2 hj2).lt hS2;omega
  ·simp only [if_neg e] at hS;by_cases e2:j2=i
   ·subst e2;simp only [if_true] at hS2;rcases hK b hS2 with q|q
    ·exact h.ap j j2 b hj hj2 hne hS q
    ·have:=(h.pr j hj).lt hS;omega
   ·simp only [if_neg e2] at hS2;exact h.ap j j2 b hj hj2 hne hS hS2
theorem Y3q {k:Nat} {v:Value} {i j:Nat} (h:YO w k v i) (e:i / 4=j / 4):YO w k v j:=by
 unfold YO at h ⊢;rw [←e];exact h
theorem Yp.keepE (h:Yp w0 w bw n mm ff nE nW ks rs ve vw qc cc K Kb S S' xsE xsW) {base Sz:Nat} {v':Value} {us:List Value} (hu:us.length=4) (hb:w.heap.size≤base) (hbS:base≤Sz) (hh:HInv w base Sz bw 2 79 61 3 nE (cells5 ks rs ve vw (.slice qc 0 cc)) ve us v' (nE+4) (xsE++us) w'):
  Yp w0 w' bw n mm ff (nE+4) nW ks rs v' vw qc cc K Kb S S' (xsE++us) xsW:=by
 have hrow:=h.win.row;have hbw:=hrow.lt;have hvlt:∀b,ve.ownBlock=some b→b<w.heap.size:=fun b hb=>(h.oE.lt b hb).2;have same:∀b,b<w.heap.size→b≠bw→ve.ownBlock≠some b→w'.heap[b]?=w.heap[b]?:=fun b hl h1 h2=>hh.but.block b hl (fun q=>by
  rcases q with q|q|q
  ·exact h1 q
  ·exact h2 q
  ·omega)
 have hblk:∀b,v'.ownBlock=some b→ve.ownBlock=some b∨(Sz≤b∧w.heap.size≤b):=fun b hb'=>(hh.blk b hb').imp id (fun q=>⟨q,by omega⟩);have hpS:∀i b,i<n→S i b∨S' i b→b<w.heap.size∧w'.heap[b]?=w.heap[b]?:=fun i b hi hS=>by
  have hl:=(h.pr i hi).lt hS;exact ⟨hl,same b hl (fun e=>h.sp b (.inl e) i hi hS) (fun e=>h.sp b (.inr (.inr (.inr (.inl e)))) i hi hS)⟩
 have hold:∀u,u∈xsE∨u∈xsW→∀b,u.ownBlock=some b→w'.heap[b]?=w.heap[b]?:=fun u hu' b hb'=>by
  obtain ⟨h1,h2,-⟩:=h.us u hu' b hb';exact same b h1 (fun e=>h2 (.inl e)) (fun e=>h2 (.inr (.inr (.inr (.inl e)))))
 have hlen:xsE.length=nE:=by have:=h.oE.1;omega
 have hsz:w.heap.size≤w'.heap.size:=hh.but.size;have hw0:=h.ph.size;refine ⟨⟨hh.row.congr fun j hj=>?_,XD h.win.k fun b hb'=>same b (h.win.k.lt b hb').2 (by have:=(h.win.k.lt b hb').1;omega) (own_ne h.win.k h.oE (by decide) hb'),XD h.win.r fun b hb'=>same b (h.win.r.lt b hb').2 (by have:=(h.win.r.lt b hb').1;omega) (own_ne h.win.r h.oE (by decide) hb'),h.win.ne⟩,fun i hi=>(h.pr i hi).keep (fun b hS=>(hpS i b hi hS).2) hsz,h.ap,hh.own,XD h.oW fun b hb'=>same b (h.oW.lt b hb').2 (fun e=>Jh h.oW hrow (by decide) (e▸hb')) (own_ne h.oW h.oE (by decide) hb'),fun i u hu'=>?_,fun i u hu'=>(h.hW i u hu').heap fun b hb'=>hold u (.inr (List.mem_of_getElem? hu')) b hb',(by have:=h.e4;omega),h.w4,fun b hb' i hi hS=>?_,fun u hu' b hb'=>?_,⟨h.lo.1,fun b hb'=>?_,h.lo.2.2⟩,But.trans' h.ph hh.but fun j hj q=>?_⟩
 ·have:j=0∨j=1∨j=2∨j=3∨j=4:=by omega
  rcases this with rfl|rfl|rfl|rfl|rfl<;>rfl
 ·rcases Nat.lt_or_ge i nE with hl|hl
  ·rw [List.getElem?_append_left (by omega)] at hu';exact (h.hE i u hu').heap fun b hb'=>hold u (.inl (List.mem_of_getElem? hu')) b hb'
  ·rw [List.getElem?_append_right (by omega)] at hu';have hlt:i-xsE.length<us.length:=(List.getElem?_eq_some_iff.1 hu').1;have h4:=h.e4;exact Y3q (hh.full u (List.mem_of_getElem? hu')) (by omega)
 ·have hl:=(h.pr i hi).lt hS;rcases hb' with q|q|q|q|q
  ·exact h.sp b (.inl q) i hi hS
  ·exact h.sp b (.inr (.inl q)) i hi hS
  ·exact h.sp b (.inr (.inr (.inl q))) i hi hS
  ·rcases hblk b q with q|q
   ·exact h.sp b (.inr (.inr (.inr (.inl q)))) i hi hS
   ·omega
  ·exact h.sp b (.inr (.inr (.inr (.inr q)))) i hi hS
 ·have hcase:(u∈xsE∨u∈xsW)∨u∈us:=by
   rcases hu' with q|q
   ·exact (List.mem_append.1 q).imp .inl id
   ·exact .inl (.inr q)
  have hin:(b<w.heap.size∧¬Spot bw ks rs ve vw b∧∀i,i<n→¬(S i b∨S' i b))∨(base≤b∧b<Sz):=by
   rcases hcase with q|q
   ·exact .inl (h.us u q b hb')
   ·exact .inr (hh.ub u q b hb')
  have hbz:b<w'.heap.size:=by
   rcases hin with ⟨q,-⟩|q
   ·omega
   ·have:=hh.sz;omega
  refine ⟨hbz,fun hs=>?_,fun i hi hS=>?_⟩
  ·rcases hin with ⟨q1,q2,-⟩|⟨q1,q2⟩
   ·rcases hs with q|q|q|q|q
    ·exact q2 (.inl q)
    ·exact q2 (.inr (.inl q))
    ·exact q2 (.inr (.inr (.inl q)))
    ·rcases hblk b q with q|q
     ·exact q2 (.inr (.inr (.inr (.inl q))))
     ·omega
    ·exact q2 (.inr (.inr (.inr (.inr q))))
   ·rcases hs with q|q|q|q|q
    ·omega
    ·have:=(h.win.k.lt b q).2;omega
    ·have:=(h.win.r.lt b q).2;omega
    ·rcases hblk b q with q|q
     ·have:=hvlt b q;omega
     ·omega
    ·have:=(h.oW.lt b q).2;omega
  ·rcases hin with ⟨-,-,q⟩|⟨q1,q2⟩
   ·exact q i hi hS
   ·have:=(h.pr i hi).lt hS;omega
 ·rcases hb' with q|q
  ·rcases hblk b q with q|q
   ·exact h.lo.2.1 b (.inl q)
   ·omega
  ·exact h.lo.2.1 b (.inr q)
 ·rcases q with q|q|q
  ·rw [q];exact h.lo.1
  ·exact h.lo.2.1 j (.inl q)
  ·show w0.heap.size≤j;omega
theorem Yp.keepW (h:Yp w0 w bw n mm ff nE nW ks rs ve vw qc cc K Kb S S' xsE xsW) {base Sz:Nat} {v':Value} {us:List Value} (hu:us.length=4) (hb:w.heap.size≤base) (hbS:base≤Sz) (hh:HInv w base Sz bw 3 79 51 1 nW (cells5 ks rs ve vw (.slice qc 0 cc)) vw us v' (nW+4) (xsW++us) w'):
  Yp w0 w' bw n mm ff nE (nW+4) ks rs ve v' qc cc K Kb S S' xsE (xsW++us):=by
 have hrow:=h.win.row;have hbw:=hrow.lt;have hvlt:∀b,vw.ownBlock=some b→b<w.heap.size:=fun b hb=>(h.oW.lt b hb).2;have same:∀b,b<w.heap.size→b≠bw→vw.ownBlock≠some b→w'.heap[b]?=w.heap[b]?:=fun b hl h1 h2=>hh.but.block b hl (fun q=>by
  rcases q with q|q|q
  ·exact h1 q
  ·exact h2 q
  ·omega)
 have hblk:∀b,v'.ownBlock=some b→vw.ownBlock=some b∨(Sz≤b∧w.heap.size≤b):=fun b hb'=>(hh.blk b hb').imp id (fun q=>⟨q,by omega⟩);have hpS:∀i b,i<n→S i b∨S' i b→b<w.heap.size∧w'.heap[b]?=w.heap[b]?:=fun i b hi hS=>by
  have hl:=(h.pr i hi).lt hS;exact ⟨hl,same b hl (fun e=>h.sp b (.inl e) i hi hS) (fun e=>h.sp b (.inr (.inr (.inr (.inr e)))) i hi hS)⟩
 have hold:∀u,u∈xsE∨u∈xsW→∀b,u.ownBlock=some b→w'.heap[b]?=w.heap[b]?:=fun u hu' b hb'=>by
  obtain ⟨h1,h2,-⟩:=h.us u hu' b hb';exact same b h1 (fun e=>h2 (.inl e)) (fun e=>h2 (.inr (.inr (.inr (.inr e)))))
 have hlen:xsW.length=nW:=by have:=h.oW.1;omega
 have hsz:w.heap.size≤w'.heap.size:=hh.but.size;have hw0:=h.ph.size;refine ⟨⟨hh.row.congr fun j hj=>?_,XD h.win.k fun b hb'=>same b (h.win.k.lt b hb').2 (by have:=(h.win.k.lt b hb').1;omega) (own_ne h.win.k h.oW (by decide) hb'),XD h.win.r fun b hb'=>same b (h.win.r.lt b hb').2 (by have:=(h.win.r.lt b hb').1;omega) (own_ne h.win.r h.oW (by decide) hb'),h.win.ne⟩,fun i hi=>(h.pr i hi).keep (fun b hS=>(hpS i b hi hS).2) hsz,h.ap,XD h.oE fun b hb'=>same b (h.oE.lt b hb').2 (fun e=>Jh h.oE hrow (by decide) (e▸hb')) (own_ne h.oE h.oW (by decide) hb'),hh.own,fun i u hu'=>(h.hE i u hu').heap fun b hb'=>hold u (.inl (List.mem_of_getElem? hu')) b hb',fun i u hu'=>?_,h.e4,(by have:=h.w4;omega),fun b hb' i hi hS=>?_,fun u hu' b hb'=>?_,⟨h.lo.1,fun b hb'=>?_,h.lo.2.2⟩,But.trans' h.ph hh.but fun j hj q=>?_⟩
 ·have:j=0∨j=1∨j=2∨j=3∨j=4:=by omega
  rcases this with rfl|rfl|rfl|rfl|rfl<;>rfl
 ·rcases Nat.lt_or_ge i nW with hl|hl
  ·rw [List.getElem?_append_left (by omega)] at hu';exact (h.hW i u hu').heap fun b hb'=>hold u (.inr (List.mem_of_getElem? hu')) b hb'
  ·rw [List.getElem?_append_right (by omega)] at hu';have hlt:i-xsW.length<us.length:=(List.getElem?_eq_some_iff.1 hu').1;have h4:=h.w4;exact Y3q (hh.full u (List.mem_of_getElem? hu')) (by omega)
 ·have hl:=(h.pr i hi).lt hS;rcases hb' with q|q|q|q|q
  ·exact h.sp b (.inl q) i hi hS
  ·exact h.sp b (.inr (.inl q)) i hi hS
  ·exact h.sp b (.inr (.inr (.inl q))) i hi hS
  ·exact h.sp b (.inr (.inr (.inr (.inl q)))) i hi hS
  ·rcases hblk b q with q|q
   ·exact h.sp b (.inr (.inr (.inr (.inr q)))) i hi hS
   ·omega
 ·have hcase:(u∈xsE∨u∈xsW)∨u∈us:=by
   rcases hu' with q|q
   ·exact .inl (.inl q)
   ·exact (List.mem_append.1 q).imp .inr id
  have hin:(b<w.heap.size∧¬Spot bw ks rs ve vw b∧∀i,i<n→¬(S i b∨S' i b))∨(base≤b∧b<Sz):=by
   rcases hcase with q|q
   ·exact .inl (h.us u q b hb')
   ·exact .inr (hh.ub u q b hb')
  have hbz:b<w'.heap.size:=by
   rcases hin with ⟨q,-⟩|q
   ·omega
   ·have:=hh.sz;omega
  refine ⟨hbz,fun hs=>?_,fun i hi hS=>?_⟩
  ·rcases hin with ⟨q1,q2,-⟩|⟨q1,q2⟩
   ·rcases hs with q|q|q|q|q
    ·exact q2 (.inl q)
    ·exact q2 (.inr (.inl q))
    ·exact q2 (.inr (.inr (.inl q)))
    ·exact q2 (.inr (.inr (.inr (.inl q))))
    ·rcases hblk b q with q|q
     ·exact q2 (.inr (.inr (.inr (.inr q))))
     ·omega
   ·rcases hs with q|q|q|q|q
    ·omega
    ·have:=(h.win.k.lt b q).2;omega
    ·have:=(h.win.r.lt b q).2;omega
    ·have:=(h.oE.lt b q).2;omega
    ·rcases hblk b q with q|q
     ·have:=hvlt b q;omega
     ·omega
  ·rcases hin with ⟨-,-,q⟩|⟨q1,q2⟩
   ·exact q i hi hS
   ·have:=(h.pr i hi).lt hS;omega
 ·rcases hb' with q|q
  ·exact h.lo.2.1 b (.inl q)
  ·rcases hblk b q with q|q
   ·exact h.lo.2.1 b (.inr q)
   ·omega
 ·rcases q with q|q|q
  ·rw [q];exact h.lo.1
  ·exact h.lo.2.1 j (.inr q)
  ·show w0.heap.size≤j;omega
theorem Y4v (n:Nat) (K:Nat→Nat) (a:Nat):ptrL n K++[.pointer (some ⟨a,0,none⟩)]=ptrL (n+1) (fun i=>if i=n then a else K i):=by
 unfold ptrL;rw [List.range_succ,List.map_append];simp only [List.map_cons,List.map_nil,if_true];congr 1;refine List.map_congr_left fun i hi=>?_;have:=List.mem_range.1 hi;rw [if_neg (by omega)]
theorem Yp.made (h:Yp w0 w bw n mm ff nE nW ks rs ve vw qc cc K Kb S S' xsE xsW) {ks' rs':Value} {a b':Nat} {ST ST':Nat→Prop} (hbut:But (RZ bw ks rs) w w') (hinv:XY w' bw (n+1) ks' rs' ve vw (.slice qc 0 cc) (ptrL n K++[.pointer (some ⟨a,0,none⟩)]) (ptrL n Kb++[.pointer (some ⟨b',0,none⟩)])) (hp:Pair w' a b' 0 0 ST ST') (hnew:∀b,ST b∨ST' b→w.heap.size≤b)
  (hks:∀b,ks'.ownBlock=some b∨rs'.ownBlock=some b→((ks.ownBlock=some b∨rs.ownBlock=some b)∨w.heap.size≤b)∧¬ST b∧¬ST' b):
  Yp w0 w' bw (n+1) mm ff nE nW ks' rs' ve vw qc cc (fun i=>if i=n then a else K i) (fun i=>if i=n then b' else Kb i) (fun i=>if i=n then ST else S i) (fun i=>if i=n then ST' else S' i) xsE xsW:=by
 rw [Y4v,Y4v] at hinv;have hw0:=h.ph.size;have hsz:=hbut.size;have hbw:=h.win.row.lt;have same:∀b,b<w.heap.size→b≠bw→ks.ownBlock≠some b→rs.ownBlock≠some b→w'.heap[b]?=w.heap[b]?:=fun b hl h1 h2 h3=>hbut.block b hl (fun q=>by
  rcases q with q|q|q
  ·exact h1 q
  ·exact h2 q
  ·exact h3 q)
 have hpS:∀i b,i<n→S i b∨S' i b→w'.heap[b]?=w.heap[b]?:=fun i b hi hS=>same b ((h.pr i hi).lt hS) (fun e=>h.sp b (.inl e) i hi hS) (fun e=>h.sp b (.inr (.inl e)) i hi hS) (fun e=>h.sp b (.inr (.inr (.inl e))) i hi hS);have hold:∀u,u∈xsE∨u∈xsW→∀b,u.ownBlock=some b→w'.heap[b]?=w.heap[b]?:=fun u hu b hb=>by
  obtain ⟨h1,h2,-⟩:=h.us u hu b hb;exact same b h1 (fun e=>h2 (.inl e)) (fun e=>h2 (.inr (.inl e))) (fun e=>h2 (.inr (.inr (.inl e))))
 have hkz:∀b,ks.ownBlock=some b∨rs.ownBlock=some b→bw+1≤b∧b<w.heap.size:=fun b hb=>by
  rcases hb with hb|hb
  ·exact h.win.k.lt b hb
  ·exact h.win.r.lt b hb
 have hspo:∀b,b<w.heap.size→Spot bw ks' rs' ve vw b→Spot bw ks rs ve vw b:=fun b hl hb=>by
  rcases hb with q|q|q|q|q
  ·exact .inl q
  ·rcases (hks b (.inl q)).1 with (e|e)|e
   ·exact .inr (.inl e)
   ·exact .inr (.inr (.inl e))
   ·omega
  ·rcases (hks b (.inr q)).1 with (e|e)|e
   ·exact .inr (.inl e)
   ·exact .inr (.inr (.inl e))
   ·omega
  ·exact .inr (.inr (.inr (.inl q)))
  ·exact .inr (.inr (.inr (.inr q)))
 refine ⟨hinv,fun i hi=>?_,fun i j b hi hj hne hS hS2=>?_,XD h.oE fun b hb=>same b (h.oE.lt b hb).2 (fun e=>Jh h.oE h.win.row (by decide) (e▸hb)) (own_ne h.oE h.win.k (by decide) hb) (own_ne h.oE h.win.r (by decide) hb),XD h.oW fun b hb=>same b (h.oW.lt b hb).2 (fun e=>Jh h.oW h.win.row (by decide) (e▸hb)) (own_ne h.oW h.win.k (by decide) hb) (own_ne h.oW h.win.r (by decide) hb),
  fun i u hu=>(h.hE i u hu).heap fun b hb=>hold u (.inl (List.mem_of_getElem? hu)) b hb,fun i u hu=>(h.hW i u hu).heap fun b hb=>hold u (.inr (List.mem_of_getElem? hu)) b hb,h.e4,h.w4,fun b hb i hi hS=>?_,fun u hu b hb=>?_,⟨h.lo.1,h.lo.2.1,fun i b hi hS=>?_⟩,But.trans' h.ph hbut fun j hj q=>?_⟩
 ·by_cases e:i=n
  ·subst e;simp only [if_true];exact hp.le (Nat.zero_le _) (Nat.zero_le _)
  ·simp only [if_neg e];exact (h.pr i (by omega)).keep (fun b hS=>hpS i b (by omega) hS) hsz
 ·by_cases e:i=n
  ·subst e;have e2:j≠i:=fun e2=>hne e2.symm;simp only [if_true] at hS;simp only [if_neg e2] at hS2;have h1:=hnew b hS;have h2:=(h.pr j (by omega)).lt hS2;omega
  ·simp only [if_neg e] at hS;by_cases e2:j=n
   ·subst e2;simp only [if_true] at hS2;have h1:=hnew b hS2;have h2:=(h.pr i (by omega)).lt hS;omega
   ·simp only [if_neg e2] at hS2;exact h.ap i j b (by omega) (by omega) hne hS hS2
 ·by_cases e:i=n
  ·subst e;simp only [if_true] at hS;have h1:=hnew b hS;rcases hb with q|q|q|q|q
   ·omega
   ·have:=(hks b (.inl q)).2;rcases hS with hS|hS
    ·exact this.1 hS
    ·exact this.2 hS
   ·have:=(hks b (.inr q)).2;rcases hS with hS|hS
    ·exact this.1 hS
    ·exact this.2 hS
   ·have:=(h.oE.lt b q).2;omega
   ·have:=(h.oW.lt b q).2;omega
  ·simp only [if_neg e] at hS;exact h.sp b (hspo b ((h.pr i (by omega)).lt hS) hb) i (by omega) hS
 ·obtain ⟨h1,h2,h3⟩:=h.us u hu b hb;refine ⟨by omega,fun hs=>h2 (hspo b h1 hs),fun i hi hS=>?_⟩;by_cases e:i=n
  ·subst e;simp only [if_true] at hS;have:=hnew b hS;omega
  ·simp only [if_neg e] at hS;exact h3 i (by omega) hS
 ·by_cases e:i=n
  ·subst e;simp only [if_true] at hS;have:=hnew b hS;omega
  ·simp only [if_neg e] at hS;exact h.lo.2.2 i b (by omega) hS
 ·show w0.heap.size≤j;have hlo:=h.lo.1;rcases q with q|q|q
  ·omega
  ·have:=(hkz j (.inl q)).1;omega
  ·have:=(hkz j (.inr q)).1;omega
theorem Y3U {xs:List Value} {n:Nat} (h:xs.length=n):xs=(List.range n).map fun i=>xs.getD i (.bool false):=List.ext_getElem? fun i=>by
 by_cases hi:i<n
 ·rw [List.getElem?_eq_getElem (by omega)];simp [hi,List.getElem?_eq_getElem (show i<xs.length by omega)]
 ·rw [List.getElem?_eq_none (by omega)];simp [hi]
theorem Yp.still (h:Yp w0 w bw n mm ff nE nW ks rs ve vw qc cc K Kb S S' xsE xsW) (bE:nE≤1000000000000) (bW:nW≤1000000000000):
  Calls Tryz.prog 23 #[.pointer (some ⟨bw,2,none⟩)] w fun e w'=>e=.returned (.bool true)∧w'=w:=by
 have lE:xsE.length=nE:=by have:=h.oE.1;omega
 have lW:xsW.length=nW:=by have:=h.oW.1;omega
 have oE:=h.oE;have oW:=h.oW;rw [Y3U lE] at oE;rw [Y3U lW] at oW;obtain ⟨pE,cE,e1,-,-,sE⟩:=Zk (n:=nE) (size:=1) (F:=fun i=>xsE.getD i (.bool false)) (by simpa using oE);obtain ⟨pW,cW,e2,-,-,sW⟩:=Zk (n:=nW) (size:=1) (F:=fun i=>xsW.getD i (.bool false)) (by simpa using oW);have r2:=h.win.row.cell (j:=2) (by omega);have r3:=h.win.row.cell (j:=3) (by omega);have r4:=h.win.row.cell (j:=4) (by omega);have r2':w.cell? ⟨bw,2,none⟩=some (.slice pE nE cE):=r2.trans (by rw [←e1];rfl);have r3':w.cell? ⟨bw,2+1,none⟩=some (.slice pW nW cW):=r3.trans (by rw [←e2];rfl);refine YbE bw 2 nE cE nW cW pE pW _ _ qc cc w r2' r3' r4 (by simpa using sE) (by simpa using sW) (fun i hi=>?_) (fun i hi=>?_) bE bW
 ·refine h.hE i _ ?_;rw [List.getElem?_eq_getElem (by omega)];simp
 ·refine h.hW i _ ?_;rw [List.getElem?_eq_getElem (by omega)];simp
end
end Go.Proofs.YtdoghgnifkgfdaaGreat.Mute
