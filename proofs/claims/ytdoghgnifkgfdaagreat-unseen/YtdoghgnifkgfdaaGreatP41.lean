import Derived.Test.YtdoghgnifkgfdaaGreatP36
import Derived.Test.YtdoghgnifkgfdaaGreatP40
set_option maxRecDepth 100000
set_option maxHeartbeats 16000000
namespace Go.Proofs.YtdoghgnifkgfdaaGreat.Mute
open Go Go.Conc Go.RowKit
def lotE (w:World) (T:Nat) (N:Nat→Prop):Lot:={B:=w.heap.size,c:=T,ev:=111,S:=N,M:=fun _=>False}
section
variable {w:World} {k:Ker} {K:NetK} {s:KSq} {f:Nat→Value} {lr:Nat→Option Row}
theorem Yg4 {nb n1 n2:Nat} {q1 q2:Option Addr} (h1:w.cell? ⟨nb,1,none⟩=some (.slice q1 0 n1)) (h2:w.cell? ⟨nb,2,none⟩=some (.slice q2 0 n2)):Yl Tryz.prog true RS DS 32 #[.pointer (some ⟨nb,0,none⟩)] w (fun v w'=>v=.tuple #[]∧Is w w') (fun _ _=>False):=by
 have hF:=Is.self w;have hk:(base 32).kind≠.early:=by simp [base]
 refine Yl.intro Y2 #[.pointer (some ⟨nb,0,none⟩),undef,undef,undef,undef,undef,undef,undef,undef,undef,undef,undef,undef,undef,undef,undef,undef,undef,undef,undef,undef,undef,undef,undef,undef,undef,undef,undef,undef,undef,undef,undef,undef,undef,undef,undef] Tryz.func32 rfl (by kernel_rfl) fun cl cs Stop Ret _=>?_;repeat refine .c1 Y2 rfl ?_
 refine .regionL Y2 [0,1,2,3,4,5] (by rfl) ?_;iterate 3 (refine .opV Y2 rfl (by rfl) hk ?_;try walk_nrm)
 refine .op rfl (by rfl) hk fun w1 hR K_ hK=>?_;replace hF:=hF.rely hR;clear hR;have hc:World.cell? _ ⟨nb,1,none⟩=some (.slice q1 0 n1):=(hF.cell _).trans h1;go_simp;try (unfold stored;go_simp)
 refine hK _ _ ⟨?_,?_⟩
 ·co_evs (exact YR _ _ _)
 clear hK K_;clear hc;try walk_nrm
 iterate 2 (refine .opV Y2 rfl (by rfl) hk ?_;try walk_nrm)
 repeat refine .c1 Y2 rfl ?_
 refine Y1.loop Y2 ?_;repeat refine .c1 Y2 rfl ?_
 refine .regionL Y2 [0] (by rfl) ?_;refine .opV Y2 rfl (by rfl) hk ?_;try walk_nrm
 repeat refine .c1 Y2 rfl ?_
 refine Y1.condF Y2 (by first|rfl|simp [Act.eval]) ?_;refine Y1.exit Y2 rfl ?_;repeat refine .c1 Y2 rfl ?_
 refine .regionL Y2 [0,1,2,3,4,5] (by rfl) ?_;iterate 3 (refine .opV Y2 rfl (by rfl) hk ?_;try walk_nrm)
 refine .op rfl (by rfl) hk fun w1 hR K_ hK=>?_;replace hF:=hF.rely hR;clear hR;have hc:World.cell? _ ⟨nb,2,none⟩=some (.slice q2 0 n2):=(hF.cell _).trans h2;go_simp;try (unfold stored;go_simp)
 refine hK _ _ ⟨?_,?_⟩
 ·co_evs (exact YR _ _ _)
 clear hK K_;clear hc;try walk_nrm
 iterate 2 (refine .opV Y2 rfl (by rfl) hk ?_;try walk_nrm)
 repeat refine .c1 Y2 rfl ?_
 refine Y1.loop Y2 ?_;repeat refine .c1 Y2 rfl ?_
 refine .regionL Y2 [0] (by rfl) ?_;refine .opV Y2 rfl (by rfl) hk ?_;try walk_nrm
 repeat refine .c1 Y2 rfl ?_
 refine Y1.condF Y2 (by first|rfl|simp [Act.eval]) ?_;refine Y1.exit Y2 rfl ?_;refine Y1.fin Y2 ?_;exact Ret _ [] _ _ rfl (Y0L Y2 (by rfl) _) ⟨rfl,hF⟩
theorem Ye1 (h:KDyn w k K s f lr) {b:Nat} (hs:YbM w b):Still (lotE w k.T (netB K lr)) w b:=by
 refine ⟨⟨_,Array.getElem?_eq_getElem hs.lt⟩,hs.ne_row h.tr (.inr (.inl rfl)),fun o _ hb=>?_⟩;have hlt:=hs.lt;rcases hb with hb|hb
 ·rcases hb.2 with ⟨_,hb⟩|⟨hb,_⟩
  ·exact hb.elim
  ·exact absurd hlt (Nat.not_lt.2 hb)
 ·rcases hb.2 with ⟨_,hb⟩|⟨hb,_⟩
  ·exact hs.ne_net h.nt hb
  ·exact absurd hlt (Nat.not_lt.2 hb)
theorem YfH (hS:KSta w k K) (h:KDyn w k K s f lr) (hl:∀i,i<K.k→(s.D i).sent.length≤1000000000∧(s.D i).wait.length≤4):Yl Tryz.prog true RS DS 32 #[.pointer (some ⟨K.nb,0,none⟩)] w
  (fun v w'=>v=.tuple #[]∧∃lr',NtW w' K (endC K.k s.D) lr'∧(w'.os=w.os∧w'.output=w.output∧w'.tape=w.tape∧w.heap.size≤w'.heap.size)∧(∀b,b<w.heap.size→¬netB K lr b→w'.heap[b]?=w.heap[b]?)∧∀b,netB K lr' b→netB K lr b∨w.heap.size≤b) (fun _ _=>False):=by
 by_cases h0:0<K.k
 ·obtain ⟨rn,hN,hR,hne⟩:=h.nt.lay;have nT:∀b,netB K lr b→b≠k.T:=fun b hb e=>by
   obtain ⟨m,t,f',hr,ht⟩:=h.nt.at hb;exact Y2B hr h.tr (by rcases ht with rfl|rfl|rfl<;>decide) e
  have hK:Kn (lotE w k.T (netB K lr)) w rn w:=by
   refine ⟨.refl w,fun i r hi=>?_,hne,Nat.le_refl _,h.tr.lt⟩;obtain ⟨a1,a2⟩:=hR i r hi;refine ⟨⟨a1,⟨_,Array.getElem?_eq_getElem a1.lt⟩,nT _ a2,fun o ho hm=>?_⟩,fun o ho=>⟨nT _ a2,.inl ⟨a1.lt,a2⟩⟩⟩;rcases hm.2 with ⟨_,hm⟩|⟨hm,_⟩
   ·exact hm
   ·exact absurd a1.lt (Nat.not_lt.2 hm)
  have hW:NetW (lotE w k.T (netB K lr)) w K:=⟨Ye1 h hS.snb,hS.nc.n0,hS.nc.at1,hS.nc.at2,fun h0=>Ye1 h (hS.seb h0),hS.nc.e0,hS.nc.e1,hS.nc.hqm,hS.nc.hsm,hS.nc.hk⟩;refine ((YfR rfl hW h0 hl hN w hK).solo ?_).to ?_
  ·rintro v a b ⟨rfl,rn',x,y⟩ r;exact ⟨rfl,rn',x,y.rely r⟩
  ·rintro v w' ⟨⟨rfl,rn',hN',hK'⟩,hc⟩;obtain ⟨lr',h1,h2⟩:=NtW.back (w:=w') hN' (fun i r hi=>(hK'.row i r hi).rw.row) hK'.pw;refine ⟨rfl,lr',h1,⟨hK'.ph.os,hK'.ph.out,hK'.ph.tape,hK'.ph.size⟩,fun b hb hn=>?_,fun b hb=>?_⟩
   ·by_cases e:b=k.T
    ·subst e;exact hc
    ·obtain ⟨o',ho,_,hk⟩:=hK'.ph.at_ b _ (Array.getElem?_eq_getElem hb);rw [ho,hk e ?_,Array.getElem?_eq_getElem hb];rintro (hm|hm)
     ·rcases hm.2 with ⟨_,hm⟩|⟨hm,_⟩
      ·exact hm.elim
      ·exact absurd hb (Nat.not_lt.2 hm)
     ·rcases hm.2 with ⟨_,hm⟩|⟨hm,_⟩
      ·exact hn hm
      ·exact absurd hb (Nat.not_lt.2 hm)
   ·rcases h2 b hb with hq|⟨i,r,hi,rfl⟩
    ·exact .inl (.inl hq)
    ·have ow:=hK'.row i r hi;obtain ⟨o,ho⟩:=ow.rw.calm.there;rcases (ow.own o ho).2 with ⟨_,hm⟩|⟨hm,_⟩
     ·exact .inl hm
     ·exact .inr hm
 ·obtain ⟨a1,c1,n1,_⟩:=hS.nc.n1;obtain ⟨a2,c2,n2,_⟩:=hS.nc.n2;have hk:K.k=0:=by omega
  rw [hk] at n1 n2;refine (Yg4 n1 n2).to ?_;rintro v w' ⟨rfl,d,rfl⟩;refine ⟨rfl,lr,⟨h.nt.out,h.nt.ne,h.nt.row,fun x=>absurd x h0⟩,⟨rfl,rfl,rfl,Nat.le_refl _⟩,fun _ _ _=>rfl,fun b hb=>.inl hb⟩
end
section
variable {wR w w':World} {k:Ker} {z:Nat→Nat→Int} {f:Nat→Value} {m:Nat→Nat} {xs:Nat→List Value} {wsB wo nW:Nat} {wn:Nat→Nat×Nat}
theorem Y4h {g n t:Nat} {e:Nat→Value} (h:RowF w g n t e) (r:RS w w'):RowF w' g n t e:=by
 obtain ⟨d,rfl⟩:=r;exact h
def pair (a b:Nat) (j:Nat):Value:=if j=0 then .int .i64 a else .int .i64 b
end
noncomputable def Y33:Code:=match Tryz.f15.body with
 |some (.seq _ (.seq _ (.seq (.seq _ (.block _ (.loop c))) _)))=>c
 |_=>.skip
noncomputable def Y2p:Code:=match Tryz.f15.body with
 |some (.seq _ (.seq _ (.seq _ c)))=>c
 |_=>.skip
section
variable {Post:Goroutine→World→Prop} {wR w:World} {fR f:Nat→Value} {lrR lr:Nat→Option Row} {k:Ker} {K:NetK} {wsB wo nW cW:Nat} {wn:Nat→Nat×Nat} {inV:Value} {ins:List (Int×Int)} {s:KSq}
theorem FwQ.box (h:FwQ wR fR lrR k K wsB wo nW wn s f lr w):FwQ wR fR lrR k K wsB wo nW wn s f lr (w.alloc (.cells #[.int .i64 0,.int .i64 0] 102))∧RowF (w.alloc (.cells #[.int .i64 0,.int .i64 0] 102)) w.heap.size 2 102 (pair 0 0):=
 ⟨h.grow (fun _ hb=>heap_alloc_old w _ hb) ⟨rfl,rfl,rfl,by simp⟩,.new w _ _ _ fun j hj=>by
  have:j=0∨j=1:=by simp at hj;omega
  rcases this with rfl|rfl<;>rfl⟩
theorem FwQ.box2 (h:FwQ wR fR lrR k K wsB wo nW wn s f lr w) (d a b:Nat):FwQ wR fR lrR k K wsB wo nW wn s f lr ((((w.alloc (.cells #[.int .i64 0,.int .i64 0] 102)).at d).setCell ⟨w.heap.size,0,none⟩ (.int .i64 a)).setCell ⟨w.heap.size,1,none⟩ (.int .i64 b))∧RowF ((((w.alloc (.cells #[.int .i64 0,.int .i64 0] 102)).at d).setCell ⟨w.heap.size,0,none⟩ (.int .i64 a)).setCell ⟨w.heap.size,1,none⟩ (.int .i64 b)) w.heap.size 2 102 (pair a b):=by
 refine ⟨h.grow (fun x hx=>?_) ⟨rfl,rfl,rfl,by show w.heap.size≤((World.at (w.alloc _) d).setCell _ _ |>.setCell _ _).heap.size;rw [size_setCell,size_setCell];show w.heap.size≤(w.alloc _).heap.size;simp⟩,?_⟩
 ·rw [heap_setCell_other _ _ _ _ (by show x≠w.heap.size;omega),heap_setCell_other _ _ _ _ (by show x≠w.heap.size;omega)];exact heap_alloc_old w _ hx
 ·have h2:RowF ((w.alloc (.cells #[.int .i64 0,.int .i64 0] 102)).at d) w.heap.size 2 102 (pair 0 0):=h.box.2;refine ((h2.set 0 (.int .i64 a)).set 1 (.int .i64 b)).congr fun j hj=>?_;have:j=0∨j=1:=by omega
  rcases this with rfl|rfl<;>rfl
theorem YgX (hin:InW wR inV ins (YbM wR)) (hln:ins.length≤1000) (hnW:nW≤1000) (hwn:∀j,j<nW→(wn j).1<k.nC∧(wn j).2≤200) (x7 x8 x9 x10 x11 x12 x13 x14 x15 x16 x17 x18:Value) (cs:List Frame):
  ∀(rem j:Nat) (s:KSq) (f:Nat→Value) (lr:Nat→Option Row) (w:World) (u6 u22 u23 u24 u25 u26 u27 u28 u29:Value),j+rem=nW→(∀i,s.m i+rem*201≤1000000000)→LenQ K.k (900000000-rem*200) s.D→FwQ wR fR lrR k K wsB wo nW wn s f lr w→
   (∀(f':Nat→Value) (lr':Nat→Option Row) (w':World) (u6 u22 u23 u24 u25 u26 u27 u28 u29:Value),FwQ wR fR lrR k K wsB wo nW wn (Yce k K ins wn rem j s) f' lr' w'→LenQ K.k 900000000 (Yce k K ins wn rem j s).D→Y3 Tryz.prog Post (G ((base 15).at {tmps:=(List.toArray ((.pointer (some ⟨k.kb,0,none⟩))::(inV)::(undef)::(undef)::(.int .i64 0)::(undef)::(u6)::(x7)::(x8)::(x9)::(x10)::(x11)::(x12)::(x13)::(x14)::(x15)::(x16)::(x17)::(x18)::(.slice (some ⟨wsB,wo,none⟩) nW cW)::(.int .i64 nW)::(.int .i64 nW)::(u22)::(u23)::(u24)::(u25)::(u26)::(u27)::(u28)::(u29)::(undef)::(undef)::(undef)::(undef)::(undef)::(undef)::(undef)::(undef)::(undef)::(undef)::(undef)::(undef)::(undef)::(undef)::(undef)::(undef)::(undef)::(undef)::(undef)::[])),defers:=[]} [.code Y2p]) cs) w')→
   Y3 Tryz.prog Post (G ((base 15).at {tmps:=(List.toArray ((.pointer (some ⟨k.kb,0,none⟩))::(inV)::(undef)::(undef)::(.int .i64 0)::(undef)::(u6)::(x7)::(x8)::(x9)::(x10)::(x11)::(x12)::(x13)::(x14)::(x15)::(x16)::(x17)::(x18)::(.slice (some ⟨wsB,wo,none⟩) nW cW)::(.int .i64 nW)::(.int .i64 j)::(u22)::(u23)::(u24)::(u25)::(u26)::(u27)::(u28)::(u29)::(undef)::(undef)::(undef)::(undef)::(undef)::(undef)::(undef)::(undef)::(undef)::(undef)::(undef)::(undef)::(undef)::(undef)::(undef)::(undef)::(undef)::(undef)::(undef)::[])),defers:=[]} [.code Y33,.inLoop Y33,.inBlock 0,.code Y2p]) cs) w:=by
 have hk:(base 15).kind≠.early:=by simp [base]
 have hinV:∃ip il ic,inV=.slice ip il ic:=by obtain ⟨a,c,e,_⟩:=hin;exact ⟨_,_,_,e⟩
 intro rem;induction rem with
 |zero=>
  intro j s f lr w u6 u22 u23 u24 u25 u26 u27 u28 u29 hj hm hl hF hp;obtain rfl:j=nW:=by omega
  refine Y3.of_goes ?_;repeat refine .c1 Y2 rfl ?_
  refine .regionL Y2 [0] (by rfl) ?_;refine .opV Y2 rfl (by rfl) hk ?_;try walk_nrm
  repeat refine .c1 Y2 rfl ?_
  refine Y1.condF Y2 (by first|rfl|simp [Act.eval]) ?_;refine Y1.exit Y2 rfl ?_;refine .stop rfl fun w1 hR=>?_;exact hp _ _ _ _ _ _ _ _ _ _ _ _ (hF.rely hR) (hl.le (by omega))
 |succ rem ih=>
  intro j s f lr w u6 u22 u23 u24 u25 u26 u27 u28 u29 hj hm hl hF hp;have hlt:j<nW:=by omega
  have hli:(j:Int)<(nW:Int):=by omega
  obtain ⟨hcell,hbud⟩:=hwn j hlt;refine Y3.of_goes ?_;repeat refine .c1 Y2 rfl ?_
  refine .regionL Y2 [0] (by rfl) ?_;refine .opV Y2 rfl (by rfl) hk ?_;try walk_nrm
  repeat refine .c1 Y2 rfl ?_
  refine Y1.condT Y2 (by first|rfl|simp [Act.eval]) ?_;repeat refine .c1 Y2 rfl ?_
  refine .regionL Y2 [0,1,2,3] (by rfl) ?_;refine .op rfl (by rfl) hk fun w1 hR K_ hK=>?_;replace hF:=hF.rely hR;clear hR;go_simp;try (unfold stored;go_simp)
  refine hK _ _ ⟨?_,?_⟩
  ·co_still Y2
  clear hK K_;try walk_nrm
  refine .op rfl (by rfl) hk fun w1 hR K_ hK=>?_;replace hF:=hF.rely hR;clear hR;have a0:=(hF.cell (a:=⟨wsB,wo+j*2,none⟩) hF.sW).trans (hF.c0 j hlt);have a1:=(hF.cell (a:=⟨wsB,wo+j*2+1,none⟩) hF.sW).trans (hF.c1 j hlt);go_simp;try (unfold stored;go_simp)
  refine hK _ _ ⟨?_,?_⟩
  ·(intro e he;have hm:=mem_listed he;simp [go_sem, *] at hm;rcases hm with rfl|rfl<;>exact YR _ _ _)
  clear hK K_;clear a0 a1;try walk_nrm
  refine .op rfl (by rfl) hk fun w1 hR K_ hK=>?_;replace hF:=hF.rely hR;clear hR;go_simp;try (unfold stored;go_simp)
  refine hK _ _ ⟨?_,?_⟩
  ·(intro e he;have hm:=mem_listed he;simp [go_sem, *] at hm)
  clear hK K_;try walk_nrm
  refine Y1.op rfl (by rfl) hk ?_;intro w2 hR K_ hK;obtain ⟨d,rfl⟩:=hR;have hE:=hF.box.2;have a0:World.cell? ((w1.alloc (.cells #[.int .i64 0,.int .i64 0] 102)).at d) ⟨w1.heap.size,0,none⟩=some (.int .i64 0):=hE.cell (j:=0) (by omega);have a1:World.cell? ((w1.alloc (.cells #[.int .i64 0,.int .i64 0] 102)).at d) ⟨w1.heap.size,1,none⟩=some (.int .i64 0):=hE.cell (j:=1) (by omega);have z0:World.frozen? ((w1.alloc (.cells #[.int .i64 0,.int .i64 0] 102)).at d) ⟨w1.heap.size,0,none⟩=false:=hE.frozen 0;have z1:World.frozen? ((w1.alloc (.cells #[.int .i64 0,.int .i64 0] 102)).at d) ⟨w1.heap.size,1,none⟩=false:=hE.frozen 1;obtain ⟨hF2,hE2⟩:=hF.box2 d (wn j).1 (wn j).2;generalize hW:((w1.alloc (.cells #[.int .i64 0,.int .i64 0] 102)).at d)=w2 at *;generalize hN:w1.heap.size=E at *;go_simp;try (unfold stored;go_simp)
  refine hK _ _ ⟨?_,?_⟩
  ·(intro e he;have hm:=mem_listed he;simp [go_sem, *] at hm;rcases hm with rfl|rfl<;>exact YR _ _ _)
  clear hK K_ a0 a1 z0 z1 hF hE;generalize hW2:((w2.setCell ⟨E,0,none⟩ (.int .i64 (wn j).1)).setCell ⟨E,1,none⟩ (.int .i64 (wn j).2))=w3 at *;clear hW hW2 hN;have hF:=hF2;have hE:=hE2;clear hF2 hE2;try walk_nrm
  repeat refine .c1 Y2 rfl ?_
  refine .regionL Y2 [0,1,2,3] (by rfl) ?_;refine .opV Y2 rfl (by rfl) hk ?_;try walk_nrm
  refine .op rfl (by rfl) hk fun w1 hR K_ hK=>?_;replace hF:=hF.rely hR;replace hE:=Y4h hE hR;clear hR;have a0:=hE.cell (j:=0) (by omega);have a1:=hE.cell (j:=1) (by omega);simp only [pair] at a0 a1;go_simp;try (unfold stored;go_simp)
  refine hK _ _ ⟨?_,?_⟩
  ·(intro e he;have hm:=mem_listed he;simp [go_sem, *] at hm;rcases hm with rfl|rfl<;>exact YR _ _ _)
  clear hK K_;clear a0 a1;try walk_nrm
  refine .opV Y2 rfl (by rfl) hk ?_;try walk_nrm
  refine .stop rfl fun w1 hR=>?_;replace hF:=hF.rely hR;replace hE:=Y4h hE hR;clear hR;refine Y3.call rfl (by rfl) hk (fun d=>?run) (fun d=>?evs) (Yfo (hF.dyn.ready hF.staW hcell (hin.keep (fun b hb=>hF.st hb) fun b hb _=>hb.of_heap (hF.st hb)) hln (hl.le (by omega))) hbud (by have:=hm (wn j).1;omega)) (fun v w' hv=>?_)
  case run=>kernel_rfl
  case evs=>
   rw [listed_nil (by kernel_rfl)];simp
  obtain ⟨rfl,f',lr',hA⟩:=hv;obtain ⟨hF2,hl2⟩:=hF.after hcell hl hA;replace hF:=hF2;clear hA hE hF2;refine Y3.of_goes ?_;have hwr:IntKind.i64.wrap ((j:Int)+1)=((j+1:Nat):Int):=by rw [IntKind.wrap_i64];omega
  try walk_nrm
  repeat refine .c1 Y2 rfl ?_
  refine .regionL Y2 [0,1] (by rfl) ?_;iterate 2 (refine .opV Y2 rfl (by rfl) hk ?_;try walk_nrm)
  repeat refine .c1 Y2 rfl ?_
  refine Y1.inLoop Y2 ?_;refine .stop rfl fun w1 hR=>?_;refine ih (j+1) (winQ k K ins (wn j) s) f' lr' w1 _ _ _ _ _ _ _ _ _ (by omega) (fun i=>?_) (hl2.le (by omega)) (hF.rely hR) hp;show updN s.m (wn j).1 _ i+rem*201≤1000000000;have h1:=hm i;have h2:=(YcU (Yca k K ins (wn j).1) (wn j).2 (s.z (wn j).1) s.D).2;unfold updN;split
  ·subst i;omega
  ·omega
end
section
variable {w w1:World} {k:Ker} {wsB wo nW cW:Nat} {wn:Nat→Nat×Nat} {inV:Value}  {z:Nat→Nat→Int} {f:Nat→Value} {m:Nat→Nat} {xs:Nat→List Value} {tb nT cT r n1 n2 ip il ic:Nat}
theorem Y4j (w:World):RS w {w with drawn:=w.drawn+1}:=⟨w.drawn+1,rfl⟩
end
section
variable {w w1 w2:World} {k:Ker} {K:NetK} {wsB wo nW cW:Nat} {wn:Nat→Nat×Nat} {s:KSq} {f f':Nat→Value} {lr lr':Nat→Option Row} {tb nT cT r il ic:Nat} {ip:Option Addr} {ins:List (Int×Int)}
theorem FwQ.ended (h:FwQ w f lr k K wsB wo nW wn s f' lr' w1) {lr2:Nat→Option Row} {D':Nat→Chn} (hn:NtW w2 K D' lr2) (hph:w2.os=w1.os∧w2.output=w1.output∧w2.tape=w1.tape∧w1.heap.size≤w2.heap.size) (hk:∀b,b<w1.heap.size→¬netB K lr' b→w2.heap[b]?=w1.heap[b]?) (hb:∀b,netB K lr2 b→netB K lr' b∨w1.heap.size≤b):FwQ w f lr k K wsB wo nW wn {s with D:=D'} f' lr2 w2:=by
 have nrow:∀i,i<k.nC→¬netB K lr' (k.g i):=fun i hi hb=>by
  obtain ⟨m,t,f,hr,ht⟩:=h.dyn.nt.at hb;exact Y2B (h.dyn.row i hi) hr (by rcases ht with rfl|rfl|rfl<;>decide) rfl
 have nown:∀i,i<k.nC→∀b,(f' i).ownBlock=some b→¬netB K lr' b:=fun i hi b ho hb=>by
  obtain ⟨m,t,f',hr,ht⟩:=h.dyn.nt.at hb;exact Zh hr (by rcases ht with rfl|rfl|rfl<;>decide) (h.dyn.own i hi) ho
 have nT:¬netB K lr' k.T:=fun hb=>by
  obtain ⟨m,t,f',hr,ht⟩:=h.dyn.nt.at hb;exact Y2B hr h.dyn.tr (by rcases ht with rfl|rfl|rfl<;>decide) rfl
 refine ⟨h.sta,⟨fun i hi=>(h.dyn.row i hi).of_heap (hk _ (h.dyn.row i hi).lt (nrow i hi)),h.dyn.tr.of_heap (hk _ h.dyn.tr.lt nT),fun i hi=>Xd (L:=⟨0,0,111,fun _=>False,fun _=>False⟩) (h.dyn.own i hi) fun b hb=>hk b (h.dyn.lt (.inr (.inr ⟨i,hi,.inr hb⟩))) (nown i hi b hb),h.dyn.zok,h.dyn.ownNe,hn⟩,h.dynR,h.sW,h.c0,h.c1,⟨hph.1.trans h.ph.1,hph.2.1.trans h.ph.2.1,hph.2.2.1.trans h.ph.2.2.1,Nat.le_trans h.ph.2.2.2 hph.2.2.2⟩,fun b hb hf=>(hk b (Nat.lt_of_lt_of_le hb h.ph.2.2.2) fun e=>?_).trans (h.ft b hb hf),h.fo,fun b e=>?_⟩
 ·rcases h.fn b e with e|e
  ·exact hf (.inr (.inl e))
  ·omega
 ·rcases hb b e with e|e
  ·exact h.fn b e
  ·exact .inr (Nat.le_trans h.ph.2.2.2 e)
theorem Yg0 (hS:KSta w k K) (hD:KDyn w k K s f lr) (h0:w.cell? ⟨k.kb,0,none⟩=some (.slice (some ⟨tb,0,none⟩) nT cT)) (hr:w.cell? ⟨k.kb,1,none⟩=some (.int .i64 r)) (h3:w.cell? ⟨k.kb,3,none⟩=some (.pointer (some ⟨K.nb,0,none⟩))) (hfz:w.frozen? ⟨k.kb,1,none⟩=false)
  (stb:YbM w tb) (hrow:w.cell? ⟨tb,r,none⟩=some (.slice (some ⟨wsB,wo,none⟩) nW cW)) (hrT:r<nT) (hnT:nT≤1000) (sW:YbM w wsB) (c0:∀j,j<nW→w.cell? ⟨wsB,wo+j*2,none⟩=some (.int .i64 (wn j).1)) (c1:∀j,j<nW→w.cell? ⟨wsB,wo+j*2+1,none⟩=some (.int .i64 (wn j).2))
  (hnW:nW≤1000) (hwn:∀j,j<nW→(wn j).1<k.nC∧(wn j).2≤200) (hm:∀i,s.m i+nW*201≤1000000000) (hl:LenQ K.k 4 s.D) (hlw:∀i,i<K.k→((Yce k K ins wn nW 0 s).D i).wait.length≤4) (hin:InW w (.slice ip il ic) ins (YbM w)) (hil:il≤4):
  CallsR Tryz.prog 15 #[.pointer (some ⟨k.kb,0,none⟩),.slice ip il ic] w (fun v w'=>v=.int .i64 0∧∃f' lr2 w1 d,FwQ w f lr k K wsB wo nW wn {(Yce k K ins wn nW 0 s) with D:=endC K.k (Yce k K ins wn nW 0 s).D} f' lr2 w1∧w'=(w1.setCell ⟨k.kb,1,none⟩ (.int .i64 (((r:Int)+1).tmod nT))).at d):=by
 refine CallsR.introT (List.toArray ((.pointer (some ⟨k.kb,0,none⟩))::(.slice ip il ic)::undef::undef::undef::undef::undef::undef::undef::undef::undef::undef::undef::undef::undef::undef::undef::undef::undef::undef::undef::undef::undef::undef::undef::undef::undef::undef::undef::undef::undef::undef::undef::undef::undef::undef::undef::undef::undef::undef::undef::undef::undef::undef::undef::undef::undef::undef::undef::[])) Tryz.func15 (by rfl) (by kernel_rfl) fun cs Post hp=>?_;have hk:(base 15).kind≠.early:=by simp [base]
 refine Y3.of_goes ?_;have hF:FwQ w f lr k K wsB wo nW wn s f lr w:=⟨hS,hD,⟨_,hD⟩,sW,c0,c1,⟨rfl,rfl,rfl,Nat.le_refl _⟩,fun _ _ _=>rfl,fun i b hi hb=>.inl hb,fun b hb=>.inl hb⟩;have hil':¬((4:Int)<(il:Int)):=by omega
 have hri:(r:Int)<(nT:Int):=by omega
 have hln:ins.length≤1000:=by obtain ⟨a,c,e,_⟩:=hin;injection e with _ e _;omega
 try walk_nrm
 repeat refine .c1 Y2 rfl ?_
 refine .regionL Y2 [0] (by rfl) ?_;refine .opV Y2 rfl (by rfl) hk ?_;try walk_nrm
 repeat refine .c1 Y2 rfl ?_
 refine .regionL Y2 [0,1,2] (by rfl) ?_;iterate 3 (refine .opV Y2 rfl (by rfl) hk ?_;try walk_nrm)
 repeat refine .c1 Y2 rfl ?_
 refine Y1.condF Y2 (by first|rfl|simp [Act.eval,hil']) ?_;repeat refine .c1 Y2 rfl ?_
 refine Y1.drawnN (S:=(fun w1=>FwQ w f lr k K wsB wo nW wn s f lr w1)) (Die:=fun _ _=>False) Y2 Ju 12 (by rfl) hk (by kernel_rfl) (fun _ _ _ h=>h) (fun _ _ _ h=>h.elim) fun w1 hR=>?_;replace hF:=(hF.rely hR).rely (Y4j _);clear hR;refine Y4 Y2 0 (fun _ _ h r=>FwQ.rely h r) hF ?_;try walk_nrm
 refine Y4 Y2 1 (fun _ _ h r=>FwQ.rely h r) hF ?_;try walk_nrm
 refine Y4 Y2 2 (fun _ _ h r=>FwQ.rely h r) hF ?_;try walk_nrm
 refine Ye Y2 3 rfl (fun _ _ h r=>FwQ.rely h r) hF ?_ fun _ hw=>⟨run_eq_of (by
  intro K hK;have hc:World.cell? _ ⟨k.kb,0,none⟩=some (.slice (some ⟨tb,0,none⟩) nT cT):=(FwQ.cell hw (a:=⟨k.kb,0,none⟩) hS.skb).trans h0;go_simp;exact hK),by
  have hc:World.cell? _ ⟨k.kb,0,none⟩=some (.slice (some ⟨tb,0,none⟩) nT cT):=(FwQ.cell hw (a:=⟨k.kb,0,none⟩) hS.skb).trans h0
  co_evs (exact YR _ _ _)⟩
 try walk_nrm
 refine Y4 Y2 4 (fun _ _ h r=>FwQ.rely h r) hF ?_;try walk_nrm
 refine Y4 Y2 5 (fun _ _ h r=>FwQ.rely h r) hF ?_;try walk_nrm
 refine Y4 Y2 6 (fun _ _ h r=>FwQ.rely h r) hF ?_;try walk_nrm
 refine Ye Y2 7 rfl (fun _ _ h r=>FwQ.rely h r) hF ?_ fun _ hw=>⟨run_eq_of (by
  intro K hK;have hc:World.cell? _ ⟨k.kb,1,none⟩=some (.int .i64 r):=(FwQ.cell hw (a:=⟨k.kb,1,none⟩) hS.skb).trans hr;go_simp;exact hK),by
  have hc:World.cell? _ ⟨k.kb,1,none⟩=some (.int .i64 r):=(FwQ.cell hw (a:=⟨k.kb,1,none⟩) hS.skb).trans hr
  co_evs (exact YR _ _ _)⟩
 try walk_nrm
 refine Ye Y2 8 rfl (fun _ _ h r=>FwQ.rely h r) hF ?_ fun _ hw=>⟨run_eq_of (by
  intro K hK;go_simp;exact hK),by
  co_still Y2⟩
 try walk_nrm
 refine Ye Y2 9 rfl (fun _ _ h r=>FwQ.rely h r) hF ?_ fun _ hw=>⟨run_eq_of (by
  intro K hK;have hc:World.cell? _ ⟨tb,r,none⟩=some (.slice (some ⟨wsB,wo,none⟩) nW cW):=(FwQ.cell hw (a:=⟨tb,r,none⟩) stb).trans hrow;go_simp;exact hK),by
  have hc:World.cell? _ ⟨tb,r,none⟩=some (.slice (some ⟨wsB,wo,none⟩) nW cW):=(FwQ.cell hw (a:=⟨tb,r,none⟩) stb).trans hrow
  co_evs (exact YR _ _ _)⟩
 try walk_nrm
 refine Y4 Y2 10 (fun _ _ h r=>FwQ.rely h r) hF ?_;try walk_nrm
 refine Y4 Y2 11 (fun _ _ h r=>FwQ.rely h r) hF ?_;try walk_nrm
 refine Xi (by first|kernel_rfl|decide +kernel) ?_ _;repeat refine .c1 Y2 rfl ?_
 refine Y1.loop Y2 ?_;refine .stop rfl fun w2 hR=>?_;refine YgX (wR:=w) (cW:=cW) hin hln hnW hwn _ _ _ _ _ _ _ _ _ _ _ _ cs nW 0 s f lr w2 _ _ _ _ _ _ _ _ _ (by omega) hm (hl.le (by omega)) (hF.rely hR) ?_;clear hF hR;intro f' lr' w3 u6 u22 u23 u24 u25 u26 u27 u28 u29 hF hl2;refine Y3.of_goes ?_;try walk_nrm
 repeat refine .c1 Y2 rfl ?_
 refine .regionL Y2 [0,1,2,3,4] (by rfl) ?_;iterate 3 (refine .opV Y2 rfl (by rfl) hk ?_;try walk_nrm)
 refine .op rfl (by rfl) hk fun w1 hR K_ hK=>?_;replace hF:=hF.rely hR;clear hR;have hc:World.cell? _ ⟨k.kb,3,none⟩=some (.pointer (some ⟨K.nb,0,none⟩)):=(FwQ.cell hF (a:=⟨k.kb,3,none⟩) hS.skb).trans h3;go_simp;try (unfold stored;go_simp)
 refine hK _ _ ⟨?_,?_⟩
 ·co_evs (exact YR _ _ _)
 clear hK K_;clear hc;try walk_nrm
 refine Y1.callX Y2 rfl (by rfl) hk rfl Tryz.func32 (by rfl) rfl #[.pointer (some ⟨K.nb,0,none⟩)] (by kernel_rfl) (YfH hF.staW hF.dyn (fun i hi=>⟨Nat.le_trans (hl2 i hi).1 (by omega),hlw i hi⟩)) ?_ (fun _ _ _ h=>h.elim);rintro v w4 ⟨rfl,lr2,e1,e2,e3,e4⟩;replace hF:=hF.ended e1 e2 e3 e4;clear e1 e2 e3 e4;have hwr:IntKind.i64.wrap ((r:Int)+1)=((r+1:Nat):Int):=by rw [IntKind.wrap_i64];omega
 have hnz:nT≠0:=by omega
 try walk_nrm
 repeat refine .c1 Y2 rfl ?_
 refine Y1.drawnN (S:=(fun w1=>FwQ w f lr k K wsB wo nW wn {(Yce k K ins wn nW 0 s) with D:=endC K.k (Yce k K ins wn nW 0 s).D} f' lr2 w1)) (Die:=fun _ _=>False) Y2 Ju 15 (by rfl) hk (by kernel_rfl) (fun _ _ _ h=>h) (fun _ _ _ h=>h.elim) fun w1 hR=>?_;replace hF:=(hF.rely hR).rely (Y4j _);clear hR;refine Y4 Y2 0 (fun _ _ h r=>FwQ.rely h r) hF ?_;try walk_nrm
 refine Y4 Y2 1 (fun _ _ h r=>FwQ.rely h r) hF ?_;try walk_nrm
 refine Y4 Y2 2 (fun _ _ h r=>FwQ.rely h r) hF ?_;try walk_nrm
 refine Y4 Y2 3 (fun _ _ h r=>FwQ.rely h r) hF ?_;try walk_nrm
 refine Ye Y2 4 rfl (fun _ _ h r=>FwQ.rely h r) hF ?_ fun _ hw=>⟨run_eq_of (by
  intro K hK;have hc:World.cell? _ ⟨k.kb,1,none⟩=some (.int .i64 r):=(FwQ.cell hw (a:=⟨k.kb,1,none⟩) hS.skb).trans hr;go_simp;exact hK),by
  have hc:World.cell? _ ⟨k.kb,1,none⟩=some (.int .i64 r):=(FwQ.cell hw (a:=⟨k.kb,1,none⟩) hS.skb).trans hr
  co_evs (exact YR _ _ _)⟩
 try walk_nrm
 refine Y4 Y2 5 (fun _ _ h r=>FwQ.rely h r) hF ?_;try walk_nrm
 refine Y4 Y2 6 (fun _ _ h r=>FwQ.rely h r) hF ?_;try walk_nrm
 refine Y4 Y2 7 (fun _ _ h r=>FwQ.rely h r) hF ?_;try walk_nrm
 refine Y4 Y2 8 (fun _ _ h r=>FwQ.rely h r) hF ?_;try walk_nrm
 refine Ye Y2 9 rfl (fun _ _ h r=>FwQ.rely h r) hF ?_ fun _ hw=>⟨run_eq_of (by
  intro K hK;have hc:World.cell? _ ⟨k.kb,0,none⟩=some (.slice (some ⟨tb,0,none⟩) nT cT):=(FwQ.cell hw (a:=⟨k.kb,0,none⟩) hS.skb).trans h0;go_simp;exact hK),by
  have hc:World.cell? _ ⟨k.kb,0,none⟩=some (.slice (some ⟨tb,0,none⟩) nT cT):=(FwQ.cell hw (a:=⟨k.kb,0,none⟩) hS.skb).trans h0
  co_evs (exact YR _ _ _)⟩
 try walk_nrm
 refine Y4 Y2 10 (fun _ _ h r=>FwQ.rely h r) hF ?_;try walk_nrm
 refine Ye Y2 11 rfl (fun _ _ h r=>FwQ.rely h r) hF ?_ fun _ hw=>⟨run_eq_of (by
  intro K hK;go_simp;exact hK),by
  co_still Y2⟩
 try walk_nrm
 refine Y4 Y2 12 (fun _ _ h r=>FwQ.rely h r) hF ?_;try walk_nrm
 refine Y4 Y2 13 (fun _ _ h r=>FwQ.rely h r) hF ?_;try walk_nrm
 refine XZ (i:=14) (by first|kernel_rfl|decide +kernel) rfl (by rfl) ?_;intro w1 hR K_ hK;replace hF:=hF.rely hR;clear hR;have hc:World.cell? _ ⟨k.kb,1,none⟩=some (.int .i64 r):=(FwQ.cell hF (a:=⟨k.kb,1,none⟩) hS.skb).trans hr;have hfz1:=(hF.frozen (a:=⟨k.kb,1,none⟩) hS.skb).trans hfz;go_simp;try (unfold stored;go_simp)
 refine hK _ _ ⟨?_,?_,?_⟩
 ·co_evs (exact YR _ _ _)
 ·exact .inr (Z8 rfl (by first|kernel_rfl|decide +kernel))
 clear hK K_;have hG:=hF;replace hF:=Is.self (w1.setCell ⟨k.kb,1,none⟩ (.int .i64 (((r:Int)+1).tmod nT)));clear hc hfz1;try walk_nrm
 refine Xi (by first|kernel_rfl|decide +kernel) ?_ _;repeat refine .c1 Y2 rfl ?_
 refine .regionL Y2 [0] (by rfl) ?_;refine .opV Y2 rfl (by rfl) hk ?_;try walk_nrm
 repeat refine .c1 Y2 rfl ?_
 refine Y1.ret Y2 fun todo=>?_;refine .stop rfl fun w6 hR=>?_;obtain ⟨d,rfl⟩:=hF.rely hR;exact hp _ _ _ _ rfl (fun d=>(resultsC_tmp (t:=4) (by rfl) _ _).1) ⟨rfl,f',lr2,_,d,hG,rfl⟩
end
structure Tab where
 tb:Nat
 cT:Nat
 nT:Nat
 ws:Nat→Nat
 wo:Nat→Nat
 cw:Nat→Nat
 nw:Nat→Nat
 wn:Nat→Nat→Nat×Nat
end Go.Proofs.YtdoghgnifkgfdaaGreat.Mute
