import Derived.Test.YtdoghgnifkgfdaaGreatP06
import Derived.Test.YtdoghgnifkgfdaaGreatP09
import Derived.Test.YtdoghgnifkgfdaaGreatP31
set_option maxRecDepth 100000
set_option maxHeartbeats 4000000
namespace Go.Proofs.YtdoghgnifkgfdaaGreat.Mute
open Go Go.Conc Go.RowKit
theorem Y7g (o:Out):(∀v∈o.sent,Jo v)∧o.sent.length≤1:=by
 unfold Out.sent;split
 ·refine ⟨fun v hv=>?_,by simp⟩;rw [List.mem_singleton.1 hv];exact ⟨_,_,_,rfl⟩
 ·exact ⟨fun v hv=>by simp at hv,by simp⟩
theorem Y2L (n:Nat) (ci:Nat→Int):∀(k:Nat) (z:Nat→Int),(∀v∈(runF n ci k z).1,Jo v)∧(runF n ci k z).1.length≤k
 |0,z=>⟨fun v hv=>by simp [runF] at hv,by simp [runF]⟩
 |k+1,z=>by
  simp only [runF];cases hs:Y7 n ci z with
  |on op e z'=>
   have h1:=Y7g (.on op e z');have h2:=Y2L n ci k z';by_cases h0:op=0
   ·simp only [h0,if_true];rw [h0] at h1;exact ⟨h1.1,by have:=h1.2;omega⟩
   ·simp only [h0,if_false];refine ⟨fun v hv=>?_,?_⟩
    ·rcases List.mem_append.1 hv with hv|hv
     ·exact h1.1 v hv
     ·exact h2.1 v hv
    ·rw [List.length_append];have:=h1.2;have:=h2.2;omega
  |broke y z'=>
   refine ⟨fun v hv=>?_,by simp⟩;rw [List.mem_singleton.1 hv];exact ⟨_,_,_,rfl⟩
theorem Y8n (n:Nat) (ci:Nat→Int) (k:Nat) (z:Nat→Int):(∀v∈(goF n ci k z).1,Jo v)∧(goF n ci k z).1.length≤k:=by
 unfold goF;split
 ·exact ⟨fun v hv=>by simp at hv,by simp⟩
 ·exact Y2L n ci k z
theorem JW (n:Nat) (ci:Nat→Int) (k:Nat) (z:Nat→Int):(∀v∈(Yf n ci k z).1,Jo v)∧(Yf n ci k z).1.length≤k+1:=by
 have h:=Y8n n ci k z;unfold Yf;refine ⟨fun v hv=>?_,?_⟩
 ·rcases List.mem_append.1 hv with hv|hv
  ·exact h.1 v hv
  ·rw [List.mem_singleton.1 hv];exact ⟨_,_,_,rfl⟩
 ·simp;exact h.2
theorem CallsR.introT {P:Program} {w:World} {f:FuncId} {args:Array Value} {R:Value→World→Prop} {fn:Func} {c:Code} (tm:Array Value) (hf:P.funcs[f]?=some fn) (hb:fn.body=some c) (htm:args++Array.replicate (fn.ntmps-args.size) undef=tm)
  (h:∀(cs:List Frame) (Post:Goroutine→World→Prop),(∀(a:Act) (todo:List Item) (v:Value) (w':World),a.defers=[]→(∀d,(results fn a.tmps).run P (w'.at d)=.ok v (w'.at d))→R v w'→Y3 P Post (G {(base f).at a todo with mode:=.returning} cs) w')→
   Y3 P Post (G ((base f).at {tmps:=tm,defers:=[]} [.code c]) cs) w):CallsR P f args w R:=by
 subst htm;exact CallsR.intro hf hb h
theorem Y1.valueK {P:Program} {main:Bool} {R:World→World→Prop} {D:World→World→Array Event→Prop} {Stop:Goroutine→World→Prop} {b:Frame} {a:Act} {k:List Item} {cs:List Frame} {w:World} {ops:Array Oper} {i:Nat} {rest:List Nat} {o:Oper} {v:Value} (T:Terms R D) (ho:ops[i]?=some o) (hw:Region.wanted o (yielded ops a.tmps)=true) (hk:b.kind≠.early)
  (hr:∀w₁,(execOp a.eval o).run P w₁=.ok (.value v) w₁) (he:∀w₁,(execOp a.eval o).events P w₁ #[]=#[]) (h:Y1 P main R D Stop (G (b.at (a.put o.dst v) (.inRegion ops rest::k)) cs) w):Y1 P main R D Stop (G (b.at a (.inRegion ops (i::rest)::k)) cs) w:=
 Y1.op ho hw hk fun w₁ r K hK=>by
  rw [hr w₁];exact hK _ _ ⟨by rw [listed_nil (he w₁)];exact T.idle _,h.rely T.trans r⟩
structure After (w:World) (T nC cell g:Nat) (num:Int) (net code:Value) (z:Nat→Int) (f:Nat→Value) (m:Nat) (xs:List Value) (w':World) (f':Nat→Value):Prop where
 size:w.heap.size≤w'.heap.size
 os:w'.os=w.os
 out:w'.output=w.output
 tape:w'.tape=w.tape
 row:RowF w' g 48 186 (cellV num net code z)
 tr:RowF w' T nC 61 f'
 others:∀j,j≠cell→f' j=f j
 own:w'.ownsRow 0 111 3 (f' cell) m xs
 blk:∀b,(f' cell).ownBlock=some b→(f cell).ownBlock=some b∨w.heap.size≤b
 old:∀b,b<w.heap.size→b≠g→b≠T→(f cell).ownBlock≠some b→w'.heap[b]?=w.heap[b]?
section
variable {Post:Goroutine→World→Prop} {w:World} {kb C T nC cC cell g nb cb co n cc:Nat} {num:Int} {ci z:Nat→Int} {f:Nat→Value} {m:Nat} {xs:List Value} {budget:Nat} {inV:Value}
theorem Y4Z (h:Ready w kb C T nC cC cell g nb cb co n cc num ci z f m xs) {z':Nat→Int} {f':Nat→Value} {m':Nat} {xs':List Value} {w':World} (hk:Kn (YC w T g (f cell)) (W7 w cell budget g inV) [Y5 g num (.pointer (some ⟨nb,0,none⟩)) (YB cb co n cc) z'] w') (hf:∀j,j≠cell→f' j=f j) (hM:Ms (YC w T g (f cell)) (W7 w cell budget g inV) T nC f' cell m' xs' w'):After w T nC cell g num (.pointer (some ⟨nb,0,none⟩)) (YB cb co n cc) z' f m' xs' w' f':=by
 have hs:=hM.ph.size;rw [XJ] at hs;refine ⟨by omega,hM.ph.os,hM.ph.out,hM.ph.tape,(hk.row 0 _ rfl).rw.row,hM.row.rw.row,hf,hM.own,fun b hb=>?_,fun b hb h1 h2 h3=>?_⟩
 ·obtain ⟨o,ho⟩:=(hM.blk b hb).1.there;rcases ((hM.blk b hb).2 o ho).2 with ⟨_,hm⟩|⟨hm,_⟩
  ·rcases hm with hm|hm
   ·exfalso;subst hm;obtain ⟨cs,g1,_⟩:=hM.row.rw.row;rcases hM.own.2 with ⟨hx,_⟩|⟨g0,cap0,cur,hx,_,hg,_⟩
    ·rw [hx] at hb;simp [Value.ownBlock] at hb
    ·rw [hx] at hb;have:g0=b:=by simpa [Value.ownBlock] using hb
     subst this;rw [g1] at hg;injection hg with hg
     injection hg with _ hg
     exact absurd hg (by show ¬(61:Nat)=111;decide)
   ·exact .inl hm
  ·have hm:w.heap.size+6≤b:=hm;exact .inr (by omega)
 ·have hst:=JM (budget:=budget) (inV:=inV) h (b:=b) ⟨_,Array.getElem?_eq_getElem (by rw [XJ];omega)⟩ (by omega) h1 h2 h3;rw [hM.still hst,JQ w cell budget g inV hb]
theorem YbD (h:Ready w kb C T nC cC cell g nb cb co n cc num ci z f m xs) (hbud:budget≤200) (hm:m+budget<1000000000) (hinV:∃ip il ic,inV=.slice ip il ic) (cs:List Frame) (hp:∀a' w',FinW (YC w T g (f cell)) (W7 w cell budget g inV) kb w.heap.size T nC cell (m+(Yf n ci budget z).1.length) f (xs++(Yf n ci budget z).1.flatMap Yv) (.agg #[.int .i64 cell,.int .i64 budget]) inV undef undef (.pointer (some ⟨kb,0,none⟩)) (.pointer (some ⟨kb,0,none⟩)) (.pointer (some ⟨kb,2,none⟩)) (.slice (some ⟨C,0,none⟩) nC cC) (.pointer (some ⟨w.heap.size,0,none⟩)) (.int .i64 cell) (.pointer (some ⟨C,cell,none⟩)) (.pointer (some ⟨g,0,none⟩)) (.pointer (some ⟨w.heap.size,1,none⟩)) (.int .i64 budget) inV cs a' w'→Kn (YC w T g (f cell)) (W7 w cell budget g inV) [(Y5 g num (.pointer (some ⟨nb,0,none⟩)) (YB cb co n cc) (Yf n ci budget z).2)] w'→Y3 Tryz.prog Post a' w') (d:Nat):
  Y3 Tryz.prog Post (G (wiAt g budget w.heap.size inV) (rwAt kb C nC cC cell budget g w.heap.size inV::cs)) ((W7 w cell budget g inV).at d):=by
 have hk:(base 57).kind≠.early:=by simp [base]
 obtain ⟨q,cap,hnet⟩:=h.net;have hev:=JW n ci budget z;have hin:∀{b:Nat},b<w.heap.size→∃o,(W7 w cell budget g inV).heap[b]?=some o:=fun hb=>⟨_,Array.getElem?_eq_getElem (by rw [XJ];omega)⟩;have hnb:=Jg hnet;have hcb:cb<w.heap.size:=by
  obtain ⟨o,ho⟩:=h.cbIn;exact (Array.getElem?_eq_some_iff.1 ho).1
 refine Y3.fork (z:=JP) (vs:=(Yf n ci budget z).1) (Fin:=FinW (YC w T g (f cell)) (W7 w cell budget g inV) kb w.heap.size T nC cell (m+(Yf n ci budget z).1.length) f (xs++(Yf n ci budget z).1.flatMap Yv) (.agg #[.int .i64 cell,.int .i64 budget]) inV undef undef (.pointer (some ⟨kb,0,none⟩)) (.pointer (some ⟨kb,0,none⟩)) (.pointer (some ⟨kb,2,none⟩)) (.slice (some ⟨C,0,none⟩) nC cC) (.pointer (some ⟨w.heap.size,0,none⟩)) (.int .i64 cell) (.pointer (some ⟨C,cell,none⟩)) (.pointer (some ⟨g,0,none⟩)) (.pointer (some ⟨w.heap.size,1,none⟩)) (.int .i64 budget) inV cs) ((YC w T g (f cell)).rules (Kn (YC w T g (f cell)) (W7 w cell budget g inV) [(Y5 g num (.pointer (some ⟨nb,0,none⟩)) (YB cb co n cc) (Yf n ci budget z).2)]) fun _ _ r k=>k.rely r) rfl (fun d2=>?_) hp;refine ⟨_,_,_,_,stepG_spawn (d:=winD (w.heap.size+5) (w.heap.size+1) (w.heap.size+2) (w.heap.size+3)) (w':=(W7 w cell budget g inV).at d2) rfl (by rfl) hk ?run rfl,?ev,⟨0,0,false,YbH w cell budget g inV⟩,Y7O h _ hev.1 (by have:=hev.2;omega) cs d2,?child⟩
 case run=>kernel_rfl
 case ev=>
  rw [listed_nil (by kernel_rfl)];simp
 case child=>
  exact Y6z (rows:=[Y5 g num (.pointer (some ⟨nb,0,none⟩)) (YB cb co n cc) z]) (ic:=0) rfl rfl rfl rfl rfl (JM h (hin hcb) (by omega) h.hcb.1 h.hcb.2.1 h.hcb.2.2) (fun j hj=>Y1l w cell budget g inV (h.code j hj)) h.n48 h.ok h.zok q cap (JM h (hin hnb) (by simp only at hnb;omega) h.hnb.1 h.hnb.2.1 h.hnb.2.2) (Y1l w cell budget g inV hnet) budget hbud inV hinV (JJ h (i:=5) (by omega) (by omega)) (JJ h (i:=1) (by omega) (by omega)) (JJ h (i:=2) (by omega) (by omega)) (JJ h (i:=3) (by omega) (by omega)) (Y2H w cell budget g inV) (Y7Y w cell budget g inV) (Y6u w cell budget g inV) (Y5m w cell budget g inV) _ (Y5c h d2)
theorem Yaj (h:Ready w kb C T nC cC cell g nb cb co n cc num ci z f m xs) (hbud:budget≤200) (hm:m+budget<1000000000) (hinV:∃ip il ic,inV=.slice ip il ic):
  CallsR Tryz.prog 31 #[.pointer (some ⟨kb,0,none⟩),.agg #[.int .i64 cell,.int .i64 budget],inV] w (fun v w'=>v=.tuple #[]∧∃f',After w T nC cell g num (.pointer (some ⟨nb,0,none⟩)) (YB cb co n cc) (Yf n ci budget z).2 f (m+(Yf n ci budget z).1.length) (xs++(Yf n ci budget z).1.flatMap Yv) w' f'):=by
 refine CallsR.introT (c:=Y0F) #[.pointer (some ⟨kb,0,none⟩),.agg #[.int .i64 cell,.int .i64 budget],inV,undef,undef,undef,undef,undef,undef,undef,undef,undef,undef,undef,undef,undef,undef,undef,undef,undef,undef,undef,undef,undef,undef,undef,undef,undef,undef,undef,undef,undef,undef,undef,undef,undef,undef,undef,undef,undef] Tryz.func31 (by rfl) (by kernel_rfl) fun cs Post hp=>?_;refine Yb4 h.k2 h.cl h.hcell inV hinV cs fun d=>YbD h hbud hm hinV cs (fun a' w' hfin hkn=>?_) d;obtain ⟨u6,u20,u21,u22,u23,u24,u25,u26,u27,u28,u29,u30,u31,u32,u33,u34,u35,u36,u37,u38,u39,f',rfl,hf',hM⟩:=hfin;have hA:=Y4Z h hkn hf' hM;have hk:(base 31).kind≠.early:=by simp [base]
 refine Y3.of_goes ?_;have hF:=Is.self w';refine Y1.valueK Y2 (v:=.bool false) rfl (by rfl) hk (fun w=>by kernel_rfl) (fun w=>by kernel_rfl) ?_;show Y1 _ _ _ _ _ (G ((base 31).at {tmps:=#[.pointer (some ⟨kb,0,none⟩),(.agg #[.int .i64 cell,.int .i64 budget]),inV,undef,.pointer (some ⟨w.heap.size,0,none⟩),undef,u6,(.pointer (some ⟨kb,0,none⟩)),(.pointer (some ⟨kb,0,none⟩)),(.pointer (some ⟨kb,2,none⟩)),(.slice (some ⟨C,0,none⟩) nC cC),(.pointer (some ⟨w.heap.size,0,none⟩)),(.int .i64 cell),(.pointer (some ⟨C,cell,none⟩)),(.pointer (some ⟨g,0,none⟩)),(.pointer (some ⟨w.heap.size,1,none⟩)),(.int .i64 budget),inV,.chan (some (YC w T g (f cell)).c),.tuple #[JP,.bool false],.bool false,u21,u22,u23,u24,u25,u26,u27,u28,u29,u30,u31,u32,u33,u34,u35,u36,u37,u38,u39],defers:=[]} [.inRegion Y4b [],.code Y3N,.inLoop JA,.inBlock 0]) cs) _;repeat refine .c1 Y2 rfl ?_
 refine Y1.condF Y2 (by rfl) ?_;refine Y1.exit Y2 rfl ?_;refine Y1.fin Y2 ?_;refine .stop rfl fun w1 hR=>?_;obtain ⟨d,rfl⟩:=hF.rely hR;exact (hp _ _ _ w' rfl (fun d=>results_none (by rfl) _ _ _) ⟨rfl,f',hA⟩).at d
end
structure Ker where
 kb:Nat
 C:Nat
 T:Nat
 nC:Nat
 cC:Nat
 nb:Nat
 g:Nat→Nat
 cb:Nat→Nat
 co:Nat→Nat
 n:Nat→Nat
 cc:Nat→Nat
 num:Nat→Int
 ci:Nat→Nat→Int
def Stat (w:World) (b:Nat):Prop:=∃cs t fz,w.heap[b]?=some (.cells cs t fz)∧t≠186∧t≠61∧t≠111
structure KNow (w:World) (k:Ker) (z:Nat→Nat→Int) (f:Nat→Value) (m:Nat→Nat) (xs:Nat→List Value):Prop where
 k2:w.cell? ⟨k.kb,2,none⟩=some (.slice (some ⟨k.C,0,none⟩) k.nC k.cC)
 k4:w.cell? ⟨k.kb,4,none⟩=some (.slice (some ⟨k.T,0,none⟩) k.nC k.nC)
 skb:Stat w k.kb
 sC:Stat w k.C
 snb:Stat w k.nb
 scb:∀i,i<k.nC→Stat w (k.cb i)
 cl:∀i,i<k.nC→w.cell? ⟨k.C,i,none⟩=some (.pointer (some ⟨k.g i,0,none⟩))
 row:∀i,i<k.nC→RowF w (k.g i) 48 186 (cellV (k.num i) (.pointer (some ⟨k.nb,0,none⟩)) (YB (k.cb i) (k.co i) (k.n i) (k.cc i)) (z i))
 tr:RowF w k.T k.nC 61 f
 own:∀i,i<k.nC→w.ownsRow 0 111 3 (f i) (m i) (xs i)
 code:∀i,i<k.nC→∀j,j<k.n i*4→w.cell? ⟨k.cb i,k.co i+j,none⟩=some (.int .i64 (k.ci i j))
 net:∃q cap,w.cell? ⟨k.nb,0,none⟩=some (.slice q 0 cap)
 n48:∀i,i<k.nC→k.n i≤48
 ok:∀i,i<k.nC→Xc (k.n i) (k.ci i)
 zok:∀i,i<k.nC→Zok (k.n i) (z i)
 inj:∀i j,i<k.nC→j<k.nC→i≠j→k.g i≠k.g j
 ownNe:∀i j,i<k.nC→j<k.nC→i≠j→∀b,(f i).ownBlock=some b→(f j).ownBlock≠some b
section
variable {w w':World} {k:Ker} {z:Nat→Nat→Int} {f f':Nat→Value} {m:Nat→Nat} {xs:Nat→List Value}
theorem J5 {w:World} {v:Value} {m:Nat} {xs:List Value} (h:w.ownsRow 0 111 3 v m xs) {b:Nat} (hb:v.ownBlock=some b):∃cs fz,w.heap[b]?=some (.cells cs 111 fz):=by
 rcases h.2 with ⟨hx,_⟩|⟨g0,cap0,cur,hx,_,hg,_⟩
 ·rw [hx] at hb;simp [Value.ownBlock] at hb
 ·rw [hx] at hb;have:g0=b:=by simpa [Value.ownBlock] using hb
  subst this;exact ⟨_,_,hg⟩
theorem Stat.ne_row {b g m t:Nat} {f:Nat→Value} (h:Stat w b) (hr:RowF w g m t f) (ht:t=186∨t=61):b≠g:=fun e=>by
 subst e;obtain ⟨cs,t',fz,h1,h2,h3,_⟩:=h;obtain ⟨cs',h5,_⟩:=hr;rw [h5] at h1;injection h1 with h1
 injection h1 with _ h1
 rcases ht with rfl|rfl
 ·exact h2 h1.symm
 ·exact h3 h1.symm
theorem Stat.ne_own {b:Nat} (h:Stat w b) {v:Value} {m:Nat} {xs:List Value} (ho:w.ownsRow 0 111 3 v m xs):v.ownBlock≠some b:=fun e=>by
 obtain ⟨cs,fz,h1⟩:=J5 ho e;obtain ⟨cs',t',fz',h2,_,_,h4⟩:=h;rw [h1] at h2;injection h2 with h2
 injection h2 with _ h2
 exact h4 h2.symm
theorem Zh {g n t:Nat} {f:Nat→Value} (hr:RowF w g n t f) (ht:t≠111) {v:Value} {m:Nat} {xs:List Value} (ho:w.ownsRow 0 111 3 v m xs):v.ownBlock≠some g:=fun e=>by
 obtain ⟨cs,fz,h1⟩:=J5 ho e;obtain ⟨cs',h2,_⟩:=hr;rw [h1] at h2;injection h2 with h2
 injection h2 with _ h2
 exact ht h2.symm
theorem Y2B {g g' n n' t t':Nat} {f f':Nat→Value} (hr:RowF w g n t f) (hr':RowF w g' n' t' f') (ht:t≠t'):g≠g':=Y0w hr hr' ht
theorem KNow.ready (h:KNow w k z f m xs) {cell:Nat} (hc:cell<k.nC):Ready w k.kb k.C k.T k.nC k.cC cell (k.g cell) k.nb (k.cb cell) (k.co cell) (k.n cell) (k.cc cell) (k.num cell) (k.ci cell) (z cell) f (m cell) (xs cell) where
 k2:=h.k2
 k4:=h.k4
 cl:=h.cl cell hc
 hcell:=hc
 row:=h.row cell hc
 tr:=h.tr
 own:=h.own cell hc
 code:=h.code cell hc
 cbIn:=by obtain ⟨cs,t,fz,h1,_⟩:=h.scb cell hc;exact ⟨_,h1⟩
 net:=h.net
 n48:=h.n48 cell hc
 ok:=h.ok cell hc
 zok:=h.zok cell hc
 hg:=⟨Y2B (h.row cell hc) h.tr (by decide),Zh (h.row cell hc) (by decide) (h.own cell hc)⟩
 hT:=Zh h.tr (by decide) (h.own cell hc)
 hkb:=⟨h.skb.ne_row (h.row cell hc) (.inl rfl),h.skb.ne_row h.tr (.inr rfl),h.skb.ne_own (h.own cell hc)⟩
 hcb:=⟨(h.scb cell hc).ne_row (h.row cell hc) (.inl rfl),(h.scb cell hc).ne_row h.tr (.inr rfl),(h.scb cell hc).ne_own (h.own cell hc)⟩
 hnb:=⟨h.snb.ne_row (h.row cell hc) (.inl rfl),h.snb.ne_row h.tr (.inr rfl),h.snb.ne_own (h.own cell hc)⟩
def updN {α:Type} (x:Nat→α) (i:Nat) (v:α) (j:Nat):α:=if j=i then v else x j
theorem Yh {α:Type} (x:Nat→α) (i:Nat) (v:α):updN x i v i=v:=if_pos rfl
theorem YG {α:Type} (x:Nat→α) {i j:Nat} (v:α) (h:j≠i):updN x i v j=x j:=if_neg h
section
variable {cell:Nat} {z':Nat→Int} {m':Nat} {xs':List Value}
theorem Stat.after (h:KNow w k z f m xs) (hc:cell<k.nC) (hA:After w k.T k.nC cell (k.g cell) (k.num cell) (.pointer (some ⟨k.nb,0,none⟩)) (YB (k.cb cell) (k.co cell) (k.n cell) (k.cc cell)) z' f m' xs' w' f') {b:Nat} (hs:Stat w b):w'.heap[b]?=w.heap[b]?:=by
 obtain ⟨cs,t,fz,h1,_⟩:=id hs;exact hA.old b (Array.getElem?_eq_some_iff.1 h1).1 (hs.ne_row (h.row cell hc) (.inl rfl)) (hs.ne_row h.tr (.inr rfl)) (hs.ne_own (h.own cell hc))
theorem Stat.of_heap {b:Nat} (h:Stat w b) (e:w'.heap[b]?=w.heap[b]?):Stat w' b:=by
 obtain ⟨cs,t,fz,h1,h2⟩:=h;exact ⟨cs,t,fz,e.trans h1,h2⟩
theorem cell_of_heap {a:Addr} (e:w'.heap[a.block]?=w.heap[a.block]?):w'.cell? a=w.cell? a:=by
 unfold World.cell?;rw [e]
theorem KNow.after (h:KNow w k z f m xs) (hc:cell<k.nC) (hA:After w k.T k.nC cell (k.g cell) (k.num cell) (.pointer (some ⟨k.nb,0,none⟩)) (YB (k.cb cell) (k.co cell) (k.n cell) (k.cc cell)) z' f m' xs' w' f') (hz:Zok (k.n cell) z'):KNow w' k (updN z cell z') f' (updN m cell m') (updN xs cell xs'):=by
 have kk:=fun {b:Nat} (hs:Stat w b)=>Stat.after h hc hA hs;have kept:∀i,i<k.nC→i≠cell→w'.heap[k.g i]?=w.heap[k.g i]?:=fun i hi hne=>hA.old _ (h.row i hi).lt (h.inj i cell hi hc hne) (Y2B (h.row i hi) h.tr (by decide)) (Zh (h.row i hi) (by decide) (h.own cell hc));have keptO:∀i,i<k.nC→i≠cell→∀b,(f i).ownBlock=some b→b<w.heap.size∧w'.heap[b]?=w.heap[b]?:=fun i hi hne b hb=>by
  obtain ⟨cs,fz,h1⟩:=J5 (h.own i hi) hb;have hlt:=(Array.getElem?_eq_some_iff.1 h1).1;exact ⟨hlt,hA.old b hlt (fun e=>Zh (h.row cell hc) (by decide) (h.own i hi) (by rw [←e];exact hb)) (fun e=>Zh h.tr (by decide) (h.own i hi) (by rw [←e];exact hb)) (h.ownNe i cell hi hc hne b hb)⟩
 refine ⟨(cell_of_heap (kk h.skb)).trans h.k2,(cell_of_heap (kk h.skb)).trans h.k4,h.skb.of_heap (kk h.skb),h.sC.of_heap (kk h.sC),h.snb.of_heap (kk h.snb),fun i hi=>(h.scb i hi).of_heap (kk (h.scb i hi)),fun i hi=>(cell_of_heap (kk h.sC)).trans (h.cl i hi),fun i hi=>?_,hA.tr,fun i hi=>?_,fun i hi j hj=>(cell_of_heap (a:=⟨k.cb i,k.co i+j,none⟩) (kk (h.scb i hi))).trans (h.code i hi j hj),?_,h.n48,h.ok,fun i hi=>?_,h.inj,fun i j hi hj hne b hb hb'=>?_⟩
 ·by_cases e:i=cell
  ·subst e;rw [Yh];exact hA.row
  ·rw [YG _ _ e];exact (h.row i hi).of_heap (kept i hi e)
 ·by_cases e:i=cell
  ·subst e;rw [Yh,Yh];exact hA.own
  ·rw [YG _ _ e,YG _ _ e,hA.others i e];exact Xd (L:=⟨0,0,111,fun _=>False,fun _=>False⟩) (h.own i hi) fun b hb=>(keptO i hi e b hb).2
 ·obtain ⟨q,cap,hn⟩:=h.net;exact ⟨q,cap,(cell_of_heap (a:=⟨k.nb,0,none⟩) (kk h.snb)).trans hn⟩
 ·by_cases e:i=cell
  ·subst e;rw [Yh];exact hz
  ·rw [YG _ _ e];exact h.zok i hi
 ·by_cases e:i=cell
  ·subst e;have hj':j≠i:=fun x=>hne x.symm;rw [hA.others j hj'] at hb';rcases hA.blk b hb with hb|hb
   ·exact h.ownNe i j hi hj hne b hb hb'
   ·have:=(keptO j hj hj' b hb').1;omega
  ·rw [hA.others i e] at hb;by_cases e2:j=cell
   ·subst e2;rcases hA.blk b hb' with hb'|hb'
    ·exact h.ownNe i j hi hj hne b hb hb'
    ·have:=(keptO i hi e b hb).1;omega
   ·rw [hA.others j e2] at hb';exact h.ownNe i j hi hj hne b hb hb'
end
end
structure RC where
 z:Nat→Int
 s:Int
 v:Value
 b:Bool
def refV (c:RC) (j:Nat):Value:=if j<21 then .int .i64 (c.z (25+j)) else if j=21 then .slice none 0 0 else if j=22 then c.v else if j=23 then .int .i64 c.s else if j=24 then .int .i64 (c.z 47) else .bool c.b
def refC (R:Nat→RC) (j:Nat):Value:=refV (R (j / 26)) (j % 26)
theorem Y1r (R:Nat→RC) (n:Nat) {i:Nat} (hi:i<26):refC R (n*26+i)=refV (R n) i:=by
 unfold refC;rw [show (n*26+i) / 26=n by omega,show (n*26+i) % 26=i by omega]
theorem Y0a {R:Nat→RC} {n i:Nat} {v:Value} {c':RC} (hi:i<26) (h:∀j,j<26→refV c' j=if j=i then v else refV (R n) j) (j:Nat):(if j=n*26+i then v else refC R j)=refC (updN R n c') j:=by
 unfold refC;by_cases e:j / 26=n
 ·rw [e,Yh,h _ (Nat.mod_lt _ (by omega))];by_cases e2:j % 26=i
  ·rw [if_pos e2,if_pos (by omega)]
  ·rw [if_neg e2,if_neg (by omega)]
 ·rw [YG _ _ e,if_neg (by omega)]
section
variable {w:World} {G m t n i a:Nat} {R:Nat→RC}
theorem Y5F (c:RC) {i:Nat} (hi:i<21) (x:Int) (j:Nat):refV {c with z:=zset c.z (25+i) x} j=if j=i then .int .i64 x else refV c j:=by
 unfold refV;by_cases h:j<21
 ·rw [if_pos h,if_pos h];by_cases e:j=i
  ·subst e;rw [if_pos rfl];show Value.int .i64 (zset c.z (25+j) x (25+j))=_;rw [Z7]
  ·rw [if_neg e];show Value.int .i64 (zset c.z (25+i) x (25+j))=_;rw [YQ _ _ (by omega)]
 ·have e:j≠i:=by omega
  rw [if_neg e,if_neg h,if_neg h];show (if j=21 then _ else if j=22 then _ else if j=23 then _ else if j=24 then Value.int .i64 (zset c.z (25+i) x 47) else _)=_;rw [YQ _ _ (by omega)]
theorem RowF.rz (h:RowF w G m t (refC R)) (hi:i<21) (ha:a=n*26+i) (x:Int):RowF (w.setCell ⟨G,a,none⟩ (.int .i64 x)) G m t (refC (updN R n {R n with z:=zset (R n).z (25+i) x})):=by
 subst ha;exact (h.set _ _).congr fun j _=>Y0a (by omega) (fun j _=>Y5F _ hi x j) j
theorem RowF.rv (h:RowF w G m t (refC R)) (ha:a=n*26+22) (v:Value):RowF (w.setCell ⟨G,a,none⟩ v) G m t (refC (updN R n {R n with v:=v})):=by
 subst ha;refine (h.set _ _).congr fun j _=>Y0a (by omega) (fun j _=>?_) j;unfold refV;by_cases e:j=22
 ·subst e;rfl
 ·simp only [e,if_false]
theorem RowF.rs (h:RowF w G m t (refC R)) (ha:a=n*26+23) (x:Int):RowF (w.setCell ⟨G,a,none⟩ (.int .i64 x)) G m t (refC (updN R n {R n with s:=x})):=by
 subst ha;refine (h.set _ _).congr fun j _=>Y0a (by omega) (fun j _=>?_) j;unfold refV;by_cases e:j=23
 ·subst e;rfl
 ·simp only [e,if_false]
theorem RowF.r47 (h:RowF w G m t (refC R)) (ha:a=n*26+24) (x:Int):RowF (w.setCell ⟨G,a,none⟩ (.int .i64 x)) G m t (refC (updN R n {R n with z:=zset (R n).z 47 x})):=by
 subst ha;refine (h.set _ _).congr fun j _=>Y0a (by omega) (fun j _=>?_) j;unfold refV;by_cases e:j=24
 ·subst e;show Value.int .i64 (zset (R n).z 47 x 47)=_;rw [Z7];rfl
 ·by_cases h:j<21
  ·rw [if_pos h,if_pos h,if_neg e];show Value.int .i64 (zset (R n).z 47 x (25+j))=_;rw [YQ _ _ (by omega)]
  ·simp only [e,h,if_false]
theorem RowF.rb (h:RowF w G m t (refC R)) (ha:a=n*26+25) (x:Bool):RowF (w.setCell ⟨G,a,none⟩ (.bool x)) G m t (refC (updN R n {R n with b:=x})):=by
 subst ha;refine (h.set _ _).congr fun j _=>Y0a (by omega) (fun j hj=>?_) j;unfold refV;by_cases e:j=25
 ·subst e;rfl
 ·rw [if_neg e];by_cases h:j<21
  ·rw [if_pos h,if_pos h]
  ·simp only [h,if_false];repeat' split
   all_goals first
    |rfl
    |omega
theorem RowF.rn (h:RowF w G m t (refC R)) (ha:a=n*26+21):RowF (w.setCell ⟨G,a,none⟩ (.slice none 0 0)) G m t (refC R):=by
 subst ha;refine (h.set _ _).congr fun j _=>?_;by_cases e:j=n*26+21
 ·subst e;rw [if_pos rfl,Y1r _ _ (by omega)];rfl
 ·rw [if_neg e]
theorem ZN {α:Type} (x:Nat→α) (i:Nat) (a b:α):updN (updN x i a) i b=updN x i b:=by
 funext j
 unfold updN;split<;>rfl
theorem RowF.rzs {zz:Nat→Int} (h:RowF w G m t (refC (updN R n {R n with z:=zz}))) (hi:i<21) (ha:a=n*26+i) (x:Int):RowF (w.setCell ⟨G,a,none⟩ (.int .i64 x)) G m t (refC (updN R n {R n with z:=zset zz (25+i) x})):=by
 have:=RowF.rz h hi ha x;rw [ZN,Yh] at this;exact this
theorem Y0j {c:RC} {z1 z2:Nat→Int} (h:∀j,(25≤j∧j<46)∨j=47→z1 j=z2 j) (j:Nat):refV {c with z:=z1} j=refV {c with z:=z2} j:=by
 unfold refV;by_cases h1:j<21
 ·rw [if_pos h1,if_pos h1];show Value.int .i64 (z1 (25+j))=.int .i64 (z2 (25+j));rw [h _ (by omega)]
 ·rw [if_neg h1,if_neg h1];show (if j=21 then _ else if j=22 then _ else if j=23 then _ else if j=24 then Value.int .i64 (z1 47) else _)=_;rw [h 47 (.inr rfl)]
theorem RowF.rc {z1 z2:Nat→Int} (h:RowF w G m t (refC (updN R n {R n with z:=z1}))) (he:∀j,(25≤j∧j<46)∨j=47→z1 j=z2 j):RowF w G m t (refC (updN R n {R n with z:=z2})):=h.congr fun j _=>by
 unfold refC;by_cases e:j / 26=n
 ·rw [e,Yh,Yh];exact Y0j he _
 ·rw [YG _ _ e,YG _ _ e]
theorem RowF.r0 (h:RowF w G m t (refC R)) (n:Nat):RowF w G m t (refC (updN R n {R n with z:=(R n).z})):=h.congr fun j _=>by
 unfold refC;by_cases e:j / 26=n
 ·rw [e,Yh]
 ·rw [YG _ _ e]
theorem RowF.rat (h:RowF w G m t (refC R)) (hi:i<26) (ha:a=n*26+i) (hm:a<m):w.cell? ⟨G,a,none⟩=some (refV (R n) i):=by
 subst ha;rw [h.cell hm,Y1r _ _ hi]
end
end Go.Proofs.YtdoghgnifkgfdaaGreat.Mute
namespace Go.Proofs.YtdoghgnifkgfdaaGreat
open Go.RowKit
theorem YaI (x y:Int) (w:World):Calls Tryz.prog 114 #[.int .i64 2,.int .i64 x,.int .i64 y] w fun e w'=>e=.returned (.tuple #[.int .i64 (wrap64 (x+y)),.bool true])∧w'=w:=by
 go_enter Tryz.func114,Tryz.ntmps114
 go_wp2_with fail
 go_ret2
 exact ⟨rfl,rfl⟩
theorem Yb5 (x y:Int) (w:World):Calls Tryz.prog 114 #[.int .i64 3,.int .i64 x,.int .i64 y] w fun e w'=>e=.returned (.tuple #[.int .i64 (wrap64 (x-y)),.bool true])∧w'=w:=by
 go_enter Tryz.func114,Tryz.ntmps114
 go_wp2_with fail
 go_ret2
 exact ⟨rfl,rfl⟩
theorem Y9f (x y:Int) (w:World):Calls Tryz.prog 114 #[.int .i64 4,.int .i64 x,.int .i64 y] w fun e w'=>e=.returned (.tuple #[.int .i64 (wrap64 (x*y)),.bool true])∧w'=w:=by
 go_enter Tryz.func114,Tryz.ntmps114
 go_wp2_with fail
 go_ret2
 exact ⟨rfl,rfl⟩
theorem Y8d (x:Int) (w:World):Calls Tryz.prog 114 #[.int .i64 5,.int .i64 x,.int .i64 0] w fun e w'=>e=.returned (.tuple #[.int .i64 0,.bool false])∧w'=w:=by
 go_enter Tryz.func114,Tryz.ntmps114
 go_wp2_with fail
 go_ret2
 exact ⟨rfl,rfl⟩
theorem YaP (x:Int) (w:World):Calls Tryz.prog 114 #[.int .i64 5,.int .i64 x,.int .i64 (-1)] w fun e w'=>e=.returned (.tuple #[.int .i64 (wrap64 (-x)),.bool true])∧w'=w:=by
 go_enter Tryz.func114,Tryz.ntmps114
 go_wp2_with fail
 go_ret2
 exact ⟨rfl,rfl⟩
theorem Yb8 (x y:Int) (w:World) (h0:(y==0)=false) (h1:(y==-1)=false):Calls Tryz.prog 114 #[.int .i64 5,.int .i64 x,.int .i64 y] w fun e w'=>e=.returned (.tuple #[.int .i64 (wrap64 (x.tdiv y)),.bool true])∧w'=w:=by
 go_enter Tryz.func114,Tryz.ntmps114
 go_wp2_with fail
 ·rename_i hy
  rw [hy] at h0;cases h0
 ·go_ret2
  exact ⟨rfl,rfl⟩
end Go.Proofs.YtdoghgnifkgfdaaGreat
namespace Go.Proofs.YtdoghgnifkgfdaaGreat.Mute
open Go Go.Conc Go.RowKit
section
variable {wR w w':World} {k:Ker} {z:Nat→Nat→Int} {f:Nat→Value} {m:Nat→Nat} {xs:Nat→List Value} {wsB wo nW:Nat} {wn:Nat→Nat×Nat}
theorem Jm {b:Nat} (h:Stat w b):b<w.heap.size:=by
 obtain ⟨cs,t,fz,h1,_⟩:=h;exact (Array.getElem?_eq_some_iff.1 h1).1
theorem KNow.grow (h:KNow w k z f m xs) (hg:∀b,b<w.heap.size→w'.heap[b]?=w.heap[b]?):KNow w' k z f m xs:=by
 have kk:=fun {b:Nat} (hs:Stat w b)=>hg b (Jm hs);refine ⟨(cell_of_heap (kk h.skb)).trans h.k2,(cell_of_heap (kk h.skb)).trans h.k4,h.skb.of_heap (kk h.skb),h.sC.of_heap (kk h.sC),h.snb.of_heap (kk h.snb),fun i hi=>(h.scb i hi).of_heap (kk (h.scb i hi)),fun i hi=>(cell_of_heap (kk h.sC)).trans (h.cl i hi),fun i hi=>(h.row i hi).of_heap (hg _ (h.row i hi).lt),h.tr.of_heap (hg _ h.tr.lt),fun i hi=>?_,fun i hi j hj=>(cell_of_heap (a:=⟨k.cb i,k.co i+j,none⟩) (kk (h.scb i hi))).trans (h.code i hi j hj),?_,h.n48,h.ok,h.zok,h.inj,h.ownNe⟩
 ·exact Xd (L:=⟨0,0,111,fun _=>False,fun _=>False⟩) (h.own i hi) fun b hb=>by
   obtain ⟨cs,fz,h1⟩:=J5 (h.own i hi) hb;exact hg b (Array.getElem?_eq_some_iff.1 h1).1
 ·obtain ⟨q,cap,hn⟩:=h.net;exact ⟨q,cap,(cell_of_heap (a:=⟨k.nb,0,none⟩) (kk h.snb)).trans hn⟩
def Foot (k:Ker) (fR:Nat→Value) (b:Nat):Prop:=(∀i,i<k.nC→b≠k.g i)∧b≠k.T∧∀i,i<k.nC→(fR i).ownBlock≠some b
structure Fw (wR w:World) (k:Ker) (wsB wo nW:Nat) (wn:Nat→Nat×Nat) (z:Nat→Nat→Int) (f:Nat→Value) (m:Nat→Nat) (xs:Nat→List Value):Prop where
 kn:KNow w k z f m xs
 sW:Stat w wsB
 c0:∀j,j<nW→w.cell? ⟨wsB,wo+j*2,none⟩=some (.int .i64 (wn j).1)
 c1:∀j,j<nW→w.cell? ⟨wsB,wo+j*2+1,none⟩=some (.int .i64 (wn j).2)
 st:∀b,Stat wR b→w.heap[b]?=wR.heap[b]?
 ph:w.os=wR.os∧w.output=wR.output∧w.tape=wR.tape∧wR.heap.size≤w.heap.size
 ft:∀fR,RowF wR k.T k.nC 61 fR→(∀b,b<wR.heap.size→Foot k fR b→w.heap[b]?=wR.heap[b]?)∧(∀i b,i<k.nC→(f i).ownBlock=some b→(fR i).ownBlock=some b∨wR.heap.size≤b)
theorem Fw.grow (h:Fw wR w k wsB wo nW wn z f m xs) (hg:∀b,b<w.heap.size→w'.heap[b]?=w.heap[b]?) (hph:w'.os=w.os∧w'.output=w.output∧w'.tape=w.tape∧w.heap.size≤w'.heap.size):Fw wR w' k wsB wo nW wn z f m xs:=
 ⟨h.kn.grow hg,h.sW.of_heap (hg _ (Jm h.sW)),fun j hj=>(cell_of_heap (a:=⟨wsB,wo+j*2,none⟩) (hg _ (Jm h.sW))).trans (h.c0 j hj),fun j hj=>(cell_of_heap (a:=⟨wsB,wo+j*2+1,none⟩) (hg _ (Jm h.sW))).trans (h.c1 j hj),fun b hb=>(hg b (Jm (hb.of_heap (h.st b hb)))).trans (h.st b hb),⟨hph.1.trans h.ph.1,hph.2.1.trans h.ph.2.1,hph.2.2.1.trans h.ph.2.2.1,Nat.le_trans h.ph.2.2.2 hph.2.2.2⟩,fun fR hR=>⟨fun b hb hf=>(hg b (Nat.lt_of_lt_of_le hb h.ph.2.2.2)).trans ((h.ft fR hR).1 b hb hf),(h.ft fR hR).2⟩⟩
theorem Fw.rely (h:Fw wR w k wsB wo nW wn z f m xs) (r:RS w w'):Fw wR w' k wsB wo nW wn z f m xs:=by
 obtain ⟨d,rfl⟩:=r;exact h.grow (fun _ _=>rfl) ⟨rfl,rfl,rfl,Nat.le_refl _⟩
theorem Y4h {g n t:Nat} {e:Nat→Value} (h:RowF w g n t e) (r:RS w w'):RowF w' g n t e:=by
 obtain ⟨d,rfl⟩:=r;exact h
def pair (a b:Nat) (j:Nat):Value:=if j=0 then .int .i64 a else .int .i64 b
theorem Fw.box (h:Fw wR w k wsB wo nW wn z f m xs):Fw wR (w.alloc (.cells #[.int .i64 0,.int .i64 0] 102)) k wsB wo nW wn z f m xs∧RowF (w.alloc (.cells #[.int .i64 0,.int .i64 0] 102)) w.heap.size 2 102 (pair 0 0):=
 ⟨h.grow (fun _ hb=>heap_alloc_old w _ hb) ⟨rfl,rfl,rfl,by simp⟩,.new w _ _ _ fun j hj=>by
  have:j=0∨j=1:=by simp at hj;omega
  rcases this with rfl|rfl<;>rfl⟩
theorem Fw.box2 (h:Fw wR w k wsB wo nW wn z f m xs) (d a b:Nat):Fw wR ((((w.alloc (.cells #[.int .i64 0,.int .i64 0] 102)).at d).setCell ⟨w.heap.size,0,none⟩ (.int .i64 a)).setCell ⟨w.heap.size,1,none⟩ (.int .i64 b)) k wsB wo nW wn z f m xs∧RowF ((((w.alloc (.cells #[.int .i64 0,.int .i64 0] 102)).at d).setCell ⟨w.heap.size,0,none⟩ (.int .i64 a)).setCell ⟨w.heap.size,1,none⟩ (.int .i64 b)) w.heap.size 2 102 (pair a b):=by
 refine ⟨h.grow (fun x hx=>?_) ⟨rfl,rfl,rfl,by show w.heap.size≤((World.at (w.alloc _) d).setCell _ _ |>.setCell _ _).heap.size;rw [size_setCell,size_setCell];show w.heap.size≤(w.alloc _).heap.size;simp⟩,?_⟩
 ·rw [heap_setCell_other _ _ _ _ (by show x≠w.heap.size;omega),heap_setCell_other _ _ _ _ (by show x≠w.heap.size;omega)];exact heap_alloc_old w _ hx
 ·have h2:RowF ((w.alloc (.cells #[.int .i64 0,.int .i64 0] 102)).at d) w.heap.size 2 102 (pair 0 0):=h.box.2;refine ((h2.set 0 (.int .i64 a)).set 1 (.int .i64 b)).congr fun j hj=>?_;have:j=0∨j=1:=by omega
  rcases this with rfl|rfl<;>rfl
end
structure KSt where
 z:Nat→Nat→Int
 m:Nat→Nat
 xs:Nat→List Value
def winS (k:Ker) (p:Nat×Nat) (s:KSt):KSt:=⟨updN s.z p.1 (Yf (k.n p.1) (k.ci p.1) p.2 (s.z p.1)).2,updN s.m p.1 (s.m p.1+(Yf (k.n p.1) (k.ci p.1) p.2 (s.z p.1)).1.length),updN s.xs p.1 (s.xs p.1++(Yf (k.n p.1) (k.ci p.1) p.2 (s.z p.1)).1.flatMap Yv)⟩
def rowS (k:Ker) (wn:Nat→Nat×Nat):Nat→Nat→KSt→KSt
 |0,_,s=>s
 |rem+1,j,s=>rowS k wn rem (j+1) (winS k (wn j) s)
theorem Y2A {n:Nat} {ci z:Nat→Int} (hok:Xc n ci) (h:Zok n z) (b:Nat):Zok n (Yf n ci b z).2:=by
 show Zok n (goF n ci b z).2.2;unfold goF;split
 ·exact h
 ·exact Y3f hok b z h
section
variable {wR w w':World} {k:Ker} {f f':Nat→Value} {wsB wo nW:Nat} {wn:Nat→Nat×Nat} {s:KSt} {p:Nat×Nat}
theorem Fw.after (h:Fw wR w k wsB wo nW wn s.z f s.m s.xs) (hc:p.1<k.nC) (hA:After w k.T k.nC p.1 (k.g p.1) (k.num p.1) (.pointer (some ⟨k.nb,0,none⟩)) (YB (k.cb p.1) (k.co p.1) (k.n p.1) (k.cc p.1)) (Yf (k.n p.1) (k.ci p.1) p.2 (s.z p.1)).2 f (s.m p.1+(Yf (k.n p.1) (k.ci p.1) p.2 (s.z p.1)).1.length) (s.xs p.1++(Yf (k.n p.1) (k.ci p.1) p.2 (s.z p.1)).1.flatMap Yv) w' f'):
  Fw wR w' k wsB wo nW wn (winS k p s).z f' (winS k p s).m (winS k p s).xs:=by
 have e:=Stat.after h.kn hc hA h.sW;refine ⟨h.kn.after hc hA (Y2A (h.kn.ok _ hc) (h.kn.zok _ hc) _),h.sW.of_heap e,fun j hj=>(cell_of_heap (a:=⟨wsB,wo+j*2,none⟩) e).trans (h.c0 j hj),fun j hj=>(cell_of_heap (a:=⟨wsB,wo+j*2+1,none⟩) e).trans (h.c1 j hj),fun b hb=>(Stat.after h.kn hc hA (hb.of_heap (h.st b hb))).trans (h.st b hb),⟨hA.os.trans h.ph.1,hA.out.trans h.ph.2.1,hA.tape.trans h.ph.2.2.1,Nat.le_trans h.ph.2.2.2 hA.size⟩,fun fR hR=>⟨fun b hb hf=>(hA.old b (Nat.lt_of_lt_of_le hb h.ph.2.2.2) (hf.1 _ hc) hf.2.1 (fun e=>?_)).trans ((h.ft fR hR).1 b hb hf),fun i b hi hb=>?_⟩⟩
 ·rcases (h.ft fR hR).2 _ b hc e with e|e
  ·exact hf.2.2 _ hc e
  ·omega
 ·by_cases e:i=p.1
  ·subst e;rcases hA.blk b hb with e|e
   ·exact (h.ft fR hR).2 _ b hi e
   ·exact .inr (Nat.le_trans h.ph.2.2.2 e)
  ·rw [hA.others i e] at hb;exact (h.ft fR hR).2 _ b hi hb
end
end Go.Proofs.YtdoghgnifkgfdaaGreat.Mute
