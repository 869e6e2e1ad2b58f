import Derived.ProofKit
import Derived.SizedLaws
import Derived.Deep.Slices
import Derived.Lib.SmallJoins
import Derived.Test.YtdoghgnifkgfdaaGreatRows
import Derived.Test.YtdoghgnifkgfdaaGreatP08
import Derived.Test.YtdoghgnifkgfdaaGreatP47
import Derived.Test.YtdoghgnifkgfdaaGreatP49
set_option maxRecDepth 100000
set_option maxHeartbeats 4000000
namespace Go.Proofs.YtdoghgnifkgfdaaGreat.Mute
open Go Go.Conc Go.RowKit
section
variable {w:World}
theorem Y98 {lp:Option Addr} {len cap:Nat} {o:Nat→ScOp} (hs:ScR w lp len o) (hlen:len≤1048576):
  CallsR Tryz.prog 7 #[.slice lp len cap,.int .i64 5] w (fun v w'=>v=.bool true∧But (fun b=>w.heap.size≤b) w w'):=by
 refine CallsR.introT (List.toArray ((.slice lp len cap)::(.int .i64 5)::undef::undef::undef::undef::undef::undef::undef::undef::undef::undef::undef::undef::undef::undef::undef::undef::undef::undef::undef::undef::undef::undef::undef::undef::undef::undef::undef::undef::undef::undef::undef::undef::undef::undef::undef::undef::undef::undef::undef::undef::undef::undef::undef::undef::undef::undef::undef::undef::undef::undef::undef::undef::undef::undef::undef::undef::undef::undef::undef::undef::undef::undef::undef::undef::undef::undef::undef::undef::undef::undef::undef::undef::undef::undef::undef::undef::undef::undef::undef::undef::undef::undef::undef::undef::undef::undef::undef::undef::undef::undef::undef::undef::undef::undef::undef::undef::undef::undef::undef::[])) Tryz.func7 (by rfl) (by kernel_rfl) fun cs Post hp=>?_;have hk:(base 7).kind≠.early:=by simp [base]
 refine Y3.of_goes ?_;have hF:=Is.self w;repeat refine .c1 Y2 rfl ?_
 refine .regionL Y2 [0] (by rfl) ?_;refine .opV Y2 rfl (by rfl) hk ?_;try walk_nrm
 repeat refine .c1 Y2 rfl ?_
 refine .regionL Y2 [0,1,2] (by rfl) ?_;refine .opV Y2 rfl (by rfl) hk ?_;try walk_nrm
 refine .op rfl (by rfl) hk fun w1 hR K hK=>?_;replace hF:=hF.rely hR;clear hR;go_simp;try (unfold stored;go_simp)
 refine hK _ _ ⟨?_,?_⟩
 ·exact Yw plain (Yi plain Tryz.func7 (by kernel_rfl) _) (by kernel_rfl) _
 clear hK K;obtain ⟨d1,rfl⟩:=hF;have hB1:Below w.heap.size w ((w.at d1).alloc (.cells #[.slice none 0 0,.slice none 0 0,.slice none 0 0,.slice none 0 0,.slice none 0 0] 79)):=have q:=(Below.refl w.heap.size (w.at d1)).alloc (Nat.le_refl _) _;⟨q.os,q.tape,q.output,q.size,q.block⟩;have hR1:RowF ((w.at d1).alloc (.cells #[.slice none 0 0,.slice none 0 0,.slice none 0 0,.slice none 0 0,.slice none 0 0] 79)) w.heap.size 5 79 (cells5 (.slice none 0 0) (.slice none 0 0) (.slice none 0 0) (.slice none 0 0) (.slice none 0 0)):=RowF.new (w.at d1) _ _ _ (fun j hj=>by
  have hj':j<5:=hj;have:j=0∨j=1∨j=2∨j=3∨j=4:=by omega
  rcases this with rfl|rfl|rfl|rfl|rfl<;>rfl)
 rw [show (w.at d1).heap.size=w.heap.size from rfl];generalize hWB:(w.at d1).alloc (.cells #[.slice none 0 0,.slice none 0 0,.slice none 0 0,.slice none 0 0,.slice none 0 0] 79)=wB at *;have hF:=Is.self wB;try walk_nrm
 refine .opV Y2 rfl (by rfl) hk ?_;try walk_nrm
 repeat refine .c1 Y2 rfl ?_
 refine .regionL Y2 [0,1,2,3] (by rfl) ?_;refine .opV Y2 rfl (by rfl) hk ?_;try walk_nrm
 refine .stop rfl fun w4 hR=>?_;obtain ⟨d4,rfl⟩:=hF.rely hR;clear hF hR;refine Y3.call rfl (by rfl) hk (fun d=>?run1) (fun d=>?evs1) (Yaz (wB.at d4)) (fun v wS hv=>?_)
 case run1=>kernel_rfl
 case evs1=>
  rw [listed_nil (by kernel_rfl)];simp
 obtain ⟨v0,v1,v2,v3,rfl,hS1,hS2⟩:=hv;refine Y3.of_goes ?_;have hF:=Is.self wS;try walk_nrm
 replace hS2:Below wB.heap.size wB wS:=⟨hS2.os,hS2.tape,hS2.output,hS2.size,hS2.block⟩;have hB2:Below w.heap.size w wS:=hB1.trans (hS2.mono hB1.size);have hRS:RowF wS w.heap.size 5 79 (cells5 (.slice none 0 0) (.slice none 0 0) (.slice none 0 0) (.slice none 0 0) (.slice none 0 0)):=hR1.of_heap (hS2.block _ hR1.lt);have hBS:But (fun b=>w.heap.size≤b) w wS:=But.of_below hB2 _;have hCF:∀w':World,(∀b,b<wS.heap.size→¬RZ w.heap.size (.slice none 0 0) (.slice none 0 0) b→w'.heap[b]?=wS.heap[b]?)→CfgR w' v0 v1 v2 v3 Yz:=fun w' hk=>hS1 w' fun b h1 h2=>hk b h2 (by
  have h3:=hR1.lt;have h4:wB.heap.size≤b:=h1;rintro (q|q|q)
  ·omega
  ·simp [Value.ownBlock] at q
  ·simp [Value.ownBlock] at q)
 refine .stop rfl fun w4 hR=>?_;obtain ⟨d4,rfl⟩:=hF.rely hR;clear hF hR;refine Y3.call rfl (by rfl) hk (fun d=>?run2) (fun d=>?evs2) ((Yp.start (w0:=w) (w:=wS.at d4) (bw:=w.heap.size) hRS (Nat.le_refl _) ⟨hBS.os,hBS.tape,hBS.output,hBS.size,hBS.block⟩).madeC (N:=0) (Nat.le_refl _) (Nat.le_refl _) hCF Ybi rfl rfl (Nat.zero_le _)) (fun v wM hv=>?_)
 case run2=>kernel_rfl
 case evs2=>
  rw [listed_nil (by kernel_rfl)];simp
 obtain ⟨rfl,hM⟩:=hv;refine Y3.of_goes ?_;have hF:=Is.self wM;try walk_nrm
 have hI:Yr w w.heap.size 1 0 0 0 wM:=by
  rcases hM with ⟨-,q⟩|⟨q,-⟩
  ·exact q
  ·exact absurd Y61 q
 clear hM;refine .opV Y2 rfl (by rfl) hk ?_;try walk_nrm
 repeat refine .c1 Y2 rfl ?_
 refine .regionL Y2 [0] (by rfl) ?_;refine .opV Y2 rfl (by rfl) hk ?_;try walk_nrm
 repeat refine .c1 Y2 rfl ?_
 refine Y1.loop Y2 ?_;refine .stop rfl fun w9 hR=>?_;obtain ⟨d9,rfl⟩:=hF.rely hR;clear hF hR;exact Y8s hs hlen cs hp len 0 1 (wM.at d9) _ _ _ _ _ _ _ _ _ _ _ _ _ _ _ _ _ _ _ _ _ _ _ _ _ _ _ _ _ _ _ _ _ _ _ _ _ _ _ _ _ _ _ _ _ _ _ _ _ _ _ _ _ _ _ _ _ _ _ _ _ _ _ _ _ _ _ _ _ _ _ _ _ _ _ _ _ _ _ _ _ _ _ _ _ _ _ _ _ _ _ _ _ _ _ (by omega) (Nat.le_refl _) (by omega) (hI.is ⟨d9,rfl⟩)
end
theorem Y5E:∀{l:List Value},l.length=29→∃x0 x1 x2 x3 x4 x5 x6 x7 x8 x9 x10 x11 x12 x13 x14 x15 x16 x17 x18 x19 x20 x21 x22 x23 x24 x25 x26 x27 x28,l=x0::x1::x2::x3::x4::x5::x6::x7::x8::x9::x10::x11::x12::x13::x14::x15::x16::x17::x18::x19::x20::x21::x22::x23::x24::x25::x26::x27::x28::[]
 | [x0,x1,x2,x3,x4,x5,x6,x7,x8,x9,x10,x11,x12,x13,x14,x15,x16,x17,x18,x19,x20,x21,x22,x23,x24,x25,x26,x27,x28],_=>⟨x0,x1,x2,x3,x4,x5,x6,x7,x8,x9,x10,x11,x12,x13,x14,x15,x16,x17,x18,x19,x20,x21,x22,x23,x24,x25,x26,x27,x28,rfl⟩
theorem alone_calls (W:World) (p:Option Addr) (n cap:Nat) (o:Nat→ScOp) (hn:n≤1048576) (hc:∀i,i<n→∃lb lo,p=some ⟨lb,lo,none⟩∧lb<W.heap.size∧∀j,j<8→W.cell? ⟨lb,lo+i*8+j,none⟩=some ((o i).cell j)) (hin:∀i,i<n→OpIn W (o i)):
  CallsR Tryz.prog 3 #[.slice p n cap] W (fun v w'=>v=.bool true∧Below W.heap.size W w'):=by
 refine CallsR.introT (List.toArray (.slice p n cap::undef::undef::undef::undef::undef::undef::undef::undef::undef::undef::undef::undef::undef::undef::undef::undef::undef::undef::undef::undef::undef::undef::undef::undef::undef::undef::undef::undef::[])) Tryz.func3 (by rfl) (by kernel_rfl) fun cs Post hp=>?_;have hk:(base 3).kind≠.early:=by simp [base]
 refine Y3.of_goes ?_;iterate 1 refine .c1 Y2 rfl ?_
 refine .regionL Y2 [0] (by rfl) ?_;refine .opV Y2 rfl (by rfl) hk ?_;try walk_nrm
 iterate 2 refine .c1 Y2 rfl ?_
 refine .regionL Y2 [0] (by rfl) ?_;refine .opV Y2 rfl (by rfl) hk ?_;try walk_nrm
 iterate 2 refine .c1 Y2 rfl ?_
 refine .stop rfl fun w9 hR=>?_;obtain ⟨d9,rfl⟩:=hR;refine Y3.piece plain Y08 (Qn:=fun a' w'=>a'.tmps.size=29∧a'.defers=[]∧Za W w' (fun i=>(o i).cut) n (a'.tmps.getD 3 undef)) (by kernel_rfl) (by kernel_rfl) ⟨_,Tryz.func3⟩ rfl (Yi plain Tryz.func3 (by kernel_rfl) _) rfl (fun τ=>?wp) (fun a' w' τ' d' d hq=>?post)
 case post=>
  obtain ⟨hs,hdf,hC⟩:=hq;have hC':Za W (reW w' (W.at d9).tape d) (fun i=>(o i).cut) n (a'.tmps.getD 3 undef):=⟨hC.os,hC.out,hC.size,hC.old,hC.own⟩;have ht:(reW w' (W.at d9).tape d).tape=W.tape:=rfl;clear hC;generalize reW w' (W.at d9).tape d=w1 at *;obtain ⟨lp,cl,hv,hsc⟩:=hC'.script hin;obtain ⟨⟨l⟩,ds⟩:=a';obtain ⟨x0,x1,x2,x3,x4,x5,x6,x7,x8,x9,x10,x11,x12,x13,x14,x15,x16,x17,x18,x19,x20,x21,x22,x23,x24,x25,x26,x27,x28,rfl⟩:=Y5E hs;obtain rfl:ds=[]:=hdf;obtain rfl:x3=.slice lp n cl:=hv;refine Y3.of_goes ?_;have hF:=Is.self w1;repeat refine .c1 Y2 rfl ?_
  refine .regionL Y2 [0,1,2] (by rfl) ?_;refine .opV Y2 rfl (by rfl) hk ?_;try walk_nrm
  refine .stop rfl fun w4 hR=>?_;obtain ⟨d4,rfl⟩:=hF.rely hR;clear hF hR;refine Y3.call rfl (by rfl) hk (fun d=>?run) (fun d=>?evs) (Y98 (w:=w1.at d4) (lp:=lp) (len:=n) (cap:=cl) ⟨hsc.cells,fun i hi=>have q:=hsc.ok i hi;⟨q.lo,q.hi,q.cfg,q.ins,q.inp,q.inb⟩⟩ hn) (fun v wE hv2=>?_)
  case run=>kernel_rfl
  case evs=>
   rw [listed_nil (by kernel_rfl)];simp
  obtain ⟨rfl,hB⟩:=hv2;replace hB:But (fun b=>w1.heap.size≤b) w1 wE:=⟨hB.os,hB.tape,hB.output,hB.size,hB.block⟩;refine Y3.of_goes ?_;have hF:=Is.self wE;try walk_nrm
  refine .opV Y2 rfl (by rfl) hk ?_;try walk_nrm
  repeat refine .c1 Y2 rfl ?_
  refine .stop rfl fun w9 hR=>?_;obtain ⟨d8,rfl⟩:=hF.rely hR;refine Y3.ret fun todo=>?_;have hz:=hC'.size;exact hp _ _ _ _ rfl (fun d=>(resultsC_tmp (t:=2) (by rfl) _ _).1) ⟨rfl,hB.os.trans hC'.os,hB.tape.trans ht,hB.output.trans hC'.out,Nat.le_trans hz hB.size,fun b hb=>(hB.block b (by omega) (by omega)).trans (hC'.old b hb)⟩
 case wp=>
 have H0:Hid (Za W (reW (W.at d9) τ 0) (fun i=>(o i).cut) 0 (.slice none 0 0)):=⟨rfl,rfl,Nat.le_refl _,fun _ _=>rfl,World.ownsRow_nil _ _ _ _⟩;generalize reW (W.at d9) τ 0=W0 at *;clear hp;have HC:Hid (∀i,i<n→∃lb lo,p=some ⟨lb,lo,none⟩∧lb<W.heap.size∧∀j,j<8→W.cell? ⟨lb,lo+i*8+j,none⟩=some ((o i).cell j)):=hc;clear hc;go_wp2_with fail
 go_loopw [3,4] (fun l i wr=>∃(k:Nat) (pl:Option Addr) (cl:Nat),k≤n∧i=.int .i64 k∧l=.slice pl k cl∧Hid (Za W wr (fun i=>(o i).cut) k (.slice pl k cl))) (fun _ i _=>n-(intOf i).toNat)
 case atStart=>exact ⟨0,none,0,Nat.zero_le _,rfl,rfl,H0⟩
 case round=>
  obtain ⟨k,pl,cl,hk,rfl,rfl,HL⟩:=hrel;by_cases hlt:k<n
  ·obtain ⟨lb,lo,rfl,hlb,hcc⟩:=HC.out k hlt;obtain ⟨p,hp⟩:∃p,o k=p:=⟨_,rfl⟩;rw [hp] at hcc;have hkeep:∀j u,W.cell? ⟨lb,lo+k*8+j,none⟩=some u→wr.cell? ⟨lb,lo+k*8+j,none⟩=some u:=fun j u h=>(cell_of_heap (a:=⟨lb,lo+k*8+j,none⟩) (HL.out.old lb hlb)).trans h;have c0:wr.cell? ⟨lb,lo+k*8,none⟩=some (.int .i64 p.kd):=hkeep 0 _ (hcc 0 (by omega));have c1:wr.cell? ⟨lb,lo+k*8+1,none⟩=some (.int .i64 p.at_):=hkeep 1 _ (hcc 1 (by omega));have c2:wr.cell? ⟨lb,lo+k*8+2,none⟩=some (.int .i64 p.q):=hkeep 2 _ (hcc 2 (by omega));have c3:wr.cell? ⟨lb,lo+k*8+3,none⟩=some (.slice (p.p 0) (p.l 0) (p.c 0)):=hkeep 3 _ (hcc 3 (by omega));have c4:wr.cell? ⟨lb,lo+k*8+4,none⟩=some (.slice (p.p 1) (p.l 1) (p.c 1)):=hkeep 4 _ (hcc 4 (by omega));have c5:wr.cell? ⟨lb,lo+k*8+5,none⟩=some (.slice (p.p 2) (p.l 2) (p.c 2)):=hkeep 5 _ (hcc 5 (by omega));have c6:wr.cell? ⟨lb,lo+k*8+6,none⟩=some (.slice (p.p 3) (p.l 3) (p.c 3)):=hkeep 6 _ (hcc 6 (by omega));have c7:wr.cell? ⟨lb,lo+k*8+7,none⟩=some (.slice (p.p 4) (p.l 4) (p.c 4)):=hkeep 7 _ (hcc 7 (by omega));clear hkeep hcc;have HP:Hid (o k=p):=hp;clear hp;have OW:Hid (∀a b,((wr.alloc a).alloc b).ownsRow W.heap.size 31 8 (.slice pl k cl) k (opsL (fun i=>(o i).cut) k)):=fun a b=>own_below HL.out.own (((Below.refl _ _).alloc (Nat.le_refl _) a).alloc (by simp) b);have HS:Hid (∀a b,W.heap.size≤((wr.alloc a).alloc b).heap.size):=fun a b=>by have:=HL.out.size;simp;omega
   have hli:(k:Int)<(n:Int):=by omega
   by_cases h1:p.kd=1
   ·skip;go_wp2_with (at_builtin;refine YX _ rfl _ _ 22 rfl W.heap.size 31 _ 8 144 Tryz.underlying22 Y4o rfl (by omega) (.slice pl k cl) k (opsL (fun i=>(o i).cut) k) rfl (by exact OW.out _ _) (wr.heap.size+1) [.int .i64 1,.int .i64 p.at_,.int .i64 p.q,.slice (p.p 0) (p.l 0) (p.c 0),.slice (p.p 1) (p.l 1) (p.c 1),.slice none 0 0,.slice none 0 0,.slice (p.p 4) (p.l 4) (p.c 4)] 31 rfl rfl (by exact alloc_at (Y4x _ _)) (by intro u hu;simp at hu;rcases hu with rfl|rfl|rfl|rfl|rfl|rfl|rfl|rfl<;>rfl) (by simp only [maxLen];omega) (by omega) (by exact HS.out _ _) ?_)
    intro g cp w' hown hgrow hat hlt2;have HN:Hid (Za W w' (fun i=>(o i).cut) (k+1) (.slice (some ⟨g,0,none⟩) (k+1) cp)):=HL.out.next hgrow (Y4R HP.out h1) hown;clear hown hgrow hat hlt2;go_wp2_with fail
    exact ⟨⟨k+1,some ⟨g,0,none⟩,cp,by omega,by go_num,by simp,HN⟩,by simp [intOf];omega⟩
   ·skip;go_wp2_with (at_builtin;refine YX _ rfl _ _ 22 rfl W.heap.size 31 _ 8 144 Tryz.underlying22 Y4o rfl (by omega) (.slice pl k cl) k (opsL (fun i=>(o i).cut) k) rfl (by exact OW.out _ _) (wr.heap.size+1) [.int .i64 p.kd,.int .i64 p.at_,.int .i64 p.q,.slice (p.p 0) (p.l 0) (p.c 0),.slice (p.p 1) (p.l 1) (p.c 1),.slice (p.p 2) (p.l 2) (p.c 2),.slice (p.p 3) (p.l 3) (p.c 3),.slice (p.p 4) (p.l 4) (p.c 4)] 31 rfl rfl (by exact alloc_at (Y4x _ _)) (by intro u hu;simp at hu;rcases hu with rfl|rfl|rfl|rfl|rfl|rfl|rfl|rfl<;>rfl) (by simp only [maxLen];omega) (by omega) (by exact HS.out _ _) ?_)
    intro g cp w' hown hgrow hat hlt2;have HN:Hid (Za W w' (fun i=>(o i).cut) (k+1) (.slice (some ⟨g,0,none⟩) (k+1) cp)):=HL.out.next hgrow (YaL HP.out h1) hown;clear hown hgrow hat hlt2;go_wp2_with fail
    exact ⟨⟨k+1,some ⟨g,0,none⟩,cp,by omega,by go_num,by simp,HN⟩,by simp [intOf];omega⟩
  ·obtain rfl:k=n:=by omega
   go_wp2_with fail
   exact HL.out
end Go.Proofs.YtdoghgnifkgfdaaGreat.Mute
namespace Go.Proofs.YtdoghgnifkgfdaaGreat
open Go.ChangeShapes Go.WideShapes Go.ChangeAt Go.RowKit Go.Deep Go.Joins
section
variable {H:Type} {enc:TypeId×Value→H} {P:Program} {w:World} {base:Nat} {spare:Nat→Bool} {held:Bool}
def Fit (P:Program) (t:TypeId) (d:DataW H):Prop:=∀n∈DataW.weights P t d,n≤reachBytes
theorem Y45 {e:TypeId}:∀{l:List (DataW H)} {d:DataW H},d∈l→∀n∈d.weights P e,n∈DataW.weightsAll P e l
 |x::l,d,hd,n,hn=>by
  simp only [DataW.weightsAll,List.mem_append];rcases List.mem_cons.1 hd with rfl|h
  ·exact .inl hn
  ·exact .inr (Y45 h n hn)
theorem Y2X {t e:TypeId} {elems sp:List (DataW H)} (hu:P.underlying t=some (.slice e)) (h:Fit P t (.slice elems sp)):
  (elems.length+sp.length)*P.bytesOf e≤reachBytes∧∀d∈elems,Fit P e d:=by
 unfold Fit at h;simp only [DataW.weights,hu,List.mem_cons,List.mem_append] at h;exact ⟨h _ (.inl rfl),fun d hd n hn=>h n (.inr (.inl (Y45 hd n hn)))⟩
theorem ZL {t t':TypeId} {fs:Array Field} {parts:List (DataW H)} {j:Nat} {d:DataW H} (hu:P.underlying t=some (.struct fs)) (h:Fit P t (.agg parts)) (ht:(fs.toList.map (·.type))[j]?=some t') (hd:parts[j]?=some d):Fit P t' d:=by
 unfold Fit at h;simp only [DataW.weights,hu] at h;exact fun n hn=>h n (DataW.weights_mem_each ht hd n hn)
theorem Y0P {t e k bn fuel:Nat} {v:Value} {x:DataW H×List MemPlace} (ht:P.underlying t=some (.slice e)) (hce:P.cellsOf e=k) (hk:0<k) (hbe:P.bytesOf e=bn)
  (h:DataW.trod enc P w base spare held fuel t [v]=some x) (hfit:Fit P t x.1):
  ∃(nl:Bool) (p:Option Addr) (n cap:Nat) (F:Nat→Value) (D:Nat→DataW H×List MemPlace) (m:Nat),v=.slice p n cap∧n≤cap∧(p=none↔nl=true)∧(p=none→n=0∧cap=0)∧bn*n≤140737488355328∧Sl w p (n*k) F∧
   ∀i,i<n→DataW.trod enc P w base spare held m e ((List.range k).map fun r=>F (i*k+r))=some (D i)∧Fit P e (D i).1:=by
 rcases open_slice ht h with ⟨hcs,rfl⟩|⟨a,len,cap,m,n,D,Pl,hcs,-,hl,-,hmm,rfl,hel⟩
 ·obtain rfl:v=.slice none 0 0:=by simpa using hcs
  exact ⟨true,none,0,0,fun _=>undef,fun _=>(.nil,[]),0,rfl,Nat.le_refl _,by simp,by simp,by simp,.inl (by simp),fun i hi=>absurd hi (by omega)⟩
 ·obtain rfl:v=.slice (some a) len cap:=by simpa using hcs
  have hlm:len≤m:=by rw [hmm];split<;>omega
  obtain ⟨hw1,hw2⟩:=Y2X ht hfit;rw [hbe] at hw1;simp only [List.length_map,List.length_range,reachBytes] at hw1;have hb:bn*len≤140737488355328:=by
   have h1:len*bn≤(len+(m-len))*bn:=Nat.mul_le_mul_right _ (by omega);rw [Nat.mul_comm];omega
  rw [hce] at hel;obtain ⟨CS,hCS⟩:=choose_lt (α:=List Value) (n:=len) (p:=fun i cs=>w.cells? base (a.add (i*k)) k=some cs∧DataW.trod enc P w base spare held n e cs=some (D i,Pl i)) (fun i hi=>hel i (by omega));have hdm:∀i r,r<k→(i*k+r) / k=i∧(i*k+r) % k=r:=fun i r hr=>⟨by rw [Nat.mul_comm,Nat.mul_add_div hk,Nat.div_eq_of_lt hr,Nat.add_zero],by rw [Nat.mul_comm,Nat.mul_add_mod,Nat.mod_eq_of_lt hr]⟩;have hcell:∀j,j<len*k→w.cell? (a.add j)=some ((CS (j / k))[j % k]!):=fun j hj=>by
   have hi:j / k<len:=(Nat.div_lt_iff_lt_mul hk).2 hj;have hr:j % k<k:=Nat.mod_lt _ hk;obtain ⟨_,hlen,hc⟩:=World.cells?_some (hCS (j / k) hi).1;have h3:=hc (j % k) hr;rw [add_add,show j / k*k+j % k=j by rw [Nat.mul_comm];exact Nat.div_add_mod j k] at h3;rw [h3];simp [hlen,hr]
  refine ⟨false,some a,len,cap,fun j=>(CS (j / k))[j % k]!,fun i=>(D i,Pl i),n,rfl,hl,by simp,by simp,hb,?_,fun i hi=>⟨?_,hw2 _ (List.mem_map.2 ⟨i,List.mem_range.2 hi,rfl⟩)⟩⟩
  ·by_cases h0:len*k=0
   ·exact .inl h0
   ·obtain ⟨b,off,spot⟩:=a;have hspot:spot=none:=by simpa [Addr.add] using World.cell?_spot (hcell 0 (by omega))
    subst hspot;exact .inr ⟨b,off,rfl,fun j hj=>by rw [←add_plain];exact hcell j hj⟩
  ·obtain ⟨h1,h2⟩:=hCS i hi;obtain ⟨_,hlen,_⟩:=World.cells?_some h1;rw [←h2];congr 1;apply List.ext_getElem?;intro r;by_cases hr:r<k
   ·have:=hdm i r hr;simp [hr,this.1,Nat.mod_eq_of_lt hr,hlen]
   ·simp [hr,hlen]
def Nums (enc:TypeId×Value→H) (P:Program) (w:World) (base:Nat) (spare:Nat→Bool) (held:Bool) (e k:Nat):Prop:=
 ∀fuel cs x,DataW.trod enc P w base spare held fuel e cs=some x→∀r,r<k→∃n:Int,cs[r]?=some (.int .i64 n)∧-9223372036854775808≤n∧n≤9223372036854775807
theorem Jr {t e k bn fuel:Nat} {v:Value} {x:DataW H×List MemPlace} (ht:P.underlying t=some (.slice e)) (hce:P.cellsOf e=k) (hk:0<k) (hbe:P.bytesOf e=bn) (hn:Nums enc P w base spare held e k)
  (h:DataW.trod enc P w base spare held fuel t [v]=some x) (hfit:Fit P t x.1):
  ∃(nl:Bool) (n:Nat) (z:Nat→Int),SlZ w v nl n k z bn∧∀j,j<n*k→-9223372036854775808≤z j∧z j≤9223372036854775807:=by
 obtain ⟨nl,p,n,cap,F,D,m,h1,h2,h3,h4,h5,h6,h7⟩:=Y0P ht hce hk hbe h hfit;obtain ⟨z,hz⟩:=choose_lt (α:=Int) (n:=n*k) (p:=fun j y=>F j=.int .i64 y∧-9223372036854775808≤y∧y≤9223372036854775807) (fun j hj=>by
  have hi:j / k<n:=(Nat.div_lt_iff_lt_mul hk).2 hj;have hr:j % k<k:=Nat.mod_lt _ hk;obtain ⟨y,hy,hb⟩:=hn _ _ _ (h7 (j / k) hi).1 (j % k) hr;rw [List.getElem?_map,List.getElem?_range hr] at hy;simp only [Option.map_some,Option.some.injEq] at hy;rw [show j / k*k+j % k=j by rw [Nat.mul_comm];exact Nat.div_add_mod j k] at hy;exact ⟨y,hy,hb⟩)
 exact ⟨nl,n,z,⟨p,cap,h1,h2,h3,h4,h5,h6.congr (fun j hj=>(hz j hj).1)⟩,fun j hj=>(hz j hj).2⟩
end
section
variable {H:Type} {enc:TypeId×Value→H} {w:World} {base:Nat} {spare:Nat→Bool} {held:Bool}
theorem XF:Tryz.prog.cellsOf 3=1:=by kernel_rfl
theorem Y1G:Tryz.prog.cellsOf 2=1:=by kernel_rfl
theorem Y9R:Tryz.prog.cellsOf 97=4:=by kernel_rfl
theorem Y9D:Tryz.prog.cellsOf 102=2:=by kernel_rfl
theorem YaU:Tryz.prog.cellsOf 138=3:=by kernel_rfl
theorem Y6E:Tryz.prog.cellsOf 53=3:=by kernel_rfl
theorem Y71:Tryz.prog.cellsOf 100=1:=by kernel_rfl
theorem Ya0:Tryz.prog.cellsOf 28=4:=by kernel_rfl
theorem Y7B:Tryz.prog.cellsOf 50=1:=by kernel_rfl
theorem Yat:Tryz.prog.cellsOf 51=1:=by kernel_rfl
theorem Y8q:Tryz.prog.cellsOf 23=1:=by kernel_rfl
theorem Y87:Tryz.prog.cellsOf 24=1:=by kernel_rfl
theorem YaN:Tryz.prog.cellsOf 25=1:=by kernel_rfl
theorem Ybx:Tryz.prog.cellsOf 26=1:=by kernel_rfl
theorem Y9h:Tryz.prog.bytesOf 3=8:=by kernel_rfl
theorem Y7d:Tryz.prog.bytesOf 2=8:=by kernel_rfl
theorem Y85:Tryz.prog.bytesOf 97=32:=by kernel_rfl
theorem Y7k:Tryz.prog.bytesOf 102=16:=by kernel_rfl
theorem Y6R:Tryz.prog.bytesOf 138=24:=by kernel_rfl
theorem Y4H:Tryz.prog.bytesOf 53=56:=by kernel_rfl
theorem Y8y:Tryz.prog.bytesOf 100=24:=by kernel_rfl
theorem num1 {t:Nat} (ht:Tryz.prog.underlying t=some (.int .i64)):Nums enc Tryz.prog w base spare held t 1:=by
 intro fuel cs x h r hr;obtain rfl:r=0:=by omega
 obtain ⟨n,rfl,-,hw⟩:=DataW.trod_int ht h;exact ⟨n,rfl,bounds_i64 hw⟩
theorem Xz {fuel t off c:Nat} {cs:List Value} {y:DataW H×List MemPlace} (ht:Tryz.prog.underlying t=some (.int .i64)) (hc:Tryz.prog.cellsOf t=c) (h1:c=1)
  (h:DataW.trod enc Tryz.prog w base spare held fuel t ((cs.drop off).take (Tryz.prog.cellsOf t))=some y):∃n:Int,cs[off]?=some (.int .i64 n)∧-9223372036854775808≤n∧n≤9223372036854775807:=by
 obtain ⟨n,e,-,hw⟩:=DataW.trod_int ht h;rw [hc,h1] at e;refine ⟨n,?_,bounds_i64 hw⟩;have:=congrArg (fun l=>l[0]?) e;simpa using this
theorem YbF:Nums enc Tryz.prog w base spare held 97 4:=by
 intro fuel cs x h r hr;obtain ⟨y0,y1,y2,y3,n,-,-,h0,h1,h2,h3⟩:=trod_struct4 Tryz.underlying97 h;have:r=0∨r=1∨r=2∨r=3:=by omega
 rcases this with rfl|rfl|rfl|rfl
 ·exact Xz Tryz.underlying3 XF rfl h0
 ·exact Xz Tryz.underlying3 XF rfl h1
 ·exact Xz Tryz.underlying3 XF rfl h2
 ·exact Xz Tryz.underlying2 Y1G rfl h3
theorem Y95:Nums enc Tryz.prog w base spare held 138 3:=by
 intro fuel cs x h r hr;obtain ⟨y0,y1,y2,n,-,-,h0,h1,h2⟩:=trod_struct3 Tryz.underlying138 h;have:r=0∨r=1∨r=2:=by omega
 rcases this with rfl|rfl|rfl
 ·exact Xz Tryz.underlying3 XF rfl h0
 ·exact Xz Tryz.underlying3 XF rfl h1
 ·exact Xz Tryz.underlying3 XF rfl h2
theorem Y7S:Nums enc Tryz.prog w base spare held 102 2:=by
 intro fuel cs x h r hr;obtain ⟨y0,y1,n,-,-,h0,h1⟩:=trod_struct2 Tryz.underlying102 h;have:r=0∨r=1:=by omega
 rcases this with rfl|rfl
 ·exact Xz Tryz.underlying3 XF rfl h0
 ·exact Xz Tryz.underlying3 XF rfl h1
structure Y3l (w:World) (a b d:Value) (x:(Bool×Nat×(Nat→Int))×(Bool×Nat×(Nat→Int))×Int):Prop where
 code:SlZ w a x.1.1 x.1.2.1 4 x.1.2.2 32
 fits:∀j,j<x.1.2.1*4→-9223372036854775808≤x.1.2.2 j∧x.1.2.2 j≤9223372036854775807
 img:SlZ w b x.2.1.1 x.2.1.2.1 1 x.2.1.2.2 8
 lim:d=.int .i64 x.2.2
theorem Y5C {fuel:Nat} {a b d:Value} {x:DataW H×List MemPlace} (h:DataW.trod enc Tryz.prog w base spare held fuel 53 [a,b,d]=some x) (hf:Fit Tryz.prog 53 x.1):∃y,Y3l w a b d y:=by
 obtain ⟨y0,y1,y2,n,rfl,-,h0,h1,h2⟩:=trod_struct3 Tryz.underlying53 h;have f0:=ZL (j:=0) Tryz.underlying53 hf rfl rfl;have f1:=ZL (j:=1) Tryz.underlying53 hf rfl rfl;rw [Y7B] at h0;rw [Yat] at h1;rw [XF] at h2;obtain ⟨nl,k,z,hz,hw⟩:=Jr Tryz.underlying50 Y9R (by omega) Y85 YbF h0 f0;obtain ⟨nl2,k2,z2,hz2,_⟩:=Jr Tryz.underlying51 Y1G (by omega) Y7d (num1 Tryz.underlying2) h1 f1;obtain ⟨l,e,-,-⟩:=DataW.trod_int Tryz.underlying3 h2;exact ⟨((nl,k,z),(nl2,k2,z2),l),hz,hw,hz2,by simpa using e⟩
theorem Y6N {fuel:Nat} {a b d f:Value} {x:DataW H×List MemPlace} (h:DataW.trod enc Tryz.prog w base spare held fuel 28 [a,b,d,f]=some x) (hf:Fit Tryz.prog 28 x.1):∃c:Cfg,CfgR w a b d f c∧CfgW c:=by
 obtain ⟨y0,y1,y2,y3,n,rfl,-,h0,h1,h2,h3⟩:=trod_struct4 Tryz.underlying28 h;have f0:=ZL (j:=0) Tryz.underlying28 hf rfl rfl;have f1:=ZL (j:=1) Tryz.underlying28 hf rfl rfl;have f2:=ZL (j:=2) Tryz.underlying28 hf rfl rfl;have f3:=ZL (j:=3) Tryz.underlying28 hf rfl rfl;rw [Y8q] at h0;rw [Y87] at h1;rw [YaN] at h2;rw [Ybx] at h3;obtain ⟨l0,p0,n0,cap0,F0,D0,m0,a1,a2,a3,a4,a5,a6,a7⟩:=Y0P Tryz.underlying23 Y6E (by omega) Y4H h0 f0;obtain ⟨l1,p1,n1,cap1,F1,D1,m1,b1,b2,b3,b4,b5,b6,b7⟩:=Y0P Tryz.underlying24 Y71 (by omega) Y8y h1 f1;obtain ⟨l2,n2,z2,hz2,_⟩:=Jr Tryz.underlying25 YaU (by omega) Y6R Y95 h2 f2;obtain ⟨l3,n3,z3,hz3,_⟩:=Jr Tryz.underlying26 XF (by omega) Y9h (num1 Tryz.underlying3) h3 f3;obtain ⟨Y,hY⟩:=choose_lt (α:=(Bool×Nat×(Nat→Int))×(Bool×Nat×(Nat→Int))×Int) (n:=n0) (p:=fun i y=>Y3l w (F0 (i*3)) (F0 (i*3+1)) (F0 (i*3+2)) y) (fun i hi=>by
  obtain ⟨q1,q2⟩:=a7 i hi;exact Y5C q1 q2)
 obtain ⟨R,hR⟩:=choose_lt (α:=Bool×Nat×(Nat→Int)) (n:=n1) (p:=fun i y=>SlZ w (F1 i) y.1 y.2.1 2 y.2.2 16) (fun i hi=>by
  obtain ⟨q1,q2⟩:=b7 i hi;have q1':DataW.trod enc Tryz.prog w base spare held m1 100 [F1 i]=some (D1 i):=by simpa using q1
  obtain ⟨nl,k,z,hz,_⟩:=Jr Tryz.underlying100 Y9D (by omega) Y7k Y7S q1' q2;exact ⟨(nl,k,z),hz⟩)
 refine ⟨⟨l0,n0,fun i=>(Y i).2.2,fun i=>(Y i).1.1,fun i=>(Y i).1.2.1,fun i=>(Y i).1.2.2,fun i=>(Y i).2.1.1,fun i=>(Y i).2.1.2.1,fun i=>(Y i).2.1.2.2,l1,n1,fun i=>(R i).1,fun i=>(R i).2.1,fun i=>(R i).2.2,l2,n2,z2,l3,n3,z3⟩,⟨⟨p0,cap0,F0,a1,a2,a3,a4,a5,a6,fun i hi=>⟨(hY i hi).code,(hY i hi).img,(hY i hi).lim⟩⟩,⟨p1,cap1,F1,b1,b2,b3,b4,b5,by simpa using b6,fun i hi=>hR i hi⟩,hz2,hz3⟩,fun i hi j hj=>(hY i hi).fits j hj⟩
end
end Go.Proofs.YtdoghgnifkgfdaaGreat
namespace Go.Proofs.YtdoghgnifkgfdaaGreat.Mute
open Go Go.Conc Go.RowKit Go.ChangeShapes Go.WideShapes Go.ChangeAt Go.Deep Go.Joins
section
variable {H:Type} {enc:TypeId×Value→H} {P:Program} {w:World} {base:Nat} {spare:Nat→Bool} {held:Bool}
theorem Y6P {t:TypeId} {f0 f1 f2 f3 f4:Field} {fuel:Nat} {cs:List Value} {x:DataW H×List MemPlace} (ht:P.underlying t=some (.struct #[f0,f1,f2,f3,f4])) (h:DataW.trod enc P w base spare held fuel t cs=some x):
  ∃y0 y1 y2 y3 y4 n,x=(.agg [y0.1,y1.1,y2.1,y3.1,y4.1],[y0,y1,y2,y3,y4].flatMap (·.2))∧DataW.trod enc P w base spare held n f0.type ((cs.drop f0.offset).take (P.cellsOf f0.type))=some y0∧DataW.trod enc P w base spare held n f1.type ((cs.drop f1.offset).take (P.cellsOf f1.type))=some y1∧DataW.trod enc P w base spare held n f2.type ((cs.drop f2.offset).take (P.cellsOf f2.type))=some y2∧DataW.trod enc P w base spare held n f3.type ((cs.drop f3.offset).take (P.cellsOf f3.type))=some y3∧DataW.trod enc P w base spare held n f4.type ((cs.drop f4.offset).take (P.cellsOf f4.type))=some y4:=by
 obtain ⟨xs,n,-,rfl,-,hl,hx⟩:=DataW.trod_struct ht h;have hl':xs.length=5:=hl
 match xs,hl' with
 | [y0,y1,y2,y3,y4],_=>exact ⟨y0,y1,y2,y3,y4,n,rfl,hx 0 f0 rfl,hx 1 f1 rfl,hx 2 f2 rfl,hx 3 f3 rfl,hx 4 f4 rfl⟩
theorem Y8o {t e fuel n cap:Nat} {p:Option Addr} {x:DataW H×List MemPlace} (ht:P.underlying t=some (.slice e)) (h:DataW.trod enc P w base spare held fuel t [.slice p n cap]=some x) (hfit:Fit P t x.1):P.bytesOf e*n≤140737488351232:=by
 rcases open_slice ht h with ⟨hcs,rfl⟩|⟨a,len,cap',m,n',D,Pl,hcs,-,hl,-,hmm,rfl,hel⟩
 ·simp at hcs;rw [hcs.2.1];simp
 ·simp at hcs;obtain ⟨-,rfl,rfl⟩:=hcs;obtain ⟨hw1,-⟩:=Y2X ht hfit;simp only [List.length_map,List.length_range,reachBytes] at hw1;rw [Nat.mul_comm];refine Nat.le_trans (Nat.mul_le_mul_right _ ?_) hw1;omega
theorem Y5B {t e fuel n cap:Nat} {p:Option Addr} {x:DataW H×List MemPlace} (ht:P.underlying t=some (.slice e)) (h:DataW.trod enc P w base spare held fuel t [.slice p n cap]=some x):n≤Rows.uptoBulk x.1:=by
 have len_le:∀l:List (DataW H),l.length≤Rows.uptoBulkAll l:=fun l=>by
  induction l with
  |nil=>simp
  |cons d l ih=>
   have:1≤Rows.uptoBulk d:=by
    cases d with
    |lit l=>cases l<;>simp [Rows.uptoBulk]
    |_=>simp [Rows.uptoBulk]
   simp only [Rows.uptoBulkAll,List.length_cons];omega
 rcases open_slice ht h with ⟨hcs,rfl⟩|⟨a,len,cap',m,n',D,Pl,hcs,-,hl,-,hmm,rfl,hel⟩
 ·simp at hcs;omega
 ·simp at hcs;obtain ⟨-,rfl,rfl⟩:=hcs;have:=len_le ((List.range n).map D);simp only [List.length_map,List.length_range] at this;simp only [Rows.uptoBulk];omega
end
section
variable {H:Type} {enc:TypeId×Value→H} {w:World} {base:Nat} {spare:Nat→Bool} {held:Bool}
theorem c_op:Tryz.prog.cellsOf 31=8:=by kernel_rfl
theorem y_op:Tryz.prog.bytesOf 31=144:=by kernel_rfl
theorem c_in:Tryz.prog.cellsOf 59=2:=by kernel_rfl
theorem y_in:Tryz.prog.bytesOf 59=16:=by kernel_rfl
theorem Y9g:Tryz.prog.cellsOf 29=1:=by kernel_rfl
theorem Y69:Nums enc Tryz.prog w base spare held 59 2:=by
 intro fuel cs x h r hr;obtain ⟨y0,y1,n,-,-,h0,h1⟩:=trod_struct2 Tryz.underlying59 h;have:r=0∨r=1:=by omega
 rcases this with rfl|rfl
 ·exact Xz Tryz.underlying3 XF rfl h0
 ·exact Xz Tryz.underlying2 Y1G rfl h1
theorem Y6O {fuel:Nat} {F:Nat→Value} {x:DataW H×List MemPlace} (h:DataW.trod enc Tryz.prog w base spare held fuel 31 [F 0,F 1,F 2,F 3,F 4,F 5,F 6,F 7]=some x) (hf:Fit Tryz.prog 31 x.1):∃o:ScOp,(∀j,j<8→F j=o.cell j)∧OpIn w o:=by
 obtain ⟨y0,y1,y2,y3,y4,n,rfl,h0,h1,h2,h3,h4⟩:=Y6P Tryz.underlying31 h;have f3:=ZL (j:=3) Tryz.underlying31 hf rfl rfl;have f4:=ZL (j:=4) Tryz.underlying31 hf rfl rfl;obtain ⟨k0,e0,-,-⟩:=Xz Tryz.underlying3 XF rfl h0;obtain ⟨k1,e1,l1,u1⟩:=Xz Tryz.underlying3 XF rfl h1;obtain ⟨k2,e2,-,-⟩:=Xz Tryz.underlying3 XF rfl h2;rw [Ya0] at h3;rw [Y9g] at h4;have h3':DataW.trod enc Tryz.prog w base spare held n 28 [F 3,F 4,F 5,F 6]=some y3:=h3;have h4':DataW.trod enc Tryz.prog w base spare held n 29 [F 7]=some y4:=h4;obtain ⟨c,hc,hw⟩:=Y6N h3' f3;obtain ⟨nl,m,z,⟨p,cap,i1,i2,i3,i4,i5,i6⟩,-⟩:=Jr Tryz.underlying29 c_in (by omega) y_in Y69 h4' f4;obtain ⟨p0,c0,G0,s0,-⟩:=hc.cells;obtain ⟨p1,c1,G1,s1,-⟩:=hc.table;obtain ⟨p2,c2,s2,-⟩:=hc.chans;obtain ⟨p3,c3,s3,-⟩:=hc.devs;have hb:=Y8o Tryz.underlying29 (by rw [←i1];exact h4') f4;rw [y_in] at hb;have e0':F 0=.int .i64 k0:=by simpa using e0
 have e1':F 1=.int .i64 k1:=by simpa using e1
 have e2':F 2=.int .i64 k2:=by simpa using e2
 refine ⟨⟨k0,k1,k2,fun i=>if i=0 then p0 else if i=1 then p1 else if i=2 then p2 else if i=3 then p3 else p,fun i=>if i=0 then c.nC else if i=1 then c.nT else if i=2 then c.nCh else if i=3 then c.nD else m,fun i=>if i=0 then c0 else if i=1 then c1 else if i=2 then c2 else if i=3 then c3 else cap,c,z⟩,fun j hj=>?_,l1,u1,?_,hw,i6,?_,hb⟩
 ·have:j=0∨j=1∨j=2∨j=3∨j=4∨j=5∨j=6∨j=7:=by omega
  rcases this with rfl|rfl|rfl|rfl|rfl|rfl|rfl|rfl
  ·exact e0'
  ·exact e1'
  ·exact e2'
  ·exact s0
  ·exact s1
  ·exact s2
  ·exact s3
  ·exact i1
 ·show CfgR w (.slice p0 c.nC c0) (.slice p1 c.nT c1) (.slice p2 c.nCh c2) (.slice p3 c.nD c3) c;rw [←s0,←s1,←s2,←s3];exact hc
 ·show (p=none∧m=0)∨∃ad,p=some ad∧(m=0∨ad.block<w.heap.size);cases p with
  |none=>exact .inl ⟨rfl,(i4 rfl).1⟩
  |some ad=>
   refine .inr ⟨ad,rfl,?_⟩;by_cases hm:m=0
   ·exact .inl hm
   ·obtain ⟨b,off,e,hcc⟩:=i6.at (by omega);obtain rfl:=Option.some.inj e;exact .inr (block_lt_of_cell (hcc 0 (by omega)))
theorem open_ops {fuel:Nat} {v:Value} {x:DataW H×List MemPlace} (h:DataW.trod enc Tryz.prog w base spare held fuel 22 [v]=some x) (hf:Fit Tryz.prog 22 x.1):
  ∃(p:Option Addr) (n cap:Nat) (o:Nat→ScOp),v=.slice p n cap∧n≤Rows.uptoBulk x.1∧(∀i,i<n→∃lb lo,p=some ⟨lb,lo,none⟩∧lb<w.heap.size∧∀j,j<8→w.cell? ⟨lb,lo+i*8+j,none⟩=some ((o i).cell j))∧∀i,i<n→OpIn w (o i):=by
 obtain ⟨l0,p,n,cap,F,D,m,rfl,a2,a3,a4,a5,a6,a7⟩:=Y0P Tryz.underlying22 c_op (by omega) y_op h hf;have d0:ScOp:=⟨0,0,0,fun _=>none,fun _=>0,fun _=>0,⟨true,0,fun _=>0,fun _=>true,fun _=>0,fun _ _=>0,fun _=>true,fun _=>0,fun _ _=>0,true,0,fun _=>true,fun _=>0,fun _ _=>0,true,0,fun _=>0,true,0,fun _=>0⟩,fun _=>0⟩;obtain ⟨O,hO⟩:=choose_lt d0 (n:=n) (P:=fun i o=>(∀j,j<8→F (i*8+j)=o.cell j)∧OpIn w o) (fun i hi=>by
  obtain ⟨q1,q2⟩:=a7 i hi;exact Y6O (F:=fun j=>F (i*8+j)) q1 q2)
 refine ⟨p,n,cap,O,rfl,Y5B Tryz.underlying22 h,fun i hi=>?_,fun i hi=>(hO i hi).2⟩;obtain ⟨b,off,rfl,hc⟩:=a6.at (by omega);refine ⟨b,off,rfl,block_lt_of_cell (hc (i*8) (by omega)),fun j hj=>?_⟩;have:=hc (i*8+j) (by omega);rw [(hO i hi).1 j hj,←Nat.add_assoc] at this;exact this
end
end Go.Proofs.YtdoghgnifkgfdaaGreat.Mute
