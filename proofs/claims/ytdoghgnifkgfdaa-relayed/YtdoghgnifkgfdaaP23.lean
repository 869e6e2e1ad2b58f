import Derived.Deep.AppendLies
import Derived.Conc.AppendWalk
import Derived.Conc.AppendEvents3
import Derived.Orders
import Derived.Test.YtdoghgnifkgfdaaP06
import Derived.Test.YtdoghgnifkgfdaaP22
set_option maxRecDepth 100000
set_option maxHeartbeats 16000000
namespace Go.Proofs.Ytdoghgnifkgfdaa.Mute
open Go Go.Conc Go.RowKit
theorem setRow_cell {w:World} {g t n:Nat} {cur:Array Value} {v:Value} (hg:w.heap[g]?=some (.cells cur t (0,0))) (hn:n<cur.size):w.setRow g (cur.toList.take n++[v]++cur.toList.drop (n+1)).toArray=w.setCell ⟨g,n,none⟩ v:=by
 unfold World.setRow World.setCell;congr 1;apply Array.ext_getElem?;intro i;rw [Array.getElem?_modify,Array.getElem?_modify];by_cases h:g=i
 ·subst h;simp only [if_true,hg,Option.map_some];congr 2;apply Array.ext';simp only [Option.isSome_none,Bool.false_eq_true,if_false,Array.toList_setIfInBounds];rw [List.set_eq_take_append_cons_drop,if_pos (by simpa using hn)];simp
 ·simp [h]
def Lst (rows:List Row) (v:Value) (xs:List Int) (p:Option Nat):Prop:=
 (p=none∧v=.slice none 0 0∧xs=[])∨∃k r,p=some k∧rows[k]?=some r∧r.t=2∧v=.slice (some ⟨r.g,0,none⟩) xs.length r.m∧xs.length≤r.m∧r.m≤maxLen∧∀j,j<xs.length→r.f j=.int .i64 (xs.getD j 0)
section
variable {L:Lot} {w0 w:World} {rows:List Row} {v:Value} {xs:List Int} {p:Option Nat}
theorem Lst.app (h:Lst rows v xs p) (ls:List Row):Lst (rows++ls) v xs p:=by
 rcases h with h|⟨k,r,h1,h2,h3⟩
 ·exact .inl h
 ·exact .inr ⟨k,r,h1,rows_app_get h2,h3⟩
theorem info_i64:(Try.prog.info? 2).map (fun i=>(i.zero,i.size,i.bytes))=some (some (.int .i64 0),1,8):=by kernel_rfl
theorem Kn.newList (h:Kn L w0 rows w) (hev:((2:Nat)==L.ev)=false) (ys:List Int) (z:Nat) {arr:Array Value} (ha:arr=(ys.map (Value.int .i64 ·)).toArray++Builtin.zeroCells #[.int .i64 0] z):
  ∃rn:Row,rn.t=2∧rn.g=w.heap.size∧rn.m=ys.length+z∧Kn L w0 (rows++[rn]) (w.drew.alloc (.cells arr 2))∧(∀j,j<ys.length→rn.f j=.int .i64 (ys.getD j 0))∧Turn L L.send w (w.drew.alloc (.cells arr 2))∧(w.drew.alloc (.cells arr 2)).heap[L.c]?=w.heap[L.c]?:=by
 have hd:Kn L w0 rows w.drew:=h.rely (Turn.drew w);have hsz:arr.size=ys.length+z:=by rw [ha];simp [Builtin.zeroCells]
 have hk:=hd.alloc arr 2 (fun j=>arr.getD j undef) hev (fun j hj=>by simp [Array.getD,hj]);refine ⟨_,rfl,rfl,hsz,hk,fun j hj=>?_,(Turn.drew w).trans (.alloc w.drew _),?_⟩
 ·show arr.getD j undef=_;have:arr[j]?=some (.int .i64 (ys.getD j 0)):=by
   rw [ha,Array.getElem?_append_left (by simpa using hj)];simp [hj]
  rw [Array.getD_eq_getD_getElem?,this];rfl
 ·exact heap_alloc_old w.drew _ h.hc
theorem Kn.appended (h:Kn L w0 rows w) (hev:((2:Nat)==L.ev)=false) (hl:Lst rows v xs p) {S kS:Nat} {x:Int} (hS:rows[kS]?=some ⟨S,1,2,fun _=>.int .i64 x⟩) (hn:xs.length≤1000000000) (ty:TypeId):
  ∃v' rows' p' w',(Builtin.append_ #[56,56] ty #[v,.slice (some ⟨S,0,none⟩) 1 1]).run Try.prog w=.ok v' w'∧Kn L w0 rows' w'∧Lst rows' v' (xs++[x]) p'∧Turn L L.send w w'∧w'.heap[L.c]?=w.heap[L.c]?∧
   ((p'=p∧∃k r j u,p=some k∧rows[k]?=some r∧rows'=rows.set k (r.put j u))∨(p'=some rows.length∧∃rn,rows'=rows++[rn])):=by
 obtain ⟨i,hi,hz,hsz,hby⟩:=info_parts info_i64;have hrS:=(h.row kS _ hS).rw.row;have hnews:∀(j:Nat) (u:Value),[Value.int .i64 x][j]?=some u→w.cell? ((⟨S,0,none⟩:Addr).add j)=some u:=fun j u hu=>by
  have hj:j<1:=by
   have:=(List.getElem?_eq_some_iff.1 hu).1;simpa using this
  obtain rfl:j=0:=by omega
  rw [Addr.add_lit];have:=hrS.cell (j:=0) (by omega);simp at hu;subst hu;exact this
 have hl1:[Value.int .i64 x].length=1*i.size:=by rw [hsz];rfl
 rcases hl with ⟨rfl,rfl,rfl⟩|⟨k,r,rfl,hk,ht,rfl,hle,hml,hf⟩
 ·have hr:=run_append_nil (P:=Try.prog) w 56 ty 2 i _ Try.underlying56 hi hz ⟨S,0,none⟩ 1 1 _ hl1 hnews (by omega) (by omega) (by rw [hby];omega);obtain ⟨rn,r1,r2,r3,r4,r5,r6,r7⟩:=h.newList hev [x] (grownCap w 1 0 2-1) (arr:=[Value.int .i64 x].toArray++Builtin.zeroCells (Value.int .i64 0).cells (grownCap w 1 0 2-1)) rfl;have hge:=grownCap_ge w 1 0 2;refine ⟨_,_,_,_,hr,r4,.inr ⟨rows.length,rn,rfl,rows_app_new rn,r1,?_,?_,?_,?_⟩,r6,r7,.inr ⟨rfl,rn,rfl⟩⟩
  ·rw [r2,r3];simp;omega
  ·rw [r3];simp
  ·rw [r3];have:=grownCap_le_maxLen w 1 0 2 (by simp [maxLen]);simp;omega
  ·exact r5
 ·have hr:=h.row k r hk;obtain ⟨cur,hg,hcs,hc⟩:=hr.rw.row;rw [ht] at hg;by_cases hroom:xs.length+1≤r.m
  ·have hap:=run_append_room (P:=Try.prog) w 56 ty 2 i Try.underlying56 hi r.g xs.length r.m cur hg ⟨S,0,none⟩ 1 1 [.int .i64 x] hl1 hnews (by simp [Value.oneCell']) hroom (by rw [hsz,hcs];simp;omega);rw [hsz,Nat.mul_one,List.length_singleton,setRow_cell hg (by rw [hcs];omega)] at hap;refine ⟨_,_,_,_,hap,h.set hk xs.length (.int .i64 x),.inr ⟨k,_,rfl,rows_set_get hk _,ht,by simp [Row.put],by simp [Row.put];omega,hml,fun j hj=>?_⟩,Kn.turnSet h hk _ _,Kn.chanSet h hk _ _,.inl ⟨rfl,k,r,_,_,rfl,hk,rfl⟩⟩;have hj':j<xs.length+1:=by simpa using hj
   show upd r.f xs.length _ j=_;by_cases e:j=xs.length
   ·subst e;rw [upd_same];simp
   ·rw [upd_ne _ _ e,hf j (by omega)];simp [List.getElem?_append_left (show j<xs.length by omega)]
  ·have holds:∀(j:Nat) (u:Value),(xs.map (Value.int .i64 ·))[j]?=some u→w.cell? ((⟨r.g,0,none⟩:Addr).add j)=some u:=fun j u hu=>by
    have hj:j<xs.length:=by
     have:=(List.getElem?_eq_some_iff.1 hu).1;simpa using this
    rw [Addr.add_lit,Nat.zero_add,hr.cell (show j<r.m by omega),hf j hj];simp [hj] at hu;simp [hj,←hu]
   have hap:=run_append_grow (P:=Try.prog) w 56 ty 2 i _ Try.underlying56 hi hz ⟨r.g,0,none⟩ xs.length r.m (xs.map (Value.int .i64 ·)) (by rw [hsz];simp) holds ⟨S,0,none⟩ 1 1 _ hl1 hnews (by omega) (by omega) (growslice_fits (by omega) (by rw [hby];omega));obtain ⟨rn,r1,r2,r3,r4,r5,r6,r7⟩:=h.newList hev (xs++[x]) (grownCap w (xs.length+1) r.m 2-(xs.length+1)) (arr:=(xs.map (Value.int .i64 ·)).toArray++[Value.int .i64 x].toArray++Builtin.zeroCells (Value.int .i64 0).cells (grownCap w (xs.length+1) r.m 2-(xs.length+1))) (by simp;rfl);have hge:=grownCap_ge w (xs.length+1) r.m 2;refine ⟨_,_,_,_,hap,r4,.inr ⟨rows.length,rn,rfl,rows_app_new rn,r1,?_,?_,?_,?_⟩,r6,r7,.inr ⟨rfl,rn,rfl⟩⟩
   ·rw [r2,r3];simp;omega
   ·rw [r3];simp
   ·rw [r3];have:=grownCap_le_maxLen w (xs.length+1) r.m 2 (by simp only [maxLen];omega);simp;omega
   ·exact r5
theorem Lst.owns (hl:Lst rows v xs p) (h:Kn L w0 rows w):w.ownsRow 0 2 1 v xs.length (xs.map (Value.int .i64 ·))∧∀g,v.ownBlock=some g→Calm L L.main w g∧Mine L.send w g:=by
 rcases hl with ⟨rfl,rfl,rfl⟩|⟨k,r,rfl,hk,ht,rfl,hle,hml,hf⟩
 ·exact ⟨World.ownsRow_nil _ _ _ _,fun g hg=>by simp [Value.ownBlock] at hg⟩
 ·have ho:=h.row k r hk;obtain ⟨cur,hg,hcs,hc⟩:=ho.rw.row;rw [ht] at hg;refine ⟨⟨by simp,.inr ⟨r.g,r.m,cur,rfl,Nat.zero_le _,hg,hle,hml,by rw [hcs,Nat.mul_one],?_⟩⟩,fun g e=>?_⟩
  ·apply List.ext_getElem?;intro j;rw [Nat.mul_one];by_cases hj:j<xs.length
   ·rw [List.getElem?_take_of_lt hj,Array.getElem?_toList,hc j (by omega),hf j hj];simp [hj]
   ·rw [List.getElem?_take_eq_none (by omega)];simp [hj]
  ·simp [Value.ownBlock] at e;subst e;exact ⟨ho.rw.calm,ho.own⟩
theorem Kn.appendDoes {w':World} (h:Kn L w0 rows w) (hl:Lst rows v xs p) {S kS:Nat} {x:Int} (hS:rows[kS]?=some ⟨S,1,2,fun _=>.int .i64 x⟩) (hn:xs.length≤1000000000) (hturn:Turn L L.send w w') (hch:w'.heap[L.c]?=w.heap[L.c]?) {fn:FuncId} {A:Act} {o:Oper} (a b:Operand) (hop:o.op=.call {callee:=.builtin .append,args:=#[a,b],argTypes:=#[56,56]}) (ha:A.eval a=v) (hb:A.eval b=.slice (some ⟨S,0,none⟩) 1 1):L.D1 w w' (listed Try.prog fn A o w):=by
 obtain ⟨i,hi,hz,hsz,hby⟩:=info_parts info_i64;obtain ⟨hown,hblk⟩:=hl.owns h;have hoS:=h.row kS _ hS;refine ⟨hturn,hch,fun e he=>?_⟩;have he:=mem_listed he;rw [events_append_op a b 56 hop ha hb] at he;have hnews:∀(j:Nat) (u:Value),[Value.int .i64 x][j]?=some u→w.cell? ((⟨S,0,none⟩:Addr).add j)=some u:=fun j u hu=>by
  have hj:j<1:=by
   have:=(List.getElem?_eq_some_iff.1 hu).1;simpa using this
  obtain rfl:j=0:=by omega
  rw [Addr.add_lit];have:=hoS.rw.row.cell (j:=0) (by omega);simp at hu;subst hu;exact this
 have hcalm:∀c,Calm L L.main w c→Mine L.send w c→∀wr sy ad,ad.block=c→EvBy L L.send L.main w' ⟨.cell ad,wr,sy⟩:=fun c h1 h2 wr sy ad hc=>by
  obtain ⟨q,hq⟩:=h1.there;obtain ⟨q',g1,g2,_⟩:=hturn.at_ c q hq;refine ⟨evOk_cell _ _ _,fun z hz _=>?_⟩;have:z=⟨.cell ad,wr,if sy then .atomic else .plain⟩:=by
   cases wr<;>cases sy<;>simp [MemAct.ofEvent,MemAct.touch?] at hz<;>exact hz.symm
  subst this;exact ⟨q',by rw [hc];exact g1,by rw [hc];exact fun hm=>h1.no q hq (L.tells_main c q' q (fun x=>(g2 x).symm) hm),fun _=>by rw [hc];exact L.tells_send c q q' g2 (h2 q hq)⟩
 rcases events_append_where (P:=Try.prog) w 0 56 o.type 2 i _ 1 8 Try.underlying56 hi hz hsz hby v xs.length _ hown ⟨S,0,none⟩ 1 1 [.int .i64 x] rfl hnews (by simp [Value.oneCell']) (by simp only [maxLen];omega) (by omega) e he with ⟨ad,h1,h2⟩|⟨q,rfl,hq⟩
 ·obtain ⟨loc,wr,sy⟩:=e;simp only at h1;subst h1;rcases h2 with ⟨_,h2⟩|h2
  ·exact hcalm S hoS.rw.calm hoS.own _ _ ad h2
  ·exact hcalm ad.block (hblk _ h2.symm).1 (hblk _ h2.symm).2 _ _ ad rfl
 ·refine ⟨⟨fun h=>?_,fun h=>?_⟩,fun z hz=>?_⟩
  ·cases h;exact absurd hq (by simp [Neutral])
  ·cases h;exact absurd hq (by simp [Neutral])
  ·rw [show MemAct.ofEvent ⟨.mark q,false,true⟩=.mark q from rfl,hq.touch] at hz;cases hz
end
section
variable {L:Lot} {w0 w:World} {rows:List Row}
theorem Kn.sub (h:Kn L w0 rows w) {rows':List Row} (φ:Nat→Nat) (hφ:∀i r,rows'[i]?=some r→rows[φ i]?=some r) (inj:∀i j,i<rows'.length→j<rows'.length→φ i=φ j→i=j):Kn L w0 rows' w:=
 ⟨h.ph,fun i r hi=>h.row (φ i) r (hφ i r hi),fun i j r s hi hj hij=>h.pw (φ i) (φ j) r s (hφ i r hi) (hφ j s hj) fun e=>hij (inj i j (List.getElem?_eq_some_iff.1 hi).1 (List.getElem?_eq_some_iff.1 hj).1 e),h.hB,h.hc⟩
theorem Kn.mid {a b:Row} (h:Kn L w0 (rows++[a]++[b]) w):Kn L w0 (rows++[b]) w:=by
 refine h.sub (fun i=>if i<rows.length then i else i+1) (fun i r hi=>?_) (fun i j hi hj e=>?_)
 ·by_cases hl:i<rows.length
  ·rw [if_pos hl,List.append_assoc,List.getElem?_append_left hl];rwa [List.getElem?_append_left hl] at hi
  ·have hi2:=(List.getElem?_eq_some_iff.1 hi).1;simp at hi2;obtain rfl:i=rows.length:=by omega
   rw [if_neg hl];simp at hi ⊢;exact hi
 ·revert e;show (if i<rows.length then i else i+1)=(if j<rows.length then j else j+1)→i=j;split<;>split<;>omega
theorem Lst.slice {v:Value} {xs:List Int} {p:Option Nat} (hl:Lst rows v xs p):∃a n c,v=.slice a n c:=by
 rcases hl with ⟨_,rfl,_⟩|⟨k,rk,_,_,_,rfl,_⟩
 ·exact ⟨_,_,_,rfl⟩
 ·exact ⟨_,_,_,rfl⟩
theorem appended_rows {tmp:Row} {v v':Value} {xs ys:List Int} {p p':Option Nat} {rows':List Row} {iq:Nat} {r:Row} (hq:rows[iq]?=some r) (hp:p≠some iq) (hl:Lst rows v xs p) (hK:Kn L w0 rows' w) (hL:Lst rows' v' ys p')
  (hcase:(p'=p∧∃k r j u,p=some k∧(rows++[tmp])[k]?=some r∧rows'=(rows++[tmp]).set k (r.put j u))∨(p'=some (rows++[tmp]).length∧∃rn,rows'=rows++[tmp]++[rn])):
  ∃rows2 p2,Kn L w0 rows2 w∧rows2[iq]?=some r∧Lst rows2 v' ys p2∧rows.length≤rows2.length∧(∀k,p≠some k→k<rows.length→rows2[k]?=rows[k]?)∧(p2=p∨p2=some rows.length)∧p2≠some iq:=by
 have hiq:=(List.getElem?_eq_some_iff.1 hq).1;rcases hcase with ⟨rfl,k,rk,j,u,rfl,hk,rfl⟩|⟨rfl,rn,rfl⟩
 ·rcases hl with ⟨h0,_⟩|⟨k',r',hk',hr',_⟩
  ·cases h0
  ·obtain rfl:k=k':=Option.some.inj hk';have hkl:=(List.getElem?_eq_some_iff.1 hr').1;have hki:k≠iq:=fun e=>hp (by rw [e]);rw [List.set_append_left _ _ hkl] at hK hL;refine ⟨_,some k,hK.drop,?_,?_,by simp,fun m hm hml=>?_,.inl rfl,hp⟩
   ·rw [rows_set_ne (Ne.symm hki)];exact hq
   ·rcases hL with ⟨h0,_⟩|⟨k2,r2,hk2,hr2,hrest⟩
    ·cases h0
    ·obtain rfl:k=k2:=Option.some.inj hk2;rw [List.getElem?_append_left (by simpa using hkl)] at hr2;exact .inr ⟨k,r2,rfl,hr2,hrest⟩
   ·rw [rows_set_ne (fun e=>hm (by rw [e]))]
 ·refine ⟨rows++[rn],some rows.length,hK.mid,rows_app_get hq,?_,by simp,fun m hm hml=>List.getElem?_append_left hml,.inr rfl,fun e=>by have:=Option.some.inj e;omega⟩;rcases hL with ⟨h0,_⟩|⟨k2,r2,hk2,hr2,hrest⟩
  ·cases h0
  ·obtain rfl:(rows++[tmp]).length=k2:=Option.some.inj hk2;rw [rows_app_new] at hr2;obtain rfl:=Option.some.inj hr2;exact .inr ⟨rows.length,rn,rfl,rows_app_new rn,hrest⟩
end
section
variable {L:Lot} {w0:World} {rows:List Row} {iq:Nat} {r:Row}
theorem send_x (hev:((2:Nat)==L.ev)=false) (hq:rows[iq]?=some r) (i:Nat) (hm:i*3+3≤r.m) (x:Int) {sv:Value} {xs:List Int} {p:Option Nat} (hsv:r.f (i*3+1)=sv) (hl:Lst rows sv xs p) (hp:p≠some iq) (hn:xs.length≤1000000000) (w:World) (hF:Kn L w0 rows w):
  CallsX Try.prog false L.R1 L.D1 98 #[.pointer (some ⟨r.g,i*3,none⟩),.int .i64 x] w (fun v w'=>v=.tuple #[]∧∃rows' v' p',Kn L w0 rows' w'∧rows'[iq]?=some (r.put (i*3+1) v')∧Lst rows' v' (xs++[x]) p'∧rows.length≤rows'.length∧(∀k,k≠iq→p≠some k→k<rows.length→rows'[k]?=rows[k]?)∧(p'=p∨p'=some rows.length)) (fun _ _=>False):=by
 replace hF:=hF.lay;obtain ⟨sa,sn,sc,rfl⟩:=hl.slice;have hk:(base 98).kind≠.early:=by simp [base]
 refine CallsX.intro L.terms1 #[.pointer (some ⟨r.g,i*3,none⟩),.int .i64 x,undef,undef,undef,undef,undef,undef,undef,undef,undef,undef,undef,undef] Try.func98 rfl (by kernel_rfl) fun cl cs Stop Ret _=>?_;repeat refine .c1 L.terms1 rfl ?_
 refine .regionL L.terms1 [0,1,2,3,4,5,6,7,8,9,10] (by rfl) ?_;iterate 4 (refine .opV L.terms1 rfl (by rfl) hk ?_;try walk_nrm)
 refine .op rfl (by rfl) hk fun w1 hR K hK=>?_;replace hF:=hF.rely hR;clear hR;have hc:World.cell? _ ⟨r.g,i*3+1,none⟩=some (.slice sa sn sc):=(hF.cell hq (j:=i*3+1) (by show _<r.m;omega)).trans (by rw [hsv]);go_simp;try (unfold stored;go_simp)
 refine hK _ _ ⟨?_,?_⟩
 ·refine hF.looks hq ?_;co_evs (exact ⟨_,rfl⟩)
 clear hK K;clear hc;try walk_nrm
 refine .opV L.terms1 rfl (by rfl) hk ?_;try walk_nrm
 refine .op rfl (by rfl) hk fun w1 hR K hK=>?_;replace hF:=hF.rely hR;clear hR;go_simp;try (unfold stored;go_simp)
 refine hK _ _ ⟨?_,?_⟩
 ·refine hF.doesAlloc _ ?_;(intro e he;have hm:=mem_listed he;simp [go_sem, *] at hm)
 clear hK K;have hN:=hF.alloc #[.int .i64 x] 2 (fun _=>.int .i64 x) hev (fun j hj=>by
  have:j=0:=by simpa using hj
  subst this;rfl)
 replace hF:KnL L w0 rows [⟨w1.heap.size,1,2,fun _=>.int .i64 x⟩] _:=hN;clear hN;generalize hB:w1.heap.size=B at *;generalize hW:(w1.alloc (.cells #[.int .i64 x] 2))=w3 at *;clear hW hB w1;try walk_nrm
 refine .op rfl (by rfl) hk fun w1 hR K hK=>?_;replace hF:=hF.rely hR;clear hR;have hS:(rows++[(⟨B,1,2,fun _=>.int .i64 x⟩:Row)])[rows.length]?=some ⟨B,1,2,fun _=>.int .i64 x⟩:=rows_app_new _;obtain ⟨v',rows',p',w',hrun,hK',hL',hT',hC',hcase⟩:=Kn.appended hF hev (hl.app _) hS hn 56;refine uponK_append (.tmp 8) (.tmp 10) 56 rfl rfl rfl hrun (hK _ _ ⟨Kn.appendDoes hF (hl.app _) hS hn hT' hC' (.tmp 8) (.tmp 10) rfl rfl rfl,?_⟩);clear hK K hrun hT' hC';obtain ⟨rows2,p2,hK2,hq2,hL2,hle,hoth,hpp,hpi⟩:=appended_rows hq hp hl hK' hL' hcase;obtain ⟨va,vn,vc,rfl⟩:=hL'.slice;clear hK' hL' hcase hF hS;have hF:=hK2;clear hK2;try walk_nrm
 iterate 2 (refine .opV L.terms1 rfl (by rfl) hk ?_;try walk_nrm)
 refine .op rfl (by rfl) hk fun w1 hR K hK=>?_;replace hF:=hF.rely hR;clear hR;have hz2:World.frozen? _ ⟨r.g,i*3+1,none⟩=false:=hF.frozen hq2 (i*3+1);have hc:World.cell? _ ⟨r.g,i*3+1,none⟩=some _:=hF.cell hq2 (j:=i*3+1) (by show _<r.m;omega);go_simp;try (unfold stored;go_simp)
 refine hK _ _ ⟨?_,?_⟩
 ·refine hF.does hq2 (i*3+1) _ ?_;(intro e he;have hm:=mem_listed he;simp [go_sem,ev_sl, *] at hm;subst hm;exact rfl)
 clear hK K;clear hz2 hc;replace hF:=hF.set hq2 (i*3+1) (.slice va vn vc);try walk_nrm
 repeat refine .c1 L.terms1 rfl ?_
 refine GoesW.fin L.terms1 ?_;refine Ret _ [] _ _ rfl (resultsW_none L.terms1 (by rfl) _) ⟨rfl,_,.slice va vn vc,p2,hF,rows_set_get hq2 _,?_,by simpa using hle,fun k h1 h2 h3=>?_,hpp⟩
 ·rcases hL2 with ⟨a1,a2,a3⟩|⟨k2,r2,a1,a2,a3⟩
  ·exact .inl ⟨a1,a2,a3⟩
  ·exact .inr ⟨k2,r2,a1,by rw [rows_set_ne (fun e=>hpi (by rw [a1,e]))];exact a2,a3⟩
 ·rw [rows_set_ne h1];exact hoth k h2 h3
end
section
variable {P:Program} {A:Plan} {fr:Frame} {w:World} {Q Q':Frame→World→Prop} {opsA opsB:Array Oper} {tail:List Nat} {s:List Item}
def Alike (opsA opsB:Array Oper):Prop:=∀(i:Nat) (o:Oper),opsA[i]?=some o→opsB[i]?=some o∧∀tmps,Region.wanted o (yielded opsB tmps)=Region.wanted o (yielded opsA tmps)
end
section
variable {m:Region.Mode} {ops:Array Oper}
def isRdy (m:Region.Mode) (ops:Array Oper) (L:Array Bool) (i:Nat):Bool:=
 !L.getD i true && ((ops[i]?).map (·.after.all fun e=>!Region.binds m e || L.getD e.on false)).getD false
def rdy (m:Region.Mode) (ops:Array Oper) (L:Array Bool):List Nat:=(List.range ops.size).filter (isRdy m ops L)
theorem go_succ (fuel t:Nat) (L:Array Bool) (acc:List Nat):Region.linearise.go m ops (fuel+1) t L acc=match (rdy m ops L)[t % (rdy m ops L).length]? with
  |some i=>Region.linearise.go m ops fuel (t / (rdy m ops L).length) (L.setIfInBounds i true) (i::acc)
  |none=>acc.reverse:=rfl
def hangs (m:Region.Mode) (ops:Array Oper) (n:Nat):Bool:=
 ((List.range n).all fun i=>((ops.getD i default).after.all fun e=>decide (e.on<i)) && (List.range (n+1)).any fun j=>decide (i<j) && (ops.getD j default).after.toList.any fun e=>Region.binds m e && e.on==i) &&
 (List.range ops.size).all fun i=>decide (i<n) || (((ops.getD i default).after.all fun e=>decide (e.on<i)) && (decide (i=n) || (ops.getD i default).after.toList.any fun e=>Region.binds m e && e.on+1==i))
theorem filter_one {p:Nat→Bool} {x:Nat}:∀{N:Nat},x<N→p x=true→(∀i,i<N→i≠x→p i=false)→(List.range N).filter p=[x]
 |0,h,_,_=>absurd h (by omega)
 |N+1,h,hp,ho=>by
  rw [List.range_succ,List.filter_append];by_cases e:x=N
  ·subst e;have:(List.range x).filter p=[]:=List.filter_eq_nil_iff.2 fun i hi=>by
    have:=List.mem_range.1 hi;rw [ho i (by omega) (by omega)];simp
   rw [this];simp [hp]
  ·rw [filter_one (by omega) hp fun i hi hne=>ho i (by omega) hne];simp [ho N (by omega) (by omega)]
theorem isRdy_iff {L:Array Bool} {i:Nat}:isRdy m ops L i=true↔L.getD i true=false∧∃o,ops[i]?=some o∧∀e∈o.after,Region.binds m e=true→L.getD e.on false=true:=by
 unfold isRdy;cases h:ops[i]? with
 |none=>simp
 |some o=>
  simp only [Option.map_some,Option.getD_some,Bool.and_eq_true,Bool.not_eq_true',Option.some.injEq];constructor
  ·rintro ⟨h1,h2⟩;refine ⟨h1,o,rfl,fun e he hb=>?_⟩;rw [Array.all_eq_true_iff_forall_mem] at h2;have:=h2 e he;simpa [hb] using this
  ·rintro ⟨h1,o',rfl,h2⟩;refine ⟨h1,?_⟩;rw [Array.all_eq_true_iff_forall_mem];intro e he;cases hb:Region.binds m e with
   |false=>rfl
   |true=>simp [h2 e he hb]
theorem getD_set {L:Array Bool} {i:Nat} (hi:i<L.size) (j:Nat) (d:Bool):(L.setIfInBounds i true).getD j d=if i=j then true else L.getD j d:=by
 rw [Array.getD_eq_getD_getElem?,Array.getD_eq_getD_getElem?];by_cases e:i=j
 ·subst e;simp [hi]
 ·rw [Array.getElem?_setIfInBounds_ne e,if_neg e]
theorem getD_any {L:Array Bool} {i:Nat} (hi:i<L.size):L.getD i true=L.getD i false:=by
 simp [Array.getD,hi]
theorem go_tail {n:Nat} (h3:∀i,n≤i→i<ops.size→∀e∈(ops.getD i default).after,e.on<i) (h4:∀i,n<i→i<ops.size→∃e∈(ops.getD i default).after,Region.binds m e=true∧e.on+1=i):
  ∀(r k t:Nat) (L:Array Bool),n+k+r=ops.size→L.size=ops.size→(∀i,i<n+k→L.getD i false=true)→(∀i,n+k≤i→L.getD i false=false)→Region.linearise.go m ops r t L []=(List.range r).map (n+k+·):=by
 intro r;induction r with
 |zero=>intro k t L _ _ _ _;simp [Region.linearise.go]
 |succ r ih=>
  intro k t L hs hL ht hf;have hx:n+k<ops.size:=by omega
  have at?:∀i,i<ops.size→ops[i]?=some (ops.getD i default):=fun i hi=>by simp [Array.getD,hi]
  have hr:rdy m ops L=[n+k]:=by
   refine filter_one hx (isRdy_iff.2 ⟨by rw [getD_any (by omega)];exact hf _ (Nat.le_refl _),_,at? _ hx,fun e he _=>ht _ (h3 _ (by omega) hx e he)⟩) fun i hi hne=>?_;cases hb:isRdy m ops L i with
   |false=>rfl
   |true=>
    exfalso;obtain ⟨b1,o,b2,b3⟩:=isRdy_iff.1 hb;rw [at? i hi] at b2;cases b2;rw [getD_any (by omega)] at b1;by_cases hlt:i<n+k
    ·rw [ht i hlt] at b1;cases b1
    ·obtain ⟨e,he,hb,hon⟩:=h4 i (by omega) hi;have:=b3 e he hb;rw [hf e.on (by omega)] at this;cases this
  rw [go_succ,hr];simp only [List.length_singleton,Nat.mod_one,Nat.div_one,List.getElem?_cons_zero];rw [linearise_go_acc,ih (k+1) t (L.setIfInBounds (n+k) true) (by omega) (by simpa using hL) (fun i hi=>by
    rw [getD_set (by omega)];split
    ·rfl
    ·exact ht i (by omega)) (fun i hi=>by
    rw [getD_set (by omega),if_neg (by omega)];exact hf i (by omega))]
  rw [List.range_succ_eq_map];simp only [List.reverse_singleton,List.singleton_append,List.map_cons,List.map_map,Nat.add_zero,List.cons.injEq,true_and];apply List.map_congr_left;intro a _;simp only [Function.comp];omega
def cnt:Nat→Array Bool→Nat
 |0,_=>0
 |n+1,L=>cnt n L+(if L.getD n false then 0 else 1)
theorem cnt_all {L:Array Bool}:∀{n:Nat},(∀i,i<n→L.getD i false=true)→cnt n L=0
 |0,_=>rfl
 |n+1,h=>by
  unfold cnt;rw [cnt_all fun i hi=>h i (by omega),h n (by omega)];rfl
theorem cnt_zero {L:Array Bool}:∀{n:Nat},cnt n L=0→∀i,i<n→L.getD i false=true
 |0,_,i,hi=>absurd hi (by omega)
 |n+1,h,i,hi=>by
  unfold cnt at h;cases hb:L.getD n false with
  |false=>simp [hb] at h
  |true=>
   rw [hb] at h;by_cases e:i=n
   ·rw [e];exact hb
   ·exact cnt_zero (by simpa using h) i (by omega)
theorem cnt_none {L:Array Bool}:∀{n:Nat},(∀i,i<n→L.getD i false=false)→cnt n L=n
 |0,_=>rfl
 |n+1,h=>by
  unfold cnt;rw [cnt_none fun i hi=>h i (by omega),h n (by omega)];rfl
theorem cnt_above {L:Array Bool} {i:Nat} (hL:i<L.size):∀{n:Nat},n≤i→cnt n (L.setIfInBounds i true)=cnt n L
 |0,_=>rfl
 |n+1,h=>by
  unfold cnt;have e:(L.setIfInBounds i true).getD n false=L.getD n false:=by rw [getD_set hL,if_neg (by omega)]
  rw [cnt_above hL (by omega),e]
theorem cnt_set {L:Array Bool} {i:Nat} (hL:i<L.size) (hf:L.getD i false=false):∀{n:Nat},i<n→cnt n (L.setIfInBounds i true)+1=cnt n L
 |0,h=>absurd h (by omega)
 |n+1,h=>by
  unfold cnt;by_cases e:i=n
  ·subst e;have e1:(L.setIfInBounds i true).getD i false=true:=by rw [getD_set hL,if_pos rfl]
   rw [cnt_above hL (Nat.le_refl _),e1,hf];rfl
  ·have e1:(L.setIfInBounds i true).getD n false=L.getD n false:=by rw [getD_set hL,if_neg e]
   rw [e1,←cnt_set hL hf (n:=n) (by omega)];omega
theorem go_split {n:Nat} (hn:n<ops.size) (h1:∀i,i<n→∀e∈(ops.getD i default).after,e.on<i) (h2:∀i,i<n→∃j,i<j∧j≤n∧∃e∈(ops.getD j default).after,Region.binds m e=true∧e.on=i)
  (h3:∀i,n≤i→i<ops.size→∀e∈(ops.getD i default).after,e.on<i) (h4:∀i,n<i→i<ops.size→∃e∈(ops.getD i default).after,Region.binds m e=true∧e.on+1=i):
  ∀(fuel t:Nat) (LA LB:Array Bool),LA.size=n→LB.size=ops.size→(∀i,i<n→LB.getD i false=LA.getD i false)→(∀i,n≤i→LB.getD i false=false)→
   (∀i,i<n→LA.getD i false=true→∀e∈(ops.getD i default).after,Region.binds m e=true→LA.getD e.on false=true)→cnt n LA=fuel→
   Region.linearise.go m ops (fuel+(ops.size-n)) t LB []=Region.linearise.go m (ops.extract 0 n) fuel t LA []++(List.range (ops.size-n)).map (n+·):=by
 have at?:∀i,i<ops.size→ops[i]?=some (ops.getD i default):=fun i hi=>by simp [Array.getD,hi]
 have atA:∀i,i<n→(ops.extract 0 n)[i]?=some (ops.getD i default):=fun i hi=>by
  rw [←at? i (by omega)];simp [Array.getElem?_extract];omega
 have sizeA:(ops.extract 0 n).size=n:=by simp;omega
 intro fuel;induction fuel with
 |zero=>
  intro t LA LB hA hB hab hhi hcl hc;have hall:=cnt_zero hc;have:=go_tail (m:=m) h3 h4 (ops.size-n) 0 t LB (by omega) hB (fun i hi=>by rw [hab i (by omega)];exact hall i (by omega)) (fun i hi=>hhi i (by omega));rw [Nat.zero_add,this];simp [Region.linearise.go]
 |succ fuel ih=>
  intro t LA LB hA hB hab hhi hcl hc;obtain ⟨x,hx,hxf,hxl⟩:∃x,x<n∧LA.getD x false=false∧∀i,i<x→LA.getD i false=true:=by
   rcases first_not (fun i=>LA.getD i false=true) n with h|⟨j,hj,hjf,hjl⟩
   ·rw [cnt_all h] at hc;omega
   ·exact ⟨j,hj,by simpa using hjf,hjl⟩
  have hA_iff:∀i,i<n→isRdy m ops LB i=isRdy m (ops.extract 0 n) LA i:=fun i hi=>by
   have e:isRdy m ops LB i=true↔isRdy m (ops.extract 0 n) LA i=true:=by
    rw [isRdy_iff,isRdy_iff,at? i (by omega),atA i hi,getD_any (by omega),getD_any (by omega),hab i hi];constructor
    ·rintro ⟨a,o,ho,b⟩;cases ho;exact ⟨a,_,rfl,fun e he hb=>by rw [←hab _ (by have:=h1 i hi e he;omega)];exact b e he hb⟩
    ·rintro ⟨a,o,ho,b⟩;cases ho;exact ⟨a,_,rfl,fun e he hb=>by rw [hab _ (by have:=h1 i hi e he;omega)];exact b e he hb⟩
   cases p:isRdy m ops LB i<;>cases q:isRdy m (ops.extract 0 n) LA i<;>simp_all
  have hhigh:∀i,n≤i→i<ops.size→isRdy m ops LB i=false:=fun i hi his=>by
   cases hb:isRdy m ops LB i with
   |false=>rfl
   |true=>
    exfalso;obtain ⟨b1,o,b2,b3⟩:=isRdy_iff.1 hb;rw [at? i his] at b2;cases b2;by_cases e:i=n
    ·subst e;have hall:∀d y,y<i→i-y≤d→LA.getD y false=true:=by
      intro d;induction d with
      |zero=>intro y hy hd;omega
      |succ d ihd=>
       intro y hy hd;obtain ⟨j,hj1,hj2,e,he,hbe,hon⟩:=h2 y hy;by_cases ej:j=i
       ·subst ej;have:=b3 e he hbe;rw [hon,hab y hy] at this;exact this
       ·have:=hcl j (by omega) (ihd j (by omega) (by omega)) e he hbe;rw [hon] at this;exact this
     rw [hall (i-x) x hx (Nat.le_refl _)] at hxf;cases hxf
    ·obtain ⟨e,he,hbe,hon⟩:=h4 i (by omega) his;have:=b3 e he hbe;rw [hhi e.on (by omega)] at this;cases this
  have hr:rdy m ops LB=rdy m (ops.extract 0 n) LA:=by
   unfold rdy;rw [sizeA,show ops.size=n+(ops.size-n) by omega,List.range_add,List.filter_append];have e2:((List.range (ops.size-n)).map (n+·)).filter (isRdy m ops LB)=[]:=List.filter_eq_nil_iff.2 fun i hi=>by
    obtain ⟨y,hy,rfl⟩:=List.mem_map.1 hi;have:=List.mem_range.1 hy;rw [hhigh (n+y) (by omega) (by omega)];simp
   rw [e2,List.append_nil];exact List.filter_congr fun i hi=>hA_iff i (List.mem_range.1 hi)
  have hxr:x∈rdy m (ops.extract 0 n) LA:=List.mem_filter.2 ⟨List.mem_range.2 (by omega),isRdy_iff.2 ⟨by rw [getD_any (by omega)];exact hxf,_,atA x hx,fun e he _=>hxl _ (h1 x hx e he)⟩⟩;have hpos:0<(rdy m (ops.extract 0 n) LA).length:=List.length_pos_of_mem hxr;obtain ⟨i,hi⟩:∃i,(rdy m (ops.extract 0 n) LA)[t % (rdy m (ops.extract 0 n) LA).length]?=some i:=⟨_,List.getElem?_eq_getElem (Nat.mod_lt _ hpos)⟩;have him:=List.mem_filter.1 (List.mem_of_getElem? hi);have hin:i<n:=by have:=List.mem_range.1 him.1;omega
  obtain ⟨i1,o,i2,i3⟩:=isRdy_iff.1 him.2;rw [atA i hin] at i2;cases i2;rw [getD_any (by omega)] at i1;rw [show fuel+1+(ops.size-n)=(fuel+(ops.size-n))+1 by omega,go_succ,go_succ,hr,hi];simp only [];rw [linearise_go_acc,linearise_go_acc m (ops.extract 0 n),ih _ (LA.setIfInBounds i true) (LB.setIfInBounds i true) (by simpa using hA) (by simpa using hB)
   (fun j hj=>by rw [getD_set (by omega),getD_set (by omega),hab j hj]) (fun j hj=>by rw [getD_set (by omega),if_neg (by omega)];exact hhi j hj)
   (fun j hj hjt e he hb=>by
    rw [getD_set (by omega)] at hjt ⊢;split
    ·rfl
    ·by_cases ej:i=j
     ·subst ej;exact i3 e he hb
     ·rw [if_neg ej] at hjt;exact hcl j hj hjt e he hb)
   (by have:=cnt_set (L:=LA) (i:=i) (by omega) i1 (n:=n) hin;omega)]
  simp
theorem schedule_split {n:Nat} (hn:n<ops.size) (hh:hangs .any ops n=true) (t:Nat):Region.schedule true ops t=Region.schedule true (ops.extract 0 n) t++(List.range (ops.size-n)).map (n+·):=by
 have sizeA:(ops.extract 0 n).size=n:=by simp;omega
 unfold hangs at hh;simp only [Bool.and_eq_true,List.all_eq_true,List.any_eq_true,List.mem_range,Bool.or_eq_true,decide_eq_true_eq,Array.all_eq_true_iff_forall_mem,Array.mem_toList_iff,beq_iff_eq] at hh;obtain ⟨ha,hb⟩:=hh;have key:=go_split (m:=.any) hn (fun i hi e he=>(ha i hi).1 e he) (fun i hi=>by
   obtain ⟨j,hj,hij,e,he,hb,hon⟩:=(ha i hi).2;exact ⟨j,hij,by omega,e,he,hb,hon⟩)
  (fun i hi his e he=>by
   rcases hb i his with h|h
   ·omega
   ·exact h.1 e he)
  (fun i hi his=>by
   rcases hb i his with h|h
   ·omega
   ·rcases h.2 with h|⟨e,he,hb,hon⟩
    ·omega
    ·exact ⟨e,he,hb,hon⟩)
  n t (Array.replicate n false) (Array.replicate ops.size false) (by simp) (by simp) (fun i hi=>by simp [Array.getD]) (fun i hi=>by simp [Array.getD]) (fun i hi h=>by simp [Array.getD] at h) (cnt_none fun i hi=>by simp [Array.getD])
 unfold Region.schedule;simp only [Bool.true_or,if_true];unfold Region.linearise;rw [sizeA,←key,show n+(ops.size-n)=ops.size by omega]
def guarded (ops:Array Oper) (n:Nat):Bool:=(List.range n).all fun i=>match (ops.getD i default).guard with
 |none=>true
 |some (g,_)=>decide (g<n)
theorem alike_extract {n:Nat} (hn:n<ops.size) (hg:guarded ops n=true):Alike (ops.extract 0 n) ops:=fun i o ho=>by
 have hi:i<n:=by
  have:=(Array.getElem?_eq_some_iff.1 ho).1;simp at this;omega
 have hat:∀j,j<n→(ops.extract 0 n)[j]?=ops[j]?:=fun j hj=>by simp [Array.getElem?_extract];omega
 rw [hat i hi] at ho;refine ⟨ho,fun tmps=>?_⟩;unfold guarded at hg;have hgi:=(List.all_eq_true.1 hg) i (List.mem_range.2 hi);have:ops.getD i default=o:=by
  rw [Array.getD_eq_getD_getElem?,ho];rfl
 rw [this] at hgi;unfold Region.wanted;cases hgd:o.guard with
 |none=>rfl
 |some x=>
  obtain ⟨g,b⟩:=x;rw [hgd] at hgi;have hlt:g<n:=by simpa using hgi
  unfold yielded;simp only [hat g hlt]
end
end Go.Proofs.Ytdoghgnifkgfdaa.Mute
