import Derived.Conc.EventLaws2
import Derived.Lib.SliceRun
import Derived.Test.YtdoghgnifkgfdaaGreatP08
import Derived.Test.YtdoghgnifkgfdaaGreatP23
import Derived.Test.YtdoghgnifkgfdaaGreatP24
import Derived.Test.YtdoghgnifkgfdaaGreatP29
set_option maxRecDepth 100000
set_option maxHeartbeats 16000000
namespace Go.Proofs.YtdoghgnifkgfdaaGreat.Mute
open Go Go.Conc Go.RowKit
section
variable {P:Program} {main:Bool} {R:World→World→Prop} {D:World→World→Array Event→Prop} {fn:FuncId} {md:Region.Mode} {ops opsB:Array Oper} {Q:Act→World→Prop} {S:World→Prop}
theorem Y7Q (T:Terms R D) {b:Frame} {k:List Item} {cs:List Frame} {Stop:Goroutine→World→Prop} (hal:Alike ops opsB) (tail:List Nat) (hb:b.fn=fn) (hk:b.kind≠.early) (ds:List Deferred)
  (hQ:∀a w,a.defers=ds→Q a w→Y1 P main R D Stop (G (b.at a (.inRegion opsB tail::k)) cs) w):
  ∀(fuel t:Nat) (listed:Array Bool) (a:Act) (w:World),a.defers=ds→AnyD P main R D fn md ops Q (fun _ _=>False) (fun _ _ _=>False) S fuel listed a w→Y1 P main R D Stop (G (b.at a (.inRegion opsB (Region.linearise.go md ops fuel t listed []++tail)::k)) cs) w:=by
 intro fuel;induction fuel with
 |zero=>intro t listed a w hd h;simpa [Region.linearise.go] using hQ a w hd h.2
 |succ fuel ih=>
  intro t listed a w hd ⟨h₀,h₁⟩;simp only [Region.linearise.go];change Y1 P main R D Stop (G (b.at a (.inRegion opsB ((match (Region.ready md ops listed)[t % (Region.ready md ops listed).length]? with
   |some i=>Region.linearise.go md ops fuel (t / (Region.ready md ops listed).length) (listed.setIfInBounds i true) [i]
   |none=>[].reverse)++tail)::k)) cs) w
  cases hi:(Region.ready md ops listed)[t % (Region.ready md ops listed).length]? with
  |none=>
   have hnil:Region.ready md ops listed=[]:=by
    cases hr:Region.ready md ops listed with
    |nil=>rfl
    |cons x xs=>
     rw [hr] at hi;have hlt:t % (x::xs).length<(x::xs).length:=Nat.mod_lt _ (by simp);rw [List.getElem?_eq_none_iff] at hi;omega
   exact hQ a w hd (h₀ hnil)
  |some i=>
   simp only [];rw [linearise_go_acc,List.reverse_singleton,List.singleton_append,List.cons_append];have hop:=h₁ i (List.mem_of_getElem? hi);unfold OpD at hop;cases ho:ops[i]? with
   |none=>rw [ho] at hop;exact hop.elim
   |some o=>
    rw [ho] at hop;obtain ⟨hoB,hwB⟩:=hal i o ho;by_cases hw:Region.wanted o (yielded ops a.tmps)=true
    ·simp only [hw,if_true] at hop;rcases hop with hop|⟨f,args,ats,fn',c,h1,h2,h3,h4,h5⟩|⟨-,htl⟩
     ·refine Y1.op hoB ((hwB _).trans hw) hk fun w₁ r K hK=>uponK_mono hK ?_;have hx:=hop w₁ r;revert hx;cases (execOp a.eval o).run P w₁ with
      |ok n w'=>cases n<;>first|exact id|exact fun x=>⟨hb▸x.1,ih _ _ _ w' ((put_defers _ _ _).trans hd) x.2.2⟩
      |halt _ _=>exact id
     ·refine Y1.enter T hoB ((hwB _).trans hw) hk h1 h2 h3 h4 ?_;rw [←enter_at _ h2 h4];refine h5 _ cs Stop (fun v w' x=>?_) fun ch w' x=>x.elim;rw [Frame.finish_at,hoB];exact ih _ _ _ w' ((put_defers _ _ _).trans hd) x.2
     ·exact htl.elim
    ·simp only [hw] at hop;exact Y1.unwanted T hoB ((hwB _).trans (by simpa using hw)) (ih _ _ _ w ((put_defers _ _ _).trans hd) hop.2)
theorem Y1O {α:Type} (l:List α) (n:Nat):l.toArray.extract 0 n=(l.take n).toArray:=by simp
theorem Y1.drawnCut (T:Terms R D) (hd:LetsDraw D) {b:Frame} {k:List Item} {cs:List Frame} {Stop:Goroutine→World→Prop} {id:Nat} {a:Act} {w:World} (n:Nat) (hn:n<opsB.size) (hh:hangs .any opsB n=true) (hg:guarded opsB n=true) (tl:List Nat) (htl:(List.range (opsB.size-n)).map (n+·)=tl) (hk:b.kind≠.early) (hm:P.follows .mixedOrders=true)
  (hA:opsB.extract 0 n=ops) (h:∀w₁,R w w₁→AnyD P main R D b.fn .any ops (fun a' w'=>Y1 P main R D Stop (G (b.at a' (.inRegion opsB tl::k)) cs) w') (fun _ _=>False) (fun _ _ _=>False) S n (Array.replicate n false) a {w₁ with drawn:=w₁.drawn+1}):Y1 P main R D Stop (G (b.at a (.code (.region id opsB true)::k)) cs) w:=
 .one rfl fun w₁ r=>⟨_,_,_,stepG_region_draw,hd _,by
  subst hA;rw [hm,Y8b hn hh,htl];have hsz:(opsB.extract 0 n).size=n:=by simp;omega
  simp only [Region.schedule,Bool.true_or,if_true];unfold Region.linearise;rw [hsz];exact Y7Q T (Y4U hn hg) tl rfl hk a.defers (fun _ _ _ h=>h) n _ _ a _ rfl (h w₁ r)⟩
end
section
variable {P:Program} {w:World} {es:Array Event} {t e:TypeId} (h:P.underlying t=some (.slice e)) (a:Option Addr) (n c:Nat) {x y z:Int}
include h
theorem Yge (h0:0≤x) (h1:x≤c):(Instr.sliceAt t (.slice a n c) none (some (.int .i64 x)) none).events P w es=es:=by
 simp [Instr.sliceAt,Instr.slice,Instr.sliceBounds,Instr.sliceBound,Sem.events_bind,run_underlying h,events_underlying,events_sizeOf,asIntOf,h0,h1]
theorem YeO (h0:0≤x) (h1:x≤n):(Instr.sliceAt t (.slice a n c) (some (.int .i64 x)) none none).events P w es=es:=by
 simp [Instr.sliceAt,Instr.slice,Instr.sliceBounds,Instr.sliceBound,Sem.events_bind,run_underlying h,events_underlying,events_sizeOf,asIntOf,h0,h1]
theorem Ygi (h0:0≤x) (h1:x≤y) (h2:y≤c):(Instr.sliceAt t (.slice a n c) (some (.int .i64 x)) (some (.int .i64 y)) none).events P w es=es:=by
 have h3:0≤y:=Int.le_trans h0 h1;have h4:x≤max y 0:=by omega
 simp [Instr.sliceAt,Instr.slice,Instr.sliceBounds,Instr.sliceBound,Sem.events_bind,run_underlying h,events_underlying,events_sizeOf,asIntOf,h0,h2,h3,h4]
theorem Yh3 (h0:0≤x) (h1:x≤y) (h2:y≤z) (h3:z≤c):(Instr.sliceAt t (.slice a n c) (some (.int .i64 x)) (some (.int .i64 y)) (some (.int .i64 z))).events P w es=es:=by
 have h4:0≤y:=Int.le_trans h0 h1;have h5:0≤z:=Int.le_trans h4 h2;have h6:x≤max y 0:=by omega
 have h7:y≤max z 0:=by omega
 simp [Instr.sliceAt,Instr.slice,Instr.sliceBounds,Instr.sliceBound,Sem.events_bind,run_underlying h,events_underlying,events_sizeOf,asIntOf,h0,h3,h4,h5,h6,h7]
end
theorem YfL (w:World):(zeroValue 2).run Tryz.prog w=.ok (.int .i64 0) w:=by
 obtain ⟨i,hi,hz,hsz,hby⟩:=info_parts YcE;simp [zeroValue,typeInfo,hi,hz]
theorem Yfm {w:World} {g n c:Nat} {u:Value} (hc:w.cell? ⟨g,n,none⟩=some u) (hf:w.frozen? ⟨g,n,none⟩=false) (ty:TypeId):(Builtin.clear_ #[51] ty #[.slice (some ⟨g,n,none⟩) 1 c]).run Tryz.prog w=.ok (.tuple #[]) (w.setCell ⟨g,n,none⟩ (.int .i64 0)):=by
 have:=Lib.run_clear_slice w 51 2 ty (.int .i64 0) Tryz.underlying51 YfL rfl rfl g n 1 c (by omega) (fun j hj=>by
  have e:j=0:=by omega
  subst e;simp [hc]) (fun j hj=>by
  have e:j=0:=by omega
  subst e;simpa using hf)
 exact this
theorem Yg7 {w:World} {g n c:Nat} {u:Value} (hc:w.cell? ⟨g,n,none⟩=some u) (hf:w.frozen? ⟨g,n,none⟩=false) (ty:TypeId):∀e∈(Builtin.clear_ #[51] ty #[.slice (some ⟨g,n,none⟩) 1 c]).events Tryz.prog w #[],e=⟨.cell ⟨g,n,none⟩,true,false⟩:=by
 obtain ⟨i,hi,hz,hsz,hby⟩:=info_parts YcE;intro e he;simp [Builtin.clear_,Sem.events_bind,run_underlying Tryz.underlying51,events_underlying,zeroValue,typeInfo,hi,hz,Builtin.zeroCells,storeCells,go_sem,hc,hf] at he;exact he
section
variable {L:Lot} {w0 w:World} {rows:List Row} {k:Nat} {r:Row}
theorem Ydf (w:World) (g:Nat) (arr:Array Value) {b:Nat} (h:b≠g):(w.setRow g arr).heap[b]?=w.heap[b]?:=by
 unfold World.setRow;simp only [Array.getElem?_modify,if_neg (Ne.symm h)]
theorem Kn.setRow (h:Kn L w0 rows w) (hk:rows[k]?=some r) {arr:Array Value} {f':Nat→Value} (hs:arr.size=r.m) (hf:∀j,j<r.m→arr[j]?=some (f' j)):Kn L w0 (rows.set k {r with f:=f'}) (w.setRow r.g arr)∧Turn L L.send w (w.setRow r.g arr)∧(w.setRow r.g arr).heap[L.c]?=w.heap[L.c]?:=by
 have ho:=h.row k r hk;obtain ⟨cur,hg,hcs,hc⟩:=ho.rw.row;have hgn:=setRow_heap w r.g cur arr r.t (0,0) hg;have ht:Turn L L.send w (w.setRow r.g arr):=by
  refine ⟨rfl,rfl,rfl,by simp,fun b o hb=>?_⟩;by_cases e:b=r.g
  ·subst e;rw [hg] at hb;cases hb;exact ⟨_,hgn,fun _=>rfl,fun _ x=>absurd (ho.own _ hg) x⟩
  ·exact ⟨o,by rw [Ydf _ _ _ e];exact hb,fun _=>rfl,fun _ _=>rfl⟩
 have hch:(w.setRow r.g arr).heap[L.c]?=w.heap[L.c]?:=Ydf _ _ _ (fun e=>ho.rw.calm.nc e.symm);refine ⟨⟨h.ph.trans (ht.mono fun _ _ x=>.inr x),fun m s hm=>?_,fun a b x y ha hb hab=>?_,by simpa using h.hB,by simpa using h.hc⟩,ht,hch⟩
 ·by_cases e:m=k
  ·subst e;rw [YN hk] at hm;cases hm;exact ⟨⟨⟨arr,hgn,hs,hf⟩,ho.rw.calm.turn L.tells_main ht⟩,ho.own.turn L.tells_send ho.rw.calm.there ht⟩
  ·rw [ZZ e] at hm;have hs':=h.row m s hm;exact ⟨⟨hs'.rw.row.of_heap (Ydf _ _ _ (h.pw m k s r hm hk e)),hs'.rw.calm.turn L.tells_main ht⟩,hs'.own.turn L.tells_send hs'.rw.calm.there ht⟩
 ·have key:∀(c:Nat) (x:Row),(rows.set k {r with f:=f'})[c]?=some x→∃x':Row,rows[c]?=some x'∧x'.g=x.g:=fun c x hx=>by
   by_cases hck:c=k
   ·subst hck;rw [YN hk] at hx;cases hx;exact ⟨r,hk,rfl⟩
   ·rw [ZZ hck] at hx;exact ⟨x,hx,rfl⟩
  obtain ⟨x',hx',ex⟩:=key a x ha;obtain ⟨y',hy',ey⟩:=key b y hb;rw [←ex,←ey];exact h.pw a b x' y' hx' hy' hab
end
section
variable {L:Lot} {w0:World} {rows:List Row} {k:Nat} {r:Row}
theorem Yfw (hk0:rows[k]?=some r) (ht:r.t=2) (n:Nat) (xs:Nat→Int) (hxs:∀j,j<n+1→r.f j=.int .i64 (xs j)) (hn1:n+1≤r.m) (hml:r.m≤maxLen) (hn9:n≤1000000000) (w:World) (hF:Kn L w0 rows w):
  Yl Tryz.prog false L.R1 L.D1 145 #[.slice (some ⟨r.g,0,none⟩) (n+1:Nat) r.m,.int .i64 0,.int .i64 1] w (fun v w'=>v=.slice (some ⟨r.g,0,none⟩) n r.m∧Kn L w0 (rows.set k {r with f:=fun j=>if j<n then r.f (j+1) else if j=n then .int .i64 0 else r.f j}) w') (fun _ _=>False):=by
 have hi0:(0:Int)≤(n:Int)+1:=by omega
 have hi1:(1:Int)≤(n:Int)+1:=by omega
 have hi2:(n:Int)+1≤(r.m:Int):=by omega
 have hmn:¬r.m=n:=by omega
 have hi3:(n:Int)≤(n:Int)+1:=by omega
 have hi4:(0:Int)≤(n:Int):=by omega
 have hk:(base 145).kind≠.early:=by simp [base]
 refine Yl.intro L.terms1 #[.slice (some ⟨r.g,0,none⟩) (n+1:Nat) r.m,.int .i64 0,.int .i64 1,undef,undef,undef,undef,undef,undef,undef,undef,undef,undef,undef,undef,undef,undef,undef,undef,undef,undef,undef,undef,undef,undef,undef,undef,undef,undef,undef,undef,undef,undef] Tryz.func145 rfl (by kernel_rfl) fun cl cs Stop Ret _=>?_;repeat refine .c1 L.terms1 rfl ?_
 refine .regionL L.terms1 [0] (by rfl) ?_;refine .opV L.terms1 rfl (by rfl) hk ?_;try walk_nrm
 repeat refine .c1 L.terms1 rfl ?_
 refine .regionL L.terms1 [0,1,2,3,4,5] (by rfl) ?_;iterate 5 (refine .opV L.terms1 rfl (by rfl) hk ?_;try walk_nrm)
 refine .op rfl (by rfl) hk fun w1 hR K hK=>?_;replace hF:=hF.rely hR;clear hR;go_simp;try (unfold stored;go_simp)
 refine hK _ _ ⟨?_,?_⟩
 ·rw [listed_nil (by simp [go_sem,Yh3 Tryz.underlying51, *])];exact Terms.idle L.terms1 _
 clear hK K;try walk_nrm
 repeat refine .c1 L.terms1 rfl ?_
 refine .regionL L.terms1 [0,1,2] (by rfl) ?_;iterate 3 (refine .opV L.terms1 rfl (by rfl) hk ?_;try walk_nrm)
 repeat refine .c1 L.terms1 rfl ?_
 refine Y1.condF L.terms1 (by first|rfl|simp [Act.eval]) ?_;repeat refine .c1 L.terms1 rfl ?_
 refine .regionL L.terms1 [0,1,2] (by rfl) ?_;iterate 3 (refine .opV L.terms1 rfl (by rfl) hk ?_;try walk_nrm)
 repeat refine .c1 L.terms1 rfl ?_
 refine Y1.drawnCut (S:=Kn L w0 rows) L.terms1 L.draws1 6 (by decide) (by decide +kernel) (by decide +kernel) [6,7] (by rfl) hk (by kernel_rfl) ((Y1O _ _).trans (by simp only [List.take_succ_cons,List.take_zero]<;>rfl)) fun w1 hR=>?_;replace hF:=Kn.rely (Kn.rely hF hR) (Turn.drew _);clear hR;refine Y4 L.terms1 0 (fun _ _ h r=>Kn.rely h r) hF ?_;try walk_nrm
 refine Y4 L.terms1 1 (fun _ _ h r=>Kn.rely h r) hF ?_;try walk_nrm
 refine Ye L.terms1 2 rfl (fun _ _ h r=>Kn.rely h r) hF ?_ fun _ hw=>⟨run_eq_of (by
  intro K hK;go_simp;exact hK),by
  rw [listed_nil (by simp [go_sem,Yge Tryz.underlying51, *])];exact Terms.idle L.terms1 _⟩
 try walk_nrm
 refine Y4 L.terms1 3 (fun _ _ h r=>Kn.rely h r) hF ?_;try walk_nrm
 refine Y4 L.terms1 4 (fun _ _ h r=>Kn.rely h r) hF ?_;try walk_nrm
 refine Ye L.terms1 5 rfl (fun _ _ h r=>Kn.rely h r) hF ?_ fun _ hw=>⟨run_eq_of (by
  intro K hK;go_simp;exact hK),by
  rw [listed_nil (by simp [go_sem,YeO Tryz.underlying51, *])];exact Terms.idle L.terms1 _⟩
 try walk_nrm
 refine Xi (by first|kernel_rfl|decide +kernel) ?_ _;obtain ⟨ad,had,hadb,hadn⟩:∃ad:Addr,(if r.m=1 then some (⟨r.g,0,none⟩:Addr) else some ⟨r.g,1,none⟩)=some ad∧ad.block=r.g∧(0<n→ad=⟨r.g,1,none⟩):=by
  by_cases e:r.m=1
  ·exact ⟨_,by rw [if_pos e],rfl,fun h=>by omega⟩
  ·exact ⟨_,by rw [if_neg e],rfl,fun _=>rfl⟩
 rw [had];refine .op rfl (by rfl) hk fun w1 hR K hK=>?_;replace hF:=Kn.rely hF hR;clear hR;obtain ⟨i,hi,hz,hsz,hby⟩:=info_parts YcE;have ho:=hF.row k r hk0;obtain ⟨cur,hg,hcs,hc⟩:=ho.rw.row;rw [ht] at hg;have hnews:∀(j:Nat) (u:Value),((List.range n).map fun j=>r.f (j+1))[j]?=some u→w1.cell? (ad.add j)=some u:=fun j u hu=>by
  have hj:j<n:=by
   have:=(List.getElem?_eq_some_iff.1 hu).1;simpa using this
  rw [hadn (by omega),Addr.add_mid];simp [hj] at hu;rw [←hu,Nat.add_comm 1 j];exact ho.cell (show j+1<r.m by omega)
 have hone:∀u∈(List.range n).map (fun j=>r.f (j+1)),u.oneCell'=true:=fun u hu=>by
  obtain ⟨j,hj,rfl⟩:=List.mem_map.1 hu;rw [hxs (j+1) (by have:=List.mem_range.1 hj;omega)];rfl
 have hrun:=run_append_room (P:=Tryz.prog) w1 51 51 2 i Tryz.underlying51 hi r.g 0 r.m cur hg ad n (r.m-1) _ (by rw [hsz];simp) hnews hone (by omega) (by simp;omega);rw [Nat.zero_mul,List.take_zero,List.nil_append,Nat.zero_add,Nat.zero_add,List.length_map,List.length_range] at hrun;obtain ⟨hK2,hT2,hC2⟩:=hF.setRow hk0 (arr:=((List.range n).map (fun j=>r.f (j+1))++cur.toList.drop n).toArray) (f':=fun j=>if j<n then r.f (j+1) else r.f j) (by simp [hcs];omega) (fun j hj=>by
  simp only [List.getElem?_toArray];by_cases e:j<n
  ·rw [List.getElem?_append_left (by simpa using e),if_pos e];simp [e]
  ·rw [List.getElem?_append_right (by simp;omega),if_neg e,List.getElem?_drop];simp only [List.length_map,List.length_range];rw [show n+(j-n)=j by omega,Array.getElem?_toList];exact hc j hj)
 refine uponK_append (.tmp 22) (.tmp 25) 51 rfl rfl rfl hrun (hK _ _ ⟨⟨hT2,hC2,?_⟩,?_⟩)
 ·intro e he;have he:=mem_listed he;rw [events_append_op (.tmp 22) (.tmp 25) 51 rfl rfl rfl] at he;have hcalm:∀wr sy (x:Addr),x.block=r.g→EvBy L L.send L.main (w1.setRow r.g ((List.range n).map (fun j=>r.f (j+1))++cur.toList.drop n).toArray) ⟨.cell x,wr,sy⟩:=fun wr sy x hx=>by
   obtain ⟨q,hq⟩:=ho.rw.calm.there;obtain ⟨q',g1,g2,_⟩:=hT2.at_ r.g q hq;refine ⟨YR _ _ _,fun z hz _=>?_⟩;have:z=⟨.cell x,wr,if sy then .atomic else .plain⟩:=by
    cases wr<;>cases sy<;>simp [MemAct.ofEvent,MemAct.touch?] at hz<;>exact hz.symm
   subst this;exact ⟨q',by rw [hx];exact g1,by rw [hx];exact fun hm=>ho.rw.calm.no q hq (L.tells_main r.g q' q (fun x=>(g2 x).symm) hm),fun _=>by rw [hx];exact L.tells_send r.g q q' g2 (ho.own q hq)⟩
  rcases events_append_where (P:=Tryz.prog) w1 0 51 _ 2 i _ 1 8 Tryz.underlying51 hi hz hsz hby (.slice (some ⟨r.g,0,none⟩) 0 r.m) 0 [] ⟨rfl,.inr ⟨r.g,r.m,cur,rfl,Nat.zero_le _,hg,Nat.zero_le _,hml,by rw [hcs,Nat.mul_one],by simp⟩⟩ ad n (r.m-1) ((List.range n).map fun j=>r.f (j+1)) (by simp) hnews hone (by simp only [maxLen];omega) (by omega) e he with ⟨x,h1,h2⟩|⟨q,rfl,hq⟩
  ·obtain ⟨loc,wr,sy⟩:=e;simp only at h1;subst h1;rcases h2 with ⟨_,h2⟩|h2
   ·exact hcalm _ _ x (h2.trans hadb)
   ·exact hcalm _ _ x (by simpa [Value.ownBlock] using h2)
  ·refine ⟨⟨fun h=>?_,fun h=>?_⟩,fun z hz=>?_⟩
   ·cases h;exact absurd hq (by simp [Neutral])
   ·cases h;exact absurd hq (by simp [Neutral])
   ·rw [show MemAct.ofEvent ⟨.mark q,false,true⟩=.mark q from rfl,hq.touch] at hz;cases hz
 clear hK K hrun hT2 hC2 hnews hone;replace hF:=hK2;clear hK2;try walk_nrm
 refine .opV L.terms1 rfl (by rfl) hk ?_;try walk_nrm
 repeat refine .c1 L.terms1 rfl ?_
 refine .regionL L.terms1 [0,1,2,3,4,5] (by rfl) ?_;iterate 4 (refine .opV L.terms1 rfl (by rfl) hk ?_;try walk_nrm)
 refine .op rfl (by rfl) hk fun w1 hR K hK=>?_;replace hF:=hF.rely hR;clear hR;go_simp;try (unfold stored;go_simp)
 refine hK _ _ ⟨?_,?_⟩
 ·rw [listed_nil (by simp [go_sem,Ygi Tryz.underlying51, *])];exact Terms.idle L.terms1 _
 clear hK K;try walk_nrm
 refine .op rfl (by rfl) hk fun w1 hR K hK=>?_;replace hF:=hF.rely hR;clear hR;have hc:World.cell? _ ⟨r.g,n,none⟩=some _:=hF.cell (r:={r with f:=fun j=>if j<n then r.f (j+1) else r.f j}) (YN hk0 _) (j:=n) (by show n<r.m;omega);have hz2:World.frozen? _ ⟨r.g,n,none⟩=false:=hF.frozen (YN hk0 {r with f:=fun j=>if j<n then r.f (j+1) else r.f j}) n;have hcl:=Yfm (c:=r.m-n) hc hz2 0;go_simp;try (unfold stored;go_simp)
 refine hK _ _ ⟨?_,?_⟩
 ·refine hF.does (YN hk0 {r with f:=fun j=>if j<n then r.f (j+1) else r.f j}) n _ ?_;(intro e he;have hm:=mem_listed he;simp [go_sem] at hm;exact Yg7 hc hz2 _ e hm)
 clear hK K;clear hc hz2 hcl;replace hF:=hF.set (r:={r with f:=fun j=>if j<n then r.f (j+1) else r.f j}) (YN hk0 _) n (.int .i64 0);try walk_nrm
 repeat refine .c1 L.terms1 rfl ?_
 refine .regionL L.terms1 [0,1] (by rfl) ?_;iterate 2 (refine .opV L.terms1 rfl (by rfl) hk ?_;try walk_nrm)
 repeat refine .c1 L.terms1 rfl ?_
 rw [List.set_set] at hF;have e:({r with f:=fun j=>if j<n then r.f (j+1) else r.f j}:Row).put n (.int .i64 0)={r with f:=fun j=>if j<n then r.f (j+1) else if j=n then .int .i64 0 else r.f j}:=by
  unfold Row.put;congr 1;funext j
  show upd _ n _ j=_;unfold upd;by_cases e1:j=n
  ·subst e1;simp
  ·rw [if_neg e1,if_neg e1]
 rw [e] at hF;refine Y1.ret L.terms1 fun todo=>?_;exact Ret _ todo _ _ rfl (Xj L.terms1 (by rfl) _) ⟨by rfl,hF⟩
theorem YgV {iq:Nat} (hq:rows[iq]?=some r) (i:Nat) (hm:i*3+3≤r.m) {a:Option Addr} {cc:Nat} (hv:r.f (i*3)=.slice a 0 cc) (w:World) (hF:Kn L w0 rows w):
  Yl Tryz.prog false L.R1 L.D1 141 #[.pointer (some ⟨r.g,i*3,none⟩)] w (fun v w'=>v=.tuple #[.int .i64 0,.int .i64 0]∧Kn L w0 rows w') (fun _ _=>False):=by
 have hk:(base 141).kind≠.early:=by simp [base]
 refine Yl.intro L.terms1 #[.pointer (some ⟨r.g,i*3,none⟩),undef,undef,undef,undef,undef,undef,undef,undef,undef,undef,undef,undef,undef,undef,undef,undef,undef,undef,undef,undef,undef,undef,undef,undef] Tryz.func141 rfl (by kernel_rfl) fun cl cs Stop Ret _=>?_;repeat refine .c1 L.terms1 rfl ?_
 refine .regionL L.terms1 [0,1] (by rfl) ?_;iterate 2 (refine .opV L.terms1 rfl (by rfl) hk ?_;try walk_nrm)
 repeat refine .c1 L.terms1 rfl ?_
 refine .regionL L.terms1 [0,1,2,3,4,5] (by rfl) ?_;iterate 3 (refine .opV L.terms1 rfl (by rfl) hk ?_;try walk_nrm)
 refine .op rfl (by rfl) hk fun w1 hR K hK=>?_;replace hF:=hF.rely hR;clear hR;have hc:World.cell? _ ⟨r.g,i*3,none⟩=some (.slice a 0 cc):=(hF.cell hq (j:=i*3) (by show _<r.m;omega)).trans (by rw [hv]);go_simp;try (unfold stored;go_simp)
 refine hK _ _ ⟨?_,?_⟩
 ·refine hF.looks hq ?_;co_evs (exact ⟨_,rfl⟩)
 clear hK K;clear hc;try walk_nrm
 iterate 2 (refine .opV L.terms1 rfl (by rfl) hk ?_;try walk_nrm)
 repeat refine .c1 L.terms1 rfl ?_
 refine Y1.condT L.terms1 (by first|rfl|simp [Act.eval]) ?_;repeat refine .c1 L.terms1 rfl ?_
 refine .regionL L.terms1 [0,1] (by rfl) ?_;iterate 2 (refine .opV L.terms1 rfl (by rfl) hk ?_;try walk_nrm)
 repeat refine .c1 L.terms1 rfl ?_
 refine Y1.ret L.terms1 fun todo=>?_;exact Ret _ todo _ _ rfl (YcF L.terms1 (by rfl) _) ⟨by rfl,hF⟩
theorem Yey {iq:Nat} {rk:Row} (hq:rows[iq]?=some r) (hk0:rows[k]?=some rk) (hne:k≠iq) (i:Nat) (hm:i*3+3≤r.m) (ht:rk.t=2) (n:Nat) (xs:Nat→Int) (hxs:∀j,j<n+1→rk.f j=.int .i64 (xs j)) (hn1:n+1≤rk.m) (hml:rk.m≤maxLen) (hn9:n≤1000000000) (hv:r.f (i*3)=.slice (some ⟨rk.g,0,none⟩) (n+1:Nat) rk.m) (w:World) (hF:Kn L w0 rows w):
  Yl Tryz.prog false L.R1 L.D1 141 #[.pointer (some ⟨r.g,i*3,none⟩)] w (fun v w'=>v=.tuple #[.int .i64 (xs 0),.int .i64 1]∧Kn L w0 ((rows.set k {rk with f:=fun j=>if j<n then rk.f (j+1) else if j=n then .int .i64 0 else rk.f j}).set iq (r.put (i*3) (.slice (some ⟨rk.g,0,none⟩) n rk.m))) w') (fun _ _=>False):=by
 have hi1:¬((n:Int)+1=0):=by omega
 have hi2:(0:Int)<(n:Int)+1:=by omega
 have hk:(base 141).kind≠.early:=by simp [base]
 refine Yl.intro L.terms1 #[.pointer (some ⟨r.g,i*3,none⟩),undef,undef,undef,undef,undef,undef,undef,undef,undef,undef,undef,undef,undef,undef,undef,undef,undef,undef,undef,undef,undef,undef,undef,undef] Tryz.func141 rfl (by kernel_rfl) fun cl cs Stop Ret _=>?_;repeat refine .c1 L.terms1 rfl ?_
 refine .regionL L.terms1 [0,1] (by rfl) ?_;iterate 2 (refine .opV L.terms1 rfl (by rfl) hk ?_;try walk_nrm)
 repeat refine .c1 L.terms1 rfl ?_
 refine .regionL L.terms1 [0,1,2,3,4,5] (by rfl) ?_;iterate 3 (refine .opV L.terms1 rfl (by rfl) hk ?_;try walk_nrm)
 refine .op rfl (by rfl) hk fun w1 hR K hK=>?_;replace hF:=hF.rely hR;clear hR;have hc:World.cell? _ ⟨r.g,i*3,none⟩=some (.slice (some ⟨rk.g,0,none⟩) (n+1:Nat) rk.m):=(hF.cell hq (j:=i*3) (by show _<r.m;omega)).trans (by rw [hv]);go_simp;try (unfold stored;go_simp)
 refine hK _ _ ⟨?_,?_⟩
 ·refine hF.looks hq ?_;co_evs (exact ⟨_,rfl⟩)
 clear hK K;clear hc;try walk_nrm
 iterate 2 (refine .opV L.terms1 rfl (by rfl) hk ?_;try walk_nrm)
 repeat refine .c1 L.terms1 rfl ?_
 refine Y1.condF L.terms1 (by first|rfl|simp [Act.eval]) ?_;repeat refine .c1 L.terms1 rfl ?_
 refine .regionL L.terms1 [0,1,2,3,4,5,6] (by rfl) ?_;iterate 3 (refine .opV L.terms1 rfl (by rfl) hk ?_;try walk_nrm)
 refine .op rfl (by rfl) hk fun w1 hR K hK=>?_;replace hF:=hF.rely hR;clear hR;have hc:World.cell? _ ⟨r.g,i*3,none⟩=some (.slice (some ⟨rk.g,0,none⟩) (n+1:Nat) rk.m):=(hF.cell hq (j:=i*3) (by show _<r.m;omega)).trans (by rw [hv]);go_simp;try (unfold stored;go_simp)
 refine hK _ _ ⟨?_,?_⟩
 ·refine hF.looks hq ?_;co_evs (exact ⟨_,rfl⟩)
 clear hK K;clear hc;try walk_nrm
 refine .op rfl (by rfl) hk fun w1 hR K hK=>?_;replace hF:=hF.rely hR;clear hR;go_simp;try (unfold stored;go_simp)
 refine hK _ _ ⟨?_,?_⟩
 ·co_still L.terms1
 clear hK K;try walk_nrm
 refine .op rfl (by rfl) hk fun w1 hR K hK=>?_;replace hF:=hF.rely hR;clear hR;have hc:World.cell? _ ⟨rk.g,0,none⟩=some (.int .i64 (xs 0)):=(hF.cell hk0 (j:=0) (by show 0<rk.m;omega)).trans (by rw [hxs 0 (by omega)]);go_simp;try (unfold stored;go_simp)
 refine hK _ _ ⟨?_,?_⟩
 ·refine hF.looks hk0 ?_;co_evs (exact ⟨_,rfl⟩)
 clear hK K;clear hc;try walk_nrm
 refine .opV L.terms1 rfl (by rfl) hk ?_;try walk_nrm
 repeat refine .c1 L.terms1 rfl ?_
 refine .regionL L.terms1 [0,1,2,3,4,5,6,7,8] (by rfl) ?_;iterate 4 (refine .opV L.terms1 rfl (by rfl) hk ?_;try walk_nrm)
 refine .op rfl (by rfl) hk fun w1 hR K hK=>?_;replace hF:=hF.rely hR;clear hR;have hc:World.cell? _ ⟨r.g,i*3,none⟩=some (.slice (some ⟨rk.g,0,none⟩) (n+1:Nat) rk.m):=(hF.cell hq (j:=i*3) (by show _<r.m;omega)).trans (by rw [hv]);go_simp;try (unfold stored;go_simp)
 refine hK _ _ ⟨?_,?_⟩
 ·refine hF.looks hq ?_;co_evs (exact ⟨_,rfl⟩)
 clear hK K;clear hc;try walk_nrm
 refine Y1.callX L.terms1 rfl (by rfl) hk rfl Tryz.func145 (by rfl) rfl #[.slice (some ⟨rk.g,0,none⟩) (n+1:Nat) rk.m,.int .i64 0,.int .i64 1] (by kernel_rfl) (Yfw hk0 ht n xs hxs hn1 hml hn9 _ hF) ?_ (fun _ _ _ h=>h.elim);rintro v w2 ⟨rfl,hF2⟩;replace hF:=hF2;clear hF2;have hq2:=(ZZ (rows:=rows) (Ne.symm hne) {rk with f:=fun j=>if j<n then rk.f (j+1) else if j=n then .int .i64 0 else rk.f j}).trans hq;try walk_nrm
 iterate 2 (refine .opV L.terms1 rfl (by rfl) hk ?_;try walk_nrm)
 refine .op rfl (by rfl) hk fun w1 hR K hK=>?_;replace hF:=hF.rely hR;clear hR;have hz2:World.frozen? _ ⟨r.g,i*3,none⟩=false:=hF.frozen hq2 (i*3);have hc:World.cell? _ ⟨r.g,i*3,none⟩=some _:=hF.cell hq2 (j:=i*3) (by show _<r.m;omega);go_simp;try (unfold stored;go_simp)
 refine hK _ _ ⟨?_,?_⟩
 ·refine hF.does hq2 (i*3) _ ?_;(intro e he;have hm:=mem_listed he;simp [go_sem,YcG, *] at hm;subst hm;exact rfl)
 clear hK K;clear hz2 hc;replace hF:=hF.set hq2 (i*3) (.slice (some ⟨rk.g,0,none⟩) n rk.m);try walk_nrm
 repeat refine .c1 L.terms1 rfl ?_
 refine .regionL L.terms1 [0,1,2] (by rfl) ?_;iterate 3 (refine .opV L.terms1 rfl (by rfl) hk ?_;try walk_nrm)
 repeat refine .c1 L.terms1 rfl ?_
 refine Y1.ret L.terms1 fun todo=>?_;exact Ret _ todo _ _ rfl (YcF L.terms1 (by rfl) _) ⟨by rfl,hF⟩
end
noncomputable def exSw:List Item:=match Tryz.f129.body with
 |some (.seq _ (.seq _ (.seq _ c)))=>[.code c]
 |_=>[]
noncomputable def Ycm:Code:=Tryz.f129.body.getD .skip
section
variable {L:Lot} {w0:World} {rows:List Row} {g:Nat}
theorem Ycr (hev:((97:Nat)==L.ev)=false) (R A:Nat) (hR4:R<4) (hA4:A<4) (op N:Int) (inV:Value) (w:World) (hF:Kn L w0 rows w) {Stop:Goroutine→World→Prop} {cs:List Frame}
  (h:∀(B:Nat) (w1:World),KnL L w0 rows [Yt B op R A N] w1→Y1 Tryz.prog false L.R1 L.D1 Stop (G ((base 129).at {tmps:=List.toArray ((.pointer (some ⟨g,0,none⟩))::(.agg #[.int .i64 op,.int .i64 R,.int .i64 A,.int .i64 N])::(inV)::(undef)::(.pointer (some ⟨B,0,none⟩))::(undef)::(.pointer (some ⟨g,25+R,none⟩))::(.pointer (some ⟨g,25+A,none⟩))::(.pointer (some ⟨g,0,none⟩))::(.pointer (some ⟨B,1,none⟩))::(.int .i64 R)::(.pointer (some ⟨g,0,none⟩))::(.pointer (some ⟨g,25,none⟩))::(.pointer (some ⟨g,25,none⟩))::(.pointer (some ⟨g,25+R,none⟩))::(.pointer (some ⟨g,0,none⟩))::(.pointer (some ⟨B,2,none⟩))::(.int .i64 A)::(.pointer (some ⟨g,0,none⟩))::(.pointer (some ⟨g,25,none⟩))::(.pointer (some ⟨g,25,none⟩))::(.pointer (some ⟨g,25+A,none⟩))::(.pointer (some ⟨B,0,none⟩))::(.int .i64 op)::(undef)::(undef)::(undef)::(undef)::(undef)::(undef)::(undef)::(undef)::(undef)::(undef)::(undef)::(undef)::(undef)::(undef)::(undef)::(undef)::(undef)::(undef)::(undef)::(undef)::(undef)::(undef)::(undef)::(undef)::(undef)::(undef)::(undef)::(undef)::(undef)::(undef)::(undef)::(undef)::(undef)::(undef)::(undef)::(undef)::(undef)::(undef)::(undef)::(undef)::(undef)::(undef)::(undef)::(undef)::(undef)::(undef)::(undef)::(undef)::(undef)::(undef)::(undef)::(undef)::(undef)::(undef)::(undef)::(undef)::(undef)::(undef)::(undef)::(undef)::(undef)::(undef)::(undef)::(undef)::(undef)::(undef)::(undef)::(undef)::(undef)::(undef)::(undef)::(undef)::(undef)::(undef)::(undef)::(undef)::(undef)::(undef)::(undef)::(undef)::(undef)::(undef)::(undef)::(undef)::(undef)::[]),defers:=[]} exSw) cs) w1):
  Y1 Tryz.prog false L.R1 L.D1 Stop (G ((base 129).at {tmps:=List.toArray ((.pointer (some ⟨g,0,none⟩))::(.agg #[.int .i64 op,.int .i64 R,.int .i64 A,.int .i64 N])::inV::undef::undef::undef::undef::undef::undef::undef::undef::undef::undef::undef::undef::undef::undef::undef::undef::undef::undef::undef::undef::undef::undef::undef::undef::undef::undef::undef::undef::undef::undef::undef::undef::undef::undef::undef::undef::undef::undef::undef::undef::undef::undef::undef::undef::undef::undef::undef::undef::undef::undef::undef::undef::undef::undef::undef::undef::undef::undef::undef::undef::undef::undef::undef::undef::undef::undef::undef::undef::undef::undef::undef::undef::undef::undef::undef::undef::undef::undef::undef::undef::undef::undef::undef::undef::undef::undef::undef::undef::undef::undef::undef::undef::undef::undef::undef::undef::undef::undef::undef::undef::undef::undef::undef::undef::undef::undef::[]),defers:=[]} [.code Ycm]) cs) w:=by
 replace hF:=hF.lay;have hk:(base 129).kind≠.early:=by simp [base]
 repeat refine .c1 L.terms1 rfl ?_
 refine .regionL L.terms1 [0] (by rfl) ?_;refine .op rfl (by rfl) hk fun w1 hR K hK=>?_;replace hF:=hF.rely hR;clear hR;go_simp;try (unfold stored;go_simp)
 refine hK _ _ ⟨?_,?_⟩
 ·refine hF.doesAlloc _ ?_;(intro e he;have hm:=mem_listed he;simp [go_sem, *] at hm)
 clear hK K;replace hF:KnL L w0 rows [Yt w1.heap.size op R A N] _:=hF.newIns hev op R A N;generalize hB:w1.heap.size=B at *;generalize hW:(w1.alloc (.cells #[.int .i64 op,.int .i64 R,.int .i64 A,.int .i64 N] 97))=w3 at *;clear hW hB w1;try walk_nrm
 repeat refine .c1 L.terms1 rfl ?_
 have hRi:(R:Int)<4:=by omega
 have hAi:(A:Int)<4:=by omega
 refine Y1.drawnN (S:=KnL L w0 rows [Yt B op R A N]) (Die:=fun _ _=>False) L.terms1 L.draws1 16 (by rfl) hk (by kernel_rfl) (fun _ _ _ h=>h) (fun _ _ _ h=>h.elim) fun w1 hR=>?_;replace hF:=(hF.rely hR).rely (Turn.drew _);clear hR;refine Y4 L.terms1 0 (fun _ _ h r=>KnL.rely h r) hF ?_;try walk_nrm
 refine Y4 L.terms1 1 (fun _ _ h r=>KnL.rely h r) hF ?_;try walk_nrm
 refine Ye L.terms1 2 rfl (fun _ _ h r=>KnL.rely h r) hF ?_ fun _ hw=>⟨run_eq_of (by
  intro K hK;obtain ⟨a0,a1,a2,a3⟩:=hw.lins (k:=0) rfl;go_simp;exact hK),by
  obtain ⟨a0,a1,a2,a3⟩:=hw.lins (k:=0) rfl;refine hw.llooks (k:=0) rfl ?_;co_evs (exact ⟨_,rfl⟩)⟩
 try walk_nrm
 refine Y4 L.terms1 3 (fun _ _ h r=>KnL.rely h r) hF ?_;try walk_nrm
 refine Y4 L.terms1 4 (fun _ _ h r=>KnL.rely h r) hF ?_;try walk_nrm
 refine Y4 L.terms1 5 (fun _ _ h r=>KnL.rely h r) hF ?_;try walk_nrm
 refine Ye L.terms1 6 rfl (fun _ _ h r=>KnL.rely h r) hF ?_ fun _ hw=>⟨run_eq_of (by
  intro K hK;go_simp;exact hK),by
  rw [listed_nil (by simp [go_sem,events_indexAt_array (P:=Tryz.prog) 37 2 4 ⟨g,25,none⟩ .i64 (R:Int) Tryz.underlying37 ⟨by omega,by omega⟩])];exact Terms.idle L.terms1 _⟩
 try walk_nrm
 refine Y4 L.terms1 7 (fun _ _ h r=>KnL.rely h r) hF ?_;try walk_nrm
 refine Y4 L.terms1 8 (fun _ _ h r=>KnL.rely h r) hF ?_;try walk_nrm
 refine Ye L.terms1 9 rfl (fun _ _ h r=>KnL.rely h r) hF ?_ fun _ hw=>⟨run_eq_of (by
  intro K hK;obtain ⟨a0,a1,a2,a3⟩:=hw.lins (k:=0) rfl;go_simp;exact hK),by
  obtain ⟨a0,a1,a2,a3⟩:=hw.lins (k:=0) rfl;refine hw.llooks (k:=0) rfl ?_;co_evs (exact ⟨_,rfl⟩)⟩
 try walk_nrm
 refine Y4 L.terms1 10 (fun _ _ h r=>KnL.rely h r) hF ?_;try walk_nrm
 refine Y4 L.terms1 11 (fun _ _ h r=>KnL.rely h r) hF ?_;try walk_nrm
 refine Y4 L.terms1 12 (fun _ _ h r=>KnL.rely h r) hF ?_;try walk_nrm
 refine Ye L.terms1 13 rfl (fun _ _ h r=>KnL.rely h r) hF ?_ fun _ hw=>⟨run_eq_of (by
  intro K hK;go_simp;exact hK),by
  rw [listed_nil (by simp [go_sem,events_indexAt_array (P:=Tryz.prog) 37 2 4 ⟨g,25,none⟩ .i64 (A:Int) Tryz.underlying37 ⟨by omega,by omega⟩])];exact Terms.idle L.terms1 _⟩
 try walk_nrm
 refine Y4 L.terms1 14 (fun _ _ h r=>KnL.rely h r) hF ?_;try walk_nrm
 refine Y4 L.terms1 15 (fun _ _ h r=>KnL.rely h r) hF ?_;try walk_nrm
 refine Xi (by first|kernel_rfl|decide +kernel) ?_ _;repeat refine .c1 L.terms1 rfl ?_
 refine .regionL L.terms1 [0,1] (by rfl) ?_;refine .opV L.terms1 rfl (by rfl) hk ?_;try walk_nrm
 refine .op rfl (by rfl) hk fun w1 hR K hK=>?_;replace hF:=hF.rely hR;clear hR;obtain ⟨a0,a1,a2,a3⟩:=hF.lins (k:=0) rfl;go_simp;try (unfold stored;go_simp)
 refine hK _ _ ⟨?_,?_⟩
 ·refine hF.llooks (k:=0) rfl ?_;co_evs (exact ⟨_,rfl⟩)
 clear hK K;clear a0 a1 a2 a3;try walk_nrm
 refine .regionEnd L.terms1 ?_;exact h B _ hF
end
end Go.Proofs.YtdoghgnifkgfdaaGreat.Mute
