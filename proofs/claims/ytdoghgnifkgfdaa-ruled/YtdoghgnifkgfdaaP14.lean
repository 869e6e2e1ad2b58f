import Derived.Deep.RegionHeld3
import Derived.Deep.MidRow
import Derived.Test.YtdoghgnifkgfdaaP09
import Derived.Test.YtdoghgnifkgfdaaP12
import Derived.Test.YtdoghgnifkgfdaaP13
set_option maxRecDepth 100000
set_option maxHeartbeats 16000000
namespace Go.Proofs.Ytdoghgnifkgfdaa
open Go.RowKit
structure But (S:Nat→Prop) (w w':World):Prop where
 os:w'.os=w.os
 tape:w'.tape=w.tape
 output:w'.output=w.output
 size:w.heap.size≤w'.heap.size
 block:∀k,k<w.heap.size→¬S k→w'.heap[k]?=w.heap[k]?
def SC (c:Cfg) (cb:Nat→Nat) (k j:Nat):Prop:=∃i,i<k∧((c.codeN i=false∧j=cb i)∨(c.imgN i=false∧j=cb i+1))
def SR (c:Cfg) (cb rb:Nat→Nat) (k j:Nat):Prop:=SC c cb c.nC j∨∃i,i<k∧j=rb i
theorem step_call_go1 {P:Program} {ops:Array Oper} {o:Oper} {a:Act} {w:World} {K:Act→World→Prop} {Q:Exit→Act→World→Prop} {E:Prop} (hgd:o.guard=none) (f:FuncId) (s:Operand) (t:TypeId)
  (ho:o.op=.call {callee:=.value (.func f),args:=#[s],argTypes:=#[t]}) (v:Value) (hv:a.eval s=v)
  (fn : Func) (hf : P.funcs[f]? = some fn) (hn : (fn.name == "runtime.NumGoroutine") = false) (hb : fn.body.isNone = false) (R : Value → World → Prop)
  (h:Calls P f #[v] w (fun e w'=>∃r,e=.returned r∧R r w')) (hk:∀r w',R r w'→K (a.put o.dst r) w'):
  if Region.wanted o (yielded ops a.tmps)=true then Oper.wp P o a w K Q else E:=by
 have hw:Region.wanted o (yielded ops a.tmps)=true:=by simp [Region.wanted,hgd]
 rw [if_pos hw];unfold Oper.wp;have hr:(execOp a.eval o).run P w=.ok (.enter f #[v]) w:=by
  have e:a.eval (.func f)=.func (.func f) #[] #[]:=rfl;have hn' : ¬ fn.name = "runtime.NumGoroutine" := by simpa using hn
  have hb':¬fn.body=none:=by intro e;rw [e] at hb;cases hb
  simp [execOp,ho,resolve,invoke,hv,e,Deferred.ofValue,callFunc,hf,hn',hb']
 rw [hr];refine h.mono ?_;rintro e w' ⟨r,rfl,hR⟩;exact hk r w' hR
theorem run_copy_at {P:Program} (w:World) (dT sT ty elem:TypeId) (size g o dLen dCap:Nat) (sp:Option Addr) (sLen sCap:Nat) (m t:Nat) (f f':Nat→Value)
  (hu:P.underlying dT=some (.slice elem)) (hs:(P.info? elem).map (·.size)=some size) (hle:sLen≤dLen) (hrow:RowF w g m t f) (hm:o+dLen*size≤m)
  (hsrc:Sl w sp (sLen*size) f') (h1:∀j,j<sLen*size→(f' j).oneCell'=true) (hnil:sp=none→sLen=0):
  ∃w',(Builtin.copy_ #[dT,sT] ty #[.slice (some ⟨g,o,none⟩) dLen dCap,.slice sp sLen sCap]).run P w=.ok (goInt sLen) w'∧
   RowF w' g m t (fun j=>if o≤j∧j<o+sLen*size then f' (j-o) else f j)∧w.grownBy w' (some g)∧w'.heap.size=w.heap.size:=by
 have hmin:Nat.min sLen dLen=sLen:=Nat.min_eq_left hle;cases hq:P.info? elem with
 |none=>simp [hq] at hs
 |some i=>
  have hi:i.size=size:=by simpa [hq] using hs
  rcases hsrc with hm0|⟨b,off,rfl,hc⟩
  ·refine ⟨w,?_,hrow.congr (fun j _=>by rw [hm0,if_neg];omega),World.grownBy.refl _ _,rfl⟩;cases sp with
   |none=>
    have h0:=hnil rfl;subst h0;simp [Builtin.copy_,run_underlying hu,Builtin.lenOf,Builtin.firstCells,sizeOf,typeInfo,hq,storeCells]
   |some q=>
    have hl:(loadCells q 0).run P w=.ok #[] w:=by
     have:=run_loadCells_list (P:=P) w q [] (fun j v hv=>by simp at hv);simpa using this
    simp [Builtin.copy_,run_underlying hu,Builtin.lenOf,Builtin.firstCells,sizeOf,typeInfo,hq,hi,hmin,hm0,hl,storeCells]
  ·obtain ⟨cs,hg,hcs,hf⟩:=hrow;have hl:(loadCells ⟨b,off,none⟩ (sLen*size)).run P w=.ok ((List.range (sLen*size)).map f').toArray w:=by
    have:=run_loadCells_list (P:=P) w ⟨b,off,none⟩ ((List.range (sLen*size)).map f') (fun j v hv=>by
     rw [Addr.add_lit];have hj:j<sLen*size:=by have:=(List.getElem?_eq_some_iff.1 hv).1;simpa using this
     rw [hc j hj];rw [←hv];simp [hj])
    simpa using this
   have hle2:sLen*size≤dLen*size:=Nat.mul_le_mul_right _ hle;have hst:=run_storeCells_at P g o t ((List.range (sLen*size)).map f') 0 cs w hg (by simp [hcs];omega) (fun v hv=>by
    obtain ⟨j,hj,rfl⟩:=List.mem_map.1 hv;exact h1 j (by simpa using hj))
   have hst':(storeCells ⟨g,o,none⟩ ((List.range (sLen*size)).map f')).run P w=.ok () (w.setRow g (cs.toList.take o++((List.range (sLen*size)).map f'++cs.toList.drop (o+sLen*size))).toArray):=by
    simpa using hst
   refine ⟨w.setRow g (cs.toList.take o++((List.range (sLen*size)).map f'++cs.toList.drop (o+sLen*size))).toArray,?_,⟨(cs.toList.take o++((List.range (sLen*size)).map f'++cs.toList.drop (o+sLen*size))).toArray,setRow_heap w g cs _ t _ hg,?_,?_⟩,⟨rfl,rfl,rfl,by simp,fun k _ hk=>setRow_other w g k _ (fun e=>hk (by simp [e]))⟩,by simp⟩
   ·simp [Builtin.copy_,run_underlying hu,Builtin.lenOf,Builtin.firstCells,sizeOf,typeInfo,hq,hi,hmin,hl,hst']
   ·simp [hcs];omega
   ·intro j hj;show _=some (if o≤j∧j<o+sLen*size then f' (j-o) else f j);have ho:(cs.toList.take o).length=o:=by simp [hcs];omega
    by_cases h2:j<o
    ·rw [if_neg (by omega),←hf j hj];simp only [List.getElem?_toArray];rw [List.getElem?_append_left (by omega),List.getElem?_take_of_lt h2];simp
    ·by_cases hlt:j<o+sLen*size
     ·rw [if_pos ⟨by omega,hlt⟩];simp only [List.getElem?_toArray];rw [List.getElem?_append_right (by omega),List.getElem?_append_left (by simp only [List.length_map,List.length_range];omega),ho];have h3:j-o<sLen*size:=by omega
      simp [h3]
     ·rw [if_neg (by omega),←hf j hj];simp only [List.getElem?_toArray];rw [List.getElem?_append_right (by omega),List.getElem?_append_right (by simp only [List.length_map,List.length_range];omega),ho];simp only [List.length_map,List.length_range,List.getElem?_drop];rw [show o+sLen*size+(j-o-sLen*size)=j by omega];simp
theorem step_copy_at {P:Program} {w:World} {ops:Array Oper} {o:Oper} {a:Act} {K:Act→World→Prop} {Q:Exit→Act→World→Prop} {E:Prop} (hgd:o.guard=none) (d s:Operand) (dT sT:TypeId)
  (ho:o.op=.call {callee:=.builtin .copy,args:=#[d,s],argTypes:=#[dT,sT]}) (elem:TypeId) (zv:Value) (size bytes:Nat) (hu:P.underlying dT=some (.slice elem)) (hinfo:(P.info? elem).map (fun i=>(i.zero,i.size,i.bytes))=some (some zv,size,bytes))
  (g off dLen dCap:Nat) (sp:Option Addr) (sLen sCap:Nat) (hd:a.eval d=.slice (some ⟨g,off,none⟩) dLen dCap) (hs:a.eval s=.slice sp sLen sCap)
  (m t:Nat) (f f':Nat→Value) (hle:sLen≤dLen) (hrow:RowF w g m t f) (hm:off+dLen*size≤m)
  (hsrc:Sl w sp (sLen*size) f') (h1:∀j,j<sLen*size→(f' j).oneCell'=true) (hnil:sp=none→sLen=0)
  (h:∀w',RowF w' g m t (fun j=>if off≤j∧j<off+sLen*size then f' (j-off) else f j)→w.grownBy w' (some g)→w'.heap.size=w.heap.size→K (a.put o.dst (goInt sLen)) w'):
  if Region.wanted o (yielded ops a.tmps)=true then Oper.wp P o a w K Q else E:=by
 have hw:Region.wanted o (yielded ops a.tmps)=true:=by simp [Region.wanted,hgd]
 rw [if_pos hw];have hsz:(P.info? elem).map (·.size)=some size:=by
  obtain ⟨i,h2,_,h4,_⟩:=info_parts hinfo;simp [h2,h4]
 obtain ⟨w',hrun,r1,r2,r3⟩:=run_copy_at (P:=P) w dT sT o.type elem size g off dLen dCap sp sLen sCap m t f f' hu hsz hle hrow hm hsrc h1 hnil;unfold Oper.wp;simp [execOp,ho,resolve,invoke,builtin,hd,hs,hrun,Result.andThen];exact h w' r1 r2 r3
def cellV (num:Int) (net code:Value) (z:Nat→Int) (j:Nat):Value:=if j=0 then .int .i64 num else if j=1 then net else if j=2 then code else .int .i64 (z j)
def newZ (lim:Int) (m:Nat) (img:Nat→Int) (j:Nat):Int:=if j=3 then lim else if 8≤j∧j<8+m then img (j-8) else if 29≤j∧j<29+m then img (j-29) else 0
theorem row48 (w:World) (t:Nat) (a b c d:Value):RowF (w.alloc (.cells (List.toArray (a::b::c::d::.int .i64 0::.int .i64 0::.int .i64 0::.int .i64 0::.int .i64 0::.int .i64 0::.int .i64 0::.int .i64 0::.int .i64 0::.int .i64 0::.int .i64 0::.int .i64 0::.int .i64 0::.int .i64 0::.int .i64 0::.int .i64 0::.int .i64 0::.int .i64 0::.int .i64 0::.int .i64 0::.int .i64 0::.int .i64 0::.int .i64 0::.int .i64 0::.int .i64 0::.int .i64 0::.int .i64 0::.int .i64 0::.int .i64 0::.int .i64 0::.int .i64 0::.int .i64 0::.int .i64 0::.int .i64 0::.int .i64 0::.int .i64 0::.int .i64 0::.int .i64 0::.int .i64 0::.int .i64 0::.int .i64 0::.int .i64 0::.int .i64 0::.int .i64 0::[])) t)) w.heap.size 48 t (fun j=>if j=0 then a else if j=1 then b else if j=2 then c else if j=3 then d else .int .i64 0):=by
 refine RowF.new w _ t _ (fun j hj=>?_);have e:((List.toArray (a::b::c::d::.int .i64 0::.int .i64 0::.int .i64 0::.int .i64 0::.int .i64 0::.int .i64 0::.int .i64 0::.int .i64 0::.int .i64 0::.int .i64 0::.int .i64 0::.int .i64 0::.int .i64 0::.int .i64 0::.int .i64 0::.int .i64 0::.int .i64 0::.int .i64 0::.int .i64 0::.int .i64 0::.int .i64 0::.int .i64 0::.int .i64 0::.int .i64 0::.int .i64 0::.int .i64 0::.int .i64 0::.int .i64 0::.int .i64 0::.int .i64 0::.int .i64 0::.int .i64 0::.int .i64 0::.int .i64 0::.int .i64 0::.int .i64 0::.int .i64 0::.int .i64 0::.int .i64 0::.int .i64 0::.int .i64 0::.int .i64 0::.int .i64 0::.int .i64 0::[])):Array Value)=([a,b,c,d]++List.replicate 44 (Value.int .i64 0)).toArray:=rfl;rw [e] at hj ⊢;rcases j with _|_|_|_|j
 ·rfl
 ·rfl
 ·rfl
 ·rfl
 ·simp only [List.size_toArray,List.length_append,List.length_cons,List.length_nil,List.length_replicate] at hj;show ([a,b,c,d]++List.replicate 44 (Value.int .i64 0)).toArray[j+1+1+1+1]?=some (.int .i64 0);rw [List.getElem?_toArray,List.getElem?_append_right (by simp),List.getElem?_replicate,if_pos (by simp only [List.length_cons,List.length_nil];omega)]
theorem size_state:(Try.prog.info? 161).map (·.size)=some 21:=by kernel_rfl
theorem row48_range {w:World} {g t:Nat} {a b c:Value} {G:Nat→Int} (h:RowF w g 48 t (fun j=>if j=0 then a else if j=1 then b else if j=2 then c else .int .i64 (G j))):w.rangeAt g 4 ((List.range 21).map (fun j=>.int .i64 (G (4+j)))):=fun j v hv=>by
 rw [List.getElem?_map] at hv;obtain ⟨y,hy,rfl⟩:=Option.map_eq_some_iff.1 hv;have hj:j<21:=by
  have:=(List.getElem?_eq_some_iff.1 hy).1;simpa using this
 rw [List.getElem?_range hj] at hy;cases hy;have:=h.cell (j:=4+j) (by omega);rw [this,if_neg (by omega),if_neg (by omega),if_neg (by omega)]
theorem row48_there {w:World} {g t:Nat} {f:Nat→Value} {L:List Value} (h:RowF w g 48 t f) (hL:L.length=21):w.there g 25 L.toArray.size:=fun j hj=>by
 have hj':j<21:=by rw [List.size_toArray,hL] at hj;exact hj
 rw [h.cell (j:=25+j) (by omega)];exact ⟨rfl,h.frozen _⟩
theorem below_setCells {B:Nat} {w0 w:World} {b:Nat} (h:Below B w0 w) (hb:B≤b):∀(o:Nat) (vs:List Value),Below B w0 (w.setCells b o vs):=by
 intro o vs;induction vs generalizing o w with
 |nil=>exact h
 |cons v vs ih=>exact ih (h.setCell hb _) _
theorem RowF.setCells {w:World} {g m t:Nat} {f:Nat→Value} (h:RowF w g m t f):∀(vs:List Value) (o:Nat),RowF (w.setCells g o vs) g m t (fun j=>if o≤j∧j<o+vs.length then vs.getD (j-o) undef else f j):=by
 intro vs;induction vs generalizing w f with
 |nil=>exact fun o=>h.congr fun j _=>by rw [if_neg (by simp)]
 |cons v vs ih=>
  intro o;refine (ih (h.set o v) (o+1)).congr fun j _=>?_;simp only [List.length_cons];by_cases h1:o+1≤j∧j<o+1+vs.length
  ·rw [if_pos h1,if_pos (by omega),show j-o=(j-(o+1))+1 by omega];rfl
  ·rw [if_neg h1];by_cases h2:j=o
   ·subst h2;rw [if_pos rfl,if_pos (by omega),Nat.sub_self];rfl
   ·rw [if_neg h2,if_neg (by omega)]
theorem nameCloneIns : (Try.f63.name == "runtime.NumGoroutine") = false := by kernel_rfl
theorem bodyCloneIns:Try.f63.body.isNone=false:=by kernel_rfl
def endsL (z:Nat→Int):Nat→List Value
 |0=>[]
 |k+1=>endsL z k++[.int .i64 (z (k*3+1)),.int .i64 (z (k*3+2))]
def queuesL:Nat→List Value
 |0=>[]
 |k+1=>queuesL k++[.slice none 0 0,.slice none 0 0,.int .i64 0]
def samplesL:Nat→List Value
 |0=>[]
 |k+1=>samplesL k++[.int .i64 0,.int .i64 (-1),.int .i64 0,.bool false]
def NetMade (w:World) (K:Nat) (z:Nat→Int) (k:Nat) (wr:World):Prop:=
 ∃ve vq vs,Below w.heap.size w wr∧RowF wr K 3 148 (cells3 ve vq vs)∧wr.ownsRow (K+1) 158 2 ve k (endsL z k)∧
  wr.ownsRow (K+1) 150 3 vq k (queuesL k)∧wr.ownsRow (K+1) 152 4 vs k (samplesL k)
theorem info_ends:(Try.prog.info? 158).map (fun i=>(i.zero,i.size,i.bytes))=some (some (.agg #[.int .i64 0,.int .i64 0]),2,16):=by kernel_rfl
theorem info_queue:(Try.prog.info? 150).map (fun i=>(i.zero,i.size,i.bytes))=some (some (.agg #[.slice none 0 0,.slice none 0 0,.int .i64 0]),3,56):=by kernel_rfl
theorem info_sample:(Try.prog.info? 152).map (fun i=>(i.zero,i.size,i.bytes))=some (some (.agg #[.int .i64 0,.int .i64 0,.int .i64 0,.bool false]),4,32):=by kernel_rfl
theorem own_apart {w:World} {b1 b2 e1 e2 s1 s2 n1 n2:Nat} {v1 v2:Value} {x1 x2:List Value} (h1:w.ownsRow b1 e1 s1 v1 n1 x1) (h2:w.ownsRow b2 e2 s2 v2 n2 x2) (he:e1≠e2):v1.ownBlock=none∨v1.ownBlock≠v2.ownBlock:=by
 rcases h1.2 with ⟨rfl,_⟩|⟨g,cap,cur,rfl,hb,hg,_⟩
 ·exact .inl rfl
 ·rcases h2.2 with ⟨rfl,_⟩|⟨g',cap',cur',rfl,hb',hg',_⟩
  ·exact .inr (by simp [Value.ownBlock])
  ·refine .inr fun e=>?_;have:g=g':=by simpa [Value.ownBlock] using e
   subst this;rw [hg] at hg';exact he (by cases hg';rfl)
theorem net_step {w wr wA wg:World} {K i:Nat} {v x:Value} {b e s n:Nat} {xs:List Value} (hK:w.heap.size≤K) (hb:Below w.heap.size w wr) (hA:Below wr.heap.size wr wA) (ho:wr.ownsRow (K+1) e s v n xs) (hg:wA.grownBy wg v.ownBlock):
  Below w.heap.size w (wg.setCell ⟨K,i,none⟩ x)∧(∀u e' s' n' ys,e'≠e→wr.ownsRow (K+1) e' s' u n' ys→(wg.setCell ⟨K,i,none⟩ x).ownsRow (K+1) e' s' u n' ys)∧(∀m t f,RowF wr K m t f→RowF wg K m t f)∧(b<K→∀m t f,RowF wr b m t f→RowF (wg.setCell ⟨K,i,none⟩ x) b m t f):=by
 have hl:∀j,j<K+1→some j≠v.ownBlock:=fun j hj=>own_ge ho hj;have hbl:∀j,j<wr.heap.size→j<K+1→wg.heap[j]?=wr.heap[j]?:=fun j hj hj'=>(hg.block j (Nat.lt_of_lt_of_le hj hA.size) (hl j hj')).trans (hA.block j hj);refine ⟨Below.setCell ⟨hg.os.trans (hA.os.trans hb.os),hg.tape.trans (hA.tape.trans hb.tape),hg.output.trans (hA.output.trans hb.output),Nat.le_trans hb.size (Nat.le_trans hA.size hg.size),fun j hj=>(hbl j (Nat.lt_of_lt_of_le hj hb.size) (by omega)).trans (hb.block j hj)⟩ hK _,fun u e' s' n' ys he hu=>?_,fun m t f hr=>hr.of_heap (hbl K hr.lt (by omega)),fun hbK m t f hr=>(hr.of_heap (hbl b hr.lt (by omega))).other _ _ (by simp;omega)⟩;exact ownsRow_setCell_below ((own_below hu hA).kept hg (own_apart (own_below hu hA) (own_below ho hA) he)) (by simp) _
theorem chansNew_any (p:Option Addr) (n cap:Nat) (z:Nat→Int) (w:World) (hs:Sl w p (n*3) (fun j=>.int .i64 (z j))) (hn:n≤8):
  Calls Try.prog 42 #[.slice p n cap] w fun e w'=>∃kb,e=.returned (.pointer (some ⟨kb,0,none⟩))∧w.heap.size≤kb∧NetMade w kb z n w':=by
 have S0:Hid (Sl w p (n*3) (fun j=>.int .i64 (z j))):=hs;clear hs
 go_enter Try.func42,Try.ntmps42
 go_wp2_with fail
 have N0:Hid (NetMade w w.heap.size z 0 (w.alloc (.cells #[.slice none 0 0,.slice none 0 0,.slice none 0 0] 148))):=
  ⟨_,_,_,(Below.refl _ _).alloc (Nat.le_refl _) _,row3 w _ _ _ _,World.ownsRow_nil _ _ _ _,World.ownsRow_nil _ _ _ _,World.ownsRow_nil _ _ _ _⟩
 generalize (w.alloc (.cells #[.slice none 0 0,.slice none 0 0,.slice none 0 0] 148))=w0 at *;have hK:w.heap.size≤w.heap.size:=Nat.le_refl _;have S1:Hid (Sl w p (n*3) (fun j=>.int .i64 (z j))):=S0.out;clear S0;have HW:Hid (∀wr,Below w.heap.size w wr→Sl wr p (n*3) (fun j=>.int .i64 (z j))):=fun wr h=>S1.out.below h;generalize hKd:w.heap.size=K at *;go_loopw [10] (fun i wr=>∃k:Nat,k≤n∧i=.int .i64 k∧Hid (NetMade w K z k wr)) (fun i _=>n-(intOf i).toNat)
 case atStart=>exact ⟨0,Nat.zero_le _,rfl,N0⟩
 case round=>
  obtain ⟨k,hk,rfl,HR⟩:=hrel;obtain ⟨ve,vq,vs,hbr,hrow,ho1,ho2,ho3⟩:=HR.out;have HBr:Hid (Below K w wr):=hKd▸hbr;have HRo:Hid (RowF wr K 3 148 (cells3 ve vq vs)):=hrow;have O1:Hid (wr.ownsRow (K+1) 158 2 ve k (endsL z k)):=ho1;have O2:Hid (wr.ownsRow (K+1) 150 3 vq k (queuesL k)):=ho2;have O3:Hid (wr.ownsRow (K+1) 152 4 vs k (samplesL k)):=ho3;clear hbr hrow ho1 ho2 ho3 HR;by_cases hlt:k<n
  ·obtain ⟨b,off,rfl,hc⟩:=(HW.out wr (hKd▸HBr.out)).at (by omega);have c0:=hc (k*3) (by omega);have c1:=hc (k*3+1) (by omega);have c2:=hc (k*3+2) (by omega);rw [←Nat.add_assoc] at c1 c2;clear hc;have hKr:K<wr.heap.size:=HRo.out.lt;obtain ⟨z0,z1,z2⟩:=HRo.out.at3;go_wp2_with fail
   have HBp:Hid (Below wr.heap.size wr (wr.alloc (.cells #[.int .i64 (z (k*3)),.int .i64 (z (k*3+1)),.int .i64 (z (k*3+2))] 75))):=(Below.refl _ _).alloc (Nat.le_refl _) _;have hsp:(wr.alloc (.cells #[.int .i64 (z (k*3)),.int .i64 (z (k*3+1)),.int .i64 (z (k*3+2))] 75)).heap.size=wr.heap.size+1:=by simp
   obtain ⟨e0,e1,e2⟩:=(row3 wr (.int .i64 (z (k*3))) (.int .i64 (z (k*3+1))) (.int .i64 (z (k*3+2))) 75).at3;have eK:=(HBp.out.cell (p:=⟨K,0,none⟩) hKr).trans z0;generalize (wr.alloc (.cells #[.int .i64 (z (k*3)),.int .i64 (z (k*3+1)),.int .i64 (z (k*3+2))] 75))=wp at *;have hKp:K<wp.heap.size:=by omega
   have eKa:(wp.alloc (.cells #[.int .i64 (z (k*3+1)),.int .i64 (z (k*3+2))] 158)).cell? ⟨K,0,none⟩=some ve:=(((Below.refl _ wp).alloc (Nat.le_refl _) _).cell (p:=⟨K,0,none⟩) hKp).trans eK
   go_region_law
    (refine step_append_info rfl _ _ 144 rfl (K+1) 158 _ 2 16 Try.underlying144 info_ends rfl (by omega) ve k (endsL z k) rfl (own_below O1.out (by exact (HBp.out.drew.alloc (by show wr.heap.size≤wp.heap.size;omega) _))) (wr.heap.size+1) [.int .i64 (z (k*3+1)),.int .i64 (z (k*3+2))] 158 rfl rfl (by exact alloc_at hsp) (by simp [Value.oneCell']) (by simp only [maxLen];omega) (by omega) (by simp;omega) ?_
     intro g cap1 wg hown1 hgrow1 hat hlt1;have HS:Hid _:=net_step (w:=w) (wr:=wr) (K:=K) (i:=0) (x:=.slice (some ⟨g,0,none⟩) (k+1:Nat) cap1) (b:=0) (by omega) (hKd▸HBr.out) (by exact (HBp.out.drew.alloc (by show wr.heap.size≤wp.heap.size;omega) _)) O1.out hgrow1;have HR1:Hid (RowF wg K 3 148 (cells3 ve vq vs)):=HS.out.2.2.1 _ _ _ HRo.out;have HO1:Hid (wg.ownsRow (K+1) 158 2 (.slice (some ⟨g,0,none⟩) (k+1:Nat) cap1) (k+1) (endsL z k++[.int .i64 (z (k*3+1)),.int .i64 (z (k*3+2))])):=hown1;have q0:=HR1.out.at3.1;have q0f:=HR1.out.frozen 0;clear hown1 hgrow1 hat hlt1 eK eKa)
   all_goals
    have B3:Hid (Below K w (wg.setCell ⟨K,0,none⟩ (.slice (some ⟨g,0,none⟩) (k+1:Nat) cap1))):=hKd▸HS.out.1;have R3:Hid (RowF (wg.setCell ⟨K,0,none⟩ (.slice (some ⟨g,0,none⟩) (k+1:Nat) cap1)) K 3 148 (cells3 (.slice (some ⟨g,0,none⟩) (k+1:Nat) cap1) vq vs)):=(HR1.out.set3 _).1;have P1:Hid ((wg.setCell ⟨K,0,none⟩ (.slice (some ⟨g,0,none⟩) (k+1:Nat) cap1)).ownsRow (K+1) 158 2 (.slice (some ⟨g,0,none⟩) (k+1:Nat) cap1) (k+1) (endsL z (k+1))):=ownsRow_setCell_below HO1.out (by simp) _;have P2:Hid ((wg.setCell ⟨K,0,none⟩ (.slice (some ⟨g,0,none⟩) (k+1:Nat) cap1)).ownsRow (K+1) 150 3 vq k (queuesL k)):=HS.out.2.1 _ _ _ _ _ (by decide) O2.out;have P3:Hid ((wg.setCell ⟨K,0,none⟩ (.slice (some ⟨g,0,none⟩) (k+1:Nat) cap1)).ownsRow (K+1) 152 4 vs k (samplesL k)):=HS.out.2.1 _ _ _ _ _ (by decide) O3.out;clear q0 q0f HS HR1 HO1 O1 O2 O3 HRo HBr z0 z1 z2 e0 e1 e2 HBp hsp c0 c1 c2 hKp hKr;generalize wg.setCell ⟨K,0,none⟩ (.slice (some ⟨g,0,none⟩) (k+1:Nat) cap1)=w3 at *;generalize (Value.slice (some ⟨g,0,none⟩) (k+1:Nat) cap1)=ve at *;clear wg;obtain ⟨z0,z1,z2⟩:=R3.out.at3;have hK3:K<w3.heap.size:=R3.out.lt;have A3:Hid (Below w3.heap.size w3 (w3.alloc (.cells #[.slice none 0 0,.slice none 0 0,.int .i64 0] 150))):=(Below.refl _ _).alloc (Nat.le_refl _) _;go_wp2_with
     (first
      |(refine wpList_append_info _ rfl _ _ 145 rfl (K+1) 150 _ 3 56 Try.underlying145 info_queue rfl (by omega) vq k (queuesL k) rfl (own_below P2.out A3.out) w3.heap.size [.slice none 0 0,.slice none 0 0,.int .i64 0] 150 rfl rfl (by exact alloc_at rfl) (by simp [Value.oneCell']) (by simp only [maxLen];omega) (by omega) (by simp;omega) ?_
        intro g2 cap2 wh hown1 hgrow1 hat hlt1;have HS:Hid _:=net_step (w:=w) (wr:=w3) (K:=K) (i:=1) (x:=.slice (some ⟨g2,0,none⟩) (k+1:Nat) cap2) (b:=0) (by omega) (hKd▸B3.out) A3.out P2.out hgrow1;have HR1:Hid (RowF wh K 3 148 (cells3 ve vq vs)):=HS.out.2.2.1 _ _ _ R3.out;have HO1:Hid (wh.ownsRow (K+1) 150 3 (.slice (some ⟨g2,0,none⟩) (k+1:Nat) cap2) (k+1) (queuesL k++[.slice none 0 0,.slice none 0 0,.int .i64 0])):=hown1;have q0:=HR1.out.at3.2.1;have q0f:=HR1.out.frozen 1;have q2:=HR1.out.at3.2.2;have hKh:K<wh.heap.size:=HR1.out.lt;have B4:Hid (Below K w (wh.setCell ⟨K,1,none⟩ (.slice (some ⟨g2,0,none⟩) (k+1:Nat) cap2))):=hKd▸HS.out.1;have R4:Hid (RowF (wh.setCell ⟨K,1,none⟩ (.slice (some ⟨g2,0,none⟩) (k+1:Nat) cap2)) K 3 148 (cells3 ve (.slice (some ⟨g2,0,none⟩) (k+1:Nat) cap2) vs)):=(HR1.out.set3 _).2.1;have T2:Hid ((wh.setCell ⟨K,1,none⟩ (.slice (some ⟨g2,0,none⟩) (k+1:Nat) cap2)).ownsRow (K+1) 150 3 (.slice (some ⟨g2,0,none⟩) (k+1:Nat) cap2) (k+1) (queuesL (k+1))):=ownsRow_setCell_below HO1.out (by simp) _;have T1:Hid ((wh.setCell ⟨K,1,none⟩ (.slice (some ⟨g2,0,none⟩) (k+1:Nat) cap2)).ownsRow (K+1) 158 2 ve (k+1) (endsL z (k+1))):=HS.out.2.1 _ _ _ _ _ (by decide) P1.out;have T3:Hid ((wh.setCell ⟨K,1,none⟩ (.slice (some ⟨g2,0,none⟩) (k+1:Nat) cap2)).ownsRow (K+1) 152 4 vs k (samplesL k)):=HS.out.2.1 _ _ _ _ _ (by decide) P3.out;have A4:Hid (Below (wh.setCell ⟨K,1,none⟩ (.slice (some ⟨g2,0,none⟩) (k+1:Nat) cap2)).heap.size (wh.setCell ⟨K,1,none⟩ (.slice (some ⟨g2,0,none⟩) (k+1:Nat) cap2)) ((wh.setCell ⟨K,1,none⟩ (.slice (some ⟨g2,0,none⟩) (k+1:Nat) cap2)).alloc (.cells #[.int .i64 0,.int .i64 (-1),.int .i64 0,.bool false] 152))):=(Below.refl _ _).alloc (Nat.le_refl _) _;clear hown1 hgrow1 hat hlt1)
      |(refine wpList_append_info _ rfl _ _ 146 rfl (K+1) 152 _ 4 32 Try.underlying146 info_sample rfl (by omega) vs k (samplesL k) rfl (own_below T3.out A4.out) wh.heap.size [.int .i64 0,.int .i64 (-1),.int .i64 0,.bool false] 152 rfl rfl (by exact alloc_at (size_setCell _ _ _)) (by simp [Value.oneCell']) (by simp only [maxLen];omega) (by omega) (by simp;omega) ?_
        intro g3 cap3 wi hown1 hgrow1 hat hlt1;have HS3:Hid _:=net_step (w:=w) (wr:=(wh.setCell ⟨K,1,none⟩ (.slice (some ⟨g2,0,none⟩) (k+1:Nat) cap2))) (K:=K) (i:=2) (x:=.slice (some ⟨g3,0,none⟩) (k+1:Nat) cap3) (b:=0) (by omega) (hKd▸B4.out) A4.out T3.out hgrow1;have HR3:Hid (RowF wi K 3 148 (cells3 ve (.slice (some ⟨g2,0,none⟩) (k+1:Nat) cap2) vs)):=HS3.out.2.2.1 _ _ _ R4.out;have HO3:Hid (wi.ownsRow (K+1) 152 4 (.slice (some ⟨g3,0,none⟩) (k+1:Nat) cap3) (k+1) (samplesL k++[.int .i64 0,.int .i64 (-1),.int .i64 0,.bool false])):=hown1;have HN:Hid (NetMade w K z (k+1) (wi.setCell ⟨K,2,none⟩ (.slice (some ⟨g3,0,none⟩) (k+1:Nat) cap3))):=
         ⟨_,_,_,HS3.out.1,(HR3.out.set3 _).2.2,HS3.out.2.1 _ _ _ _ _ (by decide) T1.out,HS3.out.2.1 _ _ _ _ _ (by decide) T2.out,ownsRow_setCell_below HO3.out (by simp) _⟩
        clear q0 q0f q2;have q0:=HR3.out.at3.2.2;have q0f:=HR3.out.frozen 2;clear hown1 hgrow1 hat hlt1))
    exact ⟨⟨k+1,by omega,by go_num,HN⟩,by simp [intOf];omega⟩
  ·obtain rfl:k=n:=by omega
   clear hlt hk;go_wp2_with fail
   go_ret;exact ⟨_,rfl,by omega,_,_,_,hKd▸HBr.out,HRo.out,O1.out,O2.out,O3.out⟩
open Go.Maps
theorem rulesCheck_any (c:Cfg) (v0 v1 v2 v3:Value) (w:World) (h:CfgR w v0 v1 v2 v3 c) (hw:CfgW c):
  Calls Try.prog 41 #[.agg #[v0,v1,v2,v3]] w (Chk c w):=by
 obtain ⟨p0,cap0,F0,p1,cap1,F1,p2,cap2,p3,cap3,rfl,rfl,rfl,rfl,s0,k0,s1,k1,s2,s3,b0,b1,b2,b3⟩:=h.parts;have hb2:c.nCh≤8796093022208:=by omega
 have hb3:c.nD≤17592186044416:=by omega
 have HR:Hid (CfgR w (.slice p0 c.nC cap0) (.slice p1 c.nT cap1) (.slice p2 c.nCh cap2) (.slice p3 c.nD cap3) c):=h;have S1:Hid (Sl w p1 c.nT F1):=s1;have K1:Hid (∀i,i<c.nT→SlZ w (F1 i) (c.rowN i) (c.nRow i) 2 (c.row i) 16):=k1;have S2:Hid (Sl w p2 (c.nCh*3) (fun j=>.int .i64 (c.ch j))):=s2;have S3:Hid (Sl w p3 c.nD (fun j=>.int .i64 (c.dv j))):=s3;have HW0:Hid (CfgW c):=hw;clear h s0 k0 s1 k1 s2 s3 b2 b3 hw;have HA:Hid (∀o,Below w.heap.size w (w.alloc o)):=fun o=>(Below.refl _ _).alloc (Nat.le_refl _) _;by_cases n1:NCok c
 case neg=>
  have q:c.nC<1∨6<c.nC:=by unfold NCok at n1;omega
  have C1:Hid (CheckIs c 1 0):=CheckIs.c1 n1;clear n1;rcases q with q|q
  all_goals
   go_enter Try.func41,Try.ntmps41
   go_wp2_with fail
   go_ret2
   exact Chk.mk C1.out (HA.out _)
 have q1:1≤c.nC:=n1.1;have q1':c.nC≤6:=n1.2;have N1:Hid (NCok c):=n1;clear n1
 go_enter Try.func41,Try.ntmps41
 go_wp2_with fail
 refine (faultyRow_any c p1 cap1 F1 _ (S1.out.below (HA.out _)) (fun i hi=>(K1.out i hi).keep (below_keep (HA.out _))) b1).mono ?_;rintro e w1 ⟨x,rfl,hx,hbel⟩;have HB1:Hid (Below (w.heap.size+1) (w.alloc (.cells #[.slice p0 c.nC cap0,.slice p1 c.nT cap1,.slice p2 c.nCh cap2,.slice p3 c.nD cap3] 39)) w1):=hbel.mono (by simp);clear hbel;rcases hx with ⟨hx1,rfl⟩|⟨hx1,rfl,hx2⟩|⟨i,hx1,rfl,hx2⟩
 ·have C2:Hid (CheckIs c 2 0):=CheckIs.c2 N1.out hx1;clear hx1;go_wp2_with fail
  go_ret2
  exact Chk.mk C2.out (box_below HB1.out)
 ·have N2:Hid (NTok c):=hx1;have N3:Hid (AllOk (RowAt c) c.nT):=hx2;clear hx1 hx2;obtain ⟨x0,x1,x2,x3⟩:=box4 HB1.out;go_wp2_with fail
  refine (faultyChan_any c p2 cap2 _ (S2.out.below (box_below HB1.out)) hb2).mono ?_;rintro e w2 ⟨x,rfl,hx,hbel⟩;have HB2:Hid (Below (w.heap.size+1) (w.alloc (.cells #[.slice p0 c.nC cap0,.slice p1 c.nT cap1,.slice p2 c.nCh cap2,.slice p3 c.nD cap3] 39)) w2):=box_step HB1.out hbel;clear hbel x0 x1 x2 x3;rcases hx with ⟨hx1,rfl⟩|⟨hx1,rfl,hx2⟩|⟨i,hx1,rfl,hx2⟩
  ·have C4:Hid (CheckIs c 3 0):=CheckIs.c4 N1.out N2.out N3.out hx1;clear hx1;go_wp2_with fail
   go_ret2
   exact Chk.mk C4.out (box_below HB2.out)
  ·have N5:Hid (AllOk (ChOk c) c.nCh):=hx2;have n4:=hx1;clear hx1 hx2;obtain ⟨x0,x1,x2,x3⟩:=box4 HB2.out;go_wp2_with fail
   refine (faultyDev_any c p3 cap3 _ (S3.out.below (box_below HB2.out)) hb3).mono ?_;rintro e w3 ⟨x,rfl,hx,hbel⟩;have HB3:Hid (Below (w.heap.size+1) (w.alloc (.cells #[.slice p0 c.nC cap0,.slice p1 c.nT cap1,.slice p2 c.nCh cap2,.slice p3 c.nD cap3] 39)) w3):=box_step HB2.out hbel;clear hbel x0 x1 x2 x3;rcases hx with ⟨hx1,rfl⟩|⟨hx1,rfl,hx2⟩|⟨i,hx1,rfl,hx2⟩
   ·have C6:Hid (CheckIs c 4 0):=CheckIs.c6 N1.out N2.out N3.out n4 N5.out hx1;clear hx1;go_wp2_with fail
    go_ret2
    exact Chk.mk C6.out (box_below HB3.out)
   ·have N7:Hid (AllOk (DvOk c) c.nD):=hx2;have n6:=hx1;clear hx1 hx2;obtain ⟨x0,x1,x2,x3⟩:=box4 HB3.out;go_wp2_with fail
    refine (faultyCell_any c _ _ _ _ _ (HR.out.below (box_below HB3.out)) HW0.out q1' n4 N5.out n6).mono ?_;rintro e w4 ⟨x,rfl,hx,hbel⟩;have HB4:Hid (Below (w.heap.size+1) (w.alloc (.cells #[.slice p0 c.nC cap0,.slice p1 c.nT cap1,.slice p2 c.nCh cap2,.slice p3 c.nD cap3] 39)) w4):=box_step HB3.out hbel;clear hbel x0 x1 x2 x3;rcases hx with ⟨rfl,hx2⟩|⟨i,rfl,hx2⟩
    ·have C9:Hid (CheckIs c 0 0):=CheckIs.c9 N1.out N2.out N3.out n4 N5.out n6 N7.out hx2;clear hx2;go_wp2_with fail
     go_ret2
     exact Chk.mk C9.out (box_below HB4.out)
    ·have C8:Hid (CheckIs c 5 i):=CheckIs.c8 N1.out N2.out N3.out n4 N5.out n6 N7.out hx2;have hne:((i:Int) != -1)=true:=by simp
     clear hx2;go_wp2_with fail
     go_ret2
     exact Chk.mk C8.out (box_below HB4.out)
   ·have C7:Hid (CheckIs c 4 i):=CheckIs.c7 N1.out N2.out N3.out n4 N5.out hx1 hx2;have hne:((i:Int) != -1)=true:=by simp
    clear hx1 hx2;go_wp2_with fail
    go_ret2
    exact Chk.mk C7.out (box_below HB3.out)
  ·have C5:Hid (CheckIs c 3 i):=CheckIs.c5 N1.out N2.out N3.out hx1 hx2;have hne:((i:Int) != -1)=true:=by simp
   clear hx1 hx2;go_wp2_with fail
   go_ret2
   exact Chk.mk C5.out (box_below HB2.out)
 ·have C3:Hid (CheckIs c 2 i):=CheckIs.c3 N1.out hx1 hx2;have hne:((i:Int) != -1)=true:=by simp
  clear hx1 hx2;go_wp2_with fail
  go_ret2
  exact Chk.mk C3.out (box_below HB1.out)
theorem CheckIs.place {c:Cfg} {x y:Int} (h:CheckIs c x y) (h0:x=0):CheckIs c 0 0:=by
 subst h0;unfold CheckIs at h;rcases h with h|h|⟨_,_,i,_,h,_⟩|h|⟨_,_,_,_,i,_,h,_⟩|h|⟨_,_,_,_,_,_,i,_,h,_⟩|⟨_,_,_,_,_,_,_,i,_,h,_⟩|h
 ·exact absurd h.2.1 (by omega)
 ·exact absurd h.2.2.1 (by omega)
 ·exact absurd h (by omega)
 ·exact absurd h.2.2.2.2.1 (by omega)
 ·exact absurd h (by omega)
 ·exact absurd h.2.2.2.2.2.2.1 (by omega)
 ·exact absurd h (by omega)
 ·exact absurd h (by omega)
 ·exact CheckIs.c9 h.1 h.2.1 h.2.2.1 h.2.2.2.1 h.2.2.2.2.1 h.2.2.2.2.2.1 h.2.2.2.2.2.2.1 h.2.2.2.2.2.2.2.1
theorem info_ev:(Try.prog.info? 55).map (fun i=>(i.zero,i.size,i.bytes))=some (some (.slice none 0 0),1,24):=by kernel_rfl
theorem info_cp:(Try.prog.info? 124).map (fun i=>(i.zero,i.size,i.bytes))=some (some (.pointer none),1,8):=by kernel_rfl
theorem nameCloneWin : (Try.f43.name == "runtime.NumGoroutine") = false := by kernel_rfl
theorem bodyCloneWin:Try.f43.body.isNone=false:=by kernel_rfl
theorem nameCellsNew : (Try.f44.name == "runtime.NumGoroutine") = false := by kernel_rfl
theorem bodyCellsNew:Try.f44.body.isNone=false:=by kernel_rfl
theorem CheckIs.sizes {c:Cfg} (h:CheckIs c 0 0):NCok c∧NTok c∧AllOk (CellOk c) c.nC:=by
 unfold CheckIs at h;rcases h with h|h|⟨_,_,i,_,h,_⟩|h|⟨_,_,_,_,i,_,h,_⟩|h|⟨_,_,_,_,_,_,i,_,h,_⟩|⟨_,_,_,_,_,_,_,i,_,h,_⟩|h
 ·exact absurd h.2.1 (by omega)
 ·exact absurd h.2.2.1 (by omega)
 ·exact absurd h (by omega)
 ·exact absurd h.2.2.2.2.1 (by omega)
 ·exact absurd h (by omega)
 ·exact absurd h.2.2.2.2.2.2.1 (by omega)
 ·exact absurd h (by omega)
 ·exact absurd h (by omega)
 ·exact ⟨h.1,h.2.1,h.2.2.2.2.2.2.2.1⟩
def kernF (a b c d e:Value) (j:Nat):Value:=if j=0 then a else if j=1 then b else if j=2 then c else if j=3 then d else e
theorem row5k (w:World) (a b c d e:Value) (t:Nat):RowF (w.alloc (.cells #[a,b,c,d,e] t)) w.heap.size 5 t (kernF a b c d e):=
 RowF.new w #[a,b,c,d,e] t _ (fun j hj=>by
  have:j=0∨j=1∨j=2∨j=3∨j=4:=by simp at hj;omega
  rcases this with rfl|rfl|rfl|rfl|rfl<;>rfl)
theorem RowF.at5k {w:World} {g t:Nat} {a b c d e:Value} (h:RowF w g 5 t (kernF a b c d e)):w.cell? ⟨g,0,none⟩=some a∧w.cell? ⟨g,1,none⟩=some b∧w.cell? ⟨g,2,none⟩=some c∧w.cell? ⟨g,3,none⟩=some d∧w.cell? ⟨g,4,none⟩=some e:=
 ⟨h.cell (by omega),h.cell (by omega),h.cell (by omega),h.cell (by omega),h.cell (by omega)⟩
theorem RowF.set5k {w:World} {g t:Nat} {a b c d e:Value} (h:RowF w g 5 t (kernF a b c d e)) (v:Value):
  RowF (w.setCell ⟨g,0,none⟩ v) g 5 t (kernF v b c d e)∧RowF (w.setCell ⟨g,1,none⟩ v) g 5 t (kernF a v c d e)∧RowF (w.setCell ⟨g,2,none⟩ v) g 5 t (kernF a b v d e):=by
 refine ⟨(h.set 0 v).congr ?_,(h.set 1 v).congr ?_,(h.set 2 v).congr ?_⟩
 all_goals
  intro j hj;have:j=0∨j=1∨j=2∨j=3∨j=4:=by omega
  rcases this with rfl|rfl|rfl|rfl|rfl<;>rfl
theorem step_call_go3 {P:Program} {ops:Array Oper} {o:Oper} {a:Act} {w:World} {K:Act→World→Prop} {Q:Exit→Act→World→Prop} {E:Prop} (hgd:o.guard=none) (f:FuncId) (s1 s2 s3:Operand) (t1 t2 t3:TypeId)
  (ho:o.op=.call {callee:=.value (.func f),args:=#[s1,s2,s3],argTypes:=#[t1,t2,t3]}) (v1 v2 v3:Value) (hv1:a.eval s1=v1) (hv2:a.eval s2=v2) (hv3:a.eval s3=v3)
  (fn : Func) (hf : P.funcs[f]? = some fn) (hn : (fn.name == "runtime.NumGoroutine") = false) (hb : fn.body.isNone = false) (R : Value → World → Prop)
  (h:Calls P f #[v1,v2,v3] w (fun e w'=>∃r,e=.returned r∧R r w')) (hk:∀r w',R r w'→K (a.put o.dst r) w'):
  if Region.wanted o (yielded ops a.tmps)=true then Oper.wp P o a w K Q else E:=by
 have hw:Region.wanted o (yielded ops a.tmps)=true:=by simp [Region.wanted,hgd]
 rw [if_pos hw];unfold Oper.wp;have hr:(execOp a.eval o).run P w=.ok (.enter f #[v1,v2,v3]) w:=by
  have e:a.eval (.func f)=.func (.func f) #[] #[]:=rfl;have hn' : ¬ fn.name = "runtime.NumGoroutine" := by simpa using hn
  have hb':¬fn.body=none:=by intro e;rw [e] at hb;cases hb
  simp [execOp,ho,resolve,invoke,hv1,hv2,hv3,e,Deferred.ofValue,callFunc,hf,hn',hb']
 rw [hr];refine h.mono ?_;rintro e w' ⟨r,rfl,hR⟩;exact hk r w' hR
theorem made_below {w wr wg:World} {K i:Nat} {v x:Value} (hb:Below w.heap.size w wr) (hs:wr.heap.size≤wg.heap.size) (hf:wg.os=wr.os∧wg.tape=wr.tape∧wg.output=wr.output)
  (hol:∀j,j<wr.heap.size→v.ownBlock≠some j→wg.heap[j]?=wr.heap[j]?) (hlo:∀j,v.ownBlock=some j→K+1≤j) (hK:w.heap.size<K):Below w.heap.size w (wg.setCell ⟨K,i,none⟩ x):=by
 refine Below.setCell ⟨hf.1.trans hb.os,hf.2.1.trans hb.tape,hf.2.2.trans hb.output,Nat.le_trans hb.size hs,fun j hj=>?_⟩ (by show w.heap.size≤K;omega) _;exact (hol j (Nat.lt_of_lt_of_le hj hb.size) (fun e=>by have:=hlo j e;omega)).trans (hb.block j hj)
theorem CheckIs.chans {c:Cfg} (h:CheckIs c 0 0):c.nCh≤8:=by
 unfold CheckIs at h;rcases h with h|h|⟨_,_,i,_,h,_⟩|h|⟨_,_,_,_,i,_,h,_⟩|h|⟨_,_,_,_,_,_,i,_,h,_⟩|⟨_,_,_,_,_,_,_,i,_,h,_⟩|h
 ·exact absurd h.2.1 (by omega)
 ·exact absurd h.2.2.1 (by omega)
 ·exact absurd h (by omega)
 ·exact absurd h.2.2.2.2.1 (by omega)
 ·exact absurd h (by omega)
 ·exact absurd h.2.2.2.2.2.2.1 (by omega)
 ·exact absurd h (by omega)
 ·exact absurd h (by omega)
 ·exact h.2.2.2.1
theorem new_fin {w W w0:World} {K t tc:Nat} {cs:Array Value} {a b c d e:Value} (hB:Below (w.heap.size+1) (w.alloc (.cells cs tc)) W) (hK:K=W.heap.size) (h0:w0=W.alloc (.cells #[a,b,c,d,e] t)):
  Below w.heap.size w w0∧RowF w0 K 5 t (kernF a b c d e)∧K<w0.heap.size∧w.heap.size<K∧Below (w.heap.size+1) (w.alloc (.cells cs tc)) w0:=by
 subst hK h0;have hs:w.heap.size<W.heap.size:=by have:=hB.size;simp at this;omega
 exact ⟨(box_below hB).alloc (by omega) _,row5k W _ _ _ _ _ _,by simp,hs,hB.alloc (by omega) _⟩
end Go.Proofs.Ytdoghgnifkgfdaa
