import Derived.Test.YtdoghgnifkgfdaaP37
import Derived.Test.YtdoghgnifkgfdaaP39
set_option maxRecDepth 100000
set_option maxHeartbeats 16000000
namespace Go.Proofs.Ytdoghgnifkgfdaa.Mute
open Go Go.Conc Go.RowKit
theorem cfg2_ok {L0 L1 rw dv:List Int} {n0 n1:Nat} {lm:Int} {dvn:Bool} (h0:1≤n0∧n0≤48) (h1:1≤n1∧n1≤48) (hl:0≤lm∧lm≤5) (hrw:RowOk 2 2 (fun j=>rw.getD j 0)) (hd:dv.length≤4) (hdv:∀j,j<dv.length→0≤dv.getD j 0∧dv.getD j 0<2)
  (hi0:∀k,k<n0→InsAt (cfg2 L0 L1 n0 n1 lm rw dvn dv) 0 k) (hi1:∀k,k<n1→InsAt (cfg2 L0 L1 n0 n1 lm rw dvn dv) 1 k):CheckIs (cfg2 L0 L1 n0 n1 lm rw dvn dv) 0 0:=by
 refine check_of ⟨by show 1≤2;omega,by show 2≤6;omega⟩ ⟨by show 1≤1;omega,by show 1≤8;omega⟩ (fun i hi=>hrw) (by show 1≤8;omega) (fun i hi=>?_) hd (fun i hi=>hdv i hi) (fun i hi=>?_)
 ·have hi:i<1:=hi;obtain rfl:i=0:=by omega
  exact ⟨.inl rfl,⟨by show (0:Int)≤0;omega,by show (0:Int)<2;omega⟩,⟨by show (0:Int)≤1;omega,by show (1:Int)<2;omega⟩,by show (0:Int)≠1;omega⟩
 ·have hi:i<2:=hi;have:i=0∨i=1:=by omega
  rcases this with rfl|rfl
  ·exact ⟨hl,by show 0≤16;omega,h0,hi0⟩
  ·exact ⟨⟨by show (0:Int)≤0;omega,by show (0:Int)≤5;omega⟩,by show 0≤16;omega,h1,hi1⟩
theorem own_append {w:World} {base n b m:Nat} {v:Value} {xs:List Value} (h:w.ownsRow base 2 1 v n xs) (L:List Int) (hm:L.length=m) (hr:RowF w b m 2 (intsF L)) (hb:n+m≤1000) (hbase:base≤w.heap.size) (ty:TypeId):
  ∃v' w',(Builtin.append_ #[56,56] ty #[v,.slice (some ⟨b,0,none⟩) m m]).run Try.prog w=.ok v' w'∧w'.ownsRow base 2 1 v' (n+m) (xs++L.map (Value.int .i64 ·))∧w.grownBy w' v.ownBlock:=by
 obtain ⟨i,hi,hz,hsz,hby⟩:=info_parts info_i64;obtain ⟨v',w',h1,h2,h3,_⟩:=run_append_own (P:=Try.prog) (w:=w) base 56 ty 2 i (.int .i64 0) 1 8 Try.underlying56 hi hz hsz hby rfl (by omega) v n xs h ⟨b,0,none⟩ m m (L.map (Value.int .i64 ·)) (by simp [hm]) (fun j u hu=>by
  have hj:j<m:=by have:=(List.getElem?_eq_some_iff.1 hu).1;simpa [hm] using this
  rw [Addr.add_lit,Nat.zero_add,hr.cell hj];unfold intsF;have hj':j<L.length:=by omega
  simp [hj'] at hu ⊢;exact hu) (fun u hu=>by
  obtain ⟨y,_,rfl⟩:=List.mem_map.1 hu;rfl) (by simp only [maxLen];omega) (by omega) hbase
 exact ⟨v',w',h1,h2,h3⟩
theorem grown_below {n:Nat} {a w w':World} {v:Value} {base e s k:Nat} {xs:List Value} (h:Below n a w) (ho:w.ownsRow base e s v k xs) (hg:w.grownBy w' v.ownBlock) (hb:n≤base) (hn:n≤w.heap.size):Below n a w':=
 ⟨hg.os.trans h.os,hg.tape.trans h.tape,hg.output.trans h.output,Nat.le_trans h.size hg.size,fun x hx=>(hg.block x (by omega) fun e=>by have:=(ho.lt x e.symm).1;omega).trans (h.block x hx)⟩
def relL0 (s:Nat):List Int:=[14,0,1,0]++((List.replicate s [10,0,0,0]).flatten++[0,0,0,0,8,0,0,0])
def relL1 (t:Nat):List Int:=(List.replicate t [12,0,1,0,15,0,0,0,15,1,0,0]).flatten++[16,2,0,0,15,2,0,0,0,0,0,0,8,0,0,0]
def relC (s t:Nat):Cfg:=cfg2 (relL0 s) (relL1 t) (s+3) (3*t+4) 0 [1,60,0,60] false [0]
def zP (z:Nat→Int) (pc:Int) (j:Nat):Int:=if j=45 then pc else z j
theorem zP_eq {z:Nat→Int} {pc:Int} (h:z 45=pc):z=zP z pc:=funext fun j=>by
 unfold zP;split
 ·subst j;exact h
 ·rfl
theorem cK_eq3 {C:Nat→Chn} {wl sl:List Int} {lo:Int} (h1:(C 0).wait=wl) (h2:(C 0).sent=sl) (h3:(C 0).lost=lo):C=cK C wl sl lo (C 0).shown (C 0).age (C 0).writ (C 0).anew:=by
 rw [←h3];exact cK_eq h1 h2
def heardR:Nat→List Int→List Int
 |0,_=>[]
 |t+1,[]=>0::0::heardR t []
 |t+1,a::l=>a::1::heardR t l
theorem heardR_len:∀t l,(heardR t l).length=t*2
 |0,_=>rfl
 |t+1,[]=>by simp [heardR,heardR_len t []];omega
 |t+1,a::l=>by simp [heardR,heardR_len t l];omega
theorem heardR_nil:∀t l,l.length≤t→heardR (t+1) l=heardR t l++[0,0]
 |0,[],_=>rfl
 |0,_::_,h=>absurd h (by simp)
 |t+1,[],_=>by
  show 0::0::heardR (t+1) []=0::0::(heardR t []++[0,0]);rw [heardR_nil t [] (by simp)]
 |t+1,a::l,h=>by
  show a::1::heardR (t+1) l=a::1::(heardR t l++[0,0]);rw [heardR_nil t l (by simpa using h)]
theorem heardR_cons:∀t l v r,l.drop t=v::r→heardR (t+1) l=heardR t l++[v,1]
 |0,[],_,_,h=>by simp at h
 |0,a::l,v,r,h=>by
  simp at h;rw [h.1];rfl
 |t+1,[],_,_,h=>by simp at h
 |t+1,a::l,v,r,h=>by
  show a::1::heardR (t+1) l=a::1::(heardR t l++[v,1]);rw [heardR_cons t l v r (by simpa using h)]
structure RunT (t:Nat) (l:List Int) (lo:Int) (z:Nat→Int) (C:Nat→Chn) (R:List Value×Int×(Nat→Int)×(Nat→Chn)):Prop where
 ev:R.1=(heardR t l++[lo]).map said
 why:R.2.1=1
 z45:R.2.2.1 45=((3*t+3:Nat):Int)
 z47:R.2.2.1 47=z 47
 z3:R.2.2.1 3=z 3
 wait:(R.2.2.2 0).wait=l.drop t
 sent:(R.2.2.2 0).sent=(C 0).sent
 lost:(R.2.2.2 0).lost=0
structure RunS (s:Nat) (v:Int) (z:Nat→Int) (C:Nat→Chn) (R:List Value×Int×(Nat→Int)×(Nat→Chn)):Prop where
 ev:R.1=[]
 why:R.2.1=1
 z45:R.2.2.1 45=((s+2:Nat):Int)
 z47:R.2.2.1 47=z 47
 z3:R.2.2.1 3=z 3
 wait:(R.2.2.2 0).wait=(C 0).wait
 sent:(R.2.2.2 0).sent=List.replicate s v
 lost:(R.2.2.2 0).lost=(C 0).lost
section
variable (s:Nat) (ins:List (Int×Int)) (z:Nat→Int) (C:Nat→Chn) (sl:List Int) (lo sh ag wr:Int) (an:Bool)
theorem runT_0a (l:List Int) (h:l.length≤4):RunT 0 l lo (zP z 0) (cK C l sl lo sh ag wr an) (runQ (prgC (relC s 0) ins 1) 60 (zP z 0) (cK C l sl lo sh ag wr an)):=by
 match l,h with
 | [],_=>exact ⟨by kernel_rfl,by kernel_rfl,by kernel_rfl,by kernel_rfl,by kernel_rfl,by kernel_rfl,by kernel_rfl,by kernel_rfl⟩
 | [a],_=>exact ⟨by kernel_rfl,by kernel_rfl,by kernel_rfl,by kernel_rfl,by kernel_rfl,by kernel_rfl,by kernel_rfl,by kernel_rfl⟩
 | [a,b],_=>exact ⟨by kernel_rfl,by kernel_rfl,by kernel_rfl,by kernel_rfl,by kernel_rfl,by kernel_rfl,by kernel_rfl,by kernel_rfl⟩
 | [a,b,c],_=>exact ⟨by kernel_rfl,by kernel_rfl,by kernel_rfl,by kernel_rfl,by kernel_rfl,by kernel_rfl,by kernel_rfl,by kernel_rfl⟩
 | [a,b,c,d],_=>exact ⟨by kernel_rfl,by kernel_rfl,by kernel_rfl,by kernel_rfl,by kernel_rfl,by kernel_rfl,by kernel_rfl,by kernel_rfl⟩
 |_::_::_::_::_::_,h=>exact absurd h (by simp)
theorem runT_0b (l:List Int) (h:l.length≤4):RunT 0 l lo (zP z 3) (cK C l sl lo sh ag wr an) (runQ (prgC (relC s 0) ins 1) 60 (zP z 3) (cK C l sl lo sh ag wr an)):=by
 match l,h with
 | [],_=>exact ⟨by kernel_rfl,by kernel_rfl,by kernel_rfl,by kernel_rfl,by kernel_rfl,by kernel_rfl,by kernel_rfl,by kernel_rfl⟩
 | [a],_=>exact ⟨by kernel_rfl,by kernel_rfl,by kernel_rfl,by kernel_rfl,by kernel_rfl,by kernel_rfl,by kernel_rfl,by kernel_rfl⟩
 | [a,b],_=>exact ⟨by kernel_rfl,by kernel_rfl,by kernel_rfl,by kernel_rfl,by kernel_rfl,by kernel_rfl,by kernel_rfl,by kernel_rfl⟩
 | [a,b,c],_=>exact ⟨by kernel_rfl,by kernel_rfl,by kernel_rfl,by kernel_rfl,by kernel_rfl,by kernel_rfl,by kernel_rfl,by kernel_rfl⟩
 | [a,b,c,d],_=>exact ⟨by kernel_rfl,by kernel_rfl,by kernel_rfl,by kernel_rfl,by kernel_rfl,by kernel_rfl,by kernel_rfl,by kernel_rfl⟩
 |_::_::_::_::_::_,h=>exact absurd h (by simp)
theorem runT_1a (l:List Int) (h:l.length≤4):RunT 1 l lo (zP z 0) (cK C l sl lo sh ag wr an) (runQ (prgC (relC s 1) ins 1) 60 (zP z 0) (cK C l sl lo sh ag wr an)):=by
 match l,h with
 | [],_=>exact ⟨by kernel_rfl,by kernel_rfl,by kernel_rfl,by kernel_rfl,by kernel_rfl,by kernel_rfl,by kernel_rfl,by kernel_rfl⟩
 | [a],_=>exact ⟨by kernel_rfl,by kernel_rfl,by kernel_rfl,by kernel_rfl,by kernel_rfl,by kernel_rfl,by kernel_rfl,by kernel_rfl⟩
 | [a,b],_=>exact ⟨by kernel_rfl,by kernel_rfl,by kernel_rfl,by kernel_rfl,by kernel_rfl,by kernel_rfl,by kernel_rfl,by kernel_rfl⟩
 | [a,b,c],_=>exact ⟨by kernel_rfl,by kernel_rfl,by kernel_rfl,by kernel_rfl,by kernel_rfl,by kernel_rfl,by kernel_rfl,by kernel_rfl⟩
 | [a,b,c,d],_=>exact ⟨by kernel_rfl,by kernel_rfl,by kernel_rfl,by kernel_rfl,by kernel_rfl,by kernel_rfl,by kernel_rfl,by kernel_rfl⟩
 |_::_::_::_::_::_,h=>exact absurd h (by simp)
theorem runT_1b (l:List Int) (h:l.length≤4):RunT 1 l lo (zP z 6) (cK C l sl lo sh ag wr an) (runQ (prgC (relC s 1) ins 1) 60 (zP z 6) (cK C l sl lo sh ag wr an)):=by
 match l,h with
 | [],_=>exact ⟨by kernel_rfl,by kernel_rfl,by kernel_rfl,by kernel_rfl,by kernel_rfl,by kernel_rfl,by kernel_rfl,by kernel_rfl⟩
 | [a],_=>exact ⟨by kernel_rfl,by kernel_rfl,by kernel_rfl,by kernel_rfl,by kernel_rfl,by kernel_rfl,by kernel_rfl,by kernel_rfl⟩
 | [a,b],_=>exact ⟨by kernel_rfl,by kernel_rfl,by kernel_rfl,by kernel_rfl,by kernel_rfl,by kernel_rfl,by kernel_rfl,by kernel_rfl⟩
 | [a,b,c],_=>exact ⟨by kernel_rfl,by kernel_rfl,by kernel_rfl,by kernel_rfl,by kernel_rfl,by kernel_rfl,by kernel_rfl,by kernel_rfl⟩
 | [a,b,c,d],_=>exact ⟨by kernel_rfl,by kernel_rfl,by kernel_rfl,by kernel_rfl,by kernel_rfl,by kernel_rfl,by kernel_rfl,by kernel_rfl⟩
 |_::_::_::_::_::_,h=>exact absurd h (by simp)
theorem runT_2a (l:List Int) (h:l.length≤4):RunT 2 l lo (zP z 0) (cK C l sl lo sh ag wr an) (runQ (prgC (relC s 2) ins 1) 60 (zP z 0) (cK C l sl lo sh ag wr an)):=by
 match l,h with
 | [],_=>exact ⟨by kernel_rfl,by kernel_rfl,by kernel_rfl,by kernel_rfl,by kernel_rfl,by kernel_rfl,by kernel_rfl,by kernel_rfl⟩
 | [a],_=>exact ⟨by kernel_rfl,by kernel_rfl,by kernel_rfl,by kernel_rfl,by kernel_rfl,by kernel_rfl,by kernel_rfl,by kernel_rfl⟩
 | [a,b],_=>exact ⟨by kernel_rfl,by kernel_rfl,by kernel_rfl,by kernel_rfl,by kernel_rfl,by kernel_rfl,by kernel_rfl,by kernel_rfl⟩
 | [a,b,c],_=>exact ⟨by kernel_rfl,by kernel_rfl,by kernel_rfl,by kernel_rfl,by kernel_rfl,by kernel_rfl,by kernel_rfl,by kernel_rfl⟩
 | [a,b,c,d],_=>exact ⟨by kernel_rfl,by kernel_rfl,by kernel_rfl,by kernel_rfl,by kernel_rfl,by kernel_rfl,by kernel_rfl,by kernel_rfl⟩
 |_::_::_::_::_::_,h=>exact absurd h (by simp)
theorem runT_2b (l:List Int) (h:l.length≤4):RunT 2 l lo (zP z 9) (cK C l sl lo sh ag wr an) (runQ (prgC (relC s 2) ins 1) 60 (zP z 9) (cK C l sl lo sh ag wr an)):=by
 match l,h with
 | [],_=>exact ⟨by kernel_rfl,by kernel_rfl,by kernel_rfl,by kernel_rfl,by kernel_rfl,by kernel_rfl,by kernel_rfl,by kernel_rfl⟩
 | [a],_=>exact ⟨by kernel_rfl,by kernel_rfl,by kernel_rfl,by kernel_rfl,by kernel_rfl,by kernel_rfl,by kernel_rfl,by kernel_rfl⟩
 | [a,b],_=>exact ⟨by kernel_rfl,by kernel_rfl,by kernel_rfl,by kernel_rfl,by kernel_rfl,by kernel_rfl,by kernel_rfl,by kernel_rfl⟩
 | [a,b,c],_=>exact ⟨by kernel_rfl,by kernel_rfl,by kernel_rfl,by kernel_rfl,by kernel_rfl,by kernel_rfl,by kernel_rfl,by kernel_rfl⟩
 | [a,b,c,d],_=>exact ⟨by kernel_rfl,by kernel_rfl,by kernel_rfl,by kernel_rfl,by kernel_rfl,by kernel_rfl,by kernel_rfl,by kernel_rfl⟩
 |_::_::_::_::_::_,h=>exact absurd h (by simp)
theorem runT_3a (l:List Int) (h:l.length≤4):RunT 3 l lo (zP z 0) (cK C l sl lo sh ag wr an) (runQ (prgC (relC s 3) ins 1) 60 (zP z 0) (cK C l sl lo sh ag wr an)):=by
 match l,h with
 | [],_=>exact ⟨by kernel_rfl,by kernel_rfl,by kernel_rfl,by kernel_rfl,by kernel_rfl,by kernel_rfl,by kernel_rfl,by kernel_rfl⟩
 | [a],_=>exact ⟨by kernel_rfl,by kernel_rfl,by kernel_rfl,by kernel_rfl,by kernel_rfl,by kernel_rfl,by kernel_rfl,by kernel_rfl⟩
 | [a,b],_=>exact ⟨by kernel_rfl,by kernel_rfl,by kernel_rfl,by kernel_rfl,by kernel_rfl,by kernel_rfl,by kernel_rfl,by kernel_rfl⟩
 | [a,b,c],_=>exact ⟨by kernel_rfl,by kernel_rfl,by kernel_rfl,by kernel_rfl,by kernel_rfl,by kernel_rfl,by kernel_rfl,by kernel_rfl⟩
 | [a,b,c,d],_=>exact ⟨by kernel_rfl,by kernel_rfl,by kernel_rfl,by kernel_rfl,by kernel_rfl,by kernel_rfl,by kernel_rfl,by kernel_rfl⟩
 |_::_::_::_::_::_,h=>exact absurd h (by simp)
theorem runT_3b (l:List Int) (h:l.length≤4):RunT 3 l lo (zP z 12) (cK C l sl lo sh ag wr an) (runQ (prgC (relC s 3) ins 1) 60 (zP z 12) (cK C l sl lo sh ag wr an)):=by
 match l,h with
 | [],_=>exact ⟨by kernel_rfl,by kernel_rfl,by kernel_rfl,by kernel_rfl,by kernel_rfl,by kernel_rfl,by kernel_rfl,by kernel_rfl⟩
 | [a],_=>exact ⟨by kernel_rfl,by kernel_rfl,by kernel_rfl,by kernel_rfl,by kernel_rfl,by kernel_rfl,by kernel_rfl,by kernel_rfl⟩
 | [a,b],_=>exact ⟨by kernel_rfl,by kernel_rfl,by kernel_rfl,by kernel_rfl,by kernel_rfl,by kernel_rfl,by kernel_rfl,by kernel_rfl⟩
 | [a,b,c],_=>exact ⟨by kernel_rfl,by kernel_rfl,by kernel_rfl,by kernel_rfl,by kernel_rfl,by kernel_rfl,by kernel_rfl,by kernel_rfl⟩
 | [a,b,c,d],_=>exact ⟨by kernel_rfl,by kernel_rfl,by kernel_rfl,by kernel_rfl,by kernel_rfl,by kernel_rfl,by kernel_rfl,by kernel_rfl⟩
 |_::_::_::_::_::_,h=>exact absurd h (by simp)
theorem runT_4a (l:List Int) (h:l.length≤4):RunT 4 l lo (zP z 0) (cK C l sl lo sh ag wr an) (runQ (prgC (relC s 4) ins 1) 60 (zP z 0) (cK C l sl lo sh ag wr an)):=by
 match l,h with
 | [],_=>exact ⟨by kernel_rfl,by kernel_rfl,by kernel_rfl,by kernel_rfl,by kernel_rfl,by kernel_rfl,by kernel_rfl,by kernel_rfl⟩
 | [a],_=>exact ⟨by kernel_rfl,by kernel_rfl,by kernel_rfl,by kernel_rfl,by kernel_rfl,by kernel_rfl,by kernel_rfl,by kernel_rfl⟩
 | [a,b],_=>exact ⟨by kernel_rfl,by kernel_rfl,by kernel_rfl,by kernel_rfl,by kernel_rfl,by kernel_rfl,by kernel_rfl,by kernel_rfl⟩
 | [a,b,c],_=>exact ⟨by kernel_rfl,by kernel_rfl,by kernel_rfl,by kernel_rfl,by kernel_rfl,by kernel_rfl,by kernel_rfl,by kernel_rfl⟩
 | [a,b,c,d],_=>exact ⟨by kernel_rfl,by kernel_rfl,by kernel_rfl,by kernel_rfl,by kernel_rfl,by kernel_rfl,by kernel_rfl,by kernel_rfl⟩
 |_::_::_::_::_::_,h=>exact absurd h (by simp)
theorem runT_4b (l:List Int) (h:l.length≤4):RunT 4 l lo (zP z 15) (cK C l sl lo sh ag wr an) (runQ (prgC (relC s 4) ins 1) 60 (zP z 15) (cK C l sl lo sh ag wr an)):=by
 match l,h with
 | [],_=>exact ⟨by kernel_rfl,by kernel_rfl,by kernel_rfl,by kernel_rfl,by kernel_rfl,by kernel_rfl,by kernel_rfl,by kernel_rfl⟩
 | [a],_=>exact ⟨by kernel_rfl,by kernel_rfl,by kernel_rfl,by kernel_rfl,by kernel_rfl,by kernel_rfl,by kernel_rfl,by kernel_rfl⟩
 | [a,b],_=>exact ⟨by kernel_rfl,by kernel_rfl,by kernel_rfl,by kernel_rfl,by kernel_rfl,by kernel_rfl,by kernel_rfl,by kernel_rfl⟩
 | [a,b,c],_=>exact ⟨by kernel_rfl,by kernel_rfl,by kernel_rfl,by kernel_rfl,by kernel_rfl,by kernel_rfl,by kernel_rfl,by kernel_rfl⟩
 | [a,b,c,d],_=>exact ⟨by kernel_rfl,by kernel_rfl,by kernel_rfl,by kernel_rfl,by kernel_rfl,by kernel_rfl,by kernel_rfl,by kernel_rfl⟩
 |_::_::_::_::_::_,h=>exact absurd h (by simp)
theorem runT_5a (l:List Int) (h:l.length≤4):RunT 5 l lo (zP z 0) (cK C l sl lo sh ag wr an) (runQ (prgC (relC s 5) ins 1) 60 (zP z 0) (cK C l sl lo sh ag wr an)):=by
 match l,h with
 | [],_=>exact ⟨by kernel_rfl,by kernel_rfl,by kernel_rfl,by kernel_rfl,by kernel_rfl,by kernel_rfl,by kernel_rfl,by kernel_rfl⟩
 | [a],_=>exact ⟨by kernel_rfl,by kernel_rfl,by kernel_rfl,by kernel_rfl,by kernel_rfl,by kernel_rfl,by kernel_rfl,by kernel_rfl⟩
 | [a,b],_=>exact ⟨by kernel_rfl,by kernel_rfl,by kernel_rfl,by kernel_rfl,by kernel_rfl,by kernel_rfl,by kernel_rfl,by kernel_rfl⟩
 | [a,b,c],_=>exact ⟨by kernel_rfl,by kernel_rfl,by kernel_rfl,by kernel_rfl,by kernel_rfl,by kernel_rfl,by kernel_rfl,by kernel_rfl⟩
 | [a,b,c,d],_=>exact ⟨by kernel_rfl,by kernel_rfl,by kernel_rfl,by kernel_rfl,by kernel_rfl,by kernel_rfl,by kernel_rfl,by kernel_rfl⟩
 |_::_::_::_::_::_,h=>exact absurd h (by simp)
theorem runT_5b (l:List Int) (h:l.length≤4):RunT 5 l lo (zP z 18) (cK C l sl lo sh ag wr an) (runQ (prgC (relC s 5) ins 1) 60 (zP z 18) (cK C l sl lo sh ag wr an)):=by
 match l,h with
 | [],_=>exact ⟨by kernel_rfl,by kernel_rfl,by kernel_rfl,by kernel_rfl,by kernel_rfl,by kernel_rfl,by kernel_rfl,by kernel_rfl⟩
 | [a],_=>exact ⟨by kernel_rfl,by kernel_rfl,by kernel_rfl,by kernel_rfl,by kernel_rfl,by kernel_rfl,by kernel_rfl,by kernel_rfl⟩
 | [a,b],_=>exact ⟨by kernel_rfl,by kernel_rfl,by kernel_rfl,by kernel_rfl,by kernel_rfl,by kernel_rfl,by kernel_rfl,by kernel_rfl⟩
 | [a,b,c],_=>exact ⟨by kernel_rfl,by kernel_rfl,by kernel_rfl,by kernel_rfl,by kernel_rfl,by kernel_rfl,by kernel_rfl,by kernel_rfl⟩
 | [a,b,c,d],_=>exact ⟨by kernel_rfl,by kernel_rfl,by kernel_rfl,by kernel_rfl,by kernel_rfl,by kernel_rfl,by kernel_rfl,by kernel_rfl⟩
 |_::_::_::_::_::_,h=>exact absurd h (by simp)
theorem runT_6a (l:List Int) (h:l.length≤4):RunT 6 l lo (zP z 0) (cK C l sl lo sh ag wr an) (runQ (prgC (relC s 6) ins 1) 60 (zP z 0) (cK C l sl lo sh ag wr an)):=by
 match l,h with
 | [],_=>exact ⟨by kernel_rfl,by kernel_rfl,by kernel_rfl,by kernel_rfl,by kernel_rfl,by kernel_rfl,by kernel_rfl,by kernel_rfl⟩
 | [a],_=>exact ⟨by kernel_rfl,by kernel_rfl,by kernel_rfl,by kernel_rfl,by kernel_rfl,by kernel_rfl,by kernel_rfl,by kernel_rfl⟩
 | [a,b],_=>exact ⟨by kernel_rfl,by kernel_rfl,by kernel_rfl,by kernel_rfl,by kernel_rfl,by kernel_rfl,by kernel_rfl,by kernel_rfl⟩
 | [a,b,c],_=>exact ⟨by kernel_rfl,by kernel_rfl,by kernel_rfl,by kernel_rfl,by kernel_rfl,by kernel_rfl,by kernel_rfl,by kernel_rfl⟩
 | [a,b,c,d],_=>exact ⟨by kernel_rfl,by kernel_rfl,by kernel_rfl,by kernel_rfl,by kernel_rfl,by kernel_rfl,by kernel_rfl,by kernel_rfl⟩
 |_::_::_::_::_::_,h=>exact absurd h (by simp)
theorem runT_6b (l:List Int) (h:l.length≤4):RunT 6 l lo (zP z 21) (cK C l sl lo sh ag wr an) (runQ (prgC (relC s 6) ins 1) 60 (zP z 21) (cK C l sl lo sh ag wr an)):=by
 match l,h with
 | [],_=>exact ⟨by kernel_rfl,by kernel_rfl,by kernel_rfl,by kernel_rfl,by kernel_rfl,by kernel_rfl,by kernel_rfl,by kernel_rfl⟩
 | [a],_=>exact ⟨by kernel_rfl,by kernel_rfl,by kernel_rfl,by kernel_rfl,by kernel_rfl,by kernel_rfl,by kernel_rfl,by kernel_rfl⟩
 | [a,b],_=>exact ⟨by kernel_rfl,by kernel_rfl,by kernel_rfl,by kernel_rfl,by kernel_rfl,by kernel_rfl,by kernel_rfl,by kernel_rfl⟩
 | [a,b,c],_=>exact ⟨by kernel_rfl,by kernel_rfl,by kernel_rfl,by kernel_rfl,by kernel_rfl,by kernel_rfl,by kernel_rfl,by kernel_rfl⟩
 | [a,b,c,d],_=>exact ⟨by kernel_rfl,by kernel_rfl,by kernel_rfl,by kernel_rfl,by kernel_rfl,by kernel_rfl,by kernel_rfl,by kernel_rfl⟩
 |_::_::_::_::_::_,h=>exact absurd h (by simp)
end
section
variable (t:Nat) (v:Int) (z:Nat→Int) (C:Nat→Chn) (wl:List Int) (lo sh ag wr:Int) (an:Bool)
theorem runS_0a:RunS 0 v (zP z 0) (cK C wl [] lo sh ag wr an) (runQ (prgC (relC 0 t) [(0,v)] 0) 60 (zP z 0) (cK C wl [] lo sh ag wr an)):=⟨by kernel_rfl,by kernel_rfl,by kernel_rfl,by kernel_rfl,by kernel_rfl,by kernel_rfl,by kernel_rfl,by kernel_rfl⟩
theorem runS_0b:RunS 0 v (zP z 2) (cK C wl [] lo sh ag wr an) (runQ (prgC (relC 0 t) [(0,v)] 0) 60 (zP z 2) (cK C wl [] lo sh ag wr an)):=⟨by kernel_rfl,by kernel_rfl,by kernel_rfl,by kernel_rfl,by kernel_rfl,by kernel_rfl,by kernel_rfl,by kernel_rfl⟩
theorem runS_1a:RunS 1 v (zP z 0) (cK C wl [] lo sh ag wr an) (runQ (prgC (relC 1 t) [(0,v)] 0) 60 (zP z 0) (cK C wl [] lo sh ag wr an)):=⟨by kernel_rfl,by kernel_rfl,by kernel_rfl,by kernel_rfl,by kernel_rfl,by kernel_rfl,by kernel_rfl,by kernel_rfl⟩
theorem runS_1b:RunS 1 v (zP z 3) (cK C wl [] lo sh ag wr an) (runQ (prgC (relC 1 t) [(0,v)] 0) 60 (zP z 3) (cK C wl [] lo sh ag wr an)):=⟨by kernel_rfl,by kernel_rfl,by kernel_rfl,by kernel_rfl,by kernel_rfl,by kernel_rfl,by kernel_rfl,by kernel_rfl⟩
theorem runS_2a:RunS 2 v (zP z 0) (cK C wl [] lo sh ag wr an) (runQ (prgC (relC 2 t) [(0,v)] 0) 60 (zP z 0) (cK C wl [] lo sh ag wr an)):=⟨by kernel_rfl,by kernel_rfl,by kernel_rfl,by kernel_rfl,by kernel_rfl,by kernel_rfl,by kernel_rfl,by kernel_rfl⟩
theorem runS_2b:RunS 2 v (zP z 4) (cK C wl [] lo sh ag wr an) (runQ (prgC (relC 2 t) [(0,v)] 0) 60 (zP z 4) (cK C wl [] lo sh ag wr an)):=⟨by kernel_rfl,by kernel_rfl,by kernel_rfl,by kernel_rfl,by kernel_rfl,by kernel_rfl,by kernel_rfl,by kernel_rfl⟩
theorem runS_3a:RunS 3 v (zP z 0) (cK C wl [] lo sh ag wr an) (runQ (prgC (relC 3 t) [(0,v)] 0) 60 (zP z 0) (cK C wl [] lo sh ag wr an)):=⟨by kernel_rfl,by kernel_rfl,by kernel_rfl,by kernel_rfl,by kernel_rfl,by kernel_rfl,by kernel_rfl,by kernel_rfl⟩
theorem runS_3b:RunS 3 v (zP z 5) (cK C wl [] lo sh ag wr an) (runQ (prgC (relC 3 t) [(0,v)] 0) 60 (zP z 5) (cK C wl [] lo sh ag wr an)):=⟨by kernel_rfl,by kernel_rfl,by kernel_rfl,by kernel_rfl,by kernel_rfl,by kernel_rfl,by kernel_rfl,by kernel_rfl⟩
theorem runS_4a:RunS 4 v (zP z 0) (cK C wl [] lo sh ag wr an) (runQ (prgC (relC 4 t) [(0,v)] 0) 60 (zP z 0) (cK C wl [] lo sh ag wr an)):=⟨by kernel_rfl,by kernel_rfl,by kernel_rfl,by kernel_rfl,by kernel_rfl,by kernel_rfl,by kernel_rfl,by kernel_rfl⟩
theorem runS_4b:RunS 4 v (zP z 6) (cK C wl [] lo sh ag wr an) (runQ (prgC (relC 4 t) [(0,v)] 0) 60 (zP z 6) (cK C wl [] lo sh ag wr an)):=⟨by kernel_rfl,by kernel_rfl,by kernel_rfl,by kernel_rfl,by kernel_rfl,by kernel_rfl,by kernel_rfl,by kernel_rfl⟩
theorem runS_5a:RunS 5 v (zP z 0) (cK C wl [] lo sh ag wr an) (runQ (prgC (relC 5 t) [(0,v)] 0) 60 (zP z 0) (cK C wl [] lo sh ag wr an)):=⟨by kernel_rfl,by kernel_rfl,by kernel_rfl,by kernel_rfl,by kernel_rfl,by kernel_rfl,by kernel_rfl,by kernel_rfl⟩
theorem runS_5b:RunS 5 v (zP z 7) (cK C wl [] lo sh ag wr an) (runQ (prgC (relC 5 t) [(0,v)] 0) 60 (zP z 7) (cK C wl [] lo sh ag wr an)):=⟨by kernel_rfl,by kernel_rfl,by kernel_rfl,by kernel_rfl,by kernel_rfl,by kernel_rfl,by kernel_rfl,by kernel_rfl⟩
theorem runS_6a:RunS 6 v (zP z 0) (cK C wl [] lo sh ag wr an) (runQ (prgC (relC 6 t) [(0,v)] 0) 60 (zP z 0) (cK C wl [] lo sh ag wr an)):=⟨by kernel_rfl,by kernel_rfl,by kernel_rfl,by kernel_rfl,by kernel_rfl,by kernel_rfl,by kernel_rfl,by kernel_rfl⟩
theorem runS_6b:RunS 6 v (zP z 8) (cK C wl [] lo sh ag wr an) (runQ (prgC (relC 6 t) [(0,v)] 0) 60 (zP z 8) (cK C wl [] lo sh ag wr an)):=⟨by kernel_rfl,by kernel_rfl,by kernel_rfl,by kernel_rfl,by kernel_rfl,by kernel_rfl,by kernel_rfl,by kernel_rfl⟩
end
theorem runT_any {s t:Nat} (ht:t≤6) {ins:List (Int×Int)} {z:Nat→Int} {C:Nat→Chn} (hpc:z 45=0∨z 45=((3*t+3:Nat):Int)) (hl:(C 0).wait.length≤4):RunT t (C 0).wait (C 0).lost z C (runQ (prgC (relC s t) ins 1) 60 z C):=by
 have hc:=cK_eq3 (C:=C) rfl rfl rfl;have key:∀(tt:Nat) (pc:Int),z 45=pc→RunT tt (C 0).wait (C 0).lost (zP z pc) (cK C (C 0).wait (C 0).sent (C 0).lost (C 0).shown (C 0).age (C 0).writ (C 0).anew) (runQ (prgC (relC s tt) ins 1) 60 (zP z pc) (cK C (C 0).wait (C 0).sent (C 0).lost (C 0).shown (C 0).age (C 0).writ (C 0).anew))→RunT tt (C 0).wait (C 0).lost z C (runQ (prgC (relC s tt) ins 1) 60 z C):=fun tt pc h R=>by
  rw [←zP_eq h,←hc] at R;exact R
 have h7:t=0∨t=1∨t=2∨t=3∨t=4∨t=5∨t=6:=by omega
 rcases h7 with rfl|rfl|rfl|rfl|rfl|rfl|rfl
 ·rcases hpc with h|h
  ·exact key 0 _ h (runT_0a _ _ _ _ _ _ _ _ _ _ _ hl)
  ·exact key 0 _ h (runT_0b _ _ _ _ _ _ _ _ _ _ _ hl)
 ·rcases hpc with h|h
  ·exact key 1 _ h (runT_1a _ _ _ _ _ _ _ _ _ _ _ hl)
  ·exact key 1 _ h (runT_1b _ _ _ _ _ _ _ _ _ _ _ hl)
 ·rcases hpc with h|h
  ·exact key 2 _ h (runT_2a _ _ _ _ _ _ _ _ _ _ _ hl)
  ·exact key 2 _ h (runT_2b _ _ _ _ _ _ _ _ _ _ _ hl)
 ·rcases hpc with h|h
  ·exact key 3 _ h (runT_3a _ _ _ _ _ _ _ _ _ _ _ hl)
  ·exact key 3 _ h (runT_3b _ _ _ _ _ _ _ _ _ _ _ hl)
 ·rcases hpc with h|h
  ·exact key 4 _ h (runT_4a _ _ _ _ _ _ _ _ _ _ _ hl)
  ·exact key 4 _ h (runT_4b _ _ _ _ _ _ _ _ _ _ _ hl)
 ·rcases hpc with h|h
  ·exact key 5 _ h (runT_5a _ _ _ _ _ _ _ _ _ _ _ hl)
  ·exact key 5 _ h (runT_5b _ _ _ _ _ _ _ _ _ _ _ hl)
 ·rcases hpc with h|h
  ·exact key 6 _ h (runT_6a _ _ _ _ _ _ _ _ _ _ _ hl)
  ·exact key 6 _ h (runT_6b _ _ _ _ _ _ _ _ _ _ _ hl)
theorem runS_any {s t:Nat} (hs:s≤6) {v:Int} {z:Nat→Int} {C:Nat→Chn} (hpc:z 45=0∨z 45=((s+2:Nat):Int)) (hl:(C 0).sent=[]):RunS s v z C (runQ (prgC (relC s t) [(0,v)] 0) 60 z C):=by
 have hc:=cK_eq3 (C:=C) rfl hl rfl;have key:∀(ss:Nat) (pc:Int),z 45=pc→RunS ss v (zP z pc) (cK C (C 0).wait [] (C 0).lost (C 0).shown (C 0).age (C 0).writ (C 0).anew) (runQ (prgC (relC ss t) [(0,v)] 0) 60 (zP z pc) (cK C (C 0).wait [] (C 0).lost (C 0).shown (C 0).age (C 0).writ (C 0).anew))→RunS ss v z C (runQ (prgC (relC ss t) [(0,v)] 0) 60 z C):=fun tt pc h R=>by
  rw [←zP_eq h,←hc] at R;exact R
 have h7:s=0∨s=1∨s=2∨s=3∨s=4∨s=5∨s=6:=by omega
 rcases h7 with rfl|rfl|rfl|rfl|rfl|rfl|rfl
 ·rcases hpc with h|h
  ·exact key 0 _ h (runS_0a _ _ _ _ _ _ _ _ _ _)
  ·exact key 0 _ h (runS_0b _ _ _ _ _ _ _ _ _ _)
 ·rcases hpc with h|h
  ·exact key 1 _ h (runS_1a _ _ _ _ _ _ _ _ _ _)
  ·exact key 1 _ h (runS_1b _ _ _ _ _ _ _ _ _ _)
 ·rcases hpc with h|h
  ·exact key 2 _ h (runS_2a _ _ _ _ _ _ _ _ _ _)
  ·exact key 2 _ h (runS_2b _ _ _ _ _ _ _ _ _ _)
 ·rcases hpc with h|h
  ·exact key 3 _ h (runS_3a _ _ _ _ _ _ _ _ _ _)
  ·exact key 3 _ h (runS_3b _ _ _ _ _ _ _ _ _ _)
 ·rcases hpc with h|h
  ·exact key 4 _ h (runS_4a _ _ _ _ _ _ _ _ _ _)
  ·exact key 4 _ h (runS_4b _ _ _ _ _ _ _ _ _ _)
 ·rcases hpc with h|h
  ·exact key 5 _ h (runS_5a _ _ _ _ _ _ _ _ _ _)
  ·exact key 5 _ h (runS_5b _ _ _ _ _ _ _ _ _ _)
 ·rcases hpc with h|h
  ·exact key 6 _ h (runS_6a _ _ _ _ _ _ _ _ _ _)
  ·exact key 6 _ h (runS_6b _ _ _ _ _ _ _ _ _ _)
theorem endR {s:Nat} (hs:s≤6) {v:Int} (l:List Int) (hl:l.length≤4) (sh ag wr:Int) (an:Bool):(endQ ⟨l,List.replicate s v,0,sh,ag,wr,an⟩).wait=(l++List.replicate s v).take 4∧(endQ ⟨l,List.replicate s v,0,sh,ag,wr,an⟩).lost=((l.length+s-4:Nat):Int):=by
 have h7:s=0∨s=1∨s=2∨s=3∨s=4∨s=5∨s=6:=by omega
 match l,hl with
 | [],_=>rcases h7 with rfl|rfl|rfl|rfl|rfl|rfl|rfl<;>exact ⟨by kernel_rfl,by kernel_rfl⟩
 | [a],_=>rcases h7 with rfl|rfl|rfl|rfl|rfl|rfl|rfl<;>exact ⟨by kernel_rfl,by kernel_rfl⟩
 | [a,b],_=>rcases h7 with rfl|rfl|rfl|rfl|rfl|rfl|rfl<;>exact ⟨by kernel_rfl,by kernel_rfl⟩
 | [a,b,c],_=>rcases h7 with rfl|rfl|rfl|rfl|rfl|rfl|rfl<;>exact ⟨by kernel_rfl,by kernel_rfl⟩
 | [a,b,c,d],_=>rcases h7 with rfl|rfl|rfl|rfl|rfl|rfl|rfl<;>exact ⟨by kernel_rfl,by kernel_rfl⟩
 |_::_::_::_::_::_,h=>exact absurd h (by simp)
theorem endC1 {s:Nat} (hs:s≤6) {v:Int} {C:Nat→Chn} (hl:(C 0).wait.length≤4) (h1:(C 0).sent=List.replicate s v) (h2:(C 0).lost=0):((endC 1 C) 0).wait=((C 0).wait++List.replicate s v).take 4∧((endC 1 C) 0).lost=(((C 0).wait.length+s-4:Nat):Int)∧((endC 1 C) 0).sent=[]:=by
 have e:endC 1 C 0=endS (endQ (C 0)):=rfl;have hS:∀c:Chn,(endS c).sent=c.sent∧(endS c).wait=c.wait∧(endS c).lost=c.lost:=fun c=>by
  unfold endS;split
  ·exact ⟨rfl,rfl,rfl⟩
  ·split
   ·exact ⟨rfl,rfl,rfl⟩
   ·exact ⟨rfl,rfl,rfl⟩
 rw [e,(hS _).1,(hS _).2.1,(hS _).2.2];have hR:=endR (v:=v) hs (C 0).wait hl (C 0).shown (C 0).age (C 0).writ (C 0).anew;have ec:C 0=⟨(C 0).wait,List.replicate s v,0,(C 0).shown,(C 0).age,(C 0).writ,(C 0).anew⟩:=by rw [←h1,←h2]
 refine ⟨?_,?_,rfl⟩
 ·conv=>lhs;rw [ec]
  exact hR.1
 ·conv=>lhs;rw [ec]
  exact hR.2
def TrB (xs:List Value) (m b:Nat) (L:List Int):Prop:=∃E,xs=evs E∧m=E.length∧E.length≤b∧saids E=L
theorem TrB.add {xs:List Value} {m b:Nat} {L L':List Int} (h:TrB xs m b L) {vs:List Value} (F:List (Int×Int×Int)) (hv:vs=F.map evT) {b':Nat} (hF:F.length≤b') (hs:saids F=L'):TrB (xs++vs.flatMap evCells) (m+vs.length) (b+b') (L++L'):=by
 obtain ⟨E,rfl,rfl,h3,h4⟩:=h;refine ⟨E++F,?_,?_,?_,?_⟩
 ·rw [hv,evs_of,evs_append]
 ·rw [hv];simp
 ·simp;omega
 ·rw [saids_append,h4,hs]
theorem saids_said (L:List Int):saids (L.map fun x=>((1:Int),x,(0:Int)))=L:=by
 induction L with
 |nil=>rfl
 |cons a L ih=>simp only [saids,List.map_cons,List.filterMap_cons,if_true] at ih ⊢;rw [ih]
theorem said_evT (L:List Int):L.map said=(L.map fun x=>((1:Int),x,(0:Int))).map evT:=by
 rw [List.map_map];rfl
def relW (s t:Nat) (vs:Nat→Int):Nat→List Int
 |0=>[]
 |i+1=>((relW s t vs i).drop t++List.replicate s (vs i)).take 4
def relLo (s t:Nat) (vs:Nat→Int):Nat→Nat
 |0=>0
 |i+1=>((relW s t vs i).drop t).length+s-4
def relH (s t:Nat) (vs:Nat→Int):Nat→List Int
 |0=>[]
 |i+1=>relH s t vs i++(heardR t (relW s t vs i)++[(relLo s t vs i:Int)])
theorem relW_len (s t:Nat) (vs:Nat→Int):∀i,(relW s t vs i).length≤4
 |0=>by simp [relW]
 |i+1=>by simp only [relW,List.length_take];omega
theorem relH_len (s t:Nat) (vs:Nat→Int):∀i,(relH s t vs i).length=i*(t*2+1)
 |0=>by simp [relH]
 |i+1=>by
  simp only [relH,List.length_append,relH_len s t vs i,heardR_len,List.length_cons,List.length_nil];rw [Nat.add_mul];omega
structure SR (s t:Nat) (vs:Nat→Int) (i:Nat) (st:KSq):Prop where
 a45:st.z 0 45=0∨st.z 0 45=((s+2:Nat):Int)
 a47:st.z 0 47=0
 a3:st.z 0 3=0
 b45:st.z 1 45=0∨st.z 1 45=((3*t+3:Nat):Int)
 b47:st.z 1 47=0
 b3:st.z 1 3=0
 wait:(st.D 0).wait=relW s t vs i
 sent:(st.D 0).sent=[]
 lost:(st.D 0).lost=(relLo s t vs i:Int)
 e1:TrB (st.xs 1) (st.m 1) (i*14) (relH s t vs i)
 m0:st.m 0=i
 mO:∀j,2≤j→st.m j=0
theorem sr0 (s t:Nat) (vs:Nat→Int):SR s t vs 0 (sq0 (relC s t)):=
 ⟨.inl rfl,rfl,rfl,.inl rfl,rfl,rfl,rfl,rfl,rfl,⟨[],rfl,rfl,by simp,rfl⟩,rfl,fun _ _=>rfl⟩
theorem SR.frame {s t i:Nat} {vs:Nat→Int} {st:KSq} (h:SR s t vs i st) (hs:s≤6) (ht:t≤6):SR s t vs (i+1) (frameC (relC s t) 0 [(0,vs i)] st):=by
 have hl:(st.D 0).wait.length≤4:=by rw [h.wait];exact relW_len s t vs i
 have R1:=runT_any (s:=s) (ins:=[(0,vs i)]) ht h.b45 hl;have g1:goQ (prgC (relC s t) [(0,vs i)] 1) 60 (st.z 1) st.D=runQ (prgC (relC s t) [(0,vs i)] 1) 60 (st.z 1) st.D:=by
  unfold goQ;rw [if_neg (by rw [h.b47,h.b3];decide)]
 generalize hR1:runQ (prgC (relC s t) [(0,vs i)] 1) 60 (st.z 1) st.D=r1 at R1 g1;have R0:=runS_any (s:=s) (t:=t) (v:=vs i) (C:=r1.2.2.2) hs h.a45 (R1.sent.trans h.sent);have g0:goQ (prgC (relC s t) [(0,vs i)] 0) 60 (st.z 0) r1.2.2.2=runQ (prgC (relC s t) [(0,vs i)] 0) 60 (st.z 0) r1.2.2.2:=by
  unfold goQ;rw [if_neg (by rw [h.a47,h.a3];decide)]
 generalize hR0:runQ (prgC (relC s t) [(0,vs i)] 0) 60 (st.z 0) r1.2.2.2=r0 at R0 g0;have hl2:(r0.2.2.2 0).wait.length≤4:=by rw [R0.wait,R1.wait,List.length_drop];omega
 obtain ⟨q1,q2,q3⟩:=endC1 hs hl2 R0.sent (R0.lost.trans R1.lost);rw [R0.wait,R1.wait,h.wait] at q1 q2;have e1:winC (relC s t) [(0,vs i)] (1,60) st=⟨updN st.z 1 r1.2.2.1,updN st.m 1 (st.m 1+(r1.1++[closedE (IntKind.i64.wrap (r1.2.2.1 46-st.z 1 46)) r1.2.1]).length),updN st.xs 1 (st.xs 1++(r1.1++[closedE (IntKind.i64.wrap (r1.2.2.1 46-st.z 1 46)) r1.2.1]).flatMap evCells),r1.2.2.2⟩:=by
  unfold winC windowQ;rw [g1]
 have e2:winC (relC s t) [(0,vs i)] (0,60) ⟨updN st.z 1 r1.2.2.1,updN st.m 1 (st.m 1+(r1.1++[closedE (IntKind.i64.wrap (r1.2.2.1 46-st.z 1 46)) r1.2.1]).length),updN st.xs 1 (st.xs 1++(r1.1++[closedE (IntKind.i64.wrap (r1.2.2.1 46-st.z 1 46)) r1.2.1]).flatMap evCells),r1.2.2.2⟩=⟨updN (updN st.z 1 r1.2.2.1) 0 r0.2.2.1,updN (updN st.m 1 (st.m 1+(r1.1++[closedE (IntKind.i64.wrap (r1.2.2.1 46-st.z 1 46)) r1.2.1]).length)) 0 (st.m 0+(r0.1++[closedE (IntKind.i64.wrap (r0.2.2.1 46-st.z 0 46)) r0.2.1]).length),updN (updN st.xs 1 (st.xs 1++(r1.1++[closedE (IntKind.i64.wrap (r1.2.2.1 46-st.z 1 46)) r1.2.1]).flatMap evCells)) 0 (st.xs 0++(r0.1++[closedE (IntKind.i64.wrap (r0.2.2.1 46-st.z 0 46)) r0.2.1]).flatMap evCells),r0.2.2.2⟩:=by
  unfold winC windowQ;show (⟨updN (updN st.z 1 r1.2.2.1) 0 (goQ (prgC (relC s t) [(0,vs i)] 0) 60 (st.z 0) r1.2.2.2).2.2.1,updN (updN st.m 1 _) 0 (st.m 0+((goQ (prgC (relC s t) [(0,vs i)] 0) 60 (st.z 0) r1.2.2.2).1++[closedE (IntKind.i64.wrap ((goQ (prgC (relC s t) [(0,vs i)] 0) 60 (st.z 0) r1.2.2.2).2.2.1 46-st.z 0 46)) (goQ (prgC (relC s t) [(0,vs i)] 0) 60 (st.z 0) r1.2.2.2).2.1]).length),updN (updN st.xs 1 _) 0 (st.xs 0++((goQ (prgC (relC s t) [(0,vs i)] 0) 60 (st.z 0) r1.2.2.2).1++[closedE (IntKind.i64.wrap ((goQ (prgC (relC s t) [(0,vs i)] 0) 60 (st.z 0) r1.2.2.2).2.2.1 46-st.z 0 46)) (goQ (prgC (relC s t) [(0,vs i)] 0) 60 (st.z 0) r1.2.2.2).2.1]).flatMap evCells),(goQ (prgC (relC s t) [(0,vs i)] 0) 60 (st.z 0) r1.2.2.2).2.2.2⟩:KSq)=_;rw [g0]
 have er:rowC (relC s t) [(0,vs i)] (wnOf (relC s t) 0) ((relC s t).nRow 0) 0 st=winC (relC s t) [(0,vs i)] (0,60) (winC (relC s t) [(0,vs i)] (1,60) st):=rfl;unfold frameC;rw [er,e1,e2];refine ⟨.inr R0.z45,R0.z47.trans h.a47,R0.z3.trans h.a3,.inr R1.z45,R1.z47.trans h.b47,R1.z3.trans h.b3,q1,q3,q2,?_,?_,fun j hj=>?_⟩
 ·have hF:r1.1++[closedE (IntKind.i64.wrap (r1.2.2.1 46-st.z 1 46)) r1.2.1]=((heardR t (relW s t vs i)++[(relLo s t vs i:Int)]).map (fun x=>((1:Int),x,(0:Int)))++[(3,IntKind.i64.wrap (r1.2.2.1 46-st.z 1 46),r1.2.1)]).map evT:=by
   rw [R1.ev,h.wait,h.lost,said_evT]
   conv=>rhs;rw [List.map_append]
   rfl
  have:=h.e1.add (b':=14) _ hF (by simp [heardR_len];omega) rfl;rw [saids_append,saids_said,show saids [(3,IntKind.i64.wrap (r1.2.2.1 46-st.z 1 46),r1.2.1)]=[] from rfl,List.append_nil] at this;rw [show (i+1)*14=i*14+14 by omega];exact this
 ·show st.m 0+(r0.1++[_]).length=i+1;rw [R0.ev,h.m0];rfl
 ·show updN (updN st.m 1 _) 0 _ j=0;rw [updN_ne _ _ (by omega),updN_ne _ _ (by omega)];exact h.mO j hj
def stR (s t:Nat) (vs:Nat→Int):Nat→KSq
 |0=>sq0 (relC s t)
 |i+1=>frameC (relC s t) 0 [(0,vs i)] (stR s t vs i)
theorem sr_st {s t:Nat} (vs:Nat→Int) (hs:s≤6) (ht:t≤6):∀i,SR s t vs i (stR s t vs i)
 |0=>sr0 s t vs
 |i+1=>(sr_st vs hs ht i).frame hs ht
theorem SR.m_le {s t i:Nat} {vs:Nat→Int} {st:KSq} (h:SR s t vs i st) (hi:i≤40) (j:Nat):st.m j+1300≤1000000000:=by
 by_cases h0:j=0
 ·subst h0;have:=h.m0;omega
 by_cases h1:j=1
 ·subst h1;obtain ⟨E,_,e,l,_⟩:=h.e1;omega
 ·have:=h.mO j (by omega);omega
end Go.Proofs.Ytdoghgnifkgfdaa.Mute
