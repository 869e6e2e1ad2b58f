import Derived.Deep.RegionHeld3
import Derived.Deep.QuietTactic
import Derived.Deep.Cut
import Derived.Test.YtdoghgnifkgfdaaGreatP09
import Derived.Test.YtdoghgnifkgfdaaGreatP12
set_option maxRecDepth 100000
set_option maxHeartbeats 16000000
namespace Go.Proofs.YtdoghgnifkgfdaaGreat
theorem Yd9:∀(n:Nat) (L:List Int),L.Nodup→(∀x∈L,0≤x∧x<n)→L.length≤n
 |0,L,_,h=>by
  cases L with
  |nil=>simp
  |cons x L=>have:=h x (List.mem_cons_self ..);omega
 |n+1,L,hd,h=>by
  by_cases hm:(n:Int)∈L
  ·have h1:=List.length_erase_of_mem hm;have h2:=Yd9 n (L.erase (n:Int)) (hd.erase _) (fun x hx=>by
    have h3:=h x (List.mem_of_mem_erase hx);have h4:x≠(n:Int):=fun e=>by rw [e] at hx;exact hd.not_mem_erase hx
    omega)
   have h5:0<L.length:=List.length_pos_of_mem hm;omega
  ·have:=Yd9 n L hd (fun x hx=>by
    have h3:=h x hx;have h4:x≠(n:Int):=fun e=>hm (by rw [←e];exact hx);omega)
   omega
structure AbW (nC k:Nat) (fr to_:Nat→Int) (cell:Int) (L:List Int) (at_ x:Nat):Prop where
 nd:L.Nodup
 rng:∀y∈L,0≤y∧y<nC
 has:cell∈L
 old:∀a,a<at_→a<L.length→∀j,j<k→to_ j=L.getD a 0→fr j∈L
 now:at_<L.length→∀j,j<x→to_ j=L.getD at_ 0→fr j∈L
section
variable {nC k at_ x:Nat} {fr to_:Nat→Int} {cell:Int} {L:List Int}
theorem AbW.start (h:0≤cell∧cell<nC):AbW nC k fr to_ cell [cell] 0 0:=
 ⟨by simp,fun y hy=>by simp at hy;subst hy;exact h,by simp,fun a ha=>absurd ha (by omega),fun _ j hj=>absurd hj (by omega)⟩
theorem AbW.len (h:AbW nC k fr to_ cell L at_ x):L.length≤nC:=Yd9 nC L h.nd h.rng
theorem AbW.pass (h:AbW nC k fr to_ cell L at_ x) (hp:to_ x=L.getD at_ 0→fr x∈L):AbW nC k fr to_ cell L at_ (x+1):=
 ⟨h.nd,h.rng,h.has,h.old,fun hl j hj e=>by
  rcases Nat.lt_or_ge j x with hlt|hge
  ·exact h.now hl j hlt e
  ·obtain rfl:j=x:=by omega
   exact hp e⟩
theorem AbW.add (h:AbW nC k fr to_ cell L at_ x) (hl:at_<L.length) (hn:¬fr x∈L) (hr:0≤fr x∧fr x<nC):AbW nC k fr to_ cell (L++[fr x]) at_ (x+1):=by
 have hg:∀a,a<L.length→(L++[fr x]).getD a 0=L.getD a 0:=fun a ha=>by simp only [List.getD,List.getElem?_append_left ha]
 refine ⟨?_,fun y hy=>?_,List.mem_append_left _ h.has,fun a ha _ j hj e=>?_,fun _ j hj e=>?_⟩
 ·rw [List.nodup_append];refine ⟨h.nd,by simp,fun a ha b hb e=>?_⟩;rw [List.mem_singleton] at hb;subst hb;exact hn (e▸ha)
 ·rcases List.mem_append.1 hy with hy|hy
  ·exact h.rng y hy
  ·rw [List.mem_singleton] at hy;subst hy;exact hr
 ·rw [hg a (by omega)] at e;exact List.mem_append_left _ (h.old a ha (by omega) j hj e)
 ·rw [hg at_ hl] at e;rcases Nat.lt_or_ge j x with hlt|hge
  ·exact List.mem_append_left _ (h.now hl j hlt e)
  ·obtain rfl:j=x:=by omega
   exact List.mem_append_right _ (List.mem_singleton.2 rfl)
theorem AbW.next (h:AbW nC k fr to_ cell L at_ k) (hl:at_<L.length):AbW nC k fr to_ cell L (at_+1) 0:=
 ⟨h.nd,h.rng,h.has,fun a ha hal j hj e=>by
  rcases Nat.lt_or_ge a at_ with hlt|hge
  ·exact h.old a hlt hal j hj e
  ·obtain rfl:a=at_:=by omega
   exact h.now hl j hj e,fun _ j hj=>absurd hj (by omega)⟩
theorem AbW.closed (h:AbW nC k fr to_ cell L at_ x) (hl:L.length≤at_):∀j,j<k→to_ j∈L→fr j∈L:=fun j hj hm=>by
 obtain ⟨a,ha,e⟩:=List.mem_iff_getElem.1 hm;exact h.old a (by omega) ha j hj (by rw [←e];simp [ha])
end
open Go.RowKit
theorem getD_mem {L:List Int} {n:Nat} {v:Int} (hn:L.length=n) (h:∀j,j<n→L.getD j 0≠v):¬v∈L:=fun hm=>by
 obtain ⟨a,ha,e⟩:=List.mem_iff_getElem.1 hm;exact h a (by omega) (by rw [←e];simp [ha])
theorem getD_in {L:List Int} {n j:Nat} {v:Int} (hn:L.length=n) (hj:j<n) (h:L.getD j 0=v):v∈L:=by
 subst hn;rw [←h];simp [hj]
theorem YgC (p:Option Addr) (n c:Nat) (L:List Int) (v:Int) (w:World) (hn:L.length=n) (hb:n≤1000000) (hs:Sl w p n (fun j=>.int .i64 (L.getD j 0))):
  Calls Tryz.prog 80 #[.slice p n c,.int .i64 v] w fun e w'=>(∃r:Int,e=.returned (.int .i64 r)∧(0≤r↔v∈L))∧w'=w:=by
 have HS:Hid (Sl w p n (fun j=>.int .i64 (L.getD j 0))):=hs;have HN:Hid (L.length=n):=hn;clear hs hn
 go_enter Tryz.func80,Tryz.ntmps80
 go_wp2_with fail
 go_loopw [8] (fun i wr=>∃k:Nat,k≤n∧i=.int .i64 k∧Hid (∀j,j<k→L.getD j 0≠v)∧wr=w) (fun i _=>n-(intOf i).toNat)
 case atStart=>exact ⟨0,Nat.zero_le _,rfl,fun j hj=>absurd hj (by omega),rfl⟩
 case round=>
  obtain ⟨k,hk,rfl,HK,rfl⟩:=hrel;by_cases hlt:k<n
  ·have hli:(k:Int)<(n:Int):=by omega
   obtain ⟨b,o,rfl,hc⟩:=HS.out.at (show 0<n by omega);have c0:=hc k hlt;clear hc;obtain ⟨y,HY⟩:∃y,Hid (L.getD k 0=y):=⟨_,rfl⟩;rw [HY.out] at c0;by_cases he:v=y
   ·have HIN:Hid (v∈L):=getD_in HN.out hlt (HY.out.trans he.symm);subst he;go_wp2_with fail
    go_ret;exact ⟨⟨(k:Int),rfl,fun _=>HIN.out,fun _=>by omega⟩,rfl⟩
   ·have HK2:Hid (∀j,j<k+1→L.getD j 0≠v):=fun j hj=>by
     rcases Nat.lt_or_ge j k with h|h
     ·exact HK.out j h
     ·obtain rfl:j=k:=by omega
      rw [HY.out];exact fun e=>he e.symm
    go_wp2_with fail
    exact ⟨⟨k+1,by omega,by go_num,HK2,by first|rfl|trivial⟩,by simp [intOf];omega⟩
  ·obtain rfl:k=n:=by omega
   have HNO:Hid (¬v∈L):=getD_mem HN.out HK.out;go_wp2_with fail
   go_ret;exact ⟨⟨-1,rfl,fun h=>absurd h (by omega),fun h=>absurd h HNO.out⟩,rfl⟩
theorem Yeb (p:Option Addr) (n c:Nat) (L:List Int) (v:Int) (w:World) (hn:L.length=n) (hb:n≤1000000) (hs:Sl w p n (fun j=>.int .i64 (L.getD j 0))):
  Calls Tryz.prog 54 #[.slice p n c,.int .i64 v] w fun e w'=>e=.returned (.bool (decide (v∈L)))∧w'=w:=by
 have H:Hid (Calls Tryz.prog 80 #[.slice p n c,.int .i64 v] w fun e w'=>(∃r:Int,e=.returned (.int .i64 r)∧(0≤r↔v∈L))∧w'=w):=YgC p n c L v w hn hb hs;clear hs hn
 go_enter Tryz.func54,Tryz.ntmps54
 go_wp2_with fail
 refine H.out.mono ?_;rintro e w' ⟨⟨r,rfl,hr⟩,rfl⟩;by_cases h0:0≤r
 ·have hin:Hid (v∈L):=hr.1 h0;clear hr;go_wp2_with fail
  go_ret;exact ⟨by simp [hin.out],rfl⟩
 ·have hin:Hid (¬v∈L):=fun h=>h0 (hr.2 h);clear hr;go_wp2_with fail
  go_ret;exact ⟨by simp [hin.out];omega,rfl⟩
theorem YdJ (p:Option Addr) (n c:Nat) (L:List Int) (v:Int) (w:World) (hn:L.length=n) (hb:n≤1000000) (hs:Sl w p n (fun j=>.int .i64 (L.getD j 0))):
  Calls Tryz.prog 12 #[.slice p n c,.int .i64 v] w fun e w'=>e=.returned (.bool (decide (v∈L)))∧w'=w:=by
 have HS:Hid (Sl w p n (fun j=>.int .i64 (L.getD j 0))):=hs;have HN:Hid (L.length=n):=hn;clear hs hn
 go_enter Tryz.func12,Tryz.ntmps12
 go_wp2_with fail
 go_loopw [5] (fun i wr=>∃k:Nat,k≤n∧i=.int .i64 k∧Hid (∀j,j<k→L.getD j 0≠v)∧wr=w) (fun i _=>n-(intOf i).toNat)
 case atStart=>exact ⟨0,Nat.zero_le _,rfl,fun j hj=>absurd hj (by omega),rfl⟩
 case round=>
  obtain ⟨k,hk,rfl,HK,rfl⟩:=hrel;by_cases hlt:k<n
  ·have hli:(k:Int)<(n:Int):=by omega
   obtain ⟨b,o,rfl,hc⟩:=HS.out.at (show 0<n by omega);have c0:=hc k hlt;clear hc;obtain ⟨y,HY⟩:∃y,Hid (L.getD k 0=y):=⟨_,rfl⟩;rw [HY.out] at c0;by_cases he:y=v
   ·have HIN:Hid (v∈L):=getD_in HN.out hlt (HY.out.trans he);subst he;go_wp2_with fail
    go_ret;exact ⟨by simp [HIN.out],rfl⟩
   ·have HK2:Hid (∀j,j<k+1→L.getD j 0≠v):=fun j hj=>by
     rcases Nat.lt_or_ge j k with h|h
     ·exact HK.out j h
     ·obtain rfl:j=k:=by omega
      rw [HY.out];exact he
    go_wp2_with fail
    exact ⟨⟨k+1,by omega,by go_num,HK2,by first|rfl|trivial⟩,by simp [intOf];omega⟩
  ·obtain rfl:k=n:=by omega
   have HNO:Hid (¬v∈L):=getD_mem HN.out HK.out;go_wp2_with fail
   go_ret;exact ⟨by simp [HNO.out],rfl⟩
def Yd7 (P:Program) (f:FuncId):Prop:=∀(base g c n:Nat) (L:List Int) (w:World),L.length=n→0<n→n≤1000→base≤w.heap.size→w.ownsRow base 3 1 (.slice (some ⟨g,0,none⟩) n c) n (L.map (Value.int .i64 ·))→
 Calls P f #[.slice (some ⟨g,0,none⟩) n c] w fun e w'=>e=.returned (.tuple #[])∧Below base w w'∧∃L':List Int,L'.length=n∧(∀x,x∈L'↔x∈L)∧Sl w' (some ⟨g,0,none⟩) n (fun j=>.int .i64 (L'.getD j 0))
theorem Yh4:(Tryz.prog.info? 3).map (fun i=>(i.zero,i.size,i.bytes))=some (some (.int .i64 0),1,8):=by kernel_rfl
theorem Ydp {w w':World} {b e s n:Nat} {v:Value} {xs:List Value} (h:w.ownsRow b e s v n xs) (hb:∀g,v.ownBlock=some g→w'.heap[g]?=w.heap[g]?):w'.ownsRow b e s v n xs:=by
 rcases h with ⟨hl,hv|⟨g,cap,cur,rfl,hg,hh,h1⟩⟩
 ·exact ⟨hl,.inl hv⟩
 ·exact ⟨hl,.inr ⟨g,cap,cur,rfl,hg,(hb g rfl).trans hh,h1⟩⟩
theorem Ye7 {w:World} {base n c:Nat} {p:Option Addr} {L:List Int} (h:w.ownsRow base 3 1 (.slice p n c) n (L.map (Value.int .i64 ·))) (hn:L.length=n):Sl w p n (fun j=>.int .i64 (L.getD j 0)):=by
 have e:L.map (Value.int .i64 ·)=(List.range (n*1)).map fun j=>.int .i64 (L.getD j 0):=by
  subst hn;apply List.ext_getElem?;intro j;by_cases hj:j<L.length
  ·simp [hj]
  ·simp [hj]
 rw [e] at h;obtain ⟨p',c',e',-,-,hs⟩:=Zk h;injection e' with e1
 subst e1;rw [Nat.mul_one] at hs;exact hs
theorem Yh7 (hsort:Yd7 Tryz.prog 55) (nb eb k nC ce:Nat) (a:Option Addr) (fr to_:Nat→Int) (cell:Nat) (w:World) (h0:w.cell? ⟨nb,0,none⟩=some (.slice a k ce)) (ha:0<k→a=some ⟨eb,0,none⟩) (he:∀j,j<k→w.cell? ⟨eb,j*2,none⟩=some (.int .i64 (fr j))∧w.cell? ⟨eb,j*2+1,none⟩=some (.int .i64 (to_ j))) (hk:k≤1000) (hr:∀j,j<k→0≤fr j∧fr j<nC) (hnC:nC≤1000) (hcell:cell<nC):
  Calls Tryz.prog 29 #[.pointer (some ⟨nb,0,none⟩),.int .i64 cell] w fun e w'=>∃g c n,∃L:List Int,e=.returned (.slice (some ⟨g,0,none⟩) n c)∧w.heap.size≤g∧L.length=n∧n≤1000∧Below w.heap.size w w'∧Sl w' (some ⟨g,0,none⟩) n (fun j=>.int .i64 (L.getD j 0))∧(cell:Int)∈L∧(∀j,j<k→to_ j∈L→fr j∈L):=by
 have HE:Hid (w.cell? ⟨nb,0,none⟩=some (.slice a k ce)∧(0<k→a=some ⟨eb,0,none⟩)∧∀j,j<k→w.cell? ⟨eb,j*2,none⟩=some (.int .i64 (fr j))∧w.cell? ⟨eb,j*2+1,none⟩=some (.int .i64 (to_ j))):=⟨h0,ha,he⟩;have HS:Hid (Yd7 Tryz.prog 55):=hsort;have HRG:Hid (∀j,j<k→0≤fr j∧fr j<nC):=hr;have HW0:Hid (AbW nC k fr to_ cell [(cell:Int)] 0 0):=AbW.start (by omega);clear h0 ha he hsort hr;have HO0:Hid ((w.alloc (.cells #[.int .i64 cell] 3)).ownsRow w.heap.size 3 1 (.slice (some ⟨w.heap.size,0,none⟩) 1 1) 1 ([(cell:Int)].map (Value.int .i64 ·))∧Below w.heap.size w (w.alloc (.cells #[.int .i64 cell] 3))):=
  ⟨⟨rfl,.inr ⟨w.heap.size,1,#[.int .i64 cell],rfl,Nat.le_refl _,alloc_at rfl,Nat.le_refl _,by simp [maxLen],rfl,rfl⟩⟩,(Below.refl _ _).alloc (Nat.le_refl _) _⟩
 go_enter Tryz.func29,Tryz.ntmps29
 go_wp2_with fail
 go_loopw [5,6] (fun l i wr=>∃(at_ m:Nat) (g cb:Nat) (L:List Int),i=.int .i64 at_∧l=.slice (some ⟨g,0,none⟩) m cb∧at_≤m∧Hid (L.length=m∧AbW nC k fr to_ cell L at_ 0∧wr.ownsRow w.heap.size 3 1 (.slice (some ⟨g,0,none⟩) m cb) m (L.map (Value.int .i64 ·))∧Below w.heap.size w wr)) (fun _ i _=>nC-(intOf i).toNat)
 case atStart=>exact ⟨0,1,w.heap.size,1,[(cell:Int)],rfl,rfl,by omega,rfl,HW0.out,HO0.out.1,HO0.out.2⟩
 case round=>
  obtain ⟨at_,m,g,cb,L,rfl,rfl,ham,HR⟩:=hrel;have hmn:m≤nC:=by have:=HR.out.2.1.len;have:=HR.out.1;omega
  by_cases hlt:at_<m
  ·have hli:(at_:Int)<(m:Int):=by omega
   have g0:wr.cell? ⟨nb,0,none⟩=some (.slice a k ce):=Zc HR.out.2.2.2 _ _ HE.out.1;clear HW0 HO0;go_wp2_with fail
   go_loopw [5,22] (fun l i wr=>∃(x m:Nat) (g cb:Nat) (L:List Int),i=.int .i64 x∧l=.slice (some ⟨g,0,none⟩) m cb∧x≤k∧at_<m∧Hid (L.length=m∧AbW nC k fr to_ cell L at_ x∧wr.ownsRow w.heap.size 3 1 (.slice (some ⟨g,0,none⟩) m cb) m (L.map (Value.int .i64 ·))∧Below w.heap.size w wr)) (fun _ i _=>k-(intOf i).toNat)
   case atStart=>exact ⟨0,m,g,cb,L,rfl,rfl,Nat.zero_le _,hlt,HR⟩
   case round=>
    clear HR g0 hmn;obtain ⟨x,m,g,cb,L,rfl,rfl,hx,hlt2,HR⟩:=hrel;have hmn:m≤nC:=by have:=HR.out.2.1.len;have:=HR.out.1;omega
    by_cases hxl:x<k
    ·have hxi:(x:Int)<(k:Int):=by omega
     obtain rfl:a=some ⟨eb,0,none⟩:=HE.out.2.1 (by omega);have e0:wr.cell? ⟨eb,x*2,none⟩=some (.int .i64 (fr x)):=Zc HR.out.2.2.2 _ _ (HE.out.2.2 x hxl).1;have e1:wr.cell? ⟨eb,x*2+1,none⟩=some (.int .i64 (to_ x)):=Zc HR.out.2.2.2 _ _ (HE.out.2.2 x hxl).2;obtain ⟨fx,HFX⟩:∃fx,Hid (fr x=fx):=⟨_,rfl⟩;obtain ⟨tx,HTX⟩:∃tx,Hid (to_ x=tx):=⟨_,rfl⟩;rw [HFX.out] at e0;rw [HTX.out] at e1
     go_upto_region 8 with fail
     have HX:Hid (Below w.heap.size w (wr.alloc (.cells #[.int .i64 fx,.int .i64 tx] 151))∧(wr.alloc (.cells #[.int .i64 fx,.int .i64 tx] 151)).ownsRow w.heap.size 3 1 (.slice (some ⟨g,0,none⟩) m cb) m (L.map (Value.int .i64 ·))∧(wr.alloc (.cells #[.int .i64 fx,.int .i64 tx] 151)).cell? ⟨wr.heap.size,0,none⟩=some (.int .i64 fx)∧(wr.alloc (.cells #[.int .i64 fx,.int .i64 tx] 151)).cell? ⟨wr.heap.size,1,none⟩=some (.int .i64 tx)):=
      ⟨HR.out.2.2.2.alloc HR.out.2.2.2.size _,own_below HR.out.2.2.1 ((Below.refl _ _).alloc (Nat.le_refl _) _),by simp,by simp⟩
     have HL:Hid (L.length=m∧AbW nC k fr to_ cell L at_ x):=⟨HR.out.1,HR.out.2.1⟩;clear e0 e1 HR;generalize wr.alloc (.cells #[.int .i64 fx,.int .i64 tx] 151)=W3 at *;generalize wr.heap.size=gX at *;have x0:=HX.out.2.2.1;have x1:=HX.out.2.2.2;have HSL:Hid (Sl W3 (some ⟨g,0,none⟩) m (fun j=>.int .i64 (L.getD j 0))):=Ye7 HX.out.2.1 HL.out.1;obtain ⟨la,HLA⟩:∃la,Hid (L.getD at_ 0=la):=⟨_,rfl⟩;have c0:W3.cell? ⟨g,at_,none⟩=some (.int .i64 la):=by
      obtain ⟨b,o,e,hc⟩:=HSL.out.at (by omega);have e2:=Option.some.inj e;injection e2 with e3 e4
      subst e3 e4;have:=hc at_ hlt2;rw [Nat.zero_add,HLA.out] at this;exact this
     have hai:(at_:Int)<(m:Int):=by omega
     by_cases ht:tx=la
     ·by_cases hm:fx∈L
      ·have HN:Hid (L.length=m∧AbW nC k fr to_ cell L at_ (x+1)∧W3.ownsRow w.heap.size 3 1 (.slice (some ⟨g,0,none⟩) m cb) m (L.map (Value.int .i64 ·))∧Below w.heap.size w W3):=⟨HL.out.1,HL.out.2.pass (fun _=>by rw [HFX.out];exact hm),HX.out.2.1,HX.out.1⟩;subst ht;go_quiet (refine Calls.quiet_of_same (Yeb (some ⟨g,0,none⟩) m cb L fx _ HL.out.1 (by omega) (HSL.out.keep fun _ _ h=>h)))
       go_wp2_with fail
       exact ⟨⟨x+1,m,g,cb,L,by go_num,rfl,by omega,hlt2,HN.out.1,HN.out.2.1,Ydp HN.out.2.2.1 fun _ _=>rfl,below_drewN HN.out.2.2.2 _⟩,by simp [intOf];omega⟩
      ·subst ht;have HN:Hid (AbW nC k fr to_ cell (L++[fx]) at_ (x+1)):=by
        have h:=HL.out.2.add (by have:=HL.out.1;omega) (by rw [HFX.out];exact hm) (HRG.out x hxl);rw [HFX.out] at h;exact h
       go_quiet (refine Calls.quiet_of_same (Yeb (some ⟨g,0,none⟩) m cb L fx _ HL.out.1 (by omega) (HSL.out.keep fun _ _ h=>h)))
       have HX2:Hid (Below w.heap.size w (W3.drewN nq)∧(W3.drewN nq).ownsRow w.heap.size 3 1 (.slice (some ⟨g,0,none⟩) m cb) m (L.map (Value.int .i64 ·))∧(W3.drewN nq).cell? ⟨gX,0,none⟩=some (.int .i64 fx)):=⟨below_drewN HX.out.1 _,Ydp HX.out.2.1 fun _ _=>rfl,x0⟩;clear x0 x1 c0 HX HSL;generalize W3.drewN nq=W4 at *;have x0:=HX2.out.2.2;have OW:Hid (∀a,(W4.alloc a).ownsRow w.heap.size 3 1 (.slice (some ⟨g,0,none⟩) m cb) m (L.map (Value.int .i64 ·))):=fun a=>own_below HX2.out.2.1 ((Below.refl _ _).alloc (Nat.le_refl _) a);have HSz:Hid (∀a,w.heap.size≤(W4.alloc a).heap.size):=fun a=>by have:=HX2.out.1.size;simp;omega
       go_wp2_with (at_builtin;refine YX _ rfl _ _ 26 rfl w.heap.size 3 _ 1 8 Tryz.underlying26 Yh4 rfl (by omega) (.slice (some ⟨g,0,none⟩) m cb) m (L.map (Value.int .i64 ·)) rfl (by exact OW.out _) W4.heap.size [_] 3 rfl rfl (by exact alloc_at rfl) (by intro u hu;simp at hu;subst hu;rfl) (by simp only [maxLen];omega) (by omega) (by exact HSz.out _) ?_)
       intro g2 cp w1 hown hgrow _ _;have hown':w1.ownsRow w.heap.size 3 1 (.slice (some ⟨g2,0,none⟩) (m+1) cp) (m+1) ((L++[fx]).map (Value.int .i64 ·)):=by
        rw [List.map_append];exact hown
       have HN2:Hid ((L++[fx]).length=m+1∧AbW nC k fr to_ cell (L++[fx]) at_ (x+1)∧w1.ownsRow w.heap.size 3 1 (.slice (some ⟨g2,0,none⟩) (m+1) cp) (m+1) ((L++[fx]).map (Value.int .i64 ·))∧Below w.heap.size w w1):=⟨by rw [List.length_append,HL.out.1];rfl,HN.out,hown',(HX2.out.1.alloc HX2.out.1.size _).grown hgrow (by have:=HX2.out.1.size;simp;omega) (fun j hj=>(HX2.out.2.1.lt j hj).1)⟩;clear hown hown' hgrow;go_wp2_with fail
       exact ⟨⟨x+1,m+1,g2,cp,L++[fx],by go_num,by simp,by omega,by omega,HN2⟩,by simp [intOf];omega⟩
     ·have HN:Hid (L.length=m∧AbW nC k fr to_ cell L at_ (x+1)∧W3.ownsRow w.heap.size 3 1 (.slice (some ⟨g,0,none⟩) m cb) m (L.map (Value.int .i64 ·))∧Below w.heap.size w W3):=⟨HL.out.1,HL.out.2.pass (fun e=>absurd (HTX.out.symm.trans (e.trans HLA.out)) ht),HX.out.2.1,HX.out.1⟩;go_quiet (fail)
      go_wp2_with fail
      exact ⟨⟨x+1,m,g,cb,L,by go_num,rfl,by omega,hlt2,HN.out.1,HN.out.2.1,Ydp HN.out.2.2.1 fun _ _=>rfl,below_drewN HN.out.2.2.2 _⟩,by simp [intOf];omega⟩
    ·obtain rfl:x=k:=by omega
     have HN:Hid (L.length=m∧AbW nC x fr to_ cell L (at_+1) 0∧wr.ownsRow w.heap.size 3 1 (.slice (some ⟨g,0,none⟩) m cb) m (L.map (Value.int .i64 ·))∧Below w.heap.size w wr):=⟨HR.out.1,HR.out.2.1.next (by have:=HR.out.1;omega),HR.out.2.2⟩;clear HR;go_wp2_with fail
     exact ⟨⟨at_+1,m,g,cb,L,by go_num,rfl,by omega,HN⟩,by simp [intOf];omega⟩
  ·have hnl:¬(at_:Int)<(m:Int):=by omega
   have HC:Hid (Calls Tryz.prog 55 #[.slice (some ⟨g,0,none⟩) m cb] wr fun e w'=>e=.returned (.tuple #[])∧Below w.heap.size wr w'∧∃L':List Int,L'.length=m∧(∀x,x∈L'↔x∈L)∧Sl w' (some ⟨g,0,none⟩) m (fun j=>.int .i64 (L'.getD j 0))):=HS.out w.heap.size g cb m L wr HR.out.1 (by have:=HR.out.1;have:=List.length_pos_of_mem HR.out.2.1.has;omega) (by omega) HR.out.2.2.2.size HR.out.2.2.1;clear HW0 HO0;go_wp2_with (go_at_call 55;refine HC.out.mono ?_;rintro e w' ⟨rfl,hb1,L',hl1,hm1,hs1⟩)
   go_ret;exact ⟨g,cb,m,L',rfl,(HR.out.2.2.1.lt g rfl).1,hl1,by omega,HR.out.2.2.2.trans hb1,hs1,(hm1 _).2 HR.out.2.1.has,fun j hj hm=>(hm1 _).2 (HR.out.2.1.closed (by have:=HR.out.1;omega) j hj ((hm1 _).1 hm))⟩
end Go.Proofs.YtdoghgnifkgfdaaGreat
