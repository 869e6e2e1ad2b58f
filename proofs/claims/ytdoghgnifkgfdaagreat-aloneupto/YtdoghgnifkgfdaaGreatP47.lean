import Derived.Test.YtdoghgnifkgfdaaGreatP02
import Derived.Test.YtdoghgnifkgfdaaGreatP03
import Derived.Test.YtdoghgnifkgfdaaGreatP44
import Derived.Test.YtdoghgnifkgfdaaGreatP46
set_option maxRecDepth 100000
set_option maxHeartbeats 4000000
namespace Go.Proofs.YtdoghgnifkgfdaaGreat.Mute
open Go Go.Conc Go.RowKit
def Yr (w0:World) (bw n mm ff N:Nat) (w:World):Prop:=∃nE nW ks rs ve vw qc cc K Kb S S' xsE xsW,Yp w0 w bw n mm ff nE nW ks rs ve vw qc cc K Kb S S' xsE xsW∧nE≤N∧nW≤N
section
variable {w0 w w':World} {bw n mm ff nE nW cc N:Nat} {ks rs ve vw:Value} {qc:Option Addr} {K Kb:Nat→Nat} {S S':Nat→Nat→Prop} {xsE xsW:List Value}
theorem Yp.re (h:Yp w0 w bw n mm ff nE nW ks rs ve vw qc cc K Kb S S' xsE xsW) (τ:Nat→Question→Nat) (d0 d:Nat):Yp (reW w0 τ d0) (reW w τ d) bw n mm ff nE nW ks rs ve vw qc cc K Kb S S' xsE xsW:=
 ⟨⟨h.win.row,h.win.k,h.win.r,h.win.ne⟩,fun i hi=>(h.pr i hi).keep (fun _ _=>rfl) (Nat.le_refl _),h.ap,h.oE,h.oW,h.hE,h.hW,h.e4,h.w4,h.sp,h.us,h.lo,⟨h.ph.os,rfl,h.ph.output,h.ph.size,h.ph.block⟩⟩
theorem Yp.back {τ:Nat→Question→Nat} {d0 d:Nat} (h:Yp (reW w0 τ d0) (reW w τ d) bw n mm ff nE nW ks rs ve vw qc cc K Kb S S' xsE xsW) (d':Nat):Yp w0 (reW w w0.tape d') bw n mm ff nE nW ks rs ve vw qc cc K Kb S S' xsE xsW:=
 ⟨⟨h.win.row,h.win.k,h.win.r,h.win.ne⟩,fun i hi=>(h.pr i hi).keep (fun _ _=>rfl) (Nat.le_refl _),h.ap,h.oE,h.oW,h.hE,h.hW,h.e4,h.w4,h.sp,h.us,h.lo,⟨h.ph.os,rfl,h.ph.output,h.ph.size,h.ph.block⟩⟩
theorem Yr.back {τ:Nat→Question→Nat} {d0 d:Nat} (h:Yr (reW w0 τ d0) bw n mm ff N (reW w τ d)) (d':Nat):Yr w0 bw n mm ff N (reW w w0.tape d'):=by
 obtain ⟨nE,nW,ks,rs,ve,vw,qc,cc,K,Kb,S,S',xsE,xsW,h1,h2⟩:=h;exact ⟨nE,nW,ks,rs,ve,vw,qc,cc,K,Kb,S,S',xsE,xsW,h1.back d',h2⟩
theorem Yp.frameC (h:Yp w0 w bw n mm ff nE nW ks rs ve vw qc cc K Kb S S' xsE xsW) (hE:nE≤N) (hW:nW≤N) {i:Nat} (hi:i<n) {ip:Option Addr} {il ic:Nat} {zi:Nat→Int} (hin:Sl w ip (il*2) (fun j=>.int .i64 (zi j))) (hp:(ip=none∧il=0)∨∃ad,ip=some ad∧(il=0∨ad.block<w0.heap.size)) (hb:16*il≤140737488351232) (hmm:mm+1600≤1000000000) (hff:ff≤1000000000000):
  CallsR Tryz.prog 21 #[.pointer (some ⟨K i,0,none⟩),.pointer (some ⟨Kb i,0,none⟩),.slice ip il ic] w (fun v w'=>v=.bool true∧Yr w0 bw n (mm+206) (ff+1) N w'):=by
 refine ((h.pr i hi).frame hin (hp.imp id ?_) hb hmm hff).mono ?_
 ·rintro ⟨ad,e,hl⟩;refine ⟨ad,e,hl.imp id fun hl lb lo e2=>?_⟩;subst e2;have hl':lb<w0.heap.size:=hl;exact ⟨fun hS=>by have:=h.lo.2.2 i lb hi (.inl hS);omega,fun hS=>by have:=h.lo.2.2 i lb hi (.inr hS);omega⟩
 ·rintro v w' ⟨rfl,SK,SR,h1,h2,h3,h4⟩;exact ⟨rfl,nE,nW,ks,rs,ve,vw,qc,cc,K,Kb,_,_,xsE,xsW,h.frame hi (by omega) (by omega) h1 h2 h3 h4,hE,hW⟩
theorem Y5n (x:Value):Xn Tryz.prog plan 23 #[x]:=⟨by kernel_rfl,Yi plain Tryz.func23 (by kernel_rfl) _⟩
theorem Yp.stillC (h:Yp w0 w bw n mm ff nE nW ks rs ve vw qc cc K Kb S S' xsE xsW) (hE:nE≤1000000000000) (hW:nW≤1000000000000):
  CallsR Tryz.prog 23 #[.pointer (some ⟨bw,2,none⟩)] w (fun v w'=>v=.bool true∧Is w w'):=by
 refine CallsR.ofPlain (Y5n _) (fun v w'=>v=.bool true∧∃τ d,w'=reW w τ d) (fun τ=>((h.re τ 0 0).still hE hW).mono ?_) ?_
 ·rintro e w' ⟨rfl,rfl⟩;exact ⟨_,rfl,rfl,τ,0,rfl⟩
 ·rintro v w₁ τ d d' ⟨h1,τ',d'',h2⟩;refine ⟨h1,d',?_⟩;have e:reW w₁ w.tape d'=reW (reW w₁ τ d) w.tape d':=rfl;rw [e,h2];rfl
theorem Y6x (x y:Value):Xn Tryz.prog plan 20 #[x,y]:=⟨by kernel_rfl,Yi plain Tryz.func20 (by kernel_rfl) _⟩
theorem Y7w (x y z u:Value):Xn Tryz.prog plan 22 #[x,y,z,u]:=⟨by kernel_rfl,Yi plain Tryz.func22 (by kernel_rfl) _⟩
theorem YaH (x y:Value):Xn Tryz.prog plan 18 #[x,y]:=⟨by kernel_rfl,Yi plain Tryz.func18 (by kernel_rfl) _⟩
theorem Yp.asksC (h:Yp w0 w bw n mm ff nE nW ks rs ve vw qc cc K Kb S S' xsE xsW) (hE:nE≤N) (hW:nW≤N) (hN:N≤1000000000) (hmm:mm≤1000000000) {i:Nat} (hi:i<n) {kd:Int} (hk:kd=3∨kd=4∨kd=5) (a q:Int) (p0 p1 p2 p3 p4:Option Addr) (l0 l1 l2 l3 l4 c0 c1 c2 c3 c4:Nat):
  CallsR Tryz.prog 22 #[.pointer (some ⟨bw,0,none⟩),.pointer (some ⟨K i,0,none⟩),.pointer (some ⟨Kb i,0,none⟩),.agg #[.int .i64 kd,.int .i64 a,.int .i64 q,.slice p0 l0 c0,.slice p1 l1 c1,.slice p2 l2 c2,.slice p3 l3 c3,.slice p4 l4 c4]] w (fun v w'=>v=.bool true∧Yr w0 bw n mm ff (N+4) w'):=by
 have ht:=h.ph.tape;refine CallsR.ofPlain (Y7w _ _ _ _) (fun v w'=>v=.bool true∧∃w2 τ d,w'=reW w2 τ d∧Yr (reW w0 τ 0) bw n mm ff (N+4) (reW w2 τ d)) (fun τ=>?_) ?_
 ·have hr:=h.re τ 0 0;have hp:=hr.pr i hi;have out:∀w',Yr (reW w0 τ 0) bw n mm ff (N+4) w'→∃w2 τ' d,w'=reW w2 τ' d∧Yr (reW w0 τ' 0) bw n mm ff (N+4) (reW w2 τ' d):=fun w' hw=>by
   have e:w'=reW w' τ w'.drawn:=by
    obtain ⟨_,_,_,_,_,_,_,_,_,_,_,_,_,_,h1,_⟩:=hw;have e1:w'.tape=τ:=h1.ph.tape;rw [←e1];rfl
   exact ⟨w',τ,w'.drawn,e,e▸hw⟩
  rcases hk with rfl|rfl|rfl
  ·refine (hp.trace bw nE a q p0 p1 p2 p3 p4 l0 l1 l2 l3 l4 c0 c1 c2 c3 c4 ve xsE _ hr.win.row rfl hr.oE (Jh hr.oE hr.win.row (by decide)) (by omega) hmm).mono ?_;rintro e w' ⟨rfl,ve',us,Sz,base,h1,h2,h3,h4⟩;exact ⟨_,rfl,rfl,out w' ⟨_,_,_,_,_,_,_,_,_,_,_,_,_,_,hr.keepE h1 h2 h3 h4,by omega,by omega⟩⟩
  ·refine (hp.memory bw nW a q p0 p1 p2 p3 p4 l0 l1 l2 l3 l4 c0 c1 c2 c3 c4 vw xsW _ hr.win.row rfl hr.oW (Jh hr.oW hr.win.row (by decide)) (by omega)).mono ?_;rintro e w' ⟨rfl,ve',us,Sz,base,h1,h2,h3,h4⟩;exact ⟨_,rfl,rfl,out w' ⟨_,_,_,_,_,_,_,_,_,_,_,_,_,_,hr.keepW h1 h2 h3 h4,by omega,by omega⟩⟩
  ·refine (hp.stats bw a q p0 p1 p2 p3 p4 l0 l1 l2 l3 l4 c0 c1 c2 c3 c4).mono ?_;rintro e w' ⟨rfl,h1⟩;exact ⟨_,rfl,rfl,out w' ⟨_,_,_,_,_,_,_,_,_,_,_,_,_,_,hr.below h1,by omega,by omega⟩⟩
 ·rintro v w₁ τ d d' ⟨h1,w2,τ',d2,h2,h3⟩;refine ⟨h1,?_⟩;rw [ht];have e:reW w₁ w0.tape d'=reW (reW w₁ τ d) w0.tape d':=rfl;rw [e,h2];exact h3.back d'
theorem Y4S (c:Int) (n:Nat) (w:World) (hn:0<n) (hn':n≤1000000000000) (h1:-9223372036854775808≤c) (h2:c≤9223372036854775807):
  CallsR Tryz.prog 20 #[.int .i64 c,.int .i64 n] w (fun v w'=>v=.int .i64 (XX c n:Nat)∧Is w w'):=by
 refine CallsR.ofPlain (Y6x _ _) (fun v w'=>v=.int .i64 (XX c n:Nat)∧∃τ d,w'=reW w τ d) (fun τ=>(Yal c n _ hn hn' h1 h2).mono ?_) ?_
 ·rintro e w' ⟨rfl,rfl⟩;exact ⟨_,rfl,rfl,τ,0,rfl⟩
 ·rintro v w₁ τ d d' ⟨h1,τ',d'',h2⟩;refine ⟨h1,d',?_⟩;have e:reW w₁ w.tape d'=reW (reW w₁ τ d) w.tape d':=rfl;rw [e,h2];rfl
theorem Yp.madeC (h:Yp w0 w bw n mm ff nE nW ks rs ve vw qc cc K Kb S S' xsE xsW) (hE:nE≤N) (hW:nW≤N) {c:Cfg} {v0 v1 v2 v3:Value} (hcf:∀w',(∀b,b<w.heap.size→¬RZ bw ks rs b→w'.heap[b]?=w.heap[b]?)→CfgR w' v0 v1 v2 v3 c) (hcw:CfgW c) (hch:c.nCh=0) (hd:c.nD=0) (hn:n≤8796093022208):
  CallsR Tryz.prog 18 #[.pointer (some ⟨bw,0,none⟩),.agg #[v0,v1,v2,v3]] w (fun v w'=>v=.bool true∧((Y8 c 0 0∧Yr w0 bw (n+1) mm ff N w')∨(¬Y8 c 0 0∧Yr w0 bw n mm ff N w'))):=by
 have ht:=h.ph.tape;have hk0:(∀i,i<c.nC→c.codeN i=true→c.nCode i=0)∧∀i,i<c.nC→c.imgN i=true→c.nImg i=0:=by
  obtain ⟨⟨p0,cap0,F0,-,-,n0,z0,b0,-,k0⟩,-⟩:=hcf w (fun _ _ _=>rfl);refine ⟨fun i hi he=>?_,fun i hi he=>?_⟩
  ·obtain ⟨⟨pi,capi,_,-,ni,zi,bi,-⟩,-⟩:=k0 i hi;exact (zi (ni.2 he)).1
  ·obtain ⟨-,⟨pi,capi,_,-,ni,zi,bi,-⟩,-⟩:=k0 i hi;exact (zi (ni.2 he)).1
 refine CallsR.ofPlain (YaH _ _) (fun v w'=>v=.bool true∧∃w2 τ d,w'=reW w2 τ d∧((Y8 c 0 0∧Yr (reW w0 τ 0) bw (n+1) mm ff N (reW w2 τ d))∨(¬Y8 c 0 0∧Yr (reW w0 τ 0) bw n mm ff N (reW w2 τ d)))) (fun τ=>?_) ?_
 ·have hr:=h.re τ 0 0;have out:∀(m:Nat) (w':World),Yr (reW w0 τ 0) bw m mm ff N w'→w'=reW w' τ w'.drawn:=fun m w' hw=>by
   obtain ⟨_,_,_,_,_,_,_,_,_,_,_,_,_,_,h1,_⟩:=hw;have e1:w'.tape=τ:=h1.ph.tape;rw [←e1];rfl
  refine (Y9H c v0 v1 v2 v3 bw n ks rs ve vw (.slice qc 0 cc) _ _ (reW w τ 0) (fun w' hb=>hcf w' hb.block) hcw hr.win hn).mono ?_;rintro e w' ⟨rfl,hm⟩;by_cases hck:Y8 c 0 0
  ·obtain ⟨ks',rs',a,b',ST,ST',m1,m2,m3,m4,m5⟩:=Y8u hm hr.win hck hch hd hk0.1 hk0.2;have hI:Yr (reW w0 τ 0) bw (n+1) mm ff N w':=⟨_,_,_,_,_,_,_,_,_,_,_,_,_,_,hr.made m1 m2 m3 m4 m5,hE,hW⟩;have e:=out _ w' hI;exact ⟨_,rfl,rfl,w',τ,w'.drawn,e,.inl ⟨hck,e▸hI⟩⟩
  ·rcases hm with ⟨-,hm⟩|⟨hm,-⟩
   ·have hI:Yr (reW w0 τ 0) bw n mm ff N w':=⟨_,_,_,_,_,_,_,_,_,_,_,_,_,_,hr.below hm,hE,hW⟩;have e:=out _ w' hI;exact ⟨_,rfl,rfl,w',τ,w'.drawn,e,.inr ⟨hck,e▸hI⟩⟩
   ·exact absurd hm hck
 ·rintro v w₁ τ d d' ⟨h1,w2,τ',d2,h2,h3⟩;refine ⟨h1,?_⟩;rw [ht];have e:reW w₁ w0.tape d'=reW (reW w₁ τ d) w0.tape d':=rfl;rw [e,h2];exact h3.imp (fun q=>⟨q.1,q.2.back d'⟩) (fun q=>⟨q.1,q.2.back d'⟩)
theorem Yp.agree (h:Yp w0 w bw n mm ff nE nW ks rs ve vw qc cc K Kb S S' xsE xsW) (hb:∀b,b<w.heap.size→¬RZ bw ks rs b→w'.heap[b]?=w.heap[b]?) {b:Nat} (hl:b<w0.heap.size):w'.heap[b]?=w0.heap[b]?:=by
 refine (hb b (Nat.lt_of_lt_of_le hl h.ph.size) (fun q=>?_)).trans (h.ph.block b hl (by omega));have:=h.lo.1;rcases q with q|q|q
 ·omega
 ·have:=(h.win.k.lt b q).1;omega
 ·have:=(h.win.r.lt b q).1;omega
theorem Yp.start (hr:RowF w bw 5 79 (cells5 (.slice none 0 0) (.slice none 0 0) (.slice none 0 0) (.slice none 0 0) (.slice none 0 0))) (hlo:w0.heap.size≤bw) (hb:But (fun b=>w0.heap.size≤b) w0 w):
  Yp w0 w bw 0 0 0 0 0 (.slice none 0 0) (.slice none 0 0) (.slice none 0 0) (.slice none 0 0) none 0 (fun _=>0) (fun _=>0) (fun _ _=>False) (fun _ _=>False) [] []:=
 ⟨⟨hr,World.ownsRow_nil _ _ _ _,World.ownsRow_nil _ _ _ _,fun g hg=>by simp [Value.ownBlock] at hg⟩,fun i hi=>absurd hi (Nat.not_lt_zero _),fun i j b hi=>absurd hi (Nat.not_lt_zero _),World.ownsRow_nil _ _ _ _,World.ownsRow_nil _ _ _ _,fun i u hu=>by simp at hu,fun i u hu=>by simp at hu,rfl,rfl,fun b _ i hi=>absurd hi (Nat.not_lt_zero _),fun u hu=>by simp at hu,⟨hlo,fun b hb=>by simp [Value.ownBlock] at hb,fun i b hi=>absurd hi (Nat.not_lt_zero _)⟩,hb⟩
end
end Go.Proofs.YtdoghgnifkgfdaaGreat.Mute
namespace Go.Proofs.YtdoghgnifkgfdaaGreat
open Go.RowKit
def Yz:Cfg where
 cellsN:=false
 nC:=1
 lim:=fun _=>0
 codeN:=fun _=>false
 nCode:=fun _=>3
 code:=fun _ j=>if j=0 then 1 else if j=3 then 7 else if j=4 then 15 else 0
 imgN:=fun _=>true
 nImg:=fun _=>0
 img:=fun _ _=>0
 tableN:=false
 nT:=1
 rowN:=fun _=>false
 nRow:=fun _=>1
 row:=fun _ j=>if j=1 then 10 else 0
 chN:=true
 nCh:=0
 ch:=fun _=>0
 dvN:=true
 nD:=0
 dv:=fun _=>0
theorem Y8e (w:World):
  Calls Tryz.prog 19 #[] w fun e w'=>∃v0 v1 v2 v3,e=.returned (.agg #[v0,v1,v2,v3])∧(∀w'':World,(∀a v,w.heap.size≤a.block→w'.cell? a=some v→w''.cell? a=some v)→CfgR w'' v0 v1 v2 v3 Yz)∧Below w.heap.size w w':=by
 go_enter Tryz.func19,Tryz.ntmps19
 go_wp2_with fail
 have HROW:Hid (∀o1 o2 o3 o4,((((((w.alloc (.cells #[.slice (some ⟨w.heap.size+1+1,0,none⟩) 1 1,.slice (some ⟨w.heap.size+1+1+1+1,0,none⟩) 1 1,.slice none 0 0,.slice none 0 0] 28)).alloc o1).alloc o2).alloc o3).alloc o4).heap[w.heap.size]?=some (.cells #[.slice (some ⟨w.heap.size+1+1,0,none⟩) 1 1,.slice (some ⟨w.heap.size+1+1+1+1,0,none⟩) 1 1,.slice none 0 0,.slice none 0 0] 28 (0,0)))):=fun o1 o2 o3 o4=>JY (((((row4 w _ _ _ _ _).alloc o1).alloc o2).alloc o3).alloc o4);refine bodyPost_ret (results_cell_row (P:=Tryz.prog) rfl _ _ w.heap.size 28 #[.slice (some ⟨w.heap.size+1+1,0,none⟩) 1 1,.slice (some ⟨w.heap.size+1+1+1+1,0,none⟩) 1 1,.slice none 0 0,.slice none 0 0] (0,0) _ rfl (HROW.out _ _ _ _) Tryz.underlying28 rfl Y03) rfl ?_;refine ⟨_,_,_,_,rfl,fun w'' hk=>⟨?_,?_,?_,?_⟩,((((Below.refl _ _).alloc (Nat.le_refl _) _).alloc (by simp) _).alloc (by simp;omega) _ |>.alloc (by simp;omega) _).alloc (by simp;omega) _⟩
 ·refine ⟨some ⟨w.heap.size+1+1,0,none⟩,1,fun j=>if j=0 then .slice (some ⟨w.heap.size+1,0,none⟩) 3 3 else if j=1 then .slice none 0 0 else .int .i64 0,rfl,Nat.le_refl _,by simp [Yz],by simp,by decide,.inr ⟨_,_,rfl,fun j hj=>?_⟩,fun i hi=>?_⟩
  ·have:j=0∨j=1∨j=2:=by simp [Yz] at hj;omega
   refine hk _ _ (by show _≤w.heap.size+1+1;omega) ?_;rcases this with rfl|rfl|rfl<;>simp [go_sem]
  ·obtain rfl:i=0:=by simp [Yz] at hi;omega
   refine ⟨⟨some ⟨w.heap.size+1,0,none⟩,3,rfl,Nat.le_refl _,by simp [Yz],by simp,by decide,.inr ⟨_,_,rfl,fun j hj=>?_⟩⟩,⟨none,0,rfl,Nat.le_refl _,by simp [Yz],fun _=>⟨rfl,rfl⟩,by decide,.inl rfl⟩,rfl⟩;have:j=0∨j=1∨j=2∨j=3∨j=4∨j=5∨j=6∨j=7∨j=8∨j=9∨j=10∨j=11:=by simp [Yz] at hj;omega
   refine hk _ _ (by show _≤w.heap.size+1;omega) ?_;rcases this with rfl|rfl|rfl|rfl|rfl|rfl|rfl|rfl|rfl|rfl|rfl|rfl<;>simp [go_sem,Yz]
 ·refine ⟨some ⟨w.heap.size+1+1+1+1,0,none⟩,1,fun _=>.slice (some ⟨w.heap.size+1+1+1,0,none⟩) 1 1,rfl,Nat.le_refl _,by simp [Yz],by simp,by decide,.inr ⟨_,_,rfl,fun j hj=>?_⟩,fun i hi=>?_⟩
  ·obtain rfl:j=0:=by simp [Yz] at hj;omega
   refine hk _ _ (by show _≤w.heap.size+1+1+1+1;omega) ?_;simp [go_sem]
  ·refine ⟨some ⟨w.heap.size+1+1+1,0,none⟩,1,rfl,Nat.le_refl _,by simp [Yz],by simp,by simp [Yz],.inr ⟨_,_,rfl,fun j hj=>?_⟩⟩;have:j=0∨j=1:=by simp [Yz] at hj;omega
   refine hk _ _ (by show _≤w.heap.size+1+1+1;omega) ?_;rcases this with rfl|rfl<;>simp [go_sem,Yz]
 ·exact ⟨none,0,rfl,Nat.le_refl _,by simp [Yz],fun _=>⟨rfl,rfl⟩,by decide,.inl rfl⟩
 ·exact ⟨none,0,rfl,Nat.le_refl _,by simp [Yz],fun _=>⟨rfl,rfl⟩,by decide,.inl rfl⟩
end Go.Proofs.YtdoghgnifkgfdaaGreat
namespace Go.Proofs.YtdoghgnifkgfdaaGreat.Mute
open Go Go.Conc Go.RowKit
theorem Y6J:Xn Tryz.prog plan 19 #[]:=⟨by kernel_rfl,Yi plain Tryz.func19 (by kernel_rfl) _⟩
theorem Yaz (w:World):CallsR Tryz.prog 19 #[] w (fun v w'=>∃v0 v1 v2 v3,v=.agg #[v0,v1,v2,v3]∧(∀w'':World,(∀b,w.heap.size≤b→b<w'.heap.size→w''.heap[b]?=w'.heap[b]?)→CfgR w'' v0 v1 v2 v3 Yz)∧Below w.heap.size w w'):=by
 refine CallsR.ofPlain Y6J (fun v w'=>∃v0 v1 v2 v3,v=.agg #[v0,v1,v2,v3]∧(∀w'':World,(∀b,w.heap.size≤b→b<w'.heap.size→w''.heap[b]?=w'.heap[b]?)→CfgR w'' v0 v1 v2 v3 Yz)∧w'.os=w.os∧w'.output=w.output∧w.heap.size≤w'.heap.size∧∀b,b<w.heap.size→w'.heap[b]?=w.heap[b]?) (fun τ=>(Y8e (reW w τ 0)).mono ?_) ?_
 ·rintro e w' ⟨v0,v1,v2,v3,rfl,h1,h2⟩;refine ⟨_,rfl,v0,v1,v2,v3,rfl,fun w'' hk=>h1 w'' fun a v ha hc=>?_,h2.os,h2.output,h2.size,h2.block⟩;have hh:=hk a.block ha (block_lt_of_cell hc);unfold World.cell? at hc ⊢;rw [hh];exact hc
 ·rintro v w₁ τ d d' ⟨v0,v1,v2,v3,rfl,h1,h2,h3,h4,h5⟩;exact ⟨v0,v1,v2,v3,rfl,h1,⟨h2,rfl,h3,h4,h5⟩⟩
theorem Y61:Y8 Yz 0 0:=by
 unfold Y8;refine .inr (.inr (.inr (.inr (.inr (.inr (.inr (.inr ⟨?_,?_,fun i hi=>?_,?_,fun i hi=>?_,?_,fun i hi=>?_,fun i hi=>?_,rfl,rfl⟩)))))))
 ·simp [NCok,Yz]
 ·simp [NTok,Yz]
 ·have hi':i<1:=hi;obtain rfl:i=0:=by omega
  refine ⟨by simp [Yz],fun j hj=>?_,?_⟩
  ·have hj':j<1:=hj;obtain rfl:j=0:=by omega
   simp [Yz,J7]
  ·simp [Yz,sumTo]
 ·simp [Yz]
 ·exact absurd hi (Nat.not_lt_zero _)
 ·simp [Yz]
 ·exact absurd hi (Nat.not_lt_zero _)
 ·have hi':i<1:=hi;obtain rfl:i=0:=by omega
  refine ⟨by simp [Yz],by simp [Yz],by simp [Yz],fun j hj=>?_⟩;have hj':j<3:=hj;have:j=0∨j=1∨j=2:=by omega
  rcases this with rfl|rfl|rfl<;>simp [Yz,XO,Xe]
theorem Ybi:CfgW Yz:=by
 intro i hi j hj;obtain rfl:i=0:=by simp [Yz] at hi;omega
 simp only [Yz] at hj;have:j=0∨j=1∨j=2∨j=3∨j=4∨j=5∨j=6∨j=7∨j=8∨j=9∨j=10∨j=11:=by omega
 rcases this with rfl|rfl|rfl|rfl|rfl|rfl|rfl|rfl|rfl|rfl|rfl|rfl<;>simp [Yz]
structure ScOp where
 kd:Int
 at_:Int
 q:Int
 p:Nat→Option Addr
 l:Nat→Nat
 c:Nat→Nat
 cf:Cfg
 zi:Nat→Int
def ScOp.cell (o:ScOp):Nat→Value:=YI (.int .i64 o.kd) (.int .i64 o.at_) (.int .i64 o.q) (.slice (o.p 0) (o.l 0) (o.c 0)) (.slice (o.p 1) (o.l 1) (o.c 1)) (.slice (o.p 2) (o.l 2) (o.c 2)) (.slice (o.p 3) (o.l 3) (o.c 3)) (.slice (o.p 4) (o.l 4) (o.c 4))
structure ScOk (w0:World) (o:ScOp):Prop where
 lo:-9223372036854775808≤o.at_
 hi:o.at_≤9223372036854775807
 cfg:o.kd=1→(∀w':World,(∀b,b<w0.heap.size→w'.heap[b]?=w0.heap[b]?)→CfgR w' (.slice (o.p 0) (o.l 0) (o.c 0)) (.slice (o.p 1) (o.l 1) (o.c 1)) (.slice (o.p 2) (o.l 2) (o.c 2)) (.slice (o.p 3) (o.l 3) (o.c 3)) o.cf)∧CfgW o.cf∧o.cf.nCh=0∧o.cf.nD=0
 ins:∀w':World,(∀b,b<w0.heap.size→w'.heap[b]?=w0.heap[b]?)→Sl w' (o.p 4) (o.l 4*2) (fun j=>.int .i64 (o.zi j))
 inp:(o.p 4=none∧o.l 4=0)∨∃ad,o.p 4=some ad∧(o.l 4=0∨ad.block<w0.heap.size)
 inb:16*o.l 4≤140737488351232
structure ScR (w0:World) (lp:Option Addr) (len:Nat) (o:Nat→ScOp):Prop where
 cells:∀i,i<len→∃lb lo,lp=some ⟨lb,lo,none⟩∧lb<w0.heap.size∧∀j,j<8→w0.cell? ⟨lb,lo+i*8+j,none⟩=some ((o i).cell j)
 ok:∀i,i<len→ScOk w0 (o i)
section
variable {w0 w w':World} {bw n mm ff nE nW cc N:Nat} {ks rs ve vw:Value} {qc:Option Addr} {K Kb:Nat→Nat} {S S':Nat→Nat→Prop} {xsE xsW:List Value}
theorem Yr.le (h:Yr w0 bw n mm ff N w) {m2 f2 N2:Nat} (h1:mm≤m2) (h2:ff≤f2) (h3:N≤N2):Yr w0 bw n m2 f2 N2 w:=by
 obtain ⟨nE,nW,ks,rs,ve,vw,qc,cc,K,Kb,S,S',xsE,xsW,h,hE,hW⟩:=h;exact ⟨nE,nW,ks,rs,ve,vw,qc,cc,K,Kb,S,S',xsE,xsW,⟨h.win,fun i hi=>(h.pr i hi).le h1 h2,h.ap,h.oE,h.oW,h.hE,h.hW,h.e4,h.w4,h.sp,h.us,h.lo,h.ph⟩,by omega,by omega⟩
theorem Yr.is (h:Yr w0 bw n mm ff N w) (hi:Is w w'):Yr w0 bw n mm ff N w':=by
 obtain ⟨d,rfl⟩:=hi;obtain ⟨nE,nW,ks,rs,ve,vw,qc,cc,K,Kb,S,S',xsE,xsW,h,hN⟩:=h;exact ⟨nE,nW,ks,rs,ve,vw,qc,cc,K,Kb,S,S',xsE,xsW,⟨⟨h.win.row,h.win.k,h.win.r,h.win.ne⟩,fun i hi=>(h.pr i hi).keep (fun _ _=>rfl) (Nat.le_refl _),h.ap,h.oE,h.oW,h.hE,h.hW,h.e4,h.w4,h.sp,h.us,h.lo,⟨h.ph.os,h.ph.tape,h.ph.output,h.ph.size,h.ph.block⟩⟩,hN⟩
theorem Yr.below (h:Yr w0 bw n mm ff N w) (hb:Below w.heap.size w w'):Yr w0 bw n mm ff N w':=by
 obtain ⟨nE,nW,ks,rs,ve,vw,qc,cc,K,Kb,S,S',xsE,xsW,h,hN⟩:=h;exact ⟨nE,nW,ks,rs,ve,vw,qc,cc,K,Kb,S,S',xsE,xsW,h.below hb,hN⟩
theorem Yr.old (h:Yr w0 bw n mm ff N w) {b:Nat} (hb:b<w0.heap.size):w.heap[b]?=w0.heap[b]?:=by
 obtain ⟨nE,nW,ks,rs,ve,vw,qc,cc,K,Kb,S,S',xsE,xsW,h,hN⟩:=h;exact h.ph.block b hb (by omega)
theorem ScR.at {lp:Option Addr} {len:Nat} {o:Nat→ScOp} (hs:ScR w0 lp len o) (h:Yr w0 bw n mm ff N w) {i:Nat} (hi:i<len):∃lb lo,lp=some ⟨lb,lo,none⟩∧lb<w0.heap.size∧∀j,j<8→w.cell? ⟨lb,lo+i*8+j,none⟩=some ((o i).cell j):=by
 obtain ⟨lb,lo,h1,h2,h3⟩:=hs.cells i hi;exact ⟨lb,lo,h1,h2,fun j hj=>(cell_of_heap (a:=⟨lb,lo+i*8+j,none⟩) (h.old h2)).trans (h3 j hj)⟩
theorem Yp.kern (h:Yp w0 w bw n mm ff nE nW ks rs ve vw qc cc K Kb S S' xsE xsW) (hn:0<n):∃gk ck gr cr,ks=.slice (some ⟨gk,0,none⟩) n ck∧rs=.slice (some ⟨gr,0,none⟩) n cr∧w.cell? ⟨bw,0,none⟩=some (.slice (some ⟨gk,0,none⟩) n ck)∧w.cell? ⟨bw,1,none⟩=some (.slice (some ⟨gr,0,none⟩) n cr)∧∀i,i<n→w.cell? ⟨gk,i,none⟩=some (.pointer (some ⟨K i,0,none⟩))∧w.cell? ⟨gr,i,none⟩=some (.pointer (some ⟨Kb i,0,none⟩)):=by
 have hk:=h.win.k;have hr:=h.win.r;have r0:=h.win.row.cell (j:=0) (by omega);have r1:=h.win.row.cell (j:=1) (by omega);obtain ⟨gk,ck,rfl,-,-⟩:=hk.form hn;obtain ⟨gr,cr,rfl,-,-⟩:=hr.form hn;exact ⟨gk,ck,gr,cr,rfl,rfl,r0,r1,fun i hi=>⟨XC hk (by simp [ptrL,hi]),XC hr (by simp [ptrL,hi])⟩⟩
end
def ScOp.cut (o:ScOp):ScOp:=if o.kd=1 then {o with p:=fun i=>if i=2∨i=3 then none else o.p i,l:=fun i=>if i=2∨i=3 then 0 else o.l i,c:=fun i=>if i=2∨i=3 then 0 else o.c i,cf:={o.cf with chN:=true,nCh:=0,dvN:=true,nD:=0}} else o
def ScOp.eight (o:ScOp):List Value:=[.int .i64 o.kd,.int .i64 o.at_,.int .i64 o.q,.slice (o.p 0) (o.l 0) (o.c 0),.slice (o.p 1) (o.l 1) (o.c 1),.slice (o.p 2) (o.l 2) (o.c 2),.slice (o.p 3) (o.l 3) (o.c 3),.slice (o.p 4) (o.l 4) (o.c 4)]
def opsL (o:Nat→ScOp):Nat→List Value
 |0=>[]
 |n+1=>opsL o n++(o n).eight
theorem Y0O (o:Nat→ScOp):∀n,(opsL o n).length=n*8
 |0=>rfl
 |n+1=>by simp [opsL,Y0O o n,ScOp.eight];omega
theorem Y9P (o:ScOp) {j:Nat} (hj:j<8):o.eight[j]?=some (o.cell j):=by
 have:j=0∨j=1∨j=2∨j=3∨j=4∨j=5∨j=6∨j=7:=by omega
 rcases this with rfl|rfl|rfl|rfl|rfl|rfl|rfl|rfl<;>rfl
theorem Y4y (o:Nat→ScOp) {i j:Nat} (hj:j<8):∀{n:Nat},i<n→(opsL o n)[i*8+j]?=some ((o i).cell j)
 |0,h=>absurd h (by omega)
 |n+1,h=>by
  show (opsL o n++(o n).eight)[i*8+j]?=_;by_cases hi:i<n
  ·rw [List.getElem?_append_left (by rw [Y0O];omega)];exact Y4y o hj hi
  ·obtain rfl:i=n:=by omega
   rw [List.getElem?_append_right (by rw [Y0O];omega),Y0O,show i*8+j-i*8=j by omega];exact Y9P _ hj
theorem Y4o:(Tryz.prog.info? 31).map (fun i=>(i.zero,i.size,i.bytes))=some (some (.agg #[.int .i64 0,.int .i64 0,.int .i64 0,.slice none 0 0,.slice none 0 0,.slice none 0 0,.slice none 0 0,.slice none 0 0]),8,144):=by kernel_rfl
structure Za (W w:World) (o:Nat→ScOp) (k:Nat) (v:Value):Prop where
 os:w.os=W.os
 out:w.output=W.output
 size:W.heap.size≤w.heap.size
 old:∀b,b<W.heap.size→w.heap[b]?=W.heap[b]?
 own:w.ownsRow W.heap.size 31 8 v k (opsL o k)
theorem Y4x (w:World) (o:Obj):(w.alloc o).heap.size=w.heap.size+1:=by simp
theorem Za.next {W w w':World} {a b:Obj} {o:Nat→ScOp} {k cl g cp:Nat} {pl:Option Addr} {e8:List Value} (h:Za W w o k (.slice pl k cl)) (hg:((w.alloc a).alloc b).grownBy w' (Value.ownBlock (.slice pl k cl))) (he:(o k).eight=e8) (hown:w'.ownsRow W.heap.size 31 8 (.slice (some ⟨g,0,none⟩) (k+1) cp) (k+1) (opsL o k++e8)):Za W w' o (k+1) (.slice (some ⟨g,0,none⟩) (k+1) cp):=by
 have hB:Below W.heap.size W W:=Below.refl _ _;have hsz:=h.size;have hb2:Below w.heap.size w ((w.alloc a).alloc b):=((Below.refl _ _).alloc (Nat.le_refl _) a).alloc (by simp) b;refine ⟨hg.os.trans (hb2.os.trans h.os),hg.output.trans (hb2.output.trans h.out),Nat.le_trans h.size (Nat.le_trans hb2.size hg.size),fun x hx=>?_,by subst he;exact hown⟩;rw [hg.block x (by have:=hb2.size;omega) (fun e=>?_),hb2.block x (by omega)]
 ·exact h.old x hx
 ·have:=(h.own.lt x e.symm).1;omega
theorem Y4R {o:Nat→ScOp} {k:Nat} {p:ScOp} (h:o k=p) (h1:p.kd=1):((fun i=>(o i).cut) k).eight=[.int .i64 1,.int .i64 p.at_,.int .i64 p.q,.slice (p.p 0) (p.l 0) (p.c 0),.slice (p.p 1) (p.l 1) (p.c 1),.slice none 0 0,.slice none 0 0,.slice (p.p 4) (p.l 4) (p.c 4)]:=by
 subst h;simp [ScOp.cut,ScOp.eight,h1]
theorem YaL {o:Nat→ScOp} {k:Nat} {p:ScOp} (h:o k=p) (h1:¬p.kd=1):((fun i=>(o i).cut) k).eight=[.int .i64 p.kd,.int .i64 p.at_,.int .i64 p.q,.slice (p.p 0) (p.l 0) (p.c 0),.slice (p.p 1) (p.l 1) (p.c 1),.slice (p.p 2) (p.l 2) (p.c 2),.slice (p.p 3) (p.l 3) (p.c 3),.slice (p.p 4) (p.l 4) (p.c 4)]:=by
 subst h;simp [ScOp.cut,ScOp.eight,h1]
structure OpIn (w:World) (o:ScOp):Prop where
 lo:-9223372036854775808≤o.at_
 hi:o.at_≤9223372036854775807
 cfg:CfgR w (.slice (o.p 0) (o.l 0) (o.c 0)) (.slice (o.p 1) (o.l 1) (o.c 1)) (.slice (o.p 2) (o.l 2) (o.c 2)) (.slice (o.p 3) (o.l 3) (o.c 3)) o.cf
 cw:CfgW o.cf
 ins:Sl w (o.p 4) (o.l 4*2) (fun j=>.int .i64 (o.zi j))
 inp:(o.p 4=none∧o.l 4=0)∨∃ad,o.p 4=some ad∧(o.l 4=0∨ad.block<w.heap.size)
 inb:16*o.l 4≤140737488351232
theorem nilZ (w:World) (k bn:Nat) (z:Nat→Int):SlZ w (.slice none 0 0) true 0 k z bn:=⟨none,0,rfl,Nat.le_refl _,by simp,by simp,by simp,.inl (by simp)⟩
theorem Y5s {W w:World} {o:ScOp} (h:OpIn W o) (hs:W.heap.size≤w.heap.size) (hold:∀b,b<W.heap.size→w.heap[b]?=W.heap[b]?):ScOk w o.cut:=by
 have hk:∀w':World,(∀b,b<w.heap.size→w'.heap[b]?=w.heap[b]?)→∀a v,W.cell? a=some v→w'.cell? a=some v:=fun w' ha a v hc=>by
  have hb:=block_lt_of_cell hc;exact (cell_of_heap ((ha _ (by omega)).trans (hold _ hb))).trans hc
 have hinp:(o.p 4=none∧o.l 4=0)∨∃ad,o.p 4=some ad∧(o.l 4=0∨ad.block<w.heap.size):=h.inp.imp id fun ⟨ad,e,hl⟩=>⟨ad,e,hl.imp id fun x=>by omega⟩;by_cases h1:o.kd=1
 ·have e:o.cut=_:=if_pos h1;rw [e];exact ⟨h.lo,h.hi,fun _=>⟨fun w' ha=>⟨h.cfg.cells.keep (hk w' ha),h.cfg.table.keep (hk w' ha),nilZ w' _ _ _,nilZ w' _ _ _⟩,h.cw,rfl,rfl⟩,fun w' ha=>h.ins.keep (hk w' ha),hinp,h.inb⟩
 ·have e:o.cut=o:=if_neg h1;rw [e];exact ⟨h.lo,h.hi,fun e=>absurd e h1,fun w' ha=>h.ins.keep (hk w' ha),hinp,h.inb⟩
theorem Za.script {W w:World} {o:Nat→ScOp} {n:Nat} {v:Value} (h:Za W w (fun i=>(o i).cut) n v) (hin:∀i,i<n→OpIn W (o i)):∃lp cl,v=.slice lp n cl∧ScR w lp n (fun i=>(o i).cut):=by
 by_cases hn:0<n
 ·have ho:=h.own;obtain ⟨g,cp,rfl,-,-⟩:=ho.form hn;exact ⟨some ⟨g,0,none⟩,cp,rfl,⟨fun i hi=>⟨g,0,rfl,(ho.lt g rfl).2,fun j hj=>by rw [Nat.zero_add];exact XC ho (Y4y _ hj hi)⟩,fun i hi=>Y5s (hin i hi) h.size h.old⟩⟩
 ·obtain rfl:n=0:=by omega
  rcases h.own.2 with ⟨rfl,-⟩|⟨g,cp,cur,rfl,-⟩
  ·exact ⟨none,0,rfl,⟨fun i hi=>absurd hi (Nat.not_lt_zero _),fun i hi=>absurd hi (Nat.not_lt_zero _)⟩⟩
  ·exact ⟨some ⟨g,0,none⟩,cp,rfl,⟨fun i hi=>absurd hi (Nat.not_lt_zero _),fun i hi=>absurd hi (Nat.not_lt_zero _)⟩⟩
section
variable {P:Program} {A:Plan} {w:World} {opsA opsB:Array Oper}
end
end Go.Proofs.YtdoghgnifkgfdaaGreat.Mute
