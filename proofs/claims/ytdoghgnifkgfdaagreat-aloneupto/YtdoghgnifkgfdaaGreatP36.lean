import Derived.Test.YtdoghgnifkgfdaaGreatP35
set_option maxRecDepth 100000
set_option maxHeartbeats 4000000
namespace Go.Proofs.YtdoghgnifkgfdaaGreat.Mute
open Go Go.Conc Go.RowKit
section
variable {w W:World} {k:Ker} {r:RK} {Q:Nat→RC} {m:Nat→Nat} {xs:Nat→List Value} {n:Nat}
theorem RAft.refl (h:RNow w k r Q m xs) (hn:n<k.nC):RAft w r.Gc k.nC n Q (Q n) (m n) (xs n) w:=
 ⟨h.row.congr fun j _=>by
  unfold refC;by_cases e:j / 26=n
  ·rw [e,Yh]
  ·rw [YG _ _ e],But.refl _ _,h.own n hn,fun _ x=>.inl x⟩
theorem RAft.cg {Gc nC m:Nat} {c c':RC} {xs:List Value} (h:RAft w Gc nC n Q c m xs W) (he:∀j,refV c' j=refV c j) (hv:c'.v=c.v):RAft w Gc nC n Q c' m xs W:=
 ⟨h.row.congr fun j _=>by
  unfold refC;by_cases e:j / 26=n
  ·rw [e,Yh,Yh,he]
  ·rw [YG _ _ e,YG _ _ e],h.but,by rw [hv];exact h.own,fun b hb=>h.blk b (by rw [←hv];exact hb)⟩
theorem RAft.fresh {w':World} {Gc nC m:Nat} {c c':RC} {xs:List Value} (h:RAft w Gc nC n Q c m xs W) (hg:W.grownBy w' (some Gc)) (hr:RowF w' Gc (nC*26) 131 (refC (updN Q n c'))) (hv:c'.v=c.v):RAft w Gc nC n Q c' m xs w':=by
 refine ⟨hr,⟨hg.os.trans h.but.os,hg.tape.trans h.but.tape,hg.output.trans h.but.output,Nat.le_trans h.but.size hg.size,fun k hk hn=>?_⟩,?_,fun b hb=>h.blk b (by rw [←hv];exact hb)⟩
 ·rw [hg.block k (Nat.lt_of_lt_of_le hk h.but.size) (fun e=>hn (.inl (Option.some.inj e)))];exact h.but.block k hk hn
 ·rw [hv];exact Xd (L:=⟨0,0,111,fun _=>False,fun _=>False⟩) h.own fun b hb=>hg.block b (Y01 h.own hb) (fun e=>h.ne (by rw [←Option.some.inj e];exact hb))
theorem Y0r {c c':RC} (h1:∀j,(25≤j∧j<46)∨j=47→c'.z j=c.z j) (h2:c'.v=c.v) (h3:c'.s=c.s) (h4:c'.b=c.b) (j:Nat):refV c' j=refV c j:=by
 obtain ⟨z,s,v,b⟩:=c;obtain ⟨z',s',v',b'⟩:=c';simp only at h1 h2 h3 h4;subst h2 h3 h4;exact Y0j (c:=⟨z,s',v',b'⟩) h1 j
theorem YaT {z:Nat→Int} {lim:Int} {nG:Nat} {img:Nat→Int} (_h16:nG≤16) (hz:∀j,3≤j→j<25→z j=newZ lim nG img j) (x:Int) (hx:IntKind.i64.wrap (z 47+1)=x) (j:Nat) (hj:(25≤j∧j<46)∨j=47):Yo z j=Zf nG img (zset z 47 x) j:=by
 unfold Yo Zf;by_cases e:j=47
 ·subst e;rw [if_pos rfl,if_neg (by omega),Z7,hx]
 ·have h1:25≤j∧j<46:=by omega
  rw [if_neg e,if_pos h1,if_pos h1,hz _ (by omega) (by omega)];unfold newZ;rw [if_neg (by omega)];by_cases h2:29≤j∧j<29+nG
  ·rw [if_pos (by omega),if_pos h2,show j-21-8=j-29 by omega]
  ·rw [if_neg (by omega),if_neg (by omega),if_neg h2]
theorem Y84 {Gc nC m:Nat} {z0 z:Nat→Int} {b47 s23 s0 x lim:Int} {j nG:Nat} {img:Nat→Int} {v':Value} {xs:List Value} {evs:List Value}
  (h:RAft w Gc nC n Q ⟨Zf nG img (zset z 47 b47),s23,v',decide (lim<b47)⟩ (m+evs.length+1+1) (xs++evs.flatMap Yv++[.int .i64 2,.int .i64 x,.int .i64 b47]++[.int .i64 3,.int .i64 j,.int .i64 3]) W)
  (hG:nG≤16) (hf:∀j,3≤j→j<25→z0 j=newZ lim nG img j) (ho:∀i,i<25∨i=47→z i=z0 i) (h46:z 46=IntKind.i64.wrap (z0 46+j)) (hs0:s0=z0 46) (hb:IntKind.i64.wrap (z 47+1)=b47) (hs:IntKind.i64.wrap (s0+j)=s23):
  RAft w Gc nC n Q ⟨Yo z,Yo z 46,v',decide (Yo z 3<Yo z 47)⟩ (m+(evs++[XU x (Yo z 47)]++[Xk j 3]).length) (xs++(evs++[XU x (Yo z 47)]++[Xk j 3]).flatMap Yv) W:=by
 have e47:Yo z 47=b47:=by rw [←hb];rfl
 have e46:Yo z 46=z 46:=rfl;have e3:Yo z 3=lim:=by
  have:Yo z 3=z 3:=rfl;rw [this,ho 3 (by omega),hf 3 (by omega) (by omega)];rfl
 have:=h.cg (c':=⟨Yo z,Yo z 46,v',decide (Yo z 3<Yo z 47)⟩) (Y0r (fun j hj=>YaT hG (fun j h3 h25=>(ho j (.inl h25)).trans (hf j h3 h25)) b47 hb j hj) rfl (by show Yo z 46=s23;rw [e46,h46,←hs,hs0]) (by show decide (Yo z 3<Yo z 47)=decide (lim<b47);rw [e3,e47])) rfl;rw [e47] at this ⊢;have el:m+(evs++[XU x b47]++[Xk j 3]).length=m+evs.length+1+1:=by simp [Nat.add_assoc]
 have ex:xs++(evs++[XU x b47]++[Xk j 3]).flatMap Yv=xs++evs.flatMap Yv++[.int .i64 2,.int .i64 x,.int .i64 b47]++[.int .i64 3,.int .i64 j,.int .i64 3]:=by
  simp [List.flatMap_append,XU,Xk,Yv,List.append_assoc]
 rw [el,ex];exact this
theorem Y8U (h:RNow w k r Q m xs) (hn:n<k.nC) (hz:Zok (k.n n) (Q n).z) (hs:(Q n).s=(Q n).z 46) (hb:(Q n).b=decide ((Q n).z 3<(Q n).z 47)) (h46:IntKind.i64.wrap ((Q n).z 46)=(Q n).z 46) (budget:Nat) (hbu:budget≤200) (hm:m n+300≤1000000000):
  Calls Tryz.prog 74 #[.pointer (some ⟨r.Kb,0,none⟩),.int .i64 n,.int .i64 budget] w fun e w'=>e=.returned (.tuple #[])∧
   ∃v',RAft w r.Gc k.nC n Q ⟨(Yf (k.n n) (k.ci n) budget (Q n).z).2,(Yf (k.n n) (k.ci n) budget (Q n).z).2 46,v',decide ((Yf (k.n n) (k.ci n) budget (Q n).z).2 3<(Yf (k.n n) (k.ci n) budget (Q n).z).2 47)⟩ (m n+(Yf (k.n n) (k.ci n) budget (Q n).z).1.length) (xs n++(Yf (k.n n) (k.ci n) budget (Q n).z).1.flatMap Yv) w':=by
 have H:Hid (RNow w k r Q m xs):=h;have h4:=h.h4;have HS1:Hid ((Q n).s=(Q n).z 46):=hs;have HB1:Hid ((Q n).b=decide ((Q n).z 3<(Q n).z 47)):=hb;have H46:Hid (IntKind.i64.wrap ((Q n).z 46)=(Q n).z 46):=h46;clear hs hb h46;have A0:Hid (RAft w r.Gc k.nC n Q (Q n) (m n) (xs n) w):=RAft.refl h hn;by_cases hst:(Q n).z 3<(Q n).z 47
 ·have hF:Yf (k.n n) (k.ci n) budget (Q n).z=([Xk (IntKind.i64.wrap ((Q n).z 46-(Q n).z 46)) 4],(Q n).z):=by
   unfold Yf goF;rw [if_pos hst];rfl
  have h0w:IntKind.i64.wrap ((Q n).z 46-(Q n).z 46)=0:=by rw [Int.sub_self];rfl
  rw [h0w] at hF;rw [hF];have e25:w.cell? ⟨r.Gc,n*26+23+2,none⟩=some (.bool true):=by
   rw [RowF.rat h.row (n:=n) (i:=25) (by omega) (by omega) (by omega)];show some (Value.bool (Q n).b)=_;rw [HB1.out];simp [hst]
  have e22:w.cell? ⟨r.Gc,n*26+22,none⟩=some (Q n).v:=RowF.rat h.row (n:=n) (i:=22) (by omega) (by omega) (by omega);have hni:(n:Int)<(k.nC:Int):=by omega
  clear h hF h0w;generalize hQv:(Q n).v=v at *;have HQ:Hid ((Q n).v=v):=hQv;have HOW:Hid (∀o,(w.alloc o).ownsRow 0 111 3 v (m n) (xs n)):=fun o=>own_below (by rw [←hQv];exact A0.out.own) ((Below.refl _ _).alloc (Nat.le_refl _) _);clear hQv
  go_enter Tryz.func74,Tryz.ntmps74
  go_wp2_with (at_builtin;refine YX _ rfl _ _ 61 rfl 0 111 _ 3 24 Tryz.underlying61 Zg rfl (by omega) v (m n) (xs n) rfl (by exact HOW.out _) w.heap.size [.int .i64 3,.int .i64 0,.int .i64 4] 111 rfl rfl (by exact alloc_at rfl) (by simp [Value.oneCell']) (by simp only [maxLen];omega) (by omega) (by omega) ?_)
  intro g cap w1 hown1 hgrow1 hat hlt1;have HL:Hid _:=RAft.log (a:=n*26+22) A0.out (by rw [HQ.out];exact hgrow1) hown1 (by rw [HQ.out];exact hat.imp id (fun e=>by rw [e];first|omega|simp)) rfl;have f1:w1.cell? ⟨r.Gc,n*26+22,none⟩=some v:=(RowF.rat HL.out.1 (n:=n) (i:=22) (by omega) rfl (by omega)).trans (by rw [Yh];exact congrArg some HQ.out);have f2:=HL.out.1.frozen (n*26+22);clear hown1 hgrow1 hat hlt1;go_wp2_with fail
  (try simp only [Exit.inBlock,Exit.then])
  refine bodyPost_ret (results_none rfl _ _ _) rfl ?_;refine ⟨rfl,.slice (some ⟨g,0,none⟩) (m n+1:Nat) cap,HL.out.2.cg (Y0r (fun _ _=>rfl) rfl HS1.out.symm HB1.out.symm) rfl⟩
 ·have e25:w.cell? ⟨r.Gc,n*26+23+2,none⟩=some (.bool false):=by
   rw [RowF.rat h.row (n:=n) (i:=25) (by omega) (by omega) (by omega)];show some (Value.bool (Q n).b)=_;rw [HB1.out];simp [hst]
  have hni:(n:Int)<(k.nC:Int):=by omega
  have HOK:Hid (Xc (k.n n) (k.ci n)):=h.ok n hn;have L0:Hid (Zz (k.n n) (k.ci n) budget (Q n).z 0 0 (Q n).z []):=Zz.start hz H46.out;clear h
  go_enter Tryz.func74,Tryz.ntmps74
  go_wp2_with fail
  go_loopw [7,8] (fun s e wr=>∃(j:Nat) (x:Int),j≤budget∧s=.int .i64 j∧e=.int .i64 x∧∃z evs v,Hid (Zz (k.n n) (k.ci n) budget (Q n).z j x z evs)∧Hid (RAft w r.Gc k.nC n Q {Q n with z:=z,v:=v} (m n+evs.length) (xs n++evs.flatMap Yv) wr)) (fun s _ _=>budget-(intOf s).toNat)
  case atStart=>exact ⟨0,0,Nat.zero_le _,rfl,rfl,(Q n).z,[],(Q n).v,L0,(by show RAft w r.Gc k.nC n Q (Q n) (m n+[].length) (xs n++[]) w;simpa using A0.out)⟩
  case round=>
   obtain ⟨j,x,hj,rfl,rfl,z,evs,v,HL,HA⟩:=hrel;have HN:Hid (RNow wr k r (updN Q n {Q n with z:=z,v:=v}) (updN m n (m n+evs.length)) (updN xs n (xs n++evs.flatMap Yv))):=H.out.after hn HA.out (fun i _ h2=>HL.out.old i (.inl h2));have hev:=HL.out.ev;by_cases hgo:j<budget∧x=0
   ·obtain ⟨hlt,rfl⟩:=hgo;have hzk:Zok (k.n n) z:=by
     rcases HL.out.run with ⟨_,h1,_⟩|⟨h1,_⟩|⟨h1,_⟩
     ·exact h1
     ·omega
     ·omega
    have S:=Y8x HN.out hn (by rw [Yh];exact ⟨hzk.lo,hzk.hi⟩) (by rw [Yh];omega);simp only [Yh] at S;have HS:Hid _:=S;clear S;have hli:(j:Int)<(budget:Int):=by omega
    go_wp2_with fail
    refine Calls.mono HS.out ?_;rintro e w' ⟨rfl,v',hA'⟩;have HA2:Hid (RAft w r.Gc k.nC n Q {Q n with z:=(rres (Y7 (k.n n) (k.ci n) z)).2,v:=v'} (m n+(evs++(Y7 (k.n n) (k.ci n) z).sent).length) (xs n++(evs++(Y7 (k.n n) (k.ci n) z).sent).flatMap Yv) w'):=by
     have:=HA.out.trans hA';rw [List.length_append,List.flatMap_append,←Nat.add_assoc,←List.append_assoc];exact this
    have HL2:Hid _:=Zz.step HOK.out HL.out hlt;clear hA' HS HN HA HL;go_wp2_with fail
    exact ⟨⟨j+1,_,by omega,by go_num,rfl,_,_,v',HL2,HA2⟩,by simp [intOf];omega⟩
   ·have e22:wr.cell? ⟨r.Gc,n*26+22,none⟩=some v:=(RowF.rat HA.out.row (n:=n) (i:=22) (by omega) rfl (by omega)).trans (by rw [Yh];rfl);have e23:wr.cell? ⟨r.Gc,n*26+23,none⟩=some (.int .i64 (Q n).s):=(RowF.rat HA.out.row (n:=n) (i:=23) (by omega) rfl (by omega)).trans (by rw [Yh];rfl);have f23:=HA.out.row.frozen (n*26+23);have HA1:Hid (∀X,RAft w r.Gc k.nC n Q {Q n with z:=z,v:=v,s:=X} (m n+evs.length) (xs n++evs.flatMap Yv) (wr.setCell ⟨r.Gc,n*26+23,none⟩ (.int .i64 X))):=fun X=>HA.out.s rfl X;have HOW:Hid (∀X o,((wr.setCell ⟨r.Gc,n*26+23,none⟩ (.int .i64 X)).alloc o).ownsRow 0 111 3 v (m n+evs.length) (xs n++evs.flatMap Yv)):=fun X o=>own_below (HA1.out X).own ((Below.refl _ _).alloc (Nat.le_refl _) _);have hcnt:IntKind.i64.wrap (z 46-(Q n).z 46)=j:=by
     rw [HL.out.s46,IntKind.wrap_i64,IntKind.wrap_i64];omega
    have hgoF:goF (k.n n) (k.ci n) budget (Q n).z=runF (k.n n) (k.ci n) budget (Q n).z:=by unfold goF;rw [if_neg (by omega)]
    rcases HL.out.run with ⟨rfl,_,hr⟩|⟨rfl,hr⟩|⟨hx0,hx3,hr⟩
    ·have hjb:j=budget:=by omega
     have hjn:¬((j:Int)<(budget:Int)):=by omega
     have hwin:Yf (k.n n) (k.ci n) budget (Q n).z=(evs++[Xk j 2],z):=by
      unfold Yf;rw [hgoF,hr,show budget-j=0 by omega];simp only [runF,List.append_nil,hcnt]
     have HW:Hid (Yf (k.n n) (k.ci n) budget (Q n).z=(evs++[Xk j 2],z)):=hwin;clear hr hcnt hgoF hgo hjb hwin;go_wp2_with (at_builtin;refine YX _ rfl _ _ 61 rfl 0 111 _ 3 24 Tryz.underlying61 Zg rfl (by omega) v (m n+evs.length) (xs n++evs.flatMap Yv) rfl (by exact HOW.out _ _) wr.heap.size [.int .i64 3,.int .i64 j,.int .i64 2] 111 rfl rfl (by exact alloc_at (size_setCell _ _ _)) (by simp [Value.oneCell']) (by simp only [maxLen];omega) (by omega) (by omega) ?_)
     intro g cap w1 hown1 hgrow1 hat hlt1;have HLg:Hid _:=RAft.log (a:=n*26+22) (HA1.out _) hgrow1 (by rw [List.append_assoc];exact hown1) (hat.imp id (fun e=>by rw [e];first|omega|simp)) rfl;have f1:w1.cell? ⟨r.Gc,n*26+22,none⟩=some v:=(RowF.rat HLg.out.1 (n:=n) (i:=22) (by omega) rfl (by omega)).trans (by rw [Yh];rfl);have f2:=HLg.out.1.frozen (n*26+22);clear hown1 hgrow1 hat hlt1;go_wp2_with fail
     (try simp only [Exit.inBlock,Exit.then])
     refine bodyPost_end (results_none rfl _ _ _) rfl ?_;rw [HW.out];refine ⟨rfl,.slice (some ⟨g,0,none⟩) (m n+evs.length+1:Nat) cap,?_⟩;have:=HLg.out.2.cg (c':=⟨z,z 46,.slice (some ⟨g,0,none⟩) (m n+evs.length+1:Nat) cap,decide (z 3<z 47)⟩) (Y0r (fun _ _=>rfl) rfl (by rw [HL.out.s46,←HS1.out];first|rfl|(rw [w64])|(rw [←w64])) (by rw [HB1.out,HL.out.old 3 (by omega),HL.out.old 47 (by omega)])) rfl;simpa [List.flatMap_append,Xk,Yv,Nat.add_assoc] using this
    ·have hwin:Yf (k.n n) (k.ci n) budget (Q n).z=(evs++[Xk j 1],z):=by
      unfold Yf;rw [hgoF,hr];simp only [hcnt]
     have HW:Hid (Yf (k.n n) (k.ci n) budget (Q n).z=(evs++[Xk j 1],z)):=hwin;clear hr hcnt hgoF hgo hwin;go_wp2_with (at_builtin;refine YX _ rfl _ _ 61 rfl 0 111 _ 3 24 Tryz.underlying61 Zg rfl (by omega) v (m n+evs.length) (xs n++evs.flatMap Yv) rfl (by exact HOW.out _ _) wr.heap.size [.int .i64 3,.int .i64 j,.int .i64 1] 111 rfl rfl (by exact alloc_at (size_setCell _ _ _)) (by simp [Value.oneCell']) (by simp only [maxLen];omega) (by omega) (by omega) ?_)
     all_goals
      intro g cap w1 hown1 hgrow1 hat hlt1;have HLg:Hid _:=RAft.log (a:=n*26+22) (HA1.out _) hgrow1 (by rw [List.append_assoc];exact hown1) (hat.imp id (fun e=>by rw [e];first|omega|simp)) rfl;have f1:w1.cell? ⟨r.Gc,n*26+22,none⟩=some v:=(RowF.rat HLg.out.1 (n:=n) (i:=22) (by omega) rfl (by omega)).trans (by rw [Yh];rfl);have f2:=HLg.out.1.frozen (n*26+22);clear hown1 hgrow1 hat hlt1;go_wp2_with fail
      (try simp only [Exit.inBlock,Exit.then])
      refine bodyPost_end (results_none rfl _ _ _) rfl ?_;rw [HW.out];refine ⟨rfl,.slice (some ⟨g,0,none⟩) (m n+evs.length+1:Nat) cap,?_⟩;have:=HLg.out.2.cg (c':=⟨z,z 46,.slice (some ⟨g,0,none⟩) (m n+evs.length+1:Nat) cap,decide (z 3<z 47)⟩) (Y0r (fun _ _=>rfl) rfl (by rw [HL.out.s46,←HS1.out];first|rfl|(rw [w64])|(rw [←w64])) (by rw [HB1.out,HL.out.old 3 (by omega),HL.out.old 47 (by omega)])) rfl;simpa [List.flatMap_append,Xk,Yv,Nat.add_assoc] using this
    ·have hwin:Yf (k.n n) (k.ci n) budget (Q n).z=(evs++[XU x (Yo z 47)]++[Xk j 3],Yo z):=by
      unfold Yf;rw [hgoF,hr];have:Yo z 46=z 46:=rfl;simp only [this,hcnt]
     have HW:Hid (Yf (k.n n) (k.ci n) budget (Q n).z=(evs++[XU x (Yo z 47)]++[Xk j 3],Yo z)):=hwin;have e24:wr.cell? ⟨r.Gc,n*26+23+1,none⟩=some (.int .i64 (z 47)):=(RowF.rat HA.out.row (n:=n) (i:=24) (by omega) (by omega) (by omega)).trans (by rw [Yh];rfl);have f24:=HA.out.row.frozen (n*26+23+1);have HA2:Hid (∀S B,RAft w r.Gc k.nC n Q {Q n with z:=zset z 47 B,v:=v,s:=S} (m n+evs.length) (xs n++evs.flatMap Yv) ((wr.setCell ⟨r.Gc,n*26+23,none⟩ (.int .i64 S)).setCell ⟨r.Gc,n*26+23+1,none⟩ (.int .i64 B))):=fun S B=>(HA1.out S).z47 (by omega) B;have hxn:(x==0)=false:=by simp;omega
     have hxl:¬(x<0):=by omega
     have HX:Hid (0<x∧x≤3):=⟨hx0,hx3⟩;clear hr hcnt hgoF hgo hwin;have HNx:Hid (∀W c m' xs',RAft w r.Gc k.nC n Q c m' xs' W→(∀i,3≤i→i<25→c.z i=(Q n).z i)→RNow W k r (updN Q n c) (updN m n m') (updN xs n xs')):=fun W c m' xs' hA hz=>H.out.after hn hA hz;go_wp2_with fail
     all_goals
      have HA3:=HA2.out (wrap64 ((Q n).s+j)) (wrap64 (z 47+1));have hB1:IntKind.i64.wrap (z 47+1)=wrap64 (z 47+1):=w64 _;have hS1:IntKind.i64.wrap ((Q n).s+j)=wrap64 ((Q n).s+j):=w64 _;generalize ((wr.setCell ⟨r.Gc,n*26+23,none⟩ (.int .i64 (wrap64 ((Q n).s+j)))).setCell ⟨r.Gc,n*26+23+1,none⟩ (.int .i64 (wrap64 (z 47+1))))=W at *;generalize wrap64 (z 47+1)=b47 at *;generalize wrap64 ((Q n).s+j)=s23 at *;have HB47:Hid (IntKind.i64.wrap (z 47+1)=b47):=hB1;have HS23:Hid (IntKind.i64.wrap ((Q n).s+j)=s23):=hS1;have HAW:Hid (RAft w r.Gc k.nC n Q {Q n with z:=zset z 47 b47,v:=v,s:=s23} (m n+evs.length) (xs n++evs.flatMap Yv) W):=HA3;have d22:W.cell? ⟨r.Gc,n*26+22,none⟩=some v:=(RowF.rat HA3.row (n:=n) (i:=22) (by omega) rfl (by omega)).trans (by rw [Yh];rfl);have d24:W.cell? ⟨r.Gc,n*26+23+1,none⟩=some (.int .i64 b47):=(RowF.rat HA3.row (n:=n) (i:=24) (by omega) (by omega) (by omega)).trans (by rw [Yh];show some (Value.int .i64 (zset z 47 b47 47))=_;rw [Z7]);have hGW:r.Gc<W.heap.size:=HA3.row.lt;have d22a:∀o,(W.alloc o).cell? ⟨r.Gc,n*26+22,none⟩=some v:=fun o=>((Below.refl _ W).alloc (Nat.le_refl _) _ |>.cell (p:=⟨r.Gc,n*26+22,none⟩) hGW).trans d22;have d24a:∀o,(W.alloc o).cell? ⟨r.Gc,n*26+23+1,none⟩=some (.int .i64 b47):=fun o=>((Below.refl _ W).alloc (Nat.le_refl _) _ |>.cell (p:=⟨r.Gc,n*26+23+1,none⟩) hGW).trans d24;have HOWW:Hid (∀o,(W.alloc o).ownsRow 0 111 3 v (m n+evs.length) (xs n++evs.flatMap Yv)):=fun o=>own_below HA3.own ((Below.refl _ _).alloc (Nat.le_refl _) _);clear hB1 hS1 HA3 HA2 HA1 HOW e22 e23 e24 f23 f24
      go_region_law
       (refine Jk rfl _ _ 61 rfl 0 111 _ 3 24 Tryz.underlying61 Zg rfl (by omega) v (m n+evs.length) (xs n++evs.flatMap Yv) rfl (by exact HOWW.out _) W.heap.size [.int .i64 2,.int .i64 x,.int .i64 b47] 111 rfl rfl (by exact alloc_at rfl) (by simp [Value.oneCell']) (by simp only [maxLen];omega) (by omega) (by omega) ?_
        intro g cap w1 hown1 hgrow1 hat hlt1;have HLg:Hid _:=RAft.log (a:=n*26+22) (ev:=[.int .i64 2,.int .i64 x,.int .i64 b47]) HAW.out ⟨hgrow1.os,hgrow1.tape,hgrow1.output,hgrow1.size,hgrow1.block⟩ (by first|exact hown1|(rw [List.append_assoc];exact hown1)) (hat.imp id (fun e=>by rw [e];first|omega|simp)) rfl;clear d22 d24 d22a d24a;have q22:w1.cell? ⟨r.Gc,n*26+22,none⟩=some v:=(RowF.rat HLg.out.1 (n:=n) (i:=22) (by omega) rfl (by omega)).trans (by rw [Yh];rfl);have q22f:=HLg.out.1.frozen (n*26+22);clear hown1 hgrow1 hat hlt1)
     all_goals
      have HA5:=HLg.out.2;generalize hV:(Value.slice (some ⟨g,0,none⟩) (m n+evs.length+1:Nat) cap)=v5 at *;have HV5:Hid (∃a b c,v5=.slice a b c):=⟨_,_,_,hV.symm⟩;generalize hW5:(w1.setCell ⟨r.Gc,n*26+22,none⟩ v5)=W5 at *;have HA5':Hid (RAft w r.Gc k.nC n Q {Q n with z:=zset z 47 b47,v:=v5,s:=s23} (m n+evs.length+1) (xs n++evs.flatMap Yv++[.int .i64 2,.int .i64 x,.int .i64 b47]) W5):=HA5;have HN5:=HNx.out _ _ _ _ HA5 (fun i h3 h25=>by show zset z 47 b47 i=_;rw [YQ _ _ (by omega)];exact HL.out.old i (.inl h25));have p0:=HN5.h0;have pl:=HN5.hl n hn;have p24:W5.cell? ⟨r.Gc,n*26+23+1,none⟩=some (.int .i64 b47):=(RowF.rat HA5.row (n:=n) (i:=24) (by omega) (by omega) (by omega)).trans (by rw [Yh];show some (Value.int .i64 (zset z 47 b47 47))=_;rw [Z7]);have p25:=RowF.rat HA5.row (n:=n) (i:=25) (a:=n*26+23+2) (by omega) (by omega) (by omega);have f25:=HA5.row.frozen (n*26+23+2);have gK:=HN5.sK.ne_row HN5.row;have gb:=HN5.sb.ne_row HN5.row;have k0':∀(V:World) (u:Value),(V.setCell ⟨r.Gc,n*26+23+2,none⟩ u).cell? ⟨r.Kb,0,none⟩=V.cell? ⟨r.Kb,0,none⟩:=fun V u=>World.cell?_setCell_other _ _ _ _ (fun e=>by have e1:=congrArg Addr.block e;simp only at e1;omega);have k1':∀(V:World) (u:Value),(V.setCell ⟨r.Gc,n*26+23+2,none⟩ u).cell? ⟨r.bo,r.oo+n*3+2,none⟩=V.cell? ⟨r.bo,r.oo+n*3+2,none⟩:=fun V u=>World.cell?_setCell_other _ _ _ _ (fun e=>by have e1:=congrArg Addr.block e;simp only at e1;omega);have k2':∀(V:World) (u:Value),(V.setCell ⟨r.Gc,n*26+23+2,none⟩ u).cell? ⟨r.Gc,n*26+23+1,none⟩=V.cell? ⟨r.Gc,n*26+23+1,none⟩:=fun V u=>World.cell?_setCell_other _ _ _ _ (fun e=>by have e1:=congrArg Addr.off e;simp only at e1;omega);clear HA5 HN5 HLg q22 q22f hW5 hV HOWW HAW hGW;go_wp2_with fail
      go_region_held3 (fun W=>W.cell? ⟨r.Kb,0,none⟩=some (.slice (some ⟨r.bo,r.oo,none⟩) k.nC r.cq)∧W.cell? ⟨r.bo,r.oo+n*3+2,none⟩=some (.int .i64 (r.lim n))∧W.cell? ⟨r.Gc,n*26+23+1,none⟩=some (.int .i64 b47)) (go_keep) (fail)
      clear k0' k1' k2' p0 pl p24 p25 f25;go_wp2_with fail
     all_goals
      have HA6:Hid (RAft w r.Gc k.nC n Q {Q n with z:=zset z 47 b47,v:=v5,s:=s23,b:=decide (r.lim n<b47)} (m n+evs.length+1) (xs n++evs.flatMap Yv++[.int .i64 2,.int .i64 x,.int .i64 b47]) (W5.setCell ⟨r.Gc,n*26+23+2,none⟩ (.bool (decide (r.lim n<b47)))).drew):=(HA5'.out.b (by omega) _).drew;have HN6:=HNx.out _ _ _ _ HA6.out (fun i h3 h25=>by show zset z 47 b47 i=_;rw [YQ _ _ (by omega)];exact HL.out.old i (.inl h25));refine (Y1v r.Kb r.Gc n k.nC r.cq r.bo r.oo (r.nG n) (r.ic n) 131 (r.iq n) (r.img n) _ _ HN6.h0 HN6.h4 (HN6.hi n hn) (HN6.imgs n hn) HN6.row hn (HN6.g16 n hn) gK gb (fun b o e=>(HN6.si n hn b o e).ne_row HN6.row)).mono ?_;clear HN6;rintro e W7 ⟨rfl,hg7,hr7⟩;rw [ZN,Yh] at hr7;have HA7:Hid (RAft w r.Gc k.nC n Q {Q n with z:=Zf (r.nG n) (r.img n) (zset z 47 b47),v:=v5,s:=s23,b:=decide (r.lim n<b47)} (m n+evs.length+1) (xs n++evs.flatMap Yv++[.int .i64 2,.int .i64 x,.int .i64 b47]) W7):=HA6.out.fresh hg7 hr7 rfl;clear hg7 hr7;have d22:W7.cell? ⟨r.Gc,n*26+22,none⟩=some v5:=(RowF.rat HA7.out.row (n:=n) (i:=22) (by omega) rfl (by omega)).trans (by rw [Yh];rfl);have HOW7:Hid (∀o,(W7.alloc o).ownsRow 0 111 3 v5 (m n+evs.length+1) (xs n++evs.flatMap Yv++[.int .i64 2,.int .i64 x,.int .i64 b47])):=fun o=>own_below HA7.out.own ((Below.refl _ _).alloc (Nat.le_refl _) _);clear HA6 HA5';go_wp2_with (at_builtin;refine YX _ rfl _ _ 61 rfl 0 111 _ 3 24 Tryz.underlying61 Zg rfl (by omega) v5 (m n+evs.length+1) (xs n++evs.flatMap Yv++[.int .i64 2,.int .i64 x,.int .i64 b47]) rfl (by exact HOW7.out _) W7.heap.size [.int .i64 3,.int .i64 j,.int .i64 3] 111 rfl rfl (by exact alloc_at rfl) (by simp [Value.oneCell']) (by simp only [maxLen];omega) (by omega) (by omega) ?_)
      intro g cap w1 hown1 hgrow1 hat hlt1;have HL8:Hid _:=RAft.log (a:=n*26+22) (ev:=[.int .i64 3,.int .i64 j,.int .i64 3]) HA7.out ⟨hgrow1.os,hgrow1.tape,hgrow1.output,hgrow1.size,hgrow1.block⟩ (by first|exact hown1|(simp only [List.append_assoc] at hown1 ⊢;exact hown1)) (hat.imp id (fun e=>by rw [e];first|omega|simp)) rfl;have q22:w1.cell? ⟨r.Gc,n*26+22,none⟩=some v5:=(RowF.rat HL8.out.1 (n:=n) (i:=22) (by omega) rfl (by omega)).trans (by rw [Yh];rfl);have q22f:=HL8.out.1.frozen (n*26+22);clear hown1 hgrow1 hat hlt1 d22 HOW7 HA7;go_wp2_with fail
      (try simp only [Exit.inBlock,Exit.then])
      refine bodyPost_end (results_none rfl _ _ _) rfl ?_;rw [HW.out];exact ⟨rfl,.slice (some ⟨g,0,none⟩) (m n+evs.length+1+1:Nat) cap,Y84 (lim:=r.lim n) (nG:=r.nG n) (img:=r.img n) (z0:=(Q n).z) (s0:=(Q n).s) HL8.out.2 (H.out.g16 n hn) (H.out.fst n hn) HL.out.old HL.out.s46 HS1.out HB47.out HS23.out⟩
end
end Go.Proofs.YtdoghgnifkgfdaaGreat.Mute
