import Derived.Test.YtdoghgnifkgfdaaGreatP20
set_option maxRecDepth 100000
set_option maxHeartbeats 16000000
namespace Go.Proofs.YtdoghgnifkgfdaaGreat
open Go.RowKit Go.Maps
def Kp (w w':World):Prop:=∀(b:Nat) (cs:Array Value) (t:Nat) (fz:Nat×Nat),w.heap[b]?=some (.cells cs t fz)→t≠100→t≠143→t≠94→w'.heap[b]?=w.heap[b]?
theorem Kp.below {w w':World} (h:Below w.heap.size w w'):Kp w w':=fun b _ _ _ hb _ _ _=>h.block b (Array.getElem?_eq_some_iff.1 hb).1
theorem Kp.trans {a b c:World} (h:Kp a b) (k:Kp b c):Kp a c:=fun x cs t fz hx h1 h2 h3=>by
 have e:=h x cs t fz hx h1 h2 h3;rw [k x cs t fz (e.trans hx) h1 h2 h3,e]
theorem Kp.row {w w':World} {g m t:Nat} {f:Nat→Value} (h:Kp w w') (hr:RowF w g m t f) (h1:t≠100) (h2:t≠143) (h3:t≠94):RowF w' g m t f:=by
 obtain ⟨cs,hg,_⟩:=id hr;exact hr.of_heap (h g cs t _ hg h1 h2 h3)
theorem Kp.own {w w':World} {b e s n:Nat} {v:Value} {xs:List Value} (h:Kp w w') (ho:w.ownsRow b e s v n xs) (h1:e≠100) (h2:e≠143) (h3:e≠94):w'.ownsRow b e s v n xs:=by
 rcases ho with ⟨hl,hv|⟨g,cap,cur,hv,hb,hg,hr⟩⟩
 ·exact ⟨hl,.inl hv⟩
 ·exact ⟨hl,.inr ⟨g,cap,cur,hv,hb,(h g _ _ _ hg h1 h2 h3).trans hg,hr⟩⟩
theorem Kp.step {wl wg:World} {K i e s n b:Nat} {o:Obj} {v x:Value} {xs:List Value} {f:Nat→Value} (ho:wl.ownsRow b e s v n xs) (he:e=100∨e=143) (hK:RowF wl K 5 94 f) (hg:(wl.alloc o).grownBy wg v.ownBlock):Kp wl (wg.setCell ⟨K,i,none⟩ x):=fun y cs t fz hy h1 h2 h3=>by
 have hlt:=(Array.getElem?_eq_some_iff.1 hy).1;rw [heap_setCell_other _ _ _ _ (fun e=>by
  obtain ⟨cs',hK',_⟩:=hK;have e:y=K:=e;rw [e,hK'] at hy;cases hy;exact h3 rfl),hg.block y (by simp;omega) (fun e'=>by
  rcases ho.2 with ⟨hv,_⟩|⟨g,cap,cur,hv,_,hg',_⟩
  ·rw [hv] at e';simp [Value.ownBlock] at e'
  ·rw [hv] at e';have:y=g:=by simpa [Value.ownBlock] using e'
   rw [this,hg'] at hy;cases hy;rcases he with he|he
   ·exact h1 he
   ·exact h2 he),heap_alloc_old _ _ hlt]
theorem Kp.alloc (w:World) (o:Obj):Kp w (w.alloc o):=fun _ _ _ _ hb _ _ _=>heap_alloc_old w o (Array.getElem?_eq_some_iff.1 hb).1
def NetO (B:Nat) (c:Cfg) (ve vq vs:Value) (wr:World):Prop:=wr.ownsRow B 151 2 ve c.nCh (ZY c.ch c.nCh)∧wr.ownsRow B 156 3 vq c.nCh (Ja c.nCh)∧wr.ownsRow B 158 4 vs c.nCh (J6 c.nCh)
theorem NetO.keep {B:Nat} {c:Cfg} {ve vq vs:Value} {w w':World} (h:NetO B c ve vq vs w) (k:Kp w w'):NetO B c ve vq vs w':=
 ⟨k.own h.1 (by decide) (by decide) (by decide),k.own h.2.1 (by decide) (by decide) (by decide),k.own h.2.2 (by decide) (by decide) (by decide)⟩
def Ext (B:Nat) (c:Cfg) (nb:Nat) (tr:Value) (wr:World):Prop:=
 (B≤nb∧∃ve vq vs,RowF wr nb 3 149 (cells3 ve vq vs)∧(∃p cap,ve=.slice p c.nCh cap)∧(∃p cap,vq=.slice p c.nCh cap)∧(∃p cap,vs=.slice p c.nCh cap)∧NetO B c ve vq vs wr)∧∃T,B≤T∧tr=.slice (some ⟨T,0,none⟩) c.nC c.nC∧RowF wr T c.nC 61 (fun _=>.slice none 0 0)
theorem Ext.keep {B:Nat} {c:Cfg} {nb:Nat} {tr:Value} {w w':World} (h:Ext B c nb tr w) (k:Kp w w'):Ext B c nb tr w':=by
 obtain ⟨⟨h0,ve,vq,vs,h1,h2,h2b,h2c,h2d⟩,T,h00,h3,h4⟩:=h;exact ⟨⟨h0,ve,vq,vs,k.row h1 (by decide) (by decide) (by decide),h2,h2b,h2c,h2d.keep k⟩,T,h00,h3,k.row h4 (by decide) (by decide) (by decide)⟩
def XV (B:Nat) (c:Cfg) (k:Nat) (xs:List Value) (wr:World):Prop:=∀i,i<k→∃g cap,xs[i]?=some (.slice (some ⟨g,0,none⟩) (c.nRow i) cap)∧wr.ownsRow B 102 2 (.slice (some ⟨g,0,none⟩) (c.nRow i) cap) (c.nRow i) ((List.range (c.nRow i*2)).map fun j=>.int .i64 (c.row i j))
theorem XV.keep {B:Nat} {c:Cfg} {k:Nat} {xs:List Value} {w w':World} (h:XV B c k xs w) (kp:Kp w w'):XV B c k xs w':=fun i hi=>by
 obtain ⟨g,cap,h1,h2⟩:=h i hi;exact ⟨g,cap,h1,kp.own h2 (by decide) (by decide) (by decide)⟩
theorem XV.step {c:Cfg} {B k g cap:Nat} {xs:List Value} {w:World} (h:XV B c k xs w) (hl:xs.length=k) (ho:w.ownsRow B 102 2 (.slice (some ⟨g,0,none⟩) (c.nRow k) cap) (c.nRow k) ((List.range (c.nRow k*2)).map fun j=>.int .i64 (c.row k j))):XV B c (k+1) (xs++[.slice (some ⟨g,0,none⟩) (c.nRow k) cap]) w:=fun i hi=>by
 by_cases e:i<k
 ·obtain ⟨g,cap,h1,h2⟩:=h i e;exact ⟨g,cap,by rw [List.getElem?_append_left (by omega)];exact h1,h2⟩
 ·obtain rfl:i=k:=by omega
  exact ⟨g,cap,by rw [List.getElem?_append_right (by omega),hl,Nat.sub_self];rfl,ho⟩
def ZA (B:Nat) (c:Cfg) (nb k:Nat) (xs:List Value) (wr:World):Prop:=∃kb:Nat→Nat,(∀i j,i<k→j<k→i≠j→kb i≠kb j)∧∀i,i<k→∃cv,xs[i]?=some (.pointer (some ⟨kb i,0,none⟩))∧B≤kb i∧kb i<wr.heap.size∧RowF wr (kb i) 48 186 (cellV i (.pointer (some ⟨nb,0,none⟩)) cv (newZ (c.lim i) (c.nImg i) (c.img i)))∧wr.ownsRow B 97 4 cv (c.nCode i) ((List.range (c.nCode i*4)).map fun j=>.int .i64 (c.code i j))
theorem ZA.keep {c:Cfg} {B nb k:Nat} {xs:List Value} {w w':World} (h:ZA B c nb k xs w) (kp:Kp w w'):ZA B c nb k xs w':=by
 obtain ⟨kb,h1,h2⟩:=h;refine ⟨kb,h1,fun i hi=>?_⟩;obtain ⟨cv,h3,h0,h4,h5,h6⟩:=h2 i hi;have h7:=kp.row h5 (by decide) (by decide) (by decide);exact ⟨cv,h3,h0,h7.lt,h7,kp.own h6 (by decide) (by decide) (by decide)⟩
theorem ZA.step {c:Cfg} {nb k b B0 B:Nat} {xs:List Value} {w:World} {cv:Value} (h:ZA B0 c nb k xs w) (hb0:B0≤b) (hB:∀i j,i<k→xs[i]?=some (.pointer (some ⟨j,0,none⟩))→j<B) (hb:B≤b) (hl:xs.length=k) (hr:RowF w b 48 186 (cellV k (.pointer (some ⟨nb,0,none⟩)) cv (newZ (c.lim k) (c.nImg k) (c.img k)))) (ho:w.ownsRow B0 97 4 cv (c.nCode k) ((List.range (c.nCode k*4)).map fun j=>.int .i64 (c.code k j))):ZA B0 c nb (k+1) (xs++[.pointer (some ⟨b,0,none⟩)]) w:=by
 obtain ⟨kb,h1,h2⟩:=h;have hlt:∀i,i<k→kb i<B:=fun i hi=>by
  obtain ⟨_,h3,_⟩:=h2 i hi;exact hB i _ hi h3
 refine ⟨fun i=>if i<k then kb i else b,fun i j hi hj hne=>?_,fun i hi=>?_⟩
 ·simp only;by_cases e1:i<k
  ·by_cases e2:j<k
   ·rw [if_pos e1,if_pos e2];exact h1 i j e1 e2 hne
   ·rw [if_pos e1,if_neg e2];have:=hlt i e1;omega
  ·by_cases e2:j<k
   ·rw [if_neg e1,if_pos e2];have:=hlt j e2;omega
   ·omega
 ·simp only;by_cases e:i<k
  ·rw [if_pos e];obtain ⟨cv,h3,h4⟩:=h2 i e;exact ⟨cv,by rw [List.getElem?_append_left (by omega)];exact h3,h4⟩
  ·obtain rfl:i=k:=by omega
   rw [if_neg e];exact ⟨cv,by rw [List.getElem?_append_right (by omega),hl,Nat.sub_self];rfl,hb0,hr.lt,hr,ho⟩
def Y0n (c:Cfg) (w:World) (K nb:Nat) (tr:Value) (k:Nat) (wr:World):Prop:=
 ∃v xs,Below w.heap.size w wr∧RowF wr K 5 94 (Xo v (.int .i64 0) (.slice none 0 0) (.pointer (some ⟨nb,0,none⟩)) tr)∧wr.ownsRow (K+1) 100 1 v k xs∧Ext w.heap.size c nb tr wr∧XV w.heap.size c k xs wr
def Y0Z (c:Cfg) (w:World) (K nb:Nat) (v tr:Value) (k:Nat) (wr:World):Prop:=
 ∃u xs,Below w.heap.size w wr∧RowF wr K 5 94 (Xo v (.int .i64 0) u (.pointer (some ⟨nb,0,none⟩)) tr)∧wr.ownsRow (K+1) 143 1 u k xs∧Ext w.heap.size c nb tr wr∧(∃ys,wr.ownsRow (K+1) 100 1 v c.nT ys∧XV w.heap.size c c.nT ys wr)∧ZA w.heap.size c nb k xs wr
def YaS (c:Cfg) (w:World) (e:Ending) (w':World):Prop:=
 ∃k:Value,∃x y:Int,e=.returned (.tuple #[k,.int .i64 x,.int .i64 y])∧Y8 c x y∧Below w.heap.size w w'∧((x≠0∧k=.pointer none)∨(x=0∧∃K nb v tr,k=.pointer (some ⟨K,0,none⟩)∧w.heap.size<K∧Y0Z c w K nb v tr c.nC w'))
theorem Y9y {P:Program} (t e:TypeId) (z:Value) (size bytes n:Nat) (ht:P.underlying t=some (.slice e)) (hinfo:(P.info? e).map (fun i=>(i.zero,i.size,i.bytes))=some (some z,size,bytes)) (hb:bytes*n≤281474976710656) (hn:n≤9223372036854775807):
  ∃MC:Array Value,MC.size=n*size∧(∀j,j<n*size→MC[j]?=some (z.cells[j % z.cells.size]!))∧∀W:World,(Instr.makeSlice t (.int .i64 n) (.int .i64 n)).run P W=.ok (.slice (some ⟨W.heap.size,0,none⟩) n n) (W.alloc (.cells MC e)):=by
 obtain ⟨i,h2,h3,h4,h5⟩:=info_parts hinfo;subst h4 h5;refine ⟨madeCells z.cells (n*i.size),size_madeCells _ _,fun j hj=>by simp [madeCells,hj],fun W=>?_⟩;have hb':(i.bytes:Int)*(n:Int)≤281474976710656:=by
  have h:((i.bytes*n:Nat):Int)≤281474976710656:=by omega
  rwa [Int.natCast_mul] at h
 have hr:=run_make (P:=P) W t e i z ht h2 h3 .i64 .i64 n n (by omega) (Int.le_refl _) hb' (by omega);simpa only [Int.toNat_natCast] using hr
theorem rowT {A:World} {M:Array Value} {n:Nat} (hs:M.size=n*1) (hM:∀j,j<n*1→M[j]?=some ((Value.slice none 0 0).cells[j % (Value.slice none 0 0).cells.size]!)):RowF (A.alloc (.cells M 61)) A.heap.size n 61 (fun _=>.slice none 0 0):=by
 have h1:M.size=n:=by omega
 rw [←h1];refine RowF.new A M _ _ (fun j hj=>?_);rw [hM j (by omega)];have h:(Value.slice none 0 0).cells=#[.slice none 0 0]:=rfl;rw [h];have:j % 1=0:=by omega
 simp [this]
theorem JK {w:World} {b e s n:Nat} {v:Value} {xs:List Value} (h:w.ownsRow b e s v n xs):∃p cap,v=.slice p n cap:=by
 rcases h.2 with ⟨rfl,rfl⟩|⟨g,cap,_,rfl,_⟩
 ·exact ⟨_,_,rfl⟩
 ·exact ⟨_,_,rfl⟩
theorem Y3y {w:World} {b e n:Nat} {v:Value} {xs:List Value} (h:w.ownsRow b e 1 v n xs):xs.length=n:=by have:=h.1;omega
theorem Y14 (c:Cfg) (v0 v1 v2 v3:Value) (w:World) (h:CfgR w v0 v1 v2 v3 c) (hw:CfgW c) (hrn:∀i,i<c.nT→c.rowN i=false):
  Calls Tryz.prog 27 #[.agg #[v0,v1,v2,v3]] w (YaS c w):=by
 have HA:Hid (∀o,Below w.heap.size w (w.alloc o)):=fun o=>(Below.refl _ _).alloc (Nat.le_refl _) _;have HC:Hid (∀o,Calls Tryz.prog 50 #[.agg #[v0,v1,v2,v3]] (w.alloc o) (Chk c (w.alloc o))):=fun o=>Y6j c v0 v1 v2 v3 _ (h.below (HA.out _)) hw;obtain ⟨p0,cap0,F0,p1,cap1,F1,p2,cap2,p3,cap3,rfl,rfl,rfl,rfl,s0,k0,s1,k1,s2,-,b0,b1,b2,b3⟩:=h.parts;have S2:Hid (Sl w p2 (c.nCh*3) (fun j=>.int .i64 (c.ch j))):=s2;have S0:Hid (Sl w p0 (c.nC*3) F0):=s0;have K0:Hid (∀i,i<c.nC→_):=k0;have S1:Hid (Sl w p1 c.nT F1):=s1;have K1:Hid (∀i,i<c.nT→SlZ w (F1 i) (c.rowN i) (c.nRow i) 2 (c.row i) 16):=k1;have HRN:Hid (∀i,i<c.nT→c.rowN i=false):=hrn;clear hrn;clear h hw s0 k0 s1 k1 s2 b0 b1 b2 b3
 go_enter Tryz.func27,Tryz.ntmps27
 go_wp2_with fail
 refine (HC.out _).mono ?_;rintro e w1 ⟨x,y,rfl,hx,hbel⟩;have HX:Hid (Y8 c x y):=hx;have HB1:Hid (Below (w.heap.size+1) (w.alloc (.cells #[.slice p0 c.nC cap0,.slice p1 c.nT cap1,.slice p2 c.nCh cap2,.slice p3 c.nD cap3] 28)) w1):=hbel.mono (by simp);clear hx hbel;by_cases h0:x=0
 ·have hne:(x != 0)=false:=by simpa using h0
  have H0:Hid (x=0):=h0;have HOK:Hid (NCok c∧NTok c∧Yb (X3 c) c.nC):=(HX.out.place h0).sizes;have q6:c.nC≤6:=HOK.out.1.2;have q8:c.nT≤8:=HOK.out.2.1.2;obtain ⟨M1,hM1,hMC,hm1⟩:=Y9y (P:=Tryz.prog) 73 61 _ 1 24 c.nC Tryz.underlying73 Yam (by omega) (by omega);obtain ⟨x0,x1,x2,x3⟩:=box4 HB1.out;have hs1:w.heap.size<w1.heap.size:=by have:=HB1.out.size;simp at this;omega
  have HBw1:Hid (Below w.heap.size w w1):=Yg HB1.out;have HMC:Hid (M1.size=c.nC*1∧∀j,j<c.nC*1→M1[j]?=some ((Value.slice none 0 0).cells[j % (Value.slice none 0 0).cells.size]!)):=⟨hM1,hMC⟩;clear h0 hM1 hMC;have q7:c.nCh≤8:=(HX.out.place H0.out).chans;go_wp2_with fail
  have HBm:Hid (Below (w.heap.size+1) (w.alloc (.cells #[.slice p0 c.nC cap0,.slice p1 c.nT cap1,.slice p2 c.nCh cap2,.slice p3 c.nD cap3] 28)) (w1.alloc (.cells M1 61))):=HB1.out.alloc (by have:=HB1.out.size;simp at this;omega) _;go_region_held3 (fun W=>W.cell? ⟨w.heap.size,2,none⟩=some (.slice p2 c.nCh cap2)∧W.cell? ⟨w.heap.size,0,none⟩=some (.slice p0 c.nC cap0)) (go_keep)
   (first
    |(go_at_call 51
      refine (Y4c p2 c.nCh cap2 c.ch _ (S2.out.below (Yg HBm.out.drew)) q7).mono ?_;rintro e wl ⟨nb,rfl,hnbl,ve,vq,vs,h3,hr3,ho1,ho2,ho3⟩;have hnbw:w.heap.size≤nb+1:=Nat.le_succ_of_le (Nat.le_trans HBw1.out.size (Nat.le_trans (by first|exact Nat.le_refl _|(show w1.heap.size≤(w1.alloc _).heap.size;simp)) hnbl));have HNT:Hid (w.heap.size≤nb∧∃ve vq vs,RowF wl nb 3 149 (cells3 ve vq vs)∧(∃p cap,ve=.slice p c.nCh cap)∧(∃p cap,vq=.slice p c.nCh cap)∧(∃p cap,vs=.slice p c.nCh cap)∧NetO w.heap.size c ve vq vs wl):=⟨Nat.le_trans HBw1.out.size (Nat.le_trans (by first|exact Nat.le_refl _|(show w1.heap.size≤(w1.alloc _).heap.size;simp)) hnbl),ve,vq,vs,hr3,JK ho1,JK ho2,JK ho3,Y1S ho1 hnbw,Y1S ho2 hnbw,Y1S ho3 hnbw⟩;clear hr3 ho1 ho2 ho3 hnbl hnbw;have HBl:Hid (Below (w.heap.size+1) (w.alloc (.cells #[.slice p0 c.nC cap0,.slice p1 c.nT cap1,.slice p2 c.nCh cap2,.slice p3 c.nD cap3] 28)) wl):=HBm.out.drew.trans (h3.mono (by have:=HBm.out.size;simp at this;show _≤(w1.alloc (.cells M1 61)).heap.size;simp;omega));have HTL:Hid (RowF wl w1.heap.size c.nC 61 (fun _=>.slice none 0 0)):=(rowT (A:=w1) HMC.out.1 HMC.out.2).of_heap (h3.block _ (by show w1.heap.size<(w1.alloc _).heap.size;simp));clear h3;obtain ⟨xl0,xl1,xl2,xl3⟩:=box4 HBl.out)
    |(go_at_call 51
      refine (Y4c p2 c.nCh cap2 c.ch _ (S2.out.below (Yg HB1.out.drew)) q7).mono ?_;rintro e wl ⟨nb,rfl,hnbl,ve,vq,vs,h3,hr3,ho1,ho2,ho3⟩;have hnbw:w.heap.size≤nb+1:=Nat.le_succ_of_le (Nat.le_trans HBw1.out.size (Nat.le_trans (by first|exact Nat.le_refl _|(show w1.heap.size≤(w1.alloc _).heap.size;simp)) hnbl));have HNT:Hid (w.heap.size≤nb∧∃ve vq vs,RowF wl nb 3 149 (cells3 ve vq vs)∧(∃p cap,ve=.slice p c.nCh cap)∧(∃p cap,vq=.slice p c.nCh cap)∧(∃p cap,vs=.slice p c.nCh cap)∧NetO w.heap.size c ve vq vs wl):=⟨Nat.le_trans HBw1.out.size (Nat.le_trans (by first|exact Nat.le_refl _|(show w1.heap.size≤(w1.alloc _).heap.size;simp)) hnbl),ve,vq,vs,hr3,JK ho1,JK ho2,JK ho3,Y1S ho1 hnbw,Y1S ho2 hnbw,Y1S ho3 hnbw⟩;clear hr3 ho1 ho2 ho3 hnbl hnbw;have HBl:Hid (Below (w.heap.size+1) (w.alloc (.cells #[.slice p0 c.nC cap0,.slice p1 c.nT cap1,.slice p2 c.nCh cap2,.slice p3 c.nD cap3] 28)) wl):=HB1.out.drew.trans (h3.mono (by have:=HB1.out.size;simp at this;show _≤w1.heap.size;omega));clear h3;obtain ⟨xl0,xl1,xl2,xl3⟩:=box4 HBl.out))
  have HF:Hid _:=Y3h (K:=wl.heap.size+1) (t:=94) (a:=.slice none 0 0) (b:=.int .i64 0) (c:=.slice none 0 0) (d:=.pointer (some ⟨nb,0,none⟩)) (e:=.slice (some ⟨wl.heap.size,0,none⟩) c.nC c.nC) (HBl.out.alloc (by have:=HBl.out.size;simp at this;omega) (.cells M1 61)) (by simp) rfl;have W0:Hid (Y0n c w (wl.heap.size+1) nb (.slice (some ⟨wl.heap.size,0,none⟩) c.nC c.nC) 0 ((wl.alloc (.cells M1 61)).alloc (.cells #[.slice none 0 0,.int .i64 0,.slice none 0 0,.pointer (some ⟨nb,0,none⟩),.slice (some ⟨wl.heap.size,0,none⟩) c.nC c.nC] 94))):=⟨_,_,HF.out.1,HF.out.2.1,World.ownsRow_nil _ _ _ _,⟨by
   obtain ⟨h0,ve,vq,vs,h1,h2,h2b,h2c,h2d⟩:=HNT.out;exact ⟨h0,ve,vq,vs,(h1.alloc _).alloc _,h2,h2b,h2c,(h2d.keep (Kp.alloc _ _)).keep (Kp.alloc _ _)⟩,_,(by have:=HBl.out.size;simp at this;omega),rfl,(rowT HMC.out.1 HMC.out.2).alloc _⟩,fun i hi=>absurd hi (by omega)⟩
  have X0:Hid (RowF ((wl.alloc (.cells M1 61)).alloc (.cells #[.slice none 0 0,.int .i64 0,.slice none 0 0,.pointer (some ⟨nb,0,none⟩),.slice (some ⟨wl.heap.size,0,none⟩) c.nC c.nC] 94)) w.heap.size 4 28 (Yc (.slice p0 c.nC cap0) (.slice p1 c.nT cap1) (.slice p2 c.nCh cap2) (.slice p3 c.nD cap3))):=(row4 w _ _ _ _ _).below HF.out.2.2.2.2 (by omega);have hK:wl.heap.size+1<((wl.alloc (.cells M1 61)).alloc (.cells #[.slice none 0 0,.int .i64 0,.slice none 0 0,.pointer (some ⟨nb,0,none⟩),.slice (some ⟨wl.heap.size,0,none⟩) c.nC c.nC] 94)).heap.size:=HF.out.2.2.1;have hKw:w.heap.size<wl.heap.size+1:=HF.out.2.2.2.1;clear HF;generalize ((wl.alloc (.cells M1 61)).alloc (.cells #[.slice none 0 0,.int .i64 0,.slice none 0 0,.pointer (some ⟨nb,0,none⟩),.slice (some ⟨wl.heap.size,0,none⟩) c.nC c.nC] 94))=w0 at *;generalize hKe:wl.heap.size+1=K at *;generalize (Value.slice (some ⟨wl.heap.size,0,none⟩) c.nC c.nC)=tr at *;clear hKe;rotate_left
  have HF:Hid _:=Y3h (K:=wl.heap.size) (t:=94) (a:=.slice none 0 0) (b:=.int .i64 0) (c:=.slice none 0 0) (d:=.pointer (some ⟨nb,0,none⟩)) (e:=.slice (some ⟨w1.heap.size,0,none⟩) c.nC c.nC) HBl.out (by simp) rfl;have W0:Hid (Y0n c w (wl.heap.size) nb (.slice (some ⟨w1.heap.size,0,none⟩) c.nC c.nC) 0 (wl.alloc (.cells #[.slice none 0 0,.int .i64 0,.slice none 0 0,.pointer (some ⟨nb,0,none⟩),.slice (some ⟨w1.heap.size,0,none⟩) c.nC c.nC] 94))):=⟨_,_,HF.out.1,HF.out.2.1,World.ownsRow_nil _ _ _ _,⟨by
   obtain ⟨h0,ve,vq,vs,h1,h2,h2b,h2c,h2d⟩:=HNT.out;exact ⟨h0,ve,vq,vs,h1.alloc _,h2,h2b,h2c,h2d.keep (Kp.alloc _ _)⟩,_,HBw1.out.size,rfl,HTL.out.alloc _⟩,fun i hi=>absurd hi (by omega)⟩
  have X0:Hid (RowF (wl.alloc (.cells #[.slice none 0 0,.int .i64 0,.slice none 0 0,.pointer (some ⟨nb,0,none⟩),.slice (some ⟨w1.heap.size,0,none⟩) c.nC c.nC] 94)) w.heap.size 4 28 (Yc (.slice p0 c.nC cap0) (.slice p1 c.nT cap1) (.slice p2 c.nCh cap2) (.slice p3 c.nD cap3))):=(row4 w _ _ _ _ _).below HF.out.2.2.2.2 (by omega);have hK:wl.heap.size<(wl.alloc (.cells #[.slice none 0 0,.int .i64 0,.slice none 0 0,.pointer (some ⟨nb,0,none⟩),.slice (some ⟨w1.heap.size,0,none⟩) c.nC c.nC] 94)).heap.size:=HF.out.2.2.1;have hKw:w.heap.size<wl.heap.size:=HF.out.2.2.2.1;clear HF;generalize (wl.alloc (.cells #[.slice none 0 0,.int .i64 0,.slice none 0 0,.pointer (some ⟨nb,0,none⟩),.slice (some ⟨w1.heap.size,0,none⟩) c.nC c.nC] 94))=w0 at *;generalize hKe:wl.heap.size=K at *;generalize (Value.slice (some ⟨w1.heap.size,0,none⟩) c.nC c.nC)=tr at *;clear hKe;rotate_left
  all_goals
   try clear HTL
   clear HNT HMC;clear hs1 HBw1 HB1 HBm HBl x0 x1 x2 x3 xl0 xl1 xl2 xl3 hm1 q7;obtain ⟨x0,x1,x2,x3⟩:=X0.out.at4;go_wp2_with fail
   clear x0 x1 x2 x3;go_loopw [33] (fun i wr=>∃k:Nat,k≤c.nT∧i=.int .i64 k∧K<wr.heap.size∧Hid (Y0n c w K nb tr k wr)∧Hid (RowF wr w.heap.size 4 28 (Yc (.slice p0 c.nC cap0) (.slice p1 c.nT cap1) (.slice p2 c.nCh cap2) (.slice p3 c.nD cap3)))) (fun i _=>c.nT-(intOf i).toNat)
   case atStart=>exact ⟨0,Nat.zero_le _,rfl,hK,W0,X0⟩
   case round=>
    obtain ⟨k,hk,rfl,hKr,HR,HX4⟩:=hrel;obtain ⟨v,xs,hbr,hrow,hown,hext,hrok⟩:=HR.out;have HEX:Hid (Ext w.heap.size c nb tr wr):=hext;have HRK:Hid (XV w.heap.size c k xs wr):=hrok;clear hext hrok;obtain ⟨z0,z1,z2,z3,z4⟩:=hrow.at5k;obtain ⟨x0,x1,x2,x3⟩:=HX4.out.at4;have hxr:w.heap.size<wr.heap.size:=HX4.out.lt;have HBr:Hid (Below w.heap.size w wr):=hbr;have HRo:Hid (RowF wr K 5 94 (Xo v (.int .i64 0) (.slice none 0 0) (.pointer (some ⟨nb,0,none⟩)) tr)):=hrow;have HO:Hid (wr.ownsRow (K+1) 100 1 v k xs):=hown;clear hbr hrow hown HR;by_cases hlt:k<c.nT
    ·obtain ⟨b,off,rfl,hc⟩:=(S1.out.below HBr.out).at (by omega);have c0:=hc k hlt;clear hc;obtain ⟨pr,capr,hF,-,hnn,zr,br,sr⟩:=K1.out k hlt;have HPS:Hid (∃ad,pr=some ad):=by
      cases pr with
      |none=>exact absurd (hnn.1 rfl) (by rw [HRN.out k hlt];simp)
      |some ad=>exact ⟨ad,rfl⟩
     clear hnn;rw [hF] at c0;have SR:Hid (Sl w pr (c.nRow k*2) (fun j=>.int .i64 (c.row k j))):=sr;have BR:Hid (16*c.nRow k≤140737488355328):=br;have ZR:Hid (pr=none→c.nRow k=0∧capr=0):=zr;clear hF sr br zr;go_wp2_with fail
     go_region_law
      (first
       |(refine Y0V rfl 52 _ _ rfl _ rfl Tryz.f52 Tryz.func52 Y6B Y8j (fun r w'=>∃gq cc,r=.slice (some ⟨gq,0,none⟩) (c.nRow k) cc∧Below wr.heap.size wr w'∧w'.ownsRow w.heap.size 102 2 (.slice (some ⟨gq,0,none⟩) (c.nRow k) cc) (c.nRow k) ((List.range (c.nRow k*2)).map fun j=>.int .i64 (c.row k j))) ?_ ?_
         ·obtain ⟨ad,had⟩:=HPS.out;subst had;refine (Ybk ad (c.nRow k) capr (c.row k) wr.drew (SR.out.below HBr.out.drew) BR.out).mono ?_;rintro e w' ⟨gq,cc,h1,h2,h3⟩;exact ⟨_,h1,gq,cc,rfl,⟨h2.os,h2.tape,h2.output,h2.size,h2.block⟩,Y1S h3 HBr.out.size⟩
         rintro r wl ⟨gq,cc,rfl,hbl,hwo⟩;have HWO:Hid (wl.ownsRow w.heap.size 102 2 (.slice (some ⟨gq,0,none⟩) (c.nRow k) cc) (c.nRow k) ((List.range (c.nRow k*2)).map fun j=>.int .i64 (c.row k j))):=hwo;clear hwo;have HBl:Hid (Below wr.heap.size wr wl):=hbl;have hsl:wr.heap.size≤wl.heap.size:=hbl.size;have q0:=(HBl.out.cell (p:=⟨K,0,none⟩) hKr).trans z0;have q0a:(wl.alloc (.cells #[.slice (some ⟨gq,0,none⟩) (c.nRow k) cc] 100)).cell? ⟨K,0,none⟩=some v:=((HBl.out.alloc hsl _).cell (p:=⟨K,0,none⟩) hKr).trans z0;clear hbl)
       |(refine Jk rfl _ _ 24 rfl (K+1) 100 _ 1 24 Tryz.underlying24 Y17 rfl (by omega) v k xs rfl (own_below HO.out (HBl.out.alloc hsl _)) wl.heap.size [.slice (some ⟨gq,0,none⟩) (c.nRow k) cc] 100 rfl rfl (by exact alloc_at rfl) (by simp [Value.oneCell']) (by simp only [maxLen];omega) (by omega) (by simp;omega) ?_
         intro g cap wg hown1 hgrow1 hat hlt1;have HOL:Hid (∀j,j<wr.heap.size→v.ownBlock≠some j→wg.heap[j]?=wr.heap[j]?):=(fun j hj hne=>(hgrow1.block j (by simp;omega) (fun e=>hne e.symm)).trans ((heap_alloc_old _ _ (by omega)).trans (HBl.out.block j hj)));have HOg:Hid (wg.ownsRow (K+1) 100 1 (.slice (some ⟨g,0,none⟩) (k+1:Nat) cap) (k+1) (xs++[.slice (some ⟨gq,0,none⟩) (c.nRow k) cc])):=hown1;have HSg:Hid (wr.heap.size≤wg.heap.size):=Nat.le_trans (Nat.le_trans hsl (by simp)) hgrow1.size;have HFg:Hid (wg.os=wr.os∧wg.tape=wr.tape∧wg.output=wr.output):=⟨hgrow1.os.trans HBl.out.os,hgrow1.tape.trans HBl.out.tape,hgrow1.output.trans HBl.out.output⟩;have HRg:Hid (RowF wg K 5 94 (Xo v (.int .i64 0) (.slice none 0 0) (.pointer (some ⟨nb,0,none⟩)) tr)):=HRo.out.of_heap (HOL.out K hKr (fun e=>by have:=(HO.out.lt K e).1;omega));have HKP:Hid (∀x,Kp wl (wg.setCell ⟨K,0,none⟩ x)):=fun x=>Kp.step (own_below HO.out HBl.out) (.inl rfl) (HRo.out.below HBl.out hKr) hgrow1;clear q0 q0a;have q0:=HRg.out.at5k.1;have q0f:=HRg.out.frozen 0;clear hown1 hgrow1 hat hlt1))
     all_goals
      have HN:Hid (Y0n c w K nb tr (k+1) (wg.setCell ⟨K,0,none⟩ (.slice (some ⟨g,0,none⟩) (k+1:Nat) cap))):=
       ⟨_,_,Y4s HBr.out HSg.out HFg.out HOL.out (fun j hj=>(HO.out.lt j hj).1) hKw,(HRg.out.set5k _).1,ownsRow_setCell_below HOg.out (by simp) _,HEX.out.keep ((Kp.below HBl.out).trans (HKP.out _)),((HRK.out.keep (Kp.below HBl.out)).step (Y3y HO.out) HWO.out).keep (HKP.out _)⟩
      have HX5:Hid (RowF (wg.setCell ⟨K,0,none⟩ (.slice (some ⟨g,0,none⟩) (k+1:Nat) cap)) w.heap.size 4 28 (Yc (.slice p0 c.nC cap0) (.slice (some ⟨b,off,none⟩) c.nT cap1) (.slice p2 c.nCh cap2) (.slice p3 c.nD cap3))):=
       (HX4.out.of_heap (HOL.out _ hxr (fun e=>by have:=(HO.out.lt _ e).1;omega))).other _ _ (by simp;omega)
      have hK5:K<(wg.setCell ⟨K,0,none⟩ (.slice (some ⟨g,0,none⟩) (k+1:Nat) cap)).heap.size:=by rw [size_setCell];exact HRg.out.lt
      clear q0 q0f;go_wp2_with fail
      exact ⟨⟨k+1,by omega,by go_num,hK5,HN,HX5⟩,by simp [intOf];omega⟩
    ·obtain rfl:k=c.nT:=by omega
     clear hlt hk z0 z1 z2 z3 z4;go_wp2_with fail
     have HOv:Hid (∃pv mv cv,v=.slice pv mv cv):=ZT HO.out;have V0:Hid (Y0Z c w K nb v tr 0 wr):=⟨_,_,HBr.out,HRo.out,World.ownsRow_nil _ _ _ _,HEX.out,⟨_,HO.out,HRK.out⟩,fun i=>i,fun i j hi=>absurd hi (by omega),fun i hi=>absurd hi (by omega)⟩;clear HO HRo HBr HEX HRK x0 x1 x2 x3 W0 X0 hK;revert V0 HX4 hKr hxr;revert wr;intro wr0 hKr HX4 hxr V0;go_loopw [52] (fun i wr=>∃k:Nat,k≤c.nC∧i=.int .i64 k∧K<wr.heap.size∧Hid (Y0Z c w K nb v tr k wr)∧Hid (RowF wr w.heap.size 4 28 (Yc (.slice p0 c.nC cap0) (.slice p1 c.nT cap1) (.slice p2 c.nCh cap2) (.slice p3 c.nD cap3)))) (fun i _=>c.nC-(intOf i).toNat)
     case atStart=>exact ⟨0,Nat.zero_le _,rfl,hKr,V0,HX4⟩
     case round=>
      clear HX4 hKr hxr V0;obtain ⟨k,hk,rfl,hKr,HR,HX4⟩:=hrel;obtain ⟨u,xs,hbr,hrow,hown,hext,hrok,hcok⟩:=HR.out;have HEX:Hid (Ext w.heap.size c nb tr wr):=hext;have HRK:Hid (∃ys,wr.ownsRow (K+1) 100 1 v c.nT ys∧XV w.heap.size c c.nT ys wr):=hrok;have HCK:Hid (ZA w.heap.size c nb k xs wr):=hcok;clear hext hrok hcok;obtain ⟨z0,z1,z2,z3,z4⟩:=hrow.at5k;obtain ⟨x0,x1,x2,x3⟩:=HX4.out.at4;have hxr:w.heap.size<wr.heap.size:=HX4.out.lt;have HBr:Hid (Below w.heap.size w wr):=hbr;have HRo:Hid (RowF wr K 5 94 (Xo v (.int .i64 0) u (.pointer (some ⟨nb,0,none⟩)) tr)):=hrow;have HO:Hid (wr.ownsRow (K+1) 143 1 u k xs):=hown;clear hbr hrow hown HR;by_cases hlt:k<c.nC
      ·obtain ⟨b,off,rfl,hc⟩:=(S0.out.below HBr.out).at (by omega);have c0:=hc (k*3) (by omega);have c1:=hc (k*3+1) (by omega);have c2:=hc (k*3+2) (by omega);rw [←Nat.add_assoc] at c1 c2;clear hc;obtain ⟨sc,si,hl⟩:=K0.out k hlt;obtain ⟨pc,capc,hF,-⟩:=id sc;obtain ⟨pi,capi,hG,-⟩:=id si;rw [hF] at sc c0;rw [hG] at si c1;rw [hl] at c2;have SC:Hid (SlZ w (.slice pc (c.nCode k) capc) (c.codeN k) (c.nCode k) 4 (c.code k) 32):=sc;have SI:Hid (SlZ w (.slice pi (c.nImg k) capi) (c.imgN k) (c.nImg k) 1 (c.img k) 8):=si;have H16:Hid (c.nImg k≤16):=(HOK.out.2.2 k hlt).2.1;clear hF hG hl sc si;go_wp2_with fail
       have HBp:Hid (Below wr.heap.size wr (wr.alloc (.cells #[.slice pc (c.nCode k) capc,.slice pi (c.nImg k) capi,.int .i64 (c.lim k)] 53))):=(Below.refl _ _).alloc (Nat.le_refl _) _;have hsp:wr.heap.size<(wr.alloc (.cells #[.slice pc (c.nCode k) capc,.slice pi (c.nImg k) capi,.int .i64 (c.lim k)] 53)).heap.size:=by simp
       obtain ⟨e0,e1,e2⟩:=(row3 wr (.slice pc (c.nCode k) capc) (.slice pi (c.nImg k) capi) (.int .i64 (c.lim k)) 53).at3;have eK:=(HBp.out.cell (p:=⟨K,2,none⟩) hKr).trans z2;have eN:=(HBp.out.cell (p:=⟨K,3,none⟩) hKr).trans z3;generalize (wr.alloc (.cells #[.slice pc (c.nCode k) capc,.slice pi (c.nImg k) capi,.int .i64 (c.lim k)] 53))=wp at *;have hKp:K<wp.heap.size:=by omega
       go_region_law
        (first
         |(refine Y9x rfl 53 _ _ _ _ _ _ rfl _ _ _ rfl rfl rfl Tryz.f53 Tryz.func53 Y8C Y8E (fun r w'=>∃kb,r=.pointer (some ⟨kb,0,none⟩)∧Below wp.heap.size wp w'∧Y0U wp k (some ⟨nb,0,none⟩) (c.lim k) (c.nCode k) (c.nImg k) (c.code k) (c.img k) kb w') ?_ ?_
           ·exact (Y9i _ _ _ _ _ _ _ _ _ _ (c.lim k) wp.drew (SC.out.keep (Zc (HBr.out.trans (HBp.out.mono (by omega))).drew)) (SI.out.keep (Zc (HBr.out.trans (HBp.out.mono (by omega))).drew)) H16.out).mono (fun e w' ⟨kb,h1,h2,h3⟩=>⟨_,h1,kb,rfl,⟨h2.os,h2.tape,h2.output,h2.size,h2.block⟩,h3⟩)
           rintro r wl ⟨kb,rfl,hbl,hcn⟩;have HCN:Hid (Y0U wp k (some ⟨nb,0,none⟩) (c.lim k) (c.nCode k) (c.nImg k) (c.code k) (c.img k) kb wl):=hcn;clear hcn;have HBl:Hid (Below wp.heap.size wp wl):=hbl;have hsl:wp.heap.size≤wl.heap.size:=hbl.size;have q0:=(HBl.out.cell (p:=⟨K,2,none⟩) hKp).trans eK;have q0a:(wl.alloc (.cells #[.pointer (some ⟨kb,0,none⟩)] 143)).cell? ⟨K,2,none⟩=some u:=((HBl.out.alloc hsl _).cell (p:=⟨K,2,none⟩) hKp).trans eK;clear hbl)
         |(refine Jk rfl _ _ 91 rfl (K+1) 143 _ 1 8 Tryz.underlying91 Y8i rfl (by omega) u k xs rfl (own_below (own_below HO.out HBp.out) (HBl.out.alloc hsl _)) wl.heap.size [.pointer (some ⟨kb,0,none⟩)] 143 rfl rfl (by exact alloc_at rfl) (by simp [Value.oneCell']) (by simp only [maxLen];omega) (by omega) (by simp;omega) ?_
           intro g cap wg hown1 hgrow1 hat hlt1;have HOL:Hid (∀j,j<wr.heap.size→u.ownBlock≠some j→wg.heap[j]?=wr.heap[j]?):=(fun j hj hne=>(hgrow1.block j (by simp;omega) (fun e=>hne e.symm)).trans ((heap_alloc_old _ _ (by omega)).trans ((HBl.out.block j (by omega)).trans (HBp.out.block j hj))));have HOg:Hid (wg.ownsRow (K+1) 143 1 (.slice (some ⟨g,0,none⟩) (k+1:Nat) cap) (k+1) (xs++[.pointer (some ⟨kb,0,none⟩)])):=hown1;have HSg:Hid (wr.heap.size≤wg.heap.size):=Nat.le_trans (Nat.le_trans (by omega:wr.heap.size≤wl.heap.size) (by simp)) hgrow1.size;have HFg:Hid (wg.os=wr.os∧wg.tape=wr.tape∧wg.output=wr.output):=⟨(hgrow1.os.trans HBl.out.os).trans HBp.out.os,(hgrow1.tape.trans HBl.out.tape).trans HBp.out.tape,(hgrow1.output.trans HBl.out.output).trans HBp.out.output⟩;have HRg:Hid (RowF wg K 5 94 (Xo v (.int .i64 0) u (.pointer (some ⟨nb,0,none⟩)) tr)):=HRo.out.of_heap (HOL.out K hKr (fun e=>by have:=(HO.out.lt K e).1;omega));have HGW:Hid (World.grownBy (wl.alloc (.cells #[.pointer (some ⟨kb,0,none⟩)] 143)) wg u.ownBlock):=⟨hgrow1.os,hgrow1.tape,hgrow1.output,hgrow1.size,hgrow1.block⟩;clear q0 q0a;have q0:=HRg.out.at5k.2.2.1;have q0f:=HRg.out.frozen 2;clear hown1 hgrow1 hat hlt1))
       all_goals
        have HAl:Below wl.heap.size wl (wl.alloc (.cells #[.pointer (some ⟨kb,0,none⟩)] 143)):=(Below.refl _ _).alloc (Nat.le_refl _) _;have HUo:=own_below (own_below HO.out HBp.out) HBl.out;have HKP:Hid (∀x,Kp wl (wg.setCell ⟨K,2,none⟩ x)):=fun x=>Kp.step HUo (.inr rfl) ((HRo.out.below HBp.out hKr).below HBl.out hKp) HGW.out;have HOW:Hid (∃ys,wg.ownsRow (K+1) 100 1 v c.nT ys∧XV w.heap.size c c.nT ys wr):=by
         obtain ⟨ys,h1,h2⟩:=HRK.out;have h3:=own_below (own_below (own_below h1 HBp.out) HBl.out) HAl;exact ⟨ys,h3.kept HGW.out (Y44 h3 (own_below HUo HAl) (by decide)),h2⟩
        clear HAl HUo;have HN:Hid (Y0Z c w K nb v tr (k+1) (wg.setCell ⟨K,2,none⟩ (.slice (some ⟨g,0,none⟩) (k+1:Nat) cap))):=
         ⟨_,_,Y4s HBr.out HSg.out HFg.out HOL.out (fun j hj=>(HO.out.lt j hj).1) hKw,(HRg.out.set5k _).2.2,ownsRow_setCell_below HOg.out (by simp) _,HEX.out.keep (((Kp.below HBp.out).trans (Kp.below HBl.out)).trans (HKP.out _)),(by
          obtain ⟨ys,h1,h2⟩:=HOW.out;exact ⟨ys,ownsRow_setCell_below h1 (by simp) _,h2.keep (((Kp.below HBp.out).trans (Kp.below HBl.out)).trans (HKP.out _))⟩),(by
          obtain ⟨cv,h1,h2,h3⟩:=HCN.out;exact ((((HCK.out.keep (Kp.below HBp.out)).keep (Kp.below HBl.out)).step (B:=wr.heap.size) (Nat.le_trans HBr.out.size (by omega)) (fun i j hi hx=>by
           obtain ⟨kb',_,h5⟩:=HCK.out;obtain ⟨_,h6,_,h7,_⟩:=h5 i hi;rw [h6] at hx;cases hx;exact h7) (by omega) (Y3y HO.out) h2 (Y1S h3 (Nat.le_trans HBr.out.size (by omega))))).keep (HKP.out _))⟩
        have HX5:Hid (RowF (wg.setCell ⟨K,2,none⟩ (.slice (some ⟨g,0,none⟩) (k+1:Nat) cap)) w.heap.size 4 28 (Yc (.slice (some ⟨b,off,none⟩) c.nC cap0) (.slice p1 c.nT cap1) (.slice p2 c.nCh cap2) (.slice p3 c.nD cap3))):=
         (HX4.out.of_heap (HOL.out _ hxr (fun e=>by have:=(HO.out.lt _ e).1;omega))).other _ _ (by simp;omega)
        have hK5:K<(wg.setCell ⟨K,2,none⟩ (.slice (some ⟨g,0,none⟩) (k+1:Nat) cap)).heap.size:=by rw [size_setCell];exact HRg.out.lt
        clear q0 q0f;go_wp2_with fail
        exact ⟨⟨k+1,by omega,by go_num,hK5,HN,HX5⟩,by simp [intOf];omega⟩
      ·obtain rfl:k=c.nC:=by omega
       clear hlt hk;go_wp2_with fail
       go_ret3
       exact ⟨_,_,_,rfl,HX.out.place H0.out,HBr.out,.inr ⟨rfl,_,_,_,_,rfl,hKw,u,xs,HBr.out,HRo.out,HO.out,HEX.out,HRK.out,HCK.out⟩⟩
 ·have hne:(x != 0)=true:=by simpa using h0
  have H0:Hid (x≠0):=h0;have HB:Hid (Below w.heap.size w w1):=Yg HB1.out;clear h0;go_wp2_with fail
  go_ret3
  exact ⟨_,x,y,rfl,HX.out,HB.out,.inl ⟨H0.out,rfl⟩⟩
end Go.Proofs.YtdoghgnifkgfdaaGreat
