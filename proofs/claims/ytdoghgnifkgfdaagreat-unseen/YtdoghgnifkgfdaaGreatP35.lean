import Derived.Test.YtdoghgnifkgfdaaGreatP08
import Derived.Test.YtdoghgnifkgfdaaGreatP33
import Derived.Test.YtdoghgnifkgfdaaGreatP34
set_option maxRecDepth 100000
set_option maxHeartbeats 16000000
namespace Go.Proofs.YtdoghgnifkgfdaaGreat.Mute
open Go Go.Conc Go.RowKit
abbrev RS (w w₁:World):Prop:=∃d,w₁=w.at d
abbrev DS (_ _:World) (es:Array Event):Prop:=∀e∈es,EvOk e
theorem Y2:Terms RS DS:=⟨fun _ _ _ ⟨_,h⟩ ⟨e,k⟩=>⟨e,by rw [k,h];rfl⟩,fun _ e he=>by simp at he⟩
theorem Ju:LetsDraw DS:=fun _ e he=>by simp at he
theorem Y3.of_goes {P:Program} {Post:Goroutine→World→Prop} {g:Goroutine} {w:World} (h:Y1 P true RS DS (Y3 P Post) g w):Y3 P Post g w:=by
 induction h with
 |stop hs h=>exact h _ ⟨_,rfl⟩
 |step nx hs h1 h2 ih=>exact .step hs fun d=>⟨_,_,_,(h1 _ ⟨d,rfl⟩).1,(h1 _ ⟨d,rfl⟩).2,ih _ ⟨d,rfl⟩⟩
def Is (W w:World):Prop:=∃d,w=W.at d
section
variable {W w w':World}
theorem Is.self (W:World):Is W W:=⟨W.drawn,rfl⟩
theorem Is.rely (h:Is W w) (r:RS w w'):Is W w':=by
 obtain ⟨d,rfl⟩:=h;obtain ⟨e,rfl⟩:=r;exact ⟨e,rfl⟩
theorem Is.drew (h:Is W w):Is W {w with drawn:=w.drawn+1}:=by
 obtain ⟨d,rfl⟩:=h;exact ⟨d+1,rfl⟩
theorem Is.cell (h:Is W w) (a:Addr):w.cell? a=W.cell? a:=by
 obtain ⟨d,rfl⟩:=h;rfl
theorem Is.frozen (h:Is W w) (a:Addr):w.frozen? a=W.frozen? a:=by
 obtain ⟨d,rfl⟩:=h;rfl
theorem Is.size (h:Is W w):w.heap.size=W.heap.size:=by
 obtain ⟨d,rfl⟩:=h;rfl
theorem Is.alloc (h:Is W w) (o:Obj):Is (W.alloc o) (w.alloc o):=by
 obtain ⟨d,rfl⟩:=h;exact ⟨d,rfl⟩
theorem Is.set (h:Is W w) (a:Addr) (v:Value):Is (W.setCell a v) (w.setCell a v):=by
 obtain ⟨d,rfl⟩:=h;exact ⟨d,rfl⟩
end
def Ych (c:Chn) (x:Int):Chn:=if c.wait.length<4 then {c with wait:=c.wait++[x]} else {c with lost:=IntKind.i64.wrap (c.lost+1)}
def endQ (c:Chn):Chn:={c.sent.foldl Ych c with sent:=[]}
def endS (c:Chn):Chn:=if c.anew=true then {c with shown:=c.writ,age:=0,writ:=0,anew:=false} else if c.age=-1 then c else {c with age:=IntKind.i64.wrap (c.age+1)}
theorem Yf6 {c:Chn} {x:Int} (h:c.wait.length≤4):(Ych c x).wait.length≤4:=by
 unfold Ych;split
 ·simp;omega
 ·exact h
theorem Ye4:∀(xs:List Int) (c:Chn),c.wait.length≤4→(xs.foldl Ych c).wait.length≤4
 | [],_,h=>h
 |x::xs,c,h=>Ye4 xs (Ych c x) (Yf6 h)
theorem YeD {c:Chn} (h:c.wait.length≤4):(endQ c).wait.length≤4:=Ye4 c.sent c h
def Ycg (k:Nat) (h:Chn→Chn) (C:Nat→Chn) (i:Nat):Chn:=if i<k then h (C i) else C i
theorem Yed (h:Chn→Chn) (C:Nat→Chn):Ycg 0 h C=C:=funext fun i=>if_neg (by omega)
theorem YdZ (h:Chn→Chn) (C:Nat→Chn) (k:Nat):Ycg (k+1) h C=uN (Ycg k h C) k (h (C k)):=funext fun i=>by
 by_cases e:i=k
 ·subst e;rw [YbU];exact if_pos (by omega)
 ·rw [Yc2 _ _ e];unfold Ycg;by_cases h1:i<k
  ·rw [if_pos (by omega),if_pos h1]
  ·rw [if_neg (by omega),if_neg h1]
theorem YcY (h:Chn→Chn) (C:Nat→Chn) (k:Nat):Ycg k h C k=C k:=if_neg (by omega)
def endC (k:Nat) (C:Nat→Chn):Nat→Chn:=Ycg k endS (Ycg k endQ C)
section
variable {K:NetK} {rn:List Row} {C:Nat→Chn} {fq fs:Nat→Value} {p:Nat→Option Nat} {i:Nat}
theorem NRx.wait (h:NRx K rn C fq fs p) (hi:i<K.k) {xs:List Int} {v':Value} {rn':List Row} {q:Option Nat} (h0:rn'[0]?=some ((rowQ K fq).put (i*3) v')) (hl:Lst rn' v' xs q) (hq:q=p (2*i)∨q=some rn.length) (hk:∀k,k≠0→p (2*i)≠some k→k<rn.length→rn'[k]?=rn[k]?):
  NRx K rn' (uN C i {C i with wait:=xs}) (upd fq (i*3) v') fs (fun j=>if j<2*K.k then (if j=2*i then q else p j) else none):=by
 have l1:=(List.getElem?_eq_some_iff.1 h.s).1;refine ⟨h0,?_,fun j hj=>?_,fun j y hy=>?_,fun j j' y hy hy'=>?_⟩
 ·rw [hk 1 (by omega) (fun e=>by have:=h.two _ _ e;omega) l1];exact h.s
 ·have hc:=h.ch j hj;have hlt:=fun {x:Nat}=>h.lt hj (x:=x);have ks:∀{v xs q'} (jj:Nat),q'=p jj→jj≠2*i→(∀y,q'=some y→y<rn.length)→Lst rn v xs q'→Lst rn' v xs q':=fun jj e hne hb hl=>hl.same fun y hy=>hk y (by have:=h.two jj y (e▸hy);omega) (fun e2=>hne (h.inj jj _ y (e▸hy) e2)) (hb y hy);have a2:=ks (2*j+1) rfl (by omega) (fun y hy=>hlt.2 hy) hc.sent;show ChR rn' _ fs _ j (if 2*j<2*K.k then (if 2*j=2*i then q else p (2*j)) else none) (if 2*j+1<2*K.k then (if 2*j+1=2*i then q else p (2*j+1)) else none);rw [if_pos (show 2*j<2*K.k by omega),if_pos (show 2*j+1<2*K.k by omega),if_neg (show ¬2*j+1=2*i by omega)];by_cases hji:j=i
  ·subst hji;rw [YbU,if_pos rfl];exact ⟨by rw [upd_same];exact hl,by rw [upd_ne _ _ (by omega)];exact a2,by rw [upd_ne _ _ (by omega)];exact hc.lost,hc.shown,hc.age,hc.writ,hc.anew⟩
  ·rw [Yc2 _ _ hji,if_neg (by omega)];have a1:=ks (2*j) rfl (by omega) (fun y hy=>hlt.1 hy) hc.wait;exact ⟨by rw [upd_ne _ _ (by omega)];exact a1,by rw [upd_ne _ _ (by omega)];exact a2,by rw [upd_ne _ _ (by omega)];exact hc.lost,hc.shown,hc.age,hc.writ,hc.anew⟩
 ·change (if j<2*K.k then (if j=2*i then q else p j) else none)=some y at hy;by_cases hj:j<2*K.k
  ·rw [if_pos hj] at hy;by_cases e:j=2*i
   ·rw [if_pos e] at hy;rcases hq with rfl|rfl
    ·exact h.two _ _ hy
    ·have:=Option.some.inj hy;omega
   ·rw [if_neg e] at hy;exact h.two _ _ hy
  ·rw [if_neg hj] at hy;cases hy
 ·change (if j<2*K.k then (if j=2*i then q else p j) else none)=some y at hy;change (if j'<2*K.k then (if j'=2*i then q else p j') else none)=some y at hy';have hb:∀m,m<2*K.k→p m=some rn.length→False:=fun m hm e=>by
   have hm2:m / 2<K.k:=by omega
   rcases Nat.mod_two_eq_zero_or_one m with e0|e0
   ·have:m=2*(m / 2):=by omega
    rw [this] at e;exact absurd ((h.lt hm2).1 e) (by omega)
   ·have:m=2*(m / 2)+1:=by omega
    rw [this] at e;exact absurd ((h.lt hm2).2 e) (by omega)
  by_cases hj:j<2*K.k
  ·by_cases hj':j'<2*K.k
   ·rw [if_pos hj] at hy;rw [if_pos hj'] at hy';by_cases e:j=2*i
    ·by_cases e':j'=2*i
     ·omega
     ·rw [if_pos e] at hy;rw [if_neg e'] at hy';rcases hq with rfl|rfl
      ·exact absurd (h.inj _ _ _ hy hy') (by omega)
      ·cases hy;exact (hb j' hj' hy').elim
    ·rw [if_neg e] at hy;by_cases e':j'=2*i
     ·rw [if_pos e'] at hy';rcases hq with rfl|rfl
      ·exact absurd (h.inj _ _ _ hy hy') (by omega)
      ·cases hy';exact (hb j hj hy).elim
     ·rw [if_neg e'] at hy';exact h.inj _ _ _ hy hy'
   ·rw [if_neg hj'] at hy';cases hy'
  ·rw [if_neg hj] at hy;cases hy
theorem NRx.clear (h:NRx K rn C fq fs p) (hi:i<K.k):NRx K (rn.set 0 ((rowQ K fq).put (i*3+1) (.slice none 0 0))) (uN C i {C i with sent:=[]}) (upd fq (i*3+1) (.slice none 0 0)) fs (uN p (2*i+1) none):=by
 refine ⟨YN h.q _,by rw [ZZ (by omega)];exact h.s,fun j hj=>?_,fun j y hy=>?_,fun j j' y hy hy'=>?_⟩
 ·have hc:=h.ch j hj;have hs:∀{v xs q},Lst rn v xs q→(∀y,q=some y→2≤y)→Lst (rn.set 0 ((rowQ K fq).put (i*3+1) (.slice none 0 0))) v xs q:=fun hl h2=>hl.same fun y hy=>ZZ (by have:=h2 y hy;omega) _;have a1:=hs hc.wait (h.two _);have a2:=hs hc.sent (h.two _);rw [Yc2 p _ (show 2*j≠2*i+1 by omega)];by_cases hji:j=i
  ·subst hji;rw [YbU,YbU];exact ⟨by rw [upd_ne _ _ (by omega)];exact a1,.inl ⟨rfl,upd_same _ _ _,rfl⟩,by rw [upd_ne _ _ (by omega)];exact hc.lost,hc.shown,hc.age,hc.writ,hc.anew⟩
  ·rw [Yc2 _ _ hji,Yc2 p _ (show 2*j+1≠2*i+1 by omega)];exact ⟨by rw [upd_ne _ _ (by omega)];exact a1,by rw [upd_ne _ _ (by omega)];exact a2,by rw [upd_ne _ _ (by omega)];exact hc.lost,hc.shown,hc.age,hc.writ,hc.anew⟩
 ·by_cases e:j=2*i+1
  ·subst e;rw [YbU] at hy;cases hy
  ·rw [Yc2 _ _ e] at hy;exact h.two _ _ hy
 ·by_cases e:j=2*i+1
  ·subst e;rw [YbU] at hy;cases hy
  ·by_cases e':j'=2*i+1
   ·subst e';rw [YbU] at hy';cases hy'
   ·rw [Yc2 _ _ e] at hy;rw [Yc2 _ _ e'] at hy';exact h.inj _ _ _ hy hy'
theorem NRx.sample (h:NRx K rn C fq fs p) (hi:i<K.k) {g:Nat→Value} {c:Chn} (hw:c.wait=(C i).wait) (hs:c.sent=(C i).sent) (hl:c.lost=(C i).lost) (h0:g (i*4)=.int .i64 c.shown) (h1:g (i*4+1)=.int .i64 c.age) (h2:g (i*4+2)=.int .i64 c.writ) (h3:g (i*4+3)=.bool c.anew) (ho:∀j,j / 4≠i→g j=fs j):NRx K (rn.set 1 (YbP K g)) (uN C i c) fq g p:=by
 refine ⟨by rw [ZZ (by omega)];exact h.q,YN h.s _,fun j hj=>?_,h.two,h.inj⟩;have hc:=h.ch j hj;have ks:∀{v xs q},Lst rn v xs q→(∀y,q=some y→2≤y)→Lst (rn.set 1 (YbP K g)) v xs q:=fun hl h2=>hl.same fun y hy=>ZZ (by have:=h2 y hy;omega) _;have a1:=ks hc.wait (h.two _);have a2:=ks hc.sent (h.two _);by_cases hji:j=i
 ·subst hji;rw [YbU];exact ⟨by rw [hw];exact a1,by rw [hs];exact a2,by rw [hl];exact hc.lost,h0,h1,h2,h3⟩
 ·rw [Yc2 _ _ hji];exact ⟨a1,a2,hc.lost,by rw [ho _ (by omega)];exact hc.shown,by rw [ho _ (by omega)];exact hc.age,by rw [ho _ (by omega)];exact hc.writ,by rw [ho _ (by omega)];exact hc.anew⟩
end
section
variable {P:Program} {main:Bool} {R R':World→World→Prop} {D D':World→World→Array Event→Prop} {I:World→World→Prop} {Stop:Goroutine→World→Prop} {g:Goroutine} {w:World}
theorem Y1.inv (hI:∀a b c,I a b→I b c→I a c) (hr:∀a b,R' a b→R a b) (hd:∀a b es,D a b es→D' a b es) (i1:∀a b,R' a b→I a b) (i2:∀a b es,D a b es→I a b) (h:Y1 P main R D Stop g w):Y1 P main R' D' (fun g w'=>Stop g w'∧I w w') g w:=by
 induction h with
 |stop hs h=>exact .stop hs fun w1 h1=>⟨h w1 (hr _ _ h1),i1 _ _ h1⟩
 |step nx hs h1 h2 ih=>exact .step nx hs (fun w1 r=>⟨(h1 w1 (hr _ _ r)).1,hd _ _ _ (h1 w1 (hr _ _ r)).2⟩) fun w1 r=>(ih w1 (hr _ _ r)).mono fun g w' x=>⟨x.1,hI _ _ _ (i1 _ _ r) (hI _ _ _ (i2 _ _ _ (h1 w1 (hr _ _ r)).2) x.2)⟩
theorem Yl.solo {L:Lot} {f:FuncId} {args:Array Value} {Post:Value→World→Prop} (h:Yl P true L.R1 L.D1 f args w Post (fun _ _=>False)) (st:∀v w w',Post v w→L.R1 w w'→Post v w'):Yl P true RS DS f args w (fun v w'=>Post v w'∧w'.heap[L.c]?=w.heap[L.c]?) (fun _ _=>False):=fun cl cs Stop h1 _=>by
 have hg:=h cl cs (fun g w'=>∃v,Post v w'∧g=G (cl.finish v) cs) (fun v w' hp=>.stop rfl fun w1 r=>⟨v,st v _ _ hp r,rfl⟩) (fun _ _ x=>x.elim);refine (hg.inv (I:=fun a b=>b.heap[L.c]?=a.heap[L.c]?) (R':=RS) (D':=DS) (fun a b c x y=>y.trans x) (fun a b r=>by obtain ⟨d,rfl⟩:=r;exact .at _ _) (fun a b es d e he=>(d.evs e he).1) (fun a b r=>by obtain ⟨d,rfl⟩:=r;rfl) fun a b es d=>d.chan).bind (fun w=>⟨w.drawn,rfl⟩) fun g' w' ⟨⟨v,hp,e⟩,hc⟩=>?_;rw [e];exact h1 v w' ⟨hp,hc⟩
end
noncomputable def Ydx:Code:=match Tryz.f58.body with
 |some (.seq (.seq _ (.block _ (.loop c))) _)=>c
 |_=>.skip
noncomputable def YdB:Code:=match Tryz.f58.body with
 |some (.seq _ c)=>c
 |_=>.skip
section
variable {L:Lot} {w0:World} {K:NetK} {i:Nat}
theorem Lst.at {rows:List Row} {v:Value} {xs:List Int} {p:Option Nat} (h:Lst rows v xs p) {j:Nat} (hj:j<xs.length):∃(k:Nat) (r:Row),rows[k]?=some r∧v=Value.slice (some ⟨r.g,0,none⟩) xs.length r.m∧j<r.m∧r.f j=.int .i64 (xs.getD j 0):=by
 rcases h with ⟨_,_,h⟩|⟨k,r,_,h1,_,h2,h3,_,h4⟩
 ·rw [h] at hj;simp at hj
 ·exact ⟨k,r,h1,h2,by omega,h4 j hj⟩
theorem Yf9 (hev:((2:Nat)==L.ev)=false) (hik:i<K.k) (hqm:K.k*3≤K.qm) {xs:List Int} (hn:xs.length≤1000000000) (sa:Option Addr) (sc:Nat) {Stop:Goroutine→World→Prop} (cs:List Frame) (Cf:Nat→Chn)
  (Ret:∀(rn:List Row) (fq fs:Nat→Value) (p:Nat→Option Nat) (C:Nat→Chn) (w':World) (u1 u2 u3 u10 u11 u12 u13 u14 u15 u16 u17 u18 u19 u20 u21 u22 u23 u24 u25 u26 u27 u28 u29 u30 u31 u32 u33 u34 u35 u36 u37 u38 u39:Value),NRx K rn C fq fs p→uN C i {C i with sent:=[]}=Cf→KnL L w0 rn [] w'→Y1 Tryz.prog true L.R1 L.D1 Stop (G ((base 58).at {tmps:=#[.pointer (some ⟨K.qb,i*3,none⟩),u1,u2,u3,.pointer (some ⟨K.qb,i*3,none⟩),.pointer (some ⟨K.qb,i*3,none⟩),.pointer (some ⟨K.qb,i*3+1,none⟩),.slice sa xs.length sc,.int .i64 xs.length,.int .i64 xs.length,u10,u11,u12,u13,u14,u15,u16,u17,u18,u19,u20,u21,u22,u23,u24,u25,u26,u27,u28,u29,u30,u31,u32,u33,u34,u35,u36,u37,u38,u39],defers:=[]} [.code YdB]) cs) w'):
  ∀(rem j:Nat) (rn:List Row) (fq fs:Nat→Value) (p:Nat→Option Nat) (C:Nat→Chn) (w:World) (u1 u2 u3 u10 u11 u12 u13 u14 u15 u16 u17 u18 u19 u20 u21 u22 u23 u24 u25 u26 u27 u28 u29 u30 u31 u32 u33 u34 u35 u36 u37 u38 u39:Value),j+rem=xs.length→NRx K rn C fq fs p→(C i).sent=xs→fq (i*3+1)=.slice sa xs.length sc→(C i).wait.length≤4→uN C i {(xs.drop j).foldl Ych (C i) with sent:=[]}=Cf→KnL L w0 rn [] w→
   Y1 Tryz.prog true L.R1 L.D1 Stop (G ((base 58).at {tmps:=#[.pointer (some ⟨K.qb,i*3,none⟩),u1,u2,u3,.pointer (some ⟨K.qb,i*3,none⟩),.pointer (some ⟨K.qb,i*3,none⟩),.pointer (some ⟨K.qb,i*3+1,none⟩),.slice sa xs.length sc,.int .i64 xs.length,.int .i64 j,u10,u11,u12,u13,u14,u15,u16,u17,u18,u19,u20,u21,u22,u23,u24,u25,u26,u27,u28,u29,u30,u31,u32,u33,u34,u35,u36,u37,u38,u39],defers:=[]} [.code Ydx,.inLoop Ydx,.inBlock 0,.code YdB]) cs) w:=by
 have hk:(base 58).kind≠.early:=by simp [base]
 intro rem;induction rem with
 |zero=>
  intro j rn fq fs p C w u1 u2 u3 u10 u11 u12 u13 u14 u15 u16 u17 u18 u19 u20 u21 u22 u23 u24 u25 u26 u27 u28 u29 u30 u31 u32 u33 u34 u35 u36 u37 u38 u39 hj hx hs hsv hwl hcf hF;obtain rfl:j=xs.length:=by omega
  repeat refine .c1 L.terms1 rfl ?_
  refine .regionL L.terms1 [0] (by rfl) ?_;refine .opV L.terms1 rfl (by rfl) hk ?_;try walk_nrm
  repeat refine .c1 L.terms1 rfl ?_
  refine Y1.condF L.terms1 (by first|rfl|simp [Act.eval]) ?_;refine Y1.exit L.terms1 (by rfl) ?_;refine Ret rn fq fs p C _ _ _ _ _ _ _ _ _ _ _ _ _ _ _ _ _ _ _ _ _ _ _ _ _ _ _ _ _ _ _ _ _ _ hx ?_ hF;rw [←hcf,List.drop_length];rfl
 |succ rem ih=>
  intro j rn fq fs p C w u1 u2 u3 u10 u11 u12 u13 u14 u15 u16 u17 u18 u19 u20 u21 u22 u23 u24 u25 u26 u27 u28 u29 u30 u31 u32 u33 u34 u35 u36 u37 u38 u39 hj hx hs hsv hwl hcf hF;have hlt:j<xs.length:=by omega
  have hli:(j:Int)<(xs.length:Int):=by omega
  have hwr:IntKind.i64.wrap ((j:Int)+1)=((j+1:Nat):Int):=by rw [IntKind.wrap_i64];omega
  have hc:=hx.ch i hik;have hdrop:xs.drop j=xs.getD j 0::xs.drop (j+1):=by rw [List.drop_eq_getElem_cons hlt];simp [hlt]
  rw [hdrop,List.foldl_cons] at hcf;have hsent:=hc.sent;rw [hs] at hsent;obtain ⟨ks,r2,s1,s2,s3,s4⟩:=hsent.at hlt;rw [hsv] at s2;injection s2 with sa1 _ sc1
  subst sa1;subst sc1;clear hdrop hsent;generalize xs.getD j 0=x at s4 hcf;obtain ⟨wa,wn,wc,hwv⟩:=hc.wait.slice;have hwn:wn=(C i).wait.length:=by
   rcases hc.wait with ⟨_,e1,e2⟩|⟨_,_,_,_,_,e1,_⟩
   ·rw [hwv] at e1;injection e1 with _ e1 _;rw [e2];exact e1
   ·rw [hwv] at e1;injection e1 with _ e1 _
  subst hwn;repeat refine .c1 L.terms1 rfl ?_
  refine .regionL L.terms1 [0] (by rfl) ?_;refine .opV L.terms1 rfl (by rfl) hk ?_;try walk_nrm
  repeat refine .c1 L.terms1 rfl ?_
  refine Y1.condT L.terms1 (by first|rfl|simp [Act.eval,hli]) ?_;repeat refine .c1 L.terms1 rfl ?_
  refine .regionL L.terms1 [0,1,2] (by rfl) ?_;refine .op rfl (by rfl) hk fun w1 hR K_ hK=>?_;replace hF:=hF.rely hR;clear hR;go_simp;try (unfold stored;go_simp)
  refine hK _ _ ⟨?_,?_⟩
  ·co_still L.terms1
  clear hK K_;try walk_nrm
  refine .op rfl (by rfl) hk fun w1 hR K_ hK=>?_;replace hF:=hF.rely hR;clear hR;have hc2:World.cell? _ ⟨r2.g,j,none⟩=some (.int .i64 x):=(hF.cell s1 s3).trans (by rw [s4]);go_simp;try (unfold stored;go_simp)
  refine hK _ _ ⟨?_,?_⟩
  ·refine hF.looks s1 ?_;co_evs (exact ⟨_,rfl⟩)
  clear hK K_;clear hc2;try walk_nrm
  refine .opV L.terms1 rfl (by rfl) hk ?_;try walk_nrm
  repeat refine .c1 L.terms1 rfl ?_
  refine .regionL L.terms1 [0,1,2,3,4,5] (by rfl) ?_;iterate 3 (refine .opV L.terms1 rfl (by rfl) hk ?_;try walk_nrm)
  refine .op rfl (by rfl) hk fun w1 hR K_ hK=>?_;replace hF:=hF.rely hR;clear hR;have hc2:World.cell? _ ⟨K.qb,i*3,none⟩=some (.slice wa (C i).wait.length wc):=(KnL.cell (r:=rowQ K fq) hF hx.q (j:=i*3) (by show _<K.qm;omega)).trans (congrArg some hwv);go_simp;try (unfold stored;go_simp)
  refine hK _ _ ⟨?_,?_⟩
  ·refine KnL.looks (r:=rowQ K fq) hF hx.q ?_;co_evs (exact ⟨_,rfl⟩)
  clear hK K_;clear hc2;try walk_nrm
  iterate 2 (refine .opV L.terms1 rfl (by rfl) hk ?_;try walk_nrm)
  repeat refine .c1 L.terms1 rfl ?_
  by_cases hroom:(C i).wait.length<4
  ·skip;have hpq:Ych (C i) x={C i with wait:=(C i).wait++[x]}:=by unfold Ych;rw [if_pos hroom]
   have hde:decide (((C i).wait.length:Int)<4)=true:=by simp;omega
   refine Y1.condT L.terms1 (by first|rfl|(simp [Act.eval];omega)) ?_;repeat refine .c1 L.terms1 rfl ?_
   refine .regionL L.terms1 [0,1,2,3,4,5,6,7,8,9,10] (by rfl) ?_;iterate 4 (refine .opV L.terms1 rfl (by rfl) hk ?_;try walk_nrm)
   refine .op rfl (by rfl) hk fun w1 hR K_ hK=>?_;replace hF:=hF.rely hR;clear hR;have hc2:World.cell? _ ⟨K.qb,i*3,none⟩=some (.slice wa (C i).wait.length wc):=(KnL.cell (r:=rowQ K fq) hF hx.q (j:=i*3) (by show _<K.qm;omega)).trans (congrArg some hwv);go_simp;try (unfold stored;go_simp)
   refine hK _ _ ⟨?_,?_⟩
   ·refine KnL.looks (r:=rowQ K fq) hF hx.q ?_;co_evs (exact ⟨_,rfl⟩)
   clear hK K_;clear hc2;try walk_nrm
   refine .opV L.terms1 rfl (by rfl) hk ?_;try walk_nrm
   refine .op rfl (by rfl) hk fun w1 hR K_ hK=>?_;replace hF:=hF.rely hR;clear hR;go_simp;try (unfold stored;go_simp)
   refine hK _ _ ⟨?_,?_⟩
   ·refine hF.doesAlloc _ ?_;(intro e he;have hm:=mem_listed he;simp [go_sem, *] at hm)
   clear hK K_;have hN:=hF.alloc #[.int .i64 x] 2 (fun _=>.int .i64 x) hev (fun j hj=>by
    have:j=0:=by simpa using hj
    subst this;rfl)
   replace hF:KnL L w0 rn [⟨w1.heap.size,1,2,fun _=>.int .i64 x⟩] _:=hN;clear hN;generalize hB:w1.heap.size=B at *;generalize hW:(w1.alloc (.cells #[.int .i64 x] 2))=w3 at *;clear hW hB w1;try walk_nrm
   have hl:=hc.wait;rw [hwv] at hl;have hp:p (2*i)≠some 0:=fun e=>by have:=hx.two _ _ e;omega
   have hn4:(C i).wait.length≤1000000000:=by omega
   refine .op rfl (by rfl) hk fun w1 hR K_ hK=>?_;replace hF:=hF.rely hR;clear hR;have hS:(rn++[(⟨B,1,2,fun _=>.int .i64 x⟩:Row)])[rn.length]?=some ⟨B,1,2,fun _=>.int .i64 x⟩:=YcA _;obtain ⟨v',rows',p',w',hrun,hK',hL',hT',hC',hcase⟩:=Kn.appended hF hev (hl.app _) hS hn4 51;refine uponK_append (.tmp 23) (.tmp 25) 51 rfl rfl rfl hrun (hK _ _ ⟨Kn.appendDoes hF (hl.app _) hS hn4 hT' hC' (.tmp 23) (.tmp 25) rfl rfl rfl,?_⟩);clear hK K_ hrun hT' hC';obtain ⟨rows2,p2,hK2,hq2,hL2,hle,hoth,hpp,hpi⟩:=YdU hx.q hp hl hK' hL' hcase;obtain ⟨va,vn,vc,rfl⟩:=hL'.slice;clear hK' hL' hcase hF hS;have hF:=hK2;clear hK2;try walk_nrm
   iterate 2 (refine .opV L.terms1 rfl (by rfl) hk ?_;try walk_nrm)
   refine .op rfl (by rfl) hk fun w1 hR K_ hK=>?_;replace hF:=hF.rely hR;clear hR;have hz2:World.frozen? _ ⟨K.qb,i*3,none⟩=false:=hF.frozen (r:=rowQ K fq) hq2 (i*3);have hc2:World.cell? _ ⟨K.qb,i*3,none⟩=some _:=hF.cell (r:=rowQ K fq) hq2 (j:=i*3) (by show _<K.qm;omega);go_simp;try (unfold stored;go_simp)
   refine hK _ _ ⟨?_,?_⟩
   ·refine hF.does (r:=rowQ K fq) hq2 (i*3) _ ?_;(intro e he;have hm:=mem_listed he;simp [go_sem,YcG, *] at hm;subst hm;exact rfl)
   clear hK K_;clear hz2 hc2;replace hF:=hF.set (r:=rowQ K fq) hq2 (i*3) (.slice va vn vc);try walk_nrm
   have hL3:Lst (rows2.set 0 ((rowQ K fq).put (i*3) (.slice va vn vc))) (.slice va vn vc) ((C i).wait++[x]) p2:=hL2.same fun y hy=>ZZ (fun e=>hpi (by rw [hy,e])) _;have hx2:=hx.wait (i:=i) hik (YN hq2 _) hL3 hpp fun k h1 h2 h3=>by rw [ZZ h1];exact hoth k h2 h3
   replace hF:=hF.lay;repeat refine .c1 L.terms1 rfl ?_
   refine .regionL L.terms1 [0,1] (by rfl) ?_;iterate 2 (refine .opV L.terms1 rfl (by rfl) hk ?_;try walk_nrm)
   repeat refine .c1 L.terms1 rfl ?_
   refine Y1.inLoop L.terms1 ?_;refine ih (j+1) _ _ _ _ _ _ _ _ _ _ _ _ _ _ _ _ _ _ _ _ _ _ _ _ _ _ _ _ _ _ _ _ _ _ _ _ _ _ _ (by omega) hx2 ?_ ((upd_ne _ _ (by omega)).trans hsv) ?_ ?_ hF
   ·rw [YbU];exact hs
   ·rw [YbU];show ((C i).wait++[x]).length≤4;simp;omega
   ·rw [←hcf,YbU,hpq];funext m
    unfold uN;split<;>rfl
  ·skip;have hpq:Ych (C i) x={C i with lost:=IntKind.i64.wrap ((C i).lost+1)}:=by unfold Ych;rw [if_neg hroom]
   have hde:decide (((C i).wait.length:Int)<4)=false:=by simp;omega
   refine Y1.condF L.terms1 (by first|rfl|(simp [Act.eval];omega)) ?_;repeat refine .c1 L.terms1 rfl ?_
   refine .regionL L.terms1 [0,1,2,3,4,5,6,7] (by rfl) ?_;iterate 3 (refine .opV L.terms1 rfl (by rfl) hk ?_;try walk_nrm)
   refine .op rfl (by rfl) hk fun w1 hR K_ hK=>?_;replace hF:=hF.rely hR;clear hR;have hc2:World.cell? _ ⟨K.qb,i*3+2,none⟩=some (.int .i64 (C i).lost):=(KnL.cell (r:=rowQ K fq) hF hx.q (j:=i*3+2) (by show _<K.qm;omega)).trans (congrArg some hc.lost);go_simp;try (unfold stored;go_simp)
   refine hK _ _ ⟨?_,?_⟩
   ·refine KnL.looks (r:=rowQ K fq) hF hx.q ?_;co_evs (exact ⟨_,rfl⟩)
   clear hK K_;clear hc2;try walk_nrm
   iterate 3 (refine .opV L.terms1 rfl (by rfl) hk ?_;try walk_nrm)
   refine .op rfl (by rfl) hk fun w1 hR K_ hK=>?_;replace hF:=hF.rely hR;clear hR;have hz2:World.frozen? _ ⟨K.qb,i*3+2,none⟩=false:=KnL.frozen (r:=rowQ K fq) hF hx.q (i*3+2);have hc2:World.cell? _ ⟨K.qb,i*3+2,none⟩=some _:=KnL.cell (r:=rowQ K fq) hF hx.q (j:=i*3+2) (by show _<K.qm;omega);go_simp;try (unfold stored;go_simp)
   refine hK _ _ ⟨?_,?_⟩
   ·refine KnL.does (r:=rowQ K fq) hF hx.q (i*3+2) _ ?_;co_evs (exact rfl)
   clear hK K_;clear hz2 hc2;replace hF:=(Kn.set (r:=rowQ K fq) hF.drop hx.q (i*3+2) (.int .i64 (IntKind.i64.wrap ((C i).lost+1)))).lay;try walk_nrm
   have hx2:=hx.setLost (i:=i) hik (IntKind.i64.wrap ((C i).lost+1));repeat refine .c1 L.terms1 rfl ?_
   refine .regionL L.terms1 [0,1] (by rfl) ?_;iterate 2 (refine .opV L.terms1 rfl (by rfl) hk ?_;try walk_nrm)
   repeat refine .c1 L.terms1 rfl ?_
   refine Y1.inLoop L.terms1 ?_;refine ih (j+1) _ _ _ _ _ _ _ _ _ _ _ _ _ _ _ _ _ _ _ _ _ _ _ _ _ _ _ _ _ _ _ _ _ _ _ _ _ _ _ (by omega) hx2 ?_ ((upd_ne _ _ (by omega)).trans hsv) ?_ ?_ hF
   ·rw [YbU];exact hs
   ·rw [YbU];exact hwl
   ·rw [←hcf,YbU,hpq];funext m
    unfold uN;split<;>rfl
theorem YfO {rn:List Row} {C:Nat→Chn} (hev:((2:Nat)==L.ev)=false) (hik:i<K.k) (hqm:K.k*3≤K.qm) (hN:NR K rn C) (hn:(C i).sent.length≤1000000000) (hwl:(C i).wait.length≤4) (w:World) (hF:Kn L w0 rn w):
  Yl Tryz.prog true L.R1 L.D1 58 #[.pointer (some ⟨K.qb,i*3,none⟩)] w (fun v w'=>v=.tuple #[]∧∃rn',NR K rn' (uN C i (endQ (C i)))∧Kn L w0 rn' w') (fun _ _=>False):=by
 obtain ⟨fq,fs,p,hx⟩:=hN (by omega);replace hF:=hF.lay;have hc:=hx.ch i hik;obtain ⟨sa,sn,sc,hsv⟩:=hc.sent.slice;have hsn:sn=(C i).sent.length:=by
  rcases hc.sent with ⟨_,e1,e2⟩|⟨_,_,_,_,_,e1,_⟩
  ·rw [hsv] at e1;injection e1 with _ e1 _;rw [e2];exact e1
  ·rw [hsv] at e1;injection e1 with _ e1 _
 subst hsn;have hk:(base 58).kind≠.early:=by simp [base]
 refine Yl.intro L.terms1 #[.pointer (some ⟨K.qb,i*3,none⟩),undef,undef,undef,undef,undef,undef,undef,undef,undef,undef,undef,undef,undef,undef,undef,undef,undef,undef,undef,undef,undef,undef,undef,undef,undef,undef,undef,undef,undef,undef,undef,undef,undef,undef,undef,undef,undef,undef,undef] Tryz.func58 rfl (by kernel_rfl) fun cl cs Stop Ret _=>?_;repeat refine .c1 L.terms1 rfl ?_
 refine .regionL L.terms1 [0,1,2,3,4,5] (by rfl) ?_;iterate 3 (refine .opV L.terms1 rfl (by rfl) hk ?_;try walk_nrm)
 refine .op rfl (by rfl) hk fun w1 hR K_ hK=>?_;replace hF:=hF.rely hR;clear hR;have hc2:World.cell? _ ⟨K.qb,i*3+1,none⟩=some (.slice sa (C i).sent.length sc):=(KnL.cell (r:=rowQ K fq) hF hx.q (j:=i*3+1) (by show _<K.qm;omega)).trans (congrArg some hsv);go_simp;try (unfold stored;go_simp)
 refine hK _ _ ⟨?_,?_⟩
 ·refine KnL.looks (r:=rowQ K fq) hF hx.q ?_;co_evs (exact ⟨_,rfl⟩)
 clear hK K_;clear hc2;try walk_nrm
 iterate 2 (refine .opV L.terms1 rfl (by rfl) hk ?_;try walk_nrm)
 repeat refine .c1 L.terms1 rfl ?_
 refine Y1.loop L.terms1 ?_;refine Yf9 hev hik hqm hn sa sc _ (uN C i (endQ (C i))) (fun rn fq fs p C' w' u1 u2 u3 u10 u11 u12 u13 u14 u15 u16 u17 u18 u19 u20 u21 u22 u23 u24 u25 u26 u27 u28 u29 u30 u31 u32 u33 u34 u35 u36 u37 u38 u39 hx hcf hF=>?_) (C i).sent.length 0 rn fq fs p C _ _ _ _ _ _ _ _ _ _ _ _ _ _ _ _ _ _ _ _ _ _ _ _ _ _ _ _ _ _ _ _ _ _ (by omega) hx rfl hsv hwl rfl hF;try walk_nrm
 repeat refine .c1 L.terms1 rfl ?_
 refine .regionL L.terms1 [0,1,2,3] (by rfl) ?_;iterate 3 (refine .opV L.terms1 rfl (by rfl) hk ?_;try walk_nrm)
 refine .op rfl (by rfl) hk fun w1 hR K_ hK=>?_;replace hF:=hF.rely hR;clear hR;have hz2:World.frozen? _ ⟨K.qb,i*3+1,none⟩=false:=KnL.frozen (r:=rowQ K fq) hF hx.q (i*3+1);have hc2:World.cell? _ ⟨K.qb,i*3+1,none⟩=some _:=KnL.cell (r:=rowQ K fq) hF hx.q (j:=i*3+1) (by show _<K.qm;omega);go_simp;try (unfold stored;go_simp)
 refine hK _ _ ⟨?_,?_⟩
 ·refine KnL.does (r:=rowQ K fq) hF hx.q (i*3+1) _ ?_;(intro e he;have hm:=mem_listed he;simp [go_sem,YcG, *] at hm;subst hm;exact rfl)
 clear hK K_;clear hz2 hc2;replace hF:=Kn.set (r:=rowQ K fq) hF.drop hx.q (i*3+1) (.slice none 0 0);try walk_nrm
 repeat refine .c1 L.terms1 rfl ?_
 refine Y1.fin L.terms1 ?_;have hx2:=hx.clear (i:=i) hik;rw [hcf] at hx2;exact Ret _ [] _ _ rfl (Y0L L.terms1 (by rfl) _) ⟨rfl,_,fun _=>⟨_,_,_,hx2⟩,hF⟩
end
section
variable {L:Lot} {w0:World} {K:NetK} {i:Nat}
theorem Kn.set4 {rows:List Row} {w:World} {r:Row} {ir o:Nat} (h:Kn L w0 rows w) (hr:rows[ir]?=some r) (a b c d:Value):
  Kn L w0 (rows.set ir {r with f:=upd (upd (upd (upd r.f o a) (o+1) b) (o+2) c) (o+3) d}) ((((w.setCell ⟨r.g,o,none⟩ a).setCell ⟨r.g,o+1,none⟩ b).setCell ⟨r.g,o+2,none⟩ c).setCell ⟨r.g,o+3,none⟩ d)∧∀{es:Array Event},(∀e∈es,∃j wr,e=⟨.cell ⟨r.g,j,none⟩,wr,false⟩)→L.D1 w ((((w.setCell ⟨r.g,o,none⟩ a).setCell ⟨r.g,o+1,none⟩ b).setCell ⟨r.g,o+2,none⟩ c).setCell ⟨r.g,o+3,none⟩ d) es:=by
 have s0:=h.set hr o a;have k0:=YN hr (r.put o a);have s1:=s0.set k0 (o+1) b;have k1:=YN k0 ((r.put o a).put (o+1) b);have s2:=s1.set k1 (o+2) c;have k2:=YN k1 (((r.put o a).put (o+1) b).put (o+2) c);have s3:=s2.set k2 (o+3) d;simp only [List.set_set] at s3;refine ⟨s3,fun hes=>Kn.doesAll h hr ?_ ?_ hes⟩
 ·exact (((Kn.turnSet h hr o _).trans (Kn.turnSet s0 k0 (o+1) _)).trans (Kn.turnSet s1 k1 (o+2) _)).trans (Kn.turnSet s2 k2 (o+3) _)
 ·exact (Kn.chanSet s2 k2 (o+3) _).trans ((Kn.chanSet s1 k1 (o+2) _).trans ((Kn.chanSet s0 k0 (o+1) _).trans (Kn.chanSet h hr o _)))
theorem YfA {rn:List Row} {C:Nat→Chn} (hik:i<K.k) (hsm:K.k*4≤K.sm) (hN:NR K rn C) (w:World) (hF:Kn L w0 rn w):
  Yl Tryz.prog true L.R1 L.D1 59 #[.pointer (some ⟨K.sb,i*4,none⟩)] w (fun v w'=>v=.tuple #[]∧∃rn',NR K rn' (uN C i (endS (C i)))∧Kn L w0 rn' w') (fun _ _=>False):=by
 obtain ⟨fq,fs,p,hx⟩:=hN (by omega);replace hF:=hF.lay;have hc:=hx.ch i hik;have hk:(base 59).kind≠.early:=by simp [base]
 refine Yl.intro L.terms1 #[.pointer (some ⟨K.sb,i*4,none⟩),undef,undef,undef,undef,undef,undef,undef,undef,undef,undef,undef,undef,undef,undef,undef,undef,undef,undef,undef,undef,undef,undef,undef,undef,undef,undef] Tryz.func59 rfl (by kernel_rfl) fun cl cs Stop Ret _=>?_;repeat refine .c1 L.terms1 rfl ?_
 refine .regionL L.terms1 [0,1,2,3,4] (by rfl) ?_;iterate 3 (refine .opV L.terms1 rfl (by rfl) hk ?_;try walk_nrm)
 refine .op rfl (by rfl) hk fun w1 hR K_ hK=>?_;replace hF:=hF.rely hR;clear hR;have hc3:World.cell? _ ⟨K.sb,i*4+3,none⟩=some (.bool (C i).anew):=(KnL.cell (r:=YbP K fs) hF hx.s (j:=i*4+3) (by show _<K.sm;omega)).trans (congrArg some hc.anew);go_simp;try (unfold stored;go_simp)
 refine hK _ _ ⟨?_,?_⟩
 ·refine KnL.looks (r:=YbP K fs) hF hx.s ?_;co_evs (exact ⟨_,rfl⟩)
 clear hK K_;clear hc3;try walk_nrm
 refine .opV L.terms1 rfl (by rfl) hk ?_;try walk_nrm
 repeat refine .c1 L.terms1 rfl ?_
 cases han:(C i).anew
 ·skip;refine Y1.condF L.terms1 (by first|rfl|simp [Act.eval,han]) ?_;repeat refine .c1 L.terms1 rfl ?_
  refine .regionL L.terms1 [0,1,2,3,4,5] (by rfl) ?_;iterate 3 (refine .opV L.terms1 rfl (by rfl) hk ?_;try walk_nrm)
  refine .op rfl (by rfl) hk fun w1 hR K_ hK=>?_;replace hF:=hF.rely hR;clear hR;have hc1:World.cell? _ ⟨K.sb,i*4+1,none⟩=some (.int .i64 (C i).age):=(KnL.cell (r:=YbP K fs) hF hx.s (j:=i*4+1) (by show _<K.sm;omega)).trans (congrArg some hc.age);go_simp;try (unfold stored;go_simp)
  refine hK _ _ ⟨?_,?_⟩
  ·refine KnL.looks (r:=YbP K fs) hF hx.s ?_;co_evs (exact ⟨_,rfl⟩)
  clear hK K_;clear hc1;try walk_nrm
  iterate 2 (refine .opV L.terms1 rfl (by rfl) hk ?_;try walk_nrm)
  repeat refine .c1 L.terms1 rfl ?_
  by_cases hag:(C i).age=-1
  ·skip;refine Y1.condF L.terms1 (by first|rfl|simp [Act.eval,hag]) ?_;repeat refine .c1 L.terms1 rfl ?_
   refine Y1.fin L.terms1 ?_;have e:endS (C i)=C i:=by unfold endS;rw [if_neg (by rw [han];simp),if_pos hag]
   refine Ret _ [] _ _ rfl (Y0L L.terms1 (by rfl) _) ⟨rfl,rn,fun _=>⟨fq,fs,p,?_⟩,hF.drop⟩;rw [e,show uN C i (C i)=C from funext fun m=>by unfold uN;split<;>simp [*]];exact hx
  ·skip;refine Y1.condT L.terms1 (by first|rfl|simp [Act.eval,hag]) ?_;repeat refine .c1 L.terms1 rfl ?_
   refine .regionL L.terms1 [0,1,2,3,4,5,6,7] (by rfl) ?_;iterate 3 (refine .opV L.terms1 rfl (by rfl) hk ?_;try walk_nrm)
   refine .op rfl (by rfl) hk fun w1 hR K_ hK=>?_;replace hF:=hF.rely hR;clear hR;have hc1:World.cell? _ ⟨K.sb,i*4+1,none⟩=some (.int .i64 (C i).age):=(KnL.cell (r:=YbP K fs) hF hx.s (j:=i*4+1) (by show _<K.sm;omega)).trans (congrArg some hc.age);go_simp;try (unfold stored;go_simp)
   refine hK _ _ ⟨?_,?_⟩
   ·refine KnL.looks (r:=YbP K fs) hF hx.s ?_;co_evs (exact ⟨_,rfl⟩)
   clear hK K_;clear hc1;try walk_nrm
   iterate 3 (refine .opV L.terms1 rfl (by rfl) hk ?_;try walk_nrm)
   refine .op rfl (by rfl) hk fun w1 hR K_ hK=>?_;replace hF:=hF.rely hR;clear hR;have hc1:World.cell? _ ⟨K.sb,i*4+1,none⟩=some (.int .i64 (C i).age):=(KnL.cell (r:=YbP K fs) hF hx.s (j:=i*4+1) (by show _<K.sm;omega)).trans (congrArg some hc.age);have hz1:World.frozen? _ ⟨K.sb,i*4+1,none⟩=false:=KnL.frozen (r:=YbP K fs) hF hx.s (i*4+1);go_simp;try (unfold stored;go_simp)
   refine hK _ _ ⟨?_,?_⟩
   ·refine KnL.does (r:=YbP K fs) hF hx.s (i*4+1) _ ?_;co_evs (exact rfl)
   clear hK K_;clear hc1 hz1;replace hF:=Kn.set (r:=YbP K fs) hF.drop hx.s (i*4+1) (.int .i64 (IntKind.i64.wrap ((C i).age+1)));try walk_nrm
   repeat refine .c1 L.terms1 rfl ?_
   refine Y1.fin L.terms1 ?_;have e:endS (C i)={C i with age:=IntKind.i64.wrap ((C i).age+1)}:=by unfold endS;rw [if_neg (by rw [han];simp),if_neg hag]
   refine Ret _ [] _ _ rfl (Y0L L.terms1 (by rfl) _) ⟨rfl,_,fun _=>⟨fq,upd fs (i*4+1) (.int .i64 (IntKind.i64.wrap ((C i).age+1))),p,?_⟩,hF⟩;rw [e];exact hx.sample (g:=upd fs (i*4+1) (.int .i64 (IntKind.i64.wrap ((C i).age+1)))) hik rfl rfl rfl ((upd_ne _ _ (by omega)).trans hc.shown) (upd_same _ _ _) ((upd_ne _ _ (by omega)).trans hc.writ) ((upd_ne _ _ (by omega)).trans hc.anew) fun j hj=>upd_ne _ _ (by omega)
 ·skip;refine Y1.condT L.terms1 (by first|rfl|simp [Act.eval,han]) ?_;repeat refine .c1 L.terms1 rfl ?_
  refine .regionL L.terms1 [0,1,2,3,4,5,6,7] (by rfl) ?_;iterate 4 (refine .opV L.terms1 rfl (by rfl) hk ?_;try walk_nrm)
  refine .op rfl (by rfl) hk fun w1 hR K_ hK=>?_;replace hF:=hF.rely hR;clear hR;have hc2:World.cell? _ ⟨K.sb,i*4+2,none⟩=some (.int .i64 (C i).writ):=(KnL.cell (r:=YbP K fs) hF hx.s (j:=i*4+2) (by show _<K.sm;omega)).trans (congrArg some hc.writ);go_simp;try (unfold stored;go_simp)
  refine hK _ _ ⟨?_,?_⟩
  ·refine KnL.looks (r:=YbP K fs) hF hx.s ?_;co_evs (exact ⟨_,rfl⟩)
  clear hK K_;clear hc2;try walk_nrm
  iterate 2 (refine .opV L.terms1 rfl (by rfl) hk ?_;try walk_nrm)
  refine .op rfl (by rfl) hk fun w1 hR K_ hK=>?_;replace hF:=hF.rely hR;clear hR;have hc0:World.cell? _ ⟨K.sb,i*4,none⟩=some (.int .i64 (C i).shown):=(KnL.cell (r:=YbP K fs) hF hx.s (j:=i*4) (by show _<K.sm;omega)).trans (congrArg some hc.shown);have hc1:World.cell? _ ⟨K.sb,i*4+1,none⟩=some (.int .i64 (C i).age):=(KnL.cell (r:=YbP K fs) hF hx.s (j:=i*4+1) (by show _<K.sm;omega)).trans (congrArg some hc.age);have hc2:World.cell? _ ⟨K.sb,i*4+2,none⟩=some (.int .i64 (C i).writ):=(KnL.cell (r:=YbP K fs) hF hx.s (j:=i*4+2) (by show _<K.sm;omega)).trans (congrArg some hc.writ);have hc3:World.cell? _ ⟨K.sb,i*4+3,none⟩=some (.bool (C i).anew):=(KnL.cell (r:=YbP K fs) hF hx.s (j:=i*4+3) (by show _<K.sm;omega)).trans (congrArg some hc.anew);have hz0:World.frozen? _ ⟨K.sb,i*4,none⟩=false:=KnL.frozen (r:=YbP K fs) hF hx.s (i*4);have hz1:World.frozen? _ ⟨K.sb,i*4+1,none⟩=false:=KnL.frozen (r:=YbP K fs) hF hx.s (i*4+1);have hz2:World.frozen? _ ⟨K.sb,i*4+2,none⟩=false:=KnL.frozen (r:=YbP K fs) hF hx.s (i*4+2);have hz3:World.frozen? _ ⟨K.sb,i*4+3,none⟩=false:=KnL.frozen (r:=YbP K fs) hF hx.s (i*4+3);go_simp;try (unfold stored;go_simp)
  refine hK _ _ ⟨?_,?_⟩
  ·refine (Kn.set4 (r:=YbP K fs) (o:=i*4) hF.drop hx.s (.int .i64 (C i).writ) (.int .i64 0) (.int .i64 0) (.bool false)).2 ?_;(intro e he;have hm:=mem_listed he;simp [go_sem,Ydh, *] at hm;rcases hm with rfl|rfl|rfl|rfl<;>exact ⟨_,_,rfl⟩)
  clear hK K_;clear hc0 hc1 hc2 hc3 hz0 hz1 hz2 hz3;replace hF:=(Kn.set4 (r:=YbP K fs) (o:=i*4) hF.drop hx.s (.int .i64 (C i).writ) (.int .i64 0) (.int .i64 0) (.bool false)).1;try walk_nrm
  repeat refine .c1 L.terms1 rfl ?_
  refine Y1.fin L.terms1 ?_;have e:endS (C i)={C i with shown:=(C i).writ,age:=0,writ:=0,anew:=false}:=by unfold endS;rw [if_pos han]
  refine Ret _ [] _ _ rfl (Y0L L.terms1 (by rfl) _) ⟨rfl,_,fun _=>⟨fq,upd (upd (upd (upd fs (i*4) (.int .i64 (C i).writ)) (i*4+1) (.int .i64 0)) (i*4+2) (.int .i64 0)) (i*4+3) (.bool false),p,?_⟩,hF⟩;rw [e];refine hx.sample hik rfl rfl rfl ?_ ?_ ?_ ?_ fun j hj=>?_
  ·show upd (upd (upd (upd fs (i*4) _) (i*4+1) _) (i*4+2) _) (i*4+3) _ (i*4)=_;rw [upd_ne _ _ (by omega),upd_ne _ _ (by omega),upd_ne _ _ (by omega),upd_same]
  ·show upd (upd (upd (upd fs (i*4) _) (i*4+1) _) (i*4+2) _) (i*4+3) _ (i*4+1)=_;rw [upd_ne _ _ (by omega),upd_ne _ _ (by omega),upd_same]
  ·show upd (upd (upd (upd fs (i*4) _) (i*4+1) _) (i*4+2) _) (i*4+3) _ (i*4+2)=_;rw [upd_ne _ _ (by omega),upd_same]
  ·show upd (upd (upd (upd fs (i*4) _) (i*4+1) _) (i*4+2) _) (i*4+3) _ (i*4+3)=_;rw [upd_same]
  ·show upd (upd (upd (upd fs (i*4) _) (i*4+1) _) (i*4+2) _) (i*4+3) _ j=_;rw [upd_ne _ _ (by omega),upd_ne _ _ (by omega),upd_ne _ _ (by omega),upd_ne _ _ (by omega)]
end
end Go.Proofs.YtdoghgnifkgfdaaGreat.Mute
