import Derived.Conc.TokenWalk
import Derived.Test.YtdoghgnifkgfdaaGreatP28
import Derived.Test.YtdoghgnifkgfdaaGreatP32
set_option maxRecDepth 100000
set_option maxHeartbeats 16000000
namespace Go.Proofs.YtdoghgnifkgfdaaGreat.Mute
open Go Go.Conc Go.RowKit
def uN {α:Type} (x:Nat→α) (i:Nat) (v:α) (j:Nat):α:=if j=i then v else x j
theorem YbU {α:Type} (x:Nat→α) (i:Nat) (v:α):uN x i v i=v:=if_pos rfl
theorem Yc2 {α:Type} (x:Nat→α) {i j:Nat} (v:α) (h:j≠i):uN x i v j=x j:=if_neg h
structure Chn where
 wait:List Int
 sent:List Int
 lost:Int
 shown:Int
 age:Int
 writ:Int
 anew:Bool
structure NetK where
 nb:Nat
 eb:Nat
 qb:Nat
 sb:Nat
 k:Nat
 qm:Nat
 sm:Nat
 fr:Nat→Int
 to_:Nat→Int
def exF (ins:List (Int×Int)) (op:Int) (R A:Nat) (N:Int) (z:Nat→Int) (C:Nat→Chn):(Nat→Int)×(Nat→Chn):=
 let c:=C N.toNat
 if op=10 then (z,uN C N.toNat {c with sent:=c.sent++[z (25+R)]})
 else if op=11 then (z,uN C N.toNat {c with writ:=z (25+R),anew:=true})
 else if op=12 then match c.wait with
  | []=>(zset (zset z (25+R) 0) (25+A) 0,C)
  |x::l=>(zset (zset z (25+R) x) (25+A) 1,uN C N.toNat {c with wait:=l})
 else if op=13 then (zset (zset z (25+R) c.shown) (25+A) c.age,C)
 else if op=14 then (zset (zset z (25+R) (Yc0 ins N).1) (25+A) (Yc0 ins N).2,C)
 else (zset z (25+R) c.lost,uN C N.toNat {c with lost:=0})
def Yc9 (fr:Nat→Int) (num:Int) (C:Nat→Chn) (i:Nat):Chn:=if fr i=num then {C i with sent:=[],writ:=0,anew:=false} else C i
structure ChR (rn:List Row) (fq fs:Nat→Value) (c:Chn) (i:Nat) (pw ps:Option Nat):Prop where
 wait:Lst rn (fq (i*3)) c.wait pw
 sent:Lst rn (fq (i*3+1)) c.sent ps
 lost:fq (i*3+2)=.int .i64 c.lost
 shown:fs (i*4)=.int .i64 c.shown
 age:fs (i*4+1)=.int .i64 c.age
 writ:fs (i*4+2)=.int .i64 c.writ
 anew:fs (i*4+3)=.bool c.anew
abbrev rowQ (K:NetK) (fq:Nat→Value):Row:=⟨K.qb,K.qm,156,fq⟩
abbrev YbP (K:NetK) (fs:Nat→Value):Row:=⟨K.sb,K.sm,158,fs⟩
structure NRx (K:NetK) (rn:List Row) (C:Nat→Chn) (fq fs:Nat→Value) (p:Nat→Option Nat):Prop where
 q:rn[0]?=some (rowQ K fq)
 s:rn[1]?=some (YbP K fs)
 ch:∀i,i<K.k→ChR rn fq fs (C i) i (p (2*i)) (p (2*i+1))
 two:∀j x,p j=some x→2≤x
 inj:∀j j' x,p j=some x→p j'=some x→j=j'
def NR (K:NetK) (rn:List Row) (C:Nat→Chn):Prop:=0<K.k→∃fq fs p,NRx K rn C fq fs p
structure NetW (L:Lot) (w0:World) (K:NetK):Prop where
 sn:Still L w0 K.nb
 n0:∃a ce,w0.cell? ⟨K.nb,0,none⟩=some (.slice a K.k ce)∧(0<K.k→a=some ⟨K.eb,0,none⟩)
 n1:0<K.k→∃cq,w0.cell? ⟨K.nb,1,none⟩=some (.slice (some ⟨K.qb,0,none⟩) K.k cq)
 n2:0<K.k→∃cs,w0.cell? ⟨K.nb,2,none⟩=some (.slice (some ⟨K.sb,0,none⟩) K.k cs)
 se:0<K.k→Still L w0 K.eb
 e0:∀j,j<K.k→w0.cell? ⟨K.eb,j*2,none⟩=some (.int .i64 (K.fr j))
 e1:∀j,j<K.k→w0.cell? ⟨K.eb,j*2+1,none⟩=some (.int .i64 (K.to_ j))
 hqm:K.k*3≤K.qm
 hsm:K.k*4≤K.sm
 hk:K.k≤1000
theorem Lst.move {rn rn':List Row} {v:Value} {xs:List Int} {p p':Option Nat} (h:Lst rn v xs p) (hn:p=none→p'=none) (hs:∀x,p=some x→∃y,p'=some y∧rn'[y]?=rn[x]?):Lst rn' v xs p':=by
 rcases h with ⟨h0,h1⟩|⟨k,r,h0,h1,h2⟩
 ·exact .inl ⟨hn h0,h1⟩
 ·obtain ⟨y,e1,e2⟩:=hs k h0;exact .inr ⟨y,r,e1,by rw [e2];exact h1,h2⟩
theorem Lst.same {rn rn':List Row} {v:Value} {xs:List Int} {p:Option Nat} (h:Lst rn v xs p) (hs:∀x,p=some x→rn'[x]?=rn[x]?):Lst rn' v xs p:=h.move id fun x hx=>⟨x,hx,hs x hx⟩
theorem Lst.shift {rn:List Row} {v:Value} {xs:List Int} {p:Option Nat} (h:Lst rn v xs p) (a:Row) (ls:List Row):Lst ((a::rn)++ls) v xs (p.map (·+1)):=
 h.move (fun e=>by rw [e];rfl) fun x hx=>⟨x+1,by rw [hx];rfl,by
  rcases h with ⟨h0,_⟩|⟨k,r,h0,h1,_⟩
  ·rw [h0] at hx;cases hx
  ·obtain rfl:k=x:=by rw [h0] at hx;exact Option.some.inj hx
   rw [show (a::rn)++ls=a::(rn++ls) from rfl,List.getElem?_cons_succ,List.getElem?_append_left (List.getElem?_eq_some_iff.1 h1).1]⟩
section
variable {K:NetK} {rn:List Row} {C:Nat→Chn} {fq fs:Nat→Value} {p:Nat→Option Nat} {i:Nat}
theorem NRx.lt {rn:List Row} (h:NRx K rn C fq fs p) {i:Nat} (hi:i<K.k) {x:Nat}:(p (2*i)=some x→x<rn.length)∧(p (2*i+1)=some x→x<rn.length):=by
 constructor
 ·intro e;rcases (h.ch i hi).wait with ⟨h0,_⟩|⟨k,r,h0,h1,_⟩
  ·rw [h0] at e;cases e
  ·rw [h0] at e;cases e;exact (List.getElem?_eq_some_iff.1 h1).1
 ·intro e;rcases (h.ch i hi).sent with ⟨h0,_⟩|⟨k,r,h0,h1,_⟩
  ·rw [h0] at e;cases e
  ·rw [h0] at e;cases e;exact (List.getElem?_eq_some_iff.1 h1).1
theorem NRx.setLost (h:NRx K rn C fq fs p) (hi:i<K.k) (x:Int):NRx K (rn.set 0 ((rowQ K fq).put (i*3+2) (.int .i64 x))) (uN C i {C i with lost:=x}) (upd fq (i*3+2) (.int .i64 x)) fs p:=by
 refine ⟨YN h.q _,by rw [ZZ (by omega)];exact h.s,fun j hj=>?_,h.two,h.inj⟩;have hc:=h.ch j hj;have hs:∀{v xs q},Lst rn v xs q→(∀y,q=some y→2≤y)→Lst (rn.set 0 ((rowQ K fq).put (i*3+2) (.int .i64 x))) v xs q:=fun hl h2=>hl.same fun y hy=>ZZ (by have:=h2 y hy;omega) _;have a1:=hs hc.wait (h.two _);have a2:=hs hc.sent (h.two _);by_cases hji:j=i
 ·subst hji;rw [YbU];exact ⟨by rw [upd_ne _ _ (by omega)];exact a1,by rw [upd_ne _ _ (by omega)];exact a2,upd_same _ _ _,hc.shown,hc.age,hc.writ,hc.anew⟩
 ·rw [Yc2 _ _ hji];exact ⟨by rw [upd_ne _ _ (by omega)];exact a1,by rw [upd_ne _ _ (by omega)];exact a2,by rw [upd_ne _ _ (by omega)];exact hc.lost,hc.shown,hc.age,hc.writ,hc.anew⟩
theorem NRx.setWrit (h:NRx K rn C fq fs p) (hi:i<K.k) (x:Int) (b:Bool):NRx K (rn.set 1 (((YbP K fs).put (i*4+2) (.int .i64 x)).put (i*4+3) (.bool b))) (uN C i {C i with writ:=x,anew:=b}) fq (upd (upd fs (i*4+2) (.int .i64 x)) (i*4+3) (.bool b)) p:=by
 refine ⟨by rw [ZZ (by omega)];exact h.q,YN h.s _,fun j hj=>?_,h.two,h.inj⟩;have hc:=h.ch j hj;have hs:∀{v xs q},Lst rn v xs q→(∀y,q=some y→2≤y)→Lst (rn.set 1 (((YbP K fs).put (i*4+2) (.int .i64 x)).put (i*4+3) (.bool b))) v xs q:=fun hl h2=>hl.same fun y hy=>ZZ (by have:=h2 y hy;omega) _;have a1:=hs hc.wait (h.two _);have a2:=hs hc.sent (h.two _);by_cases hji:j=i
 ·subst hji;rw [YbU];exact ⟨a1,a2,hc.lost,by rw [upd_ne _ _ (by omega),upd_ne _ _ (by omega)];exact hc.shown,by rw [upd_ne _ _ (by omega),upd_ne _ _ (by omega)];exact hc.age,by rw [upd_ne _ _ (by omega),upd_same],upd_same _ _ _⟩
 ·rw [Yc2 _ _ hji];exact ⟨a1,a2,hc.lost,by rw [upd_ne _ _ (by omega),upd_ne _ _ (by omega)];exact hc.shown,by rw [upd_ne _ _ (by omega),upd_ne _ _ (by omega)];exact hc.age,by rw [upd_ne _ _ (by omega),upd_ne _ _ (by omega)];exact hc.writ,by rw [upd_ne _ _ (by omega),upd_ne _ _ (by omega)];exact hc.anew⟩
theorem NRx.take (h:NRx K rn C fq fs p) (hi:i<K.k) {x:Int} {l:List Int} (hw:(C i).wait=x::l) {k:Nat} {rk:Row} (hp:p (2*i)=some k) (hk:rn[k]?=some rk) (hr:fq (i*3)=.slice (some ⟨rk.g,0,none⟩) (l.length+1:Nat) rk.m):
  NRx K ((rn.set k {rk with f:=fun j=>if j<l.length then rk.f (j+1) else if j=l.length then .int .i64 0 else rk.f j}).set 0 ((rowQ K fq).put (i*3) (.slice (some ⟨rk.g,0,none⟩) l.length rk.m))) (uN C i {C i with wait:=l}) (upd fq (i*3) (.slice (some ⟨rk.g,0,none⟩) l.length rk.m)) fs p:=by
 have hk2:=h.two _ _ hp;have kl:=(List.getElem?_eq_some_iff.1 hk).1;refine ⟨YN (r:=rowQ K fq) (by rw [ZZ (by omega)];exact h.q) _,by rw [ZZ (by omega),ZZ (by omega)];exact h.s,fun j hj=>?_,h.two,h.inj⟩;have hc:=h.ch j hj;have hs:∀{v xs q},Lst rn v xs q→(∀y,q=some y→2≤y∧y≠k)→Lst ((rn.set k {rk with f:=fun j=>if j<l.length then rk.f (j+1) else if j=l.length then .int .i64 0 else rk.f j}).set 0 ((rowQ K fq).put (i*3) (.slice (some ⟨rk.g,0,none⟩) l.length rk.m))) v xs q:=fun hl h2=>hl.same fun y hy=>by
  rw [ZZ (by have:=(h2 y hy).1;omega),ZZ (h2 y hy).2]
 have a2:=hs hc.sent fun y hy=>⟨h.two _ _ hy,fun e=>by have:=h.inj _ _ _ (e▸hy) hp;omega⟩;by_cases hji:j=i
 ·subst hji;rw [YbU];refine ⟨?_,by rw [upd_ne _ _ (by omega)];exact a2,by rw [upd_ne _ _ (by omega)];exact hc.lost,hc.shown,hc.age,hc.writ,hc.anew⟩;rw [upd_same,hp];rcases hc.wait with ⟨h0,_⟩|⟨k',r',h0,h1,h2,h3,h4,h5,h6⟩
  ·rw [h0] at hp;cases hp
  ·obtain rfl:k'=k:=by rw [h0] at hp;exact Option.some.inj hp
   obtain rfl:r'=rk:=by rw [h1] at hk;exact Option.some.inj hk
   rw [hw] at h4 h6;have h4':l.length+1≤r'.m:=h4;refine .inr ⟨k',{r' with f:=fun j=>if j<l.length then r'.f (j+1) else if j=l.length then .int .i64 0 else r'.f j},rfl,by rw [ZZ (by omega)];exact YN h1 _,h2,rfl,(show l.length≤r'.m by omega),h5,fun m hm=>?_⟩;change m<l.length at hm;show (if m<l.length then r'.f (m+1) else _)=_;rw [if_pos hm,h6 (m+1) (by simp;exact hm)];simp
 ·rw [Yc2 _ _ hji];have a1:=hs hc.wait fun y hy=>⟨h.two _ _ hy,fun e=>by have:=h.inj _ _ _ (e▸hy) hp;omega⟩;exact ⟨by rw [upd_ne _ _ (by omega)];exact a1,by rw [upd_ne _ _ (by omega)];exact a2,by rw [upd_ne _ _ (by omega)];exact hc.lost,hc.shown,hc.age,hc.writ,hc.anew⟩
theorem NRx.send (h:NRx K rn C fq fs p) (hi:i<K.k) {x:Int} {v':Value} {rn':List Row} {q:Option Nat} (h0:rn'[0]?=some ((rowQ K fq).put (i*3+1) v')) (hl:Lst rn' v' ((C i).sent++[x]) q) (hq:q=p (2*i+1)∨q=some rn.length) (hk:∀k,k≠0→p (2*i+1)≠some k→k<rn.length→rn'[k]?=rn[k]?):
  NRx K rn' (uN C i {C i with sent:=(C i).sent++[x]}) (upd fq (i*3+1) v') fs (fun j=>if j<2*K.k then (if j=2*i+1 then q else p j) else none):=by
 have l1:=(List.getElem?_eq_some_iff.1 h.s).1;refine ⟨h0,?_,fun j hj=>?_,fun j y hy=>?_,fun j j' y hy hy'=>?_⟩
 ·rw [hk 1 (by omega) (fun e=>by have:=h.two _ _ e;omega) l1];exact h.s
 ·have hc:=h.ch j hj;have hlt:=fun {x:Nat}=>h.lt hj (x:=x);have ks:∀{v xs q'} (jj:Nat),q'=p jj→jj≠2*i+1→(∀y,q'=some y→y<rn.length)→Lst rn v xs q'→Lst rn' v xs q':=fun jj e hne hb hl=>hl.same fun y hy=>hk y (by have:=h.two jj y (e▸hy);omega) (fun e2=>hne (h.inj jj _ y (e▸hy) e2)) (hb y hy);have a1:=ks (2*j) rfl (by omega) (fun y hy=>hlt.1 hy) hc.wait;show ChR rn' _ fs _ j (if 2*j<2*K.k then (if 2*j=2*i+1 then q else p (2*j)) else none) (if 2*j+1<2*K.k then (if 2*j+1=2*i+1 then q else p (2*j+1)) else none);rw [if_pos (by omega),if_neg (by omega),if_pos (by omega)];by_cases hji:j=i
  ·subst hji;rw [YbU,if_pos rfl];exact ⟨by rw [upd_ne _ _ (by omega)];exact a1,by rw [upd_same];exact hl,by rw [upd_ne _ _ (by omega)];exact hc.lost,hc.shown,hc.age,hc.writ,hc.anew⟩
  ·rw [Yc2 _ _ hji,if_neg (by omega)];have a2:=ks (2*j+1) rfl (by omega) (fun y hy=>hlt.2 hy) hc.sent;exact ⟨by rw [upd_ne _ _ (by omega)];exact a1,by rw [upd_ne _ _ (by omega)];exact a2,by rw [upd_ne _ _ (by omega)];exact hc.lost,hc.shown,hc.age,hc.writ,hc.anew⟩
 ·change (if j<2*K.k then (if j=2*i+1 then q else p j) else none)=some y at hy;by_cases hj:j<2*K.k
  ·rw [if_pos hj] at hy;by_cases e:j=2*i+1
   ·rw [if_pos e] at hy;rcases hq with rfl|rfl
    ·exact h.two _ _ hy
    ·have:=Option.some.inj hy;omega
   ·rw [if_neg e] at hy;exact h.two _ _ hy
  ·rw [if_neg hj] at hy;cases hy
 ·change (if j<2*K.k then (if j=2*i+1 then q else p j) else none)=some y at hy;change (if j'<2*K.k then (if j'=2*i+1 then q else p j') else none)=some y at hy';have hb:∀m,m<2*K.k→p m=some rn.length→False:=fun m hm e=>by
   have hm2:m / 2<K.k:=by omega
   rcases Nat.mod_two_eq_zero_or_one m with e0|e0
   ·have:m=2*(m / 2):=by omega
    rw [this] at e;exact absurd ((h.lt hm2).1 e) (by omega)
   ·have:m=2*(m / 2)+1:=by omega
    rw [this] at e;exact absurd ((h.lt hm2).2 e) (by omega)
  by_cases hj:j<2*K.k
  ·by_cases hj':j'<2*K.k
   ·rw [if_pos hj] at hy;rw [if_pos hj'] at hy';by_cases e:j=2*i+1
    ·by_cases e':j'=2*i+1
     ·omega
     ·rw [if_pos e] at hy;rw [if_neg e'] at hy';rcases hq with rfl|rfl
      ·exact absurd (h.inj _ _ _ hy hy') (by omega)
      ·cases hy;exact (hb j' hj' hy').elim
    ·rw [if_neg e] at hy;by_cases e':j'=2*i+1
     ·rw [if_pos e'] at hy';rcases hq with rfl|rfl
      ·exact absurd (h.inj _ _ _ hy hy') (by omega)
      ·cases hy';exact (hb j hj hy).elim
     ·rw [if_neg e'] at hy';exact h.inj _ _ _ hy hy'
   ·rw [if_neg hj'] at hy';cases hy'
  ·rw [if_neg hj] at hy;cases hy
theorem NRx.forget (h:NRx K rn C fq fs p) (num:Int):NRx K ((rn.set 0 ((rowQ K fq).forgetQ K.fr num K.k)).set 1 ((YbP K fs).forgetS K.fr num K.k)) (Yc9 K.fr num C) ((rowQ K fq).forgetQ K.fr num K.k).f ((YbP K fs).forgetS K.fr num K.k).f (fun j=>if j % 2=1∧K.fr (j / 2)=num then none else p j):=by
 refine ⟨by rw [ZZ (by omega)];exact YN h.q _,YN (r:=YbP K fs) (by rw [ZZ (by omega)];exact h.s) _,fun j hj=>?_,fun j y hy=>?_,fun j j' y hy hy'=>?_⟩
 ·have hc:=h.ch j hj;have hs:∀{v xs q},Lst rn v xs q→(∀y,q=some y→2≤y)→Lst ((rn.set 0 ((rowQ K fq).forgetQ K.fr num K.k)).set 1 ((YbP K fs).forgetS K.fr num K.k)) v xs q:=fun hl h2=>hl.same fun y hy=>by
   have:=h2 y hy;rw [ZZ (by omega),ZZ (by omega)]
  have a1:=hs hc.wait (h.two _);have a2:=hs hc.sent (h.two _);have m1:(j*3) % 3=0:=by omega
  have m2:(j*3+1) % 3=1:=by omega
  have m3:(j*3+2) % 3=2:=by omega
  have d2:(j*3+1) / 3=j:=by omega
  have n0:(j*4) % 4=0:=by omega
  have n1:(j*4+1) % 4=1:=by omega
  have n2:(j*4+2) % 4=2:=by omega
  have n3:(j*4+3) % 4=3:=by omega
  have f2:(j*4+2) / 4=j:=by omega
  have f3:(j*4+3) / 4=j:=by omega
  have p0:(2*j) % 2=0:=by omega
  have p1:(2*j+1) % 2=1:=by omega
  have p2:(2*j+1) / 2=j:=by omega
  by_cases hf:K.fr j=num
  ·refine ⟨?_,?_,?_,?_,?_,?_,?_⟩<;>simp [Row.forgetQ,Row.forgetS,Yc9,m1,m2,m3,d2,n0,n1,n2,n3,f2,f3,p0,p1,p2,hf,hj,hc.lost,hc.shown,hc.age]
   ·exact a1
   ·exact .inl ⟨rfl,rfl,rfl⟩
  ·refine ⟨?_,?_,?_,?_,?_,?_,?_⟩<;>simp [Row.forgetQ,Row.forgetS,Yc9,m1,m2,m3,d2,n0,n1,n2,n3,f2,f3,p0,p1,p2,hf,hj,hc.lost,hc.shown,hc.age,hc.writ,hc.anew]
   ·exact a1
   ·exact a2
 ·change (if j % 2=1∧K.fr (j / 2)=num then none else p j)=some y at hy;split at hy
  ·cases hy
  ·exact h.two _ _ hy
 ·change (if j % 2=1∧K.fr (j / 2)=num then none else p j)=some y at hy;change (if j' % 2=1∧K.fr (j' / 2)=num then none else p j')=some y at hy';split at hy
  ·cases hy
  ·split at hy'
   ·cases hy'
   ·exact h.inj _ _ _ hy hy'
end
def LsW (w:World) (v:Value) (xs:List Int) (r:Option Row):Prop:=
 (r=none∧v=.slice none 0 0∧xs=[])∨∃r',r=some r'∧RowF w r'.g r'.m r'.t r'.f∧r'.t=2∧v=.slice (some ⟨r'.g,0,none⟩) xs.length r'.m∧xs.length≤r'.m∧r'.m≤maxLen∧∀j,j<xs.length→r'.f j=.int .i64 (xs.getD j 0)
structure ChW (w:World) (fq fs:Nat→Value) (c:Chn) (i:Nat) (rw rs:Option Row):Prop where
 wait:LsW w (fq (i*3)) c.wait rw
 sent:LsW w (fq (i*3+1)) c.sent rs
 lost:fq (i*3+2)=.int .i64 c.lost
 shown:fs (i*4)=.int .i64 c.shown
 age:fs (i*4+1)=.int .i64 c.age
 writ:fs (i*4+2)=.int .i64 c.writ
 anew:fs (i*4+3)=.bool c.anew
structure NtX (w:World) (K:NetK) (C:Nat→Chn) (lr:Nat→Option Row) (fq fs:Nat→Value):Prop where
 q:RowF w K.qb K.qm 156 fq
 s:RowF w K.sb K.sm 158 fs
 ch:∀i,i<K.k→ChW w fq fs (C i) i (lr (2*i)) (lr (2*i+1))
structure NtW (w:World) (K:NetK) (C:Nat→Chn) (lr:Nat→Option Row):Prop where
 out:∀j,2*K.k≤j→lr j=none
 ne:∀j j' r r',lr j=some r→lr j'=some r'→j≠j'→r.g≠r'.g
 row:∀j r,lr j=some r→RowF w r.g r.m r.t r.f∧r.t=2
 x:0<K.k→∃fq fs,NtX w K C lr fq fs
def netB (K:NetK) (lr:Nat→Option Row) (b:Nat):Prop:=(0<K.k∧(b=K.qb∨b=K.sb))∨∃j r,lr j=some r∧r.g=b
theorem LsW.of_heap {w w':World} {v:Value} {xs:List Int} {r:Option Row} (h:LsW w v xs r) (hk:∀r',r=some r'→w'.heap[r'.g]?=w.heap[r'.g]?):LsW w' v xs r:=by
 rcases h with h|⟨r',h1,h2,h3⟩
 ·exact .inl h
 ·exact .inr ⟨r',h1,h2.of_heap (hk r' h1),h3⟩
section
variable {w w':World} {K:NetK} {C:Nat→Chn} {lr:Nat→Option Row}
theorem NtW.keep (h:NtW w K C lr) (hk:∀b,netB K lr b→w'.heap[b]?=w.heap[b]?):NtW w' K C lr:=by
 refine ⟨h.out,h.ne,fun j r hj=>⟨(h.row j r hj).1.of_heap (hk _ (.inr ⟨j,r,hj,rfl⟩)),(h.row j r hj).2⟩,fun h0=>?_⟩;obtain ⟨fq,fs,hx⟩:=h.x h0;exact ⟨fq,fs,hx.q.of_heap (hk _ (.inl ⟨h0,.inl rfl⟩)),hx.s.of_heap (hk _ (.inl ⟨h0,.inr rfl⟩)),fun i hi=>⟨(hx.ch i hi).wait.of_heap fun r hr=>hk _ (.inr ⟨_,r,hr,rfl⟩),(hx.ch i hi).sent.of_heap fun r hr=>hk _ (.inr ⟨_,r,hr,rfl⟩),(hx.ch i hi).lost,(hx.ch i hi).shown,(hx.ch i hi).age,(hx.ch i hi).writ,(hx.ch i hi).anew⟩⟩
theorem NtW.at (h:NtW w K C lr) {b:Nat} (hb:netB K lr b):∃m t f,RowF w b m t f∧(t=156∨t=158∨t=2):=by
 rcases hb with ⟨h0,hb⟩|⟨j,r,hj,rfl⟩
 ·obtain ⟨fq,fs,hx⟩:=h.x h0;rcases hb with rfl|rfl
  ·exact ⟨_,_,_,hx.q,.inl rfl⟩
  ·exact ⟨_,_,_,hx.s,.inr (.inl rfl)⟩
 ·exact ⟨_,_,_,(h.row j r hj).1,.inr (.inr (h.row j r hj).2)⟩
theorem NtW.lt (h:NtW w K C lr) {b:Nat} (hb:netB K lr b):b<w.heap.size:=by
 obtain ⟨m,t,f,hr,_⟩:=h.at hb;exact hr.lt
theorem Ydy (lr:Nat→Option Row):∀n:Nat,∃(rl:List Row) (p:Nat→Option Nat),(∀j,n≤j→p j=none)∧(∀j,j<n→(lr j=none∧p j=none)∨∃r x,lr j=some r∧p j=some x∧rl[x]?=some r)∧(∀j j' x,p j=some x→p j'=some x→j=j')∧(∀x r,rl[x]?=some r→∃j,j<n∧p j=some x∧lr j=some r)
 |0=>⟨[],fun _=>none,fun _ _=>rfl,fun j hj=>absurd hj (Nat.not_lt_zero j),fun _ _ _ h=>by simp at h,fun x r h=>by simp at h⟩
 |n+1=>by
  obtain ⟨rl,p,h1,h2,h3,h4⟩:=Ydy lr n;cases hn:lr n with
  |none=>
   refine ⟨rl,p,fun j hj=>h1 j (by omega),fun j hj=>?_,h3,fun x r hx=>?_⟩
   ·by_cases e:j=n
    ·subst e;exact .inl ⟨hn,h1 j (by omega)⟩
    ·exact h2 j (by omega)
   ·obtain ⟨j,hj,e⟩:=h4 x r hx;exact ⟨j,by omega,e⟩
  |some r0=>
   have pl:∀j x,p j=some x→x<rl.length:=fun j x hp=>by
    by_cases hj:j<n
    ·rcases h2 j hj with ⟨_,e⟩|⟨r,x',_,e,e2⟩
     ·rw [e] at hp;cases hp
     ·rw [e] at hp;cases hp;exact (List.getElem?_eq_some_iff.1 e2).1
    ·rw [h1 j (by omega)] at hp;cases hp
   have ps:uN p n (some rl.length) n=some rl.length:=YbU _ _ _;have pn:∀j,j≠n→uN p n (some rl.length) j=p j:=fun j hj=>Yc2 _ _ hj;refine ⟨rl++[r0],uN p n (some rl.length),fun j hj=>by rw [pn j (by omega)];exact h1 j (by omega),fun j hj=>?_,fun j j' x hx hx'=>?_,fun x r hx=>?_⟩
   ·by_cases e:j=n
    ·subst e;exact .inr ⟨r0,rl.length,hn,ps,by simp⟩
    ·rw [pn j e];rcases h2 j (by omega) with h|⟨r,x,e1,e2,e3⟩
     ·exact .inl h
     ·exact .inr ⟨r,x,e1,e2,by rw [List.getElem?_append_left (pl j x e2)];exact e3⟩
   ·by_cases e:j=n
    ·by_cases e':j'=n
     ·omega
     ·subst e;rw [ps] at hx;rw [pn j' e'] at hx';have:=pl _ _ hx';have:=Option.some.inj hx;omega
    ·by_cases e':j'=n
     ·subst e';rw [ps] at hx';rw [pn j e] at hx;have:=pl _ _ hx;have:=Option.some.inj hx';omega
     ·rw [pn j e] at hx;rw [pn j' e'] at hx';exact h3 j j' x hx hx'
   ·rw [List.getElem?_append] at hx;by_cases hl:x<rl.length
    ·rw [if_pos hl] at hx;obtain ⟨j,hj,e1,e2⟩:=h4 x r hx;exact ⟨j,by omega,by rw [pn j (by omega)];exact e1,e2⟩
    ·rw [if_neg hl,List.getElem?_singleton] at hx;split at hx
     ·rename_i hx0
      have:x=rl.length:=by omega
      subst this;cases hx;exact ⟨n,by omega,ps,hn⟩
     ·cases hx
theorem NtW.lay (h:NtW w K C lr):∃rn,NR K rn C∧(∀(i:Nat) (r:Row),rn[i]?=some r→RowF w r.g r.m r.t r.f∧netB K lr r.g)∧∀(i j:Nat) (r s:Row),rn[i]?=some r→rn[j]?=some s→i≠j→r.g≠s.g:=by
 by_cases h0:0<K.k
 ·obtain ⟨fq,fs,hx⟩:=h.x h0;obtain ⟨rl,p,h1,h2,h3,h4⟩:=Ydy lr (2*K.k);have ty:∀(x:Nat) (r:Row),rl[x]?=some r→RowF w r.g r.m r.t r.f∧r.t=2∧netB K lr r.g:=fun x r hr=>by
   obtain ⟨j,_,_,e⟩:=h4 x r hr;exact ⟨(h.row j r e).1,(h.row j r e).2,.inr ⟨j,r,e,rfl⟩⟩
  have ls:∀j v xs,j<2*K.k→LsW w v xs (lr j)→Lst (rowQ K fq::YbP K fs::rl) v xs ((p j).map (·+2)):=fun j v xs hj hl=>by
   rcases h2 j hj with ⟨e1,e2⟩|⟨r,x,e1,e2,e3⟩
   ·rw [e1] at hl;rw [e2];rcases hl with ⟨_,hl⟩|⟨r',hl,_⟩
    ·exact .inl ⟨rfl,hl⟩
    ·cases hl
   ·rw [e1] at hl;rw [e2];rcases hl with ⟨hl,_⟩|⟨r',hl,g1,g2,g3,g4,g5,g6⟩
    ·cases hl
    ·cases hl;exact .inr ⟨x+2,r,rfl,e3,g2,g3,g4,g5,g6⟩
  have qs:K.qb≠K.sb:=Y0w hx.q hx.s (by decide);refine ⟨rowQ K fq::YbP K fs::rl,fun _=>⟨fq,fs,fun j=>(p j).map (·+2),rfl,rfl,fun i hi=>?_,fun j x hj=>?_,fun j j' x hj hj'=>?_⟩,fun i r hr=>?_,fun i j r s hr hs hne=>?_⟩
  ·have hc:=hx.ch i hi;exact ⟨ls _ _ _ (by omega) hc.wait,ls _ _ _ (by omega) hc.sent,hc.lost,hc.shown,hc.age,hc.writ,hc.anew⟩
  ·cases hp:p j with
   |none=>simp [hp] at hj
   |some y=>simp [hp] at hj;omega
  ·cases hp:p j with
   |none=>simp [hp] at hj
   |some y=>
    cases hp':p j' with
    |none=>simp [hp'] at hj'
    |some y'=>
     simp [hp] at hj;simp [hp'] at hj';exact h3 j j' y hp (by rw [hp'];congr 1;omega)
  ·match i,hr with
   |0,hr=>cases hr;exact ⟨hx.q,.inl ⟨h0,.inl rfl⟩⟩
   |1,hr=>cases hr;exact ⟨hx.s,.inl ⟨h0,.inr rfl⟩⟩
   |i+2,hr=>exact ⟨(ty i r hr).1,(ty i r hr).2.2⟩
  ·have lq:∀(x:Nat) (r:Row),rl[x]?=some r→K.qb≠r.g∧K.sb≠r.g:=fun x r hr=>by
    obtain ⟨a,b,_⟩:=ty x r hr;exact ⟨Y0w hx.q a (by rw [b];decide),Y0w hx.s a (by rw [b];decide)⟩
   match i,j,hr,hs with
   |0,0,_,_=>exact absurd rfl hne
   |0,1,hr,hs=>cases hr;cases hs;exact qs
   |1,0,hr,hs=>cases hr;cases hs;exact qs.symm
   |1,1,_,_=>exact absurd rfl hne
   |0,j+2,hr,hs=>cases hr;exact (lq j s hs).1
   |1,j+2,hr,hs=>cases hr;exact (lq j s hs).2
   |i+2,0,hr,hs=>cases hs;exact (lq i r hr).1.symm
   |i+2,1,hr,hs=>cases hs;exact (lq i r hr).2.symm
   |i+2,j+2,hr,hs=>
    obtain ⟨a,_,a1,a2⟩:=h4 i r hr;obtain ⟨b,_,b1,b2⟩:=h4 j s hs;refine h.ne a b r s a2 b2 fun e=>?_;subst e;rw [a1] at b1;have:=Option.some.inj b1;omega
 ·exact ⟨[],fun h=>absurd h h0,fun i r h=>by simp at h,fun i j r s h=>by simp at h⟩
theorem NtW.back {rn:List Row} (hN:NR K rn C) (hr:∀(i:Nat) (r:Row),rn[i]?=some r→RowF w r.g r.m r.t r.f) (hne:∀(i j:Nat) (r s:Row),rn[i]?=some r→rn[j]?=some s→i≠j→r.g≠s.g):∃lr',NtW w K C lr'∧∀b,netB K lr' b→(0<K.k∧(b=K.qb∨b=K.sb))∨∃(i:Nat) (r:Row),rn[i]?=some r∧r.g=b:=by
 by_cases h0:0<K.k
 ·obtain ⟨fq,fs,p,hx⟩:=hN h0;have ty:∀j r,j<2*K.k→(p j).bind (rn[·]?)=some r→r.t=2:=fun j r hj e=>by
   have hm:j / 2<K.k:=by omega
   have key:∀v xs,Lst rn v xs (p j)→r.t=2:=fun v xs hl=>by
    rcases hl with ⟨e0,_⟩|⟨k,r',e0,e1,e2,_⟩
    ·rw [e0] at e;cases e
    ·rw [e0] at e;have e:rn[k]?=some r:=e;rw [e1] at e;cases e;exact e2
   rcases Nat.mod_two_eq_zero_or_one j with e0|e0
   ·have:=(hx.ch _ hm).wait;rw [show 2*(j / 2)=j by omega] at this;exact key _ _ this
   ·have:=(hx.ch _ hm).sent;rw [show 2*(j / 2)+1=j by omega] at this;exact key _ _ this
  have pos:∀j r,(p j).bind (rn[·]?)=some r→∃x,p j=some x∧rn[x]?=some r:=fun j r e=>by
   cases hp:p j with
   |none=>rw [hp] at e;cases e
   |some x=>rw [hp] at e;exact ⟨x,rfl,e⟩
  let lr':Nat→Option Row:=fun j=>if j<2*K.k then (p j).bind (rn[·]?) else none
  have lr_lt:∀j,j<2*K.k→lr' j=(p j).bind (rn[·]?):=fun j hj=>if_pos hj;have lr_some:∀j r,lr' j=some r→j<2*K.k∧(p j).bind (rn[·]?)=some r:=fun j r e=>by
   by_cases hj:j<2*K.k
   ·rw [lr_lt j hj] at e;exact ⟨hj,e⟩
   ·have:lr' j=none:=if_neg hj;rw [this] at e;cases e
  have lw:∀j v xs,j<2*K.k→Lst rn v xs (p j)→LsW w v xs (lr' j):=fun j v xs hj hl=>by
   rw [lr_lt j hj];rcases hl with ⟨e0,e1⟩|⟨k,r',e0,e1,e2⟩
   ·rw [e0];exact .inl ⟨rfl,e1⟩
   ·rw [e0];exact .inr ⟨r',e1,hr k r' e1,e2⟩
  refine ⟨lr',⟨fun j hj=>if_neg (by omega),fun j j' r r' hj hj' hn=>?_,fun j r hj=>?_,fun _=>⟨fq,fs,hr 0 _ hx.q,hr 1 _ hx.s,fun i hi=>?_⟩⟩,fun b hb=>?_⟩
  ·obtain ⟨a1,a2⟩:=lr_some j r hj;obtain ⟨b1,b2⟩:=lr_some j' r' hj';obtain ⟨x,x1,x2⟩:=pos j r a2;obtain ⟨y,y1,y2⟩:=pos j' r' b2;exact hne x y r r' x2 y2 fun e=>hn (hx.inj j j' x x1 (by rw [y1,e]))
  ·obtain ⟨a1,a2⟩:=lr_some j r hj;obtain ⟨x,x1,x2⟩:=pos j r a2;exact ⟨hr x r x2,ty j r a1 a2⟩
  ·have hc:=hx.ch i hi;exact ⟨lw _ _ _ (by omega) hc.wait,lw _ _ _ (by omega) hc.sent,hc.lost,hc.shown,hc.age,hc.writ,hc.anew⟩
  ·rcases hb with hb|⟨j,r,hj,rfl⟩
   ·exact .inl hb
   ·obtain ⟨a1,a2⟩:=lr_some j r hj;obtain ⟨x,x1,x2⟩:=pos j r a2;exact .inr ⟨x,r,x2,rfl⟩
 ·refine ⟨fun _=>none,⟨fun _ _=>rfl,fun _ _ _ _ h=>(by simp at h),fun _ _ h=>(by simp at h),fun h=>absurd h h0⟩,fun b hb=>?_⟩;rcases hb with hb|⟨j,r,hj,_⟩
  ·exact .inl hb
  ·cases hj
end
section
variable {L:Lot} {w0:World} {rows:List Row} {ic g nb p c y cb co n cc:Nat} {num:Int} {z ci:Nat→Int}
theorem Y11 {w:World} {v:Int} {tmps:Array Value} (hF:KnL L w0 rows (runL L g p c y v) w) (h8:tmps.getD 8 undef=.pointer (some ⟨y,0,none⟩)):ZK Tryz.prog L.R1 L.D1 84 Tryz.f84 tmps w (.int .i64 v):=fun w₁ hR=>by
 replace hF:=hF.rely hR;have hc:w₁.cell? ⟨y,0,none⟩=some (.int .i64 v):=hF.l1 (k:=2) rfl;have h8':tmps[8]?.getD undef=.pointer (some ⟨y,0,none⟩):=by simpa using h8
 constructor
 ·simp [results,asAddr,go_sem,hc,h8']
 ·refine hF.llooks (k:=2) rfl fun e he=>?_;have hm:=mem_seen he;simp [results,asAddr,go_sem,hc,h8'] at hm;subst hm;exact ⟨_,rfl⟩
end
abbrev winD (b0 b1 b2 b3:Nat):Deferred:={target:=.fn (.func 83) #[.pointer (some ⟨b0,0,none⟩),.pointer (some ⟨b1,0,none⟩),.pointer (some ⟨b2,0,none⟩),.pointer (some ⟨b3,0,none⟩)],args:=#[]}
abbrev Y09 (P:Program) (d:Deferred):Frame:={(default:Frame) with fn:=P.funcs.size,defers:=[d],mode:=.panicking [goexitEntry]}
abbrev Y3W (c:Nat):Deferred:={target:=.builtin .close #[190] 0 #[false],args:=#[.chan (some c)]}
section
variable {L:Lot} {w0:World} {rows:List Row} {ic g nb b0 b1 b2 b3 cb co n cc:Nat} {num:Int} {z ci:Nat→Int}
theorem YbG {FS:World→Prop} {a:Act} {todo:List Item} {w:World} (hd:a.defers=[Y3W L.c]) (hF:FS w):Y0C Tryz.prog L.c FS (G {(baseD 83).at a todo with mode:=.returning} [{Y09 Tryz.prog (winD b0 b1 b2 b3) with defers:=[]}]) w:=by
 refine ⟨rfl,hF,G {(baseD 83).at ⟨a.tmps,[]⟩ todo with mode:=.returning} [{Y09 Tryz.prog (winD b0 b1 b2 b3) with defers:=[]}],2,?_,fun s r tm hc=>?_⟩
 ·refine .inr ⟨rfl,G {Y09 Tryz.prog (winD b0 b1 b2 b3) with defers:=[]} [],#[],by simp,fun w=>?_,.inr ⟨rfl,{frame:={Y09 Tryz.prog (winD b0 b1 b2 b3) with defers:=[]},callers:=[],status:=.finished,dying:=none},#[],by simp,fun w=>?_,rfl,rfl⟩⟩
  ·have hr:(results Tryz.f83 a.tmps).run Tryz.prog w=.ok (.tuple #[]) w:=results_none (by rfl) _ _ w;have he:(results Tryz.f83 a.tmps).events Tryz.prog w #[]=#[]:=events_results_none (by rfl) _ _;simp [G,stepG,Go.unwind,doReturn,Frame.at,baseD,Tryz.func83,hr,he,GStep.after,seen_none,goexitEntry]
  ·simp [G,stepG,Go.unwind,Frame.catches,goexitEntry];rfl
 ·have h1:=run_close_open (P:=Tryz.prog) (w:=w) #[190] 0 hc;have h2:=events_close_open (P:=Tryz.prog) (w:=w) (es:=#[]) #[190] 0 hc;have h3:seen Tryz.prog 83 (closeEvents L.c)=closeEvents L.c:=seen_eq (by kernel_rfl) (by intro e he f;simp only [closeEvents,List.mem_toArray,List.mem_cons,List.not_mem_nil,or_false] at he;rcases he with rfl|rfl<;>simp);have h2':(Builtin.close_ #[190] 0 #[.chan (some L.c)]).events Tryz.prog w #[]=closeEvents L.c:=h2;simp [G,stepG,Go.unwind,Frame.at,baseD,hd,callDeferred,invoke,builtin,h1,h2',h3,GStep.after,World.setChan]
end
end Go.Proofs.YtdoghgnifkgfdaaGreat.Mute
