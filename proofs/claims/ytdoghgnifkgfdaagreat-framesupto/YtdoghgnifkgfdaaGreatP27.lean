import Derived.Test.YtdoghgnifkgfdaaGreatP00
import Derived.Test.YtdoghgnifkgfdaaGreatP19
import Derived.Test.YtdoghgnifkgfdaaGreatP21
import Derived.Test.YtdoghgnifkgfdaaGreatP26
set_option maxRecDepth 100000
set_option maxHeartbeats 16000000
open Option renaming none->Ai,some->yi
open Go renaming World->ui,Value->ti,undef->ri
open Bool renaming true->ji,false->gi
namespace Go.Proofs.YtdoghgnifkgfdaaGreat.Mute
open Tryz Go Go.Conc Go.RowKit
section
variable {L:km}{w0:ui}{rows:List Row}{ic g cb co n cc:Nat}{num:Int}{net:ti}{z ci:Nat->Int}
theorem F50{FS:ui->Prop}(vm:((97:Nat)==L.ev)=gi)(hi:rows[ic]?=yi (Ri g num net (Um cb co n cc) z))(hs:Still L w0 cb)(Gj:∀j,j<n*4->w0.cell? ⟨cb,co+j,Ai⟩=yi (.int .i64 (ci j)))(hn:n<=48)(gl:∀k:Nat,z 45=(k:Int)->k<n->((0<=ci (k*4)/\ci (k*4)<=9)\/ci (k*4)=15)/\(0<=ci (k*4+1)/\ci (k*4+1)<4)/\(0<=ci (k*4+2)/\ci (k*4+2)<4)/\(ci (k*4)=8\/ci (k*4)=9->0<=ci (k*4+3)/\ci (k*4+3)<n))(h45:0<=z 45/\z 45<=n)(inV:ti)(w:ui)(hF:Kn L w0 rows w):
  Bt prog L FS 113 #[.pointer (yi ⟨g,0,Ai⟩),inV,.chan (yi L.c)] w (tj n ci z).sent
   (fun v w'=>∃op e z',tj n ci z=.on op e z'/\v=.int .i64 op/\Kn L w0 (rows.set ic (Ri g num net (Um cb co n cc) z')) w')
   (fun ch w'=>∃y z',tj n ci z=.Xk y z'/\ch=brk y/\Kn L w0 (rows.set ic (Ri g num net (Um cb co n cc) z')) w'):=by
 by_cases hz:z 45=n
 ·have e:tj n ci z=.Xk 3 (Ji z 46 (IntKind.i64.wrap (z 46+1))):=by unfold tj;rw[if_pos hz]
  exact(kP vm hi hz inV _ w hF).quiet.mono V2 (fun _ _ h=>h.elim) fun ch w' h=>⟨3,_,e,h.1,h.2⟩
 ·obtain⟨nx,Fq⟩:∃nx:Nat,z 45=nx:=⟨(z 45).toNat,E0⟩;have Wi:nx<n:=by omega
  have ht:(z 45).toNat=nx:=E0;obtain⟨ho,⟨r0,r4⟩,⟨a0,a4⟩,hj⟩:=gl nx Fq Wi;obtain⟨R,hR⟩:∃R:Nat,ci (nx*4+1)=R:=⟨(ci (nx*4+1)).toNat,E0⟩;obtain⟨A,hA⟩:∃A:Nat,ci (nx*4+2)=A:=⟨(ci (nx*4+2)).toNat,E0⟩;have eH:(ci (nx*4+1)).toNat=R:=E0;have SG:(ci (nx*4+2)).toNat=A:=E0;have dp:R<4:=E0;have ep:A<4:=E0;have hf:Ni z=Ji (Ji z 46 (IntKind.i64.wrap (z 46+1))) 45 ((nx:Int)+1):=by unfold Ni;rw[ht]
  have Pa0:ci (nx*4)=0\/ci (nx*4)=1\/ci (nx*4)=2\/ci (nx*4)=3\/ci (nx*4)=4\/ci (nx*4)=5\/ci (nx*4)=6\/ci (nx*4)=7\/ci (nx*4)=8\/ci (nx*4)=9\/ci (nx*4)=15:=E0;rcases Pa0 with h|h|h|h|h|h|h|h|h|h|h
  ·have e:tj n ci z=.on 0 Ai (Ni z):=by simp[tj,hz,ht,h]
   exact(DT vm hi hs Gj nx Fq Wi hn R A dp ep h hR hA _ rfl inV _ w hF).quiet.mono V2 (fun v w' x=>⟨0,Ai,_,e,x.1,E3⟩) (fun _ _ x=>x.elim)
  ·have e:tj n ci z=.on 1 Ai (Ji (Ni z) (25+R) (ci (nx*4+3))):=by simp[tj,hz,ht,h,eH]
   exact(Z20 vm hi hs Gj nx Fq Wi hn R A dp ep h hR hA _ rfl inV _ w hF).quiet.mono V2 (fun v w' x=>⟨1,Ai,_,e,x.1,E3⟩) (fun _ _ x=>x.elim)
  ·have e:tj n ci z=.on 2 Ai (Ji (Ni z) (25+R) (IntKind.i64.wrap (Ni z (25+R)+Ni z (25+A)))):=by simp[tj,hz,ht,h,eH,SG]
   exact(U00 vm hi hs Gj nx Fq Wi hn R A dp ep h hR hA _ rfl inV _ w hF).quiet.mono V2 (fun v w' x=>⟨2,Ai,_,e,x.1,E3⟩) (fun _ _ x=>x.elim)
  ·have e:tj n ci z=.on 3 Ai (Ji (Ni z) (25+R) (IntKind.i64.wrap (Ni z (25+R)-Ni z (25+A)))):=by simp[tj,hz,ht,h,eH,SG]
   exact(S00 vm hi hs Gj nx Fq Wi hn R A dp ep h hR hA _ rfl inV _ w hF).quiet.mono V2 (fun v w' x=>⟨3,Ai,_,e,x.1,E3⟩) (fun _ _ x=>x.elim)
  ·have e:tj n ci z=.on 4 Ai (Ji (Ni z) (25+R) (IntKind.i64.wrap (Ni z (25+R)*Ni z (25+A)))):=by simp[tj,hz,ht,h,eH,SG]
   exact(N20 vm hi hs Gj nx Fq Wi hn R A dp ep h hR hA _ rfl inV _ w hF).quiet.mono V2 (fun v w' x=>⟨4,Ai,_,e,x.1,E3⟩) (fun _ _ x=>x.elim)
  ·by_cases h0:Ni z (25+A)=0
   ·have e:tj n ci z=.Xk 1 (Ni z):=by simp[tj,hz,ht,h,SG,h0]
    exact(cQ vm hi hs Gj nx Fq Wi hn R A dp ep h hR hA _ rfl B5 inV _ w hF).quiet.mono V2 (fun _ _ x=>x.elim) (fun ch w' x=>⟨1,_,e,x.1,E3⟩)
   ·have e:tj n ci z=.on 5 Ai (Ji (Ni z) (25+R) (IntKind.i64.wrap ((Ni z (25+R)).tdiv (Ni z (25+A))))):=by simp[tj,hz,ht,h,eH,SG,h0]
    exact(d30 vm hi hs Gj nx Fq Wi hn R A dp ep h hR hA _ rfl B5 inV _ w hF).quiet.mono V2 (fun v w' x=>⟨5,Ai,_,e,x.1,E3⟩) (fun _ _ x=>x.elim)
  ·by_cases h0:Ni z (25+A)<0\/16<=Ni z (25+A)
   ·have e:tj n ci z=.Xk 2 (Ni z):=by simp[tj,hz,ht,h,SG,h0]
    exact(nN vm hi hs Gj nx Fq Wi hn R A dp ep h hR hA _ rfl B5 inV _ w hF).quiet.mono V2 (fun _ _ x=>x.elim) (fun ch w' x=>⟨2,_,e,x.1,E3⟩)
   ·have e:tj n ci z=.on 6 Ai (Ji (Ni z) (25+R) (Ni z (29+(Ni z (25+A)).toNat))):=by simp[tj,hz,ht,h,eH,SG,h0]
    exact(FW vm hi hs Gj nx Fq Wi hn R A dp ep h hR hA _ rfl (Ni z (25+A)).toNat E0 (by rw[<-hf];omega) inV _ w hF).quiet.mono V2 (fun v w' x=>⟨6,Ai,_,e,x.1,by rw[<-hf]at x;exact x.2⟩) (fun _ _ x=>x.elim)
  ·by_cases h0:Ni z (25+A)<0\/16<=Ni z (25+A)
   ·have e:tj n ci z=.Xk 2 (Ni z):=by simp[tj,hz,ht,h,SG,h0]
    exact(FI vm hi hs Gj nx Fq Wi hn R A dp ep h hR hA _ rfl B5 inV _ w hF).quiet.mono V2 (fun _ _ x=>x.elim) (fun ch w' x=>⟨2,_,e,x.1,E3⟩)
   ·have e:tj n ci z=.on 7 Ai (Ji (Ni z) (29+(Ni z (25+A)).toNat) (Ni z (25+R))):=by simp[tj,hz,ht,h,eH,SG,h0]
    exact(bT vm hi hs Gj nx Fq Wi hn R A dp ep h hR hA _ rfl (Ni z (25+A)).toNat E0 (by rw[<-hf];omega) inV _ w hF).quiet.mono V2 (fun v w' x=>⟨7,Ai,_,e,x.1,by rw[<-hf]at x;exact x.2⟩) (fun _ _ x=>x.elim)
  ·have e:tj n ci z=.on 8 Ai (Ji (Ni z) 45 (ci (nx*4+3))):=by simp[tj,hz,ht,h]
   exact(IY vm hi hs Gj nx Fq Wi hn R A dp ep h hR hA _ rfl inV _ w hF).quiet.mono V2 (fun v w' x=>⟨8,Ai,_,e,x.1,E3⟩) (fun _ _ x=>x.elim)
  ·by_cases h0:Ni z (25+R)=0
   ·have e:tj n ci z=.on 9 Ai (Ji (Ni z) 45 (ci (nx*4+3))):=by simp[tj,hz,ht,h,eH,h0]
    exact(OX vm hi hs Gj nx Fq Wi hn R A dp ep h hR hA _ rfl B5 inV _ w hF).quiet.mono V2 (fun v w' x=>⟨9,Ai,_,e,x.1,E3⟩) (fun _ _ x=>x.elim)
   ·have e:tj n ci z=.on 9 Ai (Ni z):=by simp[tj,hz,ht,h,eH,h0]
    exact(VR vm hi hs Gj nx Fq Wi hn R A dp ep h hR hA _ rfl B5 inV _ w hF).quiet.mono V2 (fun v w' x=>⟨9,Ai,_,e,x.1,E3⟩) (fun _ _ x=>x.elim)
  ·have e:tj n ci z=.on 15 (yi (Ni z (25+R))) (Ni z):=by simp[tj,hz,ht,h,eH]
   exact(t00 vm hi hs Gj nx Fq Wi hn R A dp ep h hR hA _ rfl inV w hF).mono (by rw[e,hf];rfl) (fun v w' x=>⟨15,_,_,e,x.1,E3⟩) (fun _ _ x=>x.elim)
end
def uN{α:Type}(x:Nat->α)(i:Nat)(v:α)(j:Nat):α:=if j=i then v else x j
theorem Vl{α:Type}(x:Nat->α)(i:Nat)(v:α):uN x i v i=v:=if_pos rfl
theorem Es{α:Type}(x:Nat->α){i j:Nat}(v:α)(h:j≠i):uN x i v j=x j:=if_neg h
structure Jl where
 wait:List Int
 sent:List Int
 lost:Int
 shown:Int
 age:Int
 En:Int
 anew:Bool
structure Nl where
 nb:Nat
 eb:Nat
 qb:Nat
 sb:Nat
 k:Nat
 qm:Nat
 sm:Nat
 fr:Nat->Int
 RD:Nat->Int
def tu(ins:List (Int×Int))(op:Int)(R A:Nat)(N:Int)(z:Nat->Int)(C:Nat->Jl):(Nat->Int)×(Nat->Jl):=
 let c:=C N.toNat
 if op=10 then (z,uN C N.toNat {c with sent:=c.sent++[z (25+R)]})
 else if op=11 then (z,uN C N.toNat {c with En:=z (25+R),anew:=ji})
 else if op=12 then match c.wait with
  | []=>(Ji (Ji z (25+R) 0) (25+A) 0,C)
  |x::l=>(Ji (Ji z (25+R) x) (25+A) 1,uN C N.toNat {c with wait:=l})
 else if op=13 then (Ji (Ji z (25+R) c.shown) (25+A) c.age,C)
 else if op=14 then (Ji (Ji z (25+R) (Cm ins N).1) (25+A) (Cm ins N).2,C)
 else (Ji z (25+R) c.lost,uN C N.toNat {c with lost:=0})
def Rn(fr:Nat->Int)(num:Int)(C:Nat->Jl)(i:Nat):Jl:=if fr i=num then {C i with sent:=[],En:=0,anew:=gi}else C i
structure ChR(rn:List Row)(fq fs:Nat->ti)(c:Jl)(i:Nat)(pw ps:Option Nat):Prop where
 wait:Qs rn (fq (i*3)) c.wait pw
 sent:Qs rn (fq (i*3+1)) c.sent ps
 lost:fq (i*3+2)=.int .i64 c.lost
 shown:fs (i*4)=.int .i64 c.shown
 age:fs (i*4+1)=.int .i64 c.age
 En:fs (i*4+2)=.int .i64 c.En
 anew:fs (i*4+3)=.bool c.anew
abbrev Ko(K:Nl)(fq:Nat->ti):Row:=⟨K.qb,K.qm,156,fq⟩
abbrev um(K:Nl)(fs:Nat->ti):Row:=⟨K.sb,K.sm,158,fs⟩
structure tC(K:Nl)(rn:List Row)(C:Nat->Jl)(fq fs:Nat->ti)(p:Nat->Option Nat):Prop where
 q:rn[0]?=yi (Ko K fq)
 s:rn[1]?=yi (um K fs)
 ch:∀i,i<K.k->ChR rn fq fs (C i) i (p (2*i)) (p (2*i+1))
 two:∀j x,p j=yi x->2<=x
 inj:∀j j' x,p j=yi x->p j'=yi x->j=j'
def NR(K:Nl)(rn:List Row)(C:Nat->Jl):Prop:=0<K.k->∃fq fs p,tC K rn C fq fs p
structure zF(L:km)(w0:ui)(K:Nl):Prop where
 sn:Still L w0 K.nb
 n0:∃a ce,w0.cell? ⟨K.nb,0,Ai⟩=yi (.slice a K.k ce)/\(0<K.k->a=yi ⟨K.eb,0,Ai⟩)
 n1:0<K.k->∃cq,w0.cell? ⟨K.nb,1,Ai⟩=yi (.slice (yi ⟨K.qb,0,Ai⟩) K.k cq)
 n2:0<K.k->∃cs,w0.cell? ⟨K.nb,2,Ai⟩=yi (.slice (yi ⟨K.sb,0,Ai⟩) K.k cs)
 se:0<K.k->Still L w0 K.eb
 e0:∀j,j<K.k->w0.cell? ⟨K.eb,j*2,Ai⟩=yi (.int .i64 (K.fr j))
 e1:∀j,j<K.k->w0.cell? ⟨K.eb,j*2+1,Ai⟩=yi (.int .i64 (K.RD j))
 cH:K.k*3<=K.qm
 qN:K.k*4<=K.sm
 hk:K.k<=1000
theorem Qs.move{rn Fp:List Row}{v:ti}{xs:List Int}{p p':Option Nat}(h:Qs rn v xs p)(hn:p=Ai->p'=Ai)(hs:∀x,p=yi x->∃y,p'=yi y/\Fp[y]?=rn[x]?):Qs Fp v xs p':=by
 rcases h with⟨h0,h1⟩|⟨k,r,h0,h1,h2⟩
 ·exact .inl ⟨hn h0,h1⟩
 ·obtain⟨y,e1,e2⟩:=hs k h0;exact .inr ⟨y,r,e1,by rw[e2];exact h1,h2⟩
theorem Qs.same{rn Fp:List Row}{v:ti}{xs:List Int}{p:Option Nat}(h:Qs rn v xs p)(hs:∀x,p=yi x->Fp[x]?=rn[x]?):Qs Fp v xs p:=h.move id fun x hx=>⟨x,hx,hs x hx⟩
theorem Qs.shift{rn:List Row}{v:ti}{xs:List Int}{p:Option Nat}(h:Qs rn v xs p)(a:Row)(ls:List Row):Qs ((a::rn)++ls) v xs (p.map (·+1)):=
 h.move (fun e=>V2) fun x hx=>⟨x+1,by rw[hx];rfl,by
  rcases h with⟨h0,_⟩|⟨k,r,h0,h1,_⟩
  ·rw[h0]at hx;cases hx
  ·obtain rfl:k=x:=by rw[h0]at hx;exact Option.some.inj hx
   rw[show (a::rn)++ls=a::(rn++ls)from rfl,List.getElem?_cons_succ,List.getElem?_append_left (List.getElem?_eq_some_iff.1 h1).1]⟩
section
variable {K:Nl}{rn:List Row}{C:Nat->Jl}{fq fs:Nat->ti}{p:Nat->Option Nat}{i:Nat}
theorem tC.lt{rn:List Row}(h:tC K rn C fq fs p){i:Nat}(hi:i<K.k){x:Nat}:(p (2*i)=yi x->x<rn.length)/\(p (2*i+1)=yi x->x<rn.length):=by
 constructor
 ·intro e;rcases (h.ch i hi).wait with⟨h0,_⟩|⟨k,r,h0,h1,_⟩
  ·rw[h0]at e;cases e
  ·rw[h0]at e;cases e;exact(List.getElem?_eq_some_iff.1 h1).1
 ·intro e;rcases (h.ch i hi).sent with⟨h0,_⟩|⟨k,r,h0,h1,_⟩
  ·rw[h0]at e;cases e
  ·rw[h0]at e;cases e;exact(List.getElem?_eq_some_iff.1 h1).1
theorem tC.cV(h:tC K rn C fq fs p)(hi:i<K.k)(x:Int):tC K (rn.set 0 ((Ko K fq).put (i*3+2) (.int .i64 x))) (uN C i {C i with lost:=x}) (upd fq (i*3+2) (.int .i64 x)) fs p:=by
 refine⟨Qi h.q _,v8,fun j hj=>?_,h.two,h.inj⟩;have hc:=h.ch j hj;have hs:∀{v xs q},Qs rn v xs q->(∀y,q=yi y->2<=y)->Qs (rn.set 0 ((Ko K fq).put (i*3+2) (.int .i64 x))) v xs q:=fun hl h2=>hl.same fun y hy=>Yi B6 _;have a1:=hs hc.wait (h.two _);have a2:=hs hc.sent (h.two _);by_cases Yq:j=i
 ·subst Yq;rw[Vl];exact⟨j8,l8,upd_same _ _ _,hc.shown,hc.age,hc.En,hc.anew⟩
 ·rw[Es _ _ Yq];exact Bd
theorem tC.J40(h:tC K rn C fq fs p)(hi:i<K.k)(x:Int)(b:Bool):tC K (rn.set 1 (((um K fs).put (i*4+2) (.int .i64 x)).put (i*4+3) (.bool b))) (uN C i {C i with En:=x,anew:=b}) fq (upd (upd fs (i*4+2) (.int .i64 x)) (i*4+3) (.bool b)) p:=by
 refine⟨y8,Qi h.s _,fun j hj=>?_,h.two,h.inj⟩;have hc:=h.ch j hj;have hs:∀{v xs q},Qs rn v xs q->(∀y,q=yi y->2<=y)->Qs (rn.set 1 (((um K fs).put (i*4+2) (.int .i64 x)).put (i*4+3) (.bool b))) v xs q:=fun hl h2=>hl.same fun y hy=>Yi B6 _;have a1:=hs hc.wait (h.two _);have a2:=hs hc.sent (h.two _);by_cases Yq:j=i
 ·subst Yq;rw[Vl];exact⟨a1,a2,hc.lost,by rw[upd_ne _ _ E0,upd_ne _ _ E0];exact hc.shown,by rw[upd_ne _ _ E0,upd_ne _ _ E0];exact hc.age,by rw[upd_ne _ _ E0,upd_same],upd_same _ _ _⟩
 ·rw[Es _ _ Yq];exact⟨a1,a2,hc.lost,by rw[upd_ne _ _ E0,upd_ne _ _ E0];exact hc.shown,by rw[upd_ne _ _ E0,upd_ne _ _ E0];exact hc.age,by rw[upd_ne _ _ E0,upd_ne _ _ E0];exact hc.En,by rw[upd_ne _ _ E0,upd_ne _ _ E0];exact hc.anew⟩
theorem tC.take(h:tC K rn C fq fs p)(hi:i<K.k){x:Int}{l:List Int}(hw:(C i).wait=x::l){k:Nat}{rk:Row}(hp:p (2*i)=yi k)(hk:rn[k]?=yi rk)(hr:fq (i*3)=.slice (yi ⟨rk.g,0,Ai⟩) (l.length+1:Nat) rk.m):
  tC K ((rn.set k {rk with f:=fun j=>if j<l.length then rk.f (j+1)else if j=l.length then .int .i64 0 else rk.f j}).set 0 ((Ko K fq).put (i*3) (.slice (yi ⟨rk.g,0,Ai⟩) l.length rk.m))) (uN C i {C i with wait:=l}) (upd fq (i*3) (.slice (yi ⟨rk.g,0,Ai⟩) l.length rk.m)) fs p:=by
 have qA:=h.two _ _ hp;have kl:=(List.getElem?_eq_some_iff.1 hk).1;refine⟨Qi (r:=Ko K fq) y8 _,by rw[Yi E0,Yi E0];exact h.s,fun j hj=>?_,h.two,h.inj⟩;have hc:=h.ch j hj;have hs:∀{v xs q},Qs rn v xs q->(∀y,q=yi y->2<=y/\y≠k)->Qs ((rn.set k {rk with f:=fun j=>if j<l.length then rk.f (j+1)else if j=l.length then .int .i64 0 else rk.f j}).set 0 ((Ko K fq).put (i*3) (.slice (yi ⟨rk.g,0,Ai⟩) l.length rk.m))) v xs q:=fun hl h2=>hl.same fun y hy=>by
  rw[Yi (by have:=(h2 y hy).1;omega),Yi (h2 y hy).2]
 have a2:=hs hc.sent fun y hy=>⟨h.two _ _ hy,fun e=>by have:=h.inj _ _ _ (e▸hy) hp;omega⟩;by_cases Yq:j=i
 ·subst Yq;rw[Vl];refine⟨?_,l8,a8,hc.shown,hc.age,hc.En,hc.anew⟩;rw[upd_same,hp];rcases hc.wait with⟨h0,_⟩|⟨k',r',h0,h1,h2,h3,h4,h5,h6⟩
  ·rw[h0]at hp;cases hp
  ·obtain rfl:k'=k:=by rw[h0]at hp;exact Option.some.inj hp
   obtain rfl:r'=rk:=by rw[h1]at hk;exact Option.some.inj hk
   rw[hw]at h4 h6;have h4':l.length+1<=r'.m:=h4;refine .inr ⟨k',{r' with f:=fun j=>if j<l.length then r'.f (j+1)else if j=l.length then .int .i64 0 else r'.f j},rfl,by rw[Yi E0];exact Qi h1 _,h2,rfl,(show l.length<=r'.m by omega),h5,fun m hm=>?_⟩;change m<l.length at hm;show (if m<l.length then r'.f (m+1)else _)=_;rw[if_pos hm,h6 (m+1) (by simp;exact hm)];simp
 ·rw[Es _ _ Yq];have a1:=hs hc.wait fun y hy=>⟨h.two _ _ hy,fun e=>by have:=h.inj _ _ _ (e▸hy) hp;omega⟩;exact Bd
theorem tC.send(h:tC K rn C fq fs p)(hi:i<K.k){x:Int}{v':ti}{Fp:List Row}{q:Option Nat}(h0:Fp[0]?=yi ((Ko K fq).put (i*3+1) v'))(hl:Qs Fp v' ((C i).sent++[x]) q)(hq:q=p (2*i+1)\/q=yi rn.length)(hk:∀k,k≠0->p (2*i+1)≠yi k->k<rn.length->Fp[k]?=rn[k]?):
  tC K Fp (uN C i {C i with sent:=(C i).sent++[x]}) (upd fq (i*3+1) v') fs (fun j=>if j<2*K.k then (if j=2*i+1 then q else p j)else Ai):=by
 have l1:=(List.getElem?_eq_some_iff.1 h.s).1;refine⟨h0,?_,fun j hj=>?_,fun j y hy=>?_,fun j j' y hy Uw=>?_⟩
 ·rw[hk 1 E0 (fun e=>by have:=h.two _ _ e;omega) l1];exact h.s
 ·have hc:=h.ch j hj;have Wi:=fun{x:Nat}=>h.lt hj (x:=x);have ks:∀{v xs q'} (jj:Nat),q'=p jj->jj≠2*i+1->(∀y,q'=yi y->y<rn.length)->Qs rn v xs q'->Qs Fp v xs q':=fun jj e Jj hb hl=>hl.same fun y hy=>hk y (by have:=h.two jj y (e▸hy);omega) (fun e2=>Jj (h.inj jj _ y (e▸hy) e2)) (hb y hy);have a1:=ks (2*j) rfl E0 (fun y hy=>Wi.1 hy) hc.wait;show ChR Fp _ fs _ j (if 2*j<2*K.k then (if 2*j=2*i+1 then q else p (2*j))else Ai) (if 2*j+1<2*K.k then (if 2*j+1=2*i+1 then q else p (2*j+1))else Ai);rw[if_pos E0,if_neg E0,if_pos E0];by_cases Yq:j=i
  ·subst Yq;rw[Vl,if_pos rfl];exact⟨j8,by rw[upd_same];exact hl,a8,hc.shown,hc.age,hc.En,hc.anew⟩
  ·rw[Es _ _ Yq,if_neg E0];have a2:=ks (2*j+1) rfl E0 (fun y hy=>Wi.2 hy) hc.sent;exact Bd
 ·change (if j<2*K.k then (if j=2*i+1 then q else p j)else Ai)=yi y at hy;by_cases hj:j<2*K.k
  ·rw[if_pos hj]at hy;by_cases e:j=2*i+1
   ·rw[if_pos e]at hy;rcases hq with rfl|rfl
    ·exact h.two _ _ hy
    ·have:=Option.some.inj hy;omega
   ·rw[if_neg e]at hy;exact h.two _ _ hy
  ·rw[if_neg hj]at hy;cases hy
 ·change (if j<2*K.k then (if j=2*i+1 then q else p j)else Ai)=yi y at hy;change (if j'<2*K.k then (if j'=2*i+1 then q else p j')else Ai)=yi y at Uw;have hb:∀m,m<2*K.k->p m=yi rn.length->False:=fun m hm e=>by
   have hm2:m/2<K.k:=E0;rcases Nat.mod_two_eq_zero_or_one m with e0|e0
   ·have:m=2*(m/2):=by omega
    rw[this]at e;exact absurd ((h.lt hm2).1 e) E0
   ·have:m=2*(m/2)+1:=by omega
    rw[this]at e;exact absurd ((h.lt hm2).2 e) E0
  by_cases hj:j<2*K.k
  ·by_cases Vs:j'<2*K.k
   ·rw[if_pos hj]at hy;rw[if_pos Vs]at Uw;by_cases e:j=2*i+1
    ·by_cases e':j'=2*i+1
     ·omega
     ·rw[if_pos e]at hy;rw[if_neg e']at Uw;rcases hq with rfl|rfl
      ·exact rh
      ·cases hy;exact(hb j' Vs Uw).elim
    ·rw[if_neg e]at hy;by_cases e':j'=2*i+1
     ·rw[if_pos e']at Uw;rcases hq with rfl|rfl
      ·exact rh
      ·cases Uw;exact(hb j hj hy).elim
     ·rw[if_neg e']at Uw;exact h.inj _ _ _ hy Uw
   ·rw[if_neg Vs]at Uw;cases Uw
  ·rw[if_neg hj]at hy;cases hy
theorem tC.forget(h:tC K rn C fq fs p)(num:Int):tC K ((rn.set 0 ((Ko K fq).Xm K.fr num K.k)).set 1 ((um K fs).Vm K.fr num K.k)) (Rn K.fr num C) ((Ko K fq).Xm K.fr num K.k).f ((um K fs).Vm K.fr num K.k).f (fun j=>if j%2=1/\K.fr (j/2)=num then Ai else p j):=by
 refine⟨by rw[Yi E0];exact Qi h.q _,Qi (r:=um K fs) v8 _,fun j hj=>?_,fun j y hy=>?_,fun j j' y hy Uw=>?_⟩
 ·have hc:=h.ch j hj;have hs:∀{v xs q},Qs rn v xs q->(∀y,q=yi y->2<=y)->Qs ((rn.set 0 ((Ko K fq).Xm K.fr num K.k)).set 1 ((um K fs).Vm K.fr num K.k)) v xs q:=fun hl h2=>hl.same fun y hy=>by
   have:=h2 y hy;rw[Yi E0,Yi E0]
  have a1:=hs hc.wait (h.two _);have a2:=hs hc.sent (h.two _);have m1:(j*3)%3=0:=E0;have m2:(j*3+1)%3=1:=E0;have m3:(j*3+2)%3=2:=E0;have d2:(j*3+1)/3=j:=E0;have n0:(j*4)%4=0:=E0;have n1:(j*4+1)%4=1:=E0;have n2:(j*4+2)%4=2:=E0;have n3:(j*4+3)%4=3:=E0;have f2:(j*4+2)/4=j:=E0;have f3:(j*4+3)/4=j:=E0;have p0:(2*j)%2=0:=E0;have p1:(2*j+1)%2=1:=E0;have p2:(2*j+1)/2=j:=E0;by_cases hf:K.fr j=num
  ·refine⟨?_,?_,?_,?_,?_,?_,?_⟩<;>simp[Row.Xm,Row.Vm,Rn,m1,m2,m3,d2,n0,n1,n2,n3,f2,f3,p0,p1,p2,hf,hj,hc.lost,hc.shown,hc.age]
   ·exact a1
   ·exact .inl ⟨rfl,rfl,rfl⟩
  ·refine⟨?_,?_,?_,?_,?_,?_,?_⟩<;>simp[Row.Xm,Row.Vm,Rn,m1,m2,m3,d2,n0,n1,n2,n3,f2,f3,p0,p1,p2,hf,hj,hc.lost,hc.shown,hc.age,hc.En,hc.anew]
   ·exact a1
   ·exact a2
 ·change (if j%2=1/\K.fr (j/2)=num then Ai else p j)=yi y at hy;split at hy
  ·cases hy
  ·exact h.two _ _ hy
 ·change (if j%2=1/\K.fr (j/2)=num then Ai else p j)=yi y at hy;change (if j' % 2=1/\K.fr (j' / 2)=num then Ai else p j')=yi y at Uw;split at hy
  ·cases hy
  ·split at Uw
   ·cases Uw
   ·exact h.inj _ _ _ hy Uw
end
theorem Xi.to{P:Program}{main:Bool}{R:ui->ui->Prop}{D:ui->ui->Array Event->Prop}{f:FuncId}{args:Array ti}{w:ui}{Post YE:ti->ui->Prop}{Die:List PanicEntry->ui->Prop}(h:Xi P main R D f args w Post Die)(hp:∀v w',Post v w'->YE v w'):Xi P main R D f args w YE Die:=
 fun cl cs Stop h1 h2=>h cl cs Stop (fun v w' x=>h1 v w' (hp v w' x)) h2
section
variable {L:km}{w0 w':ui}{rn ls Zj:List Row}{a rq:Row}{v':ti}{xs:List Int}{P p':Option Nat}
theorem qY(hP:∀y,P=yi y->y<rn.length)(hn:1<=rn.length)(hK:Kn L w0 Zj w')(h1:Zj[1]?=yi rq)(hl:Qs Zj v' xs p')(hlen:((a::rn)++ls).length<=Zj.length)(hk:∀k,k≠1->P.map (·+1)≠yi k->k<((a::rn)++ls).length->Zj[k]?=((a::rn)++ls)[k]?)(yO:p'=P.map (·+1)\/p'=yi ((a::rn)++ls).length):
  ∃Fp q,Kn L w0 ((a::Fp)++ls) w'/\Fp[0]?=yi rq/\Qs Fp v' xs q/\(q=P\/q=yi rn.length)/\(∀k,k≠0->P≠yi k->k<rn.length->Fp[k]?=rn[k]?):=by
 have Pm0:rn.length+1+ls.length<=Zj.length:=by simpa[Nat.add_comm,Nat.add_left_comm,Nat.add_assoc]using hlen
 have e0:Zj[0]?=yi a:=by
  rw[hk 0 E0 (by cases P<;>simp) P0];rfl
 obtain⟨mid,jc0⟩:∃mid,mid=(Zj.drop 1).take rn.length:=⟨_,rfl⟩;have ml:mid.length=rn.length:=by rw[jc0];simp;omega
 have mg:∀k,k<rn.length->mid[k]?=Zj[k+1]?:=fun k nA=>by rw[jc0,List.getElem?_take,if_pos nA,List.getElem?_drop,Nat.add_comm]
 have lg:∀m,m<ls.length->Zj[rn.length+1+m]?=ls[m]?:=fun m hm=>by
  rw[hk _ E0 (fun e=>?_) A1,List.getElem?_append_right (by simp only[List.length_cons];omega)]
  ·congr 1;rw[List.length_cons];omega
  ·cases o_:P with
   |none=>rw[o_]at e;cases e
   |some y=>rw[o_]at e;have:=hP y o_;have e:y+1=_:=Option.some.inj e;omega
 have kp:∀k,k≠0->P≠yi k->k<rn.length->mid[k]?=rn[k]?:=fun k h0 Jj nA=>by
  rw[mg k nA,hk (k+1) E0 (fun e=>?_) A1]
  ·rw[show (a::rn)++ls=a::(rn++ls)from rfl,List.getElem?_cons_succ,List.getElem?_append_left nA]
  ·cases o_:P with
   |none=>rw[o_]at e;cases e
   |some y=>rw[o_]at e;have e:y+1=_:=Option.some.inj e;exact Jj (by rw[o_];congr 1;omega)
 rcases yO with yO|yO
 ·refine⟨mid,P,hK.sub id (fun i r hi=>?_) (fun _ _ _ _ e=>e),by rw[mg 0 E0];exact h1,?_,.inl rfl,kp⟩
  ·show Zj[i]?=yi r;rw[<-hi];cases i with
   |zero=>rw[e0];rfl
   |succ i=>
    rw[show (a::mid)++ls=a::(mid++ls)from rfl,List.getElem?_cons_succ,List.getElem?_append];by_cases Wi:i<mid.length
    ·rw[if_pos Wi,mg i E0]
    ·rw[if_neg Wi,ml];have:i-rn.length<ls.length:=by
      have:=(List.getElem?_eq_some_iff.1 hi).1;simp at this;omega
     rw[<-lg _ this];congr 1;omega
  ·refine hl.move (fun e=>?_) (fun x hx=>?_)
   ·rw[yO]at e;cases o_:P with
    |none=>rfl
    |some y=>rw[o_]at e;cases e
   ·rw[yO]at hx;cases o_:P with
    |none=>rw[o_]at hx;cases hx
    |some y=>
     rw[o_]at hx;have:y+1=x:=Option.some.inj hx;exact⟨y,rfl,by rw[mg y (hP y o_),this]⟩
 ·obtain⟨r,hr⟩:∃r,Zj[rn.length+1+ls.length]?=yi r:=by
   rcases hl with⟨h0,_⟩|⟨k,r,h0,hr,_⟩
   ·rw[h0]at yO;cases yO
   ·refine⟨r,?_⟩;rw[h0]at yO;have:=Option.some.inj yO;rw[<-hr,this];congr 1;simp;omega
  refine⟨mid++[r],yi rn.length,hK.sub (fun i=>if i<rn.length+1 then i else if i=rn.length+1 then rn.length+1+ls.length else i-1) (fun i r' hi=>?_) (fun i j hi hj e=>?_),?_,?_,.inr rfl,fun k h0 Jj nA=>?_⟩
  ·show Zj[(if i<rn.length+1 then i else if i=rn.length+1 then rn.length+1+ls.length else i-1)]?=yi r';rw[<-hi];cases i with
   |zero=>rw[if_pos E0,e0];rfl
   |succ i=>
    rw[show (a::(mid++[r]))++ls=a::(mid++[r]++ls)from rfl,List.getElem?_cons_succ,List.getElem?_append,List.getElem?_append];simp only[List.length_append,List.length_singleton,ml];by_cases h2:i<rn.length
    ·rw[if_pos E0,if_pos E0,if_pos h2,mg i h2]
    ·by_cases h3:i=rn.length
     ·subst h3;rw[if_neg E0,if_pos rfl,if_pos E0,if_neg E0,hr];simp
     ·rw[if_neg E0,if_neg E0,if_neg E0];have:i-(rn.length+1)<ls.length:=by
       have:=(List.getElem?_eq_some_iff.1 hi).1;simp[ml]at this;omega
      rw[<-lg _ this];congr 1;omega
  ·simp[ml]at hi hj;revert e;show (if i<rn.length+1 then i else if i=rn.length+1 then rn.length+1+ls.length else i-1)=(if j<rn.length+1 then j else if j=rn.length+1 then rn.length+1+ls.length else j-1)->i=j;split<;>split<;>(try split)<;>(try split)<;>omega
  ·rw[List.getElem?_append_left E0,mg 0 E0];exact h1
  ·refine hl.move (fun e=>by rw[yO]at e;cases e) (fun x hx=>?_);rw[yO]at hx;have:=Option.some.inj hx;refine⟨rn.length,rfl,?_⟩;rw[<-this,List.getElem?_append_right E0,ml,Nat.sub_self];rw[show ((a::rn)++ls).length=rn.length+1+ls.length by simp;omega,hr];rfl
  ·rw[List.getElem?_append_left E0];exact kp k h0 Jj nA
end
section
variable {L:km}{w0:ui}{rn ls:List Row}{K:Nl}{C:Nat->Jl}{g:Nat}{num:Int}{code inV:ti}{z:Nat->Int}{ins:List (Int×Int)}
abbrev bk(K:Nl)(g:Nat)(num:Int)(code:ti)(z:Nat->Int):Row:=Ri g num (.pointer (yi ⟨K.nb,0,Ai⟩)) code z
structure Evs(L:km):Prop where
 ins:((97:Nat)==L.ev)=gi
 inn:((59:Nat)==L.ev)=gi
 i64:((2:Nat)==L.ev)=gi
 ends:((151:Nat)==L.ev)=gi
theorem aj0(he:Evs L)(hW:zF L w0 K)(Pm:InR L w0 inV ins)(GF:ins.length<=1000)(hN:NR K rn C)(op:Int)(hop:op=10\/op=11\/op=12\/op=13\/op=14\/op=16)(N:Int)(hNk:op≠14->0<=N/\N<K.k)(qN:∀i,i<K.k->(C i).sent.length<=1000000000/\(C i).wait.length<=1000000000)(R A:Nat)(dp:R<4)(ep:A<4)(w:ui)(hF:Si L w0 (bk K g num code z::rn) ls w):
  Xi prog gi L.R1 L.D1 129 #[.pointer (yi ⟨g,0,Ai⟩),.agg #[.int .i64 op,.int .i64 R,.int .i64 A,.int .i64 N],inV] w (fun v w'=>v=.tuple #[]/\∃Fp,NR K Fp (tu ins op R A N z C).2/\Si L w0 (bk K g num code (tu ins op R A N z C).1::Fp) ls w') (fun _ _=>False):=by
 have rN:((bk K g num code z::rn)++ls)[0]?=yi (Ri g num (.pointer (yi ⟨K.nb,0,Ai⟩)) code z):=rfl;by_cases zN:op=14
 ·subst zN;refine(Y10 (ic:=0) (dev:=N) he.ins he.inn he.i64 rN Pm GF R A dp ep w hF).to fun v w' ⟨h1,h2⟩=>⟨h1,rn,?_,h2⟩;exact hN
 ·obtain⟨hN0,hNl⟩:=hNk zN;obtain⟨i,rfl⟩:∃i:Nat,N=i:=⟨N.toNat,E0⟩;have yr:i<K.k:=by omega
  obtain⟨fq,fs,p,hx⟩:=hN E0;obtain⟨cq,n1⟩:=hW.n1 E0;obtain⟨lS,n2⟩:=hW.n2 E0;have cH:=hW.cH;have xc0:=hW.qN;have hc:=hx.ch i yr;have l0:=(List.getElem?_eq_some_iff.1 hx.q).1;have l1:=(List.getElem?_eq_some_iff.1 hx.s).1;have q1:((bk K g num code z::rn)++ls)[1]?=yi (Ko K fq):=by
   exact Oe
  have s1:((bk K g num code z::rn)++ls)[2]?=yi (um K fs):=by
   exact Pe
  have h80:∀{j:Nat}{r:Row}{a:Row},j<rn.length->((a::rn)++ls).set (j+1) r=(a::rn.set j r)++ls:=fun hj=>by
   rw[List.set_append_left _ _ A1];rfl
  have tn:((i:Nat):Int).toNat=i:=E0;rcases hop with rfl|rfl|rfl|rfl|rfl|rfl
  ·refine(c60 (ic:=0) (iq:=1) he.ins he.i64 rN q1 hW.sn n1 i yr cH rfl (hc.sent.shift _ ls) (fun e=>?_) (qN i yr).1 R A dp ep inV w hF).to fun v w' ⟨h1,Zj,v',p',h2,h3,h4,h5,h6,h7⟩=>⟨h1,?_⟩
   ·cases hpx:p (2*i+1)with
    |none=>rw[hpx]at e;cases e
    |some y=>rw[hpx]at e;have:=hx.two _ _ hpx;have e:y+1=_:=Option.some.inj e;omega
   ·obtain⟨Fp,q,g1,g2,g3,g4,g5⟩:=qY (fun y hy=>(hx.lt yr).2 hy) E0 h2 h3 h4 h5 h6 h7;have:=hx.send yr g2 g3 g4 g5;simp only[tu,tn,if_pos];exact⟨Fp,fun _=>⟨_,_,_,this⟩,g1⟩
  ·refine(G00 (ic:=0) (is:=2) he.ins rN s1 hW.sn n2 i yr xc0 R A dp ep inV w hF).to fun v w' ⟨h1,h2⟩=>⟨h1,?_⟩;rw[h80 l1]at h2;have:=hx.J40 yr (z (25+R)) ji;simp only[tu,tn];exact⟨_,fun _=>⟨_,_,_,this⟩,h2⟩
  ·cases TQ:(C i).wait with
   |nil=>
    have PW:∃a cc,fq (i*3)=.slice a 0 cc:=by
     rcases hc.wait with⟨_,h,_⟩|⟨k,r,_,_,_,h,_⟩
     ·exact⟨_,_,h⟩
     ·rw[TQ]at h;exact⟨_,_,h⟩
    obtain⟨a,cc,PW⟩:=PW;refine(DL (ic:=0) (iq:=1) he.ins rN q1 E0 hW.sn n1 i yr cH PW R A dp ep inV w hF).to fun v w' ⟨h1,h2⟩=>⟨h1,rn,?_,?_⟩
    ·simp only[tu,tn,TQ];exact fun _=>⟨_,_,_,hx⟩
    ·simp only[tu,tn,TQ];exact h2
   |cons x l=>
    obtain⟨k,rk,e1,e2,e3,e4,e5,e6,e7⟩:∃k r,p (2*i)=yi k/\rn[k]?=yi r/\r.t=2/\fq (i*3)=.slice (yi ⟨r.g,0,Ai⟩) (l.length+1:Nat) r.m/\l.length+1<=r.m/\r.m<=maxLen/\∀j,j<l.length+1->r.f j=.int .i64 ((x::l).getD j 0):=by
     rcases hc.wait with⟨_,_,h⟩|⟨k,r,h1,h2,h3,h4,h5,h6,h7⟩
     ·rw[TQ]at h;cases h
     ·rw[TQ]at h4 h5 h7;exact⟨k,r,h1,h2,h3,h4,h5,h6,h7⟩
    have kl:=(List.getElem?_eq_some_iff.1 e2).1;have k2:=hx.two _ _ e1;have vA:((bk K g num code z::rn)++ls)[k+1]?=yi rk:=by
     rw[show (bk K g num code z::rn)++ls=bk K g num code z::(rn++ls)from rfl,List.getElem?_cons_succ,List.getElem?_append_left kl];exact e2
    have hl9:l.length<=1000000000:=by have:=(qN i yr).2;rw[TQ]at this;simp at this;omega
    refine(aL (ic:=0) (iq:=1) he.ins rN q1 E0 hW.sn n1 i yr cH vA E0 E0 e3 l.length (fun j=>(x::l).getD j 0) e7 e5 e6 hl9 e4 R A dp ep inV w hF).to fun v w' ⟨h1,h2⟩=>⟨h1,?_⟩;rw[h80 kl,show (1:Nat)=0+1 from rfl]at h2;have l0':0<(rn.set k {rk with f:=fun j=>if j<l.length then rk.f (j+1)else if j=l.length then .int .i64 0 else rk.f j}).length:=by simpa using l0
    rw[List.set_append_left _ _ (by simp;exact l0)]at h2;have:=hx.take yr TQ e1 e2 e4;simp only[tu,tn,TQ];exact⟨_,fun _=>⟨_,_,_,this⟩,h2⟩
  ·refine(K40 (ic:=0) (is:=2) he.ins rN s1 E0 hW.sn n2 i yr xc0 _ _ hc.shown hc.age R A dp ep inV w hF).to fun v w' ⟨h1,h2⟩=>⟨h1,rn,?_,?_⟩
   ·simp only[tu,tn];exact fun _=>⟨_,_,_,hx⟩
   ·simp only[tu,tn];exact h2
  ·exact absurd rfl zN
  ·refine(k50 (ic:=0) (iq:=1) he.ins rN q1 E0 hW.sn n1 i yr cH _ hc.lost R A dp ep inV w hF).to fun v w' ⟨h1,h2⟩=>⟨h1,?_⟩;rw[show (1:Nat)=0+1 from rfl,h80 l0]at h2;have:=hx.cV yr 0;simp only[tu,tn];exact⟨_,fun _=>⟨_,_,_,this⟩,h2⟩
end
section
variable {L:km}{w0:ui}{rn ls:List Row}{K:Nl}{C:Nat->Jl}{g cb co n cc:Nat}{num:Int}{inV:ti}{z ci:Nat->Int}{ins:List (Int×Int)}
theorem uX{a b c:List Row}{w:ui}(h:Si L w0 a (b++c) w):Si L w0 (a++b) c w:=by
 unfold Si at *;rw[List.append_assoc];exact h
theorem T10(he:Evs L)(hW:zF L w0 K)(Pm:InR L w0 inV ins)(GF:ins.length<=1000)(hN:NR K rn C)(hs:Still L w0 cb)(Gj:∀j,j<n*4->w0.cell? ⟨cb,co+j,Ai⟩=yi (.int .i64 (ci j)))(nx:Nat)(hz:z 45=nx)(Wi:nx<n)(hn:n<=48)
  (R A:Nat)(dp:R<4)(ep:A<4)(op:Int)(hop:op=10\/op=11\/op=12\/op=13\/op=14\/op=16)(Nh0:ci (nx*4)=op)(hR:ci (nx*4+1)=R)(hA:ci (nx*4+2)=A)(N:Int)(hNc:ci (nx*4+3)=N)(hNk:op≠14->0<=N/\N<K.k)(qN:∀i,i<K.k->(C i).sent.length<=1000000000/\(C i).wait.length<=1000000000)(Kt:ti)(w:ui)(hF:Si L w0 (bk K g num (.slice (yi ⟨cb,co,Ai⟩) n cc) z::rn) ls w):
  Xi prog gi L.R1 L.D1 113 #[.pointer (yi ⟨g,0,Ai⟩),inV,Kt] w (fun v w'=>v=.int .i64 op/\∃Fp,NR K Fp (tu ins op R A N (Ji (Ji z 46 (IntKind.i64.wrap (z 46+1))) 45 ((nx:Int)+1)) C).2/\Si L w0 (bk K g num (.slice (yi ⟨cb,co,Ai⟩) n cc) (tu ins op R A N (Ji (Ji z 46 (IntKind.i64.wrap (z 46+1))) 45 ((nx:Int)+1)) C).1::Fp) ls w') (fun _ _=>False):=by
 refine jc fun hk=>?_;have rN:((bk K g num (.slice (yi ⟨cb,co,Ai⟩) n cc) z::rn)++ls)[0]?=yi (Ri g num (.pointer (yi ⟨K.nb,0,Ai⟩)) (.slice (yi ⟨cb,co,Ai⟩) n cc) z):=rfl;refine step_head (ic:=0) he.ins rN hs Gj nx hz Wi hn R A dp ep Nh0 hR hA N hNc inV Kt w hF fun cl cs Stop jm _ B w3 hF=>?_;refine Xa fun YN QO=>?_;replace hF:Si L w0 ((bk K g num (.slice (yi ⟨cb,co,Ai⟩) n cc) (Ji (Ji z 46 (IntKind.i64.wrap (z 46+1))) 45 ((nx:Int)+1))::rn)++ls) [uj B op R A N] w3:=hF;have hex:=fun w (hF:Si L w0 ((bk K g num (.slice (yi ⟨cb,co,Ai⟩) n cc) (Ji (Ji z 46 (IntKind.i64.wrap (z 46+1))) 45 ((nx:Int)+1))::rn)++ls) [uj B op R A N] w)=>aj0 (ls:=ls++[uj B op R A N]) he hW Pm GF hN op hop N hNk qN R A dp ep w (by have:=hF;unfold Si at this ⊢;rw[<-List.append_assoc];exact this);rcases hop with rfl|rfl|rfl|rfl|rfl|rfl
 all_goals
  refine J8 ?_;repeat(refine .Gi L.Bi [0,1] I0 ?_;iterate 2 (refine .pj L.Bi rfl I0 hk ?_;try walk_nrm);repeat refine .c1 L.Bi rfl ?_;refine .xk L.Bi I0 ?_;repeat refine .c1 L.Bi rfl ?_)
  refine J8 ?_;iterate 2 (try(refine .zk L.Bi I0 ?_;repeat refine .c1 L.Bi rfl ?_))
  refine Fb ?_;refine M8 ?_;refine K8 fun w1 K hK hF=>?_;refine mb fun a0 a1 a2 a3=>?_;refine I8 ?_ ?_
  ·refine V9 ?_;exact og
  clear hK K;clear a0 a1 a2 a3;refine W9 ?_;refine M8 ?_;refine Ci.Bv L.Bi rfl I0 hk rfl func129 I0 rfl #[.pointer (yi ⟨g,0,Ai⟩),.agg #[.int .i64 _,.int .i64 R,.int .i64 A,.int .i64 N],inV] J0 (hex _ hF) ?_ (fun _ _ _ h=>h.elim);rintro v w2 ⟨rfl,rn1,hN1,ql⟩;replace hF:=uX ql;clear ql hex;refine W9 ?_;refine J8 ?_;refine Q9 ?_;refine M8 ?_;refine K8 fun w1 K hK hF=>?_;refine mb fun a0 a1 a2 a3=>?_;refine I8 ?_ ?_
  ·refine V9 ?_;exact W8
  clear hK K;clear a0 a1 a2 a3;refine W9 ?_;refine M8 ?_;refine J8 ?_;refine Wb fun todo=>?_;exact jm _ todo _ _ rfl (Ej L.Bi I0 _) ⟨I0,rn1,hN1,hF.drop⟩
end
inductive TB where
 |on (op:Int) (said:Option Int) (z:Nat->Int) (C:Nat->Jl)
 |Xk (why:Int) (z:Nat->Int)
def TB.sent:TB->List ti
 |.on _ (yi x) _ _=>[said x]
 |_=>[]
def Out.with(C:Nat->Jl):Out->TB
 |.on op e z=>.on op e z C
 |.Xk y z=>.Xk y z
theorem Out.LK(C:Nat->Jl)(o:Out):(o.with C).sent=o.sent:=by
 cases o with
 |on op e z=>cases e<;>rfl
 |Xk y z=>rfl
def Xy(op:Int):Prop:=op=10\/op=11\/op=12\/op=13\/op=14\/op=16
instance (op:Int):Decidable (Xy op):=by unfold Xy;infer_instance
def jk(n:Nat)(ci:Nat->Int)(ins:List (Int×Int))(z:Nat->Int)(C:Nat->Jl):TB:=
 if z 45≠n/\Xy (ci ((z 45).toNat*4))then
  let x:=tu ins (ci ((z 45).toNat*4)) (ci ((z 45).toNat*4+1)).toNat (ci ((z 45).toNat*4+2)).toNat (ci ((z 45).toNat*4+3)) (Ni z) C
  .on (ci ((z 45).toNat*4)) Ai x.1 x.2
 else (tj n ci z).with C
def uq(n k:Nat)(ci:Nat->Int):Prop:=∀j,j<n->(0<=ci (j*4)/\ci (j*4)<=16)/\(0<=ci (j*4+1)/\ci (j*4+1)<4)/\(0<=ci (j*4+2)/\ci (j*4+2)<4)/\(ci (j*4)=8\/ci (j*4)=9->0<=ci (j*4+3)/\ci (j*4+3)<n)/\(Xy (ci (j*4))->ci (j*4)≠14->0<=ci (j*4+3)/\ci (j*4+3)<k)
def qq(k b:Nat)(C:Nat->Jl):Prop:=∀i,i<k->(C i).sent.length<=b/\(C i).wait.length<=b
theorem qq.le{k b b':Nat}{C:Nat->Jl}(h:qq k b C)(hb:b<=b'):qq k b' C:=fun i hi=>⟨Nat.le_trans (h i hi).1 hb,Nat.le_trans (h i hi).2 hb⟩
theorem qq.set{k b i:Nat}{C:Nat->Jl}(h:qq k b C){c:Jl}(hc:c.sent.length<=b/\c.wait.length<=b):qq k b (uN C i c):=fun j hj=>by
 by_cases e:j=i
 ·subst e;rw[Vl];exact hc
 ·rw[Es _ _ e];exact h j hj
theorem qq.forget{k b:Nat}{C:Nat->Jl}(h:qq k b C)(fr:Nat->Int)(num:Int):qq k b (Rn fr num C):=fun i hi=>by
 unfold Rn;split
 ·exact⟨Nat.zero_le _,(h i hi).2⟩
 ·exact h i hi
theorem L50{ins:List (Int×Int)}{op N:Int}{R A k b:Nat}{z:Nat->Int}{C:Nat->Jl}(h:qq k b C)(hop:Xy op)(hN:op≠14->0<=N/\N<k):qq k (b+1) (tu ins op R A N z C).2:=by
 have h1:qq k (b+1) C:=h.le E0;unfold tu;simp only[];by_cases zN:op=14
 ·subst zN;simpa using h1
 have hc:=h N.toNat (by have:=hN zN;omega);rcases hop with rfl|rfl|rfl|rfl|rfl|rfl
 ·exact h1.set ⟨A1,X6⟩
 ·exact h1.set ⟨Y6,X6⟩
 ·cases hw:(C N.toNat).wait with
  |nil=>simpa[hw]using h1
  |cons x l=>
   rw[hw]at hc;have:=hc.2;simp at this;exact h1.set ⟨Y6,by show l.length<=_;omega⟩
 ·exact h1
 ·exact absurd rfl zN
 ·exact h1.set ⟨Y6,X6⟩
theorem Y_{n:Nat}{ins:List (Int×Int)}{op N:Int}{R A:Nat}{z:Nat->Int}{C:Nat->Jl}(h:Fv n z)(hR:R<4)(hA:A<4):Fv n (tu ins op R A N z C).1:=by
 have two:∀x y,Fv n (Ji (Ji z (25+R) x) (25+A) y):=fun x y=>(h.set E0 E0 _).set E0 E0 _;unfold tu;simp only[];split
 ·exact h
 split
 ·exact h
 split
 ·split
  ·exact two _ _
  ·exact two _ _
 split
 ·exact two _ _
 split
 ·exact two _ _
 ·exact h.set E0 E0 _
theorem uq.at{n k:Nat}{ci:Nat->Int}(h:uq n k ci){nx:Nat}(Wi:nx<n)(Jj:¬Xy (ci (nx*4))):((0<=ci (nx*4)/\ci (nx*4)<=9)\/ci (nx*4)=15)/\(0<=ci (nx*4+1)/\ci (nx*4+1)<4)/\(0<=ci (nx*4+2)/\ci (nx*4+2)<4)/\(ci (nx*4)=8\/ci (nx*4)=9->0<=ci (nx*4+3)/\ci (nx*4+3)<n):=by
 obtain⟨h1,h2,h3,h4,_⟩:=h nx Wi;refine⟨?_,h2,h3,h4⟩;unfold Xy at Jj;omega
theorem rR{n:Nat}{ci z:Nat->Int}(gl:∀k:Nat,z 45=(k:Int)->k<n->((0<=ci (k*4)/\ci (k*4)<=9)\/ci (k*4)=15)/\(0<=ci (k*4+1)/\ci (k*4+1)<4)/\(0<=ci (k*4+2)/\ci (k*4+2)<4)/\(ci (k*4)=8\/ci (k*4)=9->0<=ci (k*4+3)/\ci (k*4+3)<n))(h:Fv n z):match tj n ci z with
  |.on _ _ z'=>Fv n z'
  |.Xk _ z'=>z' 24=0:=by
 by_cases hz:z 45=n
 ·have e:tj n ci z=.Xk 3 (Ji z 46 (IntKind.i64.wrap (z 46+1))):=by unfold tj;rw[if_pos hz]
  rw[e];show Ji z 46 _ 24=0;rw[Qk _ _ E0];exact h.first
 ·have hf:=Oy h hz;have h1:=h.lo;have h2:=h.hi;obtain⟨nx,Fq⟩:∃nx:Nat,(z 45).toNat=nx:=⟨_,rfl⟩;obtain⟨ho,hR,hA,hj⟩:=gl nx E0 E0;unfold tj;rw[if_neg hz];simp only[Fq];have uB:(ci (nx*4+1)).toNat<4:=by omega
  have hA':(ci (nx*4+2)).toNat<4:=E0;by_cases e1:ci (nx*4)=1
  ·rw[if_pos e1];exact hf.set E0 E0 _
  rw[if_neg e1];by_cases e2:ci (nx*4)=2
  ·rw[if_pos e2];exact hf.set E0 E0 _
  rw[if_neg e2];by_cases e3:ci (nx*4)=3
  ·rw[if_pos e3];exact hf.set E0 E0 _
  rw[if_neg e3];by_cases e4:ci (nx*4)=4
  ·rw[if_pos e4];exact hf.set E0 E0 _
  rw[if_neg e4];by_cases e5:ci (nx*4)=5
  ·rw[if_pos e5];by_cases h0:Ni z (25+(ci (nx*4+2)).toNat)=0
   ·rw[if_pos h0];exact hf.first
   ·rw[if_neg h0];exact hf.set E0 E0 _
  rw[if_neg e5];by_cases e6:ci (nx*4)=6
  ·rw[if_pos e6];by_cases h0:Ni z (25+(ci (nx*4+2)).toNat)<0\/16<=Ni z (25+(ci (nx*4+2)).toNat)
   ·rw[if_pos h0];exact hf.first
   ·rw[if_neg h0];exact hf.set E0 E0 _
  rw[if_neg e6];by_cases e7:ci (nx*4)=7
  ·rw[if_pos e7];by_cases h0:Ni z (25+(ci (nx*4+2)).toNat)<0\/16<=Ni z (25+(ci (nx*4+2)).toNat)
   ·rw[if_pos h0];exact hf.first
   ·rw[if_neg h0];exact hf.set E0 E0 _
  rw[if_neg e7];by_cases e8:ci (nx*4)=8
  ·rw[if_pos e8];have:=hj (.inl e8);exact hf.jump E0 E0
  rw[if_neg e8];by_cases e9:ci (nx*4)=9
  ·rw[if_pos e9];have:=hj (.inr e9);show Fv n (if _ then _ else _);split
   ·exact hf.jump E0 E0
   ·exact hf
  rw[if_neg e9];by_cases e15:ci (nx*4)=15
  ·rw[if_pos e15];exact hf
  rw[if_neg e15];exact hf
theorem Hz{n k:Nat}{ci z:Nat->Int}{ins:List (Int×Int)}{C:Nat->Jl}{b:Nat}(gl:uq n k ci)(h:Fv n z)(hl:qq k b C):match jk n ci ins z C with
  |.on _ _ z' C'=>Fv n z'/\qq k (b+1) C'
  |.Xk _ z'=>z' 24=0:=by
 have h1:=h.lo;have h2:=h.hi;unfold jk;by_cases hx:z 45≠n/\Xy (ci ((z 45).toNat*4))
 ·rw[if_pos hx];obtain⟨_,hR,hA,_,hN⟩:=gl (z 45).toNat E0;exact⟨Y_ (Oy h hx.1) E0 E0,L50 hl hx.2 (fun e=>hN hx.2 e)⟩
 ·rw[if_neg hx];have:=rR (n:=n) (ci:=ci) (z:=z) (fun nx Fq Wi=>gl.at Wi fun he=>hx ⟨E0,by rw[Fq];exact he⟩) h;revert this;cases tj n ci z with
  |on op e z'=>exact fun hz=>⟨hz,hl.le E0⟩
  |Xk y z'=>exact id
section
variable {L:km}{w0:ui}{rn ls:List Row}{K:Nl}{C:Nat->Jl}{g cb co n cc:Nat}{num:Int}{inV:ti}{z ci:Nat->Int}{ins:List (Int×Int)}
theorem k80{FS:ui->Prop}(he:Evs L)(hW:zF L w0 K)(Pm:InR L w0 inV ins)(GF:ins.length<=1000)(hN:NR K rn C)(hs:Still L w0 cb)(Gj:∀j,j<n*4->w0.cell? ⟨cb,co+j,Ai⟩=yi (.int .i64 (ci j)))(hn:n<=48)(gl:uq n K.k ci)(hz:Fv n z)(hlen:qq K.k 1000000000 C)(w:ui)(hF:Si L w0 (bk K g num (Um cb co n cc) z::rn) ls w):
  Bt prog L FS 113 #[.pointer (yi ⟨g,0,Ai⟩),inV,.chan (yi L.c)] w (jk n ci ins z C).sent
   (fun v w'=>∃op e z' C',jk n ci ins z C=.on op e z' C'/\v=.int .i64 op/\∃Fp,NR K Fp C'/\Si L w0 (bk K g num (Um cb co n cc) z'::Fp) ls w')
   (fun ch w'=>∃y z',jk n ci ins z C=.Xk y z'/\ch=brk y/\Si L w0 (bk K g num (Um cb co n cc) z'::rn) ls w'):=by
 have h1:=hz.lo;have h2:=hz.hi;by_cases hx:z 45≠n/\Xy (ci ((z 45).toNat*4))
 ·obtain⟨nx,Fq⟩:∃nx:Nat,z 45=nx:=⟨(z 45).toNat,E0⟩;have ht:(z 45).toNat=nx:=by omega
  have Wi:nx<n:=E0;obtain⟨hop,⟨r0,r4⟩,⟨a0,a4⟩,_,hNk⟩:=gl nx Wi;obtain⟨R,hR⟩:∃R:Nat,ci (nx*4+1)=R:=⟨(ci (nx*4+1)).toNat,E0⟩;obtain⟨A,hA⟩:∃A:Nat,ci (nx*4+2)=A:=⟨(ci (nx*4+2)).toNat,E0⟩;have eH:(ci (nx*4+1)).toNat=R:=E0;have SG:(ci (nx*4+2)).toNat=A:=E0;have Iz:=hx.2;rw[ht]at Iz;have e:jk n ci ins z C=.on (ci (nx*4)) Ai (tu ins (ci (nx*4)) R A (ci (nx*4+3)) (Ji (Ji z 46 (IntKind.i64.wrap (z 46+1))) 45 ((nx:Int)+1)) C).1 (tu ins (ci (nx*4)) R A (ci (nx*4+3)) (Ji (Ji z 46 (IntKind.i64.wrap (z 46+1))) 45 ((nx:Int)+1)) C).2:=by
   unfold jk;rw[if_pos hx];simp only[ht,eH,SG,Ni]
  refine(T10 he hW Pm GF hN hs Gj nx Fq Wi hn R A E0 E0 _ Iz rfl hR hA _ rfl (fun h=>hNk Iz h) (fun i hi=>⟨(hlen i hi).1,(hlen i hi).2⟩) (.chan (yi L.c)) w hF).quiet.mono V2 (fun v w' x=>⟨_,Ai,_,_,e,x.1,x.2⟩) (fun _ _ x=>x.elim)
 ·have e:jk n ci ins z C=(tj n ci z).with C:=by unfold jk;rw[if_neg hx]
  rw[e,Out.LK];refine(F50 (rows:=(bk K g num (Um cb co n cc) z::rn)++ls) (ic:=0) he.ins rfl hs Gj hn (fun nx Fq Wi=>gl.at Wi fun h=>hx ⟨E0,by rw[Fq];exact h⟩) ⟨h1,h2⟩ inV w hF).mono rfl (fun v w' ⟨op,x,z',e1,e2,e3⟩=>⟨op,x,z',C,by rw[e1];rfl,e2,rn,hN,e3⟩) (fun ch w' ⟨y,z',e1,e2,e3⟩=>⟨y,z',by rw[e1];rfl,e2,e3⟩)
end
end Go.Proofs.YtdoghgnifkgfdaaGreat.Mute
