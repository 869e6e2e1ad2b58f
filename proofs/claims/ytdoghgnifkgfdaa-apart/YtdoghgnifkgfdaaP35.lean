import Derived.Test.YtdoghgnifkgfdaaP22
import Derived.Test.YtdoghgnifkgfdaaP25
import Derived.Test.YtdoghgnifkgfdaaP31
import Derived.Test.YtdoghgnifkgfdaaP34
set_option maxRecDepth 100000
set_option maxHeartbeats 16000000
namespace Go.Proofs.Ytdoghgnifkgfdaa.Mute
open Go Go.Conc Go.RowKit
theorem CallsX.to {P:Program} {main:Bool} {R:World→World→Prop} {D:World→World→Array Event→Prop} {f:FuncId} {args:Array Value} {w:World} {Post Post':Value→World→Prop} {Die:List PanicEntry→World→Prop} (h:CallsX P main R D f args w Post Die) (hp:∀v w',Post v w'→Post' v w'):CallsX P main R D f args w Post' Die:=
 fun cl cs Stop h1 h2=>h cl cs Stop (fun v w' x=>h1 v w' (hp v w' x)) h2
section
variable {L:Lot} {w0 w':World} {rn ls rows':List Row} {a rq:Row} {v':Value} {xs:List Int} {P p':Option Nat}
theorem send_back (hP:∀y,P=some y→y<rn.length) (hn:1≤rn.length) (hK:Kn L w0 rows' w') (h1:rows'[1]?=some rq) (hl:Lst rows' v' xs p') (hlen:((a::rn)++ls).length≤rows'.length) (hk:∀k,k≠1→P.map (·+1)≠some k→k<((a::rn)++ls).length→rows'[k]?=((a::rn)++ls)[k]?) (hp':p'=P.map (·+1)∨p'=some ((a::rn)++ls).length):
  ∃rn' q,Kn L w0 ((a::rn')++ls) w'∧rn'[0]?=some rq∧Lst rn' v' xs q∧(q=P∨q=some rn.length)∧(∀k,k≠0→P≠some k→k<rn.length→rn'[k]?=rn[k]?):=by
 have hlen':rn.length+1+ls.length≤rows'.length:=by simpa [Nat.add_comm,Nat.add_left_comm,Nat.add_assoc] using hlen
 have e0:rows'[0]?=some a:=by
  rw [hk 0 (by omega) (by cases P<;>simp) (by simp)];rfl
 obtain ⟨mid,hmid⟩:∃mid,mid=(rows'.drop 1).take rn.length:=⟨_,rfl⟩;have ml:mid.length=rn.length:=by rw [hmid];simp;omega
 have mg:∀k,k<rn.length→mid[k]?=rows'[k+1]?:=fun k hkl=>by rw [hmid,List.getElem?_take,if_pos hkl,List.getElem?_drop,Nat.add_comm]
 have lg:∀m,m<ls.length→rows'[rn.length+1+m]?=ls[m]?:=fun m hm=>by
  rw [hk _ (by omega) (fun e=>?_) (by simp;omega),List.getElem?_append_right (by simp only [List.length_cons];omega)]
  ·congr 1;rw [List.length_cons];omega
  ·cases hPx:P with
   |none=>rw [hPx] at e;cases e
   |some y=>rw [hPx] at e;have:=hP y hPx;have e:y+1=_:=Option.some.inj e;omega
 have kp:∀k,k≠0→P≠some k→k<rn.length→mid[k]?=rn[k]?:=fun k h0 hne hkl=>by
  rw [mg k hkl,hk (k+1) (by omega) (fun e=>?_) (by simp;omega)]
  ·rw [show (a::rn)++ls=a::(rn++ls) from rfl,List.getElem?_cons_succ,List.getElem?_append_left hkl]
  ·cases hPx:P with
   |none=>rw [hPx] at e;cases e
   |some y=>rw [hPx] at e;have e:y+1=_:=Option.some.inj e;exact hne (by rw [hPx];congr 1;omega)
 rcases hp' with hp'|hp'
 ·refine ⟨mid,P,hK.sub id (fun i r hi=>?_) (fun _ _ _ _ e=>e),by rw [mg 0 (by omega)];exact h1,?_,.inl rfl,kp⟩
  ·show rows'[i]?=some r;rw [←hi];cases i with
   |zero=>rw [e0];rfl
   |succ i=>
    rw [show (a::mid)++ls=a::(mid++ls) from rfl,List.getElem?_cons_succ,List.getElem?_append];by_cases hlt:i<mid.length
    ·rw [if_pos hlt,mg i (by omega)]
    ·rw [if_neg hlt,ml];have:i-rn.length<ls.length:=by
      have:=(List.getElem?_eq_some_iff.1 hi).1;simp at this;omega
     rw [←lg _ this];congr 1;omega
  ·refine hl.move (fun e=>?_) (fun x hx=>?_)
   ·rw [hp'] at e;cases hPx:P with
    |none=>rfl
    |some y=>rw [hPx] at e;cases e
   ·rw [hp'] at hx;cases hPx:P with
    |none=>rw [hPx] at hx;cases hx
    |some y=>
     rw [hPx] at hx;have:y+1=x:=Option.some.inj hx;exact ⟨y,rfl,by rw [mg y (hP y hPx),this]⟩
 ·obtain ⟨r,hr⟩:∃r,rows'[rn.length+1+ls.length]?=some r:=by
   rcases hl with ⟨h0,_⟩|⟨k,r,h0,hr,_⟩
   ·rw [h0] at hp';cases hp'
   ·refine ⟨r,?_⟩;rw [h0] at hp';have:=Option.some.inj hp';rw [←hr,this];congr 1;simp;omega
  refine ⟨mid++[r],some rn.length,hK.sub (fun i=>if i<rn.length+1 then i else if i=rn.length+1 then rn.length+1+ls.length else i-1) (fun i r' hi=>?_) (fun i j hi hj e=>?_),?_,?_,.inr rfl,fun k h0 hne hkl=>?_⟩
  ·show rows'[(if i<rn.length+1 then i else if i=rn.length+1 then rn.length+1+ls.length else i-1)]?=some r';rw [←hi];cases i with
   |zero=>rw [if_pos (by omega),e0];rfl
   |succ i=>
    rw [show (a::(mid++[r]))++ls=a::(mid++[r]++ls) from rfl,List.getElem?_cons_succ,List.getElem?_append,List.getElem?_append];simp only [List.length_append,List.length_singleton,ml];by_cases h2:i<rn.length
    ·rw [if_pos (by omega),if_pos (by omega),if_pos h2,mg i h2]
    ·by_cases h3:i=rn.length
     ·subst h3;rw [if_neg (by omega),if_pos rfl,if_pos (by omega),if_neg (by omega),hr];simp
     ·rw [if_neg (by omega),if_neg (by omega),if_neg (by omega)];have:i-(rn.length+1)<ls.length:=by
       have:=(List.getElem?_eq_some_iff.1 hi).1;simp [ml] at this;omega
      rw [←lg _ this];congr 1;omega
  ·simp [ml] at hi hj;revert e;show (if i<rn.length+1 then i else if i=rn.length+1 then rn.length+1+ls.length else i-1)=(if j<rn.length+1 then j else if j=rn.length+1 then rn.length+1+ls.length else j-1)→i=j;split<;>split<;>(try split)<;>(try split)<;>omega
  ·rw [List.getElem?_append_left (by omega),mg 0 (by omega)];exact h1
  ·refine hl.move (fun e=>by rw [hp'] at e;cases e) (fun x hx=>?_);rw [hp'] at hx;have:=Option.some.inj hx;refine ⟨rn.length,rfl,?_⟩;rw [←this,List.getElem?_append_right (by omega),ml,Nat.sub_self];rw [show ((a::rn)++ls).length=rn.length+1+ls.length by simp;omega,hr];rfl
  ·rw [List.getElem?_append_left (by omega)];exact kp k h0 hne hkl
end
section
variable {L:Lot} {w0:World} {rn ls:List Row} {K:NetK} {C:Nat→Chn} {g:Nat} {num:Int} {code inV:Value} {z:Nat→Int} {ins:List (Int×Int)}
abbrev cellQ (K:NetK) (g:Nat) (num:Int) (code:Value) (z:Nat→Int):Row:=cellRow g num (.pointer (some ⟨K.nb,0,none⟩)) code z
structure Evs (L:Lot):Prop where
 ins:((73:Nat)==L.ev)=false
 inn:((79:Nat)==L.ev)=false
 i64:((2:Nat)==L.ev)=false
 ends:((158:Nat)==L.ev)=false
theorem ex_q (he:Evs L) (hW:NetW L w0 K) (hin:InR L w0 inV ins) (hln:ins.length≤1000) (hN:NR K rn C) (op:Int) (hop:op=10∨op=11∨op=12∨op=13∨op=14∨op=16) (N:Int) (hNk:op≠14→0≤N∧N<K.k) (hsm:∀i,i<K.k→(C i).sent.length≤1000000000∧(C i).wait.length≤1000000000) (R A:Nat) (hR4:R<4) (hA4:A<4) (w:World) (hF:KnL L w0 (cellQ K g num code z::rn) ls w):
  CallsX Try.prog false L.R1 L.D1 91 #[.pointer (some ⟨g,0,none⟩),.agg #[.int .i64 op,.int .i64 R,.int .i64 A,.int .i64 N],inV] w (fun v w'=>v=.tuple #[]∧∃rn',NR K rn' (exF ins op R A N z C).2∧KnL L w0 (cellQ K g num code (exF ins op R A N z C).1::rn') ls w') (fun _ _=>False):=by
 have hc0:((cellQ K g num code z::rn)++ls)[0]?=some (cellRow g num (.pointer (some ⟨K.nb,0,none⟩)) code z):=rfl;by_cases h14:op=14
 ·subst h14;refine (ex_input (ic:=0) (dev:=N) he.ins he.inn he.i64 hc0 hin hln R A hR4 hA4 w hF).to fun v w' ⟨h1,h2⟩=>⟨h1,rn,?_,h2⟩;exact hN
 ·obtain ⟨hN0,hNl⟩:=hNk h14;obtain ⟨i,rfl⟩:∃i:Nat,N=i:=⟨N.toNat,by omega⟩;have hik:i<K.k:=by omega
  obtain ⟨fq,fs,p,hx⟩:=hN (by omega);obtain ⟨cq,n1⟩:=hW.n1 (by omega);obtain ⟨cs_,n2⟩:=hW.n2 (by omega);have hqm:=hW.hqm;have hsm':=hW.hsm;have hc:=hx.ch i hik;have l0:=(List.getElem?_eq_some_iff.1 hx.q).1;have l1:=(List.getElem?_eq_some_iff.1 hx.s).1;have q1:((cellQ K g num code z::rn)++ls)[1]?=some (rowQ K fq):=by
   rw [show (cellQ K g num code z::rn)++ls=cellQ K g num code z::(rn++ls) from rfl,List.getElem?_cons_succ,List.getElem?_append_left l0];exact hx.q
  have s1:((cellQ K g num code z::rn)++ls)[2]?=some (rowS' K fs):=by
   rw [show (cellQ K g num code z::rn)++ls=cellQ K g num code z::(rn++ls) from rfl,List.getElem?_cons_succ,List.getElem?_append_left l1];exact hx.s
  have setR:∀{j:Nat} {r:Row} {a:Row},j<rn.length→((a::rn)++ls).set (j+1) r=(a::rn.set j r)++ls:=fun hj=>by
   rw [List.set_append_left _ _ (by simp;omega)];rfl
  have tn:((i:Nat):Int).toNat=i:=by omega
  rcases hop with rfl|rfl|rfl|rfl|rfl|rfl
  ·refine (ex_send (ic:=0) (iq:=1) he.ins he.i64 hc0 q1 hW.sn n1 i hik hqm rfl (hc.sent.shift _ ls) (fun e=>?_) (hsm i hik).1 R A hR4 hA4 inV w hF).to fun v w' ⟨h1,rows',v',p',h2,h3,h4,h5,h6,h7⟩=>⟨h1,?_⟩
   ·cases hpx:p (2*i+1) with
    |none=>rw [hpx] at e;cases e
    |some y=>rw [hpx] at e;have:=hx.two _ _ hpx;have e:y+1=_:=Option.some.inj e;omega
   ·obtain ⟨rn',q,g1,g2,g3,g4,g5⟩:=send_back (fun y hy=>(hx.lt hik).2 hy) (by omega) h2 h3 h4 h5 h6 h7;have:=hx.send hik g2 g3 g4 g5;simp only [exF,tn,if_pos];exact ⟨rn',fun _=>⟨_,_,_,this⟩,g1⟩
  ·refine (ex_write (ic:=0) (is:=2) he.ins hc0 s1 hW.sn n2 i hik hsm' R A hR4 hA4 inV w hF).to fun v w' ⟨h1,h2⟩=>⟨h1,?_⟩;rw [setR l1] at h2;have:=hx.setWrit hik (z (25+R)) true;simp only [exF,tn];exact ⟨_,fun _=>⟨_,_,_,this⟩,h2⟩
  ·cases hwt:(C i).wait with
   |nil=>
    have hw0:∃a cc,fq (i*3)=.slice a 0 cc:=by
     rcases hc.wait with ⟨_,h,_⟩|⟨k,r,_,_,_,h,_⟩
     ·exact ⟨_,_,h⟩
     ·rw [hwt] at h;exact ⟨_,_,h⟩
    obtain ⟨a,cc,hw0⟩:=hw0;refine (ex_take_none (ic:=0) (iq:=1) he.ins hc0 q1 (by omega) hW.sn n1 i hik hqm hw0 R A hR4 hA4 inV w hF).to fun v w' ⟨h1,h2⟩=>⟨h1,rn,?_,?_⟩
    ·simp only [exF,tn,hwt];exact fun _=>⟨_,_,_,hx⟩
    ·simp only [exF,tn,hwt];exact h2
   |cons x l=>
    obtain ⟨k,rk,e1,e2,e3,e4,e5,e6,e7⟩:∃k r,p (2*i)=some k∧rn[k]?=some r∧r.t=2∧fq (i*3)=.slice (some ⟨r.g,0,none⟩) (l.length+1:Nat) r.m∧l.length+1≤r.m∧r.m≤maxLen∧∀j,j<l.length+1→r.f j=.int .i64 ((x::l).getD j 0):=by
     rcases hc.wait with ⟨_,_,h⟩|⟨k,r,h1,h2,h3,h4,h5,h6,h7⟩
     ·rw [hwt] at h;cases h
     ·rw [hwt] at h4 h5 h7;exact ⟨k,r,h1,h2,h3,h4,h5,h6,h7⟩
    have kl:=(List.getElem?_eq_some_iff.1 e2).1;have k2:=hx.two _ _ e1;have hk1:((cellQ K g num code z::rn)++ls)[k+1]?=some rk:=by
     rw [show (cellQ K g num code z::rn)++ls=cellQ K g num code z::(rn++ls) from rfl,List.getElem?_cons_succ,List.getElem?_append_left kl];exact e2
    have hl9:l.length≤1000000000:=by have:=(hsm i hik).2;rw [hwt] at this;simp at this;omega
    refine (ex_take_some (ic:=0) (iq:=1) he.ins hc0 q1 (by omega) hW.sn n1 i hik hqm hk1 (by omega) (by omega) e3 l.length (fun j=>(x::l).getD j 0) e7 e5 e6 hl9 e4 R A hR4 hA4 inV w hF).to fun v w' ⟨h1,h2⟩=>⟨h1,?_⟩;rw [setR kl,show (1:Nat)=0+1 from rfl] at h2;have l0':0<(rn.set k {rk with f:=fun j=>if j<l.length then rk.f (j+1) else if j=l.length then .int .i64 0 else rk.f j}).length:=by simpa using l0
    rw [List.set_append_left _ _ (by simp;exact l0)] at h2;have:=hx.take hik hwt e1 e2 e4;simp only [exF,tn,hwt];exact ⟨_,fun _=>⟨_,_,_,this⟩,h2⟩
  ·refine (ex_read (ic:=0) (is:=2) he.ins hc0 s1 (by omega) hW.sn n2 i hik hsm' _ _ hc.shown hc.age R A hR4 hA4 inV w hF).to fun v w' ⟨h1,h2⟩=>⟨h1,rn,?_,?_⟩
   ·simp only [exF,tn];exact fun _=>⟨_,_,_,hx⟩
   ·simp only [exF,tn];exact h2
  ·exact absurd rfl h14
  ·refine (ex_lost (ic:=0) (iq:=1) he.ins hc0 q1 (by omega) hW.sn n1 i hik hqm _ hc.lost R A hR4 hA4 inV w hF).to fun v w' ⟨h1,h2⟩=>⟨h1,?_⟩;rw [show (1:Nat)=0+1 from rfl,setR l0] at h2;have:=hx.setLost hik 0;simp only [exF,tn];exact ⟨_,fun _=>⟨_,_,_,this⟩,h2⟩
end
section
variable {L:Lot} {w0:World} {rn ls:List Row} {K:NetK} {C:Nat→Chn} {g cb co n cc:Nat} {num:Int} {inV:Value} {z ci:Nat→Int} {ins:List (Int×Int)}
theorem knl_assoc {a b c:List Row} {w:World} (h:KnL L w0 a (b++c) w):KnL L w0 (a++b) c w:=by
 unfold KnL at *;rw [List.append_assoc];exact h
theorem step_exq (he:Evs L) (hW:NetW L w0 K) (hin:InR L w0 inV ins) (hln:ins.length≤1000) (hN:NR K rn C) (hs:Still L w0 cb) (hcode:∀j,j<n*4→w0.cell? ⟨cb,co+j,none⟩=some (.int .i64 (ci j))) (nx:Nat) (hz:z 45=nx) (hlt:nx<n) (hn:n≤48)
  (R A:Nat) (hR4:R<4) (hA4:A<4) (op:Int) (hop:op=10∨op=11∨op=12∨op=13∨op=14∨op=16) (hopc:ci (nx*4)=op) (hR:ci (nx*4+1)=R) (hA:ci (nx*4+2)=A) (N:Int) (hNc:ci (nx*4+3)=N) (hNk:op≠14→0≤N∧N<K.k) (hsm:∀i,i<K.k→(C i).sent.length≤1000000000∧(C i).wait.length≤1000000000) (chV:Value) (w:World) (hF:KnL L w0 (cellQ K g num (.slice (some ⟨cb,co,none⟩) n cc) z::rn) ls w):
  CallsX Try.prog false L.R1 L.D1 83 #[.pointer (some ⟨g,0,none⟩),inV,chV] w (fun v w'=>v=.int .i64 op∧∃rn',NR K rn' (exF ins op R A N (zset (zset z 46 (IntKind.i64.wrap (z 46+1))) 45 ((nx:Int)+1)) C).2∧KnL L w0 (cellQ K g num (.slice (some ⟨cb,co,none⟩) n cc) (exF ins op R A N (zset (zset z 46 (IntKind.i64.wrap (z 46+1))) 45 ((nx:Int)+1)) C).1::rn') ls w') (fun _ _=>False):=by
 have hk:(base 83).kind≠.early:=by simp [base]
 have hc0:((cellQ K g num (.slice (some ⟨cb,co,none⟩) n cc) z::rn)++ls)[0]?=some (cellRow g num (.pointer (some ⟨K.nb,0,none⟩)) (.slice (some ⟨cb,co,none⟩) n cc) z):=rfl;refine step_head (ic:=0) he.ins hc0 hs hcode nx hz hlt hn R A hR4 hA4 hopc hR hA N hNc inV chV w hF fun cl cs Stop Ret _ B w3 hF=>?_;have hRi:(R:Int)<4:=by omega
 have hAi:(A:Int)<4:=by omega
 replace hF:KnL L w0 ((cellQ K g num (.slice (some ⟨cb,co,none⟩) n cc) (zset (zset z 46 (IntKind.i64.wrap (z 46+1))) 45 ((nx:Int)+1))::rn)++ls) [insRow B op R A N] w3:=hF;have hex:=fun w (hF:KnL L w0 ((cellQ K g num (.slice (some ⟨cb,co,none⟩) n cc) (zset (zset z 46 (IntKind.i64.wrap (z 46+1))) 45 ((nx:Int)+1))::rn)++ls) [insRow B op R A N] w)=>ex_q (ls:=ls++[insRow B op R A N]) he hW hin hln hN op hop N hNk hsm R A hR4 hA4 w (by have:=hF;unfold KnL at this ⊢;rw [←List.append_assoc];exact this);rcases hop with rfl|rfl|rfl|rfl|rfl|rfl
 all_goals
  repeat refine .c1 L.terms1 rfl ?_
  repeat (refine .regionL L.terms1 [0,1] (by rfl) ?_;iterate 2 (refine .opV L.terms1 rfl (by rfl) hk ?_;try walk_nrm);repeat refine .c1 L.terms1 rfl ?_;refine .condF L.terms1 (by rfl) ?_;repeat refine .c1 L.terms1 rfl ?_)
  repeat refine .c1 L.terms1 rfl ?_
  iterate 2 (try (refine .condT L.terms1 (by rfl) ?_;repeat refine .c1 L.terms1 rfl ?_))
  refine .regionL L.terms1 [0,1,2,3] (by rfl) ?_;refine .opV L.terms1 rfl (by rfl) hk ?_;try walk_nrm
  refine .op rfl (by rfl) hk fun w1 hR K hK=>?_;replace hF:=hF.rely hR;clear hR;obtain ⟨a0,a1,a2,a3⟩:=hF.lins (k:=0) rfl;go_simp;try (unfold stored;go_simp)
  refine hK _ _ ⟨?_,?_⟩
  ·refine hF.llooks (k:=0) rfl ?_;(intro e he;have hm:=mem_listed he;simp [go_sem, *] at hm;rcases hm with rfl|rfl|rfl|rfl<;>exact ⟨_,rfl⟩)
  clear hK K;clear a0 a1 a2 a3;try walk_nrm
  refine .opV L.terms1 rfl (by rfl) hk ?_;try walk_nrm
  refine GoesW.callX L.terms1 rfl (by rfl) hk rfl Try.func91 (by rfl) rfl #[.pointer (some ⟨g,0,none⟩),.agg #[.int .i64 _,.int .i64 R,.int .i64 A,.int .i64 N],inV] (by kernel_rfl) (hex _ hF) ?_ (fun _ _ _ h=>h.elim);rintro v w2 ⟨rfl,rn1,hN1,hF2⟩;replace hF:=knl_assoc hF2;clear hF2 hex;try walk_nrm
  repeat refine .c1 L.terms1 rfl ?_
  refine .regionL L.terms1 [0,1,2] (by rfl) ?_;refine .opV L.terms1 rfl (by rfl) hk ?_;try walk_nrm
  refine .op rfl (by rfl) hk fun w1 hR K hK=>?_;replace hF:=hF.rely hR;clear hR;obtain ⟨a0,a1,a2,a3⟩:=hF.lins (k:=0) rfl;go_simp;try (unfold stored;go_simp)
  refine hK _ _ ⟨?_,?_⟩
  ·refine hF.llooks (k:=0) rfl ?_;co_evs (exact ⟨_,rfl⟩)
  clear hK K;clear a0 a1 a2 a3;try walk_nrm
  refine .opV L.terms1 rfl (by rfl) hk ?_;try walk_nrm
  repeat refine .c1 L.terms1 rfl ?_
  refine GoesW.ret L.terms1 fun todo=>?_;exact Ret _ todo _ _ rfl (resultsW_tmp L.terms1 (by rfl) _) ⟨by rfl,rn1,hN1,hF.drop⟩
end
inductive OutQ where
 |on (op:Int) (said:Option Int) (z:Nat→Int) (C:Nat→Chn)
 |broke (why:Int) (z:Nat→Int)
def OutQ.sent:OutQ→List Value
 |.on _ (some x) _ _=>[said x]
 |_=>[]
def Out.with (C:Nat→Chn):Out→OutQ
 |.on op e z=>.on op e z C
 |.broke y z=>.broke y z
theorem Out.with_sent (C:Nat→Chn) (o:Out):(o.with C).sent=o.sent:=by
 cases o with
 |on op e z=>cases e<;>rfl
 |broke y z=>rfl
def isEx (op:Int):Prop:=op=10∨op=11∨op=12∨op=13∨op=14∨op=16
instance (op:Int):Decidable (isEx op):=by unfold isEx;infer_instance
def stepQ (n:Nat) (ci:Nat→Int) (ins:List (Int×Int)) (z:Nat→Int) (C:Nat→Chn):OutQ:=
 if z 45≠n∧isEx (ci ((z 45).toNat*4)) then
  let x:=exF ins (ci ((z 45).toNat*4)) (ci ((z 45).toNat*4+1)).toNat (ci ((z 45).toNat*4+2)).toNat (ci ((z 45).toNat*4+3)) (fetchedZ z) C
  .on (ci ((z 45).toNat*4)) none x.1 x.2
 else (stepF n ci z).with C
def CodeQ (n k:Nat) (ci:Nat→Int):Prop:=∀j,j<n→(0≤ci (j*4)∧ci (j*4)≤16)∧(0≤ci (j*4+1)∧ci (j*4+1)<4)∧(0≤ci (j*4+2)∧ci (j*4+2)<4)∧(ci (j*4)=8∨ci (j*4)=9→0≤ci (j*4+3)∧ci (j*4+3)<n)∧(isEx (ci (j*4))→ci (j*4)≠14→0≤ci (j*4+3)∧ci (j*4+3)<k)
def LenQ (k b:Nat) (C:Nat→Chn):Prop:=∀i,i<k→(C i).sent.length≤b∧(C i).wait.length≤b
theorem LenQ.le {k b b':Nat} {C:Nat→Chn} (h:LenQ k b C) (hb:b≤b'):LenQ k b' C:=fun i hi=>⟨Nat.le_trans (h i hi).1 hb,Nat.le_trans (h i hi).2 hb⟩
theorem LenQ.set {k b i:Nat} {C:Nat→Chn} (h:LenQ k b C) {c:Chn} (hc:c.sent.length≤b∧c.wait.length≤b):LenQ k b (uN C i c):=fun j hj=>by
 by_cases e:j=i
 ·subst e;rw [uN_same];exact hc
 ·rw [uN_ne _ _ e];exact h j hj
theorem LenQ.forget {k b:Nat} {C:Nat→Chn} (h:LenQ k b C) (fr:Nat→Int) (num:Int):LenQ k b (forgetF fr num C):=fun i hi=>by
 unfold forgetF;split
 ·exact ⟨Nat.zero_le _,(h i hi).2⟩
 ·exact h i hi
theorem exF_len {ins:List (Int×Int)} {op N:Int} {R A k b:Nat} {z:Nat→Int} {C:Nat→Chn} (h:LenQ k b C) (hop:isEx op) (hN:op≠14→0≤N∧N<k):LenQ k (b+1) (exF ins op R A N z C).2:=by
 have h1:LenQ k (b+1) C:=h.le (by omega);unfold exF;simp only [];by_cases h14:op=14
 ·subst h14;simpa using h1
 have hc:=h N.toNat (by have:=hN h14;omega);rcases hop with rfl|rfl|rfl|rfl|rfl|rfl
 ·exact h1.set ⟨by simp;omega,by show (C N.toNat).wait.length≤_;omega⟩
 ·exact h1.set ⟨by show (C N.toNat).sent.length≤_;omega,by show (C N.toNat).wait.length≤_;omega⟩
 ·cases hw:(C N.toNat).wait with
  |nil=>simpa [hw] using h1
  |cons x l=>
   rw [hw] at hc;have:=hc.2;simp at this;exact h1.set ⟨by show (C N.toNat).sent.length≤_;omega,by show l.length≤_;omega⟩
 ·exact h1
 ·exact absurd rfl h14
 ·exact h1.set ⟨by show (C N.toNat).sent.length≤_;omega,by show (C N.toNat).wait.length≤_;omega⟩
theorem exF_ok {n:Nat} {ins:List (Int×Int)} {op N:Int} {R A:Nat} {z:Nat→Int} {C:Nat→Chn} (h:Zok n z) (hR:R<4) (hA:A<4):Zok n (exF ins op R A N z C).1:=by
 have two:∀x y,Zok n (zset (zset z (25+R) x) (25+A) y):=fun x y=>(h.set (by omega) (by omega) _).set (by omega) (by omega) _;unfold exF;simp only [];split
 ·exact h
 split
 ·exact h
 split
 ·split
  ·exact two _ _
  ·exact two _ _
 split
 ·exact two _ _
 split
 ·exact two _ _
 ·exact h.set (by omega) (by omega) _
theorem CodeQ.at {n k:Nat} {ci:Nat→Int} (h:CodeQ n k ci) {nx:Nat} (hlt:nx<n) (hne:¬isEx (ci (nx*4))):((0≤ci (nx*4)∧ci (nx*4)≤9)∨ci (nx*4)=15)∧(0≤ci (nx*4+1)∧ci (nx*4+1)<4)∧(0≤ci (nx*4+2)∧ci (nx*4+2)<4)∧(ci (nx*4)=8∨ci (nx*4)=9→0≤ci (nx*4+3)∧ci (nx*4+3)<n):=by
 obtain ⟨h1,h2,h3,h4,_⟩:=h nx hlt;refine ⟨?_,h2,h3,h4⟩;unfold isEx at hne;omega
theorem stepF_okAt {n:Nat} {ci z:Nat→Int} (hok:∀k:Nat,z 45=(k:Int)→k<n→((0≤ci (k*4)∧ci (k*4)≤9)∨ci (k*4)=15)∧(0≤ci (k*4+1)∧ci (k*4+1)<4)∧(0≤ci (k*4+2)∧ci (k*4+2)<4)∧(ci (k*4)=8∨ci (k*4)=9→0≤ci (k*4+3)∧ci (k*4+3)<n)) (h:Zok n z):match stepF n ci z with
  |.on _ _ z'=>Zok n z'
  |.broke _ z'=>z' 24=0:=by
 by_cases hz:z 45=n
 ·have e:stepF n ci z=.broke 3 (zset z 46 (IntKind.i64.wrap (z 46+1))):=by unfold stepF;rw [if_pos hz]
  rw [e];show zset z 46 _ 24=0;rw [zset_ne _ _ (by omega)];exact h.first
 ·have hf:=fetchedZ_ok h hz;have h1:=h.lo;have h2:=h.hi;obtain ⟨nx,hnx⟩:∃nx:Nat,(z 45).toNat=nx:=⟨_,rfl⟩;obtain ⟨ho,hR,hA,hj⟩:=hok nx (by omega) (by omega);unfold stepF;rw [if_neg hz];simp only [hnx];have hR':(ci (nx*4+1)).toNat<4:=by omega
  have hA':(ci (nx*4+2)).toNat<4:=by omega
  by_cases e1:ci (nx*4)=1
  ·rw [if_pos e1];exact hf.set (by omega) (by omega) _
  rw [if_neg e1];by_cases e2:ci (nx*4)=2
  ·rw [if_pos e2];exact hf.set (by omega) (by omega) _
  rw [if_neg e2];by_cases e3:ci (nx*4)=3
  ·rw [if_pos e3];exact hf.set (by omega) (by omega) _
  rw [if_neg e3];by_cases e4:ci (nx*4)=4
  ·rw [if_pos e4];exact hf.set (by omega) (by omega) _
  rw [if_neg e4];by_cases e5:ci (nx*4)=5
  ·rw [if_pos e5];by_cases h0:fetchedZ z (25+(ci (nx*4+2)).toNat)=0
   ·rw [if_pos h0];exact hf.first
   ·rw [if_neg h0];exact hf.set (by omega) (by omega) _
  rw [if_neg e5];by_cases e6:ci (nx*4)=6
  ·rw [if_pos e6];by_cases h0:fetchedZ z (25+(ci (nx*4+2)).toNat)<0∨16≤fetchedZ z (25+(ci (nx*4+2)).toNat)
   ·rw [if_pos h0];exact hf.first
   ·rw [if_neg h0];exact hf.set (by omega) (by omega) _
  rw [if_neg e6];by_cases e7:ci (nx*4)=7
  ·rw [if_pos e7];by_cases h0:fetchedZ z (25+(ci (nx*4+2)).toNat)<0∨16≤fetchedZ z (25+(ci (nx*4+2)).toNat)
   ·rw [if_pos h0];exact hf.first
   ·rw [if_neg h0];exact hf.set (by omega) (by omega) _
  rw [if_neg e7];by_cases e8:ci (nx*4)=8
  ·rw [if_pos e8];have:=hj (.inl e8);exact hf.jump (by omega) (by omega)
  rw [if_neg e8];by_cases e9:ci (nx*4)=9
  ·rw [if_pos e9];have:=hj (.inr e9);show Zok n (if _ then _ else _);split
   ·exact hf.jump (by omega) (by omega)
   ·exact hf
  rw [if_neg e9];by_cases e15:ci (nx*4)=15
  ·rw [if_pos e15];exact hf
  rw [if_neg e15];exact hf
theorem stepQ_ok {n k:Nat} {ci z:Nat→Int} {ins:List (Int×Int)} {C:Nat→Chn} {b:Nat} (hok:CodeQ n k ci) (h:Zok n z) (hl:LenQ k b C):match stepQ n ci ins z C with
  |.on _ _ z' C'=>Zok n z'∧LenQ k (b+1) C'
  |.broke _ z'=>z' 24=0:=by
 have h1:=h.lo;have h2:=h.hi;unfold stepQ;by_cases hx:z 45≠n∧isEx (ci ((z 45).toNat*4))
 ·rw [if_pos hx];obtain ⟨_,hR,hA,_,hN⟩:=hok (z 45).toNat (by omega);exact ⟨exF_ok (fetchedZ_ok h hx.1) (by omega) (by omega),exF_len hl hx.2 (fun e=>hN hx.2 e)⟩
 ·rw [if_neg hx];have:=stepF_okAt (n:=n) (ci:=ci) (z:=z) (fun nx hnx hlt=>hok.at hlt fun he=>hx ⟨by omega,by rw [hnx];exact he⟩) h;revert this;cases stepF n ci z with
  |on op e z'=>exact fun hz=>⟨hz,hl.le (by omega)⟩
  |broke y z'=>exact id
section
variable {L:Lot} {w0:World} {rn ls:List Row} {K:NetK} {C:Nat→Chn} {g cb co n cc:Nat} {num:Int} {inV:Value} {z ci:Nat→Int} {ins:List (Int×Int)}
theorem step_q {FS:World→Prop} (he:Evs L) (hW:NetW L w0 K) (hin:InR L w0 inV ins) (hln:ins.length≤1000) (hN:NR K rn C) (hs:Still L w0 cb) (hcode:∀j,j<n*4→w0.cell? ⟨cb,co+j,none⟩=some (.int .i64 (ci j))) (hn:n≤48) (hok:CodeQ n K.k ci) (hz:Zok n z) (hlen:LenQ K.k 1000000000 C) (w:World) (hF:KnL L w0 (cellQ K g num (codeV cb co n cc) z::rn) ls w):
  CallsE Try.prog L FS 83 #[.pointer (some ⟨g,0,none⟩),inV,.chan (some L.c)] w (stepQ n ci ins z C).sent
   (fun v w'=>∃op e z' C',stepQ n ci ins z C=.on op e z' C'∧v=.int .i64 op∧∃rn',NR K rn' C'∧KnL L w0 (cellQ K g num (codeV cb co n cc) z'::rn') ls w')
   (fun ch w'=>∃y z',stepQ n ci ins z C=.broke y z'∧ch=brk y∧KnL L w0 (cellQ K g num (codeV cb co n cc) z'::rn) ls w'):=by
 have h1:=hz.lo;have h2:=hz.hi;by_cases hx:z 45≠n∧isEx (ci ((z 45).toNat*4))
 ·obtain ⟨nx,hnx⟩:∃nx:Nat,z 45=nx:=⟨(z 45).toNat,by omega⟩;have ht:(z 45).toNat=nx:=by omega
  have hlt:nx<n:=by omega
  obtain ⟨hop,⟨r0,r4⟩,⟨a0,a4⟩,_,hNk⟩:=hok nx hlt;obtain ⟨R,hR⟩:∃R:Nat,ci (nx*4+1)=R:=⟨(ci (nx*4+1)).toNat,by omega⟩;obtain ⟨A,hA⟩:∃A:Nat,ci (nx*4+2)=A:=⟨(ci (nx*4+2)).toNat,by omega⟩;have hRt:(ci (nx*4+1)).toNat=R:=by omega
  have hAt:(ci (nx*4+2)).toNat=A:=by omega
  have hx2:=hx.2;rw [ht] at hx2;have e:stepQ n ci ins z C=.on (ci (nx*4)) none (exF ins (ci (nx*4)) R A (ci (nx*4+3)) (zset (zset z 46 (IntKind.i64.wrap (z 46+1))) 45 ((nx:Int)+1)) C).1 (exF ins (ci (nx*4)) R A (ci (nx*4+3)) (zset (zset z 46 (IntKind.i64.wrap (z 46+1))) 45 ((nx:Int)+1)) C).2:=by
   unfold stepQ;rw [if_pos hx];simp only [ht,hRt,hAt,fetchedZ]
  refine (step_exq he hW hin hln hN hs hcode nx hnx hlt hn R A (by omega) (by omega) _ hx2 rfl hR hA _ rfl (fun h=>hNk hx2 h) (fun i hi=>⟨(hlen i hi).1,(hlen i hi).2⟩) (.chan (some L.c)) w hF).quiet.mono (by rw [e];rfl) (fun v w' x=>⟨_,none,_,_,e,x.1,x.2⟩) (fun _ _ x=>x.elim)
 ·have e:stepQ n ci ins z C=(stepF n ci z).with C:=by unfold stepQ;rw [if_neg hx]
  rw [e,Out.with_sent];refine (step_at (rows:=(cellQ K g num (codeV cb co n cc) z::rn)++ls) (ic:=0) he.ins rfl hs hcode hn (fun nx hnx hlt=>hok.at hlt fun h=>hx ⟨by omega,by rw [hnx];exact h⟩) ⟨h1,h2⟩ inV w hF).mono rfl (fun v w' ⟨op,x,z',e1,e2,e3⟩=>⟨op,x,z',C,by rw [e1];rfl,e2,rn,hN,e3⟩) (fun ch w' ⟨y,z',e1,e2,e3⟩=>⟨y,z',by rw [e1];rfl,e2,e3⟩)
end
structure Prg where
 n:Nat
 ci:Nat→Int
 num:Int
 fr:Nat→Int
 ins:List (Int×Int)
def runQ (p:Prg):Nat→(Nat→Int)→(Nat→Chn)→List Value×Int×(Nat→Int)×(Nat→Chn)
 |0,z,C=>([],2,z,C)
 |k+1,z,C=>match stepQ p.n p.ci p.ins z C with
  |.on op e z' C'=>if op=0 then ((OutQ.on op e z' C').sent,1,z',C') else ((OutQ.on op e z' C').sent++(runQ p k z' C').1,(runQ p k z' C').2)
  |.broke y z'=>([brokeE y (anewZ z' 47)],3,anewZ z',forgetF p.fr p.num C)
def tailQ (p:Prg) (k:Nat) (z:Nat→Int) (C:Nat→Chn) (vs:List Value):List Value:=match stepQ p.n p.ci p.ins z C with
 |.on op _ z' C'=>if op=0 then vs else (runQ p k z' C').1++vs
 |.broke y z'=>brokeE y (anewZ z' 47)::vs
theorem runQ_sent (p:Prg) (k:Nat) (z:Nat→Int) (C:Nat→Chn) (vs:List Value):(runQ p (k+1) z C).1++vs=(stepQ p.n p.ci p.ins z C).sent++tailQ p k z C vs:=by
 unfold tailQ;simp only [runQ];cases stepQ p.n p.ci p.ins z C with
 |on op e z' C'=>
  by_cases h:op=0
  ·simp [h]
  ·simp [h,List.append_assoc]
 |broke y z'=>rfl
theorem runQ_ok {p:Prg} {kc:Nat} (hok:CodeQ p.n kc p.ci):∀(k b:Nat) (z:Nat→Int) (C:Nat→Chn),Zok p.n z→LenQ kc b C→Zok p.n (runQ p k z C).2.2.1∧LenQ kc (b+k) (runQ p k z C).2.2.2
 |0,_,_,_,h,hl=>⟨h,hl⟩
 |k+1,b,z,C,h,hl=>by
  have:=stepQ_ok (ins:=p.ins) hok h hl;simp only [runQ];revert this;cases stepQ p.n p.ci p.ins z C with
  |on op e z' C'=>
   rintro ⟨hz,hc⟩;by_cases h0:op=0
   ·simp only [h0,if_true];exact ⟨hz,hc.le (by omega)⟩
   ·simp only [h0,if_false];have:=runQ_ok hok k (b+1) z' C' hz hc;exact ⟨this.1,this.2.le (by omega)⟩
  |broke y z'=>exact fun hz=>⟨anewZ_ok hz,(hl.forget _ _).le (by omega)⟩
def goQ (p:Prg) (budget:Nat) (z:Nat→Int) (C:Nat→Chn):List Value×Int×(Nat→Int)×(Nat→Chn):=if z 3<z 47 then ([],4,z,C) else runQ p budget z C
def windowQ (p:Prg) (budget:Nat) (z:Nat→Int) (C:Nat→Chn):List Value×(Nat→Int)×(Nat→Chn):=
 ((goQ p budget z C).1++[closedE (IntKind.i64.wrap ((goQ p budget z C).2.2.1 46-z 46)) (goQ p budget z C).2.1],(goQ p budget z C).2.2)
theorem windowQ_ok {p:Prg} {kc:Nat} (hok:CodeQ p.n kc p.ci) (budget:Nat) {b:Nat} {z:Nat→Int} {C:Nat→Chn} (hz:Zok p.n z) (hl:LenQ kc b C):Zok p.n (windowQ p budget z C).2.1∧LenQ kc (b+budget) (windowQ p budget z C).2.2:=by
 show Zok p.n (goQ p budget z C).2.2.1∧LenQ kc (b+budget) (goQ p budget z C).2.2.2;unfold goQ;split
 ·exact ⟨hz,hl.le (by omega)⟩
 ·exact runQ_ok hok budget b z C hz hl
section
variable {L:Lot} {w0:World} {rows rows2:List Row} {ic g nb:Nat} {num:Int} {code:Value} {z:Nat→Int}
theorem startAnewG_x (hi0:rows[ic]?=some (cellRow g num (.pointer (some ⟨nb,0,none⟩)) code z)) (hi:rows2[ic]?=some (cellRow g num (.pointer (some ⟨nb,0,none⟩)) code z)) (hfg:∀w,Kn L w0 rows w→CallsX Try.prog false L.R1 L.D1 87 #[.pointer (some ⟨nb,0,none⟩),.int .i64 num] w (fun _ w'=>Kn L w0 rows2 w') (fun _ _=>False)) (w:World) (hF:Kn L w0 rows w):
  CallsX Try.prog false L.R1 L.D1 82 #[.pointer (some ⟨g,0,none⟩)] w (fun _ w'=>Kn L w0 (rows2.set ic (cellRow g num (.pointer (some ⟨nb,0,none⟩)) code (anewZ z))) w') (fun _ _=>False):=by
 replace hF:=hF.lay;have hk:(base 82).kind≠.early:=by simp [base]
 refine CallsX.intro L.terms1 #[.pointer (some ⟨g,0,none⟩),undef,undef,undef,undef,undef,undef,undef,undef,undef,undef,undef,undef,undef,undef,undef,undef,undef,undef,undef,undef,undef,undef,undef,undef] Try.func82 rfl (by kernel_rfl) fun cl cs Stop Ret _=>?_;repeat refine .c1 L.terms1 rfl ?_
 refine GoesW.drawnN (S:=KnL L w0 rows []) (Die:=fun _ _=>False) L.terms1 L.draws1 9 (by rfl) hk (by kernel_rfl) (fun _ _ _ h=>h) (fun _ _ _ h=>h.elim) fun w1 hR=>?_;replace hF:=(hF.rely hR).rely (Turn.drew _);clear hR;refine anyD_tk L.terms1 0 (fun _ _ h r=>KnL.rely h r) hF ?_;try walk_nrm
 refine anyD_tk L.terms1 1 (fun _ _ h r=>KnL.rely h r) hF ?_;try walk_nrm
 refine anyD_tk L.terms1 2 (fun _ _ h r=>KnL.rely h r) hF ?_;try walk_nrm
 refine anyD_tl L.terms1 3 rfl (fun _ _ h r=>KnL.rely h r) hF ?_ fun _ hw=>⟨run_eq_of (by
  intro K_ hK;have hc:World.cell? _ ⟨g,1,none⟩=some (.pointer (some ⟨nb,0,none⟩)):=hw.cell hi0 (show 1<48 by omega);go_simp;exact hK),by
  have hc:World.cell? _ ⟨g,1,none⟩=some (.pointer (some ⟨nb,0,none⟩)):=hw.cell hi0 (show 1<48 by omega);refine hw.looks hi0 ?_;co_evs (exact ⟨_,rfl⟩)⟩
 try walk_nrm
 refine anyD_tk L.terms1 4 (fun _ _ h r=>KnL.rely h r) hF ?_;try walk_nrm
 refine anyD_tk L.terms1 5 (fun _ _ h r=>KnL.rely h r) hF ?_;try walk_nrm
 refine anyD_tk L.terms1 6 (fun _ _ h r=>KnL.rely h r) hF ?_;try walk_nrm
 refine anyD_tl L.terms1 7 rfl (fun _ _ h r=>KnL.rely h r) hF ?_ fun _ hw=>⟨run_eq_of (by
  intro K_ hK;have hc:World.cell? _ ⟨g,0,none⟩=some (.int .i64 num):=hw.cell hi0 (show 0<48 by omega);go_simp;exact hK),by
  have hc:World.cell? _ ⟨g,0,none⟩=some (.int .i64 num):=hw.cell hi0 (show 0<48 by omega);refine hw.looks hi0 ?_;co_evs (exact ⟨_,rfl⟩)⟩
 try walk_nrm
 refine anyD_call (i:=8) (by first|kernel_rfl|decide +kernel) rfl (by rfl) rfl Try.func87 (by rfl) rfl #[.pointer (some ⟨nb,0,none⟩),.int .i64 num] (by kernel_rfl) (hfg _ hF.drop) ?_;intro v w2 hF2;replace hF:KnL L w0 rows2 [] w2:=Kn.lay hF2;clear hF2;refine ⟨.inr (lastOp_of rfl (by first|kernel_rfl|decide +kernel)),?_⟩;try walk_nrm
 refine anyD_done (by first|kernel_rfl|decide +kernel) ?_ _;repeat refine .c1 L.terms1 rfl ?_
 replace hF:=hF.drop;refine .regionL L.terms1 [0,1,2,3,4,5,6,7] (by rfl) ?_;iterate 4 (refine .opV L.terms1 rfl (by rfl) hk ?_;try walk_nrm)
 refine GoesW.op rfl (by rfl) hk ?_;intro w1 hR K_ hK;replace hF:=hF.rely hR;clear hR;have hsz:(Try.prog.info? 161).map (·.size)=some (firstL z).length:=by rw [firstL_length];exact size_state
 rw [run_load_mid (b:=g) (off:=4) rfl rfl (firstL z) _ (firstL_range hF hi) Try.underlying161 rfl hsz];refine hK _ _ ⟨?_,?_⟩
 ·refine hF.doesAny hi (.refl _) rfl fun e he=>?_;exact ev_load_mid (b:=g) (off:=4) rfl rfl (firstL z) _ (firstL_range hF hi) Try.underlying161 rfl hsz e (mem_listed he)
 clear hK K_;try walk_nrm
 iterate 2 (refine .opV L.terms1 rfl (by rfl) hk ?_;try walk_nrm)
 refine GoesW.op rfl (by rfl) hk ?_;intro w1 hR K_ hK;replace hF:=hF.rely hR;clear hR;have hsz2:(Try.prog.info? 161).map (·.size)=some (firstL z).toArray.size:=by rw [List.size_toArray,firstL_length];exact size_state
 have hone:=all_oneCell_toArray (firstL_one z);have hrow:=(hF.row ic _ hi).rw.row;have hth:w1.there g 25 (firstL z).toArray.size:=fun j hj=>by
  rw [List.size_toArray,firstL_length] at hj;exact ⟨by rw [hrow.cell (j:=25+j) (show 25+j<48 by omega)];rfl,hrow.frozen _⟩
 obtain ⟨hF2,ht2,hc2⟩:=Kn.setCells (firstL z) 25 _ _ _ hF hi;rw [run_store_mid (b:=g) (off:=25) rfl rfl (firstL z).toArray rfl hth hsz2 hone];refine hK _ _ ⟨?_,?_⟩
 ·refine hF.doesAny hi ht2 hc2 fun e he=>?_;exact ev_store_mid (b:=g) (off:=25) rfl rfl (firstL z).toArray rfl 48 _ _ hrow (by rw [List.size_toArray,firstL_length];omega) hsz2 hone e (mem_listed he)
 clear hK K_ hth hrow hone hsz2 ht2 hc2;replace hF:Kn L w0 (rows2.set ic (cellRow g num (.pointer (some ⟨nb,0,none⟩)) code (backZ z))) _:=hF2.congr hi rfl rfl rfl fun j _=>anew_row j;clear hF2;try walk_nrm
 replace hF:=hF.lay;repeat refine .c1 L.terms1 rfl ?_
 refine .regionL L.terms1 [0,1,2,3,4,5,6,7] (by rfl) ?_;iterate 3 (refine .opV L.terms1 rfl (by rfl) hk ?_;try walk_nrm)
 refine .op rfl (by rfl) hk fun w1 hR K_ hK=>?_;replace hF:=hF.rely hR;clear hR;have hc:World.cell? _ ⟨g,47,none⟩=some (.int .i64 (backZ z 47)):=KnL.cz hi hF (by omega) (by omega);rw [show backZ z 47=z 47 from rfl] at hc;go_simp;try (unfold stored;go_simp)
 refine hK _ _ ⟨?_,?_⟩
 ·refine KnL.clooks hi hF ?_;co_evs (exact ⟨_,rfl⟩)
 clear hK K_;clear hc;try walk_nrm
 iterate 3 (refine .opV L.terms1 rfl (by rfl) hk ?_;try walk_nrm)
 refine .op rfl (by rfl) hk fun w1 hR K_ hK=>?_;replace hF:=hF.rely hR;clear hR;have hc:World.cell? _ ⟨g,47,none⟩=some (.int .i64 (backZ z 47)):=KnL.cz hi hF (by omega) (by omega);rw [show backZ z 47=z 47 from rfl] at hc;have hz2:World.frozen? _ ⟨g,47,none⟩=false:=KnL.cfz hi hF 47;go_simp;try (unfold stored;go_simp)
 refine hK _ _ ⟨?_,?_⟩
 ·refine KnL.cdoes hi hF 47 _ ?_;co_evs (exact rfl)
 clear hK K_;clear hc hz2;replace hF:=KnL.cset hi hF (j:=47) (by omega) (IntKind.i64.wrap (z 47+1));try walk_nrm
 repeat refine .c1 L.terms1 rfl ?_
 refine GoesW.fin L.terms1 ?_;refine Ret _ _ _ _ rfl (resultsW_none L.terms1 (by rfl) _) ?_;have e:zset (backZ z) 47 (IntKind.i64.wrap (z 47+1))=anewZ z:=funext fun j=>anew_zset z j;rw [e] at hF;exact hF.drop
end
section
variable {L:Lot} {w0:World} {rn ls:List Row} {K:NetK} {C:Nat→Chn} {g:Nat} {num:Int} {code:Value} {z:Nat→Int}
theorem startAnew_q (he:Evs L) (hW:NetW L w0 K) (hN:NR K rn C) (w:World) (hF:KnL L w0 (cellQ K g num code z::rn) ls w):
  CallsX Try.prog false L.R1 L.D1 82 #[.pointer (some ⟨g,0,none⟩)] w (fun _ w'=>∃rn',NR K rn' (forgetF K.fr num C)∧KnL L w0 (cellQ K g num code (anewZ z)::rn') ls w') (fun _ _=>False):=by
 obtain ⟨a,ce,n0,ha⟩:=hW.n0;by_cases hk0:K.k=0
 ·refine (startAnewG_x (rows:=(cellQ K g num code z::rn)++ls) (rows2:=(cellQ K g num code z::rn)++ls) (ic:=0) rfl rfl (fun w hF=>forget_x a ce hW.sn (by rw [n0,hk0]) num w hF) w hF).to fun v w' h=>⟨rn,fun h0=>absurd h0 (by omega),h⟩
 ·have hk:0<K.k:=by omega
  have ha:=ha hk;subst ha;obtain ⟨fq,fs,p,hx⟩:=hN hk;obtain ⟨cq,n1⟩:=hW.n1 hk;obtain ⟨cs_,n2⟩:=hW.n2 hk;have l0:=(List.getElem?_eq_some_iff.1 hx.q).1;have l1:=(List.getElem?_eq_some_iff.1 hx.s).1;have q1:((cellQ K g num code z::rn)++ls)[1]?=some (rowQ K fq):=by
   rw [show (cellQ K g num code z::rn)++ls=cellQ K g num code z::(rn++ls) from rfl,List.getElem?_cons_succ,List.getElem?_append_left l0];exact hx.q
  have s1:((cellQ K g num code z::rn)++ls)[2]?=some (rowS' K fs):=by
   rw [show (cellQ K g num code z::rn)++ls=cellQ K g num code z::(rn++ls) from rfl,List.getElem?_cons_succ,List.getElem?_append_left l1];exact hx.s
  have hfx:=hx.forget num;have e2:frows ((cellQ K g num code z::rn)++ls) 1 2 (rowQ K fq) (rowS' K fs) K.fr num K.k=(cellQ K g num code z::((rn.set 0 ((rowQ K fq).forgetQ K.fr num K.k)).set 1 ((rowS' K fs).forgetS K.fr num K.k)))++ls:=by
   unfold frows;rw [List.set_append_left _ _ (by simp;omega),List.set_append_left _ _ (by simp;omega)];rfl
  refine (startAnewG_x (rows:=(cellQ K g num code z::rn)++ls) (rows2:=frows ((cellQ K g num code z::rn)++ls) 1 2 (rowQ K fq) (rowS' K fs) K.fr num K.k) (ic:=0) rfl (by rw [e2];rfl) (fun w hF=>(forgetN_x (iq:=1) (is:=2) he.ends q1 s1 (by omega) hW.hqm hW.hsm hW.sn n0 n1 n2 (hW.se hk) hW.e0 hW.e1 hW.hk w hF).to fun v w' h=>h.2) w hF).to fun v w' h=>?_;rw [e2] at h;exact ⟨_,fun _=>⟨_,_,_,hfx⟩,h⟩
end
end Go.Proofs.Ytdoghgnifkgfdaa.Mute
