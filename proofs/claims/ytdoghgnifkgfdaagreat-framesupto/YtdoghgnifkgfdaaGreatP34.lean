import Derived.Test.YtdoghgnifkgfdaaGreatP00
import Derived.Test.YtdoghgnifkgfdaaGreatP33
set_option maxRecDepth 100000
set_option maxHeartbeats 16000000
open Option renaming none->Ai,some->yi
open Go renaming World->ui,Value->ti,undef->ri
open Bool renaming true->ji,false->gi
namespace Go.Proofs.YtdoghgnifkgfdaaGreat.Mute
open Tryz Go Go.Conc Go.RowKit
section
variable {w W:ui}{k:Vu}{r:RK}{Q:Nat->RC}{m:Nat->Nat}{xs:Nat->List ti}{n:Nat}{nl:Nat->List (Int×Int)}{Ls:Nat->Ln}{kind fr:Nat->Int}{F:Int}{inV:ti}{il:List (Int×Int)}{C:Nat->Jl}
theorem yn.refl(h:Tn w k r Q m xs)(hn:n<k.nC):yn w r.Gc k.nC n Q (Q n) (m n) (xs n) w:=
 ⟨h.row.congr fun j _=>by
  unfold Sj;by_cases e:j/26=n
  ·rw[e,Oi]
  ·rw[cj _ _ e],ak.refl _ _,h.own n hn,fun _ x=>.inl x⟩
theorem yn.cg{w:ui}{Gc nC m:Nat}{c c':RC}{xs:List ti}(h:yn w Gc nC n Q c m xs W)(he:∀j,Et c' j=Et c j)(hv:c'.v=c.v):yn w Gc nC n Q c' m xs W:=
 ⟨h.row.congr fun j _=>by
  unfold Sj;by_cases e:j/26=n
  ·rw[e,Oi,Oi,he]
  ·rw[cj _ _ e,cj _ _ e],h.but,by rw[hv];exact h.own,fun b hb=>h.blk b (by rw[<-hv];exact hb)⟩
theorem yn.fresh{w':ui}{Gc nC m:Nat}{c c':RC}{xs:List ti}(h:yn w Gc nC n Q c m xs W)(hg:W.grownBy w' (yi Gc))(hr:Ei w' Gc (nC*26) 131 (Sj (fj Q n c')))(hv:c'.v=c.v):yn w Gc nC n Q c' m xs w':=by
 refine⟨hr,⟨hg.os.trans h.but.os,hg.tape.trans h.but.tape,hg.output.trans h.but.output,Nat.le_trans h.but.size hg.size,fun k hk hn=>?_⟩,?_,fun b hb=>h.blk b (by rw[<-hv];exact hb)⟩
 ·rw[hg.block k (Nat.lt_of_lt_of_le hk h.but.size) (fun e=>hn (.inl (Option.some.inj e)))];exact h.but.block k hk hn
 ·rw[hv];exact Rk h.own fun b hb=>hg.block b (Io h.own hb) (fun e=>h.ne (by rw[<-Option.some.inj e];exact hb))
theorem vG{c c':RC}(h1:∀j,(25<=j/\j<46)\/j=47->c'.z j=c.z j)(h2:c'.v=c.v)(h3:c'.s=c.s)(h4:c'.b=c.b)(h5:c'.nt=c.nt)(j:Nat):Et c' j=Et c j:=by
 obtain⟨z,s,v,b,nt⟩:=c;obtain⟨z',s',v',b',YS⟩:=c';simp only at h1 h2 h3 h4 h5;subst h2 h3 h4 h5;exact Ov (c:=⟨z,s',v',b',YS⟩) h1 j
theorem gR{z:Nat->Int}{lim:Int}{nG:Nat}{img:Nat->Int}(_qp0:nG<=16)(hz:∀j,3<=j->j<25->z j=qt lim nG img j)(x:Int)(hx:IntKind.i64.wrap (z 47+1)=x)(j:Nat)(hj:(25<=j/\j<46)\/j=47):Uk z j=Dw nG img (Ji z 47 x) j:=by
 unfold Uk Dw;by_cases e:j=47
 ·subst e;rw[if_pos rfl,if_neg E0,jo,hx]
 ·have h1:25<=j/\j<46:=by omega
  rw[if_neg e,if_pos h1,if_pos h1,hz _ E0 E0];unfold qt;rw[if_neg E0];by_cases h2:29<=j/\j<29+nG
  ·rw[if_pos E0,if_pos h2,show j-21-8=j-29 by omega]
  ·rw[if_neg E0,if_neg E0,if_neg h2]
def zp(k:Vu)(n:Nat)(fr:Nat->Int)(ins:List (Int×Int)):fF:=⟨k.n n,k.ci n,n,fr,ins⟩
theorem zZ{Gc nC m:Nat}{z0 z:Nat->Int}{Vz s23 s0 x lim:Int}{j nG:Nat}{img:Nat->Int}{v':ti}{xs:List ti}{evs:List ti}
  (h:yn w Gc nC n Q ⟨Dw nG img (Ji z 47 Vz),s23,v',decide (lim<Vz),.slice Ai 0 0⟩ (m+evs.length+1+1) (xs++evs.flatMap Qj++[.int .i64 2,.int .i64 x,.int .i64 Vz]++[.int .i64 3,.int .i64 j,.int .i64 3]) W)
  (hG:nG<=16)(hf:∀j,3<=j->j<25->z0 j=qt lim nG img j)(ho:∀i,i<25\/i=47->z i=z0 i)(h46:z 46=IntKind.i64.wrap (z0 46+j))(Hw:s0=z0 46)(hb:IntKind.i64.wrap (z 47+1)=Vz)(hs:IntKind.i64.wrap (s0+j)=s23):
  yn w Gc nC n Q ⟨Uk z,Uk z 46,v',decide (Uk z 3<Uk z 47),.slice Ai 0 0⟩ (m+(evs++[au x (Uk z 47)]++[Ho j 3]).length) (xs++(evs++[au x (Uk z 47)]++[Ho j 3]).flatMap Qj) W:=by
 have e47:Uk z 47=Vz:=by rw[<-hb];rfl
 have e46:Uk z 46=z 46:=rfl;have e3:Uk z 3=lim:=by
  have:Uk z 3=z 3:=rfl;rw[this,ho 3 E0,hf 3 E0 E0];rfl
 have:=h.cg (c':=⟨Uk z,Uk z 46,v',decide (Uk z 3<Uk z 47),.slice Ai 0 0⟩) (vG (fun j hj=>gR hG (fun j h3 bO=>(ho j (.inl bO)).trans (hf j h3 bO)) Vz hb j hj) rfl (by show Uk z 46=s23;rw[e46,h46,<-hs,Hw]) (by show decide (Uk z 3<Uk z 47)=decide (lim<Vz);rw[e3,e47]) rfl) rfl;rw[e47]at this ⊢;have el:m+(evs++[au x Vz]++[Ho j 3]).length=m+evs.length+1+1:=by simp[Nat.add_assoc]
 have ex:xs++(evs++[au x Vz]++[Ho j 3]).flatMap Qj=xs++evs.flatMap Qj++[.int .i64 2,.int .i64 x,.int .i64 Vz]++[.int .i64 3,.int .i64 j,.int .i64 3]:=by
  simp[List.flatMap_append,au,Ho,Qj,List.append_assoc]
 rw[el,ex];exact nh
theorem r50{ins:List (Int×Int)}{nD:Nat}(h:Tn w k r Q m xs)(hN:Om w k.nC r Q nl Ls F inV il)(tN:Dl r.kc kind fr nl Ls F C)(Dy:∀c,c<r.kc->0<=fr c)(hn:n<k.nC)(hz:Fv (k.n n) (Q n).z)(hs:(Q n).s=(Q n).z 46)(hb:(Q n).b=decide ((Q n).z 3<(Q n).z 47))(h46:IntKind.i64.wrap ((Q n).z 46)=(Q n).z 46)(budget:Nat)(hbu:budget<=200)(hm:m n+300<=1000000000)
  (yQ:TC n kind fr nD (k.n n) (k.ci n))(Pm:∀N:Int,0<=N->N<nD->Cm il N=Cm ins N)(hl:(nl n).length+300<=1000000000)(hF:0<=F/\F<=1000000000000)(TQ:Ro r.kc C):
  Calls prog 74 #[.pointer (yi ⟨r.Kb,0,Ai⟩),.int .i64 n,.int .i64 budget] w fun e w'=>e=.returned (.tuple #[])/\
   dt w k.nC r n Q nl Ls kind fr F inV il (lj (zp k n fr ins) budget (Q n).z C).2.2 (lj (zp k n fr ins) budget (Q n).z C).2.1 ((lj (zp k n fr ins) budget (Q n).z C).2.1 46) (decide ((lj (zp k n fr ins) budget (Q n).z C).2.1 3<(lj (zp k n fr ins) budget (Q n).z C).2.1 47)) (m n+(lj (zp k n fr ins) budget (Q n).z C).1.length) (xs n++(lj (zp k n fr ins) budget (Q n).z C).1.flatMap Qj) budget w':=by
 have AZ:Hid (Om w k.nC r Q nl Ls F inV il/\Dl r.kc kind fr nl Ls F C/\Ro r.kc C):=⟨hN,tN,TQ⟩;have HST:Hid ((∀c,c<r.kc->0<=fr c)/\TC n kind fr nD (k.n n) (k.ci n)/\(∀N:Int,0<=N->N<nD->Cm il N=Cm ins N)/\(nl n).length+300<=1000000000/\0<=F/\F<=1000000000000):=⟨Dy,yQ,Pm,hl,hF⟩;clear hN tN TQ Dy yQ Pm hl hF;have H:Hid (Tn w k r Q m xs):=h;have h4:=h.h4;have HS1:Hid ((Q n).s=(Q n).z 46):=hs;have Xq:Hid ((Q n).b=decide ((Q n).z 3<(Q n).z 47)):=hb;have H46:Hid (IntKind.i64.wrap ((Q n).z 46)=(Q n).z 46):=h46;clear hs hb h46;have A0:Hid (yn w r.Gc k.nC n Q (Q n) (m n) (xs n) w):=yn.refl h hn;by_cases wm:(Q n).z 3<(Q n).z 47
 ·have hF:lj (zp k n fr ins) budget (Q n).z C=([Ho (IntKind.i64.wrap ((Q n).z 46-(Q n).z 46)) 4],(Q n).z,C):=by
   unfold lj uy;rw[if_pos wm];rfl
  have h0w:IntKind.i64.wrap ((Q n).z 46-(Q n).z 46)=0:=by rw[Int.sub_self];rfl
  rw[h0w]at hF;rw[hF];have e25:w.cell? ⟨r.Gc,n*26+23+2,Ai⟩=yi (.bool ji):=by
   exact Vg
  have e22:w.cell? ⟨r.Gc,n*26+22,Ai⟩=yi (Q n).v:=Ei.rat h.row (n:=n) (i:=22) E0 E0 E0;have hni:(n:Int)<(k.nC:Int):=E0;clear h hF h0w;generalize hQv:(Q n).v=v at *;have HQ:Hid ((Q n).v=v):=hQv;have HOW:Hid (∀o,(w.alloc o).ownsRow 0 111 3 v (m n) (xs n)):=fun o=>own_below (by rw[<-hQv];exact A0.out.own) ((Below.refl _ _).alloc (Nat.le_refl _) _);clear hQv
  go_enter func74,ntmps74
  go_wp2_with (at_builtin;refine kj _ rfl _ _ 61 rfl 0 111 _ 3 24 underlying61 Dn rfl E0 v (m n) (xs n) rfl K5 w.heap.size [.int .i64 3,.int .i64 0,.int .i64 4] 111 rfl rfl J2 D2 Y1 E0 E0 ?_)
  intro g cap w1 Oj Ti hat zo;have HL:Hid _:=yn.log (a:=n*26+22) A0.out (by rw[HQ.out];exact Ti) Oj (by rw[HQ.out];exact hat.imp id (fun e=>M4)) rfl;have f1:w1.cell? ⟨r.Gc,n*26+22,Ai⟩=yi v:=(Ei.rat HL.out.1 (n:=n) (i:=22) E0 rfl E0).trans (by rw[Oi];exact congrArg yi HQ.out);have f2:=HL.out.1.frozen (n*26+22);clear Oj Ti hat zo;go_wp2_with fail
  (try simp only[Exit.inBlock,Exit.then])
  refine bodyPost_ret (results_none rfl _ _ _) rfl ?_;exact⟨rfl,((HL.out.2.cg (c':=⟨(Q n).z,(Q n).z 46,.slice (yi ⟨g,0,Ai⟩) (m n+1:Nat) cap,decide ((Q n).z 3<(Q n).z 47),(Q n).nt⟩) (vG (fun _ _=>rfl) rfl HS1.out.symm Xq.out.symm rfl) rfl).post (l':=nl n) AZ.out.1 H.out hn (.inl ⟨rfl,rfl⟩) (by rw[Zn];exact AZ.out.2.1)).le (Nat.zero_le _)⟩
 ·have e25:w.cell? ⟨r.Gc,n*26+23+2,Ai⟩=yi (.bool gi):=by
   exact Vg
  have hni:(n:Int)<(k.nC:Int):=E0;have HOK:Hid (uq (k.n n) r.kc (k.ci n)):=h.ok n hn;have L0:Hid (BA (zp k n fr ins) budget (Q n).z C 0 0 (Q n).z C []):=BA.start hz H46.out;clear h
  go_enter func74,ntmps74
  go_wp2_with fail
  go_loopw [7,8] (fun s e wr=>∃(j:Nat)(x:Int),j<=budget/\s=.int .i64 j/\e=.int .i64 x/\∃z D evs v nt l L,Hid (BA (zp k n fr ins) budget (Q n).z C j x z D evs)/\Hid (fJ w r.Gc r.Lb k.nC n Q {Q n with z:=z,v:=v,nt:=nt} (m n+evs.length) (xs n++evs.flatMap Qj) wr)/\Hid (Om wr k.nC r (fj Q n {Q n with z:=z,v:=v,nt:=nt}) (fj nl n l) L F inV il/\Dl r.kc kind fr (fj nl n l) L F D/\Ro r.kc D/\l.length<=(nl n).length+j/\∀c b,c<r.kc->(L c).wv.ownBlock=yi b->(Ls c).wv.ownBlock=yi b\/w.heap.size<=b)) (fun s _ _=>budget-(intOf s).toNat)
  case atStart=>
   refine⟨0,0,Nat.zero_le _,rfl,rfl,(Q n).z,C,[],(Q n).v,(Q n).nt,nl n,Ls,L0,?_,?_⟩
   ·show fJ w r.Gc r.Lb k.nC n Q (Q n) (m n+[].length) (xs n++[]) w;exact⟨A0.out.row,ak.refl _ _,by simpa using A0.out.own,fun _ x=>.inl x,fun _ x=>.inl x⟩
   ·show Om w k.nC r (fj Q n (Q n)) (fj nl n (nl n)) Ls F inV il/\Dl r.kc kind fr (fj nl n (nl n)) Ls F C/\Ro r.kc C/\_;rw[Zn,Zn];exact⟨AZ.out.1,AZ.out.2.1,AZ.out.2.2,E0,fun _ _ _ x=>.inl x⟩
  case round=>
   obtain⟨j,x,hj,rfl,rfl,z,D,evs,v,nt,l,L,HL,HA,qI⟩:=hrel;have HN:Hid (Tn wr k r (fj Q n {Q n with z:=z,v:=v,nt:=nt}) (fj m n (m n+evs.length)) (fj xs n (xs n++evs.flatMap Qj))):=H.out.after AZ.out.1 hn HA.out (fun i _ h2=>HL.out.old i (.inl h2));have vm:=HL.out.ev;by_cases hgo:j<budget/\x=0
   ·obtain⟨Wi,rfl⟩:=hgo;have hzk:Fv (k.n n) z:=by
     rcases HL.out.run with⟨_,h1,_⟩|⟨h1,_⟩|⟨h1,_⟩
     ·exact h1
     ·omega
     ·omega
    have S:=KW (ins:=ins) (nD:=nD) HN.out qI.out.1 qI.out.2.1 hn (by rw[Oi];exact⟨hzk.lo,hzk.hi⟩) (by rw[Oi];omega) HST.out.2.1 HST.out.2.2.1 (by rw[Oi];have:=HST.out.2.2.2.1;have:=qI.out.2.2.2.1;omega) HST.out.2.2.2.2 (fun c hc=>by have:=qI.out.2.2.1 c hc;omega);simp only[Oi]at S;have HS:Hid _:=S;clear S;have FC:(j:Int)<(budget:Int):=E0;go_wp2_with fail
    refine Calls.mono HS.out ?_;rintro e w' ⟨rfl,V_⟩;have hP2:=dt.trans (nl:=nl) (Ls:=Ls) HA.out qI.out.2.2.2.1 qI.out.2.2.2.2 V_;obtain⟨v',YS,l',L',g0,g1,g2,g3,g4⟩:=hP2;have HA2:Hid (fJ w r.Gc r.Lb k.nC n Q {Q n with z:=(yq D (jk (k.n n) (k.ci n) ins z D)).2.1,v:=v',nt:=YS} (m n+(evs++(jk (k.n n) (k.ci n) ins z D).sent).length) (xs n++(evs++(jk (k.n n) (k.ci n) ins z D).sent).flatMap Qj) w'):=by
     rw[List.length_append,List.flatMap_append,<-Nat.add_assoc,<-List.append_assoc];exact g1
    have HL2:Hid (BA (zp k n fr ins) budget (Q n).z C (j+1) (yq D (jk (k.n n) (k.ci n) ins z D)).1 (yq D (jk (k.n n) (k.ci n) ins z D)).2.1 (yq D (jk (k.n n) (k.ci n) ins z D)).2.2 (evs++(jk (k.n n) (k.ci n) ins z D).sent)):=BA.step (p:=(zp k n fr ins)) HOK.out HL.out Wi;have OC:Hid (Om w' k.nC r (fj Q n {Q n with z:=(yq D (jk (k.n n) (k.ci n) ins z D)).2.1,v:=v',nt:=YS}) (fj nl n l') L' F inV il/\Dl r.kc kind fr (fj nl n l') L' F (yq D (jk (k.n n) (k.ci n) ins z D)).2.2/\Ro r.kc (yq D (jk (k.n n) (k.ci n) ins z D)).2.2/\l'.length<=(nl n).length+(j+1)/\∀c b,c<r.kc->(L' c).wv.ownBlock=yi b->(Ls c).wv.ownBlock=yi b\/w.heap.size<=b):=⟨g2,g3,kT HOK.out hzk qI.out.2.2.1,g0,g4⟩;clear g0 g1 g2 g3 g4 V_ HS HN HA HL qI;go_wp2_with fail;exact⟨⟨j+1,_,E0,J1,rfl,_,_,_,v',YS,l',L',HL2,HA2,OC⟩,U1⟩
   ·have HAr:Hid (yn wr r.Gc k.nC n (fj Q n {Q n with z:=z,v:=v,nt:=nt}) {Q n with z:=z,v:=v,nt:=nt} (m n+evs.length) (xs n++evs.flatMap Qj) wr):=⟨by rw[Yk];exact HA.out.row,ak.refl _ _,HA.out.own,fun b hb=>.inl (by rw[Oi];exact hb)⟩;have FIN:Hid (∀(c':RC)(l':List (Int×Int))(C2:Nat->Jl)(m':Nat)(xs':List ti)(w':ui),yn wr r.Gc k.nC n (fj Q n {Q n with z:=z,v:=v,nt:=nt}) c' m' xs' w'->((c'.nt=nt/\l'=l)\/(c'.nt=.slice Ai 0 0/\l'=[]))->Dl r.kc kind fr (fj nl n l') L F C2->dt w k.nC r n Q nl Ls kind fr F inV il C2 c'.z c'.s c'.b m' xs' budget w'):=fun c' l' C2 m' xs' w' h0 hc hR=>by
     have hp:=h0.post (l':=l') (C':=C2) qI.out.1 HN.out hn (by rw[Oi,Oi];exact hc) (by rw[Yk];exact hR);exact(dt.trans (nl:=nl) (Ls:=Ls) HA.out qI.out.2.2.2.1 qI.out.2.2.2.2 hp).le hj
    have HRD:Hid (Dl r.kc kind fr (fj nl n l) L F D/\Dl r.kc kind fr (fj nl n []) L F (Rn fr n D)):=⟨qI.out.2.1,by have:=qI.out.2.1.forget (n:=n) HST.out.1;rw[Yk]at this;exact this⟩;have HNx:Hid (∀W c m' xs',yn wr r.Gc k.nC n (fj Q n {Q n with z:=z,v:=v,nt:=nt}) c m' xs' W->(∀i,3<=i->i<25->c.z i=(Q n).z i)->Tn W k r (fj (fj Q n {Q n with z:=z,v:=v,nt:=nt}) n c) (fj (fj m n (m n+evs.length)) n m') (fj (fj xs n (xs n++evs.flatMap Qj)) n xs')):=fun W c m' xs' hA hz=>HN.out.Ni0 qI.out.1 hn hA (fun i h3 bO=>by rw[Oi,hz i h3 bO];exact(HL.out.old i (.inl bO)).symm);clear HN qI;generalize fj Q n {Q n with z:=z,v:=v,nt:=nt}=Qr at HAr FIN HNx;have e22:wr.cell? ⟨r.Gc,n*26+22,Ai⟩=yi v:=(Ei.rat HAr.out.row (n:=n) (i:=22) E0 rfl E0).trans I4;have e23:wr.cell? ⟨r.Gc,n*26+23,Ai⟩=yi (.int .i64 (Q n).s):=(Ei.rat HAr.out.row (n:=n) (i:=23) E0 rfl E0).trans I4;have f23:=HAr.out.row.frozen (n*26+23);have HA1:Hid (∀X,yn wr r.Gc k.nC n Qr {Q n with z:=z,v:=v,nt:=nt,s:=X} (m n+evs.length) (xs n++evs.flatMap Qj) (wr.setCell ⟨r.Gc,n*26+23,Ai⟩ (.int .i64 X))):=fun X=>HAr.out.s rfl X;have HOW:Hid (∀X o,((wr.setCell ⟨r.Gc,n*26+23,Ai⟩ (.int .i64 X)).alloc o).ownsRow 0 111 3 v (m n+evs.length) (xs n++evs.flatMap Qj)):=fun X o=>own_below (HA1.out X).own ((Below.refl _ _).alloc (Nat.le_refl _) _);have n_:IntKind.i64.wrap (z 46-(Q n).z 46)=j:=by
     rw[HL.out.s46,IntKind.wrap_i64,IntKind.wrap_i64];omega
    have WV:uy (zp k n fr ins) budget (Q n).z C=Fo (zp k n fr ins) budget (Q n).z C:=by unfold uy;rw[if_neg E0]
    rcases HL.out.run with⟨rfl,_,hr⟩|⟨rfl,hr⟩|⟨lP,hx3,hr⟩
    ·have hjb:j=budget:=by omega
     have hjn:¬((j:Int)<(budget:Int)):=E0;have fQ:lj (zp k n fr ins) budget (Q n).z C=(evs++[Ho j 2],z,D):=by
      unfold lj;rw[WV,hr,show budget-j=0 by omega];simp only[Fo,List.append_nil,n_]
     have HW:Hid (lj (zp k n fr ins) budget (Q n).z C=(evs++[Ho j 2],z,D)):=fQ;clear hr n_ WV hgo hjb fQ;go_wp2_with (at_builtin;refine kj _ rfl _ _ 61 rfl 0 111 _ 3 24 underlying61 Dn rfl E0 v (m n+evs.length) (xs n++evs.flatMap Qj) rfl (by exact HOW.out _ _) wr.heap.size [.int .i64 3,.int .i64 j,.int .i64 2] 111 rfl rfl Z3 D2 Y1 E0 E0 ?_);refine Uc fun g cap w1 r_ f1 f2=>?_;go_wp2_with fail
     (try simp only[Exit.inBlock,Exit.then])
     refine di ?_;refine⟨rfl,?_⟩;have:=FIN.out _ l D _ _ _ (r_.out.2.cg (c':=⟨z,z 46,.slice (yi ⟨g,0,Ai⟩) (m n+evs.length+1:Nat) cap,decide (z 3<z 47),nt⟩) (vG (fun _ _=>rfl) rfl Q7 (by rw[Xq.out,HL.out.old 3 E0,HL.out.old 47 E0]) rfl) rfl) (.inl ⟨rfl,rfl⟩) HRD.out.1;simpa[List.flatMap_append,Ho,Qj,Nat.add_assoc]using this
    ·have fQ:lj (zp k n fr ins) budget (Q n).z C=(evs++[Ho j 1],z,D):=by
      unfold lj;rw[WV,hr];simp only[n_]
     have HW:Hid (lj (zp k n fr ins) budget (Q n).z C=(evs++[Ho j 1],z,D)):=fQ;clear hr n_ WV hgo fQ;go_wp2_with (at_builtin;refine kj _ rfl _ _ 61 rfl 0 111 _ 3 24 underlying61 Dn rfl E0 v (m n+evs.length) (xs n++evs.flatMap Qj) rfl (by exact HOW.out _ _) wr.heap.size [.int .i64 3,.int .i64 j,.int .i64 1] 111 rfl rfl Z3 D2 Y1 E0 E0 ?_)
     all_goals
      refine Uc fun g cap w1 r_ f1 f2=>?_;go_wp2_with fail
      (try simp only[Exit.inBlock,Exit.then])
      refine di ?_;refine⟨rfl,?_⟩;have:=FIN.out _ l D _ _ _ (r_.out.2.cg (c':=⟨z,z 46,.slice (yi ⟨g,0,Ai⟩) (m n+evs.length+1:Nat) cap,decide (z 3<z 47),nt⟩) (vG (fun _ _=>rfl) rfl Q7 (by rw[Xq.out,HL.out.old 3 E0,HL.out.old 47 E0]) rfl) rfl) (.inl ⟨rfl,rfl⟩) HRD.out.1;simpa[List.flatMap_append,Ho,Qj,Nat.add_assoc]using this
    ·have fQ:lj (zp k n fr ins) budget (Q n).z C=(evs++[au x (Uk z 47)]++[Ho j 3],Uk z,Rn fr n D):=by
      unfold lj;rw[WV,hr];have:Uk z 46=z 46:=rfl;simp only[this,n_];rfl
     have HW:Hid (lj (zp k n fr ins) budget (Q n).z C=(evs++[au x (Uk z 47)]++[Ho j 3],Uk z,Rn fr n D)):=fQ;have e24:wr.cell? ⟨r.Gc,n*26+23+1,Ai⟩=yi (.int .i64 (z 47)):=(Ei.rat HAr.out.row (n:=n) (i:=24) E0 E0 E0).trans I4;have f24:=HAr.out.row.frozen (n*26+23+1);have HA2:Hid (∀S B,yn wr r.Gc k.nC n Qr {Q n with z:=Ji z 47 B,v:=v,nt:=nt,s:=S} (m n+evs.length) (xs n++evs.flatMap Qj) ((wr.setCell ⟨r.Gc,n*26+23,Ai⟩ (.int .i64 S)).setCell ⟨r.Gc,n*26+23+1,Ai⟩ (.int .i64 B))):=fun S B=>(HA1.out S).z47 E0 B;have hxn:(x==0)=false:=by simp;omega
     have hxl:¬(x<0):=E0;have HX:Hid (0<x/\x<=3):=⟨lP,hx3⟩;clear hr n_ WV hgo fQ;go_wp2_with fail
     all_goals
      have HA3:=HA2.out (wrap64 ((Q n).s+j)) (wrap64 (z 47+1));have JK:IntKind.i64.wrap (z 47+1)=wrap64 (z 47+1):=w64 _;have hS1:IntKind.i64.wrap ((Q n).s+j)=wrap64 ((Q n).s+j):=w64 _;generalize ((wr.setCell ⟨r.Gc,n*26+23,Ai⟩ (.int .i64 (wrap64 ((Q n).s+j)))).setCell ⟨r.Gc,n*26+23+1,Ai⟩ (.int .i64 (wrap64 (z 47+1))))=W at *;generalize wrap64 (z 47+1)=Vz at *;generalize wrap64 ((Q n).s+j)=s23 at *;have Bk0:Hid (IntKind.i64.wrap (z 47+1)=Vz):=JK;have Ih0:Hid (IntKind.i64.wrap ((Q n).s+j)=s23):=hS1;have HAW:Hid (yn wr r.Gc k.nC n Qr {Q n with z:=Ji z 47 Vz,v:=v,nt:=nt,s:=s23} (m n+evs.length) (xs n++evs.flatMap Qj) W):=HA3;have d22:W.cell? ⟨r.Gc,n*26+22,Ai⟩=yi v:=(Ei.rat HA3.row (n:=n) (i:=22) E0 rfl E0).trans I4;have d24:W.cell? ⟨r.Gc,n*26+23+1,Ai⟩=yi (.int .i64 Vz):=(Ei.rat HA3.row (n:=n) (i:=24) E0 E0 E0).trans U7;have Vy:r.Gc<W.heap.size:=HA3.row.lt;have pk0:∀o,(W.alloc o).cell? ⟨r.Gc,n*26+22,Ai⟩=yi v:=fun o=>((Below.refl _ W).alloc (Nat.le_refl _) _ |>.cell (p:=⟨r.Gc,n*26+22,Ai⟩) Vy).trans d22;have tk0:∀o,(W.alloc o).cell? ⟨r.Gc,n*26+23+1,Ai⟩=yi (.int .i64 Vz):=fun o=>((Below.refl _ W).alloc (Nat.le_refl _) _ |>.cell (p:=⟨r.Gc,n*26+23+1,Ai⟩) Vy).trans d24;have bd0:Hid (∀o,(W.alloc o).ownsRow 0 111 3 v (m n+evs.length) (xs n++evs.flatMap Qj)):=fun o=>own_below HA3.own ((Below.refl _ _).alloc (Nat.le_refl _) _);clear JK hS1 HA3 HA2 HA1 HOW e22 e23 e24 f23 f24
      go_region_law
       (refine Ek rfl _ _ 61 rfl 0 111 _ 3 24 underlying61 Dn rfl E0 v (m n+evs.length) (xs n++evs.flatMap Qj) rfl (by exact bd0.out _) W.heap.size [.int .i64 2,.int .i64 x,.int .i64 Vz] 111 rfl rfl J2 D2 Y1 E0 E0 ?_
        intro g cap w1 Oj Ti hat zo;have r_:Hid _:=yn.log (a:=n*26+22) (ev:=[.int .i64 2,.int .i64 x,.int .i64 Vz]) HAW.out ⟨Ti.os,Ti.tape,Ti.output,Ti.size,Ti.block⟩ (by first|exact Oj|(rw[List.append_assoc];exact Oj)) (hat.imp id (fun e=>M4)) rfl;clear d22 d24 pk0 tk0;have q22:w1.cell? ⟨r.Gc,n*26+22,Ai⟩=yi v:=(Ei.rat r_.out.1 (n:=n) (i:=22) E0 rfl E0).trans I4;have dc0:=r_.out.1.frozen (n*26+22);clear Oj Ti hat zo)
     all_goals
      have HA5:=r_.out.2;generalize hV:(Value.slice (yi ⟨g,0,Ai⟩) (m n+evs.length+1:Nat) cap)=v5 at *;have HV5:Hid (∃a b c,v5=.slice a b c):=⟨_,_,_,hV.symm⟩;generalize hW5:(w1.setCell ⟨r.Gc,n*26+22,Ai⟩ v5)=W5 at *;have vc0:Hid (yn wr r.Gc k.nC n Qr {Q n with z:=Ji z 47 Vz,v:=v5,nt:=nt,s:=s23} (m n+evs.length+1) (xs n++evs.flatMap Qj++[.int .i64 2,.int .i64 x,.int .i64 Vz]) W5):=HA5;have HN5:=HNx.out _ _ _ _ HA5 (fun i h3 bO=>G8);have p0:=HN5.h0;have pl:=HN5.hl n hn;have p24:W5.cell? ⟨r.Gc,n*26+23+1,Ai⟩=yi (.int .i64 Vz):=(Ei.rat HA5.row (n:=n) (i:=24) E0 E0 E0).trans U7;have p25:=Ei.rat HA5.row (n:=n) (i:=25) (a:=n*26+23+2) E0 E0 E0;have f25:=HA5.row.frozen (n*26+23+2);have gK:=HN5.sK.Dq;have gb:=HN5.sb.Dq;have uJ:∀(V:ui)(u:ti),(V.setCell ⟨r.Gc,n*26+23+2,Ai⟩ u).cell? ⟨r.Kb,0,Ai⟩=V.cell? ⟨r.Kb,0,Ai⟩:=fun V u=>World.cell?_setCell_other _ _ _ _ (fun e=>U2);have k1':∀(V:ui)(u:ti),(V.setCell ⟨r.Gc,n*26+23+2,Ai⟩ u).cell? ⟨r.bo,r.oo+n*3+2,Ai⟩=V.cell? ⟨r.bo,r.oo+n*3+2,Ai⟩:=fun V u=>World.cell?_setCell_other _ _ _ _ (fun e=>U2);have k2':∀(V:ui)(u:ti),(V.setCell ⟨r.Gc,n*26+23+2,Ai⟩ u).cell? ⟨r.Gc,n*26+23+1,Ai⟩=V.cell? ⟨r.Gc,n*26+23+1,Ai⟩:=fun V u=>World.cell?_setCell_other _ _ _ _ (fun e=>by have e1:=congrArg Addr.off e;simp only at e1;omega);clear HA5 HN5 r_ q22 dc0 hW5 hV bd0 HAW Vy;go_wp2_with fail;go_region_held3 (fun W=>W.cell? ⟨r.Kb,0,Ai⟩=yi (.slice (yi ⟨r.bo,r.oo,Ai⟩) k.nC r.cq)/\W.cell? ⟨r.bo,r.oo+n*3+2,Ai⟩=yi (.int .i64 (r.lim n))/\W.cell? ⟨r.Gc,n*26+23+1,Ai⟩=yi (.int .i64 Vz)) (go_keep) (fail)
      clear uJ k1' k2' p0 pl p24 p25 f25;go_wp2_with fail
     all_goals
      have HA6:Hid (yn wr r.Gc k.nC n Qr {Q n with z:=Ji z 47 Vz,v:=v5,nt:=nt,s:=s23,b:=decide (r.lim n<Vz)} (m n+evs.length+1) (xs n++evs.flatMap Qj++[.int .i64 2,.int .i64 x,.int .i64 Vz]) (W5.setCell ⟨r.Gc,n*26+23+2,Ai⟩ (.bool (decide (r.lim n<Vz)))).drew):=(vc0.out.b E0 _).drew;have HN6:=HNx.out _ _ _ _ HA6.out (fun i h3 bO=>G8);refine(Jy r.Kb r.Gc n k.nC r.cq r.bo r.oo (r.nG n) (r.ic n) 131 (r.iq n) (r.img n) _ _ HN6.h0 HN6.h4 (HN6.hi n hn) (HN6.bQ n hn) HN6.row hn (HN6.g16 n hn) gK gb (fun b o e=>(HN6.si n hn b o e).Dq)).mono ?_;clear HN6;rintro e W7 ⟨rfl,hg7,hr7⟩;rw[Yk,Oi]at hr7;have HA7:Hid (yn wr r.Gc k.nC n Qr {Q n with z:=Dw (r.nG n) (r.img n) (Ji z 47 Vz),v:=v5,s:=s23,b:=decide (r.lim n<Vz),nt:=.slice Ai 0 0} (m n+evs.length+1) (xs n++evs.flatMap Qj++[.int .i64 2,.int .i64 x,.int .i64 Vz]) W7):=HA6.out.fresh hg7 hr7 rfl;clear hg7 hr7;have d22:W7.cell? ⟨r.Gc,n*26+22,Ai⟩=yi v5:=(Ei.rat HA7.out.row (n:=n) (i:=22) E0 rfl E0).trans I4;have ld0:Hid (∀o,(W7.alloc o).ownsRow 0 111 3 v5 (m n+evs.length+1) (xs n++evs.flatMap Qj++[.int .i64 2,.int .i64 x,.int .i64 Vz])):=fun o=>own_below HA7.out.own ((Below.refl _ _).alloc (Nat.le_refl _) _);clear HA6 vc0;go_wp2_with (at_builtin;refine kj _ rfl _ _ 61 rfl 0 111 _ 3 24 underlying61 Dn rfl E0 v5 (m n+evs.length+1) (xs n++evs.flatMap Qj++[.int .i64 2,.int .i64 x,.int .i64 Vz]) rfl (by exact ld0.out _) W7.heap.size [.int .i64 3,.int .i64 j,.int .i64 3] 111 rfl rfl J2 D2 Y1 E0 E0 ?_);intro g cap w1 Oj Ti hat zo;have HL8:Hid _:=yn.log (a:=n*26+22) (ev:=[.int .i64 3,.int .i64 j,.int .i64 3]) HA7.out ⟨Ti.os,Ti.tape,Ti.output,Ti.size,Ti.block⟩ (by first|exact Oj|(simp only[List.append_assoc]at Oj ⊢;exact Oj)) (hat.imp id (fun e=>M4)) rfl;have q22:w1.cell? ⟨r.Gc,n*26+22,Ai⟩=yi v5:=(Ei.rat HL8.out.1 (n:=n) (i:=22) E0 rfl E0).trans I4;have dc0:=HL8.out.1.frozen (n*26+22);clear Oj Ti hat zo d22 ld0 HA7;go_wp2_with fail
      (try simp only[Exit.inBlock,Exit.then])
      refine di ?_;exact⟨rfl,FIN.out _ [] (Rn fr n D) _ _ _ (zZ (lim:=r.lim n) (nG:=r.nG n) (img:=r.img n) (z0:=(Q n).z) (s0:=(Q n).s) HL8.out.2 (H.out.g16 n hn) (H.out.fst n hn) HL.out.old HL.out.s46 HS1.out Bk0.out Ih0.out) (.inr ⟨rfl,rfl⟩) HRD.out.2⟩
end
def Nx(s:Hy)(vs ts:Nat->ti)(i:Nat):RC:=⟨s.z i,s.z i 46,vs i,decide (s.z i 3<s.z i 47),ts i⟩
def E_(k:Vu)(s:Hy):Prop:=∀i,i<k.nC->Fv (k.n i) (s.z i)/\IntKind.i64.wrap (s.z i 46)=s.z i 46
theorem wrap_wrap(x:Int):IntKind.i64.wrap (IntKind.i64.wrap x)=IntKind.i64.wrap x:=by
 rw[IntKind.wrap_i64,IntKind.wrap_i64];omega
theorem KP{p:fF}{kc:Nat}(gl:uq p.n kc p.ci):∀(k:Nat)(z:Nat->Int)(C:Nat->Jl),Fv p.n z->IntKind.i64.wrap (z 46)=z 46->IntKind.i64.wrap ((Fo p k z C).2.2.1 46)=(Fo p k z C).2.2.1 46/\∀i,i<25->(Fo p k z C).2.2.1 i=z i
 |0,_,_,_,h=>⟨h,fun _ _=>rfl⟩
 |k+1,z,C,hz,h=>by
  obtain⟨k1,k2,-⟩:=RE (ins:=p.ins) (C:=C) gl hz;obtain⟨b,hb⟩:=EC kc C;have hzk:=Hz (ins:=p.ins) gl hz hb;simp only[Fo];revert k1 k2 hzk;cases jk p.n p.ci p.ins z C with
  |on op e z' C'=>
   intro k1 k2 hzk;have h46:IntKind.i64.wrap (z' 46)=z' 46:=by
    have:z' 46=IntKind.i64.wrap (z 46+1):=k2;rw[this,wrap_wrap]
   by_cases h0:op=0
   ·simp only[h0,if_true];exact⟨h46,fun i hi=>k1 i (.inl hi)⟩
   ·simp only[h0,if_false];obtain⟨g1,g2⟩:=KP gl k z' C' hzk.1 h46;exact⟨g1,fun i hi=>(g2 i hi).trans (k1 i (.inl hi))⟩
  |Xk y z'=>
   intro k1 k2 _;have:z' 46=IntKind.i64.wrap (z 46+1):=k2;refine⟨?_,fun i hi=>?_⟩
   ·show IntKind.i64.wrap (z' 46)=z' 46;rw[this,wrap_wrap]
   ·have:Uk z' i=z' i:=by unfold Uk;rw[if_neg E0,if_neg E0]
    exact this.trans (k1 i (.inl hi))
theorem VE{p:fF}{kc:Nat}(gl:uq p.n kc p.ci){z:Nat->Int}(C:Nat->Jl)(hz:Fv p.n z)(h:IntKind.i64.wrap (z 46)=z 46)(b:Nat):IntKind.i64.wrap ((lj p b z C).2.1 46)=(lj p b z C).2.1 46/\∀i,i<25->(lj p b z C).2.1 i=z i:=by
 show IntKind.i64.wrap ((uy p b z C).2.2.1 46)=(uy p b z C).2.2.1 46/\∀i,i<25->(uy p b z C).2.2.1 i=z i;unfold uy;split
 ·exact⟨h,fun _ _=>rfl⟩
 ·exact KP gl b z C hz h
theorem dP{p:fF}:∀(k:Nat)(z:Nat->Int)(C:Nat->Jl),(Fo p k z C).1.length<=k
 |0,_,_=>Nat.le_refl _
 |k+1,z,C=>by
  simp only[Fo];have h1:=tQ (jk p.n p.ci p.ins z C);revert h1;cases jk p.n p.ci p.ins z C with
  |on op e z' C'=>
   intro h1;have h2:=dP (p:=p) k z' C';by_cases h0:op=0
   ·simp only[h0,if_true];rw[h0]at h1;omega
   ·simp only[h0,if_false,List.length_append];omega
  |Xk y z'=>intro _;simp
theorem EN{p:fF}(k:Nat)(z:Nat->Int)(C:Nat->Jl):(lj p k z C).1.length<=k+1:=by
 show ((uy p k z C).1++[_]).length<=k+1;have:(uy p k z C).1.length<=k:=by
  unfold uy;split
  ·simp
  ·exact dP k z C
 simp;omega
section
variable {w0 w w':ui}{k:Vu}{K:Nl}{r:RK}{s:Hy}{vs ts RL:Nat->ti}{p:Nat×Nat}{v' YS:ti}{nl:Nat->List (Int×Int)}{Ls UH:Nat->Ln}{kind:Nat->Int}{F:Int}{inV:ti}{il ins:List (Int×Int)}{wn:Nat->Nat×Nat}
theorem E_.win(h:E_ k s){kc:Nat}(gl:∀i,i<k.nC->uq (k.n i) kc (k.ci i))(hp:p.1<k.nC):E_ k (gx k K ins p s):=fun i hi=>by
 show Fv (k.n i) (fj s.z p.1 _ i)/\IntKind.i64.wrap (fj s.z p.1 _ i 46)=fj s.z p.1 _ i 46;by_cases e:i=p.1
 ·subst e;rw[Oi];obtain⟨b,hb⟩:=EC kc s.D;exact⟨(ZA (p:=Qp k K ins p.1) (gl _ hp) _ (h _ hp).1 hb).1,(VE (p:=Qp k K ins p.1) (gl _ hp) s.D (h _ hp).1 (h _ hp).2 _).1⟩
 ·rw[cj _ _ e];exact h i hi
structure BQ(w0:ui)(RL:Nat->ti)(UH:Nat->Ln)(k:Vu)(K:Nl)(r:RK)(kind:Nat->Int)(s:Hy)(vs ts:Nat->ti)(nl:Nat->List (Int×Int))(Ls:Nat->Ln)(F:Int)(inV:ti)(il:List (Int×Int))(d:Nat)(w:ui):Prop where
 kn:Tn w k r (Nx s vs ts) s.m s.xs
 net:Om w k.nC r (Nx s vs ts) nl Ls F inV il
 rel:Dl r.kc kind K.fr nl Ls F s.D
 wt:Ro r.kc s.D
 but:ak (fun j=>(j=r.Gc\/j=r.Lb)\/∃i,i<k.nC/\(RL i).ownBlock=yi j) w0 w
 blk:∀i b,i<k.nC->(vs i).ownBlock=yi b->(RL i).ownBlock=yi b\/w0.heap.size<=b
 iI:∀i b,i<k.nC->(ts i).ownBlock=yi b->w0.heap.size<=b
 B50:∀c b,c<r.kc->(Ls c).wv.ownBlock=yi b->(UH c).wv.ownBlock=yi b\/w0.heap.size<=b
 dl:∀i,i<k.nC->(nl i).length<=d
theorem S20(XD:k.num p.1=p.1):fj (Nx s vs ts) p.1 ⟨(lj (zp k p.1 K.fr ins) p.2 (s.z p.1) s.D).2.1,(lj (zp k p.1 K.fr ins) p.2 (s.z p.1) s.D).2.1 46,v',decide ((lj (zp k p.1 K.fr ins) p.2 (s.z p.1) s.D).2.1 3<(lj (zp k p.1 K.fr ins) p.2 (s.z p.1) s.D).2.1 47),YS⟩=Nx (gx k K ins p s) (fj vs p.1 v') (fj ts p.1 YS):=by
 have e:Qp k K ins p.1=zp k p.1 K.fr ins:=by unfold Qp zp;rw[XD]
 funext i
 unfold Nx gx;rw[e];by_cases e:i=p.1
 ·subst e;simp only[Oi]
 ·simp only[cj _ _ e]
theorem BQ.after{d:Nat}(h:BQ w0 RL UH k K r kind s vs ts nl Ls F inV il d w)(hp:p.1<k.nC)(XD:k.num p.1=p.1)(hS:E_ k s)
  (hA:dt w k.nC r p.1 (Nx s vs ts) nl Ls kind K.fr F inV il (lj (zp k p.1 K.fr ins) p.2 (s.z p.1) s.D).2.2 (lj (zp k p.1 K.fr ins) p.2 (s.z p.1) s.D).2.1 ((lj (zp k p.1 K.fr ins) p.2 (s.z p.1) s.D).2.1 46) (decide ((lj (zp k p.1 K.fr ins) p.2 (s.z p.1) s.D).2.1 3<(lj (zp k p.1 K.fr ins) p.2 (s.z p.1) s.D).2.1 47)) (s.m p.1+(lj (zp k p.1 K.fr ins) p.2 (s.z p.1) s.D).1.length) (s.xs p.1++(lj (zp k p.1 K.fr ins) p.2 (s.z p.1) s.D).1.flatMap Qj) p.2 w'):
  ∃Sv ts' nl' Jw,BQ w0 RL UH k K r kind (gx k K ins p s) Sv ts' nl' Jw F inV il (d+p.2) w':=by
 have e:Qp k K ins p.1=zp k p.1 K.fr ins:=by unfold Qp zp;rw[XD]
 obtain⟨v',YS,l',Jw,h0,h1,h2,h3,h4⟩:=hA;have hz:=hS _ hp;have kn:=h.kn.after h.net hp h1 (fun j _ bO=>(VE (p:=zp k p.1 K.fr ins) (h.kn.ok _ hp) s.D hz.1 hz.2 p.2).2 j bO);rw[S20 XD]at kn h2;refine⟨fj vs p.1 v',fj ts p.1 YS,fj nl p.1 l',Jw,?_,h2,?_,?_,h.but.trans h1.but (fun _ x=>x) (fun j hj x=>?_),fun i b hi hb=>?_,fun i b hi hb=>?_,fun c b hc hb=>?_,fun i hi=>?_⟩
 ·unfold gx;rw[e];unfold gx at kn;rw[e]at kn;exact kn
 ·unfold gx;rw[e];exact h3
 ·unfold gx;rw[e];exact LC (p:=zp k p.1 K.fr ins) (h.kn.ok _ hp) _ hz.1 h.wt
 ·rcases x with x|x|x
  ·exact .inl x
  ·rcases h.blk p.1 j hp x with x|x
   ·exact .inr ⟨p.1,hp,x⟩
   ·omega
  ·have:=h.iI p.1 j hp x;omega
 ·by_cases e:i=p.1
  ·subst e;rw[Oi]at hb;rcases h1.blk b hb with x|x
   ·exact h.blk _ b hi x
   ·exact zf
  ·rw[cj _ _ e]at hb;exact h.blk i b hi hb
 ·by_cases e:i=p.1
  ·subst e;rw[Oi]at hb;rcases h1.iI b hb with x|x
   ·exact h.iI _ b hi x
   ·exact Nat.le_trans h.but.size x
  ·rw[cj _ _ e]at hb;exact h.iI i b hi hb
 ·rcases h4 c b hc hb with x|x
  ·exact h.B50 c b hc x
  ·exact zf
 ·by_cases e:i=p.1
  ·subst e;rw[Oi];have:=h.dl _ hp;omega
  ·rw[cj _ _ e];have:=h.dl i hi;omega
theorem BQ.stat{d:Nat}(h:BQ w0 RL UH k K r kind s vs ts nl Ls F inV il d w){b:Nat}(hs:Hm r w0 b)(rj:∀i b,i<k.nC->(RL i).ownBlock=yi b->r.hi<=b):w.heap[b]?=w0.heap[b]?:=by
 refine h.but.block b hs.lt (fun e=>?_);rcases e with (e|e)|⟨i,hi,e⟩
 ·exact hs.2.1.1 e
 ·exact hs.2.1.2 e
 ·exact hs.ot (fun b=>rj i b hi) e
end
def Ap(kind F1:Int)(l:Ln)(x:Int):Ln:=if kind=2 then {l with shown:=ji,shows:=x,since:=F1}else if l.ws.length<4 then {l with ws:=l.ws++[x]}else {l with lost:=IntKind.i64.wrap (l.lost+1)}
def Ao(a b:Ln):Prop:=a.ws=b.ws/\a.lost=b.lost/\a.shown=b.shown/\a.shows=b.shows/\a.since=b.since
theorem Ao.refl(a:Ln):Ao a a:=⟨rfl,rfl,rfl,rfl,rfl⟩
theorem Na0(l:List Int):∀(c:Jl)(ln:Ln){kind F1:Int},kind≠2->c.wait=ln.ws->c.lost=ln.lost->(l.foldl Dp c).wait=(l.foldl (Ap kind F1) ln).ws/\(l.foldl Dp c).lost=(l.foldl (Ap kind F1) ln).lost:=by
 induction l with
 |nil=>intro c ln _ _ _ h1 h2;exact⟨h1,h2⟩
 |cons x l ih=>
  intro c ln kind F1 hk h1 h2;refine ih _ _ hk ?_ ?_
  ·unfold Dp Ap;rw[if_neg hk,h1];split<;>simp_all
  ·unfold Dp Ap;rw[if_neg hk,h1];split<;>simp_all
theorem g90(l:List Int):∀(ln:Ln){F1:Int},(l=[]->l.foldl (Ap 2 F1) ln=ln)/\(∀x l',l=l'++[x]->(l.foldl (Ap 2 F1) ln).shown=ji/\(l.foldl (Ap 2 F1) ln).shows=x/\(l.foldl (Ap 2 F1) ln).since=F1):=by
 intro ln F1;refine⟨fun e=>by subst e;rfl,fun x l' e=>?_⟩;subst e;rw[List.foldl_append];exact⟨rfl,rfl,rfl⟩
theorem DN(c:Jl):(Js c).shown=c.shown/\(Js c).age=c.age/\(Js c).En=c.En/\(Js c).anew=c.anew:=by
 have key:∀(l:List Int)(c:Jl),(l.foldl Dp c).shown=c.shown/\(l.foldl Dp c).age=c.age/\(l.foldl Dp c).En=c.En/\(l.foldl Dp c).anew=c.anew:=by
  intro l;induction l with
  |nil=>intro c;exact⟨rfl,rfl,rfl,rfl⟩
  |cons x l ih=>
   intro c;obtain⟨h1,h2,h3,h4⟩:=ih (Dp c x);have hp:(Dp c x).shown=c.shown/\(Dp c x).age=c.age/\(Dp c x).En=c.En/\(Dp c x).anew=c.anew:=by unfold Dp;split<;>exact⟨rfl,rfl,rfl,rfl⟩
   exact⟨h1.trans hp.1,h2.trans hp.2.1,h3.trans hp.2.2.1,h4.trans hp.2.2.2⟩
 exact key c.sent c
theorem oU(c:Jl):(Tv c).wait=c.wait/\(Tv c).lost=c.lost/\(Tv c).sent=c.sent:=by
 unfold Tv;split
 ·exact⟨rfl,rfl,rfl⟩
 ·split<;>exact⟨rfl,rfl,rfl⟩
theorem kW{kind F:Int}{l:List Int}{ln ln':Ln}{c:Jl}(h:z00 kind l ln F c)(hF:0<=F/\F<=1000000000000)(hs:Ao ln' (l.foldl (Ap kind (F+1)) ln)):z00 kind [] ln' (F+1) (Tv (Js c)):=by
 obtain⟨s1,s2,s3,s4,s5⟩:=hs;refine⟨fun hk=>?_,fun hk=>?_⟩
 ·obtain⟨h1,h2,h3⟩:=h.q hk;obtain⟨e1,e2,e3⟩:=oU (Js c);obtain⟨p1,p2⟩:=Na0 l c ln (kind:=kind) (F1:=F+1) E0 h1 h2;rw[e1,e2,e3,s1,s2,<-p1,<-p2,<-h3];exact⟨rfl,rfl,rfl⟩
 ·subst hk;obtain⟨h1,h2,h3,h4,h5⟩:=h.s rfl;obtain⟨q1,q2,q3,q4⟩:=DN c;obtain⟨p1,p2⟩:=g90 l ln (F1:=F+1);rcases List.eq_nil_or_concat l with hl|⟨l',x,hl⟩
  ·rw[p1 hl]at s3 s4 s5;have hna:c.anew=false:=by
    cases ha:c.anew with
    |true=>exact absurd hl (h3.1 ha)
    |false=>rfl
   have ee:Tv (Js c)=if (Js c).age=-1 then Js c else {Js c with age:=IntKind.i64.wrap ((Js c).age+1)}:=by
    show (if (Js c).anew=ji then _ else _)=_;rw[if_neg (by rw[q4,hna];decide)]
   rw[ee,s3,s4,s5];by_cases wQ:ln.shown=ji
   ·rw[if_pos wQ]at h1 h2;have hb:=h5 wQ;have Jj:¬(Js c).age=-1:=by rw[q2,h2];omega
    rw[if_neg Jj,if_pos wQ,if_pos wQ];refine⟨q1.trans h1,?_,?_,fun x l' e=>by simp at e,fun _=>E0⟩
    ·show IntKind.i64.wrap ((Js c).age+1)=_;rw[q2,h2,IntKind.wrap_i64];omega
    ·show ((Js c).anew=ji↔_);rw[q4,hna];simp
   ·rw[if_neg wQ]at h1 h2;rw[if_pos (by rw[q2,h2]),if_neg wQ,if_neg wQ];refine⟨q1.trans h1,q2.trans h2,?_,fun x l' e=>by simp at e,fun e=>absurd e wQ⟩;rw[q4,hna];simp
  ·have hl:l=l'++[x]:=by simpa using hl
   obtain⟨g1,g2,g3⟩:=p2 x l' hl;have ha:c.anew=true:=h3.2 (by rw[hl];simp);have ee:Tv (Js c)={Js c with shown:=(Js c).En,age:=0,En:=0,anew:=gi}:=by
    show (if (Js c).anew=ji then _ else _)=_;rw[if_pos (by rw[q4];exact ha)]
   rw[ee,s3,s4,s5,g1,g2,g3];refine⟨?_,?_,P0,fun x l' e=>by simp at e,fun _=>E0⟩
   ·show (Js c).En=_;rw[q3,h4 x l' hl];simp
   ·show (0:Int)=_;simp
theorem WR{kc:Nat}{kind fr:Nat->Int}{nl:Nat->List (Int×Int)}{Ls L:Nat->Ln}{F:Int}{C:Nat->Jl}(h:Dl kc kind fr nl Ls F C)(hF:0<=F/\F<=1000000000000)(hs:∀c,c<kc->Ao (L c) ((ry c (nl (fr c).toNat)).foldl (Ap (kind c) (F+1)) (Ls c))):Dl kc kind fr (fun _=>[]) L (F+1) (VD kc C):=fun c hc=>by
 have e:VD kc C c=Tv (Js (C c)):=by unfold VD Ft;rw[if_pos hc,if_pos hc]
 rw[e];exact kW (h c hc) hF (hs c hc)
structure tG(w0:ui)(r:RK)(UH L:Nat->Ln)(w:ui):Prop where
 but:ak (fun j=>j=r.Lb\/∃c,c<r.kc/\(UH c).wv.ownBlock=yi j) w0 w
 row:Ei w r.Lb (r.kc*5) 175 (Jm L)
 own:∀c,c<r.kc->w.ownsRow 0 2 1 (L c).wv (L c).ws.length (xy (L c).ws)
 ne:∀c c',c<r.kc->c'<r.kc->c≠c'->∀b,(L c).wv.ownBlock=yi b->(L c').wv.ownBlock≠yi b
 blk:∀c b,c<r.kc->(L c).wv.ownBlock=yi b->(UH c).wv.ownBlock=yi b\/w0.heap.size<=b
section
variable {w0 w w1:ui}{r:RK}{UH L:Nat->Ln}{c a:Nat}{v:ti}{ln:Ln}
theorem tG.set(h:tG w0 r UH L w)(hr:Ei (w.setCell ⟨r.Lb,a,Ai⟩ v) r.Lb (r.kc*5) 175 (Jm (fj L c ln)))(h1:ln.wv=(L c).wv)(h2:ln.ws=(L c).ws):tG w0 r UH (fj L c ln) (w.setCell ⟨r.Lb,a,Ai⟩ v):=by
 have eq:∀d,(fj L c ln d).wv=(L d).wv/\(fj L c ln d).ws=(L d).ws:=fun d=>by
  by_cases e:d=c
  ·subst e;rw[Oi];exact⟨h1,h2⟩
  ·rw[cj _ _ e];exact⟨rfl,rfl⟩
 refine⟨⟨h.but.os,h.but.tape,h.but.output,by rw[size_setCell];exact h.but.size,fun k hk hn=>(heap_setCell_other _ _ _ _ (fun e=>hn (.inl e))).trans (h.but.block k hk hn)⟩,hr,fun d hd=>?_,fun d d' hd QI Jj b=>?_,fun d b hd=>?_⟩
 ·rw[(eq d).1,(eq d).2];exact Rk (h.own d hd) fun b hb=>heap_setCell_other _ (a:=⟨r.Lb,a,Ai⟩) _ _ (fun e=>xj (h.own d hd) h.row U0 (by rw[<-(show b=r.Lb from e)];exact hb))
 ·rw[(eq d).1,(eq d').1];exact h.ne d d' hd QI Jj b
 ·rw[(eq d).1];exact h.blk d b hd
theorem tG.push(h:tG w0 r UH L w)(hc:c<r.kc){o:Obj}{g cap:Nat}{x:Int}(hg:(w.alloc o).grownBy w1 (L c).wv.ownBlock)(ho:w1.ownsRow 0 2 1 (.slice (yi ⟨g,0,Ai⟩) ((L c).ws.length+1:Nat) cap) ((L c).ws.length+1) (xy (L c).ws++[.int .i64 x]))(hat:(L c).wv.ownBlock=yi g\/w.heap.size<=g)(ha:a=c*5+0):
  Ei w1 r.Lb (r.kc*5) 175 (Jm L)/\tG w0 r UH (fj L c {L c with wv:=.slice (yi ⟨g,0,Ai⟩) ((L c).ws.length+1:Nat) cap,ws:=(L c).ws++[x]}) (w1.setCell ⟨r.Lb,a,Ai⟩ (.slice (yi ⟨g,0,Ai⟩) ((L c).ws.length+1:Nat) cap)):=by
 have hs:w.heap.size<=w1.heap.size:=Nat.le_trans P0 hg.size;have kept:∀b,b<w.heap.size->(L c).wv.ownBlock≠yi b->w1.heap[b]?=w.heap[b]?:=fun b hb Jj=>(hg.block b A1 (fun e=>Jj e.symm)).trans (heap_alloc_old w _ hb);have hLb:(L c).wv.ownBlock≠yi r.Lb:=xj (h.own c hc) h.row U0;have hr:Ei w1 r.Lb (r.kc*5) 175 (Jm L):=h.row.of_heap (kept _ h.row.lt hLb);have gL:g≠r.Lb:=fun e=>by
  rcases hat with x|x
  ·exact hLb (by rw[<-e];exact x)
  ·have:=h.row.lt;omega
 have ob:∀b,(Value.slice (yi ⟨g,0,Ai⟩) ((L c).ws.length+1:Nat) cap).ownBlock=yi b->g=b:=fun b hb=>by simpa[Value.ownBlock]using hb
 refine⟨hr,⟨⟨hg.os.trans h.but.os,hg.tape.trans h.but.tape,hg.output.trans h.but.output,E6,fun k hk hn=>?_⟩,Ei.lw hr ha _ _,fun d hd=>?_,fun d d' hd QI Jj b hb uk=>?_,fun d b hd hb=>?_⟩⟩
 ·rw[heap_setCell_other _ _ _ _ (fun e=>hn (.inl e)),kept k (Nat.lt_of_lt_of_le hk h.but.size) (fun e=>by
   rcases h.blk c k hc e with x|x
   ·exact hn (.inr ⟨c,hc,x⟩)
   ·omega)]
  exact h.but.block k hk hn
 ·by_cases e:d=c
  ·subst e;rw[Oi];have e2:xy ((L d).ws++[x])=xy (L d).ws++[.int .i64 x]:=by unfold xy;simp
   have e3:((L d).ws++[x]).length=(L d).ws.length+1:=P0;show World.ownsRow _ 0 _ 1 _ ((L d).ws++[x]).length (xy ((L d).ws++[x]));rw[e2,e3];exact Rk ho fun b hb=>heap_setCell_other _ (a:=⟨r.Lb,a,Ai⟩) _ _ (fun e=>gL ((ob b hb).trans e))
  ·rw[cj _ _ e];have hk:∀b,(L d).wv.ownBlock=yi b->w1.heap[b]?=w.heap[b]?:=fun b hb=>kept b (Io (h.own d hd) hb) (fun x=>h.ne d c hd hc e b hb x);exact Rk (h.own d hd) fun b hb=>(heap_setCell_other _ (a:=⟨r.Lb,a,Ai⟩) _ _ (fun e=>xj (h.own d hd) h.row U0 (by rw[<-(show b=r.Lb from e)];exact hb))).trans (hk b hb)
 ·by_cases e:d=c
  ·subst e;rw[Oi]at hb;rw[cj _ _ (fun x=>Jj x.symm)]at uk;have:=ob b hb;subst this;rcases hat with x|x
   ·exact h.ne d d' hd QI Jj g x uk
   ·have:=Io (h.own d' QI) uk;omega
  ·rw[cj _ _ e]at hb;by_cases e2:d'=c
   ·subst e2;rw[Oi]at uk;have:=ob b uk;subst this;rcases hat with x|x
    ·exact h.ne d d' hd QI Jj g hb x
    ·have:=Io (h.own d hd) hb;omega
   ·rw[cj _ _ e2]at uk;exact h.ne d d' hd QI Jj b hb uk
 ·by_cases e:d=c
  ·subst e;rw[Oi]at hb;have:=ob b hb;subst this;rcases hat with x|x
   ·exact h.blk d g hd x
   ·exact zf
  ·rw[cj _ _ e]at hb;exact h.blk d b hd hb
end
end Go.Proofs.YtdoghgnifkgfdaaGreat.Mute
