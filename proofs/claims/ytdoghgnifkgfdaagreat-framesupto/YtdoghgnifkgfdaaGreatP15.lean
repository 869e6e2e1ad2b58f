import Derived.Test.YtdoghgnifkgfdaaGreatP00
import Derived.Test.YtdoghgnifkgfdaaGreatP09
import Derived.Test.YtdoghgnifkgfdaaGreatP12
import Derived.Test.YtdoghgnifkgfdaaGreatP14
set_option maxRecDepth 100000
set_option maxHeartbeats 16000000
open Option renaming none->Ai,some->yi
open Go renaming World->ui,Value->ti,undef->ri
open Bool renaming true->ji,false->gi
namespace Go.Proofs.YtdoghgnifkgfdaaGreat
open Tryz Go.RowKit
theorem nF(p q:Option Addr)(m c c':Nat)(z:Nat->Int)(w:ui)(hs:Sl w p (m*3) (fun j=>.int .i64 (z j)))(hq:Sl w q (m*3) (fun j=>.int .i64 (z j)))(hm:m<=1000000000000):
  Calls prog 45 #[.slice p m c,.slice q m c'] w fun e w'=>e=.returned (.bool ji)/\Below w.heap.size w w':=by
 have HS:Hid (Sl w p (m*3) (fun j=>.int .i64 (z j))):=hs;have HQ:Hid (Sl w q (m*3) (fun j=>.int .i64 (z j))):=hq;clear hs hq
 go_enter func45,ntmps45
 go_wp2_with fail
 go_loopw [5] (fun i wr=>∃k:Nat,k<=m/\i=.int .i64 k/\Hid (Below w.heap.size w wr)) (fun i _=>m-(intOf i).toNat)
 case atStart=>exact⟨0,Nat.zero_le _,rfl,Below.refl _ _⟩
 case round=>
  obtain⟨k,hk,rfl,HB⟩:=hrel;by_cases Wi:k<m
  ·obtain⟨b,o,rfl,hc⟩:=(HS.out.below HB.out).at E0;obtain⟨b',o',rfl,Iy⟩:=(HQ.out.below HB.out).at E0;refine Ta fun c0 c1 c2=>?_;have d0:=Iy (k*3) E0;have d1:=Iy (k*3+1) E0;have d2:=Iy (k*3+2) E0;rw[<-Nat.add_assoc]at c1 c2 d1 d2;clear hc Iy;have FC:(k:Int)<(m:Int):=by omega
   generalize z (k*3)=x0 at *;generalize z (k*3+1)=x1 at *;generalize z (k*3+2)=x2 at *;go_wp2_with fail;go_region_held3 (fun W=>W.cell? ⟨b,o+k*3,Ai⟩=yi (.int .i64 x0)/\W.cell? ⟨b,o+k*3+1,Ai⟩=yi (.int .i64 x1)/\W.cell? ⟨b,o+k*3+2,Ai⟩=yi (.int .i64 x2)/\W.cell? ⟨b',o'+k*3,Ai⟩=yi (.int .i64 x0)/\W.cell? ⟨b',o'+k*3+1,Ai⟩=yi (.int .i64 x1)/\W.cell? ⟨b',o'+k*3+2,Ai⟩=yi (.int .i64 x2)) (go_keep) (fail)
   go_wp2_with fail
   exact⟨⟨k+1,E0,J1,HB.out.drew⟩,U1⟩
  ·obtain rfl:k=m:=by omega
   go_wp2_with fail
   go_ret;exact⟨rfl,HB.out⟩
def du(c:Int)(n:Nat):Nat:=((if c<0 then -(c+1)else c)%(n:Int)).toNat
theorem QW(c:Int){n:Nat}(hn:0<n):du c n<n:=by
 unfold du;have h1:=Int.emod_nonneg (if c<0 then -(c+1)else c) (show (n:Int)≠0 by omega);have h2:=Int.emod_lt_of_pos (if c<0 then -(c+1)else c) (show (0:Int)<n by omega);omega
theorem pick_any(c:Int)(n:Nat)(w:ui)(hn:0<n)(hn':n<=1000000000000)(h1:-9223372036854775808<=c)(h2:c<=9223372036854775807):
  Calls prog 20 #[.int .i64 c,.int .i64 n] w fun e w'=>e=.returned (.int .i64 (du c n:Nat))/\w'=w:=by
 have hz:¬((n:Int)=0):=E0;by_cases h:c<0
 ·have e1:IntKind.i64.wrap (c+1)=c+1:=by rw[IntKind.wrap_i64];omega
  have e2:IntKind.i64.wrap (-(c+1))=-(c+1):=by rw[IntKind.wrap_i64];omega
  have e3:((du c n:Nat):Int)=(-(c+1)).tmod n:=by
   unfold du;rw[if_pos h,Int.toNat_of_nonneg (Int.emod_nonneg _ hz),Int.tmod_eq_emod_of_nonneg E0]
  rw[e3]
  go_enter func20,ntmps20
  go_wp2_with fail
  go_ret;exact⟨by rw[Int.neg_tmod];rfl,rfl⟩
 ·have e3:((du c n:Nat):Int)=c%n:=by
   unfold du;rw[if_neg h,Int.toNat_of_nonneg (Int.emod_nonneg _ hz)]
  rw[e3]
  go_enter func20,ntmps20
  exact Wc
def Marked(w:ui)(k:Nat)(v:ti)(i:Nat):Prop:=∃p m c,v=.slice p m c/\m<=1000000000000/\(m=0\/∃b,p=yi ⟨b,0,Ai⟩/\∀j,j<m*k->w.cell? ⟨b,j,Ai⟩=yi (.int .i64 (if j%k=0 then -1000-((i/4:Nat):Int)else 0)))
theorem Marked.sl{w:ui}{k:Nat}{v:ti}{i:Nat}(h:Marked w k v i):∃p m c,v=.slice p m c/\m<=1000000000000/\Sl w p (m*k) (fun j=>.int .i64 (if j%k=0 then -1000-((i/4:Nat):Int)else 0)):=by
 obtain⟨p,m,c,h1,h2,h3⟩:=h;refine⟨p,m,c,h1,h2,?_⟩;rcases h3 with rfl|⟨b,rfl,h3⟩
 ·exact .inl (Nat.zero_mul _)
 ·exact .inr ⟨b,0,rfl,fun j hj=>by rw[Nat.zero_add];exact h3 j hj⟩
theorem sX(B o nE cE nW cW nC cC:Nat)(pE pW pC:Option Addr)(fE fW fC:Nat->ti)(w:ui)(h0:w.cell? ⟨B,o,Ai⟩=yi (.slice pE nE cE))(h1:w.cell? ⟨B,o+1,Ai⟩=yi (.slice pW nW cW))(h2:w.cell? ⟨B,o+2,Ai⟩=yi (.slice pC nC cC))
  (hE:Sl w pE nE fE)(hW:Sl w pW nW fW)(hC:Sl w pC nC fC)(mE:∀i,i<nE->Marked w 3 (fE i) i)(mW:∀i,i<nW->Marked w 1 (fW i) i)(mC:∀i,i<nC->Marked w 1 (fC i) i)(bE:nE<=1000000000000)(bW:nW<=1000000000000)(bC:nC<=1000000000000):
  Calls prog 23 #[.pointer (yi ⟨B,o,Ai⟩)] w fun e w'=>e=.returned (.bool ji)/\w'=w:=by
 have HE:Hid (Sl w pE nE fE):=hE;have HW:Hid (Sl w pW nW fW):=hW;have ME:Hid (∀i,i<nE->Marked w 3 (fE i) i):=mE;have MW:Hid (∀i,i<nW->Marked w 1 (fW i) i):=mW;have HC:Hid (Sl w pC nC fC):=hC;have MC:Hid (∀i,i<nC->Marked w 1 (fC i) i):=mC;clear hE hW mE mW hC mC
 go_enter func23,ntmps23
 go_wp2_with fail
 go_loop [3] (fun i=>∃k:Nat,k<=nE/\i=.int .i64 k) (fun i=>nE-(intOf i).toNat)
 case atStart=>exact⟨0,Nat.zero_le _,rfl⟩
 case round=>
  obtain⟨k,hk,rfl⟩:=hrel;by_cases Wi:k<nE
  ·obtain⟨b,oo,rfl,hc⟩:=HE.out.at E0;have c0:=hc k Wi;clear hc;obtain⟨p,m,c,hv,hm,hs⟩:=(ME.out k Wi).sl;rw[hv]at c0;clear hv;have HS:Hid (Sl w p (m*3) (fun j=>.int .i64 (if j%3=0 then -1000-((k/4:Nat):Int)else 0))):=hs;clear hs;have FC:(k:Int)<(nE:Int):=by omega
   have hq:(-1000:Int)-(k:Int)/4=-1000-((k/4:Nat):Int):=E0;generalize (-1000:Int)-((k/4:Nat):Int)=mk at *;go_wp2_with fail
   go_loop [4] (fun i=>∃j:Nat,j<=m/\i=.int .i64 j) (fun i=>m-(intOf i).toNat)
   case atStart=>exact⟨0,Nat.zero_le _,rfl⟩
   case round=>
    obtain⟨j,hj,rfl⟩:=hrel;by_cases YU:j<m
    ·obtain⟨b2,o2,rfl,hc⟩:=HS.out.at E0;have d0:=hc (j*3) E0;have d1:=hc (j*3+1) E0;have d2:=hc (j*3+2) E0;rw[if_pos E0]at d0;rw[if_neg E0,<-Nat.add_assoc]at d1 d2;clear hc;have hl3:(j:Int)<(m:Int):=by omega
     exact Ph
    ·obtain rfl:j=m:=by omega
     exact Qh
  ·obtain rfl:k=nE:=by omega
   go_wp2_with fail
   go_loop [5] (fun i=>∃k:Nat,k<=nW/\i=.int .i64 k) (fun i=>nW-(intOf i).toNat)
   case atStart=>exact⟨0,Nat.zero_le _,rfl⟩
   case round=>
    obtain⟨k,hk,rfl⟩:=hrel;by_cases Wi:k<nW
    ·obtain⟨b,oo,rfl,hc⟩:=HW.out.at E0;have c0:=hc k Wi;clear hc;obtain⟨p,m,c,hv,hm,hs⟩:=(MW.out k Wi).sl;rw[hv]at c0;clear hv;have HS:Hid (Sl w p (m*1) (fun j=>.int .i64 (if j%1=0 then -1000-((k/4:Nat):Int)else 0))):=hs;clear hs;have FC:(k:Int)<(nW:Int):=by omega
     have hq:(-1000:Int)-(k:Int)/4=-1000-((k/4:Nat):Int):=E0;generalize (-1000:Int)-((k/4:Nat):Int)=mk at *;go_wp2_with fail
     go_loop [6] (fun i=>∃j:Nat,j<=m/\i=.int .i64 j) (fun i=>m-(intOf i).toNat)
     case atStart=>exact⟨0,Nat.zero_le _,rfl⟩
     case round=>
      obtain⟨j,hj,rfl⟩:=hrel;by_cases YU:j<m
      ·obtain⟨b2,o2,rfl,hc⟩:=HS.out.at E0;have d0:=hc j E0;rw[if_pos E0]at d0;clear hc;have hl3:(j:Int)<(m:Int):=by omega
       exact Ph
      ·obtain rfl:j=m:=by omega
       exact Qh
    ·obtain rfl:k=nW:=by omega
     go_wp2_with fail
     go_loop [7] (fun i=>∃k:Nat,k<=nC/\i=.int .i64 k) (fun i=>nC-(intOf i).toNat)
     case atStart=>exact⟨0,Nat.zero_le _,rfl⟩
     case round=>
      obtain⟨k,hk,rfl⟩:=hrel;by_cases Wi:k<nC
      ·obtain⟨b,oo,rfl,hc⟩:=HC.out.at E0;have c0:=hc k Wi;clear hc;obtain⟨p,m,c,hv,hm,hs⟩:=(MC.out k Wi).sl;rw[hv]at c0;clear hv;have HS:Hid (Sl w p (m*1) (fun j=>.int .i64 (if j%1=0 then -1000-((k/4:Nat):Int)else 0))):=hs;clear hs;have FC:(k:Int)<(nC:Int):=by omega
       have hq:(-1000:Int)-(k:Int)/4=-1000-((k/4:Nat):Int):=E0;generalize (-1000:Int)-((k/4:Nat):Int)=mk at *;go_wp2_with fail
       go_loop [8] (fun i=>∃j:Nat,j<=m/\i=.int .i64 j) (fun i=>m-(intOf i).toNat)
       case atStart=>exact⟨0,Nat.zero_le _,rfl⟩
       case round=>
        obtain⟨j,hj,rfl⟩:=hrel;by_cases YU:j<m
        ·obtain⟨b2,o2,rfl,hc⟩:=HS.out.at E0;have d0:=hc j E0;rw[if_pos E0]at d0;clear hc;have hl3:(j:Int)<(m:Int):=by omega
         exact Ph
        ·obtain rfl:j=m:=by omega
         exact Qh
      ·obtain rfl:k=nC:=by omega
       exact Wc
section
variable {P:Program}(w:ui)
theorem QF(t ty:TypeId)(base:Nat)(e:TypeId)(i:TypeInfo)(z:ti)(size bytes:Nat)(ht:P.underlying t=yi (.slice e))(hi:P.info? e=yi i)(hz:i.zero=yi z)
  (hsize:i.size=size)(RG:i.bytes=bytes)(hzs:z.cells.size=size)(hsz:0<size)
  (v:ti)(n:Nat)(xs:List ti)(rj:w.ownsRow base e size v n xs)
  (ad:Addr)(m c:Nat)(news:List ti)(hl:news.length=m*size)(Zq:∀j u,news[j]?=yi u->w.cell? (ad.add j)=yi u)(h1:∀u∈news,u.oneCell'=ji)
  (hm:0<m)(zV:n+m<=maxLen)(iu:(n+m)*bytes<=140737488355328)(iz:base<=w.heap.size):
  ∃g cap w',(Builtin.append_ #[t,t] ty #[v,.slice (yi ad) m c]).run P w=.ok (.slice (yi ⟨g,0,Ai⟩) (n+m) cap) w'/\
   w'.ownsRow base e size (.slice (yi ⟨g,0,Ai⟩) (n+m) cap) (n+m) (xs++news)/\w.grownBy w' v.ownBlock/\(v.ownBlock=yi g\/g=w.heap.size)/\g<w'.heap.size/\w'.ownsRow base e size v n xs/\(∀b j u,w.cell? ⟨b,j,Ai⟩=yi u->(n*size<=j/\j<n*size+news.length/\w'.cell? ⟨b,j,Ai⟩=news[j-n*size]?)\/w'.cell? ⟨b,j,Ai⟩=yi u):=by
 obtain⟨g,cap,w',hr,h2,h3,h4,h5⟩:=run_append_lies (P:=P) w t ty base e i z size bytes ht hi hz hsize RG hzs hsz v n xs rj ad m c news hl Zq h1 hm zV iu iz _ rfl;refine⟨g,cap,w',hr,h2,h3,h4,h5,?_⟩;subst hsize;subst RG
 rcases rj.2 with⟨rfl,rfl⟩|⟨g0,yj,cur,rfl,IQ,hg,hnc,hcm,hcs,RU⟩
 ·exact⟨⟨rj.1,.inl ⟨rfl,rfl⟩⟩,fun b j u hu=>.inr (h3.cell hu V4)⟩
 ·by_cases XC:n+m<=yj
  ·have qH:n*i.size+news.length<=cur.size:=by rw[hl,hcs,<-Nat.add_mul];exact Nat.mul_le_mul_right _ XC
   have pS:=run_append_room (P:=P) w t ty e i ht hi g0 n yj cur hg ad m c news hl Zq h1 XC qH;rw[pS]at hr;injection hr with _ hw
   subst hw;refine⟨⟨rj.1,.inr ⟨g0,yj,_,rfl,IQ,setRow_heap w g0 cur _ e _ hg,hnc,hcm,?_,?_⟩⟩,fun b j u hu=>?_⟩
   ·simp only[List.size_toArray,List.length_append,List.length_take,List.length_drop,Array.length_toList];omega
   ·have hx:(cur.toList.take (n*i.size)).length=n*i.size:=by rw[RU];exact rj.1
    rw[List.append_assoc];exact(List.take_left' hx).trans RU
   ·by_cases hb:b=g0
    ·subst hb;have MI:cur[j]?=yi u:=by
      have:=hu;unfold World.cell? at this;rw[hg]at this;exact Yc
     have hj:j<cur.size:=(Array.getElem?_eq_some_iff.1 MI).1;have hlen:(cur.toList.take (n*i.size)).length=n*i.size:=by rw[RU];exact rj.1
     have hcell:∀vs:List ti,(w.setRow b vs.toArray).cell? ⟨b,j,Ai⟩=vs[j]?:=fun vs=>by
      unfold World.cell?;rw[setRow_heap w b cur _ e _ hg];simp
     rw[hcell];by_cases h6:j<n*i.size
     ·right
      rw[List.append_assoc,List.getElem?_append_left E0,List.getElem?_take_of_lt h6];simpa using MI
     ·by_cases h7:j<n*i.size+news.length
      ·left
       refine⟨E0,h7,?_⟩;rw[List.append_assoc,List.getElem?_append_right E0,List.getElem?_append_left E0,hlen]
      ·right
       rw[List.append_assoc,List.getElem?_append_right E0,List.getElem?_append_right E0,hlen,List.getElem?_drop,show n*i.size+news.length+(j-n*i.size-news.length)=j by omega];simpa using MI
    ·right
     exact h3.cell hu s6
  ·have holds:∀j u,xs[j]?=yi u->w.cell? ((⟨g0,0,Ai⟩:Addr).add j)=yi u:=rj.cells (g:=g0) rfl;have pS:=run_append_grow (P:=P) w t ty e i z ht hi hz ⟨g0,0,Ai⟩ n yj xs rj.1 holds ad m c news hl Zq E0 (by simp only[maxLen]at zV;omega) (growslice_fits E0 iu);rw[pS]at hr;injection hr with _ hw
   subst hw;have hG:w.grownBy (w.drew.alloc (.cells (xs.toArray++news.toArray++Builtin.zeroCells z.cells (grownCap w (n+m) yj e-(n+m))) e)) none:=⟨rfl,rfl,rfl,P0,fun k hk _=>heap_alloc_old w.drew _ hk⟩;exact⟨rj.kept (row:=Ai) hG V4,fun b j u hu=>.inr (hG.cell hu P0)⟩
theorem xm{ops:Array Oper}{rest:List Oper}{o:Oper}{a:Act}{Q:Exit->Act->ui->Prop}(UK:o.guard=Ai)(s x:Operand)(t:TypeId)
  (ho:o.op=.call {callee:=.builtin .append,args:=#[s,x],argTypes:=#[t,t]})
  (base:Nat)(e:TypeId)(z:ti)(size bytes:Nat)(ht:P.underlying t=yi (.slice e))(Xr:(P.info? e).map (fun i=>(i.zero,i.size,i.bytes))=yi (yi z,size,bytes))
  (hzs:z.cells.size=size)(hsz:0<size)(v:ti)(n:Nat)(xs:List ti)(hs:a.eval s=v)(rj:w.ownsRow base e size v n xs)
  (B m:Nat)(news:List ti)(ty:TypeId)(hx:a.eval x=.slice (yi ⟨B,0,Ai⟩) m m)(hl:news.length=m*size)(Nk:w.heap[B]?=yi (.cells news.toArray ty (0,0)))(h1:∀u∈news,u.oneCell'=ji)
  (hm:0<m)(zV:n+m<=maxLen)(iu:(n+m)*bytes<=140737488355328)(iz:base<=w.heap.size)
  (h:∀g cap w',w'.ownsRow base e size (.slice (yi ⟨g,0,Ai⟩) (n+m) cap) (n+m) (xs++news)->w.grownBy w' v.ownBlock->(v.ownBlock=yi g\/g=w.heap.size)->g<w'.heap.size->w'.ownsRow base e size v n xs->(∀b j u,w.cell? ⟨b,j,Ai⟩=yi u->(n*size<=j/\j<n*size+news.length/\w'.cell? ⟨b,j,Ai⟩=news[j-n*size]?)\/w'.cell? ⟨b,j,Ai⟩=yi u)->wpList P ops Q rest (a.put o.dst (.slice (yi ⟨g,0,Ai⟩) (n+m) cap)) w'):wpList P ops Q (o::rest) a w:=by
 obtain⟨i,h2,h3,h4,h5⟩:=info_parts Xr;obtain⟨g,cap,w',hr,k2,k3,k4,k5,k6,k7⟩:=QF (P:=P) w t o.type base e i z size bytes ht h2 h3 h4 h5 hzs hsz v n xs rj ⟨B,0,Ai⟩ m m news hl (by
  have:=World.news_of_block Nk;simpa using this) h1 hm zV iu iz
 refine wpList_plain UK fun _ hK=>?_;refine Ef ?_;exact hK _ _ (h g cap w' k2 k3 k4 k5 k6 k7)
end
def pat(k i j:Nat):Value:=.int .i64 (if j%k=0 then -1000-((i/4:Nat):Int)else 0)
def Gk(k i m:Nat):List Value:=(List.range (m*k)).map (pat k i)
theorem Qu(k i m j:Nat):(Gk k i m)[j]?=if j<m*k then yi (pat k i j)else none:=by
 unfold Gk;rw[List.getElem?_map];by_cases h:j<m*k
 ·rw[List.getElem?_range h,if_pos h];rfl
 ·rw[if_neg h,List.getElem?_eq_none Y2];rfl
theorem Ip(k i m:Nat):(Gk k i m).length=m*k:=by simp[Gk]
theorem FK(k i m j:Nat)(h:m*k<=j):pat k i (j-m*k)=pat k i j:=by
 unfold pat;have:(j-m*k)%k=j%k:=by
  rw[show j=(j-m*k)+m*k by omega,Nat.add_sub_cancel,Nat.add_mul_mod_self_right]
 rw[this]
theorem UR(k i m q:Nat):Gk k i m++Gk k i q=Gk k i (m+q):=by
 apply List.ext_getElem?;intro j;rw[Qu,List.getElem?_append,Ip];by_cases h:j<m*k
 ·rw[if_pos h,Qu,if_pos h,if_pos (by rw[Nat.add_mul];omega)]
 ·rw[if_neg h,Qu];by_cases h2:j-m*k<q*k
  ·rw[if_pos h2,if_pos (by rw[Nat.add_mul];omega),FK _ _ _ _ E0]
  ·rw[if_neg h2,if_neg (by rw[Nat.add_mul];omega)]
section
variable {w w' w0:ui}{base e size n cap g:Nat}{xs:List ti}{k i m:Nat}{v l:ti}
theorem Tz(h:w.ownsRow base e size (.slice (yi ⟨g,0,Ai⟩) n cap) n xs)(j:Nat)(u:ti):(w.setCell ⟨g,j,Ai⟩ u).ownsRow base e size (.slice (yi ⟨g,0,Ai⟩) n cap) n (xs.set j u):=by
 rcases h with⟨hl,⟨hv,_⟩|⟨g',qO,cur,hv,hb,hg,h1,h2,h3,h4⟩⟩
 ·cases hv
 ·simp only[Value.slice.injEq,Option.some.injEq,Addr.mk.injEq]at hv;obtain⟨⟨rfl,-⟩,-,rfl⟩:=hv;refine⟨by simp[hl],.inr ⟨g,cap,cur.setIfInBounds j u,rfl,hb,heap_setCell_same w g j cur e u hg,h1,h2,by simp[h3],?_⟩⟩;rw[Array.toList_setIfInBounds,List.take_set,h4]
theorem Zx(h:w.ownsRow base e size (.slice (yi ⟨g,0,Ai⟩) n cap) n xs)(j:Nat):w.frozen? ⟨g,j,Ai⟩=false:=by
 rcases h with⟨hl,⟨hv,_⟩|⟨g',qO,cur,hv,hb,hg,h1,h2,h3,h4⟩⟩
 ·cases hv
 ·simp only[Value.slice.injEq,Option.some.injEq,Addr.mk.injEq]at hv;obtain⟨⟨rfl,-⟩,-,rfl⟩:=hv;unfold World.frozen?;simp[hg]
theorem Marked.jU(h:w.ownsRow base e k v m (Gk k i m))(hm:m<=1000000000000):Marked w k v i:=by
 rcases h.2 with⟨rfl,rfl⟩|⟨g,cap,cur,rfl,_⟩
 ·exact⟨Ai,0,0,rfl,E0,.inl rfl⟩
 ·exact⟨_,m,cap,rfl,hm,.inr ⟨g,rfl,fun j hj=>Am h (by rw[Qu,if_pos hj];rfl)⟩⟩
theorem Marked.append{n q:Nat}{u:ti}(h:Marked w k u i)(hK:∀b j x,w.cell? ⟨b,j,Ai⟩=yi x->(n*k<=j/\j<n*k+(Gk k i q).length/\w'.cell? ⟨b,j,Ai⟩=(Gk k i q)[j-n*k]?)\/w'.cell? ⟨b,j,Ai⟩=yi x):Marked w' k u i:=by
 obtain⟨p,m,c,h1,h2,h3⟩:=h;refine⟨p,m,c,h1,h2,h3.imp id fun ⟨b,hb,hc⟩=>⟨b,hb,fun j hj=>?_⟩⟩;rcases hK b j _ (hc j hj)with⟨e1,e2,e3⟩|e3
 ·rw[Ip]at e2;rw[e3,Qu,if_pos E0,FK _ _ _ _ e1];rfl
 ·exact e3
theorem Marked.heap{u:ti}(h:Marked w k u i)(he:∀b,u.ownBlock=yi b->w'.heap[b]?=w.heap[b]?):Marked w' k u i:=by
 obtain⟨p,m,c,rfl,h2,h3⟩:=h;refine⟨p,m,c,rfl,h2,h3.imp id fun ⟨b,hb,hc⟩=>⟨b,hb,fun j hj=>?_⟩⟩;subst hb;rw[World.cell?_of_block (a:=⟨b,j,Ai⟩) (he b rfl)];exact hc j hj
theorem ay{w w':ui}{base e size n:Nat}{v:ti}{xs:List ti}(h:w.ownsRow base e size v n xs)(he:∀b,v.ownBlock=yi b->w'.heap[b]?=w.heap[b]?):w'.ownsRow base e size v n xs:=by
 rcases h with⟨hl,⟨hv,hn⟩|⟨g,cap,cur,hv,hb,hg,h1,h2,h3,h4⟩⟩
 ·exact⟨hl,.inl ⟨hv,hn⟩⟩
 ·exact⟨hl,.inr ⟨g,cap,cur,hv,hb,(he g (by rw[hv];rfl)).trans hg,h1,h2,h3,h4⟩⟩
theorem ak.setB{w0 w:ui}{base b:Nat}(h:ak (fun j=>base<=j) w0 w)(hb:base<=b)(j:Nat)(v:ti):ak (fun j=>base<=j) w0 (w.setCell ⟨b,j,Ai⟩ v):=
 ⟨h.os,h.tape,h.output,X5,fun k hk hn=>(heap_setCell_other _ _ _ _ (fun e=>hn (by rw[e];exact hb))).trans (h.block k hk hn)⟩
structure nz(w0:ui)(base e k i m:Nat)(l:ti)(us:List ti)(w:ui):Prop where
 but:ak (fun j=>base<=j) w0 w
 own:w.ownsRow base e k l m (Gk k i m)
 full:∀u,u∈us->Marked w k u i
 ub:∀u,u∈us->∀b,u.ownBlock=yi b->base<=b/\b<w.heap.size
theorem nz.app{wA:ui}{us:List ti}{q g cap:Nat}(h:nz w0 base e k i m l us w)(hA:Below w.heap.size w wA)(ho:w'.ownsRow base e k (.slice (yi ⟨g,0,Ai⟩) (m+q:Nat) cap) (m+q) (Gk k i m++Gk k i q))(hg:wA.grownBy w' l.ownBlock)(hl:w'.ownsRow base e k l m (Gk k i m))
  (hK:∀b j x,wA.cell? ⟨b,j,Ai⟩=yi x->(m*k<=j/\j<m*k+(Gk k i q).length/\w'.cell? ⟨b,j,Ai⟩=(Gk k i q)[j-m*k]?)\/w'.cell? ⟨b,j,Ai⟩=yi x)(hm:m+q<=1000000000000):
  nz w0 base e k i m l (us++[.slice (yi ⟨g,0,Ai⟩) (m+q:Nat) cap]) w':=by
 have hs:w.heap.size<=w'.heap.size:=Nat.le_trans hA.size hg.size;refine⟨⟨hg.os.trans (hA.os.trans h.but.os),hg.tape.trans (hA.tape.trans h.but.tape),hg.output.trans (hA.output.trans h.but.output),Nat.le_trans h.but.size hs,fun b hb hn=>?_⟩,hl,fun u hu=>?_,fun u hu b hb=>?_⟩
 ·have uk:b<w.heap.size:=Nat.lt_of_lt_of_le hb h.but.size;rw[hg.block b (Nat.lt_of_lt_of_le uk hA.size) (fun e=>hn (h.own.lt b e.symm).1),hA.block b uk];exact h.but.block b hb hn
 ·rcases List.mem_append.1 hu with hu|hu
  ·exact((h.full u hu).heap (w':=wA) fun b hb=>hA.block b (h.ub u hu b hb).2).append hK
  ·rw[List.mem_singleton.1 hu];rw[UR]at ho;exact Marked.jU ho hm
 ·rcases List.mem_append.1 hu with hu|hu
  ·exact⟨(h.ub u hu b hb).1,Nat.lt_of_lt_of_le (h.ub u hu b hb).2 hs⟩
  ·rw[List.mem_singleton.1 hu]at hb;exact ho.lt b hb
structure ou(w0:ui)(base S B c tB t k i:Nat)(fB:Nat->ti)(ve:ti)(us:List ti)(v:ti)(n:Nat)(xs:List ti)(w:ui):Prop where
 but:ak (fun j=>j=B\/ve.ownBlock=yi j\/base<=j) w0 w
 sz:S<=w.heap.size
 full:∀u,u∈us->Marked w k u i
 ub:∀u,u∈us->∀b,u.ownBlock=yi b->base<=b/\b<S
 row:Ei w B 5 tB (fun j=>if j=c then v else fB j)
 own:w.ownsRow 0 t 1 v n xs
 blk:∀b,v.ownBlock=yi b->ve.ownBlock=yi b\/S<=b
theorem ou.app{wA:ui}{us:List ti}{S B c tB t g cap:Nat}{fB:Nat->ti}{ve u v:ti}{n:Nat}{xs:List ti}(h:ou w0 base S B c tB t k i fB ve us v n xs w)(hA:Below w.heap.size w wA)(ho:w'.ownsRow 0 t 1 (.slice (yi ⟨g,0,Ai⟩) (n+1:Nat) cap) (n+1) (xs++[u]))(hg:wA.grownBy w' v.ownBlock)(hat:v.ownBlock=yi g\/g=wA.heap.size)
  (JK:B<base)(hB2:ve.ownBlock≠yi B)(hve:∀b,ve.ownBlock=yi b->b<base)(hbS:base<=S)(h0S:w0.heap.size<=S):
  ou w0 base S B c tB t k i fB ve us (.slice (yi ⟨g,0,Ai⟩) (n+1:Nat) cap) (n+1) (xs++[u]) (w'.setCell ⟨B,c,Ai⟩ (.slice (yi ⟨g,0,Ai⟩) (n+1:Nat) cap))/\Ei w' B 5 tB (fun j=>if j=c then v else fB j):=by
 have hs:w.heap.size<=w'.heap.size:=Nat.le_trans hA.size hg.size;have aK:v.ownBlock≠yi B:=fun e=>by
  rcases h.blk B e with e|e
  ·exact hB2 e
  ·omega
 have hr:Ei w' B 5 tB (fun j=>if j=c then v else fB j):=(h.row.of_heap (hA.block B h.row.lt)).of_heap (hg.block B (Nat.lt_of_lt_of_le h.row.lt hA.size) (fun e=>aK e.symm));have hSA:S<=wA.heap.size:=Nat.le_trans h.sz hA.size;refine⟨⟨⟨hg.os.trans (hA.os.trans h.but.os),hg.tape.trans (hA.tape.trans h.but.tape),hg.output.trans (hA.output.trans h.but.output),E6,fun b hb hn=>?_⟩,by rw[size_setCell];exact Nat.le_trans h.sz hs,fun x hx=>?_,h.ub,(hr.set c _).congr fun j _=>?_,?_,fun b hb=>?_⟩,hr⟩
 ·have uk:b<w.heap.size:=Nat.lt_of_lt_of_le hb h.but.size;rw[heap_setCell_other _ _ _ _ (fun e=>hn (.inl e)),hg.block b (Nat.lt_of_lt_of_le uk hA.size) (fun e=>by
   rcases h.blk b e.symm with e|e
   ·exact hn (.inr (.inl e))
   ·omega),hA.block b uk]
  exact h.but.block b hb hn
 ·refine(h.full x hx).heap fun b hb=>?_;have uk:=h.ub x hx b hb;have z_:b<w.heap.size:=Nat.lt_of_lt_of_le uk.2 h.sz;rw[heap_setCell_other _ _ _ _ (by show b≠B;omega),hg.block b (Nat.lt_of_lt_of_le z_ hA.size) (fun e=>by
   rcases h.blk b e.symm with e|e
   ·have:=hve b e;omega
   ·omega),hA.block b z_]
 ·by_cases e:j=c
  ·rw[if_pos e,if_pos e]
  ·rw[if_neg e,if_neg e,if_neg e]
 ·have hgB:g≠B:=fun e=>by
   subst e;rcases hat with e|e
   ·exact aK e
   ·omega
  exact ho.kept (row:=yi B) ⟨rfl,rfl,rfl,by rw[size_setCell];exact Nat.le_refl _,fun j _ Jj=>heap_setCell_other _ _ _ _ (fun e=>Jj (by rw[e]))⟩ (.inr (by simpa[Value.ownBlock]using hgB))
 ·have hgb:g=b:=by simpa[Value.ownBlock]using hb
  subst hgb;rcases hat with e|e
  ·exact h.blk g e
  ·exact .inr E0
end
end Go.Proofs.YtdoghgnifkgfdaaGreat
