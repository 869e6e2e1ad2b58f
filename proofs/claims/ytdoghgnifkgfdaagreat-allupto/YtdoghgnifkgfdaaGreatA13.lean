import Derived.Test.YtdoghgnifkgfdaaGreatA12
set_option maxRecDepth 100000
set_option maxHeartbeats 16000000
open Option renaming none->Hn,some->Gn
open Go renaming World->En,Value->Dn,undef->Bn,Goroutine->zn,heap_setCell_other->yn,Calls->Zm,Program->Ym,Frame->Xm,Addr->Vm
open Bool renaming true->Um,false->Tm
open Go.RowKit renaming Below->Sm
open Go.Conc renaming run_eq_of->Rm
open Nat renaming le_trans->Qm,zero_le->Pm,le_refl->Om,lt_of_lt_of_le->Lm,add_assoc->Jm
open List renaming getElem?_append_left->Em
namespace Go.Proofs.YtdoghgnifkgfdaaGreat.Mute
open Tryz Go Go.Conc Go.RowKit
section
variable {L:Bt}{w0 w:En}{T nC cell m:Nat}{f:Nat->Dn}{xs:List Dn}
section
variable (h:Ms L w0 T nC f cell m xs w)
include h
theorem Ms.still{b:Nat}(hs:Bq L w0 b):w.heap[b]?=w0.heap[b]?:=by
 exact vg
theorem Ms.Xo{a:Vm}(hs:Bq L w0 a.block):w.cell? a=w0.cell? a:=by
 unfold World.cell?;rw[h.still hs]
theorem Ms.zp{b:Nat}(hs:Bq L w0 b){es:Array Event}(Eu:∀e∈es,∃j,e=⟨.cell ⟨b,j,Hn⟩,Tm,Tm⟩):L.D0 w w es:=
 .look w fun e he=>by
  exact Ff
end
end
theorem Ip.oJ{P:Ym}{w:En}{f:FuncId}{args:Array Dn}{R:Dn->En->Prop}{fn:Func}{c:Code}(tm:Array Dn)(hf:P.funcs[f]?=Gn fn)(hb:fn.body=Gn c)(htm:args++Array.replicate (fn.ntmps-args.size) Bn=tm)
  (h:∀(cs:List Xm)(Post:zn->En->Prop),(∀(a:Act)(todo:List Item)(v:Dn)(w':En),a.defers=[]->(∀d,(results fn a.tmps).run P (w'.at d)=.ok v (w'.at d))->R v w'->Ko P Post (G {(base f).at a todo with mode:=.returning} cs) w')->
   Ko P Post (G ((base f).at {tmps:=tm,defers:=[]} [.code c]) cs) w):Ip P f args w R:=by
 subst htm;exact Ip.intro hf hb h
theorem Pn.Mg0{P:Ym}{main:Bool}{R:En->En->Prop}{D:En->En->Array Event->Prop}{Bo:zn->En->Prop}{b:Xm}{a:Act}{k:List Item}{cs:List Xm}{w:En}{ops:Array Oper}{i:Nat}{rest:List Nat}{o:Oper}{v:Dn}(T:Terms R D)(ho:ops[i]?=Gn o)(hw:Region.wanted o (yielded ops a.tmps)=Um)(hk:b.kind≠.early)
  (hr:∀w₁,(execOp a.eval o).run P w₁=.ok (.value v) w₁)(he:∀w₁,(execOp a.eval o).events P w₁ #[]=#[])(h:Pn P main R D Bo (G (b.at (a.put o.dst v) (.inRegion ops rest::k)) cs) w):Pn P main R D Bo (G (b.at a (.inRegion ops (i::rest)::k)) cs) w:=
 Pn.op ho hw hk fun w₁ r K hK=>by
  rw[hr w₁];exact hK _ _ ⟨by rw[listed_nil (he w₁)];exact T.idle _,h.rely T.trans r⟩
structure RA where
 kb:Nat
 C:Nat
 T:Nat
 nC:Nat
 cC:Nat
 nb:Nat
 g:Nat->Nat
 cb:Nat->Nat
 co:Nat->Nat
 n:Nat->Nat
 cc:Nat->Nat
 num:Nat->Int
 ci:Nat->Nat->Int
section
variable {w w':En}{k:RA}{z:Nat->Nat->Int}{f f':Nat->Dn}{m:Nat->Nat}{xs:Nat->List Dn}
theorem kT{w:En}{v:Dn}{m:Nat}{xs:List Dn}(h:w.ownsRow 0 111 3 v m xs){b:Nat}(hb:v.ownBlock=Gn b):∃cs fz,w.heap[b]?=Gn (.cells cs 111 fz):=by
 rcases h.2 with⟨hx,_⟩|⟨g0,yp,Ov,hx,_,hg,_⟩
 ·rw[hx]at hb;exact Vi
 ·rw[hx]at hb;have:g0=b:=by simpa[Value.ownBlock]using hb
  subst this;exact⟨_,_,hg⟩
theorem Zw{g n t:Nat}{f:Nat->Dn}(hr:Tn w g n t f)(ht:t≠111){v:Dn}{m:Nat}{xs:List Dn}(ho:w.ownsRow 0 111 3 v m xs):v.ownBlock≠Gn g:=fun e=>by
 obtain⟨cs,fz,h1⟩:=kT ho e;obtain⟨cs',h2,_⟩:=hr;rw[h1]at h2;injection h2 with h2
 injection h2 with _ h2
 exact ht h2.symm
theorem dx{g g' n n' t t':Nat}{f f':Nat->Dn}(hr:Tn w g n t f)(LY:Tn w g' n' t' f')(ht:t≠t'):g≠g':=Fz hr LY ht
def Qo{α:Type}(x:Nat->α)(i:Nat)(v:α)(j:Nat):α:=if j=i then v else x j
theorem Yn{α:Type}(x:Nat->α)(i:Nat)(v:α):Qo x i v i=v:=if_pos rfl
theorem Oo{α:Type}(x:Nat->α){i j:Nat}(v:α)(h:j≠i):Qo x i v j=x j:=if_neg h
section
variable {cell:Nat}{z':Nat->Int}{m':Nat}{bG:List Dn}
theorem Zn{a:Vm}(e:w'.heap[a.block]?=w.heap[a.block]?):w'.cell? a=w.cell? a:=by
 unfold World.cell?;rw[e]
end
end
structure RC where
 z:Nat->Int
 s:Int
 v:Dn
 b:Bool
 nt:Dn
def Ez(c:RC)(j:Nat):Value:=if j<21 then .int .i64 (c.z (25+j))else if j=21 then c.nt else if j=22 then c.v else if j=23 then .int .i64 c.s else if j=24 then .int .i64 (c.z 47)else .bool c.b
def yq(R:Nat->RC)(j:Nat):Value:=Ez (R (j/26)) (j%26)
theorem o00(R:Nat->RC)(n:Nat){i:Nat}(hi:i<26):yq R (n*26+i)=Ez (R n) i:=by
 unfold yq;rw[show (n*26+i)/26=n by omega,show (n*26+i)%26=i by omega]
theorem fD{R:Nat->RC}{n i:Nat}{v:Dn}{c':RC}(hi:i<26)(h:∀j,j<26->Ez c' j=if j=i then v else Ez (R n) j)(j:Nat):(if j=n*26+i then v else yq R j)=yq (Qo R n c') j:=by
 unfold yq;by_cases e:j/26=n
 ·rw[e,Yn,h _ (Nat.mod_lt _ E0)];by_cases e2:j%26=i
  ·rw[if_pos e2,if_pos E0]
  ·rw[if_neg e2,if_neg E0]
 ·rw[Oo _ _ e,if_neg E0]
section
variable {w:En}{G m t n i a:Nat}{R:Nat->RC}
theorem Ag0(c:RC){i:Nat}(hi:i<21)(x:Int)(j:Nat):Ez {c with z:=Wn c.z (25+i) x} j=if j=i then .int .i64 x else Ez c j:=by
 unfold Ez;by_cases h:j<21
 ·rw[if_pos h,if_pos h];by_cases e:j=i
  ·subst e;rw[if_pos rfl];show Value.int .i64 (Wn c.z (25+j) x (25+j))=_;rw[uv]
  ·rw[if_neg e];show Value.int .i64 (Wn c.z (25+i) x (25+j))=_;rw[Kr _ _ E0]
 ·have e:j≠i:=by omega
  rw[if_neg e,if_neg h,if_neg h];show (if j=21 then _ else if j=22 then _ else if j=23 then _ else if j=24 then Value.int .i64 (Wn c.z (25+i) x 47)else _)=_;rw[Kr _ _ E0]
section
variable (h:Tn w G m t (yq R))
include h
theorem Tn.rz(hi:i<21)(ha:a=n*26+i)(x:Int):Tn (w.setCell ⟨G,a,Hn⟩ (.int .i64 x)) G m t (yq (Qo R n {R n with z:=Wn (R n).z (25+i) x})):=by
 subst ha;exact(h.set _ _).congr fun j _=>fD E0 (fun j _=>Ag0 _ hi x j) j
theorem Tn.rv(ha:a=n*26+22)(v:Dn):Tn (w.setCell ⟨G,a,Hn⟩ v) G m t (yq (Qo R n {R n with v:=v})):=by
 subst ha;refine(h.set _ _).congr fun j _=>fD E0 (fun j _=>?_) j;unfold Ez;by_cases e:j=22
 ·subst e;rfl
 ·simp only[e,if_false]
theorem Tn.rs(ha:a=n*26+23)(x:Int):Tn (w.setCell ⟨G,a,Hn⟩ (.int .i64 x)) G m t (yq (Qo R n {R n with s:=x})):=by
 subst ha;refine(h.set _ _).congr fun j _=>fD E0 (fun j _=>?_) j;unfold Ez;by_cases e:j=23
 ·subst e;rfl
 ·simp only[e,if_false]
theorem Tn.r47(ha:a=n*26+24)(x:Int):Tn (w.setCell ⟨G,a,Hn⟩ (.int .i64 x)) G m t (yq (Qo R n {R n with z:=Wn (R n).z 47 x})):=by
 subst ha;refine(h.set _ _).congr fun j _=>fD E0 (fun j _=>?_) j;unfold Ez;by_cases e:j=24
 ·subst e;show Value.int .i64 (Wn (R n).z 47 x 47)=_;rw[uv];rfl
 ·by_cases h:j<21
  ·rw[if_pos h,if_pos h,if_neg e];show Value.int .i64 (Wn (R n).z 47 x (25+j))=_;rw[Kr _ _ E0]
  ·simp only[e,h,if_false]
theorem Tn.rb(ha:a=n*26+25)(x:Bool):Tn (w.setCell ⟨G,a,Hn⟩ (.bool x)) G m t (yq (Qo R n {R n with b:=x})):=by
 subst ha;refine(h.set _ _).congr fun j _=>fD E0 (fun j hj=>?_) j;unfold Ez;by_cases e:j=25
 ·subst e;rfl
 ·rw[if_neg e];by_cases h:j<21
  ·rw[if_pos h,if_pos h]
  ·simp only[h,if_false];repeat' split
   all_goals first
    |rfl
    |omega
theorem Tn.rn(ha:a=n*26+21)(v:Dn):Tn (w.setCell ⟨G,a,Hn⟩ v) G m t (yq (Qo R n {R n with nt:=v})):=by
 subst ha;refine(h.set _ _).congr fun j _=>fD E0 (fun j _=>?_) j;unfold Ez;by_cases e:j=21
 ·subst e;rfl
 ·simp only[e,if_false]
end
theorem Es{α:Type}(x:Nat->α)(i:Nat)(a b:α):Qo (Qo x i a) i b=Qo x i b:=by
 funext j
 unfold Qo;split<;>rfl
theorem Tn.ZF{zz:Nat->Int}(h:Tn w G m t (yq (Qo R n {R n with z:=zz})))(hi:i<21)(ha:a=n*26+i)(x:Int):Tn (w.setCell ⟨G,a,Hn⟩ (.int .i64 x)) G m t (yq (Qo R n {R n with z:=Wn zz (25+i) x})):=by
 have:=Tn.rz h hi ha x;rw[Es,Yn]at this;exact Vh
theorem qB{c:RC}{z1 z2:Nat->Int}(h:∀j,(25<=j/\j<46)\/j=47->z1 j=z2 j)(j:Nat):Ez {c with z:=z1} j=Ez {c with z:=z2} j:=by
 unfold Ez;by_cases h1:j<21
 ·rw[if_pos h1,if_pos h1];show Value.int .i64 (z1 (25+j))=.int .i64 (z2 (25+j));rw[h _ E0]
 ·rw[if_neg h1,if_neg h1];show (if j=21 then _ else if j=22 then _ else if j=23 then _ else if j=24 then Value.int .i64 (z1 47)else _)=_;rw[h 47 (.inr rfl)]
theorem Tn.rc{z1 z2:Nat->Int}(h:Tn w G m t (yq (Qo R n {R n with z:=z1})))(he:∀j,(25<=j/\j<46)\/j=47->z1 j=z2 j):Tn w G m t (yq (Qo R n {R n with z:=z2})):=h.congr fun j _=>by
 unfold yq;by_cases e:j/26=n
 ·rw[e,Yn,Yn];exact qB he _
 ·rw[Oo _ _ e,Oo _ _ e]
theorem Tn.r0(h:Tn w G m t (yq R))(n:Nat):Tn w G m t (yq (Qo R n {R n with z:=(R n).z})):=h.congr fun j _=>by
 unfold yq;by_cases e:j/26=n
 ·rw[e,Yn]
 ·rw[Oo _ _ e]
theorem Tn.rat(h:Tn w G m t (yq R))(hi:i<26)(ha:a=n*26+i)(hm:a<m):w.cell? ⟨G,a,Hn⟩=Gn (Ez (R n) i):=by
 subst ha;rw[h.cell hm,o00 _ _ hi]
end
theorem Lr{w w':En}{b e s n:Nat}{v:Dn}{xs:List Dn}(h:w.ownsRow b e s v n xs)(hb:∀g,v.ownBlock=Gn g->w'.heap[g]?=w.heap[g]?):w'.ownsRow b e s v n xs:=by
 rcases h with⟨hl,hv|⟨g,cap,Ov,rfl,hg,hh,h1⟩⟩
 ·exact⟨hl,.inl hv⟩
 ·exact Hl
section
variable {wR w w':En}{k:RA}{z:Nat->Nat->Int}{f:Nat->Dn}{m:Nat->Nat}{xs:Nat->List Dn}{Wx wo nW:Nat}{wn:Nat->Nat×Nat}
theorem CQ{g n t:Nat}{e:Nat->Dn}(h:Tn w g n t e)(r:RS w w'):Tn w' g n t e:=by
 obtain⟨d,rfl⟩:=r;exact h
def pair(a b:Nat)(j:Nat):Value:=if j=0 then .int .i64 a else .int .i64 b
end
theorem DJ(Q:Nat->RC)(n:Nat)(x:Int){i:Nat}(hi:i<20):Ez (Qo Q n {Q n with z:=Wn (Q n).z 45 x} n) i=.int .i64 ((Q n).z (25+i)):=by
 rw[Yn];unfold Ez;rw[if_pos E0];show Value.int .i64 (Wn _ 45 x (25+i))=_;rw[Kr _ _ E0]
theorem tp{w W:En}{g:Nat}(h:Jq (fun j=>j=g) w W)(j:Nat)(v:Dn):Jq (fun j=>j=g) w (W.setCell ⟨g,j,Hn⟩ v):=⟨h.os,h.tape,h.output,j6,fun k hk hn=>(yn _ _ _ _ hn).trans (h.block k hk hn)⟩
theorem J50(x y:Int)(hy:y≠0)(w:En):Zm prog 114 #[.int .i64 5,.int .i64 x,.int .i64 y] w fun e w'=>e=.returned (.tuple #[.int .i64 (wrap64 (x.tdiv y)),.bool Um])/\w'=w:=by
 by_cases h1:y=-1
 ·subst h1;have e:x.tdiv (-1)=-x:=by simp
  rw[e];exact L50 x w
 ·exact M50 x y w (by simpa using hy) K5
theorem qc0(Q:Nat->RC)(n:Nat)(x:Int):Ez (Qo Q n {Q n with z:=Wn (Q n).z 45 x} n) 22=(Q n).v:=by
 rw[Yn];rfl
theorem Qv{w:En}{v:Dn}{base e s m:Nat}{xs:List Dn}(h:w.ownsRow base e s v m xs){b:Nat}(hb:v.ownBlock=Gn b):b<w.heap.size:=(h.lt b hb).2
structure yH(w W w1:En)(Gc:Nat)(v:Dn)(e s g cap m:Nat)(xs:List Dn):Prop where
 b1:Jq (fun j=>j=Gc) w W
 os:w1.os=W.os
 tape:w1.tape=W.tape
 output:w1.output=W.output
 size:W.heap.size<=w1.heap.size
 block:∀b,b<W.heap.size->v.ownBlock≠Gn b->w1.heap[b]?=W.heap[b]?
 own:w1.ownsRow 0 e s (.slice (Gn ⟨g,0,Hn⟩) m cap) m xs
 at':v.ownBlock=Gn g\/W.heap.size<=g
 ne:v.ownBlock≠Gn Gc
 lt:Gc<W.heap.size
section
variable {w W w1:En}{Gc:Nat}{v:Dn}{e s g cap m j:Nat}{xs:List Dn}{x:Dn}
section
variable (h:yH w W w1 Gc v e s g cap m xs)
include h
theorem yH.but:Jq (fun j=>j=Gc\/v.ownBlock=Gn j) w (w1.setCell ⟨Gc,j,Hn⟩ x):=by
 refine⟨h.os.trans h.b1.os,h.tape.trans h.b1.tape,h.output.trans h.b1.output,?_,fun k hk hn=>?_⟩
 ·rw[size_setCell];exact Qm h.b1.size h.size
 ·rw[yn _ _ _ _ (fun e=>hn (.inl e)),h.block k (Lm hk h.b1.size) (fun e=>hn (.inr e))];exact h.b1.block k hk (fun e=>hn (.inl e))
theorem yH.rL:(w1.setCell ⟨Gc,j,Hn⟩ x).ownsRow 0 e s (.slice (Gn ⟨g,0,Hn⟩) m cap) m xs:=
 Lr h.own fun b hb=>yn _ (a:=⟨Gc,j,Hn⟩) _ _ (fun e=>by
  have hg:g=b:=D6;subst hg;have e:g=Gc:=e;subst e;rcases h.at' with h1|h1
  ·exact h.ne h1
  ·have:=h.lt;omega)
theorem yH.blk(b:Nat)(hb:(Value.slice (Gn ⟨g,0,Hn⟩) m cap).ownBlock=Gn b):v.ownBlock=Gn b\/w.heap.size<=b:=by
 have hg:g=b:=D6;subst hg;exact h.at'.imp id (Qm h.b1.size)
end
end
theorem C90{w:En}{Gc m t n:Nat}{Q:Nat->RC}{o0 o1 o2 o3:Dn}(hr:Tn w Gc m t (yq Q))(x:Int):
  Tn (World.alloc (w.setCell ⟨Gc,n*26+20,Hn⟩ (.int .i64 x)) (.cells #[o0,o1,o2,o3] 97)).drew.drew Gc m t (yq (Qo Q n {Q n with z:=Wn (Q n).z 45 x}))/\
  Tn (World.alloc (w.setCell ⟨Gc,n*26+20,Hn⟩ (.int .i64 x)) (.cells #[o0,o1,o2,o3] 97)).drew.drew w.heap.size 4 97 (cells4 o0 o1 o2 o3)/\
  Jq (fun j=>j=Gc) w (World.alloc (w.setCell ⟨Gc,n*26+20,Hn⟩ (.int .i64 x)) (.cells #[o0,o1,o2,o3] 97)).drew.drew:=by
 have h1:=Tn.rz (n:=n) (i:=20) hr E0 rfl x;refine⟨h1.alloc _,?_,?_⟩
 ·have:=row4 (w.setCell ⟨Gc,n*26+20,Hn⟩ (.int .i64 x)) o0 o1 o2 o3 97;rw[size_setCell]at this;exact Vh
 ·refine⟨rfl,rfl,rfl,by show _<=(World.alloc _ _).heap.size;simp,fun k hk hn=>?_⟩;show (World.alloc _ _).heap[k]?=_;rw[heap_alloc_old _ _ (by rw[size_setCell];exact hk),yn _ _ _ _ hn]
structure DL(Kb Gc n nC cq bo oo cb co nI cc nx r a:Nat)(op N:Int)(Q:Nat->RC)(w:En):Prop where
 h0:w.cell? ⟨Kb,0,Hn⟩=Gn (.slice (Gn ⟨bo,oo,Hn⟩) nC cq)
 h4:w.cell? ⟨Kb,4,Hn⟩=Gn (.slice (Gn ⟨Gc,0,Hn⟩) nC nC)
 hc:w.cell? ⟨bo,oo+n*3,Hn⟩=Gn (.slice (Gn ⟨cb,co,Hn⟩) nI cc)
 c0:w.cell? ⟨cb,co+nx*4,Hn⟩=Gn (.int .i64 op)
 c1:w.cell? ⟨cb,co+nx*4+1,Hn⟩=Gn (.int .i64 r)
 c2:w.cell? ⟨cb,co+nx*4+2,Hn⟩=Gn (.int .i64 a)
 c3:w.cell? ⟨cb,co+nx*4+3,Hn⟩=Gn (.int .i64 N)
 hr:Tn w Gc (nC*26) 131 (yq Q)
 h45:(Q n).z 45=nx
 hn:n<nC
 hx:nx<nI
 h48:nI<=48
 iL:r<4
 NM:a<4
 _g1:Kb≠Gc
 _g2:bo≠Gc
 _g3:cb≠Gc
theorem Qs{Kb Gc n nC cq bo oo cb co nI cc nx r a:Nat}{N:Int}{Q:Nat->RC}{w:En}{op:Int}{R0 R1 R2 R4 R5 R6 R7 rest:Code}(s:DL Kb Gc n nC cq bo oo cb co nI cc nx r a op N Q w){Rt:Ending->En->Prop}(hb:Tryz.f88.body=Gn (.seq R0 (.seq R1 (.seq R2 (.seq R4 (.seq R5 (.seq R6 (.seq R7 rest))))))))
  (h:∀(B:Nat)(W:En)(x y:Int),w.heap.size=B->W.cell? ⟨B,0,Hn⟩=Gn (.int .i64 op)->W.cell? ⟨B,1,Hn⟩=Gn (.int .i64 r)->W.cell? ⟨B,2,Hn⟩=Gn (.int .i64 a)->W.cell? ⟨B,3,Hn⟩=Gn (.int .i64 N)->W.cell? ⟨Gc,n*26+r,Hn⟩=Gn (.int .i64 x)->W.cell? ⟨Gc,n*26+a,Hn⟩=Gn (.int .i64 y)->W.frozen? ⟨Gc,n*26+r,Hn⟩=Tm->Hid (Tn W Gc (nC*26) 131 (yq (Qo Q n {Q n with z:=Wn (Q n).z 45 (nx+1)})))->Hid (Jq (fun j=>j=Gc) w W)->Gc<W.heap.size->B<W.heap.size->Hid ((Q n).z (25+r)=x)->Hid ((Q n).z (25+a)=y)->Gc<w.heap.size->n<nC->r<4->a<4->Kb≠Gc->(r:Int)<4->(a:Int)<4->
   rest.wp prog (bodyPost prog Tryz.f88 Rt) {tmps:=#[.pointer (Gn ⟨Kb,0,Hn⟩),.int .i64 n,Bn,Bn,.int .i64 0,.pointer (Gn ⟨Gc,n*26,Hn⟩),.pointer (Gn ⟨B,0,Hn⟩),.int .i64 x,.int .i64 y,Bn,Bn,Bn,Bn,.pointer (Gn ⟨Kb,0,Hn⟩),.pointer (Gn ⟨Kb,0,Hn⟩),.pointer (Gn ⟨Kb,4,Hn⟩),.slice (Gn ⟨Gc,0,Hn⟩) nC nC,.int .i64 n,.pointer (Gn ⟨Gc,n*26,Hn⟩),.pointer (Gn ⟨Gc,n*26,Hn⟩),.pointer (Gn ⟨Gc,n*26,Hn⟩),.pointer (Gn ⟨Gc,n*26+20,Hn⟩),.int .i64 nx,.pointer (Gn ⟨Kb,0,Hn⟩),.pointer (Gn ⟨Kb,0,Hn⟩),.pointer (Gn ⟨Kb,0,Hn⟩),.pointer (Gn ⟨Kb,0,Hn⟩),.slice (Gn ⟨bo,oo,Hn⟩) nC cq,.int .i64 n,.pointer (Gn ⟨bo,oo+n*3,Hn⟩),.pointer (Gn ⟨bo,oo+n*3,Hn⟩),.slice (Gn ⟨cb,co,Hn⟩) nI cc,.int .i64 nI,.bool Tm,.pointer (Gn ⟨Kb,0,Hn⟩),.pointer (Gn ⟨Kb,0,Hn⟩),.pointer (Gn ⟨Kb,0,Hn⟩),.pointer (Gn ⟨Kb,0,Hn⟩),.slice (Gn ⟨bo,oo,Hn⟩) nC cq,.int .i64 n,.pointer (Gn ⟨bo,oo+n*3,Hn⟩),.pointer (Gn ⟨bo,oo+n*3,Hn⟩),.slice (Gn ⟨cb,co,Hn⟩) nI cc,.pointer (Gn ⟨Gc,n*26,Hn⟩),.pointer (Gn ⟨Gc,n*26,Hn⟩),.pointer (Gn ⟨Gc,n*26+20,Hn⟩),.int .i64 nx,.pointer (Gn ⟨cb,co+nx*4,Hn⟩),.agg #[.int .i64 op,.int .i64 r,.int .i64 a,.int .i64 N],.pointer (Gn ⟨Gc,n*26,Hn⟩),.pointer (Gn ⟨Gc,n*26,Hn⟩),.pointer (Gn ⟨Gc,n*26+20,Hn⟩),.int .i64 nx,.int .i64 ((nx:Int)+1),.pointer (Gn ⟨Gc,n*26,Hn⟩),.pointer (Gn ⟨Gc,n*26+20,Hn⟩),.pointer (Gn ⟨Gc,n*26,Hn⟩),.pointer (Gn ⟨B,1,Hn⟩),.int .i64 r,.pointer (Gn ⟨Gc,n*26,Hn⟩),.pointer (Gn ⟨Gc,n*26,Hn⟩),.pointer (Gn ⟨Gc,n*26+r,Hn⟩),.int .i64 x,.pointer (Gn ⟨Gc,n*26,Hn⟩),.pointer (Gn ⟨B,2,Hn⟩),.int .i64 a,.pointer (Gn ⟨Gc,n*26,Hn⟩),.pointer (Gn ⟨Gc,n*26,Hn⟩),.pointer (Gn ⟨Gc,n*26+a,Hn⟩),.int .i64 y,Bn,Bn,Bn,Bn,Bn,Bn,Bn,Bn,Bn,Bn,Bn,Bn,Bn,Bn,Bn,Bn,Bn,Bn,Bn,Bn,Bn,Bn,Bn,Bn,Bn,Bn,Bn,Bn,Bn,Bn,Bn,Bn,Bn,Bn,Bn,Bn,Bn,Bn,Bn,Bn,Bn,Bn,Bn,Bn,Bn,Bn,Bn,Bn,Bn,Bn,Bn,Bn,Bn,Bn,Bn,Bn,Bn,Bn,Bn,Bn,Bn,Bn,Bn,Bn,Bn,Bn,Bn,Bn,Bn,Bn,Bn,Bn,Bn,Bn,Bn,Bn,Bn,Bn,Bn,Bn,Bn,Bn,Bn,Bn,Bn,Bn,Bn,Bn,Bn,Bn,Bn,Bn,Bn,Bn,Bn,Bn,Bn,Bn,Bn,Bn,Bn,Bn,Bn,Bn,Bn,Bn,Bn,Bn,Bn,Bn,Bn,Bn,Bn,Bn,Bn,Bn,Bn,Bn,Bn,Bn,Bn,Bn,Bn,Bn,Bn,Bn,Bn,Bn,Bn,Bn,Bn,Bn,Bn,Bn,Bn,Bn,Bn,Bn,Bn,Bn,Bn,Bn,Bn,Bn,Bn,Bn,Bn,Bn,Bn,Bn,Bn,Bn,Bn,Bn,Bn,Bn],defers:=[]} W.drew.drew):
  Zm prog 88 #[.pointer (Gn ⟨Kb,0,Hn⟩),.int .i64 n] w Rt:=by
 have HH:Hid (∀(B:Nat)(W:En)(x y:Int),_):=h;clear h;obtain⟨h0,h4,hc,c0,c1,c2,c3,hr,h45,hn,hx,h48,iL,NM,_g1,_g2,_g3⟩:=s;have HG0:Hid (Gc<w.heap.size):=hr.lt;cases hb;have e20:w.cell? ⟨Gc,n*26+20,Hn⟩=Gn (.int .i64 nx):=by rw[Tn.rat hr (n:=n) (i:=20) E0 rfl E0];show Gn (Value.int .i64 ((Q n).z 45))=_;rw[h45]
 have f20:=hr.frozen (n*26+20);have hG:=hr.lt;have HR:Hid (Tn w Gc (nC*26) 131 (yq Q)):=hr;clear hr;have i1:(nx:Int)<(nI:Int):=E0;have i2:¬((nI:Int)<=(nx:Int)):=E0
 go_enter func88,ntmps88
 go_wp2_with fail
 go_region_held3 (fun W=>W.cell? ⟨Kb,0,Hn⟩=Gn (.slice (Gn ⟨bo,oo,Hn⟩) nC cq)/\W.cell? ⟨bo,oo+n*3,Hn⟩=Gn (.slice (Gn ⟨cb,co,Hn⟩) nI cc)/\W.cell? ⟨Gc,n*26+20,Hn⟩=Gn (.int .i64 nx)) (go_keep) (fail)
 go_wp2_with fail
 go_region_held3 (fun W=>W.cell? ⟨Kb,0,Hn⟩=Gn (.slice (Gn ⟨bo,oo,Hn⟩) nC cq)/\W.cell? ⟨bo,oo+n*3,Hn⟩=Gn (.slice (Gn ⟨cb,co,Hn⟩) nI cc)/\W.cell? ⟨Gc,n*26+20,Hn⟩=Gn (.int .i64 nx)/\W.cell? ⟨cb,co+nx*4,Hn⟩=Gn (.int .i64 op)/\W.cell? ⟨cb,co+nx*4+1,Hn⟩=Gn (.int .i64 r)/\W.cell? ⟨cb,co+nx*4+2,Hn⟩=Gn (.int .i64 a)/\W.cell? ⟨cb,co+nx*4+3,Hn⟩=Gn (.int .i64 N)) (go_keep) (fail)
 go_wp2_with fail
 have HW:=C90 (w:=w) (n:=n) (o0:=.int .i64 op) (o1:=.int .i64 r) (o2:=.int .i64 a) (o3:=.int .i64 N) HR.out ((nx:Int)+1);clear h0 h4 hc c0 c1 c2 c3 e20 f20 i1 i2;generalize hB:w.heap.size=B at *;generalize (World.alloc (w.setCell ⟨Gc,n*26+20,Hn⟩ (.int .i64 ((nx:Int)+1))) (.cells #[.int .i64 op,.int .i64 r,.int .i64 a,.int .i64 N] 97)).drew.drew=W at *;obtain⟨HRW,BX,di0⟩:=HW;have b0:=BX.at4.1;have b1:=BX.at4.2.1;have b2:=BX.at4.2.2.1;have b3:=BX.at4.2.2.2;have er:=Tn.rat HRW (n:=n) (i:=r) E0 rfl E0;have ea:=Tn.rat HRW (n:=n) (i:=a) E0 rfl E0;rw[DJ _ _ _ E0]at er ea;have fr:=HRW.frozen (n*26+r);have Kt:Hid (Tn W Gc (nC*26) 131 (yq (Qo Q n {Q n with z:=Wn (Q n).z 45 (nx+1)}))):=HRW;have Po:Hid (Jq (fun j=>j=Gc) w W):=di0;have fF:=HRW.lt;have dL:=BX.lt;have i3:(r:Int)<4:=E0;have i4:(a:Int)<4:=E0;clear HRW BX di0;generalize hzr:(Q n).z (25+r)=x at *;generalize hza:(Q n).z (25+a)=y at *;have Uz:Hid ((Q n).z (25+r)=x):=hzr;have zy:Hid ((Q n).z (25+a)=y):=hza;clear hzr hza;go_region_held3 (fun W=>W.cell? ⟨B,1,Hn⟩=Gn (.int .i64 r)/\W.cell? ⟨Gc,n*26+r,Hn⟩=Gn (.int .i64 x)) (go_keep) (fail);go_wp2_with fail;go_region_held3 (fun W=>W.cell? ⟨B,2,Hn⟩=Gn (.int .i64 a)/\W.cell? ⟨Gc,n*26+a,Hn⟩=Gn (.int .i64 y)) (go_keep) (fail);simp only[Exit.then];refine ‹∀(a:Act)(w:En),Code.wp _ _ _ a w->_› _ _ (HH.out B W x y rfl b0 b1 b2 b3 er ea fr Kt Po fF dL (rfl:x=x) (rfl:y=y) HG0.out hn iL NM _g1 i3 i4)
section
variable {Kb Gc n nC cq bo oo cb co nI cc nx r a:Nat}{N:Int}{Q:Nat->RC}{w:En}
theorem tW(s:DL Kb Gc n nC cq bo oo cb co nI cc nx r a 0 N Q w):
  Zm prog 88 #[.pointer (Gn ⟨Kb,0,Hn⟩),.int .i64 n] w fun e w'=>e=.returned (.int .i64 (-1))/\Tn w' Gc (nC*26) 131 (yq (Qo Q n {Q n with z:=(Wn (Q n).z 45 (nx+1))}))/\Jq (fun j=>j=Gc) w w':=by
 refine Qs s rfl fun B W x y hB b0 b1 b2 b3 er ea fr Kt Po fF dL Uz zy hG hn iL NM _g1 i3 i4=>?_;clear s;refine Wa ?_;exact Jc
theorem y30(s:DL Kb Gc n nC cq bo oo cb co nI cc nx r a 1 N Q w):
  Zm prog 88 #[.pointer (Gn ⟨Kb,0,Hn⟩),.int .i64 n] w fun e w'=>e=.returned (.int .i64 (0))/\Tn w' Gc (nC*26) 131 (yq (Qo Q n {Q n with z:=Wn (Wn (Q n).z 45 (nx+1)) (25+r) N}))/\Jq (fun j=>j=Gc) w w':=by
 refine Qs s rfl fun B W x y hB b0 b1 b2 b3 er ea fr Kt Po fF dL Uz zy hG hn iL NM _g1 i3 i4=>?_;clear s;refine Wa ?_;go_wp2_with fail;refine Za fun nP=>?_;refine zh fun k1'=>?_;go_region_held3 (fun W=>W.cell? ⟨B,1,Hn⟩=Gn (.int .i64 r)/\W.cell? ⟨B,3,Hn⟩=Gn (.int .i64 N)) (go_keep) (fail);clear nP k1';go_wp2_with fail;go_ret;exact⟨rfl,Tn.ZF (i:=r) Kt.out E0 rfl _,F4⟩
theorem o30(s:DL Kb Gc n nC cq bo oo cb co nI cc nx r a 2 N Q w):
  Zm prog 88 #[.pointer (Gn ⟨Kb,0,Hn⟩),.int .i64 n] w fun e w'=>e=.returned (.int .i64 (0))/\Tn w' Gc (nC*26) 131 (yq (Qo Q n {Q n with z:=Wn (Wn (Q n).z 45 (nx+1)) (25+r) (wrap64 ((Q n).z (25+r)+(Q n).z (25+a)))}))/\Jq (fun j=>j=Gc) w w':=by
 refine Qs s rfl fun B W x y hB b0 b1 b2 b3 er ea fr Kt Po fF dL Uz zy hG hn iL NM _g1 i3 i4=>?_;clear s;refine Wa ?_;go_wp2_with fail;refine(H50 x y _).mono ?_;exact Y9
theorem A30(s:DL Kb Gc n nC cq bo oo cb co nI cc nx r a 3 N Q w):
  Zm prog 88 #[.pointer (Gn ⟨Kb,0,Hn⟩),.int .i64 n] w fun e w'=>e=.returned (.int .i64 (0))/\Tn w' Gc (nC*26) 131 (yq (Qo Q n {Q n with z:=Wn (Wn (Q n).z 45 (nx+1)) (25+r) (wrap64 ((Q n).z (25+r)-(Q n).z (25+a)))}))/\Jq (fun j=>j=Gc) w w':=by
 refine Qs s rfl fun B W x y hB b0 b1 b2 b3 er ea fr Kt Po fF dL Uz zy hG hn iL NM _g1 i3 i4=>?_;clear s;refine Wa ?_;go_wp2_with fail;refine(N50 x y _).mono ?_;exact Y9
theorem x30(s:DL Kb Gc n nC cq bo oo cb co nI cc nx r a 4 N Q w):
  Zm prog 88 #[.pointer (Gn ⟨Kb,0,Hn⟩),.int .i64 n] w fun e w'=>e=.returned (.int .i64 (0))/\Tn w' Gc (nC*26) 131 (yq (Qo Q n {Q n with z:=Wn (Wn (Q n).z 45 (nx+1)) (25+r) (wrap64 ((Q n).z (25+r)*(Q n).z (25+a)))}))/\Jq (fun j=>j=Gc) w w':=by
 refine Qs s rfl fun B W x y hB b0 b1 b2 b3 er ea fr Kt Po fF dL Uz zy hG hn iL NM _g1 i3 i4=>?_;clear s;refine Wa ?_;go_wp2_with fail;refine(K50 x y _).mono ?_;exact Y9
end
section
variable {Kb Gc n nC cq bo oo cb co nI cc nx r a:Nat}{N:Int}{Q:Nat->RC}{w:En}
section
variable (s:DL Kb Gc n nC cq bo oo cb co nI cc nx r a 5 N Q w)
include s
theorem JZ(cN:(Q n).z (25+a)=0):
  Zm prog 88 #[.pointer (Gn ⟨Kb,0,Hn⟩),.int .i64 n] w fun e w'=>e=.returned (.int .i64 (1))/\Tn w' Gc (nC*26) 131 (yq (Qo Q n {Q n with z:=(Wn (Q n).z 45 (nx+1))}))/\Jq (fun j=>j=Gc) w w':=by
 refine Qs s rfl fun B W x y hB b0 b1 b2 b3 er ea fr Kt Po fF dL Uz zy hG hn iL NM _g1 i3 i4=>?_;clear s;refine Wa ?_;obtain rfl:y=0:=zy.out.symm.trans cN;clear cN;go_wp2_with fail;refine(u_ x _).mono ?_;rintro e V ⟨rfl,rfl⟩;exact Jc
theorem r30(cN:(Q n).z (25+a)≠0):
  Zm prog 88 #[.pointer (Gn ⟨Kb,0,Hn⟩),.int .i64 n] w fun e w'=>e=.returned (.int .i64 (0))/\Tn w' Gc (nC*26) 131 (yq (Qo Q n {Q n with z:=Wn (Wn (Q n).z 45 (nx+1)) (25+r) (wrap64 (((Q n).z (25+r)).tdiv ((Q n).z (25+a))))}))/\Jq (fun j=>j=Gc) w w':=by
 refine Qs s rfl fun B W x y hB b0 b1 b2 b3 er ea fr Kt Po fF dL Uz zy hG hn iL NM _g1 i3 i4=>?_;clear s;refine Wa ?_;have hy:y≠0:=by rw[<-zy.out];exact cN
 clear cN;go_wp2_with fail;refine(J50 x y hy _).mono ?_;exact Y9
end
section
variable (s:DL Kb Gc n nC cq bo oo cb co nI cc nx r a 6 N Q w)
include s
theorem PT(cN:(Q n).z (25+a)<0):
  Zm prog 88 #[.pointer (Gn ⟨Kb,0,Hn⟩),.int .i64 n] w fun e w'=>e=.returned (.int .i64 (2))/\Tn w' Gc (nC*26) 131 (yq (Qo Q n {Q n with z:=(Wn (Q n).z 45 (nx+1))}))/\Jq (fun j=>j=Gc) w w':=by
 refine Qs s rfl fun B W x y hB b0 b1 b2 b3 er ea fr Kt Po fF dL Uz zy hG hn iL NM _g1 i3 i4=>?_;clear s;refine Wa ?_;have hy:y<0:=by rw[<-zy.out];exact cN
 clear cN;exact Jc
theorem OT(cN:16<=(Q n).z (25+a)):
  Zm prog 88 #[.pointer (Gn ⟨Kb,0,Hn⟩),.int .i64 n] w fun e w'=>e=.returned (.int .i64 (2))/\Tn w' Gc (nC*26) 131 (yq (Qo Q n {Q n with z:=(Wn (Q n).z 45 (nx+1))}))/\Jq (fun j=>j=Gc) w w':=by
 refine Qs s rfl fun B W x y hB b0 b1 b2 b3 er ea fr Kt Po fF dL Uz zy hG hn iL NM _g1 i3 i4=>?_;clear s;refine Wa ?_;have hy:16<=y:=by rw[<-zy.out];exact cN
 clear cN;exact Jc
end
end
section
variable {Kb Gc n nC cq bo oo cb co nI cc nx r a:Nat}{N:Int}{Q:Nat->RC}{w:En}
section
variable (s:DL Kb Gc n nC cq bo oo cb co nI cc nx r a 7 N Q w)
include s
theorem zP(cN:(Q n).z (25+a)<0):
  Zm prog 88 #[.pointer (Gn ⟨Kb,0,Hn⟩),.int .i64 n] w fun e w'=>e=.returned (.int .i64 (2))/\Tn w' Gc (nC*26) 131 (yq (Qo Q n {Q n with z:=(Wn (Q n).z 45 (nx+1))}))/\Jq (fun j=>j=Gc) w w':=by
 refine Qs s rfl fun B W x y hB b0 b1 b2 b3 er ea fr Kt Po fF dL Uz zy hG hn iL NM _g1 i3 i4=>?_;clear s;refine Wa ?_;have hy:y<0:=by rw[<-zy.out];exact cN
 clear cN;exact Jc
theorem yP(cN:16<=(Q n).z (25+a)):
  Zm prog 88 #[.pointer (Gn ⟨Kb,0,Hn⟩),.int .i64 n] w fun e w'=>e=.returned (.int .i64 (2))/\Tn w' Gc (nC*26) 131 (yq (Qo Q n {Q n with z:=(Wn (Q n).z 45 (nx+1))}))/\Jq (fun j=>j=Gc) w w':=by
 refine Qs s rfl fun B W x y hB b0 b1 b2 b3 er ea fr Kt Po fF dL Uz zy hG hn iL NM _g1 i3 i4=>?_;clear s;refine Wa ?_;have hy:16<=y:=by rw[<-zy.out];exact cN
 clear cN;exact Jc
end
theorem LZ(s:DL Kb Gc n nC cq bo oo cb co nI cc nx r a 6 N Q w)(j:Nat)(hj:j<16)(cN:(Q n).z (25+a)=j):
  Zm prog 88 #[.pointer (Gn ⟨Kb,0,Hn⟩),.int .i64 n] w fun e w'=>e=.returned (.int .i64 (0))/\Tn w' Gc (nC*26) 131 (yq (Qo Q n {Q n with z:=Wn (Wn (Q n).z 45 (nx+1)) (25+r) ((Q n).z (29+j))}))/\Jq (fun j=>j=Gc) w w':=by
 refine Qs s rfl fun B W x y hB b0 b1 b2 b3 er ea fr Kt Po fF dL Uz zy hG hn iL NM _g1 i3 i4=>?_;clear s;refine Wa ?_;obtain rfl:y=j:=zy.out.symm.trans cN;clear cN;have em:=Tn.rat Kt.out (n:=n) (i:=4+j) E0 rfl E0;rw[DJ _ _ _ E0,<-Jm,show 25+(4+j)=29+j by omega]at em;generalize hzm:(Q n).z (29+j)=v at *;have HZM:Hid ((Q n).z (29+j)=v):=hzm;clear hzm;have j1:(j:Int)<16:=E0;have j0:¬((j:Int)<0):=E0;have j2:¬((16:Int)<=j):=E0;go_wp2_with fail;refine Za fun nP=>?_;have k1':∀(V:En)(v:Dn),(V.setCell ⟨Gc,n*26+r,Hn⟩ v).cell? ⟨Gc,n*26+4+j,Hn⟩=V.cell? ⟨Gc,n*26+4+j,Hn⟩:=fun V v=>World.cell?_setCell_other _ _ _ _ (fun e=>by have e1:=congrArg Addr.off e;simp only at e1;omega);go_region_held3 (fun W=>W.cell? ⟨B,1,Hn⟩=Gn (.int .i64 r)/\W.cell? ⟨Gc,n*26+4+j,Hn⟩=Gn (.int .i64 v)) (go_keep) (fail);clear nP k1';go_wp2_with fail;go_ret;try rw[HZM.out]
 exact⟨rfl,Tn.ZF (i:=r) Kt.out E0 rfl _,F4⟩
theorem oW(s:DL Kb Gc n nC cq bo oo cb co nI cc nx r a 7 N Q w)(j:Nat)(hj:j<16)(cN:(Q n).z (25+a)=j):
  Zm prog 88 #[.pointer (Gn ⟨Kb,0,Hn⟩),.int .i64 n] w fun e w'=>e=.returned (.int .i64 (0))/\Tn w' Gc (nC*26) 131 (yq (Qo Q n {Q n with z:=Wn (Wn (Q n).z 45 (nx+1)) (25+(4+j)) ((Q n).z (25+r))}))/\Jq (fun j=>j=Gc) w w':=by
 refine Qs s rfl fun B W x y hB b0 b1 b2 b3 er ea fr Kt Po fF dL Uz zy hG hn iL NM _g1 i3 i4=>?_;clear s;refine Wa ?_;obtain rfl:y=j:=zy.out.symm.trans cN;clear cN;have em:=Tn.rat Kt.out (n:=n) (i:=4+j) E0 rfl E0;rw[DJ _ _ _ E0,<-Jm]at em;have fm:=Kt.out.frozen (n*26+4+j);have j1:(j:Int)<16:=E0;have j0:¬((j:Int)<0):=E0;have j2:¬((16:Int)<=j):=E0;go_wp2_with fail;go_ret;try rw[Uz.out]
 exact⟨rfl,Tn.ZF (i:=4+j) Kt.out E0 E0 _,F4⟩
end
section
variable {Kb Gc n nC cq bo oo cb co nI cc nx r a:Nat}{N:Int}{Q:Nat->RC}{w:En}
theorem KZ(s:DL Kb Gc n nC cq bo oo cb co nI cc nx r a 8 N Q w):
  Zm prog 88 #[.pointer (Gn ⟨Kb,0,Hn⟩),.int .i64 n] w fun e w'=>e=.returned (.int .i64 (0))/\Tn w' Gc (nC*26) 131 (yq (Qo Q n {Q n with z:=Wn (Wn (Q n).z 45 (nx+1)) (25+20) N}))/\Jq (fun j=>j=Gc) w w':=by
 refine Qs s rfl fun B W x y hB b0 b1 b2 b3 er ea fr Kt Po fF dL Uz zy hG hn iL NM _g1 i3 i4=>?_;clear s;refine Wa ?_;exact Ve
section
variable (s:DL Kb Gc n nC cq bo oo cb co nI cc nx r a 9 N Q w)
include s
theorem OZ(pV:(Q n).z (25+r)=0):
  Zm prog 88 #[.pointer (Gn ⟨Kb,0,Hn⟩),.int .i64 n] w fun e w'=>e=.returned (.int .i64 (0))/\Tn w' Gc (nC*26) 131 (yq (Qo Q n {Q n with z:=Wn (Wn (Q n).z 45 (nx+1)) (25+20) N}))/\Jq (fun j=>j=Gc) w w':=by
 refine Qs s rfl fun B W x y hB b0 b1 b2 b3 er ea fr Kt Po fF dL Uz zy hG hn iL NM _g1 i3 i4=>?_;clear s;refine Wa ?_;obtain rfl:x=0:=Uz.out.symm.trans pV;clear pV;exact Ve
theorem uW(pV:(Q n).z (25+r)≠0):
  Zm prog 88 #[.pointer (Gn ⟨Kb,0,Hn⟩),.int .i64 n] w fun e w'=>e=.returned (.int .i64 (0))/\Tn w' Gc (nC*26) 131 (yq (Qo Q n {Q n with z:=(Wn (Q n).z 45 (nx+1))}))/\Jq (fun j=>j=Gc) w w':=by
 refine Qs s rfl fun B W x y hB b0 b1 b2 b3 er ea fr Kt Po fF dL Uz zy hG hn iL NM _g1 i3 i4=>?_;clear s;refine Wa ?_;have gI:(x==0)=false:=by rw[<-Uz.out];simpa using pV
 clear pV;exact Jc
end
theorem w30(s:DL Kb Gc n nC cq bo oo cb co nI cc nx r a 15 N Q w)(m:Nat)(xs:List Dn)(Io:w.ownsRow 0 111 3 (Q n).v m xs)(hob:(Q n).v.ownBlock≠Gn Gc)(hm:m<1000000000):
  Zm prog 88 #[.pointer (Gn ⟨Kb,0,Hn⟩),.int .i64 n] w fun e w'=>e=.returned (.int .i64 0)/\∃v',Tn w' Gc (nC*26) 131 (yq (Qo Q n {Q n with z:=(Wn (Q n).z 45 (nx+1)),v:=v'}))/\Jq (fun j=>j=Gc\/(Q n).v.ownBlock=Gn j) w w'/\w'.ownsRow 0 111 3 v' (m+1) (xs++[.int .i64 1,.int .i64 ((Q n).z (25+r)),.int .i64 0])/\∀b,v'.ownBlock=Gn b->(Q n).v.ownBlock=Gn b\/w.heap.size<=b:=by
 refine Qs s rfl fun B W x y hB b0 b1 b2 b3 er ea fr Kt Po fF dL Uz zy hG hn iL NM _g1 i3 i4=>?_;clear s;refine Wa ?_;have ev:=Tn.rat Kt.out (n:=n) (i:=22) E0 rfl E0;rw[qc0]at ev;have rO:Hid (∀o,(W.alloc o).ownsRow 0 111 3 (Q n).v m xs):=fun o=>xo (Py (L:=⟨0,0,111,fun _=>False,fun _=>False⟩) Io fun b hb=>by
  have yo:=Qv Io hb;exact Po.out.block b yo (fun e=>hob G4)) P8
 have HOB:Hid ((Q n).v.ownBlock≠Gn Gc):=hob;have HOL:Hid (∀b,(Q n).v.ownBlock=Gn b->b<w.heap.size):=fun b hb=>Qv Io hb;have HX:Hid (x=(Q n).z (25+r)):=Uz.out.symm;clear Io hob;go_wp2_with (at_builtin;refine Eo _ rfl _ _ 61 rfl 0 111 _ 3 24 underlying61 Gu rfl E0 (Q n).v m xs rfl O5 W.heap.size [.int .i64 1,.int .i64 x,.int .i64 0] 111 rfl rfl G2 D2 Y1 E0 E0 ?_);intro g cap w1 kq uo jr Av;have hG1:w1.heap[Gc]?=W.heap[Gc]?:=(uo.block Gc W6 (fun e=>HOB.out e.symm)).trans (heap_alloc_old W _ fF);have R1:Hid (Tn w1 Gc (nC*26) 131 (yq (Qo Q n {Q n with z:=Wn (Q n).z 45 (nx+1)}))):=Kt.out.of_heap hG1;have ev1:=Tn.rat R1.out (n:=n) (i:=22) E0 rfl E0;have fv1:=R1.out.frozen (n*26+22);have HF:Hid (yH w W w1 Gc (Q n).v _ _ g cap (m+1) (xs++[.int .i64 1,.int .i64 x,.int .i64 0])):=⟨Po.out,uo.os,uo.tape,uo.output,Qm P0 uo.size,fun b hb Yp=>(uo.block b X6 (fun e=>Yp e.symm)).trans (heap_alloc_old W _ hb),kq,jr.imp id (fun e=>S4),HOB.out,fF⟩;clear kq uo jr Av hG1;go_wp2_with fail;go_ret;rw[<-HX.out]at *;exact⟨rfl,.slice (Gn ⟨g,0,Hn⟩) (m+1:Nat) cap,by
  have:=Tn.rv R1.out (n:=n) rfl (.slice (Gn ⟨g,0,Hn⟩) (m+1:Nat) cap);rw[Es,Yn]at this;exact this,HF.out.but,HF.out.rL,Y6⟩
end
theorem qQ:(prog.info? 177).map (fun i=>(i.zero,i.size,i.bytes))=Gn (Gn (.agg #[.int .i64 0,.int .i64 0]),2,16):=J0
theorem p00(Q:Nat->RC)(n:Nat)(x:Int):Ez (Qo Q n {Q n with z:=Wn (Q n).z 45 x} n) 21=(Q n).nt:=by
 rw[Yn];rfl
section
variable {Kb Gc n nC cq bo oo cb co nI cc nx r a:Nat}{N:Int}{Q:Nat->RC}{w:En}
theorem NZ(s:DL Kb Gc n nC cq bo oo cb co nI cc nx r a 10 N Q w)(c:Nat)(hNc:N=c)(m:Nat)(xs:List Dn)(Io:w.ownsRow 0 177 2 (Q n).nt m xs)(hob:(Q n).nt.ownBlock≠Gn Gc)(hm:m<1000000000):
  Zm prog 88 #[.pointer (Gn ⟨Kb,0,Hn⟩),.int .i64 n] w fun e w'=>e=.returned (.int .i64 0)/\∃v',Tn w' Gc (nC*26) 131 (yq (Qo Q n {Q n with z:=(Wn (Q n).z 45 (nx+1)),nt:=v'}))/\Jq (fun j=>j=Gc\/(Q n).nt.ownBlock=Gn j) w w'/\w'.ownsRow 0 177 2 v' (m+1) (xs++[.int .i64 c,.int .i64 ((Q n).z (25+r))])/\∀b,v'.ownBlock=Gn b->(Q n).nt.ownBlock=Gn b\/w.heap.size<=b:=by
 refine Qs s rfl fun B W x y hB b0 b1 b2 b3 er ea fr Kt Po fF dL Uz zy hG hn iL NM _g1 i3 i4=>?_;clear s;refine Wa ?_;subst hNc;have ev:=Tn.rat Kt.out (n:=n) (i:=21) E0 rfl E0;rw[p00]at ev;have rO:Hid (∀o,(W.alloc o).ownsRow 0 177 2 (Q n).nt m xs):=fun o=>xo (Lr Io fun b hb=>by
  have yo:=Qv Io hb;exact Po.out.block b yo (fun e=>hob G4)) P8
 have HOB:Hid ((Q n).nt.ownBlock≠Gn Gc):=hob;have HX:Hid (x=(Q n).z (25+r)):=Uz.out.symm;clear Io hob;refine Lc fun HAL q1 q2=>?_;go_wp2_with fail
 go_region_law (refine Br rfl _ _ 129 rfl 0 177 _ 2 16 underlying129 qQ rfl E0 (Q n).nt m xs rfl O5 W.heap.size [.int .i64 c,.int .i64 x] 177 rfl rfl G2 D2 Y1 E0 E0 ?_;intro g cap w1 kq uo jr Av;have hG1:w1.heap[Gc]?=W.heap[Gc]?:=(uo.block Gc W6 (fun e=>HOB.out e.symm)).trans (heap_alloc_old W _ fF);have R1:Hid (Tn w1 Gc (nC*26) 131 (yq (Qo Q n {Q n with z:=Wn (Q n).z 45 (nx+1)}))):=Kt.out.of_heap hG1;have ev1:=Tn.rat R1.out (n:=n) (i:=21) E0 rfl E0;have fv1:=R1.out.frozen (n*26+21))
 all_goals
  refine Cd fun HF=>?_;clear kq uo jr Av hG1;go_wp2_with fail;go_ret;rw[<-HX.out]at *;exact⟨rfl,.slice (Gn ⟨g,0,Hn⟩) (m+1:Nat) cap,by
   have:=Tn.rn R1.out (n:=n) rfl (.slice (Gn ⟨g,0,Hn⟩) (m+1:Nat) cap);rw[Es,Yn]at this;exact this,HF.out.but,HF.out.rL,Y6⟩
theorem qW(s:DL Kb Gc n nC cq bo oo cb co nI cc nx r a 11 N Q w)(c:Nat)(hNc:N=c)(m:Nat)(xs:List Dn)(Io:w.ownsRow 0 177 2 (Q n).nt m xs)(hob:(Q n).nt.ownBlock≠Gn Gc)(hm:m<1000000000):
  Zm prog 88 #[.pointer (Gn ⟨Kb,0,Hn⟩),.int .i64 n] w fun e w'=>e=.returned (.int .i64 0)/\∃v',Tn w' Gc (nC*26) 131 (yq (Qo Q n {Q n with z:=(Wn (Q n).z 45 (nx+1)),nt:=v'}))/\Jq (fun j=>j=Gc\/(Q n).nt.ownBlock=Gn j) w w'/\w'.ownsRow 0 177 2 v' (m+1) (xs++[.int .i64 c,.int .i64 ((Q n).z (25+r))])/\∀b,v'.ownBlock=Gn b->(Q n).nt.ownBlock=Gn b\/w.heap.size<=b:=by
 refine Qs s rfl fun B W x y hB b0 b1 b2 b3 er ea fr Kt Po fF dL Uz zy hG hn iL NM _g1 i3 i4=>?_;clear s;refine Wa ?_;subst hNc;have ev:=Tn.rat Kt.out (n:=n) (i:=21) E0 rfl E0;rw[p00]at ev;have rO:Hid (∀o,(W.alloc o).ownsRow 0 177 2 (Q n).nt m xs):=fun o=>xo (Lr Io fun b hb=>by
  have yo:=Qv Io hb;exact Po.out.block b yo (fun e=>hob G4)) P8
 have HOB:Hid ((Q n).nt.ownBlock≠Gn Gc):=hob;have HX:Hid (x=(Q n).z (25+r)):=Uz.out.symm;clear Io hob;refine Lc fun HAL q1 q2=>?_;go_wp2_with fail
 go_region_law (refine Br rfl _ _ 129 rfl 0 177 _ 2 16 underlying129 qQ rfl E0 (Q n).nt m xs rfl O5 W.heap.size [.int .i64 c,.int .i64 x] 177 rfl rfl G2 D2 Y1 E0 E0 ?_;intro g cap w1 kq uo jr Av;have hG1:w1.heap[Gc]?=W.heap[Gc]?:=(uo.block Gc W6 (fun e=>HOB.out e.symm)).trans (heap_alloc_old W _ fF);have R1:Hid (Tn w1 Gc (nC*26) 131 (yq (Qo Q n {Q n with z:=Wn (Q n).z 45 (nx+1)}))):=Kt.out.of_heap hG1;have ev1:=Tn.rat R1.out (n:=n) (i:=21) E0 rfl E0;have fv1:=R1.out.frozen (n*26+21))
 all_goals
  refine Cd fun HF=>?_;clear kq uo jr Av hG1;go_wp2_with fail;go_ret;rw[<-HX.out]at *;exact⟨rfl,.slice (Gn ⟨g,0,Hn⟩) (m+1:Nat) cap,by
   have:=Tn.rn R1.out (n:=n) rfl (.slice (Gn ⟨g,0,Hn⟩) (m+1:Nat) cap);rw[Es,Yn]at this;exact this,HF.out.but,HF.out.rL,Y6⟩
end
theorem Qy{P:Ym}{R:En->En->Prop}{D:En->En->Array Event->Prop}(T:Terms R D){f:FuncId}{fn:Func}{t u:Tmp}{w:En}(h:fn.results=#[.tmp t,.tmp u])(tmps:Array Dn):yw P R D f fn tmps w (.tuple #[tmps.getD t Bn,tmps.getD u Bn]):=fun w₁ _=>by
 obtain⟨h1,h2⟩:=resultsC_tmp2 (P:=P) h tmps w₁;exact sk
theorem F70(P:Ym)(w:En)(es:Array Event)(a:Vm)(m:Mode)(b:Bool):(store a (.bool b) m).events P w es=storedEv P w es a (.bool b) m:=events_store P w es a _ m rfl
theorem QU(P:Ym)(w:En)(es:Array Event)(a:Vm)(m:Mode)(b:Option Vm)(l c:Nat):(store a (.slice b l c) m).events P w es=storedEv P w es a (.slice b l c) m:=events_store P w es a _ m rfl
section
variable {L:Bt}{w0:En}{rows:List Jp}{iq nb qb k cq:Nat}{r:Jp}
theorem zD(hs:Bq L w0 nb)(h1:w0.cell? ⟨nb,1,Hn⟩=Gn (.slice (Gn ⟨qb,0,Hn⟩) k cq))(i:Nat)(hi:i<k)(w:En)(hF:Kn L w0 rows w):
  Ao prog Tm L.R1 L.D1 137 #[.pointer (Gn ⟨nb,0,Hn⟩),.int .i64 i] w (fun v w'=>v=.pointer (Gn ⟨qb,i*3,Hn⟩)/\Kn L w0 rows w') (fun _ _=>False):=by
 replace hF:=hF.lay;have hii:(i:Int)<(k:Int):=E0;have hk:(base 137).kind≠.early:=J1;refine Ao.intro L.Nn #[.pointer (Gn ⟨nb,0,Hn⟩),.int .i64 i,Bn,Bn,Bn,Bn,Bn,Bn,Bn,Bn,Bn] func137 rfl J0 fun cl cs Bo tt _=>?_;refine bj ?_;refine Xa ?_;refine pj fun w1 K hK hF=>?_;have hc:World.cell? _ ⟨nb,1,Hn⟩=Gn (.slice (Gn ⟨qb,0,Hn⟩) k cq):=(hF.Xo hs).trans h1;refine vm ?_ ?_
 ·refine hF.zp hs ?_;exact T9
 clear hK K;clear hc;refine um ?_;refine rj fun w1 K hK hF=>?_;refine vm ?_ ?_
 ·exact Uh
 clear hK K;refine um ?_;refine qj ?_;exact Ij
theorem tK(hs:Bq L w0 nb)(h1:w0.cell? ⟨nb,2,Hn⟩=Gn (.slice (Gn ⟨qb,0,Hn⟩) k cq))(i:Nat)(hi:i<k)(w:En)(hF:Kn L w0 rows w):
  Ao prog Tm L.R1 L.D1 139 #[.pointer (Gn ⟨nb,0,Hn⟩),.int .i64 i] w (fun v w'=>v=.pointer (Gn ⟨qb,i*4,Hn⟩)/\Kn L w0 rows w') (fun _ _=>False):=by
 replace hF:=hF.lay;have hii:(i:Int)<(k:Int):=E0;have hk:(base 139).kind≠.early:=J1;refine Ao.intro L.Nn #[.pointer (Gn ⟨nb,0,Hn⟩),.int .i64 i,Bn,Bn,Bn,Bn,Bn,Bn,Bn,Bn,Bn] func139 rfl J0 fun cl cs Bo tt _=>?_;refine bj ?_;refine Xa ?_;refine pj fun w1 K hK hF=>?_;have hc:World.cell? _ ⟨nb,2,Hn⟩=Gn (.slice (Gn ⟨qb,0,Hn⟩) k cq):=(hF.Xo hs).trans h1;refine vm ?_ ?_
 ·refine hF.zp hs ?_;exact T9
 clear hK K;clear hc;refine um ?_;refine rj fun w1 K hK hF=>?_;refine vm ?_ ?_
 ·exact Uh
 clear hK K;refine um ?_;refine qj ?_;exact Ij
section
variable (hq:rows[iq]?=Gn r)(i:Nat)
include hq i
theorem Ec0(x:Int)(hm:i*4+4<=r.m)(w:En)(hF:Kn L w0 rows w):
  Ao prog Tm L.R1 L.D1 140 #[.pointer (Gn ⟨r.g,i*4,Hn⟩),.int .i64 x] w (fun v w'=>v=.tuple #[]/\Kn L w0 ((rows.set iq (r.put (i*4+2) (.int .i64 x))).set iq ((r.put (i*4+2) (.int .i64 x)).put (i*4+3) (.bool Um))) w') (fun _ _=>False):=by
 have hk:(base 140).kind≠.early:=J1;refine Ao.intro L.Nn #[.pointer (Gn ⟨r.g,i*4,Hn⟩),.int .i64 x,Bn,Bn,Bn,Bn,Bn,Bn,Bn,Bn,Bn] func140 rfl J0 fun cl cs Bo tt _=>?_;refine J9 ?_;refine .Un L.Nn [0,1,2,3,4,5,6,7,8] I0 ?_;refine Xe ?_;refine K9 fun w1 K hK hF=>?_;refine Yh fun zu hc=>?_;refine vm ?_ ?_
 ·refine hF.does (r:=r) hq (i*4+2) _ ?_;exact yd
 clear hK K;clear zu hc;replace hF:=hF.set (r:=r) hq (i*4+2) (.int .i64 x);replace hq:=ao hq (r.put (i*4+2) (.int .i64 x));refine um ?_;refine Vk fun w1 K hK hF=>?_;have zu:World.frozen? _ ⟨r.g,i*4+3,Hn⟩=false:=hF.frozen (r:=(r.put (i*4+2) (.int .i64 x))) hq (i*4+3);have hc:World.cell? _ ⟨r.g,i*4+3,Hn⟩=Gn _:=hF.cell (r:=(r.put (i*4+2) (.int .i64 x))) hq (j:=i*4+3) Y2;refine vm ?_ ?_
 ·refine hF.does (r:=(r.put (i*4+2) (.int .i64 x))) hq (i*4+3) _ ?_;exact Yi
 clear hK K;clear zu hc;replace hF:=hF.set (r:=(r.put (i*4+2) (.int .i64 x))) hq (i*4+3) (.bool Um);replace hq:=ao hq ((r.put (i*4+2) (.int .i64 x)).put (i*4+3) (.bool Um));refine um ?_;refine J9 ?_;exact Mc
theorem M30(hm:i*4+4<=r.m)(w:En)(hF:Kn L w0 rows w):
  Ao prog Tm L.R1 L.D1 136 #[.pointer (Gn ⟨r.g,i*4,Hn⟩)] w (fun v w'=>v=.tuple #[]/\Kn L w0 ((rows.set iq (r.put (i*4+2) (.int .i64 0))).set iq ((r.put (i*4+2) (.int .i64 0)).put (i*4+3) (.bool Tm))) w') (fun _ _=>False):=by
 have hk:(base 136).kind≠.early:=J1;refine Ao.intro L.Nn #[.pointer (Gn ⟨r.g,i*4,Hn⟩),Bn,Bn,Bn,Bn,Bn,Bn,Bn] func136 rfl J0 fun cl cs Bo tt _=>?_;refine J9 ?_;refine zd ?_;refine Ja ?_;refine K9 fun w1 K hK hF=>?_;refine Yh fun zu hc=>?_;refine vm ?_ ?_
 ·refine hF.does (r:=r) hq (i*4+2) _ ?_;exact yd
 clear hK K;clear zu hc;replace hF:=hF.set (r:=r) hq (i*4+2) (.int .i64 0);replace hq:=ao hq (r.put (i*4+2) (.int .i64 0));refine um ?_;refine Vk fun w1 K hK hF=>?_;have zu:World.frozen? _ ⟨r.g,i*4+3,Hn⟩=false:=hF.frozen (r:=(r.put (i*4+2) (.int .i64 0))) hq (i*4+3);have hc:World.cell? _ ⟨r.g,i*4+3,Hn⟩=Gn _:=hF.cell (r:=(r.put (i*4+2) (.int .i64 0))) hq (j:=i*4+3) Y2;refine vm ?_ ?_
 ·refine hF.does (r:=(r.put (i*4+2) (.int .i64 0))) hq (i*4+3) _ ?_;exact Yi
 clear hK K;clear zu hc;replace hF:=hF.set (r:=(r.put (i*4+2) (.int .i64 0))) hq (i*4+3) (.bool Tm);replace hq:=ao hq ((r.put (i*4+2) (.int .i64 0)).put (i*4+3) (.bool Tm));refine um ?_;refine J9 ?_;exact Mc
theorem e30(hm:i*3+3<=r.m)(w:En)(hF:Kn L w0 rows w):
  Ao prog Tm L.R1 L.D1 135 #[.pointer (Gn ⟨r.g,i*3,Hn⟩)] w (fun v w'=>v=.tuple #[]/\Kn L w0 (rows.set iq (r.put (i*3+1) (.slice Hn 0 0))) w') (fun _ _=>False):=by
 have hk:(base 135).kind≠.early:=J1;refine Ao.intro L.Nn #[.pointer (Gn ⟨r.g,i*3,Hn⟩),Bn,Bn,Bn,Bn] func135 rfl J0 fun cl cs Bo tt _=>?_;refine J9 ?_;refine Ec ?_;refine pj fun w1 K hK hF=>?_;have zu:World.frozen? _ ⟨r.g,i*3+1,Hn⟩=false:=hF.frozen (r:=r) hq (i*3+1);have hc:World.cell? _ ⟨r.g,i*3+1,Hn⟩=Gn _:=hF.cell (r:=r) hq (j:=i*3+1) Y2;refine vm ?_ ?_
 ·refine hF.does (r:=r) hq (i*3+1) _ ?_;exact Yb
 clear hK K;clear zu hc;replace hF:=hF.set (r:=r) hq (i*3+1) (.slice Hn 0 0);replace hq:=ao hq (r.put (i*3+1) (.slice Hn 0 0));refine um ?_;refine J9 ?_;exact Mc
theorem jg0(x:Int)(hx:r.f (i*3+2)=.int .i64 x)(hm:i*3+3<=r.m)(w:En)(hF:Kn L w0 rows w):
  Ao prog Tm L.R1 L.D1 144 #[.pointer (Gn ⟨r.g,i*3,Hn⟩)] w (fun v w'=>v=.int .i64 x/\Kn L w0 (rows.set iq (r.put (i*3+2) (.int .i64 0))) w') (fun _ _=>False):=by
 have hk:(base 144).kind≠.early:=J1;refine Ao.intro L.Nn #[.pointer (Gn ⟨r.g,i*3,Hn⟩),Bn,Bn,Bn,Bn,Bn,Bn,Bn,Bn,Bn,Bn,Bn] func144 rfl J0 fun cl cs Bo tt _=>?_;refine bj ?_;refine og ?_;refine pj fun w1 K hK hF=>?_;have hc:World.cell? _ ⟨r.g,i*3+2,Hn⟩=Gn (.int .i64 x):=(hF.cell hq (j:=i*3+2) Y2).trans (by rw[hx]);refine vm ?_ ?_
 ·exact Bj
 clear hK K;clear hc;refine um ?_;refine qj ?_;refine Ec ?_;refine pj fun w1 K hK hF=>?_;have zu:World.frozen? _ ⟨r.g,i*3+2,Hn⟩=false:=hF.frozen (r:=r) hq (i*3+2);have hc:World.cell? _ ⟨r.g,i*3+2,Hn⟩=Gn _:=hF.cell (r:=r) hq (j:=i*3+2) Y2;refine vm ?_ ?_
 ·refine hF.does (r:=r) hq (i*3+2) _ ?_;exact yd
 clear hK K;clear zu hc;replace hF:=hF.set (r:=r) hq (i*3+2) (.int .i64 0);replace hq:=ao hq (r.put (i*3+2) (.int .i64 0));refine um ?_;refine gj ?_;refine Tc fun todo=>?_;exact tt _ todo _ _ rfl (Fp L.Nn I0 _) ⟨P5,hF⟩
theorem zg0(x y:Int)(hx:r.f (i*4)=.int .i64 x)(hy:r.f (i*4+1)=.int .i64 y)(hm:i*4+4<=r.m)(w:En)(hF:Kn L w0 rows w):
  Ao prog Tm L.R1 L.D1 142 #[.pointer (Gn ⟨r.g,i*4,Hn⟩)] w (fun v w'=>v=.tuple #[.int .i64 x,.int .i64 y]/\Kn L w0 rows w') (fun _ _=>False):=by
 have hk:(base 142).kind≠.early:=J1;refine Ao.intro L.Nn #[.pointer (Gn ⟨r.g,i*4,Hn⟩),Bn,Bn,Bn,Bn,Bn,Bn,Bn,Bn,Bn,Bn,Bn] func142 rfl J0 fun cl cs Bo tt _=>?_;refine gj ?_;refine Pn.vu (S:=Kn L w0 rows) (Die:=fun _ _=>False) L.Nn L.wu 10 I0 hk J0 (fun _ _ _ h=>h) S8 fun w1 hR=>?_;replace hF:=(hF.rely hR).rely (Rq.drew _);clear hR;refine Vn L.Nn 0 W8 hF ?_;refine um ?_;refine Vn L.Nn 1 W8 hF ?_;refine um ?_;refine Vn L.Nn 2 W8 hF ?_;refine um ?_;refine Jo L.Nn 3 rfl W8 hF ?_ fun _ hw=>⟨Rm (by
  intro K hK;have hc:World.cell? _ ⟨r.g,i*4,Hn⟩=Gn (.int .i64 x):=(hw.cell hq (j:=i*4) Y2).trans (by rw[hx]);go_simp;exact hK),by
  have hc:World.cell? _ ⟨r.g,i*4,Hn⟩=Gn (.int .i64 x):=(hw.cell hq (j:=i*4) Y2).trans (by rw[hx]);refine hw.looks hq ?_;co_evs (exact⟨_,rfl⟩)⟩
 refine um ?_;refine Vn L.Nn 4 W8 hF ?_;refine um ?_;refine Vn L.Nn 5 W8 hF ?_;refine um ?_;refine Vn L.Nn 6 W8 hF ?_;refine um ?_;refine Jo L.Nn 7 rfl W8 hF ?_ fun _ hw=>⟨Rm (by
  intro K hK;have hc:World.cell? _ ⟨r.g,i*4+1,Hn⟩=Gn (.int .i64 y):=(hw.cell hq (j:=i*4+1) Y2).trans (by rw[hy]);go_simp;exact hK),by
  have hc:World.cell? _ ⟨r.g,i*4+1,Hn⟩=Gn (.int .i64 y):=(hw.cell hq (j:=i*4+1) Y2).trans (by rw[hy]);refine hw.looks hq ?_;co_evs (exact⟨_,rfl⟩)⟩
 refine um ?_;refine Vn L.Nn 8 W8 hF ?_;refine um ?_;refine Vn L.Nn 9 W8 hF ?_;refine tj ?_;refine Tc fun todo=>?_;exact tt _ todo _ _ rfl (Qy L.Nn I0 _) ⟨P5,hF⟩
end
end
def Jp.xu(r:Jp)(fr:Nat->Int)(c:Int)(i:Nat):Jp:={r with f:=fun j=>if j%3=1/\j/3<i/\fr (j/3)=c then .slice Hn 0 0 else r.f j}
def Jp.yu(r:Jp)(fr:Nat->Int)(c:Int)(i:Nat):Jp:={r with f:=fun j=>if (j%4=2\/j%4=3)/\j/4<i/\fr (j/4)=c then (if j%4=2 then .int .i64 0 else .bool Tm)else r.f j}
theorem Jp.QR(r:Jp)(fr:Nat->Int)(c:Int):r.xu fr c 0=r:=by
 unfold Jp.xu;simp
theorem Jp.RR(r:Jp)(fr:Nat->Int)(c:Int):r.yu fr c 0=r:=by
 unfold Jp.yu;simp
theorem Jp.sY(r:Jp){fr:Nat->Int}{c:Int}{i:Nat}(h:fr i≠c):r.xu fr c (i+1)=r.xu fr c i:=by
 unfold Jp.xu;congr 1;funext j;by_cases hj:j/3=i
 ·rw[hj];simp[h]
 ·have:j/3<i+1↔j/3<i:=by omega
  simp only[this]
theorem Jp.YU(r:Jp){fr:Nat->Int}{c:Int}{i:Nat}(h:fr i=c):r.xu fr c (i+1)=(r.xu fr c i).put (i*3+1) (.slice Hn 0 0):=by
 unfold Jp.xu Jp.put;congr 1;funext j;unfold upd;by_cases hj:j=i*3+1
 ·subst hj;have e1:(i*3+1)%3=1:=by omega
  have e2:(i*3+1)/3=i:=E0;simp[e1,e2,h]
 ·rw[if_neg hj];by_cases h1:j%3=1
  ·have:j/3<i+1↔j/3<i:=by omega
   simp only[this]
  ·simp[h1]
theorem Jp.tY(r:Jp){fr:Nat->Int}{c:Int}{i:Nat}(h:fr i≠c):r.yu fr c (i+1)=r.yu fr c i:=by
 unfold Jp.yu;congr 1;funext j;by_cases hj:j/4=i
 ·rw[hj];simp[h]
 ·have:j/4<i+1↔j/4<i:=by omega
  simp only[this]
theorem Jp.ZU(r:Jp){fr:Nat->Int}{c:Int}{i:Nat}(h:fr i=c):r.yu fr c (i+1)=((r.yu fr c i).put (i*4+2) (.int .i64 0)).put (i*4+3) (.bool Tm):=by
 unfold Jp.yu Jp.put;congr 1;funext j;show _=upd (upd _ _ _) _ _ j;unfold upd;by_cases h3:j=i*4+3
 ·subst h3;have e1:(i*4+3)%4=3:=by omega
  have e2:(i*4+3)/4=i:=E0;simp[e1,e2,h]
 ·rw[if_neg h3];by_cases h2:j=i*4+2
  ·subst h2;have e1:(i*4+2)%4=2:=by omega
   have e2:(i*4+2)/4=i:=E0;simp[e1,e2,h]
  ·rw[if_neg h2];by_cases h1:j%4=2\/j%4=3
   ·have:j/4<i+1↔j/4<i:=by omega
    simp only[this]
   ·simp[h1]
def C70(a b:Int)(j:Nat):Value:=.int .i64 (if j=0 then a else b)
abbrev PG(g:Nat)(a b:Int):Jp:=⟨g,2,151,C70 a b⟩
section
variable {L:Bt}{w0 w:En}{rows ls:List Jp}{g k:Nat}
theorem ko.og0(h:ko L w0 rows ls w)(ht:((151:Nat)==L.ev)=Tm)(a b:Int):ko L w0 rows (ls++[PG w.heap.size a b]) (w.alloc (.cells #[.int .i64 a,.int .i64 b] 151)):=
 h.alloc #[.int .i64 a,.int .i64 b] 151 (C70 a b) ht fun j hj=>by
  have:j=0\/j=1:=by simp at hj;omega
  rcases this with rfl|rfl<;>rfl
theorem ko.Yb0(h:ko L w0 rows ls w){a b a' b':Int}(hk:ls[k]?=Gn (PG g a b)):ko L w0 rows (ls.set k (PG g a' b')) ((w.setCell ⟨g,0,Hn⟩ (.int .i64 a')).setCell ⟨g,1,Hn⟩ (.int .i64 b')):=by
 have s0:=h.rF hk 0 (.int .i64 a');have s1:=s0.rF (ao hk _) 1 (.int .i64 b');simp only[List.set_set]at s1;refine s1.eZ hk rfl rfl rfl fun j hj=>?_;have:j=0\/j=1:=by have:j<2:=hj;omega
 rcases this with rfl|rfl<;>rfl
theorem ko.P80(h:ko L w0 rows ls w){a b:Int}(a' b':Int)(hk:ls[k]?=Gn (PG g a b)){es:Array Event}(Eu:∀e∈es,∃j wr,e=⟨.cell ⟨g,j,Hn⟩,wr,Tm⟩):
  L.D1 w ((w.setCell ⟨g,0,Hn⟩ (.int .i64 a')).setCell ⟨g,1,Hn⟩ (.int .i64 b')) es:=by
 have s0:=h.rF hk 0 (.int .i64 a');have k0:=ao hk ((PG g a b).put 0 (.int .i64 a'));refine Kn.DR h (au hk) ?_ ?_ Eu
 ·exact(Kn.Ss h (au hk) 0 _).trans (Kn.Ss s0 (au k0) 1 _)
 ·exact(Kn.Yx s0 (au k0) 1 _).trans (Kn.Yx h (au hk) 0 _)
end
def py(rows:List Jp)(iq is:Nat)(rq rs:Jp)(fr:Nat->Int)(c:Int)(i:Nat):List Jp:=(rows.set iq (rq.xu fr c i)).set is (rs.yu fr c i)
noncomputable def N70:Code:=match Tryz.f125.body with
 |some (.seq _ (.block _ (.loop c)))=>c
 |_=>.skip
section
variable {L:Bt}{w0:En}{rows:List Jp}{iq is nb eb k ce cq eY:Nat}{rq rs:Jp}{fr Au:Nat->Int}{c:Int}
theorem P_(hq:rows[iq]?=Gn rq)(Yp:iq≠is)(i:Nat):(py rows iq is rq rs fr c i)[iq]?=Gn (rq.xu fr c i):=by
 unfold py;rw[Fo Yp];exact ao hq _
theorem Cb0(hs:rows[is]?=Gn rs)(Yp:iq≠is)(i:Nat):(py rows iq is rq rs fr c i)[is]?=Gn (rs.yu fr c i):=ao (r:=rs) (by rw[Fo (Ne.symm Yp)];exact hs) _
theorem xY(hq:rows[iq]?=Gn rq)(hs:rows[is]?=Gn rs):py rows iq is rq rs fr c 0=rows:=by
 unfold py;rw[Jp.QR,Jp.RR,bu hq,bu hs]
theorem F10(Yp:iq≠is)(i:Nat)(h:fr i=c):((py rows iq is rq rs fr c i).set iq ((rq.xu fr c i).put (i*3+1) (.slice Hn 0 0))).set is (((rs.yu fr c i).put (i*4+2) (.int .i64 0)).put (i*4+3) (.bool Tm))=py rows iq is rq rs fr c (i+1):=by
 unfold py;rw[Jp.YU _ h,Jp.ZU _ h,List.set_comm _ _ Yp,List.set_set,List.set_comm _ _ (Ne.symm Yp),List.set_set]
theorem T70(i:Nat)(h:fr i≠c):py rows iq is rq rs fr c (i+1)=py rows iq is rq rs fr c i:=by
 unfold py;rw[Jp.sY _ h,Jp.tY _ h]
section
variable (Et:((151:Nat)==L.ev)=Tm)(hq:rows[iq]?=Gn rq)(hs:rows[is]?=Gn rs)(Yp:iq≠is)(bN:k*3<=rq.m)(rU:k*4<=rs.m)(sn:Bq L w0 nb)
include Et hq hs Yp bN rU sn
theorem aV(n1:w0.cell? ⟨nb,1,Hn⟩=Gn (.slice (Gn ⟨rq.g,0,Hn⟩) k cq))(n2:w0.cell? ⟨nb,2,Hn⟩=Gn (.slice (Gn ⟨rs.g,0,Hn⟩) k eY))
  (se:Bq L w0 eb)(e0:∀j,j<k->w0.cell? ⟨eb,j*2,Hn⟩=Gn (.int .i64 (fr j)))(e1:∀j,j<k->w0.cell? ⟨eb,j*2+1,Hn⟩=Gn (.int .i64 (Au j)))(hk8:k<=1000){Bo:zn->En->Prop}(cs:List Xm)
  (tt:∀(a:Act)(todo:List Item)(w':En)(v:Dn),a.defers=[]->yw prog L.R1 L.D1 125 Tryz.f125 a.tmps w' v->(v=.tuple #[]/\Kn L w0 (py rows iq is rq rs fr c k) w')->Pn prog Tm L.R1 L.D1 Bo (G {(base 125).at a todo with mode:=.returning} cs) w'):
  ∀(ez i:Nat)(w:En)(u2 u3 u4 u5 RD SD jC kC oC qC tC uC vC lD rB uB vB xB lA mA nA pA QB TB UB VB WB:Dn),i+ez=k->ko L w0 (py rows iq is rq rs fr c i) [] w->
   Pn prog Tm L.R1 L.D1 Bo (G ((base 125).at {tmps:=#[.pointer (Gn ⟨nb,0,Hn⟩),.int .i64 c,u2,u3,u4,u5,.pointer (Gn ⟨nb,0,Hn⟩),.pointer (Gn ⟨nb,0,Hn⟩),.pointer (Gn ⟨nb,0,Hn⟩),.slice (Gn ⟨eb,0,Hn⟩) k ce,.int .i64 k,.int .i64 i,RD,SD,jC,kC,oC,qC,tC,uC,vC,lD,rB,uB,vB,xB,lA,mA,nA,pA,QB,TB,UB,VB,WB],defers:=[]} [.code N70,.inLoop N70,.inBlock 0]) cs) w:=by
 have hk:(base 125).kind≠.early:=J1;intro ez;induction ez with
 |zero=>
  intro i w u2 u3 u4 u5 RD SD jC kC oC qC tC uC vC lD rB uB vB xB lA mA nA pA QB TB UB VB WB hi hF;obtain rfl:i=k:=E0;refine bj ?_;refine je ?_;refine Aj ?_;exact tt _ [] _ _ rfl (Ep L.Nn I0 _) ⟨rfl,hF.drop⟩
 |succ ez ih=>
  intro i w u2 u3 u4 u5 RD SD jC kC oC qC tC uC vC lD rB uB vB xB lA mA nA pA QB TB UB VB WB hi hF;have yo:i<k:=E0;have lG:(i:Int)<(k:Int):=E0;have hwr:IntKind.i64.wrap ((i:Int)+1)=((i+1:Nat):Int):=by rw[IntKind.wrap_i64];omega
  have he0:=e0 i yo;have he1:=e1 i yo;refine bj ?_;refine jh ?_;refine km ?_;refine rj fun w1 K hK hF=>?_;refine vm ?_ ?_
  ·exact Uh
  clear hK K;refine um ?_;refine K9 fun w1 K hK hF=>?_;have pU:World.cell? _ ⟨eb,i*2,Hn⟩=Gn (.int .i64 (fr i)):=(hF.Xo se).trans he0;have QM:World.cell? _ ⟨eb,i*2+1,Hn⟩=Gn (.int .i64 (Au i)):=(hF.Xo se).trans he1;refine vm ?_ ?_
  ·refine hF.zp se ?_;exact Hh
  clear hK K;clear pU QM;refine um ?_;refine K9 fun w1 K hK hF=>?_;refine vm ?_ ?_
  ·exact sj
  clear hK K;replace hF:ko L w0 (py rows iq is rq rs fr c i) [PG w1.heap.size 0 0] _:=hF.og0 Et 0 0;generalize hB:w1.heap.size=B at *;generalize hW:(w1.alloc (.cells #[.int .i64 0,.int .i64 0] 151))=w3 at *;clear hW hB w1;refine um ?_;refine rj fun w1 K hK hF=>?_;have a0:World.cell? _ ⟨B,0,Hn⟩=Gn _:=hF.oI (k:=0) rfl (j:=0) (show 0<2 by omega);have a1:World.cell? _ ⟨B,1,Hn⟩=Gn _:=hF.oI (k:=0) rfl (j:=1) (show 1<2 by omega);have b0:World.frozen? _ ⟨B,0,Hn⟩=false:=hF.Nz (k:=0) rfl 0;have b1:World.frozen? _ ⟨B,1,Hn⟩=false:=hF.Nz (k:=0) rfl 1;refine vm ?_ ?_
  ·refine hF.P80 (k:=0) _ _ rfl ?_;(intro e he;have hm:=mem_listed he;simp[go_sem, *]at hm;rcases hm with rfl|rfl<;>exact⟨_,_,rfl⟩)
  clear hK K;clear a0 a1 b0 b1;replace hF:ko L w0 (py rows iq is rq rs fr c i) [PG B (fr i) (Au i)] _:=hF.Yb0 (k:=0) rfl;refine um ?_;refine J9 ?_;refine Ec ?_;refine rj fun w1 K hK hF=>?_;have pU:World.cell? _ ⟨B,0,Hn⟩=Gn (.int .i64 (fr i)):=hF.oI (k:=0) rfl (j:=0) (show 0<2 by omega);refine vm ?_ ?_
  ·exact nj
  clear hK K;clear pU;refine um ?_;refine uj ?_;by_cases hc:fr i=c
  ·skip;refine Pn.vr L.Nn (by first|rfl|simp[Act.eval,hc]) ?_;refine ak ?_;refine pj fun w1 K hK hF=>?_;have mG:World.cell? _ ⟨nb,1,Hn⟩=Gn (.slice (Gn ⟨rq.g,0,Hn⟩) k cq):=(hF.Xo sn).trans n1;refine vm ?_ ?_
   ·refine hF.zp sn ?_;exact T9
   clear hK K;clear mG;refine um ?_;refine rj fun w1 K hK hF=>?_;refine vm ?_ ?_
   ·exact Uh
   clear hK K;refine um ?_;refine Pn.bB L.Nn rfl I0 hk rfl func135 I0 rfl #[.pointer (Gn ⟨rq.g,i*3,Hn⟩)] J0 (e30 (r:=rq.xu fr c i) (iq:=iq) (Aq (P_ hq Yp i)) i (by show _<=rq.m;omega) _ hF) ?_ S8;rintro v w2 ⟨rfl,Gs⟩;rw[FI (P_ hq Yp i)]at Gs;replace hF:ko L w0 _ _ _:=Gs;clear Gs;refine um ?_;refine ak ?_;refine pj fun w1 K hK hF=>?_;have hn2:World.cell? _ ⟨nb,2,Hn⟩=Gn (.slice (Gn ⟨rs.g,0,Hn⟩) k eY):=(hF.Xo sn).trans n2;refine vm ?_ ?_
   ·refine hF.zp sn ?_;exact T9
   clear hK K;clear hn2;refine um ?_;refine rj fun w1 K hK hF=>?_;refine vm ?_ ?_
   ·exact Uh
   clear hK K;refine um ?_;have GL:((py rows iq is rq rs fr c i).set iq ((rq.xu fr c i).put (i*3+1) (.slice Hn 0 0)))[is]?=Gn (rs.yu fr c i):=by rw[Fo (Ne.symm Yp)];exact Cb0 hs Yp i
   refine Pn.bB L.Nn rfl I0 hk rfl func136 I0 rfl #[.pointer (Gn ⟨rs.g,i*4,Hn⟩)] J0 (M30 (r:=rs.yu fr c i) (iq:=is) (Aq GL) i (by show _<=rs.m;omega) _ hF) ?_ S8;rintro v w2 ⟨rfl,Gs⟩;rw[List.set_set,FI GL,F10 Yp i hc]at Gs;replace hF:ko L w0 _ [] _:=Kn.lay (Kn.drop Gs);clear Gs GL;refine um ?_;refine gj ?_;exact Lj
  ·skip;refine Pn.Zq L.Nn (by first|rfl|simp[Act.eval,hc]) ?_;refine gj ?_;replace hF:ko L w0 _ [] _:=Kn.lay hF.drop;rw[<-T70 (rq:=rq) (rs:=rs) i hc]at hF;exact Lj
theorem D10(n0:w0.cell? ⟨nb,0,Hn⟩=Gn (.slice (Gn ⟨eb,0,Hn⟩) k ce))(n1:w0.cell? ⟨nb,1,Hn⟩=Gn (.slice (Gn ⟨rq.g,0,Hn⟩) k cq))(n2:w0.cell? ⟨nb,2,Hn⟩=Gn (.slice (Gn ⟨rs.g,0,Hn⟩) k eY))
  (se:Bq L w0 eb)(e0:∀j,j<k->w0.cell? ⟨eb,j*2,Hn⟩=Gn (.int .i64 (fr j)))(e1:∀j,j<k->w0.cell? ⟨eb,j*2+1,Hn⟩=Gn (.int .i64 (Au j)))(hk8:k<=1000)(w:En)(hF:Kn L w0 rows w):
  Ao prog Tm L.R1 L.D1 125 #[.pointer (Gn ⟨nb,0,Hn⟩),.int .i64 c] w (fun v w'=>v=.tuple #[]/\Kn L w0 (py rows iq is rq rs fr c k) w') (fun _ _=>False):=by
 replace hF:=hF.lay;have hk:(base 125).kind≠.early:=J1;refine Ao.intro L.Nn #[.pointer (Gn ⟨nb,0,Hn⟩),.int .i64 c,Bn,Bn,Bn,Bn,Bn,Bn,Bn,Bn,Bn,Bn,Bn,Bn,Bn,Bn,Bn,Bn,Bn,Bn,Bn,Bn,Bn,Bn,Bn,Bn,Bn,Bn,Bn,Bn,Bn,Bn,Bn,Bn,Bn] func125 rfl J0 fun cl cs Bo tt _=>?_;refine km ?_;refine pj fun w1 K hK hF=>?_;have hc:World.cell? _ ⟨nb,0,Hn⟩=Gn (.slice (Gn ⟨eb,0,Hn⟩) k ce):=(hF.Xo sn).trans n0;refine vm ?_ ?_
 ·refine hF.zp sn ?_;exact T9
 clear hK K;clear hc;refine um ?_;refine uj ?_;refine Di ?_;rw[<-xY (fr:=fr) (c:=c) hq hs]at hF;exact aV Et hq hs Yp bN rU sn n1 n2 se e0 e1 hk8 _ tt k 0 _ _ _ _ _ _ _ _ _ _ _ _ _ _ _ _ _ _ _ _ _ _ _ _ _ _ _ _ E0 hF
end
end
theorem BW{w:En}{g t n:Nat}{Ov:Array Dn}{v:Dn}(hg:w.heap[g]?=Gn (.cells Ov t (0,0)))(hn:n<Ov.size):w.setRow g (Ov.toList.take n++[v]++Ov.toList.drop (n+1)).toArray=w.setCell ⟨g,n,Hn⟩ v:=by
 unfold World.setRow World.setCell;congr 1;apply Array.ext_getElem?;intro i;rw[Array.getElem?_modify,Array.getElem?_modify];by_cases h:g=i
 ·subst h;simp only[if_true,hg,Option.map_some];congr 2;apply Array.ext';simp only[Option.isSome_none,Bool.false_eq_true,if_false,Array.toList_setIfInBounds];rw[List.set_eq_take_append_cons_drop,if_pos D5];simp
 ·simp[h]
def Xy(rows:List Jp)(v:Dn)(xs:List Int)(p:Option Nat):Prop:=
 (p=Hn/\v=.slice Hn 0 0/\xs=[])\/∃k r,p=Gn k/\rows[k]?=Gn r/\r.t=2/\v=.slice (Gn ⟨r.g,0,Hn⟩) xs.length r.m/\xs.length<=r.m/\r.m<=maxLen/\∀j,j<xs.length->r.f j=.int .i64 (xs.getD j 0)
section
variable {L:Bt}{w0 w:En}{rows:List Jp}{v:Dn}{xs:List Int}{p:Option Nat}
theorem Xy.app(h:Xy rows v xs p)(ls:List Jp):Xy (rows++ls) v xs p:=by
 rcases h with h|⟨k,r,h1,h2,h3⟩
 ·exact .inl h
 ·exact .inr ⟨k,r,h1,Aq h2,h3⟩
theorem nF:(prog.info? 2).map (fun i=>(i.zero,i.size,i.bytes))=Gn (Gn (.int .i64 0),1,8):=J0
theorem Kn.j00(h:Kn L w0 rows w)(Et:((2:Nat)==L.ev)=Tm)(ys:List Int)(z:Nat){arr:Array Dn}(ha:arr=(ys.map (Value.int .i64 ·)).toArray++Builtin.zeroCells #[.int .i64 0] z):
  ∃rn:Jp,rn.t=2/\rn.g=w.heap.size/\rn.m=ys.length+z/\Kn L w0 (rows++[rn]) (w.drew.alloc (.cells arr 2))/\(∀j,j<ys.length->rn.f j=.int .i64 (ys.getD j 0))/\Rq L L.send w (w.drew.alloc (.cells arr 2))/\(w.drew.alloc (.cells arr 2)).heap[L.c]?=w.heap[L.c]?:=by
 have hd:Kn L w0 rows w.drew:=h.rely (Rq.drew w);have ju:arr.size=ys.length+z:=by rw[ha];simp[Builtin.zeroCells]
 have hk:=hd.alloc arr 2 (fun j=>arr.getD j Bn) Et (fun j hj=>by simp[Array.getD,hj]);refine⟨_,rfl,rfl,ju,hk,fun j hj=>?_,(Rq.drew w).trans (.alloc w.drew _),?_⟩
 ·show arr.getD j Bn=_;have:arr[j]?=Gn (.int .i64 (ys.getD j 0)):=by
   rw[ha,Array.getElem?_append_left E2];simp[hj]
  rw[Array.getD_eq_getD_getElem?,this];rfl
 ·exact heap_alloc_old w.drew _ h.hc
theorem Kn.appended(h:Kn L w0 rows w)(Et:((2:Nat)==L.ev)=Tm)(hl:Xy rows v xs p){S kS:Nat}{x:Int}(hS:rows[kS]?=Gn ⟨S,1,2,fun _=>.int .i64 x⟩)(hn:xs.length<=1000000000)(ty:TypeId):
  ∃v' Iq p' w',(Builtin.append_ #[51,51] ty #[v,.slice (Gn ⟨S,0,Hn⟩) 1 1]).run prog w=.ok v' w'/\Kn L w0 Iq w'/\Xy Iq v' (xs++[x]) p'/\Rq L L.send w w'/\w'.heap[L.c]?=w.heap[L.c]?/\
   ((p'=p/\∃k r j u,p=Gn k/\rows[k]?=Gn r/\Iq=rows.set k (r.put j u))\/(p'=Gn rows.length/\∃rn,Iq=rows++[rn])):=by
 obtain⟨i,hi,hz,ju,OM⟩:=info_parts nF;have hrS:=(h.row kS _ hS).rw.row;have qy:∀(j:Nat)(u:Dn),[Value.int .i64 x][j]?=Gn u->w.cell? ((⟨S,0,Hn⟩:Vm).add j)=Gn u:=fun j u hu=>by
  have hj:j<1:=by
   have:=(List.getElem?_eq_some_iff.1 hu).1;exact Vd
  obtain rfl:j=0:=E0;rw[Addr.add_lit];have:=hrS.cell (j:=0) E0;simp at hu;subst hu;exact Vh
 have hl1:[Value.int .i64 x].length=1*i.size:=by rw[ju];rfl
 rcases hl with⟨rfl,rfl,rfl⟩|⟨k,r,rfl,hk,ht,rfl,sX,kQ,hf⟩
 ·have hr:=run_append_nil (P:=prog) w 51 ty 2 i _ underlying51 hi hz ⟨S,0,Hn⟩ 1 1 _ hl1 qy E0 E0 (by rw[OM];omega);obtain⟨rn,r1,r2,r3,r4,r5,r6,r7⟩:=h.j00 Et [x] (grownCap w 1 0 2-1) (arr:=[Value.int .i64 x].toArray++Builtin.zeroCells (Value.int .i64 0).cells (grownCap w 1 0 2-1)) rfl;have hge:=grownCap_ge w 1 0 2;refine⟨_,_,_,_,hr,r4,.inr ⟨rows.length,rn,rfl,ux rn,r1,?_,?_,?_,?_⟩,r6,r7,.inr ⟨rfl,rn,rfl⟩⟩
  ·rw[r2,r3];simp;omega
  ·rw[r3];simp
  ·rw[r3];have:=grownCap_le_maxLen w 1 0 2 (by simp[maxLen]);simp;omega
  ·exact r5
 ·have hr:=h.row k r hk;obtain⟨Ov,hg,hcs,hc⟩:=hr.rw.row;rw[ht]at hg;by_cases bI:xs.length+1<=r.m
  ·have T_:=run_append_room (P:=prog) w 51 ty 2 i underlying51 hi r.g xs.length r.m Ov hg ⟨S,0,Hn⟩ 1 1 [.int .i64 x] hl1 qy D2 bI (by rw[ju,hcs];simp;omega);rw[ju,Nat.mul_one,List.length_singleton,BW hg (by rw[hcs];omega)]at T_;refine⟨_,_,_,_,T_,h.set hk xs.length (.int .i64 x),.inr ⟨k,_,rfl,ao hk _,ht,by simp[Jp.put],by simp[Jp.put];omega,kQ,fun j hj=>?_⟩,Kn.Ss h hk _ _,Kn.Yx h hk _ _,.inl ⟨rfl,k,r,_,_,rfl,hk,rfl⟩⟩;have kz:j<xs.length+1:=by simpa using hj
   show upd r.f xs.length _ j=_;by_cases e:j=xs.length
   ·subst e;rw[upd_same];simp
   ·rw[upd_ne _ _ e,hf j E0];simp[Em (show j<xs.length by omega)]
  ·have holds:∀(j:Nat)(u:Dn),(xs.map (Value.int .i64 ·))[j]?=Gn u->w.cell? ((⟨r.g,0,Hn⟩:Vm).add j)=Gn u:=fun j u hu=>by
    have hj:j<xs.length:=by
     have:=(List.getElem?_eq_some_iff.1 hu).1;exact Vd
    rw[Addr.add_lit,Nat.zero_add,hr.cell (show j<r.m by omega),hf j hj];simp[hj]at hu;simp[hj,<-hu]
   have T_:=run_append_grow (P:=prog) w 51 ty 2 i _ underlying51 hi hz ⟨r.g,0,Hn⟩ xs.length r.m (xs.map (Value.int .i64 ·)) (by rw[ju];simp) holds ⟨S,0,Hn⟩ 1 1 _ hl1 qy E0 E0 (growslice_fits E0 (by rw[OM];omega));obtain⟨rn,r1,r2,r3,r4,r5,r6,r7⟩:=h.j00 Et (xs++[x]) (grownCap w (xs.length+1) r.m 2-(xs.length+1)) (arr:=(xs.map (Value.int .i64 ·)).toArray++[Value.int .i64 x].toArray++Builtin.zeroCells (Value.int .i64 0).cells (grownCap w (xs.length+1) r.m 2-(xs.length+1))) (by simp;rfl);have hge:=grownCap_ge w (xs.length+1) r.m 2;refine⟨_,_,_,_,T_,r4,.inr ⟨rows.length,rn,rfl,ux rn,r1,?_,?_,?_,?_⟩,r6,r7,.inr ⟨rfl,rn,rfl⟩⟩
   ·rw[r2,r3];simp;omega
   ·rw[r3];simp
   ·rw[r3];have:=grownCap_le_maxLen w (xs.length+1) r.m 2 Y1;simp;omega
   ·exact r5
theorem Xy.owns(hl:Xy rows v xs p)(h:Kn L w0 rows w):w.ownsRow 0 2 1 v xs.length (xs.map (Value.int .i64 ·))/\∀g,v.ownBlock=Gn g->Calm L L.main w g/\zH L.send w g:=by
 rcases hl with⟨rfl,rfl,rfl⟩|⟨k,r,rfl,hk,ht,rfl,sX,kQ,hf⟩
 ·exact⟨World.ownsRow_nil _ _ _ _,fun g hg=>by simp[Value.ownBlock]at hg⟩
 ·have ho:=h.row k r hk;obtain⟨Ov,hg,hcs,hc⟩:=ho.rw.row;rw[ht]at hg;refine⟨⟨P0,.inr ⟨r.g,r.m,Ov,rfl,Pm _,hg,sX,kQ,by rw[hcs,Nat.mul_one],?_⟩⟩,fun g e=>?_⟩
  ·apply List.ext_getElem?;intro j;rw[Nat.mul_one];by_cases hj:j<xs.length
   ·rw[List.getElem?_take_of_lt hj,Array.getElem?_toList,hc j E0,hf j hj];simp[hj]
   ·rw[List.getElem?_take_eq_none E0];simp[hj]
  ·simp[Value.ownBlock]at e;subst e;exact⟨ho.rw.calm,ho.own⟩
theorem Kn.cM{w':En}(h:Kn L w0 rows w)(hl:Xy rows v xs p){S kS:Nat}{x:Int}(hS:rows[kS]?=Gn ⟨S,1,2,fun _=>.int .i64 x⟩)(hn:xs.length<=1000000000)(nV:Rq L L.send w w')(nH:w'.heap[L.c]?=w.heap[L.c]?){fn:FuncId}{A:Act}{o:Oper}(a b:Operand)(ep:o.op=.call {callee:=.builtin .append,args:=#[a,b],argTypes:=#[51,51]})(ha:A.eval a=v)(hb:A.eval b=.slice (Gn ⟨S,0,Hn⟩) 1 1):L.D1 w w' (listed prog fn A o w):=by
 obtain⟨i,hi,hz,ju,OM⟩:=info_parts nF;obtain⟨Io,eS⟩:=hl.owns h;have hoS:=h.row kS _ hS;refine⟨nV,nH,fun e he=>?_⟩;have he:=mem_listed he;rw[events_append_op a b 51 ep ha hb]at he;have qy:∀(j:Nat)(u:Dn),[Value.int .i64 x][j]?=Gn u->w.cell? ((⟨S,0,Hn⟩:Vm).add j)=Gn u:=fun j u hu=>by
  have hj:j<1:=by
   have:=(List.getElem?_eq_some_iff.1 hu).1;exact Vd
  obtain rfl:j=0:=E0;rw[Addr.add_lit];have:=hoS.rw.row.cell (j:=0) E0;simp at hu;subst hu;exact Vh
 have rA:∀c,Calm L L.main w c->zH L.send w c->∀wr sy ad,ad.block=c->WA L L.send L.main w' ⟨.cell ad,wr,sy⟩:=fun c h1 h2 wr sy ad hc=>by
  obtain⟨q,hq⟩:=h1.there;obtain⟨q',g1,g2,_⟩:=nV.at_ c q hq;refine⟨Gq _ _ _,fun z hz _=>?_⟩;have:z=⟨.cell ad,wr,if sy then .atomic else .plain⟩:=by
   cases wr<;>cases sy<;>simp[MemAct.ofEvent,MemAct.touch?]at hz<;>exact hz.symm
  subst this;exact⟨q',by rw[hc];exact g1,by rw[hc];exact fun hm=>h1.no q hq (L.Ap c q' q (fun x=>(g2 x).symm) hm),fun _=>by rw[hc];exact L.Dp c q q' g2 (h2 q hq)⟩
 rcases events_append_where (P:=prog) w 0 51 o.type 2 i _ 1 8 underlying51 hi hz ju OM v xs.length _ Io ⟨S,0,Hn⟩ 1 1 [.int .i64 x] rfl qy D2 Y1 E0 e he with⟨ad,h1,h2⟩|⟨q,rfl,hq⟩
 ·obtain⟨loc,wr,sy⟩:=e;simp only at h1;subst h1;rcases h2 with⟨_,h2⟩|h2
  ·exact rA S hoS.rw.calm hoS.own _ _ ad h2
  ·exact rA ad.block (eS _ h2.symm).1 (eS _ h2.symm).2 _ _ ad rfl
 ·refine⟨⟨fun h=>?_,fun h=>?_⟩,fun z hz=>?_⟩
  ·exact Rh
  ·exact Rh
  ·exact Ie
end
section
variable {L:Bt}{w0 w:En}{rows:List Jp}
theorem Kn.sub(h:Kn L w0 rows w){Iq:List Jp}(φ:Nat->Nat)(hφ:∀i r,Iq[i]?=Gn r->rows[φ i]?=Gn r)(inj:∀i j,i<Iq.length->j<Iq.length->φ i=φ j->i=j):Kn L w0 Iq w:=
 ⟨h.ph,fun i r hi=>h.row (φ i) r (hφ i r hi),fun i j r s hi hj hij=>h.pw (φ i) (φ j) r s (hφ i r hi) (hφ j s hj) fun e=>hij (inj i j (List.getElem?_eq_some_iff.1 hi).1 (List.getElem?_eq_some_iff.1 hj).1 e),h.hB,h.hc⟩
theorem Kn.mid{a b:Jp}(h:Kn L w0 (rows++[a]++[b]) w):Kn L w0 (rows++[b]) w:=by
 refine h.sub (fun i=>if i<rows.length then i else i+1) (fun i r hi=>?_) (fun i j hi hj e=>?_)
 ·by_cases hl:i<rows.length
  ·rw[if_pos hl,List.append_assoc,Em hl];rwa [Em hl]at hi
  ·have eG:=(List.getElem?_eq_some_iff.1 hi).1;simp at eG;obtain rfl:i=rows.length:=by omega
   rw[if_neg hl];simp at hi ⊢;exact hi
 ·revert e;show (if i<rows.length then i else i+1)=(if j<rows.length then j else j+1)->i=j;split<;>split<;>omega
theorem Xy.slice{v:Dn}{xs:List Int}{p:Option Nat}(hl:Xy rows v xs p):∃a n c,v=.slice a n c:=by
 rcases hl with⟨_,rfl,_⟩|⟨k,rk,_,_,_,rfl,_⟩
 ·exact Gi
 ·exact Gi
theorem sG{tmp:Jp}{v v':Dn}{xs ys:List Int}{p p':Option Nat}{Iq:List Jp}{iq:Nat}{r:Jp}(hq:rows[iq]?=Gn r)(hp:p≠Gn iq)(hl:Xy rows v xs p)(hK:Kn L w0 Iq w)(hL:Xy Iq v' ys p')
  (TM:(p'=p/\∃k r j u,p=Gn k/\(rows++[tmp])[k]?=Gn r/\Iq=(rows++[tmp]).set k (r.put j u))\/(p'=Gn (rows++[tmp]).length/\∃rn,Iq=rows++[tmp]++[rn])):
  ∃rows2 p2,Kn L w0 rows2 w/\rows2[iq]?=Gn r/\Xy rows2 v' ys p2/\rows.length<=rows2.length/\(∀k,p≠Gn k->k<rows.length->rows2[k]?=rows[k]?)/\(p2=p\/p2=Gn rows.length)/\p2≠Gn iq:=by
 have hiq:=(List.getElem?_eq_some_iff.1 hq).1;rcases TM with⟨rfl,k,rk,j,u,rfl,hk,rfl⟩|⟨rfl,rn,rfl⟩
 ·rcases hl with⟨h0,_⟩|⟨k',r',jK,LY,_⟩
  ·cases h0
  ·obtain rfl:k=k':=Option.some.inj jK;have DC:=(List.getElem?_eq_some_iff.1 LY).1;have EY:k≠iq:=fun e=>hp (by rw[e]);rw[List.set_append_left _ _ DC]at hK hL;refine⟨_,Gn k,hK.drop,?_,?_,P0,fun m hm kQ=>?_,.inl rfl,hp⟩
   ·rw[Fo (Ne.symm EY)];exact hq
   ·rcases hL with⟨h0,_⟩|⟨k2,r2,jG,iP,lQ⟩
    ·cases h0
    ·obtain rfl:k=k2:=Option.some.inj jG;rw[Em (by simpa using DC)]at iP;exact .inr ⟨k,r2,rfl,iP,lQ⟩
   ·rw[Fo (fun e=>hm (by rw[e]))]
 ·refine⟨rows++[rn],Gn rows.length,hK.mid,Aq hq,?_,P0,fun m hm kQ=>Em kQ,.inr rfl,fun e=>Q5⟩;rcases hL with⟨h0,_⟩|⟨k2,r2,jG,iP,lQ⟩
  ·cases h0
  ·obtain rfl:(rows++[tmp]).length=k2:=Option.some.inj jG;rw[ux]at iP;obtain rfl:=Option.some.inj iP;exact .inr ⟨rows.length,rn,rfl,ux rn,lQ⟩
end
section
variable {L:Bt}{w0:En}{rows:List Jp}{iq:Nat}{r:Jp}
theorem Fg0(Et:((2:Nat)==L.ev)=Tm)(hq:rows[iq]?=Gn r)(i:Nat)(hm:i*3+3<=r.m)(x:Int){sv:Dn}{xs:List Int}{p:Option Nat}(hsv:r.f (i*3+1)=sv)(hl:Xy rows sv xs p)(hp:p≠Gn iq)(hn:xs.length<=1000000000)(w:En)(hF:Kn L w0 rows w):
  Ao prog Tm L.R1 L.D1 138 #[.pointer (Gn ⟨r.g,i*3,Hn⟩),.int .i64 x] w (fun v w'=>v=.tuple #[]/\∃Iq v' p',Kn L w0 Iq w'/\Iq[iq]?=Gn (r.put (i*3+1) v')/\Xy Iq v' (xs++[x]) p'/\rows.length<=Iq.length/\(∀k,k≠iq->p≠Gn k->k<rows.length->Iq[k]?=rows[k]?)/\(p'=p\/p'=Gn rows.length)) (fun _ _=>False):=by
 replace hF:=hF.lay;obtain⟨sa,sn,sc,rfl⟩:=hl.slice;have hk:(base 138).kind≠.early:=J1;refine Ao.intro L.Nn #[.pointer (Gn ⟨r.g,i*3,Hn⟩),.int .i64 x,Bn,Bn,Bn,Bn,Bn,Bn,Bn,Bn,Bn,Bn,Bn,Bn] func138 rfl J0 fun cl cs Bo tt _=>?_;refine J9 ?_;refine .Un L.Nn [0,1,2,3,4,5,6,7,8,9,10] I0 ?_;refine Ja ?_;refine K9 fun w1 K hK hF=>?_;have hc:World.cell? _ ⟨r.g,i*3+1,Hn⟩=Gn (.slice sa sn sc):=(hF.cell hq (j:=i*3+1) Y2).trans (by rw[hsv]);refine vm ?_ ?_
 ·exact Bj
 clear hK K;clear hc;refine um ?_;refine rj fun w1 K hK hF=>?_;refine vm ?_ ?_
 ·exact sj
 clear hK K;have hN:=hF.alloc #[.int .i64 x] 2 (fun _=>.int .i64 x) Et (fun j hj=>by
  have:j=0:=E2;subst this;rfl)
 replace hF:ko L w0 rows [⟨w1.heap.size,1,2,fun _=>.int .i64 x⟩] _:=hN;clear hN;generalize hB:w1.heap.size=B at *;generalize hW:(w1.alloc (.cells #[.int .i64 x] 2))=w3 at *;clear hW hB w1;refine um ?_;refine K9 fun w1 K hK hF=>?_;have hS:(rows++[(⟨B,1,2,fun _=>.int .i64 x⟩:Jp)])[rows.length]?=Gn ⟨B,1,2,fun _=>.int .i64 x⟩:=ux _;obtain⟨v',Iq,p',w',JA,hK',hL',hT',WR,TM⟩:=Kn.appended hF Et (hl.app _) hS hn 51;refine uponK_append (.tmp 8) (.tmp 10) 51 rfl rfl rfl JA (hK _ _ ⟨Kn.cM hF (hl.app _) hS hn hT' WR (.tmp 8) (.tmp 10) rfl rfl rfl,?_⟩);clear hK K JA hT' WR;obtain⟨rows2,p2,hK2,lO,hL2,sX,gP,hpp,hpi⟩:=sG hq hp hl hK' hL' TM;obtain⟨va,vn,vc,rfl⟩:=hL'.slice;clear hK' hL' TM hF hS;have hF:=hK2;clear hK2;refine um ?_;refine Vk fun w1 K hK hF=>?_;have zu:World.frozen? _ ⟨r.g,i*3+1,Hn⟩=false:=hF.frozen lO (i*3+1);have hc:World.cell? _ ⟨r.g,i*3+1,Hn⟩=Gn _:=hF.cell lO (j:=i*3+1) Y2;refine vm ?_ ?_
 ·refine hF.does lO (i*3+1) _ ?_;exact Yb
 clear hK K;clear zu hc;replace hF:=hF.set lO (i*3+1) (.slice va vn vc);refine um ?_;refine Aj ?_;refine tt _ [] _ _ rfl (Ep L.Nn I0 _) ⟨rfl,_,.slice va vn vc,p2,hF,ao lO _,?_,by simpa using sX,fun k h1 h2 h3=>?_,hpp⟩
 ·rcases hL2 with⟨a1,a2,a3⟩|⟨k2,r2,a1,a2,a3⟩
  ·exact .inl ⟨a1,a2,a3⟩
  ·exact .inr ⟨k2,r2,a1,by rw[Fo (fun e=>hpi (by rw[a1,e]))];exact a2,a3⟩
 ·rw[Fo h1];exact gP k h2 h3
end
end Go.Proofs.YtdoghgnifkgfdaaGreat.Mute
