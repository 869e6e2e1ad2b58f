import Derived.Test.YtdoghgnifkgfdaaGreatP00
import Derived.Test.YtdoghgnifkgfdaaGreatP18
set_option maxRecDepth 100000
set_option maxHeartbeats 16000000
open Option renaming none->Ai,some->yi
open Go renaming World->ui,Value->ti,undef->ri
open Bool renaming true->ji,false->gi
namespace Go.Proofs.YtdoghgnifkgfdaaGreat.Mute
open Tryz Go Go.Conc Go.RowKit
def gc0:List Item->Option (List Item)
 |.code (.seq x y)::k=>yi (.code x::.code y::k)
 |.code (.block id c)::k=>yi (.code c::.inBlock id::k)
 |.code .skip::k=>yi k
 |.inBlock _::k=>yi k
 |.inRegion _ []::k=>yi k
 |_=>Ai
section
variable {P:Program}{main:Bool}{R:ui->ui->Prop}{D:ui->ui->Array Event->Prop}{Stop:Goroutine->ui->Prop}{b:Frame}{a:Act}{k k':List Item}{cs:List Frame}{w:ui}
theorem Ci.c1(T:Terms R D)(e:gc0 k=yi k')(h:Ci P main R D Stop (G (b.at a k') cs) w):Ci P main R D Stop (G (b.at a k) cs) w:=by
 unfold gc0 at e;split at e
 ·cases e;exact .seq T h
 ·cases e;exact .block T h
 ·cases e;exact .skip T h
 ·cases e;exact .inBlock T h
 ·cases e;exact .regionEnd T h
 ·cases e
theorem Ci.pj(T:Terms R D){ops:Array Oper}{i:Nat}{rest:List Nat}{o:Oper}{v:ti}(ho:ops[i]?=yi o)(hw:Region.wanted o (yielded ops a.tmps)=ji)(hk:b.kind≠.early)
  (h:Ci P main R D Stop (G (b.at (a.put o.dst v) (.inRegion ops rest::k)) cs) w)
  (hv:∀w₁,(execOp a.eval o).run P w₁=.ok (.value v) w₁/\(execOp a.eval o).events P w₁ #[]=#[]:=by exact fun _=>⟨run_eq_of (by intro K hK;go_simp;exact hK),by simp[go_sem]⟩):
  Ci P main R D Stop (G (b.at a (.inRegion ops (i::rest)::k)) cs) w:=by
 refine .op ho hw hk fun w₁ hR K hK=>?_;rw[(hv w₁).1];refine hK _ _ ⟨?_,h.rely T.trans hR⟩;rw[listed_nil (hv w₁).2];exact T.idle _
theorem Ii(T:Terms R D)(i:Nat){fn:FuncId}{md:Region.Mode}{ops:Array Oper}{S:ui->Prop}{oi:Oper}{v:ti}{fuel:Nat}{lst:Array Bool}{a:Act}(GQ:∀x y,S x->R x y->S y)(hS:S w)
  (h:Gs P main R D fn md ops (fun a' w'=>Ci P main R D Stop (G (b.at a' k) cs) w') (fun _ _=>False) (fun _ _ _=>False) S fuel (lst.setIfInBounds i ji) (a.put oi.dst v) w)
  (hi:ops[i]?=yi oi:=by rfl)(hs:Region.noSelect ops=true:=by first|kernel_rfl|decide +kernel)(FT:CP md ops lst=true:=by first|kernel_rfl|decide +kernel)(hf:Region.free md ops lst i=true:=by first|kernel_rfl|decide +kernel)(hr:(Region.ready md ops lst).contains i=true:=by first|kernel_rfl|decide +kernel)
  (hy:Region.wanted oi (yielded ops a.tmps)=ji/\∀w,(execOp a.eval oi).run P w=.ok (.value v) w/\(execOp a.eval oi).events P w #[]=#[]:=by exact⟨I0,fun _=>⟨run_eq_of (by intro K hK;go_simp;exact hK),by simp[go_sem]⟩⟩):
  Gs P main R D fn md ops (fun a' w'=>Ci P main R D Stop (G (b.at a' k) cs) w') (fun _ _=>False) (fun _ _ _=>False) S (fuel+1) lst a w:=
 sj (Q:=fun a' w'=>Ci P main R D Stop (G (b.at a' k) cs) w') (Die:=fun _ _=>False) (Tail:=fun _ _ _=>False) T (fun _ _ _ _ h _=>h.elim) GQ (fun _ _ _ h r=>Ci.rely T.trans h r) hi hs FT hf hr (.inl ⟨hy.1,fun w _=>⟨(hy.2 w).1,by rw[listed_nil (hy.2 w).2];exact T.idle _⟩⟩) hS h
theorem aj(T:Terms R D)(i:Nat){fn:FuncId}{md:Region.Mode}{ops:Array Oper}{S:ui->Prop}{oi:Oper}{v:ti}{fuel:Nat}{lst:Array Bool}{a:Act}(hi:ops[i]?=yi oi)(GQ:∀x y,S x->R x y->S y)(hS:S w)
  (h:Gs P main R D fn md ops (fun a' w'=>Ci P main R D Stop (G (b.at a' k) cs) w') (fun _ _=>False) (fun _ _ _=>False) S fuel (lst.setIfInBounds i ji) (a.put oi.dst v) w)
  (hy:∀w,S w->(execOp a.eval oi).run P w=.ok (.value v) w/\D w w (listed P fn a oi w))
  (hs:Region.noSelect ops=true:=by first|kernel_rfl|decide +kernel)(FT:CP md ops lst=true:=by first|kernel_rfl|decide +kernel)(hf:Region.free md ops lst i=true:=by first|kernel_rfl|decide +kernel)(hr:(Region.ready md ops lst).contains i=true:=by first|kernel_rfl|decide +kernel)(TQ:Region.wanted oi (yielded ops a.tmps)=true:=by rfl):
  Gs P main R D fn md ops (fun a' w'=>Ci P main R D Stop (G (b.at a' k) cs) w') (fun _ _=>False) (fun _ _ _=>False) S (fuel+1) lst a w:=
 sj (Q:=fun a' w'=>Ci P main R D Stop (G (b.at a' k) cs) w') (Die:=fun _ _=>False) (Tail:=fun _ _ _=>False) T (fun _ _ _ _ h _=>h.elim) GQ (fun _ _ _ h r=>Ci.rely T.trans h r) hi hs FT hf hr (.inl ⟨TQ,hy⟩) hS h
end
def Si(L:km)(w0:ui)(rows ls:List Row)(w:ui):Prop:=Kn L w0 (rows++ls) w
section
variable {L:km}{w0 w w':ui}{rows ls:List Row}{i k ic g j:Nat}{r:Row}{num:Int}{net code:ti}{z:Nat->Int}
theorem Kn.lay(h:Kn L w0 rows w):Si L w0 rows [] w:=by unfold Si;rw[List.append_nil];exact h
theorem Si.drop(h:Si L w0 rows ls w):Kn L w0 rows w:=Kn.drop h
theorem Si.rely(h:Si L w0 rows ls w)(hr:L.R1 w w'):Si L w0 rows ls w':=Kn.rely h hr
theorem Si.cell(h:Si L w0 rows ls w)(hi:rows[i]?=yi r)(hj:j<r.m):w.cell? ⟨r.g,j,Ai⟩=yi (r.f j):=Kn.cell h (Uj hi) hj
theorem Si.gp(h:Si L w0 rows ls w)(hi:rows[ic]?=yi (Ri g num net code z))(h3:3<=j)(hj:j<48):w.cell? ⟨g,j,Ai⟩=yi (.int .i64 (z j)):=Kn.gp h (Uj hi) h3 hj
theorem Si.frozen(h:Si L w0 rows ls w)(hi:rows[i]?=yi r)(j:Nat):w.frozen? ⟨r.g,j,Ai⟩=false:=Kn.frozen h (Uj hi) j
theorem Si.looks(h:Si L w0 rows ls w)(hi:rows[i]?=yi r){es:Array Event}(zn:∀e∈es,∃j,e=⟨.cell ⟨r.g,j,Ai⟩,gi,gi⟩):L.D1 w w es:=Kn.looks h (Uj hi) zn
theorem Si.does(h:Si L w0 rows ls w)(hi:rows[i]?=yi r)(j:Nat)(v:ti){es:Array Event}(zn:∀e∈es,e=⟨.cell ⟨r.g,j,Ai⟩,ji,gi⟩):L.D1 w (w.setCell ⟨r.g,j,Ai⟩ v) es:=Kn.does h (Uj hi) j v zn
theorem KC(hi:rows[i]?=yi r)(r':Row):(rows++ls).set i r'=rows.set i r'++ls:=List.set_append_left i r' (List.getElem?_eq_some_iff.1 hi).1
theorem Si.w50(h:Si L w0 rows ls w)(hi:rows[ic]?=yi (Ri g num net code z))(h3:3<=j)(v:Int):Si L w0 (rows.set ic (Ri g num net code (Ji z j v))) ls (w.setCell ⟨g,j,Ai⟩ (.int .i64 v)):=by
 have:=Kn.w50 h (Uj hi) h3 v;rw[KC hi]at this;exact nh
theorem Gm(hk:ls[k]?=yi r):(rows++ls)[rows.length+k]?=yi r:=by
 rw[List.getElem?_append_right E0,Nat.add_sub_cancel_left];exact hk
theorem Si.ZB(h:Si L w0 rows ls w)(hk:ls[k]?=yi r)(hj:j<r.m):w.cell? ⟨r.g,j,Ai⟩=yi (r.f j):=Kn.cell h (Gm hk) hj
theorem Si.Vt(h:Si L w0 rows ls w)(hk:ls[k]?=yi r)(j:Nat):w.frozen? ⟨r.g,j,Ai⟩=false:=Kn.frozen h (Gm hk) j
theorem Si.vk(h:Si L w0 rows ls w)(hk:ls[k]?=yi r){es:Array Event}(zn:∀e∈es,∃j,e=⟨.cell ⟨r.g,j,Ai⟩,gi,gi⟩):L.D1 w w es:=Kn.looks h (Gm hk) zn
theorem Si.yU(h:Si L w0 rows ls w)(hk:ls[k]?=yi r)(j:Nat)(v:ti){es:Array Event}(zn:∀e∈es,e=⟨.cell ⟨r.g,j,Ai⟩,ji,gi⟩):L.D1 w (w.setCell ⟨r.g,j,Ai⟩ v) es:=Kn.does h (Gm hk) j v zn
theorem Si.Qy(h:Si L w0 rows ls w)(hk:ls[k]?=yi r)(j:Nat)(v:ti):Si L w0 rows (ls.set k (r.put j v)) (w.setCell ⟨r.g,j,Ai⟩ v):=by
 have:=Kn.set h (Gm hk) j v;rw[List.set_append_right _ _ E0,Nat.add_sub_cancel_left]at this;exact nh
theorem Si.alloc(h:Si L w0 rows ls w)(cs:Array ti)(t:Nat)(f:Nat->ti)(ht:(t==L.ev)=gi)(hf:∀j,j<cs.size->cs[j]?=yi (f j)):Si L w0 rows (ls++[⟨w.heap.size,cs.size,t,f⟩]) (w.alloc (.cells cs t)):=by
 have:=Kn.alloc h cs t f ht hf;rw[List.append_assoc]at this;exact nh
theorem Si.ym(h:Si L w0 rows ls w)(o:Obj){es:Array Event}(zn:∀e∈es,False):L.D1 w (w.alloc o) es:=Kn.ym h o zn
theorem Si.nj(h:Si L w0 rows ls w){a:Addr}(hs:Still L w0 a.block):w.cell? a=w0.cell? a:=Kn.nj h hs
theorem Si.Aj(h:Si L w0 rows ls w){b:Nat}(hs:Still L w0 b){es:Array Event}(zn:∀e∈es,∃j,e=⟨.cell ⟨b,j,Ai⟩,gi,gi⟩):L.D1 w w es:=Kn.Aj h hs zn
theorem Si.less{ex:List Row}(h:Si L w0 rows (ls++ex) w):Si L w0 rows ls w:=by
 unfold Si at *;rw[<-List.append_assoc]at h;exact h.drop
theorem Em(hi:rows[i]?=yi r):rows.set i r=rows:=by
 apply List.ext_getElem?;intro n;by_cases h:n=i
 ·subst h;rw[Qi hi,hi]
 ·rw[Yi h]
theorem Kn.start(h:Kn L w0 rows w)(hi:rows[i]?=yi r):Si L w0 (rows.set i r) [] w:=by
 rw[Em hi];exact h.lay
theorem at2{q:Row}(hi:rows[i]?=yi q)(r:Row):(rows.set i r++ls)[i]?=yi r:=Uj (Qi hi r)
theorem Si.back{q r':Row}(hi:rows[i]?=yi q)(h:Kn L w0 ((rows.set i r++ls).set i r') w):Si L w0 (rows.set i r') ls w:=by
 rw[KC (Qi hi r),List.set_set]at h;exact h
theorem Si.cz{q:Row}(hi:rows[ic]?=yi q)(h:Si L w0 (rows.set ic (Ri g num net code z)) ls w)(h3:3<=j)(hj:j<48):w.cell? ⟨g,j,Ai⟩=yi (.int .i64 (z j)):=h.gp (Qi hi _) h3 hj
theorem Si.XI{q:Row}(hi:rows[ic]?=yi q)(h:Si L w0 (rows.set ic (Ri g num net code z)) ls w)(j:Nat):w.frozen? ⟨g,j,Ai⟩=false:=h.frozen (Qi hi _) j
theorem Si.Gn{q:Row}(hi:rows[ic]?=yi q)(h:Si L w0 (rows.set ic (Ri g num net code z)) ls w){es:Array Event}(zn:∀e∈es,∃j,e=⟨.cell ⟨g,j,Ai⟩,gi,gi⟩):L.D1 w w es:=h.looks (Qi hi _) zn
theorem Si.Hq{q:Row}(hi:rows[ic]?=yi q)(h:Si L w0 (rows.set ic (Ri g num net code z)) ls w)(j:Nat)(v:ti){es:Array Event}(zn:∀e∈es,e=⟨.cell ⟨g,j,Ai⟩,ji,gi⟩):L.D1 w (w.setCell ⟨g,j,Ai⟩ v) es:=h.does (Qi hi _) j v zn
theorem Si.yu{q:Row}(hi:rows[ic]?=yi q)(h:Si L w0 (rows.set ic (Ri g num net code z)) ls w)(h3:3<=j)(v:Int):Si L w0 (rows.set ic (Ri g num net code (Ji z j v))) ls (w.setCell ⟨g,j,Ai⟩ (.int .i64 v)):=by
 have:=h.w50 (Qi hi _) h3 v;rw[List.set_set]at this;exact nh
def Le0(a b c d:Int)(j:Nat):Value:=.int .i64 (if j=0 then a else if j=1 then b else if j=2 then c else d)
abbrev uj(g:Nat)(a b c d:Int):Row:=⟨g,4,97,Le0 a b c d⟩
theorem Si.Yn(h:Si L w0 rows ls w){a b c d:Int}(hk:ls[k]?=yi (uj g a b c d)):w.cell? ⟨g,0,Ai⟩=yi (.int .i64 a)/\w.cell? ⟨g,1,Ai⟩=yi (.int .i64 b)/\w.cell? ⟨g,2,Ai⟩=yi (.int .i64 c)/\w.cell? ⟨g,3,Ai⟩=yi (.int .i64 d):=
 ⟨h.ZB hk (j:=0) (show 0<4 by omega),h.ZB hk (j:=1) (show 1<4 by omega),h.ZB hk (j:=2) (show 2<4 by omega),h.ZB hk (j:=3) (show 3<4 by omega)⟩
theorem Si.VL(h:Si L w0 rows ls w){a b c d:Int}(hk:ls[k]?=yi (uj g a b c d)):w.frozen? ⟨g,0,Ai⟩=gi/\w.frozen? ⟨g,1,Ai⟩=gi/\w.frozen? ⟨g,2,Ai⟩=gi/\w.frozen? ⟨g,3,Ai⟩=false:=
 ⟨h.Vt hk 0,h.Vt hk 1,h.Vt hk 2,h.Vt hk 3⟩
theorem Si.IE(h:Si L w0 rows ls w)(ht:((97:Nat)==L.ev)=gi)(a b c d:Int):Si L w0 rows (ls++[uj w.heap.size a b c d]) (w.alloc (.cells #[.int .i64 a,.int .i64 b,.int .i64 c,.int .i64 d] 97)):=
 h.alloc #[.int .i64 a,.int .i64 b,.int .i64 c,.int .i64 d] 97 (Le0 a b c d) ht fun j hj=>by
  have:j=0\/j=1\/j=2\/j=3:=by simp at hj;omega
  rcases this with rfl|rfl|rfl|rfl<;>rfl
theorem Si.uS(h:Si L w0 rows (ls.set k r) w){r' q:Row}(hk:ls[k]?=yi q)(hg:r'.g=r.g)(hm:r'.m=r.m)(ht:r'.t=r.t)(hf:∀j,j<r.m->r.f j=r'.f j):Si L w0 rows (ls.set k r') w:=by
 have e:∀x:Row,rows++ls.set k x=(rows++ls).set (rows.length+k) x:=fun x=>by rw[List.set_append_right _ _ E0,Nat.add_sub_cancel_left]
 unfold Si at *;rw[e]at h ⊢;exact h.congr (Gm hk) hg hm ht hf
theorem Si.vL(h:Si L w0 rows ls w){a b c d a' b' c' d':Int}(hk:ls[k]?=yi (uj g a b c d)):
  Si L w0 rows (ls.set k (uj g a' b' c' d')) ((((w.setCell ⟨g,0,Ai⟩ (.int .i64 a')).setCell ⟨g,1,Ai⟩ (.int .i64 b')).setCell ⟨g,2,Ai⟩ (.int .i64 c')).setCell ⟨g,3,Ai⟩ (.int .i64 d')):=by
 have hl:=(List.getElem?_eq_some_iff.1 hk).1;have s0:=h.Qy hk 0 (.int .i64 a');have s1:=s0.Qy (Qi hk _) 1 (.int .i64 b');have s2:=s1.Qy (Qi (Qi hk _) _) 2 (.int .i64 c');have s3:=s2.Qy (Qi (Qi (Qi hk _) _) _) 3 (.int .i64 d');simp only[List.set_set]at s3;refine s3.uS hk rfl rfl rfl fun j hj=>?_;have:j=0\/j=1\/j=2\/j=3:=by have:j<4:=hj;omega
 rcases this with rfl|rfl|rfl|rfl<;>rfl
theorem Si.MG(h:Si L w0 rows ls w){a b c d:Int}(a' b' c' d':Int)(hk:ls[k]?=yi (uj g a b c d)){es:Array Event}(zn:∀e∈es,∃j wr,e=⟨.cell ⟨g,j,Ai⟩,wr,gi⟩):
  L.D1 w ((((w.setCell ⟨g,0,Ai⟩ (.int .i64 a')).setCell ⟨g,1,Ai⟩ (.int .i64 b')).setCell ⟨g,2,Ai⟩ (.int .i64 c')).setCell ⟨g,3,Ai⟩ (.int .i64 d')) es:=by
 have s0:=h.Qy hk 0 (.int .i64 a');have k0:=Qi hk ((uj g a b c d).put 0 (.int .i64 a'));have s1:=s0.Qy k0 1 (.int .i64 b');have k1:=Qi k0 (((uj g a b c d).put 0 (.int .i64 a')).put 1 (.int .i64 b'));have s2:=s1.Qy k1 2 (.int .i64 c');have k2:=Qi k1 ((((uj g a b c d).put 0 (.int .i64 a')).put 1 (.int .i64 b')).put 2 (.int .i64 c'));refine Kn.tM h (Gm hk) ?_ ?_ zn
 ·exact(((Kn.Hl h (Gm hk) 0 _).trans (Kn.Hl s0 (Gm k0) 1 _)).trans (Kn.Hl s1 (Gm k1) 2 _)).trans (Kn.Hl s2 (Gm k2) 3 _)
 ·exact(Kn.Oq s2 (Gm k2) 3 _).trans ((Kn.Oq s1 (Gm k1) 2 _).trans ((Kn.Oq s0 (Gm k0) 1 _).trans (Kn.Oq h (Gm hk) 0 _)))
end
section
variable {L:km}{w0:ui}{rows:List Row}{ic g cb co n cc:Nat}{num:Int}{net:ti}{z ci:Nat->Int}
theorem A40(vm:((97:Nat)==L.ev)=gi)(hi:rows[ic]?=yi (Ri g num net (.slice (yi ⟨cb,co,Ai⟩) n cc) z))(hs:Still L w0 cb)(Gj:∀j,j<n*4->w0.cell? ⟨cb,co+j,Ai⟩=yi (.int .i64 (ci j)))(nx:Nat)(hz:z 45=nx)(Wi:nx<n)(hn:n<=48)(w:ui)(hF:Kn L w0 rows w):
  Xi prog gi L.R1 L.D1 126 #[.pointer (yi ⟨g,0,Ai⟩)] w (fun v w'=>v=.agg #[.int .i64 (ci (nx*4)),.int .i64 (ci (nx*4+1)),.int .i64 (ci (nx*4+2)),.int .i64 (ci (nx*4+3))]/\Kn L w0 (rows.set ic (Ri g num net (.slice (yi ⟨cb,co,Ai⟩) n cc) (Ji z 45 (nx+1)))) w') (fun _ _=>False):=by
 replace hF:=hF.lay;have hk:(base 126).kind≠.early:=E1;refine Xi.intro L.Bi #[.pointer (yi ⟨g,0,Ai⟩),ri,ri,ri,ri,ri,ri,ri,ri,ri,ri,ri,ri,ri,ri,ri,ri,ri,ri,ri,ri,ri,ri,ri,ri,ri,ri,ri,ri,ri,ri,ri,ri,ri,ri,ri,ri] func126 rfl J0 fun cl cs Stop jm _=>?_;refine J8 ?_;refine s9 ?_;refine K8 fun w1 K hK hF=>?_;refine I8 ?_ ?_
 ·refine bf ?_;exact j9
 clear hK K;replace hF:Si L w0 rows [uj w1.heap.size 0 0 0 0] _:=hF.IE vm 0 0 0 0;generalize hN:w1.heap.size=N at *;generalize hW:(w1.alloc (.cells #[.int .i64 0,.int .i64 0,.int .i64 0,.int .i64 0] 97))=w2 at *;clear hW hN w1;refine W9 ?_;refine J8 ?_;refine Fe fun w1 hF=>?_;refine Q8 ?_;refine S9 ?_;refine Ib ?_;refine W9 ?_;refine aj L.Bi 4 rfl (fun _ _ h r=>Si.rely h r) hF ?_ fun _ hw=>⟨run_eq_of (by
  intro K hK;refine Rb fun hc=>?_;rw[hz]at hc;go_simp;exact hK),by
  refine Rb fun hc=>?_;rw[hz]at hc;refine Bh ?_;co_evs (exact⟨_,rfl⟩)⟩
 refine W9 ?_;refine Ba ?_;refine D9 ?_;refine aj L.Bi 8 rfl (fun _ _ h r=>Si.rely h r) hF ?_ fun _ hw=>⟨run_eq_of (by
  intro K hK;refine Bc fun hc=>?_;go_simp;exact hK),by
  refine Bc fun hc=>?_;refine Bh ?_;co_evs (exact⟨_,rfl⟩)⟩
 refine W9 ?_;refine Ii L.Bi 9 (fun _ _ h r=>Si.rely h r) hF ?_;refine W9 ?_;refine Bf ?_;refine H9 ?_;have Jj:((nx:Int)==(n:Int))=false:=by simp;omega
 refine J8 ?_;refine Ci.xk L.Bi (by simp[Act.eval,Jj]) ?_;refine J8 ?_;refine Ci.Ym (S:=Si L w0 rows [uj N 0 0 0 0]) (Die:=fun _ _=>False) L.Bi L.Wm 13 I0 hk J0 (fun _ _ _ h=>h) (fun _ _ _ h=>h.elim) fun w1 hR=>?_;replace hF:=(hF.rely hR).rely (Turn.drew _);clear hR;refine Q8 ?_;refine S9 ?_;refine aj L.Bi 3 rfl (fun _ _ h r=>Si.rely h r) hF ?_ fun _ hw=>⟨run_eq_of (by
  intro K hK;refine Bc fun hc=>?_;go_simp;exact hK),by
  refine Bc fun hc=>?_;refine Bh ?_;co_evs (exact⟨_,rfl⟩)⟩
 refine y9 ?_;refine Ba ?_;refine D9 ?_;refine aj L.Bi 8 rfl (fun _ _ h r=>Si.rely h r) hF ?_ fun _ hw=>⟨run_eq_of (by
  intro K hK;refine Rb fun hc=>?_;rw[hz]at hc;go_simp;exact hK),by
  refine Rb fun hc=>?_;rw[hz]at hc;refine Bh ?_;co_evs (exact⟨_,rfl⟩)⟩
 refine W9 ?_;refine aj L.Bi 9 rfl (fun _ _ h r=>Si.rely h r) hF ?_ fun _ hw=>⟨run_eq_of (by
  intro K hK;go_simp;exact hK),by
  co_still L.Bi⟩
 refine W9 ?_;refine aj L.Bi 10 rfl (fun _ _ h r=>Si.rely h r) hF ?_ fun _ hw=>⟨run_eq_of (by
  intro K hK;refine M9 fun d0 d1 d2 d3=>?_;go_simp;exact hK),by
  refine M9 fun d0 d1 d2 d3=>?_;refine hw.Aj hs ?_;(intro e he;have hm:=mem_listed he;simp[go_sem, *]at hm;rcases hm with rfl|rfl|rfl|rfl<;>exact⟨_,rfl⟩)⟩
 refine W9 ?_;refine Zm (i:=11) T0 rfl I0 ?_;refine ze fun w1 K hK hF=>?_;refine E9 ?_ ?_ ?_
 ·refine bf ?_;exact j9
 ·exact .inl (Si.less (ex:=[_]) (hF.IE vm 0 0 0 0))
 clear hK K;replace hF:Si L w0 rows [uj N 0 0 0 0,uj w1.heap.size 0 0 0 0] _:=hF.IE vm 0 0 0 0;generalize hM:w1.heap.size=M at *;generalize hW:(w1.alloc (.cells #[.int .i64 0,.int .i64 0,.int .i64 0,.int .i64 0] 97))=w3 at *;clear hW hM w1;refine W9 ?_;refine Zm (i:=12) T0 rfl I0 ?_;refine ze fun w1 K hK hF=>?_;obtain⟨a0,a1,a2,a3⟩:=hF.Yn (k:=1) rfl;obtain⟨b0,b1,b2,b3⟩:=hF.VL (k:=1) rfl;refine E9 ?_ ?_ ?_
 ·refine hF.MG (k:=1) _ _ _ _ rfl ?_;exact jd
 ·exact Cc
 clear hK K;clear a0 a1 a2 a3 b0 b1 b2 b3;replace hF:Si L w0 rows [uj N 0 0 0 0,uj M (ci (nx*4)) (ci (nx*4+1)) (ci (nx*4+2)) (ci (nx*4+3))] _:=hF.vL (k:=1) rfl;refine H9 ?_;refine J8 ?_;refine .Gi L.Bi [0,1,2,3,4,5,6,7,8,9] I0 ?_;refine P9 ?_;refine K8 fun w1 K hK hF=>?_;have hc:World.cell? _ ⟨g,45,Ai⟩=yi (.int .i64 (z 45)):=hF.gp hi E0 E0;rw[hz]at hc;refine I8 ?_ ?_
 ·refine hF.looks hi ?_;exact W8
 clear hK K;clear hc;refine W9 ?_;refine K8 fun w1 K hK hF=>?_;have hwr:IntKind.i64.wrap ((nx:Int)+1)=nx+1:=by rw[IntKind.wrap_i64];omega
 refine I8 ?_ ?_
 ·co_quiet L.Bi
 clear hK K;clear hwr;refine W9 ?_;refine P8 ?_;refine K8 fun w1 K hK hF=>?_;have hc:World.cell? _ ⟨g,45,Ai⟩=yi (.int .i64 (z 45)):=hF.gp hi E0 E0;have Bn:World.frozen? _ ⟨g,45,Ai⟩=false:=hF.frozen hi 45;refine I8 ?_ ?_
 ·refine hF.does hi 45 _ ?_;exact Ec
 clear hK K;clear hc Bn;replace hF:=hF.w50 hi (j:=45) E0 ((nx:Int)+1);refine W9 ?_;refine J8 ?_;refine Yb ?_;refine K8 fun w1 K hK hF=>?_;obtain⟨a0,a1,a2,a3⟩:=hF.Yn (k:=1) rfl;obtain⟨b0,b1,b2,b3⟩:=hF.VL (k:=1) rfl;refine I8 ?_ ?_
 ·refine hF.vk (k:=1) rfl ?_;exact og
 clear hK K;clear a0 a1 a2 a3 b0 b1 b2 b3;refine W9 ?_;refine K8 fun w1 K hK hF=>?_;refine mb fun a0 a1 a2 a3=>?_;obtain⟨b0,b1,b2,b3⟩:=hF.VL (k:=0) rfl;refine I8 ?_ ?_
 ·refine hF.MG (k:=0) _ _ _ _ rfl ?_;exact jd
 clear hK K;clear a0 a1 a2 a3 b0 b1 b2 b3;replace hF:Si L w0 _ [uj N (ci (nx*4)) (ci (nx*4+1)) (ci (nx*4+2)) (ci (nx*4+3)),uj M (ci (nx*4)) (ci (nx*4+1)) (ci (nx*4+2)) (ci (nx*4+3))] _:=hF.vL (k:=0) rfl;refine W9 ?_;refine J8 ?_;refine Wb fun todo=>?_;refine jm _ todo _ _ rfl (fun w1 hR=>?_) ⟨rfl,hF.drop⟩;replace hF:=hF.rely hR;refine mb fun a0 a1 a2 a3=>?_;constructor
 ·simp[results,asAddr,go_sem,a0,a1,a2,a3]
 ·refine hF.vk (k:=0) rfl fun e he=>?_;have hm:=mem_seen he;simp[results,asAddr,go_sem,a0,a1,a2,a3]at hm;rcases hm with rfl|rfl|rfl|rfl<;>exact⟨_,rfl⟩
theorem NV(vm:((97:Nat)==L.ev)=gi){code:ti}(hi:rows[ic]?=yi (Ri g num net code z))(p:Option Addr)(hcd:code=.slice p n cc)(hz:z 45=n)(w:ui)(hF:Kn L w0 rows w):
  Xi prog gi L.R1 L.D1 126 #[.pointer (yi ⟨g,0,Ai⟩)] w (fun _ _=>False) (fun ch w'=>ch=[{v:=.iface 222 (.int .i64 3),recovered:=gi}]/\Kn L w0 rows w'):=by
 subst hcd;replace hF:=hF.lay;have hk:(base 126).kind≠.early:=E1;refine Xi.intro L.Bi #[.pointer (yi ⟨g,0,Ai⟩),ri,ri,ri,ri,ri,ri,ri,ri,ri,ri,ri,ri,ri,ri,ri,ri,ri,ri,ri,ri,ri,ri,ri,ri,ri,ri,ri,ri,ri,ri,ri,ri,ri,ri,ri,ri] func126 rfl J0 fun cl cs Stop jm zQ=>?_;refine J8 ?_;refine s9 ?_;refine K8 fun w1 K hK hF=>?_;refine I8 ?_ ?_
 ·refine bf ?_;exact j9
 clear hK K;replace hF:Si L w0 rows [uj w1.heap.size 0 0 0 0] _:=hF.IE vm 0 0 0 0;generalize hN:w1.heap.size=N at *;generalize hW:(w1.alloc (.cells #[.int .i64 0,.int .i64 0,.int .i64 0,.int .i64 0] 97))=w2 at *;clear hW hN w1;refine W9 ?_;refine J8 ?_;refine Fe fun w1 hF=>?_;refine Q8 ?_;refine S9 ?_;refine Ib ?_;refine W9 ?_;refine aj L.Bi 4 rfl (fun _ _ h r=>Si.rely h r) hF ?_ fun _ hw=>⟨run_eq_of (by
  intro K hK;refine Rb fun hc=>?_;rw[hz]at hc;go_simp;exact hK),by
  refine Rb fun hc=>?_;rw[hz]at hc;refine Bh ?_;co_evs (exact⟨_,rfl⟩)⟩
 refine W9 ?_;refine Ba ?_;refine D9 ?_;refine aj L.Bi 8 rfl (fun _ _ h r=>Si.rely h r) hF ?_ fun _ hw=>⟨run_eq_of (by
  intro K hK;have hc:World.cell? _ ⟨g,2,Ai⟩=yi (.slice p n cc):=hw.cell hi (show 2<48 by omega);go_simp;exact hK),by
  have hc:World.cell? _ ⟨g,2,Ai⟩=yi (.slice p n cc):=hw.cell hi (show 2<48 by omega);refine Bh ?_;co_evs (exact⟨_,rfl⟩)⟩
 refine W9 ?_;refine Ii L.Bi 9 (fun _ _ h r=>Si.rely h r) hF ?_;refine W9 ?_;refine Bf ?_;refine H9 ?_;refine J8 ?_;refine ng ?_;refine J8 ?_;refine Yb ?_;refine K8 fun w1 K hK hF=>?_;refine I8 ?_ ?_
 ·exact xd
 clear hK K;refine W9 ?_;refine Ci.panic L.Bi rfl I0 hk (fun w=>?_) (fun w=>?_) fun fr h1 _ h3 h4=>zQ fr _ _ h1 h3 h4 ⟨rfl,hF.drop⟩
 ·rfl
 ·rfl
end
section
variable {L:km}{w0:ui}{rows:List Row}{ic g:Nat}{num:Int}{net code:ti}{z:Nat->Int}
theorem IW(hi:rows[ic]?=yi (Ri g num net code z))(w:ui)(hF:Kn L w0 rows w):
  Xi prog gi L.R1 L.D1 86 #[.pointer (yi ⟨g,0,Ai⟩)] w (fun v w'=>v=.bool (decide (z 3<z 47))/\Kn L w0 rows w') (fun _ _=>False):=by
 replace hF:=hF.lay;have hk:(base 86).kind≠.early:=E1;refine Xi.intro L.Bi #[.pointer (yi ⟨g,0,Ai⟩),ri,ri,ri,ri,ri,ri,ri,ri,ri,ri,ri] func86 rfl J0 fun cl cs Stop jm _=>?_;refine J8 ?_;refine s9 ?_;refine M8 ?_;refine J8 ?_;refine Ci.Ym (S:=Si L w0 rows []) (Die:=fun _ _=>False) L.Bi L.Wm 10 I0 hk J0 (fun _ _ _ h=>h) (fun _ _ _ h=>h.elim) fun w1 hR=>?_;replace hF:=(hF.rely hR).rely (Turn.drew _);clear hR;refine Q8 ?_;refine S9 ?_;refine aj L.Bi 3 rfl (fun _ _ h r=>Si.rely h r) hF ?_ fun _ hw=>⟨run_eq_of (by
  intro K hK;have hc:World.cell? _ ⟨g,47,Ai⟩=yi (.int .i64 (z 47)):=hw.gp hi E0 E0;go_simp;exact hK),by
  have hc:World.cell? _ ⟨g,47,Ai⟩=yi (.int .i64 (z 47)):=hw.gp hi E0 E0;refine Bh ?_;co_evs (exact⟨_,rfl⟩)⟩
 refine y9 ?_;refine Ba ?_;refine W9 ?_;refine Ii L.Bi 6 (fun _ _ h r=>Si.rely h r) hF ?_;refine W9 ?_;refine aj L.Bi 7 rfl (fun _ _ h r=>Si.rely h r) hF ?_ fun _ hw=>⟨run_eq_of (by
  intro K hK;have hc:World.cell? _ ⟨g,3,Ai⟩=yi (.int .i64 (z 3)):=hw.gp hi E0 E0;go_simp;exact hK),by
  have hc:World.cell? _ ⟨g,3,Ai⟩=yi (.int .i64 (z 3)):=hw.gp hi E0 E0;refine Bh ?_;co_evs (exact⟨_,rfl⟩)⟩
 refine W9 ?_;refine Jb ?_;refine W9 ?_;refine Ii L.Bi 9 (fun _ _ h r=>Si.rely h r) hF ?_;refine H9 ?_;refine J8 ?_;exact Z8
theorem UT(x y:Int)(hy:y≠0)(w:ui)(hF:Kn L w0 rows w):
  Xi prog gi L.R1 L.D1 127 #[.int .i64 x,.int .i64 y] w (fun v w'=>v=.int .i64 (IntKind.i64.wrap (x.tdiv y))/\Kn L w0 rows w') (fun _ _=>False):=by
 have hb:(y==0)=false:=by simpa using hy
 have hk:(base 127).kind≠.early:=E1;refine Xi.intro L.Bi #[.int .i64 x,.int .i64 y,ri,ri,ri,ri,ri,ri,ri,ri,ri] func127 rfl J0 fun cl cs Stop jm _=>?_;refine J8 ?_;refine s9 ?_;refine M8 ?_;refine J8 ?_;refine L8 ?_;refine J8 ?_;refine Ci.xk L.Bi (by first|rfl|simp[Act.eval,hb]) ?_;refine J8 ?_;refine Fb ?_;refine P9 ?_;refine J8 ?_;refine Wb fun todo=>?_;exact Qf
theorem sL(x:Int)(w:ui)(hF:Kn L w0 rows w):
  Xi prog gi L.R1 L.D1 127 #[.int .i64 x,.int .i64 0] w (fun _ _=>False) (fun ch w'=>ch=[{v:=.iface 222 (.int .i64 1),recovered:=gi}]/\Kn L w0 rows w'):=by
 have hk:(base 127).kind≠.early:=E1;refine Xi.intro L.Bi #[.int .i64 x,.int .i64 0,ri,ri,ri,ri,ri,ri,ri,ri,ri] func127 rfl J0 fun cl cs Stop jm zQ=>?_;refine J8 ?_;refine s9 ?_;refine M8 ?_;refine J8 ?_;refine L8 ?_;refine J8 ?_;refine ng ?_;refine J8 ?_;refine Yb ?_;refine K8 fun w1 K hK hF=>?_;refine I8 ?_ ?_
 ·exact xd
 clear hK K;refine W9 ?_;refine Ci.panic L.Bi rfl I0 hk (fun w=>?_) (fun w=>?_) fun fr h1 _ h3 h4=>zQ fr _ _ h1 h3 h4 ⟨rfl,hF⟩
 ·rfl
 ·rfl
theorem j10(y:Nat)(hy:y<16)(w:ui)(hF:Kn L w0 rows w):
  Xi prog gi L.R1 L.D1 128 #[.pointer (yi ⟨g,0,Ai⟩),.int .i64 y] w (fun v w'=>v=.pointer (yi ⟨g,29+y,Ai⟩)/\Kn L w0 rows w') (fun _ _=>False):=by
 have hb:decide ((y:Int)<0)=false:=P0;have Xu:decide ((16:Int)<=(y:Int))=false:=by simp;omega
 have hy2:(y:Int)<16:=E0;have hk:(base 128).kind≠.early:=E1;refine Xi.intro L.Bi #[.pointer (yi ⟨g,0,Ai⟩),.int .i64 y,ri,ri,ri,ri,ri,ri,ri,ri,ri,ri,ri,ri,ri,ri,ri,ri] func128 rfl J0 fun cl cs Stop jm _=>?_;refine J8 ?_;refine s9 ?_;refine M8 ?_;refine J8 ?_;refine N9 ?_;iterate 6 (refine .pj L.Bi rfl I0 hk ?_;try walk_nrm)
 refine J8 ?_;refine Ci.xk L.Bi (by first|rfl|simp[Act.eval,Xu]) ?_;refine J8 ?_;refine ga ?_;refine fe ?_;refine K8 fun w1 K hK hF=>?_;refine I8 ?_ ?_
 ·rw[listed_nil (by simp[go_sem,events_indexAt_array (P:=prog) 128 2 16 ⟨g,29,Ai⟩ .i64 (y:Int) underlying128 ⟨E0,E0⟩])];exact Terms.idle L.Bi _
 clear hK K;refine W9 ?_;refine M8 ?_;refine J8 ?_;refine Wb fun todo=>?_;exact Qf
theorem CO(y:Int)(hy:y<0\/16<=y)(w:ui)(hF:Kn L w0 rows w):
  Xi prog gi L.R1 L.D1 128 #[.pointer (yi ⟨g,0,Ai⟩),.int .i64 y] w (fun _ _=>False) (fun ch w'=>ch=[{v:=.iface 222 (.int .i64 2),recovered:=gi}]/\Kn L w0 rows w'):=by
 have hk:(base 128).kind≠.early:=E1;refine Xi.intro L.Bi #[.pointer (yi ⟨g,0,Ai⟩),.int .i64 y,ri,ri,ri,ri,ri,ri,ri,ri,ri,ri,ri,ri,ri,ri,ri,ri] func128 rfl J0 fun cl cs Stop jm zQ=>?_;refine J8 ?_;refine s9 ?_;refine M8 ?_;refine J8 ?_;refine N9 ?_;by_cases hn:y<0
 ·have hb:decide (y<0)=true:=by simpa using hn
  refine P8 ?_;refine Ci.unwanted L.Bi rfl I0 ?_;refine Ci.unwanted L.Bi rfl I0 ?_;refine M8 ?_;refine J8 ?_;refine ng ?_;refine J8 ?_;refine Yb ?_;refine K8 fun w1 K hK hF=>?_;refine I8 ?_ ?_
  ·exact xd
  clear hK K;refine W9 ?_;refine Ci.panic L.Bi rfl I0 hk (fun w=>?_) (fun w=>?_) fun fr h1 _ h3 h4=>zQ fr _ _ h1 h3 h4 ⟨rfl,hF⟩
  ·rfl
  ·rfl
 ·have hb:decide (y<0)=false:=by simpa using hn
  have Xu:decide ((16:Int)<=y)=true:=by simp;omega
  iterate 6 (refine .pj L.Bi rfl I0 hk ?_;try walk_nrm)
  refine J8 ?_;refine Ci.zk L.Bi (by first|rfl|simp[Act.eval,Xu]) ?_;refine J8 ?_;refine Yb ?_;refine K8 fun w1 K hK hF=>?_;refine I8 ?_ ?_
  ·exact xd
  clear hK K;refine W9 ?_;refine Ci.panic L.Bi rfl I0 hk (fun w=>?_) (fun w=>?_) fun fr h1 _ h3 h4=>zQ fr _ _ h1 h3 h4 ⟨rfl,hF⟩
  ·rfl
  ·rfl
end
noncomputable def pe0:List Item:=match Tryz.f113.body with
 |some (.seq _ (.seq _ (.seq _ (.seq _ (.seq (.seq _ c) d)))))=>[.code c,.code d]
 |_=>[]
noncomputable def SS:Code:=Tryz.f113.body.getD .skip
section
variable {L:km}{w0:ui}{rows:List Row}{ic g cb co n cc:Nat}{num:Int}{net:ti}{z ci:Nat->Int}
theorem jH{op:Int}(vm:((97:Nat)==L.ev)=gi)(hi:rows[ic]?=yi (Ri g num net (.slice (yi ⟨cb,co,Ai⟩) n cc) z))(hs:Still L w0 cb)(Gj:∀j,j<n*4->w0.cell? ⟨cb,co+j,Ai⟩=yi (.int .i64 (ci j)))(nx:Nat)(hz:z 45=nx)(Wi:nx<n)(hn:n<=48)
  (R A:Nat)(dp:R<4)(ep:A<4)(hop:ci (nx*4)=op)(hR:ci (nx*4+1)=R)(hA:ci (nx*4+2)=A)(N:Int)(hN:ci (nx*4+3)=N)(inV Kt:ti)(w:ui)(hF:Kn L w0 rows w){Stop:Goroutine->ui->Prop}{cs:List Frame}
  (h:∀(B:Nat)(w1:ui),Si L w0 (rows.set ic (Ri g num net (.slice (yi ⟨cb,co,Ai⟩) n cc) (Ji (Ji z 46 (IntKind.i64.wrap (z 46+1))) 45 ((nx:Int)+1)))) [uj B op R A N] w1->Ci prog gi L.R1 L.D1 Stop (G ((base 113).at {tmps:=#[.pointer (yi ⟨g,0,Ai⟩),inV,Kt,ri,ri,ri,.int .i64 0,.pointer (yi ⟨B,0,Ai⟩),.pointer (yi ⟨g,25+R,Ai⟩),.pointer (yi ⟨g,25+A,Ai⟩),.pointer (yi ⟨g,0,Ai⟩),.pointer (yi ⟨g,0,Ai⟩),.pointer (yi ⟨g,46,Ai⟩),.int .i64 (z 46),.int .i64 (IntKind.i64.wrap (z 46+1)),.pointer (yi ⟨g,0,Ai⟩),.pointer (yi ⟨g,46,Ai⟩),.pointer (yi ⟨g,0,Ai⟩),.agg #[.int .i64 op,.int .i64 R,.int .i64 A,.int .i64 N],.pointer (yi ⟨g,0,Ai⟩),.pointer (yi ⟨B,1,Ai⟩),.int .i64 R,.pointer (yi ⟨g,0,Ai⟩),.pointer (yi ⟨g,25,Ai⟩),.pointer (yi ⟨g,25,Ai⟩),.pointer (yi ⟨g,25+R,Ai⟩),.pointer (yi ⟨g,0,Ai⟩),.pointer (yi ⟨B,2,Ai⟩),.int .i64 A,.pointer (yi ⟨g,0,Ai⟩),.pointer (yi ⟨g,25,Ai⟩),.pointer (yi ⟨g,25,Ai⟩),.pointer (yi ⟨g,25+A,Ai⟩),.pointer (yi ⟨B,0,Ai⟩),.int .i64 op,ri,ri,ri,ri,ri,ri,ri,ri,ri,ri,ri,ri,ri,ri,ri,ri,ri,ri,ri,ri,ri,ri,ri,ri,ri,ri,ri,ri,ri,ri,ri,ri,ri,ri,ri,ri,ri,ri,ri,ri,ri,ri,ri,ri,ri,ri,ri,ri,ri,ri,ri,ri,ri,ri,ri,ri,ri,ri,ri,ri,ri,ri,ri,ri,ri,ri,ri,ri,ri,ri,ri,ri,ri,ri,ri,ri,ri,ri,ri,ri,ri,ri,ri,ri,ri,ri,ri,ri,ri,ri,ri,ri,ri,ri,ri,ri,ri,ri,ri,ri,ri,ri,ri,ri,ri,ri,ri,ri,ri],defers:=[]} pe0) cs) w1):
  Ci prog gi L.R1 L.D1 Stop (G ((base 113).at {tmps:=#[.pointer (yi ⟨g,0,Ai⟩),inV,Kt,ri,ri,ri,ri,ri,ri,ri,ri,ri,ri,ri,ri,ri,ri,ri,ri,ri,ri,ri,ri,ri,ri,ri,ri,ri,ri,ri,ri,ri,ri,ri,ri,ri,ri,ri,ri,ri,ri,ri,ri,ri,ri,ri,ri,ri,ri,ri,ri,ri,ri,ri,ri,ri,ri,ri,ri,ri,ri,ri,ri,ri,ri,ri,ri,ri,ri,ri,ri,ri,ri,ri,ri,ri,ri,ri,ri,ri,ri,ri,ri,ri,ri,ri,ri,ri,ri,ri,ri,ri,ri,ri,ri,ri,ri,ri,ri,ri,ri,ri,ri,ri,ri,ri,ri,ri,ri,ri,ri,ri,ri,ri,ri,ri,ri,ri,ri,ri,ri,ri,ri,ri,ri,ri,ri,ri,ri,ri,ri,ri,ri,ri,ri,ri,ri,ri,ri,ri,ri,ri,ri,ri],defers:=[]} [.code SS]) cs) w:=by
 replace hF:=hF.start hi;refine jc fun hk=>?_;refine J8 ?_;refine s9 ?_;refine M8 ?_;refine J8 ?_;refine Ic ?_;refine P8 ?_;refine K8 fun w1 K hK hF=>?_;refine Je fun hc=>?_;refine I8 ?_ ?_
 ·refine Xg ?_;exact W8
 clear hK K;clear hc;refine W9 ?_;refine P8 ?_;refine K8 fun w1 K hK hF=>?_;refine Je fun hc=>?_;have Bn:World.frozen? _ ⟨g,46,Ai⟩=false:=Si.XI hi hF 46;refine I8 ?_ ?_
 ·refine Si.Hq hi hF 46 _ ?_;exact Ec
 clear hK K;clear hc Bn;replace hF:=Si.yu hi hF (j:=46) E0 (IntKind.i64.wrap (z 46+1));refine W9 ?_;refine J8 ?_;refine Fb ?_;refine M8 ?_;refine Ci.Bv L.Bi rfl I0 hk rfl func126 I0 rfl #[.pointer (yi ⟨g,0,Ai⟩)] J0 (A40 (ic:=ic) vm (at2 hi (Ri g num net (.slice (yi ⟨cb,co,Ai⟩) n cc) (Ji z 46 (IntKind.i64.wrap (z 46+1))))) hs Gj nx ((Qk z _ E0).trans hz) Wi hn _ hF) ?_ (fun _ _ _ h=>h.elim);rintro v w2 ⟨rfl,ql⟩;replace hF:=Si.back hi ql;clear ql;rw[hop,hR,hA,hN];refine K8 fun w1 K hK hF=>?_;refine I8 ?_ ?_
 ·refine bf ?_;exact j9
 clear hK K;replace hF:Si L w0 (rows.set ic (Ri g num net (.slice (yi ⟨cb,co,Ai⟩) n cc) (Ji (Ji z 46 (IntKind.i64.wrap (z 46+1))) 45 ((nx:Int)+1)))) [uj w1.heap.size 0 0 0 0] _:=hF.IE vm 0 0 0 0;generalize hB:w1.heap.size=B at *;generalize hW:(w1.alloc (.cells #[.int .i64 0,.int .i64 0,.int .i64 0,.int .i64 0] 97))=w3 at *;clear hW hB w1;refine W9 ?_;refine K8 fun w1 K hK hF=>?_;refine mb fun a0 a1 a2 a3=>?_;obtain⟨b0,b1,b2,b3⟩:=hF.VL (k:=0) rfl;refine I8 ?_ ?_
 ·refine hF.MG (k:=0) _ _ _ _ rfl ?_;exact jd
 clear hK K;clear a0 a1 a2 a3 b0 b1 b2 b3;replace hF:Si L w0 (rows.set ic (Ri g num net (.slice (yi ⟨cb,co,Ai⟩) n cc) (Ji (Ji z 46 (IntKind.i64.wrap (z 46+1))) 45 ((nx:Int)+1)))) [uj B op R A N] _:=hF.vL (k:=0) rfl;refine W9 ?_;refine J8 ?_;refine Xa fun YN QO=>?_;refine Ci.Ym (S:=Si L w0 (rows.set ic (Ri g num net (.slice (yi ⟨cb,co,Ai⟩) n cc) (Ji (Ji z 46 (IntKind.i64.wrap (z 46+1))) 45 ((nx:Int)+1)))) [uj B op R A N]) (Die:=fun _ _=>False) L.Bi L.Wm 16 I0 hk J0 (fun _ _ _ h=>h) (fun _ _ _ h=>h.elim) fun w1 hR=>?_;replace hF:=(hF.rely hR).rely (Turn.drew _);clear hR;refine Q8 ?_;refine aj L.Bi 2 rfl (fun _ _ h r=>Si.rely h r) hF ?_ fun _ hw=>⟨run_eq_of (by
  intro K hK;refine xe fun a0 a1 a2 a3=>?_;exact hK),by
  refine za fun a0 a1 a2 a3=>?_;co_evs (exact⟨_,rfl⟩)⟩
 refine W9 ?_;refine Ib ?_;refine y9 ?_;refine Ba ?_;refine W9 ?_;refine aj L.Bi 6 rfl (fun _ _ h r=>Si.rely h r) hF ?_ fun _ hw=>⟨run_eq_of (by
  intro K hK;go_simp;exact hK),by
  rw[listed_nil E8];exact Terms.idle L.Bi _⟩
 refine W9 ?_;refine Hf ?_;refine W9 ?_;refine Jb ?_;refine W9 ?_;refine aj L.Bi 9 rfl (fun _ _ h r=>Si.rely h r) hF ?_ fun _ hw=>⟨run_eq_of (by
  intro K hK;refine xe fun a0 a1 a2 a3=>?_;exact hK),by
  refine za fun a0 a1 a2 a3=>?_;co_evs (exact⟨_,rfl⟩)⟩
 refine W9 ?_;refine Bf ?_;refine W9 ?_;refine Ii L.Bi 11 (fun _ _ h r=>Si.rely h r) hF ?_;refine W9 ?_;refine Ii L.Bi 12 (fun _ _ h r=>Si.rely h r) hF ?_;refine W9 ?_;refine aj L.Bi 13 rfl (fun _ _ h r=>Si.rely h r) hF ?_ fun _ hw=>⟨run_eq_of (by
  intro K hK;go_simp;exact hK),by
  rw[listed_nil F8];exact Terms.idle L.Bi _⟩
 refine W9 ?_;refine Ii L.Bi 14 (fun _ _ h r=>Si.rely h r) hF ?_;refine W9 ?_;refine Ii L.Bi 15 (fun _ _ h r=>Si.rely h r) hF ?_;refine H9 ?_;refine J8 ?_;refine Yb ?_;refine M8 ?_;refine K8 fun w1 K hK hF=>?_;refine mb fun a0 a1 a2 a3=>?_;refine I8 ?_ ?_
 ·refine V9 ?_;exact W8
 clear hK K;clear a0 a1 a2 a3;refine W9 ?_;refine .regionEnd L.Bi ?_;exact h B _ hF
theorem step_head{op:Int}(vm:((97:Nat)==L.ev)=gi)(hi:rows[ic]?=yi (Ri g num net (.slice (yi ⟨cb,co,Ai⟩) n cc) z))(hs:Still L w0 cb)(Gj:∀j,j<n*4->w0.cell? ⟨cb,co+j,Ai⟩=yi (.int .i64 (ci j)))(nx:Nat)(hz:z 45=nx)(Wi:nx<n)(hn:n<=48)
  (R A:Nat)(dp:R<4)(ep:A<4)(hop:ci (nx*4)=op)(hR:ci (nx*4+1)=R)(hA:ci (nx*4+2)=A)(N:Int)(hN:ci (nx*4+3)=N)(inV Kt:ti)(w:ui)(hF:Kn L w0 rows w){Post:ti->ui->Prop}{Die:List PanicEntry->ui->Prop}
  (h:∀(cl:Frame)(cs:List Frame)(Stop:Goroutine->ui->Prop),
   (∀a todo w' v,a.defers=[]->qp prog L.R1 L.D1 113 Tryz.f113 a.tmps w' v->Post v w'->Ci prog gi L.R1 L.D1 Stop (G {(base 113).at a todo with mode:=.returning} (cl::cs)) w')->
   (∀fr ch w',fr.fn=113->fr.defers=[]->fr.mode=.panicking ch->Die ch w'->Ci prog gi L.R1 L.D1 Stop (G fr (cl::cs)) w')->
   ∀(B:Nat)(w1:ui),Si L w0 (rows.set ic (Ri g num net (.slice (yi ⟨cb,co,Ai⟩) n cc) (Ji (Ji z 46 (IntKind.i64.wrap (z 46+1))) 45 ((nx:Int)+1)))) [uj B op R A N] w1->Ci prog gi L.R1 L.D1 Stop (G ((base 113).at {tmps:=#[.pointer (yi ⟨g,0,Ai⟩),inV,Kt,ri,ri,ri,.int .i64 0,.pointer (yi ⟨B,0,Ai⟩),.pointer (yi ⟨g,25+R,Ai⟩),.pointer (yi ⟨g,25+A,Ai⟩),.pointer (yi ⟨g,0,Ai⟩),.pointer (yi ⟨g,0,Ai⟩),.pointer (yi ⟨g,46,Ai⟩),.int .i64 (z 46),.int .i64 (IntKind.i64.wrap (z 46+1)),.pointer (yi ⟨g,0,Ai⟩),.pointer (yi ⟨g,46,Ai⟩),.pointer (yi ⟨g,0,Ai⟩),.agg #[.int .i64 op,.int .i64 R,.int .i64 A,.int .i64 N],.pointer (yi ⟨g,0,Ai⟩),.pointer (yi ⟨B,1,Ai⟩),.int .i64 R,.pointer (yi ⟨g,0,Ai⟩),.pointer (yi ⟨g,25,Ai⟩),.pointer (yi ⟨g,25,Ai⟩),.pointer (yi ⟨g,25+R,Ai⟩),.pointer (yi ⟨g,0,Ai⟩),.pointer (yi ⟨B,2,Ai⟩),.int .i64 A,.pointer (yi ⟨g,0,Ai⟩),.pointer (yi ⟨g,25,Ai⟩),.pointer (yi ⟨g,25,Ai⟩),.pointer (yi ⟨g,25+A,Ai⟩),.pointer (yi ⟨B,0,Ai⟩),.int .i64 op,ri,ri,ri,ri,ri,ri,ri,ri,ri,ri,ri,ri,ri,ri,ri,ri,ri,ri,ri,ri,ri,ri,ri,ri,ri,ri,ri,ri,ri,ri,ri,ri,ri,ri,ri,ri,ri,ri,ri,ri,ri,ri,ri,ri,ri,ri,ri,ri,ri,ri,ri,ri,ri,ri,ri,ri,ri,ri,ri,ri,ri,ri,ri,ri,ri,ri,ri,ri,ri,ri,ri,ri,ri,ri,ri,ri,ri,ri,ri,ri,ri,ri,ri,ri,ri,ri,ri,ri,ri,ri,ri,ri,ri,ri,ri,ri,ri,ri,ri,ri,ri,ri,ri,ri,ri,ri,ri,ri,ri],defers:=[]} pe0) (cl::cs)) w1):
  Xi prog gi L.R1 L.D1 113 #[.pointer (yi ⟨g,0,Ai⟩),inV,Kt] w Post Die:=
 Xi.intro (c:=SS) L.Bi _ func113 rfl J0 fun cl cs Stop jm zQ=>jH vm hi hs Gj nx hz Wi hn R A dp ep hop hR hA N hN inV Kt w hF (h cl cs Stop jm zQ)
end
section
variable {L:km}{w0:ui}{rows:List Row}{ic g cb co n cc:Nat}{num:Int}{net:ti}{z ci:Nat->Int}
theorem DT(vm:((97:Nat)==L.ev)=gi)(hi:rows[ic]?=yi (Ri g num net (.slice (yi ⟨cb,co,Ai⟩) n cc) z))(hs:Still L w0 cb)(Gj:∀j,j<n*4->w0.cell? ⟨cb,co+j,Ai⟩=yi (.int .i64 (ci j)))(nx:Nat)(hz:z 45=nx)(Wi:nx<n)(hn:n<=48)
  (R A:Nat)(dp:R<4)(ep:A<4)(hop:ci (nx*4)=0)(hR:ci (nx*4+1)=R)(hA:ci (nx*4+2)=A)(N:Int)(hN:ci (nx*4+3)=N)(inV Kt:ti)(w:ui)(hF:Kn L w0 rows w):
  Xi prog gi L.R1 L.D1 113 #[.pointer (yi ⟨g,0,Ai⟩),inV,Kt] w (fun v w'=>v=.int .i64 0/\Kn L w0 (rows.set ic (Ri g num net (.slice (yi ⟨cb,co,Ai⟩) n cc) (Ji (Ji z 46 (IntKind.i64.wrap (z 46+1))) 45 ((nx:Int)+1)))) w') (fun _ _=>False):=by
 refine jc fun hk=>?_;refine step_head vm hi hs Gj nx hz Wi hn R A dp ep hop hR hA N hN inV Kt w hF fun cl cs Stop jm _ B w3 hF=>?_;refine Xa fun YN QO=>?_;refine J8 ?_;iterate 15 (refine .Gi L.Bi [0,1] I0 ?_;iterate 2 (refine .pj L.Bi rfl I0 hk ?_;try walk_nrm);repeat refine .c1 L.Bi rfl ?_;refine .xk L.Bi I0 ?_;repeat refine .c1 L.Bi rfl ?_)
 refine L8 ?_;refine J8 ?_;refine Ci.xk L.Bi I0 ?_;refine J8 ?_;refine J8 ?_;refine Q9 ?_;refine M8 ?_;refine K8 fun w1 K hK hF=>?_;refine mb fun a0 a1 a2 a3=>?_;refine I8 ?_ ?_
 ·refine V9 ?_;exact W8
 clear hK K;clear a0 a1 a2 a3;refine W9 ?_;refine M8 ?_;refine J8 ?_;exact Z8
theorem Z20(vm:((97:Nat)==L.ev)=gi)(hi:rows[ic]?=yi (Ri g num net (.slice (yi ⟨cb,co,Ai⟩) n cc) z))(hs:Still L w0 cb)(Gj:∀j,j<n*4->w0.cell? ⟨cb,co+j,Ai⟩=yi (.int .i64 (ci j)))(nx:Nat)(hz:z 45=nx)(Wi:nx<n)(hn:n<=48)
  (R A:Nat)(dp:R<4)(ep:A<4)(hop:ci (nx*4)=1)(hR:ci (nx*4+1)=R)(hA:ci (nx*4+2)=A)(N:Int)(hN:ci (nx*4+3)=N)(inV Kt:ti)(w:ui)(hF:Kn L w0 rows w):
  Xi prog gi L.R1 L.D1 113 #[.pointer (yi ⟨g,0,Ai⟩),inV,Kt] w (fun v w'=>v=.int .i64 1/\Kn L w0 (rows.set ic (Ri g num net (.slice (yi ⟨cb,co,Ai⟩) n cc) (Ji (Ji (Ji z 46 (IntKind.i64.wrap (z 46+1))) 45 ((nx:Int)+1)) (25+R) N))) w') (fun _ _=>False):=by
 refine jc fun hk=>?_;refine step_head vm hi hs Gj nx hz Wi hn R A dp ep hop hR hA N hN inV Kt w hF fun cl cs Stop jm _ B w3 hF=>?_;refine Xa fun YN QO=>?_;refine J8 ?_;refine L8 ?_;refine J8 ?_;refine T9 ?_;refine J8 ?_;refine rf ?_;refine Y8 ?_;refine K8 fun w1 K hK hF=>?_;refine mb fun a0 a1 a2 a3=>?_;refine I8 ?_ ?_
 ·refine V9 ?_;exact W8
 clear hK K;clear a0 a1 a2 a3;refine W9 ?_;refine M8 ?_;refine K8 fun w1 K hK hF=>?_;refine k9 fun hc=>?_;refine Va fun Bn=>?_;refine I8 ?_ ?_
 ·exact Oa
 clear hK K;clear hc Bn;replace hF:=Si.yu hi hF (j:=25+R) E0 (N);refine W9 ?_;refine J8 ?_;refine Q9 ?_;refine M8 ?_;refine K8 fun w1 K hK hF=>?_;refine mb fun a0 a1 a2 a3=>?_;refine I8 ?_ ?_
 ·refine V9 ?_;exact W8
 clear hK K;clear a0 a1 a2 a3;refine W9 ?_;refine M8 ?_;refine J8 ?_;exact Z8
theorem IY(vm:((97:Nat)==L.ev)=gi)(hi:rows[ic]?=yi (Ri g num net (.slice (yi ⟨cb,co,Ai⟩) n cc) z))(hs:Still L w0 cb)(Gj:∀j,j<n*4->w0.cell? ⟨cb,co+j,Ai⟩=yi (.int .i64 (ci j)))(nx:Nat)(hz:z 45=nx)(Wi:nx<n)(hn:n<=48)
  (R A:Nat)(dp:R<4)(ep:A<4)(hop:ci (nx*4)=8)(hR:ci (nx*4+1)=R)(hA:ci (nx*4+2)=A)(N:Int)(hN:ci (nx*4+3)=N)(inV Kt:ti)(w:ui)(hF:Kn L w0 rows w):
  Xi prog gi L.R1 L.D1 113 #[.pointer (yi ⟨g,0,Ai⟩),inV,Kt] w (fun v w'=>v=.int .i64 8/\Kn L w0 (rows.set ic (Ri g num net (.slice (yi ⟨cb,co,Ai⟩) n cc) (Ji (Ji (Ji z 46 (IntKind.i64.wrap (z 46+1))) 45 ((nx:Int)+1)) 45 N))) w') (fun _ _=>False):=by
 refine jc fun hk=>?_;refine step_head vm hi hs Gj nx hz Wi hn R A dp ep hop hR hA N hN inV Kt w hF fun cl cs Stop jm _ B w3 hF=>?_;refine Xa fun YN QO=>?_;refine J8 ?_;iterate 7 (refine .Gi L.Bi [0,1] I0 ?_;iterate 2 (refine .pj L.Bi rfl I0 hk ?_;try walk_nrm);repeat refine .c1 L.Bi rfl ?_;refine .xk L.Bi I0 ?_;repeat refine .c1 L.Bi rfl ?_)
 refine L8 ?_;refine J8 ?_;refine T9 ?_;refine J8 ?_;refine ga ?_;refine Y8 ?_;refine K8 fun w1 K hK hF=>?_;refine mb fun a0 a1 a2 a3=>?_;refine I8 ?_ ?_
 ·refine V9 ?_;exact W8
 clear hK K;clear a0 a1 a2 a3;refine W9 ?_;refine P8 ?_;refine K8 fun w1 K hK hF=>?_;refine Ze fun hc Bn=>?_;refine I8 ?_ ?_
 ·refine Si.Hq hi hF (45) _ ?_;exact Ec
 clear hK K;clear hc Bn;replace hF:=Si.yu hi hF (j:=45) E0 (N);refine W9 ?_;refine J8 ?_;refine Q9 ?_;refine M8 ?_;refine K8 fun w1 K hK hF=>?_;refine mb fun a0 a1 a2 a3=>?_;refine I8 ?_ ?_
 ·refine V9 ?_;exact W8
 clear hK K;clear a0 a1 a2 a3;refine W9 ?_;refine M8 ?_;refine J8 ?_;exact Z8
theorem OX(vm:((97:Nat)==L.ev)=gi)(hi:rows[ic]?=yi (Ri g num net (.slice (yi ⟨cb,co,Ai⟩) n cc) z))(hs:Still L w0 cb)(Gj:∀j,j<n*4->w0.cell? ⟨cb,co+j,Ai⟩=yi (.int .i64 (ci j)))(nx:Nat)(hz:z 45=nx)(Wi:nx<n)(hn:n<=48)
  (R A:Nat)(dp:R<4)(ep:A<4)(hop:ci (nx*4)=9)(hR:ci (nx*4+1)=R)(hA:ci (nx*4+2)=A)(N:Int)(hN:ci (nx*4+3)=N)(h0:(Ji (Ji z 46 (IntKind.i64.wrap (z 46+1))) 45 ((nx:Int)+1)) (25+R)=0)(inV Kt:ti)(w:ui)(hF:Kn L w0 rows w):
  Xi prog gi L.R1 L.D1 113 #[.pointer (yi ⟨g,0,Ai⟩),inV,Kt] w (fun v w'=>v=.int .i64 9/\Kn L w0 (rows.set ic (Ri g num net (.slice (yi ⟨cb,co,Ai⟩) n cc) (Ji (Ji (Ji z 46 (IntKind.i64.wrap (z 46+1))) 45 ((nx:Int)+1)) 45 N))) w') (fun _ _=>False):=by
 refine jc fun hk=>?_;refine step_head vm hi hs Gj nx hz Wi hn R A dp ep hop hR hA N hN inV Kt w hF fun cl cs Stop jm _ B w3 hF=>?_;refine Xa fun YN QO=>?_;refine J8 ?_;refine Vd ?_;refine L8 ?_;refine J8 ?_;refine T9 ?_;refine J8 ?_;refine Fb ?_;refine Y8 ?_;refine K8 fun w1 K hK hF=>?_;refine k9 fun hc=>?_;refine I8 ?_ ?_
 ·refine Xg ?_;exact W8
 clear hK K;clear hc;refine W9 ?_;refine M8 ?_;refine J8 ?_;refine ng ?_;refine J8 ?_;refine ga ?_;refine Y8 ?_;refine K8 fun w1 K hK hF=>?_;refine mb fun a0 a1 a2 a3=>?_;refine I8 ?_ ?_
 ·refine V9 ?_;exact W8
 clear hK K;clear a0 a1 a2 a3;refine W9 ?_;refine P8 ?_;refine K8 fun w1 K hK hF=>?_;refine Ze fun hc Bn=>?_;refine I8 ?_ ?_
 ·refine Si.Hq hi hF (45) _ ?_;exact Ec
 clear hK K;clear hc Bn;replace hF:=Si.yu hi hF (j:=45) E0 (N);refine W9 ?_;refine J8 ?_;refine Q9 ?_;refine M8 ?_;refine K8 fun w1 K hK hF=>?_;refine mb fun a0 a1 a2 a3=>?_;refine I8 ?_ ?_
 ·refine V9 ?_;exact W8
 clear hK K;clear a0 a1 a2 a3;refine W9 ?_;refine M8 ?_;refine J8 ?_;exact Z8
theorem VR(vm:((97:Nat)==L.ev)=gi)(hi:rows[ic]?=yi (Ri g num net (.slice (yi ⟨cb,co,Ai⟩) n cc) z))(hs:Still L w0 cb)(Gj:∀j,j<n*4->w0.cell? ⟨cb,co+j,Ai⟩=yi (.int .i64 (ci j)))(nx:Nat)(hz:z 45=nx)(Wi:nx<n)(hn:n<=48)
  (R A:Nat)(dp:R<4)(ep:A<4)(hop:ci (nx*4)=9)(hR:ci (nx*4+1)=R)(hA:ci (nx*4+2)=A)(N:Int)(hN:ci (nx*4+3)=N)(h0:(Ji (Ji z 46 (IntKind.i64.wrap (z 46+1))) 45 ((nx:Int)+1)) (25+R)≠0)(inV Kt:ti)(w:ui)(hF:Kn L w0 rows w):
  Xi prog gi L.R1 L.D1 113 #[.pointer (yi ⟨g,0,Ai⟩),inV,Kt] w (fun v w'=>v=.int .i64 9/\Kn L w0 (rows.set ic (Ri g num net (.slice (yi ⟨cb,co,Ai⟩) n cc) (Ji (Ji z 46 (IntKind.i64.wrap (z 46+1))) 45 ((nx:Int)+1)))) w') (fun _ _=>False):=by
 have hb:((Ji (Ji z 46 (IntKind.i64.wrap (z 46+1))) 45 ((nx:Int)+1)) (25+R)==0)=false:=by simpa using h0
 refine jc fun hk=>?_;refine step_head vm hi hs Gj nx hz Wi hn R A dp ep hop hR hA N hN inV Kt w hF fun cl cs Stop jm _ B w3 hF=>?_;refine Xa fun YN QO=>?_;refine J8 ?_;refine Vd ?_;refine L8 ?_;refine J8 ?_;refine T9 ?_;refine J8 ?_;refine Fb ?_;refine Y8 ?_;refine K8 fun w1 K hK hF=>?_;refine k9 fun hc=>?_;refine I8 ?_ ?_
 ·refine Xg ?_;exact W8
 clear hK K;clear hc;refine W9 ?_;refine M8 ?_;refine J8 ?_;refine Ci.xk L.Bi (by first|rfl|simp[Act.eval,hb]) ?_;refine J8 ?_;refine Q9 ?_;refine M8 ?_;refine K8 fun w1 K hK hF=>?_;refine mb fun a0 a1 a2 a3=>?_;refine I8 ?_ ?_
 ·refine V9 ?_;exact W8
 clear hK K;clear a0 a1 a2 a3;refine W9 ?_;refine M8 ?_;refine J8 ?_;exact Z8
end
end Go.Proofs.YtdoghgnifkgfdaaGreat.Mute
