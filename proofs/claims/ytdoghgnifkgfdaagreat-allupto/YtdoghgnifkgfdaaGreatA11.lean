import Derived.Test.YtdoghgnifkgfdaaGreatA10
set_option maxRecDepth 100000
set_option maxHeartbeats 16000000
open Option renaming none->Hn,some->Gn
open Go renaming World->En,Value->Dn,undef->Bn,Goroutine->zn,Program->Ym,Frame->Xm,Addr->Vm
open Bool renaming true->Um,false->Tm
open Go.Conc renaming run_eq_of->Rm
open List renaming range->Hm
namespace Go.Proofs.YtdoghgnifkgfdaaGreat.Mute
open Tryz Go Go.Conc Go.RowKit
theorem Rq.drew{L:Bt}{mine:Nat->Obj->Prop}(w:En):Rq L mine w {w with drawn:=w.drawn+1}:=.draw w _
section
variable {P:Ym}{main:Bool}{R:En->En->Prop}{D:En->En->Array Event->Prop}{Bo:zn->En->Prop}
theorem V90{fr c:Xm}{cs:List Xm}{ch:List PanicEntry}{w:En}{fn:Func}(hm:fr.mode=.panicking ch)(hd:fr.defers=[])(hf:P.funcs[fr.fn]?=Gn fn):stepG P main (G fr (c::cs)) w=.go (G (c.raise ch) cs) w:=by
 have hc:fr.catches P=false:=by simp[Frame.catches,hf]
 rw[zt (by rw[hm];simp)];unfold unwind;simp only[hd,hm,hc];rfl
section
variable (T:Terms R D)
include T
theorem Pn.Un{b:Xm}{a:Act}{k:List Item}{cs:List Xm}{w:En}{id:Nat}{ops:Array Oper}(l:List Nat)(hl:Hm ops.size=l)(h:Pn P main R D Bo (G (b.at a (.inRegion ops l::k)) cs) w):Pn P main R D Bo (G (b.at a (.code (.region id ops Tm)::k)) cs) w:=.region T (by rw[hl];exact h)
theorem Pn.vr{b:Xm}{a:Act}{k:List Item}{cs:List Xm}{w:En}{c:Operand}{x y:Code}(e:a.eval c=.bool Um)(h:Pn P main R D Bo (G (b.at a (.code x::k)) cs) w):Pn P main R D Bo (G (b.at a (.code (.cond c x y)::k)) cs) w:=.cond T e h
theorem Pn.Zq{b:Xm}{a:Act}{k:List Item}{cs:List Xm}{w:En}{c:Operand}{x y:Code}(e:a.eval c=.bool Tm)(h:Pn P main R D Bo (G (b.at a (.code y::k)) cs) w):Pn P main R D Bo (G (b.at a (.code (.cond c x y)::k)) cs) w:=.cond T e h
theorem Pn.vu(hd:LetsDraw D){b:Xm}{k:List Item}{cs:List Xm}{id:Nat}{a:Act}{w:En}{ops:Array Oper}{Q:Act->En->Prop}{Die:List PanicEntry->En->Prop}{S:En->Prop}(n:Nat)(hn:ops.size=n)(hk:b.kind≠.early)(hm:P.follows .mixedOrders=Um)
  (hQ:∀a' w',a'.defers=a.defers->Q a' w'->Pn P main R D Bo (G (b.at a' k) cs) w')(hD:∀ch w' fr,Die ch w'->fr.fn=b.fn->fr.kind=b.kind->fr.defers=a.defers->fr.mode=.panicking ch->Pn P main R D Bo (G fr cs) w')
  (h:∀w₁,R w w₁->Wy P main R D b.fn .any ops Q Die (fun _ _ _=>False) S n (Array.replicate n Tm) a {w₁ with drawn:=w₁.drawn+1}):Pn P main R D Bo (G (b.at a (.code (.region id ops Um)::k)) cs) w:=
 .drawn (Tail:=fun _ _ _=>False) T hd hk hm hQ hD (fun _ _ _ _ h=>h.elim) (by rw[hn];exact h)
theorem Pn.fY(hd:LetsDraw D){b:Xm}{k:List Item}{cs:List Xm}{id:Nat}{a:Act}{w:En}{ops:Array Oper}{S:En->Prop}(n:Nat)(hn:ops.size=n)(hk:b.kind≠.early)(hm:P.follows .mixedOrders=Um)
  (h:∀w₁,R w w₁->Wy P main R D b.fn .any ops (fun a' w'=>Pn P main R D Bo (G (b.at a' k) cs) w') (fun _ _=>False) (fun i a' w'=>a'.defers=a.defers/\Pn P main R D Bo (G (b.at a' (.inRegion ops [i]::k)) cs) w') S n (Array.replicate n Tm) a {w₁ with drawn:=w₁.drawn+1}):Pn P main R D Bo (G (b.at a (.code (.region id ops Um)::k)) cs) w:=
 .drawn (Die:=fun _ _=>False) (Tail:=fun i a' w'=>a'.defers=a.defers/\Pn P main R D Bo (G (b.at a' (.inRegion ops [i]::k)) cs) w') T hd hk hm (fun _ _ _ h=>h) S8 (fun _ _ _ _ h=>h.2) (by rw[hn];exact h)
theorem Pn.leave{f:FuncId}{fn:Func}{a:Act}{todo:List Item}{c:Xm}{cs:List Xm}{w:En}{v:Dn}(hf:P.funcs[f]?=Gn fn)(hd:a.defers=[])(hr:yw P R D f fn a.tmps w v)(h:Pn P main R D Bo (G (c.finish v) cs) w):
  Pn P main R D Bo (G {(base f).at a todo with mode:=.returning} (c::cs)) w:=
 .one rfl fun w₁ h₁=>⟨_,_,_,TN (b:=base f) rfl hd hf (hr w₁ h₁).1,(hr w₁ h₁).2,h.rely T.trans h₁⟩
theorem Pn.up{fr c:Xm}{cs:List Xm}{ch:List PanicEntry}{w:En}{fn:Func}(hm:fr.mode=.panicking ch)(hd:fr.defers=[])(hf:P.funcs[fr.fn]?=Gn fn)(h:Pn P main R D Bo (G (c.raise ch) cs) w):Pn P main R D Bo (G fr (c::cs)) w:=
 .ctl T rfl (fun _=>V90 hm hd hf) h
theorem Ao.intro{f:FuncId}{fn:Func}{c:Code}{args:Array Dn}{w:En}(tmps:Array Dn){Post:Dn->En->Prop}{Die:List PanicEntry->En->Prop}(hf:P.funcs[f]?=Gn fn)(hb:fn.body=Gn c)(ht:args++Array.replicate (fn.ntmps-args.size) Bn=tmps)
  (h:∀(cl:Xm)(cs:List Xm)(Bo:zn->En->Prop),
   (∀a todo w' v,a.defers=[]->yw P R D f fn a.tmps w' v->Post v w'->Pn P main R D Bo (G {(base f).at a todo with mode:=.returning} (cl::cs)) w')->
   (∀fr ch w',fr.fn=f->fr.defers=[]->fr.mode=.panicking ch->Die ch w'->Pn P main R D Bo (G fr (cl::cs)) w')->
   Pn P main R D Bo (G ((base f).at {tmps:=tmps,defers:=[]} [.code c]) (cl::cs)) w):Ao P main R D f args w Post Die:=fun cl cs Bo hp hd=>by
 rw[enter_at args hf hb,ht];exact h cl cs Bo (fun a todo w' v h1 h2 h3=>.leave T hf h1 h2 (hp v w' h3)) fun fr ch w' h1 h2 h3 h4=>.up T h3 h2 (by rw[h1];exact hf) (hd ch w' h4)
theorem Fp{f:FuncId}{fn:Func}{t:Tmp}{w:En}(h:fn.results=#[.tmp t])(tmps:Array Dn):yw P R D f fn tmps w (tmps.getD t Bn):=fun w₁ _=>by
 obtain⟨h1,h2⟩:=resultsC_tmp (P:=P) h tmps w₁;exact sk
theorem Ep{f:FuncId}{fn:Func}{w:En}(h:fn.results=#[])(tmps:Array Dn):yw P R D f fn tmps w (.tuple #[]):=fun w₁ _=>by
 obtain⟨h1,h2⟩:=resultsC_none (P:=P) h tmps w₁;exact sk
theorem Pn.bB{b:Xm}{a:Act}{k:List Item}{cs:List Xm}{w:En}{ops:Array Oper}{i:Nat}{rest:List Nat}{o:Oper}{f:FuncId}{fn:Func}{c:Code}{args:Array Operand}{EL:Array TypeId}{Post:Dn->En->Prop}{Die:List PanicEntry->En->Prop}
  (ho:ops[i]?=Gn o)(hw:Region.wanted o (yielded ops a.tmps)=Um)(hk:b.kind≠.early)(ep:o.op=.call {callee:=.value (.func f),args,argTypes:=EL})
  (hf : P.funcs[f]? = Gn fn) (VC : (fn.name == "runtime.NumGoroutine") = Tm) (hb : fn.body = Gn c) (vs : Array Dn) (hv : args.map a.eval = vs) (hc : Ao P main R D f vs w Post Die)
  (h:∀v w',Post v w'->Pn P main R D Bo (G (b.at (a.put o.dst v) (.inRegion ops rest::k)) cs) w')
  (hd:∀ch w' fr,Die ch w'->fr.fn=b.fn->fr.kind=b.kind->fr.defers=a.defers->fr.mode=.panicking ch->Pn P main R D Bo (G fr cs) w'):
  Pn P main R D Bo (G (b.at a (.inRegion ops (i::rest)::k)) cs) w:=by
 refine Pn.enter T ho hw hk ep hf VC hb ?_;rw[<-enter_at _ hf hb,hv];exact Wg
end
theorem Pn.panic{b:Xm}{a:Act}{k:List Item}{cs:List Xm}{w:En}{ops:Array Oper}{i:Nat}{rest:List Nat}{o:Oper}{v:Dn}(T:Terms R D)(ho:ops[i]?=Gn o)(hw:Region.wanted o (yielded ops a.tmps)=Um)(hk:b.kind≠.early)
  (hr:∀w,(execOp a.eval o).run P w=.halt (.panic v) w)(he:∀w,(execOp a.eval o).events P w #[]=#[])
  (h:∀fr,fr.fn=b.fn->fr.kind=b.kind->fr.defers=a.defers->fr.mode=.panicking [{v,recovered:=Tm}]->Pn P main R D Bo (G fr cs) w):Pn P main R D Bo (G (b.at a (.inRegion ops (i::rest)::k)) cs) w:=by
 have jK:(b.kind==CallKind.early)=false:=by simpa using hk
 refine .ctl T rfl (g':=G ((b.at a (.inRegion ops (i::rest)::k)).raise [{v,recovered:=Tm}]) cs) (fun w₁=>?_) (h _ rfl rfl rfl rfl);rw[stepG_oper ho hw];simp[stepG.apply,hr,he,G,Frame.at,Frame.raise,jK,GStep.after,seen_none]
end
def Wn(z:Nat->Int)(j:Nat)(v:Int)(i:Nat):Int:=if i=j then v else z i
theorem uv(z:Nat->Int)(j:Nat)(v:Int):Wn z j v j=v:=if_pos rfl
theorem Kr(z:Nat->Int){i j:Nat}(v:Int)(h:i≠j):Wn z j v i=z i:=if_neg h
theorem Z00(num:Int)(net code:Dn)(z:Nat->Int){j:Nat}(hj:3<=j)(v:Int)(i:Nat):upd (Zv num net code z) j (.int .i64 v) i=Zv num net code (Wn z j v) i:=by
 unfold upd Zv Wn;by_cases h:i=j
 ·subst h;rw[if_pos rfl,if_neg E0,if_neg E0,if_neg E0,if_pos rfl]
 ·exact Rl
theorem h70(num:Int)(net code:Dn)(z:Nat->Int){j:Nat}(hj:3<=j):Zv num net code z j=.int .i64 (z j):=by
 unfold Zv;exact jg
abbrev jo(g:Nat)(num:Int)(net code:Dn)(z:Nat->Int):Jp:=⟨g,48,186,Zv num net code z⟩
section
variable {L:Bt}{w0 w:En}{rows:List Jp}{ic g:Nat}{num:Int}{net code:Dn}{z:Nat->Int}
section
variable (h:Kn L w0 rows w)(hi:rows[ic]?=Gn (jo g num net code z)){j:Nat}(h3:3<=j)
include h hi j h3
theorem Kn.zw(hj:j<48):w.cell? ⟨g,j,Hn⟩=Gn (.int .i64 (z j)):=by
 have:=h.cell hi (j:=j) hj;rw[this];exact congrArg Gn (h70 num net code z h3)
theorem Kn.wc0(v:Int):Kn L w0 (rows.set ic (jo g num net code (Wn z j v))) (w.setCell ⟨g,j,Hn⟩ (.int .i64 v)):=
 (h.set hi j (.int .i64 v)).congr hi rfl rfl rfl fun i _=>Z00 num net code z h3 v i
end
end
def Ti0:List Item->Option (List Item)
 |.code (.seq x y)::k=>Gn (.code x::.code y::k)
 |.code (.block id c)::k=>Gn (.code c::.inBlock id::k)
 |.code .skip::k=>Gn k
 |.inBlock _::k=>Gn k
 |.inRegion _ []::k=>Gn k
 |_=>Hn
section
variable {P:Ym}{main:Bool}{R:En->En->Prop}{D:En->En->Array Event->Prop}{Bo:zn->En->Prop}{b:Xm}{a:Act}{k k':List Item}{cs:List Xm}{w:En}
theorem Pn.c1(T:Terms R D)(e:Ti0 k=Gn k')(h:Pn P main R D Bo (G (b.at a k') cs) w):Pn P main R D Bo (G (b.at a k) cs) w:=by
 unfold Ti0 at e;split at e
 ·cases e;exact .seq T h
 ·cases e;exact .block T h
 ·cases e;exact .skip T h
 ·cases e;exact .inBlock T h
 ·cases e;exact .regionEnd T h
 ·cases e
theorem Pn.Yo(T:Terms R D){ops:Array Oper}{i:Nat}{rest:List Nat}{o:Oper}{v:Dn}(ho:ops[i]?=Gn o)(hw:Region.wanted o (yielded ops a.tmps)=Um)(hk:b.kind≠.early)
  (h:Pn P main R D Bo (G (b.at (a.put o.dst v) (.inRegion ops rest::k)) cs) w)
  (hv:∀w₁,(execOp a.eval o).run P w₁=.ok (.value v) w₁/\(execOp a.eval o).events P w₁ #[]=#[]:=by exact fun _=>⟨run_eq_of (by intro K hK;go_simp;exact hK),by simp[go_sem]⟩):
  Pn P main R D Bo (G (b.at a (.inRegion ops (i::rest)::k)) cs) w:=by
 refine .op ho hw hk fun w₁ hR K hK=>?_;rw[(hv w₁).1];refine hK _ _ ⟨?_,h.rely T.trans hR⟩;rw[listed_nil (hv w₁).2];exact T.idle _
section
variable (T:Terms R D)(i:Nat){fn:FuncId}{md:Region.Mode}{ops:Array Oper}{S:En->Prop}{oi:Oper}{v:Dn}{fuel:Nat}{lst:Array Bool}
include T i fn md ops S oi v fuel lst
theorem Vn{a:Act}(pX:∀x y,S x->R x y->S y)(hS:S w)
  (h:Wy P main R D fn md ops (fun a' w'=>Pn P main R D Bo (G (b.at a' k) cs) w') (fun _ _=>False) (fun _ _ _=>False) S fuel (lst.setIfInBounds i Um) (a.put oi.dst v) w)
  (hi:ops[i]?=Gn oi:=by rfl)(hs:Region.noSelect ops=true:=by first|kernel_rfl|decide +kernel)(AY:JU md ops lst=true:=by first|kernel_rfl|decide +kernel)(hf:Region.free md ops lst i=true:=by first|kernel_rfl|decide +kernel)(hr:(Region.ready md ops lst).contains i=true:=by first|kernel_rfl|decide +kernel)
  (hy:Region.wanted oi (yielded ops a.tmps)=Um/\∀w,(execOp a.eval oi).run P w=.ok (.value v) w/\(execOp a.eval oi).events P w #[]=#[]:=by exact⟨I0,fun _=>⟨run_eq_of (by intro K hK;go_simp;exact hK),by simp[go_sem]⟩⟩):
  Wy P main R D fn md ops (fun a' w'=>Pn P main R D Bo (G (b.at a' k) cs) w') (fun _ _=>False) (fun _ _ _=>False) S (fuel+1) lst a w:=
 bp (Q:=fun a' w'=>Pn P main R D Bo (G (b.at a' k) cs) w') (Die:=fun _ _=>False) (Tail:=fun _ _ _=>False) T V8 pX (fun _ _ _ h r=>Pn.rely T.trans h r) hi hs AY hf hr (.inl ⟨hy.1,fun w _=>⟨(hy.2 w).1,by rw[listed_nil (hy.2 w).2];exact T.idle _⟩⟩) hS h
theorem Jo{a:Act}(hi:ops[i]?=Gn oi)(pX:∀x y,S x->R x y->S y)(hS:S w)
  (h:Wy P main R D fn md ops (fun a' w'=>Pn P main R D Bo (G (b.at a' k) cs) w') (fun _ _=>False) (fun _ _ _=>False) S fuel (lst.setIfInBounds i Um) (a.put oi.dst v) w)
  (hy:∀w,S w->(execOp a.eval oi).run P w=.ok (.value v) w/\D w w (listed P fn a oi w))
  (hs:Region.noSelect ops=true:=by first|kernel_rfl|decide +kernel)(AY:JU md ops lst=true:=by first|kernel_rfl|decide +kernel)(hf:Region.free md ops lst i=true:=by first|kernel_rfl|decide +kernel)(hr:(Region.ready md ops lst).contains i=true:=by first|kernel_rfl|decide +kernel)(RY:Region.wanted oi (yielded ops a.tmps)=true:=by rfl):
  Wy P main R D fn md ops (fun a' w'=>Pn P main R D Bo (G (b.at a' k) cs) w') (fun _ _=>False) (fun _ _ _=>False) S (fuel+1) lst a w:=
 bp (Q:=fun a' w'=>Pn P main R D Bo (G (b.at a' k) cs) w') (Die:=fun _ _=>False) (Tail:=fun _ _ _=>False) T V8 pX (fun _ _ _ h r=>Pn.rely T.trans h r) hi hs AY hf hr (.inl ⟨RY,hy⟩) hS h
end
end
def ko(L:Bt)(w0:En)(rows ls:List Jp)(w:En):Prop:=Kn L w0 (rows++ls) w
section
variable {L:Bt}{w0 w w':En}{rows ls:List Jp}{i k ic g j:Nat}{r:Jp}{num:Int}{net code:Dn}{z:Nat->Int}
theorem Kn.lay(h:Kn L w0 rows w):ko L w0 rows [] w:=by unfold ko;rw[List.append_nil];exact h
theorem ko.drop(h:ko L w0 rows ls w):Kn L w0 rows w:=Kn.drop h
theorem ko.rely(h:ko L w0 rows ls w)(hr:L.R1 w w'):ko L w0 rows ls w':=Kn.rely h hr
theorem ko.cell(h:ko L w0 rows ls w)(hi:rows[i]?=Gn r)(hj:j<r.m):w.cell? ⟨r.g,j,Hn⟩=Gn (r.f j):=Kn.cell h (Aq hi) hj
theorem ko.zw(h:ko L w0 rows ls w)(hi:rows[ic]?=Gn (jo g num net code z))(h3:3<=j)(hj:j<48):w.cell? ⟨g,j,Hn⟩=Gn (.int .i64 (z j)):=Kn.zw h (Aq hi) h3 hj
theorem ko.frozen(h:ko L w0 rows ls w)(hi:rows[i]?=Gn r)(j:Nat):w.frozen? ⟨r.g,j,Hn⟩=false:=Kn.frozen h (Aq hi) j
theorem ko.looks(h:ko L w0 rows ls w)(hi:rows[i]?=Gn r){es:Array Event}(Eu:∀e∈es,∃j,e=⟨.cell ⟨r.g,j,Hn⟩,Tm,Tm⟩):L.D1 w w es:=Kn.looks h (Aq hi) Eu
theorem ko.does(h:ko L w0 rows ls w)(hi:rows[i]?=Gn r)(j:Nat)(v:Dn){es:Array Event}(Eu:∀e∈es,e=⟨.cell ⟨r.g,j,Hn⟩,Um,Tm⟩):L.D1 w (w.setCell ⟨r.g,j,Hn⟩ v) es:=Kn.does h (Aq hi) j v Eu
theorem FI(hi:rows[i]?=Gn r)(r':Jp):(rows++ls).set i r'=rows.set i r'++ls:=List.set_append_left i r' (List.getElem?_eq_some_iff.1 hi).1
theorem ko.wc0(h:ko L w0 rows ls w)(hi:rows[ic]?=Gn (jo g num net code z))(h3:3<=j)(v:Int):ko L w0 (rows.set ic (jo g num net code (Wn z j v))) ls (w.setCell ⟨g,j,Hn⟩ (.int .i64 v)):=by
 have:=Kn.wc0 h (Aq hi) h3 v;rw[FI hi]at this;exact Vh
theorem au(hk:ls[k]?=Gn r):(rows++ls)[rows.length+k]?=Gn r:=by
 rw[List.getElem?_append_right E0,Nat.add_sub_cancel_left];exact hk
section
variable (h:ko L w0 rows ls w)(hk:ls[k]?=Gn r)
include h hk
theorem ko.oI(hj:j<r.m):w.cell? ⟨r.g,j,Hn⟩=Gn (r.f j):=Kn.cell h (au hk) hj
theorem ko.Nz(j:Nat):w.frozen? ⟨r.g,j,Hn⟩=false:=Kn.frozen h (au hk) j
theorem ko.Yq{es:Array Event}(Eu:∀e∈es,∃j,e=⟨.cell ⟨r.g,j,Hn⟩,Tm,Tm⟩):L.D1 w w es:=Kn.looks h (au hk) Eu
theorem ko.e00(j:Nat)(v:Dn){es:Array Event}(Eu:∀e∈es,e=⟨.cell ⟨r.g,j,Hn⟩,Um,Tm⟩):L.D1 w (w.setCell ⟨r.g,j,Hn⟩ v) es:=Kn.does h (au hk) j v Eu
theorem ko.rF(j:Nat)(v:Dn):ko L w0 rows (ls.set k (r.put j v)) (w.setCell ⟨r.g,j,Hn⟩ v):=by
 have:=Kn.set h (au hk) j v;rw[List.set_append_right _ _ E0,Nat.add_sub_cancel_left]at this;exact Vh
end
theorem ko.alloc(h:ko L w0 rows ls w)(cs:Array Dn)(t:Nat)(f:Nat->Dn)(ht:(t==L.ev)=Tm)(hf:∀j,j<cs.size->cs[j]?=Gn (f j)):ko L w0 rows (ls++[⟨w.heap.size,cs.size,t,f⟩]) (w.alloc (.cells cs t)):=by
 have:=Kn.alloc h cs t f ht hf;rw[List.append_assoc]at this;exact Vh
theorem ko.Tt(h:ko L w0 rows ls w)(o:Obj){es:Array Event}(Eu:∀e∈es,False):L.D1 w (w.alloc o) es:=Kn.Tt h o Eu
theorem ko.Xo(h:ko L w0 rows ls w){a:Vm}(hs:Bq L w0 a.block):w.cell? a=w0.cell? a:=Kn.Xo h hs
theorem ko.zp(h:ko L w0 rows ls w){b:Nat}(hs:Bq L w0 b){es:Array Event}(Eu:∀e∈es,∃j,e=⟨.cell ⟨b,j,Hn⟩,Tm,Tm⟩):L.D1 w w es:=Kn.zp h hs Eu
theorem ko.less{ex:List Jp}(h:ko L w0 rows (ls++ex) w):ko L w0 rows ls w:=by
 unfold ko at *;rw[<-List.append_assoc]at h;exact h.drop
theorem bu(hi:rows[i]?=Gn r):rows.set i r=rows:=by
 apply List.ext_getElem?;intro n;by_cases h:n=i
 ·subst h;rw[ao hi,hi]
 ·rw[Fo h]
theorem Kn.start(h:Kn L w0 rows w)(hi:rows[i]?=Gn r):ko L w0 (rows.set i r) [] w:=by
 rw[bu hi];exact h.lay
theorem at2{q:Jp}(hi:rows[i]?=Gn q)(r:Jp):(rows.set i r++ls)[i]?=Gn r:=Aq (ao hi r)
theorem ko.back{q r':Jp}(hi:rows[i]?=Gn q)(h:Kn L w0 ((rows.set i r++ls).set i r') w):ko L w0 (rows.set i r') ls w:=by
 rw[FI (ao hi r),List.set_set]at h;exact h
section
variable {q:Jp}(hi:rows[ic]?=Gn q)(h:ko L w0 (rows.set ic (jo g num net code z)) ls w)
include q hi h
theorem ko.cz(h3:3<=j)(hj:j<48):w.cell? ⟨g,j,Hn⟩=Gn (.int .i64 (z j)):=h.zw (ao hi _) h3 hj
theorem ko.FO(j:Nat):w.frozen? ⟨g,j,Hn⟩=false:=h.frozen (ao hi _) j
theorem ko.Ku{es:Array Event}(Eu:∀e∈es,∃j,e=⟨.cell ⟨g,j,Hn⟩,Tm,Tm⟩):L.D1 w w es:=h.looks (ao hi _) Eu
theorem ko.Px(j:Nat)(v:Dn){es:Array Event}(Eu:∀e∈es,e=⟨.cell ⟨g,j,Hn⟩,Um,Tm⟩):L.D1 w (w.setCell ⟨g,j,Hn⟩ v) es:=h.does (ao hi _) j v Eu
theorem ko.yA(h3:3<=j)(v:Int):ko L w0 (rows.set ic (jo g num net code (Wn z j v))) ls (w.setCell ⟨g,j,Hn⟩ (.int .i64 v)):=by
 have:=h.wc0 (ao hi _) h3 v;rw[List.set_set]at this;exact Vh
end
def Kk0(a b c d:Int)(j:Nat):Value:=.int .i64 (if j=0 then a else if j=1 then b else if j=2 then c else d)
abbrev qp(g:Nat)(a b c d:Int):Jp:=⟨g,4,97,Kk0 a b c d⟩
section
variable (h:ko L w0 rows ls w){a b c d:Int}(hk:ls[k]?=Gn (qp g a b c d))
include h a b c d hk
theorem ko.Zu:w.cell? ⟨g,0,Hn⟩=Gn (.int .i64 a)/\w.cell? ⟨g,1,Hn⟩=Gn (.int .i64 b)/\w.cell? ⟨g,2,Hn⟩=Gn (.int .i64 c)/\w.cell? ⟨g,3,Hn⟩=Gn (.int .i64 d):=
 ⟨h.oI hk (j:=0) (show 0<4 by omega),h.oI hk (j:=1) (show 1<4 by omega),h.oI hk (j:=2) (show 2<4 by omega),h.oI hk (j:=3) (show 3<4 by omega)⟩
theorem ko.NS:w.frozen? ⟨g,0,Hn⟩=Tm/\w.frozen? ⟨g,1,Hn⟩=Tm/\w.frozen? ⟨g,2,Hn⟩=Tm/\w.frozen? ⟨g,3,Hn⟩=false:=
 ⟨h.Nz hk 0,h.Nz hk 1,h.Nz hk 2,h.Nz hk 3⟩
end
theorem ko.uJ(h:ko L w0 rows ls w)(ht:((97:Nat)==L.ev)=Tm)(a b c d:Int):ko L w0 rows (ls++[qp w.heap.size a b c d]) (w.alloc (.cells #[.int .i64 a,.int .i64 b,.int .i64 c,.int .i64 d] 97)):=
 h.alloc #[.int .i64 a,.int .i64 b,.int .i64 c,.int .i64 d] 97 (Kk0 a b c d) ht fun j hj=>by
  have:j=0\/j=1\/j=2\/j=3:=by simp at hj;omega
  rcases this with rfl|rfl|rfl|rfl<;>rfl
theorem ko.eZ(h:ko L w0 rows (ls.set k r) w){r' q:Jp}(hk:ls[k]?=Gn q)(hg:r'.g=r.g)(hm:r'.m=r.m)(ht:r'.t=r.t)(hf:∀j,j<r.m->r.f j=r'.f j):ko L w0 rows (ls.set k r') w:=by
 have e:∀x:Jp,rows++ls.set k x=(rows++ls).set (rows.length+k) x:=fun x=>by rw[List.set_append_right _ _ E0,Nat.add_sub_cancel_left]
 unfold ko at *;rw[e]at h ⊢;exact h.congr (au hk) hg hm ht hf
theorem ko.QS(h:ko L w0 rows ls w){a b c d a' b' c' d':Int}(hk:ls[k]?=Gn (qp g a b c d)):
  ko L w0 rows (ls.set k (qp g a' b' c' d')) ((((w.setCell ⟨g,0,Hn⟩ (.int .i64 a')).setCell ⟨g,1,Hn⟩ (.int .i64 b')).setCell ⟨g,2,Hn⟩ (.int .i64 c')).setCell ⟨g,3,Hn⟩ (.int .i64 d')):=by
 have hl:=(List.getElem?_eq_some_iff.1 hk).1;have s0:=h.rF hk 0 (.int .i64 a');have s1:=s0.rF (ao hk _) 1 (.int .i64 b');have s2:=s1.rF (ao (ao hk _) _) 2 (.int .i64 c');have s3:=s2.rF (ao (ao (ao hk _) _) _) 3 (.int .i64 d');simp only[List.set_set]at s3;refine s3.eZ hk rfl rfl rfl fun j hj=>?_;have:j=0\/j=1\/j=2\/j=3:=by have:j<4:=hj;omega
 rcases this with rfl|rfl|rfl|rfl<;>rfl
theorem ko.lN(h:ko L w0 rows ls w){a b c d:Int}(a' b' c' d':Int)(hk:ls[k]?=Gn (qp g a b c d)){es:Array Event}(Eu:∀e∈es,∃j wr,e=⟨.cell ⟨g,j,Hn⟩,wr,Tm⟩):
  L.D1 w ((((w.setCell ⟨g,0,Hn⟩ (.int .i64 a')).setCell ⟨g,1,Hn⟩ (.int .i64 b')).setCell ⟨g,2,Hn⟩ (.int .i64 c')).setCell ⟨g,3,Hn⟩ (.int .i64 d')) es:=by
 have s0:=h.rF hk 0 (.int .i64 a');have k0:=ao hk ((qp g a b c d).put 0 (.int .i64 a'));have s1:=s0.rF k0 1 (.int .i64 b');have k1:=ao k0 (((qp g a b c d).put 0 (.int .i64 a')).put 1 (.int .i64 b'));have s2:=s1.rF k1 2 (.int .i64 c');have k2:=ao k1 ((((qp g a b c d).put 0 (.int .i64 a')).put 1 (.int .i64 b')).put 2 (.int .i64 c'));refine Kn.DR h (au hk) ?_ ?_ Eu
 ·exact(((Kn.Ss h (au hk) 0 _).trans (Kn.Ss s0 (au k0) 1 _)).trans (Kn.Ss s1 (au k1) 2 _)).trans (Kn.Ss s2 (au k2) 3 _)
 ·exact(Kn.Yx s2 (au k2) 3 _).trans ((Kn.Yx s1 (au k1) 2 _).trans ((Kn.Yx s0 (au k0) 1 _).trans (Kn.Yx h (au hk) 0 _)))
end
section
variable {L:Bt}{w0:En}{rows:List Jp}{ic g cb co n cc:Nat}{num:Int}{net:Dn}{z ci:Nat->Int}
theorem yb0(Et:((97:Nat)==L.ev)=Tm)(hi:rows[ic]?=Gn (jo g num net (.slice (Gn ⟨cb,co,Hn⟩) n cc) z))(hs:Bq L w0 cb)(Np:∀j,j<n*4->w0.cell? ⟨cb,co+j,Hn⟩=Gn (.int .i64 (ci j)))(nx:Nat)(hz:z 45=nx)(yo:nx<n)(hn:n<=48)(w:En)(hF:Kn L w0 rows w):
  Ao prog Tm L.R1 L.D1 126 #[.pointer (Gn ⟨g,0,Hn⟩)] w (fun v w'=>v=.agg #[.int .i64 (ci (nx*4)),.int .i64 (ci (nx*4+1)),.int .i64 (ci (nx*4+2)),.int .i64 (ci (nx*4+3))]/\Kn L w0 (rows.set ic (jo g num net (.slice (Gn ⟨cb,co,Hn⟩) n cc) (Wn z 45 (nx+1)))) w') (fun _ _=>False):=by
 replace hF:=hF.lay;have hk:(base 126).kind≠.early:=J1;refine Ao.intro L.Nn #[.pointer (Gn ⟨g,0,Hn⟩),Bn,Bn,Bn,Bn,Bn,Bn,Bn,Bn,Bn,Bn,Bn,Bn,Bn,Bn,Bn,Bn,Bn,Bn,Bn,Bn,Bn,Bn,Bn,Bn,Bn,Bn,Bn,Bn,Bn,Bn,Bn,Bn,Bn,Bn,Bn,Bn] func126 rfl J0 fun cl cs Bo tt _=>?_;refine jm ?_;refine K9 fun w1 K hK hF=>?_;refine vm ?_ ?_
 ·exact sj
 clear hK K;replace hF:ko L w0 rows [qp w1.heap.size 0 0 0 0] _:=hF.uJ Et 0 0 0 0;generalize hN:w1.heap.size=N at *;generalize hW:(w1.alloc (.cells #[.int .i64 0,.int .i64 0,.int .i64 0,.int .i64 0] 97))=w2 at *;clear hW hN w1;refine um ?_;refine J9 ?_;refine ug fun w1 hF=>?_;refine Jj ?_;refine um ?_;refine Xg ?_;refine um ?_;refine Jo L.Nn 4 rfl O8 hF ?_ fun _ hw=>⟨Rm (by
  intro K hK;refine Nc fun hc=>?_;rw[hz]at hc;go_simp;exact hK),by
  refine Nc fun hc=>?_;rw[hz]at hc;refine ti ?_;co_evs (exact⟨_,rfl⟩)⟩
 refine um ?_;refine bf ?_;refine um ?_;refine jf ?_;refine um ?_;refine ye ?_;refine um ?_;refine Jo L.Nn 8 rfl O8 hF ?_ fun _ hw=>⟨Rm (by
  intro K hK;refine ud fun hc=>?_;go_simp;exact hK),by
  refine ud fun hc=>?_;refine ti ?_;co_evs (exact⟨_,rfl⟩)⟩
 refine um ?_;refine Vn L.Nn 9 O8 hF ?_;refine um ?_;refine Vn L.Nn 10 O8 hF ?_;refine za ?_;have Yp:((nx:Int)==(n:Int))=false:=by simp;omega
 refine J9 ?_;refine Pn.Zq L.Nn (by simp[Act.eval,Yp]) ?_;refine J9 ?_;refine Pn.vu (S:=ko L w0 rows [qp N 0 0 0 0]) (Die:=fun _ _=>False) L.Nn L.wu 13 I0 hk J0 (fun _ _ _ h=>h) S8 fun w1 hR=>?_;replace hF:=(hF.rely hR).rely (Rq.drew _);clear hR;refine Jj ?_;refine um ?_;refine Jo L.Nn 3 rfl O8 hF ?_ fun _ hw=>⟨Rm (by
  intro K hK;refine ud fun hc=>?_;go_simp;exact hK),by
  refine ud fun hc=>?_;refine ti ?_;co_evs (exact⟨_,rfl⟩)⟩
 refine um ?_;refine de ?_;refine um ?_;refine bf ?_;refine um ?_;refine jf ?_;refine um ?_;refine ye ?_;refine um ?_;refine Jo L.Nn 8 rfl O8 hF ?_ fun _ hw=>⟨Rm (by
  intro K hK;refine Nc fun hc=>?_;rw[hz]at hc;go_simp;exact hK),by
  refine Nc fun hc=>?_;rw[hz]at hc;refine ti ?_;co_evs (exact⟨_,rfl⟩)⟩
 refine um ?_;refine Jo L.Nn 9 rfl O8 hF ?_ fun _ hw=>⟨Rm (by
  intro K hK;go_simp;exact hK),by
  co_still L.Nn⟩
 refine um ?_;refine Jo L.Nn 10 rfl O8 hF ?_ fun _ hw=>⟨Rm (by
  intro K hK;refine Fa fun d0 d1 d2 d3=>?_;go_simp;exact hK),by
  refine Fa fun d0 d1 d2 d3=>?_;refine hw.zp hs ?_;(intro e he;have hm:=mem_listed he;simp[go_sem, *]at hm;rcases hm with rfl|rfl|rfl|rfl<;>exact⟨_,rfl⟩)⟩
 refine um ?_;refine tu (i:=11) T0 rfl I0 ?_;refine Df fun w1 K hK hF=>?_;refine qa ?_ ?_ ?_
 ·exact sj
 ·exact .inl (ko.less (ex:=[_]) (hF.uJ Et 0 0 0 0))
 clear hK K;replace hF:ko L w0 rows [qp N 0 0 0 0,qp w1.heap.size 0 0 0 0] _:=hF.uJ Et 0 0 0 0;generalize hM:w1.heap.size=M at *;generalize hW:(w1.alloc (.cells #[.int .i64 0,.int .i64 0,.int .i64 0,.int .i64 0] 97))=w3 at *;clear hW hM w1;refine um ?_;refine tu (i:=12) T0 rfl I0 ?_;refine Df fun w1 K hK hF=>?_;obtain⟨a0,a1,a2,a3⟩:=hF.Zu (k:=1) rfl;obtain⟨b0,b1,b2,b3⟩:=hF.NS (k:=1) rfl;refine qa ?_ ?_ ?_
 ·refine hF.lN (k:=1) _ _ _ _ rfl ?_;exact Zd
 ·exact vd
 clear hK K;clear a0 a1 a2 a3 b0 b1 b2 b3;replace hF:ko L w0 rows [qp N 0 0 0 0,qp M (ci (nx*4)) (ci (nx*4+1)) (ci (nx*4+2)) (ci (nx*4+3))] _:=hF.QS (k:=1) rfl;refine tj ?_;refine Oj ?_;refine K9 fun w1 K hK hF=>?_;have hc:World.cell? _ ⟨g,45,Hn⟩=Gn (.int .i64 (z 45)):=hF.zw hi E0 E0;rw[hz]at hc;refine vm ?_ ?_
 ·refine hF.looks hi ?_;exact T9
 clear hK K;clear hc;refine um ?_;refine K9 fun w1 K hK hF=>?_;have hwr:IntKind.i64.wrap ((nx:Int)+1)=nx+1:=by rw[IntKind.wrap_i64];omega
 refine vm ?_ ?_
 ·co_quiet L.Nn
 clear hK K;clear hwr;refine um ?_;refine pj fun w1 K hK hF=>?_;have hc:World.cell? _ ⟨g,45,Hn⟩=Gn (.int .i64 (z 45)):=hF.zw hi E0 E0;have zu:World.frozen? _ ⟨g,45,Hn⟩=false:=hF.frozen hi 45;refine vm ?_ ?_
 ·refine hF.does hi 45 _ ?_;exact yd
 clear hK K;clear hc zu;replace hF:=hF.wc0 hi (j:=45) E0 ((nx:Int)+1);refine um ?_;refine Ej ?_;refine K9 fun w1 K hK hF=>?_;obtain⟨a0,a1,a2,a3⟩:=hF.Zu (k:=1) rfl;obtain⟨b0,b1,b2,b3⟩:=hF.NS (k:=1) rfl;refine vm ?_ ?_
 ·refine hF.Yq (k:=1) rfl ?_;exact lh
 clear hK K;clear a0 a1 a2 a3 b0 b1 b2 b3;refine um ?_;refine K9 fun w1 K hK hF=>?_;refine jc fun a0 a1 a2 a3=>?_;obtain⟨b0,b1,b2,b3⟩:=hF.NS (k:=0) rfl;refine vm ?_ ?_
 ·refine hF.lN (k:=0) _ _ _ _ rfl ?_;exact Zd
 clear hK K;clear a0 a1 a2 a3 b0 b1 b2 b3;replace hF:ko L w0 _ [qp N (ci (nx*4)) (ci (nx*4+1)) (ci (nx*4+2)) (ci (nx*4+3)),qp M (ci (nx*4)) (ci (nx*4+1)) (ci (nx*4+2)) (ci (nx*4+3))] _:=hF.QS (k:=0) rfl;refine um ?_;refine J9 ?_;refine Tc fun todo=>?_;refine tt _ todo _ _ rfl (fun w1 hR=>?_) ⟨rfl,hF.drop⟩;replace hF:=hF.rely hR;refine jc fun a0 a1 a2 a3=>?_;constructor
 ·simp[results,asAddr,go_sem,a0,a1,a2,a3]
 ·refine hF.Yq (k:=0) rfl fun e he=>?_;have hm:=mem_seen he;simp[results,asAddr,go_sem,a0,a1,a2,a3]at hm;rcases hm with rfl|rfl|rfl|rfl<;>exact⟨_,rfl⟩
theorem A10(Et:((97:Nat)==L.ev)=Tm){code:Dn}(hi:rows[ic]?=Gn (jo g num net code z))(p:Option Vm)(hcd:code=.slice p n cc)(hz:z 45=n)(w:En)(hF:Kn L w0 rows w):
  Ao prog Tm L.R1 L.D1 126 #[.pointer (Gn ⟨g,0,Hn⟩)] w (fun _ _=>False) (fun ch w'=>ch=[{v:=.iface 222 (.int .i64 3),recovered:=Tm}]/\Kn L w0 rows w'):=by
 subst hcd;replace hF:=hF.lay;have hk:(base 126).kind≠.early:=J1;refine Ao.intro L.Nn #[.pointer (Gn ⟨g,0,Hn⟩),Bn,Bn,Bn,Bn,Bn,Bn,Bn,Bn,Bn,Bn,Bn,Bn,Bn,Bn,Bn,Bn,Bn,Bn,Bn,Bn,Bn,Bn,Bn,Bn,Bn,Bn,Bn,Bn,Bn,Bn,Bn,Bn,Bn,Bn,Bn,Bn] func126 rfl J0 fun cl cs Bo tt lX=>?_;refine jm ?_;refine K9 fun w1 K hK hF=>?_;refine vm ?_ ?_
 ·exact sj
 clear hK K;replace hF:ko L w0 rows [qp w1.heap.size 0 0 0 0] _:=hF.uJ Et 0 0 0 0;generalize hN:w1.heap.size=N at *;generalize hW:(w1.alloc (.cells #[.int .i64 0,.int .i64 0,.int .i64 0,.int .i64 0] 97))=w2 at *;clear hW hN w1;refine um ?_;refine J9 ?_;refine ug fun w1 hF=>?_;refine Jj ?_;refine um ?_;refine Xg ?_;refine um ?_;refine Jo L.Nn 4 rfl O8 hF ?_ fun _ hw=>⟨Rm (by
  intro K hK;refine Nc fun hc=>?_;rw[hz]at hc;go_simp;exact hK),by
  refine Nc fun hc=>?_;rw[hz]at hc;refine ti ?_;co_evs (exact⟨_,rfl⟩)⟩
 refine um ?_;refine bf ?_;refine um ?_;refine jf ?_;refine um ?_;refine ye ?_;refine um ?_;refine Jo L.Nn 8 rfl O8 hF ?_ fun _ hw=>⟨Rm (by
  intro K hK;have hc:World.cell? _ ⟨g,2,Hn⟩=Gn (.slice p n cc):=hw.cell hi (show 2<48 by omega);go_simp;exact hK),by
  have hc:World.cell? _ ⟨g,2,Hn⟩=Gn (.slice p n cc):=hw.cell hi (show 2<48 by omega);refine ti ?_;co_evs (exact⟨_,rfl⟩)⟩
 refine um ?_;refine Vn L.Nn 9 O8 hF ?_;refine um ?_;refine Vn L.Nn 10 O8 hF ?_;refine tj ?_;refine jh ?_;refine Ej ?_;refine K9 fun w1 K hK hF=>?_;refine vm ?_ ?_
 ·exact oe
 clear hK K;refine um ?_;refine Pn.panic L.Nn rfl I0 hk (fun w=>?_) (fun w=>?_) fun fr h1 _ h3 h4=>lX fr _ _ h1 h3 h4 ⟨rfl,hF.drop⟩
 ·rfl
 ·rfl
end
section
variable {L:Bt}{w0:En}{rows:List Jp}{ic g:Nat}{num:Int}{net code:Dn}{z:Nat->Int}
theorem Z30(hi:rows[ic]?=Gn (jo g num net code z))(w:En)(hF:Kn L w0 rows w):
  Ao prog Tm L.R1 L.D1 86 #[.pointer (Gn ⟨g,0,Hn⟩)] w (fun v w'=>v=.bool (decide (z 3<z 47))/\Kn L w0 rows w') (fun _ _=>False):=by
 replace hF:=hF.lay;have hk:(base 86).kind≠.early:=J1;refine Ao.intro L.Nn #[.pointer (Gn ⟨g,0,Hn⟩),Bn,Bn,Bn,Bn,Bn,Bn,Bn,Bn,Bn,Bn,Bn] func86 rfl J0 fun cl cs Bo tt _=>?_;refine bj ?_;refine Pn.vu (S:=ko L w0 rows []) (Die:=fun _ _=>False) L.Nn L.wu 10 I0 hk J0 (fun _ _ _ h=>h) S8 fun w1 hR=>?_;replace hF:=(hF.rely hR).rely (Rq.drew _);clear hR;refine Jj ?_;refine um ?_;refine Jo L.Nn 3 rfl O8 hF ?_ fun _ hw=>⟨Rm (by
  intro K hK;have hc:World.cell? _ ⟨g,47,Hn⟩=Gn (.int .i64 (z 47)):=hw.zw hi E0 E0;go_simp;exact hK),by
  have hc:World.cell? _ ⟨g,47,Hn⟩=Gn (.int .i64 (z 47)):=hw.zw hi E0 E0;refine ti ?_;co_evs (exact⟨_,rfl⟩)⟩
 refine um ?_;refine de ?_;refine um ?_;refine bf ?_;refine um ?_;refine jf ?_;refine um ?_;refine Jo L.Nn 7 rfl O8 hF ?_ fun _ hw=>⟨Rm (by
  intro K hK;have hc:World.cell? _ ⟨g,3,Hn⟩=Gn (.int .i64 (z 3)):=hw.zw hi E0 E0;go_simp;exact hK),by
  have hc:World.cell? _ ⟨g,3,Hn⟩=Gn (.int .i64 (z 3)):=hw.zw hi E0 E0;refine ti ?_;co_evs (exact⟨_,rfl⟩)⟩
 refine um ?_;refine Yg ?_;refine um ?_;refine Vn L.Nn 9 O8 hF ?_;refine tj ?_;exact X9
theorem BZ(x y:Int)(hy:y≠0)(w:En)(hF:Kn L w0 rows w):
  Ao prog Tm L.R1 L.D1 127 #[.int .i64 x,.int .i64 y] w (fun v w'=>v=.int .i64 (IntKind.i64.wrap (x.tdiv y))/\Kn L w0 rows w') (fun _ _=>False):=by
 have hb:(y==0)=false:=by simpa using hy
 have hk:(base 127).kind≠.early:=J1;refine Ao.intro L.Nn #[.int .i64 x,.int .i64 y,Bn,Bn,Bn,Bn,Bn,Bn,Bn,Bn,Bn] func127 rfl J0 fun cl cs Bo tt _=>?_;refine bj ?_;refine L9 ?_;refine J9 ?_;refine Pn.Zq L.Nn (by first|rfl|simp[Act.eval,hb]) ?_;refine J9 ?_;refine Ec ?_;refine Ja ?_;refine J9 ?_;refine Tc fun todo=>?_;exact Gg
theorem yT(x:Int)(w:En)(hF:Kn L w0 rows w):
  Ao prog Tm L.R1 L.D1 127 #[.int .i64 x,.int .i64 0] w (fun _ _=>False) (fun ch w'=>ch=[{v:=.iface 222 (.int .i64 1),recovered:=Tm}]/\Kn L w0 rows w'):=by
 have hk:(base 127).kind≠.early:=J1;refine Ao.intro L.Nn #[.int .i64 x,.int .i64 0,Bn,Bn,Bn,Bn,Bn,Bn,Bn,Bn,Bn] func127 rfl J0 fun cl cs Bo tt lX=>?_;refine bj ?_;refine L9 ?_;refine J9 ?_;refine jh ?_;refine Ej ?_;refine K9 fun w1 K hK hF=>?_;refine vm ?_ ?_
 ·exact oe
 clear hK K;refine um ?_;refine Pn.panic L.Nn rfl I0 hk (fun w=>?_) (fun w=>?_) fun fr h1 _ h3 h4=>lX fr _ _ h1 h3 h4 ⟨rfl,hF⟩
 ·rfl
 ·rfl
theorem oa0(y:Nat)(hy:y<16)(w:En)(hF:Kn L w0 rows w):
  Ao prog Tm L.R1 L.D1 128 #[.pointer (Gn ⟨g,0,Hn⟩),.int .i64 y] w (fun v w'=>v=.pointer (Gn ⟨g,29+y,Hn⟩)/\Kn L w0 rows w') (fun _ _=>False):=by
 have hb:decide ((y:Int)<0)=false:=P0;have Vx:decide ((16:Int)<=(y:Int))=false:=by simp;omega
 have hy2:(y:Int)<16:=E0;have hk:(base 128).kind≠.early:=J1;refine Ao.intro L.Nn #[.pointer (Gn ⟨g,0,Hn⟩),.int .i64 y,Bn,Bn,Bn,Bn,Bn,Bn,Bn,Bn,Bn,Bn,Bn,Bn,Bn,Bn,Bn,Bn] func128 rfl J0 fun cl cs Bo tt _=>?_;refine bj ?_;refine Ha ?_;iterate 6 (refine .Yo L.Nn rfl I0 hk ?_;try walk_nrm)
 refine J9 ?_;refine Pn.Zq L.Nn (by first|rfl|simp[Act.eval,Vx]) ?_;refine ak ?_;refine Xe ?_;refine K9 fun w1 K hK hF=>?_;refine vm ?_ ?_
 ·rw[listed_nil (by simp[go_sem,events_indexAt_array (P:=prog) 128 2 16 ⟨g,29,Hn⟩ .i64 (y:Int) underlying128 ⟨E0,E0⟩])];exact Terms.idle L.Nn _
 clear hK K;refine um ?_;refine qj ?_;refine Tc fun todo=>?_;exact Gg
theorem aX(y:Int)(hy:y<0\/16<=y)(w:En)(hF:Kn L w0 rows w):
  Ao prog Tm L.R1 L.D1 128 #[.pointer (Gn ⟨g,0,Hn⟩),.int .i64 y] w (fun _ _=>False) (fun ch w'=>ch=[{v:=.iface 222 (.int .i64 2),recovered:=Tm}]/\Kn L w0 rows w'):=by
 have hk:(base 128).kind≠.early:=J1;refine Ao.intro L.Nn #[.pointer (Gn ⟨g,0,Hn⟩),.int .i64 y,Bn,Bn,Bn,Bn,Bn,Bn,Bn,Bn,Bn,Bn,Bn,Bn,Bn,Bn,Bn,Bn] func128 rfl J0 fun cl cs Bo tt lX=>?_;refine bj ?_;refine Ha ?_;by_cases hn:y<0
 ·have hb:decide (y<0)=true:=by simpa using hn
  refine O9 ?_;refine Pn.unwanted L.Nn rfl I0 ?_;refine Pn.unwanted L.Nn rfl I0 ?_;refine qj ?_;refine jh ?_;refine Ej ?_;refine K9 fun w1 K hK hF=>?_;refine vm ?_ ?_
  ·exact oe
  clear hK K;refine um ?_;refine Pn.panic L.Nn rfl I0 hk (fun w=>?_) (fun w=>?_) fun fr h1 _ h3 h4=>lX fr _ _ h1 h3 h4 ⟨rfl,hF⟩
  ·rfl
  ·rfl
 ·have hb:decide (y<0)=false:=by simpa using hn
  have Vx:decide ((16:Int)<=y)=true:=by simp;omega
  iterate 6 (refine .Yo L.Nn rfl I0 hk ?_;try walk_nrm)
  refine J9 ?_;refine Pn.vr L.Nn (by first|rfl|simp[Act.eval,Vx]) ?_;refine Ej ?_;refine K9 fun w1 K hK hF=>?_;refine vm ?_ ?_
  ·exact oe
  clear hK K;refine um ?_;refine Pn.panic L.Nn rfl I0 hk (fun w=>?_) (fun w=>?_) fun fr h1 _ h3 h4=>lX fr _ _ h1 h3 h4 ⟨rfl,hF⟩
  ·rfl
  ·rfl
end
noncomputable def rl0:List Item:=match Tryz.f113.body with
 |some (.seq _ (.seq _ (.seq _ (.seq _ (.seq (.seq _ c) d)))))=>[.code c,.code d]
 |_=>[]
noncomputable def f_:Code:=Tryz.f113.body.getD .skip
section
variable {L:Bt}{w0:En}{rows:List Jp}{ic g cb co n cc:Nat}{num:Int}{net:Dn}{z ci:Nat->Int}
section
variable {op:Int}(Et:((97:Nat)==L.ev)=Tm)(hi:rows[ic]?=Gn (jo g num net (.slice (Gn ⟨cb,co,Hn⟩) n cc) z))(hs:Bq L w0 cb)(Np:∀j,j<n*4->w0.cell? ⟨cb,co+j,Hn⟩=Gn (.int .i64 (ci j)))(nx:Nat)(hz:z 45=nx)(yo:nx<n)(hn:n<=48)
include op Et hi hs Np nx hz yo hn
theorem UN
  (R A:Nat)(xw:R<4)(vw:A<4)(ep:ci (nx*4)=op)(hR:ci (nx*4+1)=R)(hA:ci (nx*4+2)=A)(N:Int)(hN:ci (nx*4+3)=N)(inV Kz:Dn)(w:En)(hF:Kn L w0 rows w){Bo:zn->En->Prop}{cs:List Xm}
  (h:∀(B:Nat)(w1:En),ko L w0 (rows.set ic (jo g num net (.slice (Gn ⟨cb,co,Hn⟩) n cc) (Wn (Wn z 46 (IntKind.i64.wrap (z 46+1))) 45 ((nx:Int)+1)))) [qp B op R A N] w1->Pn prog Tm L.R1 L.D1 Bo (G ((base 113).at {tmps:=#[.pointer (Gn ⟨g,0,Hn⟩),inV,Kz,Bn,Bn,Bn,.int .i64 0,.pointer (Gn ⟨B,0,Hn⟩),.pointer (Gn ⟨g,25+R,Hn⟩),.pointer (Gn ⟨g,25+A,Hn⟩),.pointer (Gn ⟨g,0,Hn⟩),.pointer (Gn ⟨g,0,Hn⟩),.pointer (Gn ⟨g,46,Hn⟩),.int .i64 (z 46),.int .i64 (IntKind.i64.wrap (z 46+1)),.pointer (Gn ⟨g,0,Hn⟩),.pointer (Gn ⟨g,46,Hn⟩),.pointer (Gn ⟨g,0,Hn⟩),.agg #[.int .i64 op,.int .i64 R,.int .i64 A,.int .i64 N],.pointer (Gn ⟨g,0,Hn⟩),.pointer (Gn ⟨B,1,Hn⟩),.int .i64 R,.pointer (Gn ⟨g,0,Hn⟩),.pointer (Gn ⟨g,25,Hn⟩),.pointer (Gn ⟨g,25,Hn⟩),.pointer (Gn ⟨g,25+R,Hn⟩),.pointer (Gn ⟨g,0,Hn⟩),.pointer (Gn ⟨B,2,Hn⟩),.int .i64 A,.pointer (Gn ⟨g,0,Hn⟩),.pointer (Gn ⟨g,25,Hn⟩),.pointer (Gn ⟨g,25,Hn⟩),.pointer (Gn ⟨g,25+A,Hn⟩),.pointer (Gn ⟨B,0,Hn⟩),.int .i64 op,Bn,Bn,Bn,Bn,Bn,Bn,Bn,Bn,Bn,Bn,Bn,Bn,Bn,Bn,Bn,Bn,Bn,Bn,Bn,Bn,Bn,Bn,Bn,Bn,Bn,Bn,Bn,Bn,Bn,Bn,Bn,Bn,Bn,Bn,Bn,Bn,Bn,Bn,Bn,Bn,Bn,Bn,Bn,Bn,Bn,Bn,Bn,Bn,Bn,Bn,Bn,Bn,Bn,Bn,Bn,Bn,Bn,Bn,Bn,Bn,Bn,Bn,Bn,Bn,Bn,Bn,Bn,Bn,Bn,Bn,Bn,Bn,Bn,Bn,Bn,Bn,Bn,Bn,Bn,Bn,Bn,Bn,Bn,Bn,Bn,Bn,Bn,Bn,Bn,Bn,Bn,Bn,Bn,Bn,Bn,Bn,Bn,Bn,Bn,Bn,Bn,Bn,Bn,Bn,Bn,Bn,Bn,Bn,Bn],defers:=[]} rl0) cs) w1):
  Pn prog Tm L.R1 L.D1 Bo (G ((base 113).at {tmps:=#[.pointer (Gn ⟨g,0,Hn⟩),inV,Kz,Bn,Bn,Bn,Bn,Bn,Bn,Bn,Bn,Bn,Bn,Bn,Bn,Bn,Bn,Bn,Bn,Bn,Bn,Bn,Bn,Bn,Bn,Bn,Bn,Bn,Bn,Bn,Bn,Bn,Bn,Bn,Bn,Bn,Bn,Bn,Bn,Bn,Bn,Bn,Bn,Bn,Bn,Bn,Bn,Bn,Bn,Bn,Bn,Bn,Bn,Bn,Bn,Bn,Bn,Bn,Bn,Bn,Bn,Bn,Bn,Bn,Bn,Bn,Bn,Bn,Bn,Bn,Bn,Bn,Bn,Bn,Bn,Bn,Bn,Bn,Bn,Bn,Bn,Bn,Bn,Bn,Bn,Bn,Bn,Bn,Bn,Bn,Bn,Bn,Bn,Bn,Bn,Bn,Bn,Bn,Bn,Bn,Bn,Bn,Bn,Bn,Bn,Bn,Bn,Bn,Bn,Bn,Bn,Bn,Bn,Bn,Bn,Bn,Bn,Bn,Bn,Bn,Bn,Bn,Bn,Bn,Bn,Bn,Bn,Bn,Bn,Bn,Bn,Bn,Bn,Bn,Bn,Bn,Bn,Bn,Bn,Bn,Bn,Bn,Bn,Bn],defers:=[]} [.code f_]) cs) w:=by
 replace hF:=hF.start hi;refine gd fun hk=>?_;refine bj ?_;refine zd ?_;refine pj fun w1 K hK hF=>?_;refine Qf fun hc=>?_;refine vm ?_ ?_
 ·exact Cj
 clear hK K;clear hc;refine um ?_;refine pj fun w1 K hK hF=>?_;refine Qf fun hc=>?_;have zu:World.frozen? _ ⟨g,46,Hn⟩=false:=ko.FO hi hF 46;refine vm ?_ ?_
 ·refine ko.Px hi hF 46 _ ?_;exact yd
 clear hK K;clear hc zu;replace hF:=ko.yA hi hF (j:=46) E0 (IntKind.i64.wrap (z 46+1));refine um ?_;refine J9 ?_;refine Ec ?_;refine M9 ?_;refine Pn.bB L.Nn rfl I0 hk rfl func126 I0 rfl #[.pointer (Gn ⟨g,0,Hn⟩)] J0 (yb0 (ic:=ic) Et (at2 hi (jo g num net (.slice (Gn ⟨cb,co,Hn⟩) n cc) (Wn z 46 (IntKind.i64.wrap (z 46+1))))) hs Np nx ((Kr z _ E0).trans hz) yo hn _ hF) ?_ S8;rintro v w2 ⟨rfl,Gs⟩;replace hF:=ko.back hi Gs;clear Gs;rw[ep,hR,hA,hN];refine K9 fun w1 K hK hF=>?_;refine vm ?_ ?_
 ·exact sj
 clear hK K;replace hF:ko L w0 (rows.set ic (jo g num net (.slice (Gn ⟨cb,co,Hn⟩) n cc) (Wn (Wn z 46 (IntKind.i64.wrap (z 46+1))) 45 ((nx:Int)+1)))) [qp w1.heap.size 0 0 0 0] _:=hF.uJ Et 0 0 0 0;generalize hB:w1.heap.size=B at *;generalize hW:(w1.alloc (.cells #[.int .i64 0,.int .i64 0,.int .i64 0,.int .i64 0] 97))=w3 at *;clear hW hB w1;refine um ?_;refine K9 fun w1 K hK hF=>?_;refine jc fun a0 a1 a2 a3=>?_;obtain⟨b0,b1,b2,b3⟩:=hF.NS (k:=0) rfl;refine vm ?_ ?_
 ·refine hF.lN (k:=0) _ _ _ _ rfl ?_;exact Zd
 clear hK K;clear a0 a1 a2 a3 b0 b1 b2 b3;replace hF:ko L w0 (rows.set ic (jo g num net (.slice (Gn ⟨cb,co,Hn⟩) n cc) (Wn (Wn z 46 (IntKind.i64.wrap (z 46+1))) 45 ((nx:Int)+1)))) [qp B op R A N] _:=hF.QS (k:=0) rfl;refine um ?_;refine J9 ?_;refine Zb fun iV eV=>?_;refine Pn.vu (S:=ko L w0 (rows.set ic (jo g num net (.slice (Gn ⟨cb,co,Hn⟩) n cc) (Wn (Wn z 46 (IntKind.i64.wrap (z 46+1))) 45 ((nx:Int)+1)))) [qp B op R A N]) (Die:=fun _ _=>False) L.Nn L.wu 16 I0 hk J0 (fun _ _ _ h=>h) S8 fun w1 hR=>?_;replace hF:=(hF.rely hR).rely (Rq.drew _);clear hR;refine Z9 ?_;refine Jo L.Nn 2 rfl O8 hF ?_ fun _ hw=>⟨Rm (by
  intro K hK;refine uf fun a0 a1 a2 a3=>?_;exact hK),by
  refine Ab fun a0 a1 a2 a3=>?_;co_evs (exact⟨_,rfl⟩)⟩
 refine um ?_;refine Xg ?_;refine um ?_;refine de ?_;refine um ?_;refine bf ?_;refine um ?_;refine Jo L.Nn 6 rfl O8 hF ?_ fun _ hw=>⟨Rm (by
  intro K hK;go_simp;exact hK),by
  rw[listed_nil K8];exact Terms.idle L.Nn _⟩
 refine um ?_;refine ye ?_;refine um ?_;refine Yg ?_;refine um ?_;refine Jo L.Nn 9 rfl O8 hF ?_ fun _ hw=>⟨Rm (by
  intro K hK;refine uf fun a0 a1 a2 a3=>?_;exact hK),by
  refine Ab fun a0 a1 a2 a3=>?_;co_evs (exact⟨_,rfl⟩)⟩
 refine um ?_;refine Vn L.Nn 10 O8 hF ?_;refine um ?_;refine Vn L.Nn 11 O8 hF ?_;refine um ?_;refine Vn L.Nn 12 O8 hF ?_;refine um ?_;refine Jo L.Nn 13 rfl O8 hF ?_ fun _ hw=>⟨Rm (by
  intro K hK;go_simp;exact hK),by
  rw[listed_nil L8];exact Terms.idle L.Nn _⟩
 refine um ?_;refine Vn L.Nn 14 O8 hF ?_;refine um ?_;refine Vn L.Nn 15 O8 hF ?_;refine tj ?_;refine Xc ?_;refine rj fun w1 K hK hF=>?_;refine jc fun a0 a1 a2 a3=>?_;refine vm ?_ ?_
 ·exact nj
 clear hK K;clear a0 a1 a2 a3;refine um ?_;refine .regionEnd L.Nn ?_;exact h B _ hF
theorem Xt
  (R A:Nat)(xw:R<4)(vw:A<4)(ep:ci (nx*4)=op)(hR:ci (nx*4+1)=R)(hA:ci (nx*4+2)=A)(N:Int)(hN:ci (nx*4+3)=N)(inV Kz:Dn)(w:En)(hF:Kn L w0 rows w){Post:Dn->En->Prop}{Die:List PanicEntry->En->Prop}
  (h:∀(cl:Xm)(cs:List Xm)(Bo:zn->En->Prop),
   (∀a todo w' v,a.defers=[]->yw prog L.R1 L.D1 113 Tryz.f113 a.tmps w' v->Post v w'->Pn prog Tm L.R1 L.D1 Bo (G {(base 113).at a todo with mode:=.returning} (cl::cs)) w')->
   (∀fr ch w',fr.fn=113->fr.defers=[]->fr.mode=.panicking ch->Die ch w'->Pn prog Tm L.R1 L.D1 Bo (G fr (cl::cs)) w')->
   ∀(B:Nat)(w1:En),ko L w0 (rows.set ic (jo g num net (.slice (Gn ⟨cb,co,Hn⟩) n cc) (Wn (Wn z 46 (IntKind.i64.wrap (z 46+1))) 45 ((nx:Int)+1)))) [qp B op R A N] w1->Pn prog Tm L.R1 L.D1 Bo (G ((base 113).at {tmps:=#[.pointer (Gn ⟨g,0,Hn⟩),inV,Kz,Bn,Bn,Bn,.int .i64 0,.pointer (Gn ⟨B,0,Hn⟩),.pointer (Gn ⟨g,25+R,Hn⟩),.pointer (Gn ⟨g,25+A,Hn⟩),.pointer (Gn ⟨g,0,Hn⟩),.pointer (Gn ⟨g,0,Hn⟩),.pointer (Gn ⟨g,46,Hn⟩),.int .i64 (z 46),.int .i64 (IntKind.i64.wrap (z 46+1)),.pointer (Gn ⟨g,0,Hn⟩),.pointer (Gn ⟨g,46,Hn⟩),.pointer (Gn ⟨g,0,Hn⟩),.agg #[.int .i64 op,.int .i64 R,.int .i64 A,.int .i64 N],.pointer (Gn ⟨g,0,Hn⟩),.pointer (Gn ⟨B,1,Hn⟩),.int .i64 R,.pointer (Gn ⟨g,0,Hn⟩),.pointer (Gn ⟨g,25,Hn⟩),.pointer (Gn ⟨g,25,Hn⟩),.pointer (Gn ⟨g,25+R,Hn⟩),.pointer (Gn ⟨g,0,Hn⟩),.pointer (Gn ⟨B,2,Hn⟩),.int .i64 A,.pointer (Gn ⟨g,0,Hn⟩),.pointer (Gn ⟨g,25,Hn⟩),.pointer (Gn ⟨g,25,Hn⟩),.pointer (Gn ⟨g,25+A,Hn⟩),.pointer (Gn ⟨B,0,Hn⟩),.int .i64 op,Bn,Bn,Bn,Bn,Bn,Bn,Bn,Bn,Bn,Bn,Bn,Bn,Bn,Bn,Bn,Bn,Bn,Bn,Bn,Bn,Bn,Bn,Bn,Bn,Bn,Bn,Bn,Bn,Bn,Bn,Bn,Bn,Bn,Bn,Bn,Bn,Bn,Bn,Bn,Bn,Bn,Bn,Bn,Bn,Bn,Bn,Bn,Bn,Bn,Bn,Bn,Bn,Bn,Bn,Bn,Bn,Bn,Bn,Bn,Bn,Bn,Bn,Bn,Bn,Bn,Bn,Bn,Bn,Bn,Bn,Bn,Bn,Bn,Bn,Bn,Bn,Bn,Bn,Bn,Bn,Bn,Bn,Bn,Bn,Bn,Bn,Bn,Bn,Bn,Bn,Bn,Bn,Bn,Bn,Bn,Bn,Bn,Bn,Bn,Bn,Bn,Bn,Bn,Bn,Bn,Bn,Bn,Bn,Bn],defers:=[]} rl0) (cl::cs)) w1):
  Ao prog Tm L.R1 L.D1 113 #[.pointer (Gn ⟨g,0,Hn⟩),inV,Kz] w Post Die:=
 Ao.intro (c:=f_) L.Nn _ func113 rfl J0 fun cl cs Bo tt lX=>UN Et hi hs Np nx hz yo hn R A xw vw ep hR hA N hN inV Kz w hF (h cl cs Bo tt lX)
end
end
section
variable {L:Bt}{w0:En}{rows:List Jp}{ic g cb co n cc:Nat}{num:Int}{net:Dn}{z ci:Nat->Int}
section
variable (Et:((97:Nat)==L.ev)=Tm)(hi:rows[ic]?=Gn (jo g num net (.slice (Gn ⟨cb,co,Hn⟩) n cc) z))(hs:Bq L w0 cb)(Np:∀j,j<n*4->w0.cell? ⟨cb,co+j,Hn⟩=Gn (.int .i64 (ci j)))(nx:Nat)(hz:z 45=nx)(yo:nx<n)(hn:n<=48)
include Et hi hs Np nx hz yo hn
theorem j_
  (R A:Nat)(xw:R<4)(vw:A<4)(ep:ci (nx*4)=0)(hR:ci (nx*4+1)=R)(hA:ci (nx*4+2)=A)(N:Int)(hN:ci (nx*4+3)=N)(inV Kz:Dn)(w:En)(hF:Kn L w0 rows w):
  Ao prog Tm L.R1 L.D1 113 #[.pointer (Gn ⟨g,0,Hn⟩),inV,Kz] w (fun v w'=>v=.int .i64 0/\Kn L w0 (rows.set ic (jo g num net (.slice (Gn ⟨cb,co,Hn⟩) n cc) (Wn (Wn z 46 (IntKind.i64.wrap (z 46+1))) 45 ((nx:Int)+1)))) w') (fun _ _=>False):=by
 refine gd fun hk=>?_;refine Xt Et hi hs Np nx hz yo hn R A xw vw ep hR hA N hN inV Kz w hF fun cl cs Bo tt _ B w3 hF=>?_;refine vj fun iV eV=>?_;iterate 15 (refine .Un L.Nn [0,1] I0 ?_;iterate 2 (refine .Yo L.Nn rfl I0 hk ?_;try walk_nrm);repeat refine .c1 L.Nn rfl ?_;refine .Zq L.Nn I0 ?_;repeat refine .c1 L.Nn rfl ?_)
 refine L9 ?_;refine J9 ?_;refine Pn.Zq L.Nn I0 ?_;refine J9 ?_;refine fj fun w1 K hK hF a0 a1 a2 a3=>?_;refine vm ?_ ?_
 ·exact nj
 exact dj
theorem ba0
  (R A:Nat)(xw:R<4)(vw:A<4)(ep:ci (nx*4)=1)(hR:ci (nx*4+1)=R)(hA:ci (nx*4+2)=A)(N:Int)(hN:ci (nx*4+3)=N)(inV Kz:Dn)(w:En)(hF:Kn L w0 rows w):
  Ao prog Tm L.R1 L.D1 113 #[.pointer (Gn ⟨g,0,Hn⟩),inV,Kz] w (fun v w'=>v=.int .i64 1/\Kn L w0 (rows.set ic (jo g num net (.slice (Gn ⟨cb,co,Hn⟩) n cc) (Wn (Wn (Wn z 46 (IntKind.i64.wrap (z 46+1))) 45 ((nx:Int)+1)) (25+R) N))) w') (fun _ _=>False):=by
 refine gd fun hk=>?_;refine Xt Et hi hs Np nx hz yo hn R A xw vw ep hR hA N hN inV Kz w hF fun cl cs Bo tt _ B w3 hF=>?_;refine vj fun iV eV=>?_;refine cj ?_;refine og ?_;refine Vk fun w1 K hK hF=>?_;refine jc fun a0 a1 a2 a3=>?_;refine vm ?_ ?_
 ·exact nj
 clear hK K;clear a0 a1 a2 a3;refine um ?_;refine rj fun w1 K hK hF=>?_;refine ga fun hc=>?_;refine Xb fun zu=>?_;refine vm ?_ ?_
 ·exact Rb
 clear hK K;clear hc zu;replace hF:=ko.yA hi hF (j:=25+R) E0 (N);refine um ?_;refine fj fun w1 K hK hF a0 a1 a2 a3=>?_;refine vm ?_ ?_
 ·exact nj
 exact dj
theorem V30
  (R A:Nat)(xw:R<4)(vw:A<4)(ep:ci (nx*4)=8)(hR:ci (nx*4+1)=R)(hA:ci (nx*4+2)=A)(N:Int)(hN:ci (nx*4+3)=N)(inV Kz:Dn)(w:En)(hF:Kn L w0 rows w):
  Ao prog Tm L.R1 L.D1 113 #[.pointer (Gn ⟨g,0,Hn⟩),inV,Kz] w (fun v w'=>v=.int .i64 8/\Kn L w0 (rows.set ic (jo g num net (.slice (Gn ⟨cb,co,Hn⟩) n cc) (Wn (Wn (Wn z 46 (IntKind.i64.wrap (z 46+1))) 45 ((nx:Int)+1)) 45 N))) w') (fun _ _=>False):=by
 refine gd fun hk=>?_;refine Xt Et hi hs Np nx hz yo hn R A xw vw ep hR hA N hN inV Kz w hF fun cl cs Bo tt _ B w3 hF=>?_;refine vj fun iV eV=>?_;iterate 7 (refine .Un L.Nn [0,1] I0 ?_;iterate 2 (refine .Yo L.Nn rfl I0 hk ?_;try walk_nrm);repeat refine .c1 L.Nn rfl ?_;refine .Zq L.Nn I0 ?_;repeat refine .c1 L.Nn rfl ?_)
 refine cj ?_;refine Xa ?_;refine Vk fun w1 K hK hF=>?_;refine jc fun a0 a1 a2 a3=>?_;refine vm ?_ ?_
 ·exact nj
 clear hK K;clear a0 a1 a2 a3;refine um ?_;refine pj fun w1 K hK hF=>?_;refine gg fun hc zu=>?_;refine vm ?_ ?_
 ·refine ko.Px hi hF (45) _ ?_;exact yd
 clear hK K;clear hc zu;replace hF:=ko.yA hi hF (j:=45) E0 (N);refine um ?_;refine fj fun w1 K hK hF a0 a1 a2 a3=>?_;refine vm ?_ ?_
 ·exact nj
 exact dj
theorem X30
  (R A:Nat)(xw:R<4)(vw:A<4)(ep:ci (nx*4)=9)(hR:ci (nx*4+1)=R)(hA:ci (nx*4+2)=A)(N:Int)(hN:ci (nx*4+3)=N)(h0:(Wn (Wn z 46 (IntKind.i64.wrap (z 46+1))) 45 ((nx:Int)+1)) (25+R)=0)(inV Kz:Dn)(w:En)(hF:Kn L w0 rows w):
  Ao prog Tm L.R1 L.D1 113 #[.pointer (Gn ⟨g,0,Hn⟩),inV,Kz] w (fun v w'=>v=.int .i64 9/\Kn L w0 (rows.set ic (jo g num net (.slice (Gn ⟨cb,co,Hn⟩) n cc) (Wn (Wn (Wn z 46 (IntKind.i64.wrap (z 46+1))) 45 ((nx:Int)+1)) 45 N))) w') (fun _ _=>False):=by
 refine gd fun hk=>?_;refine Xt Et hi hs Np nx hz yo hn R A xw vw ep hR hA N hN inV Kz w hF fun cl cs Bo tt _ B w3 hF=>?_;refine vj fun iV eV=>?_;refine Me ?_;refine cj ?_;refine Ec ?_;refine Vk fun w1 K hK hF=>?_;refine ga fun hc=>?_;refine vm ?_ ?_
 ·exact Cj
 clear hK K;clear hc;refine um ?_;refine qj ?_;refine jh ?_;refine ak ?_;refine Vk fun w1 K hK hF=>?_;refine jc fun a0 a1 a2 a3=>?_;refine vm ?_ ?_
 ·exact nj
 clear hK K;clear a0 a1 a2 a3;refine um ?_;refine pj fun w1 K hK hF=>?_;refine gg fun hc zu=>?_;refine vm ?_ ?_
 ·refine ko.Px hi hF (45) _ ?_;exact yd
 clear hK K;clear hc zu;replace hF:=ko.yA hi hF (j:=45) E0 (N);refine um ?_;refine fj fun w1 K hK hF a0 a1 a2 a3=>?_;refine vm ?_ ?_
 ·exact nj
 exact dj
theorem k_
  (R A:Nat)(xw:R<4)(vw:A<4)(ep:ci (nx*4)=9)(hR:ci (nx*4+1)=R)(hA:ci (nx*4+2)=A)(N:Int)(hN:ci (nx*4+3)=N)(h0:(Wn (Wn z 46 (IntKind.i64.wrap (z 46+1))) 45 ((nx:Int)+1)) (25+R)≠0)(inV Kz:Dn)(w:En)(hF:Kn L w0 rows w):
  Ao prog Tm L.R1 L.D1 113 #[.pointer (Gn ⟨g,0,Hn⟩),inV,Kz] w (fun v w'=>v=.int .i64 9/\Kn L w0 (rows.set ic (jo g num net (.slice (Gn ⟨cb,co,Hn⟩) n cc) (Wn (Wn z 46 (IntKind.i64.wrap (z 46+1))) 45 ((nx:Int)+1)))) w') (fun _ _=>False):=by
 have hb:((Wn (Wn z 46 (IntKind.i64.wrap (z 46+1))) 45 ((nx:Int)+1)) (25+R)==0)=false:=by simpa using h0
 refine gd fun hk=>?_;refine Xt Et hi hs Np nx hz yo hn R A xw vw ep hR hA N hN inV Kz w hF fun cl cs Bo tt _ B w3 hF=>?_;refine vj fun iV eV=>?_;refine Me ?_;refine cj ?_;refine Ec ?_;refine Vk fun w1 K hK hF=>?_;refine ga fun hc=>?_;refine vm ?_ ?_
 ·exact Cj
 clear hK K;clear hc;refine um ?_;refine qj ?_;refine Pn.Zq L.Nn (by first|rfl|simp[Act.eval,hb]) ?_;refine fj fun w1 K hK hF a0 a1 a2 a3=>?_;refine vm ?_ ?_
 ·exact nj
 exact dj
end
end
section
variable {L:Bt}{w0:En}{rows:List Jp}{ic g cb co n cc:Nat}{num:Int}{net:Dn}{z ci:Nat->Int}
section
variable (Et:((97:Nat)==L.ev)=Tm)(hi:rows[ic]?=Gn (jo g num net (.slice (Gn ⟨cb,co,Hn⟩) n cc) z))(hs:Bq L w0 cb)(Np:∀j,j<n*4->w0.cell? ⟨cb,co+j,Hn⟩=Gn (.int .i64 (ci j)))(nx:Nat)(hz:z 45=nx)(yo:nx<n)(hn:n<=48)
include Et hi hs Np nx hz yo hn
theorem W90
  (R A:Nat)(xw:R<4)(vw:A<4)(ep:ci (nx*4)=2)(hR:ci (nx*4+1)=R)(hA:ci (nx*4+2)=A)(N:Int)(hN:ci (nx*4+3)=N)(inV Kz:Dn)(w:En)(hF:Kn L w0 rows w):
  Ao prog Tm L.R1 L.D1 113 #[.pointer (Gn ⟨g,0,Hn⟩),inV,Kz] w (fun v w'=>v=.int .i64 2/\Kn L w0 (rows.set ic (jo g num net (.slice (Gn ⟨cb,co,Hn⟩) n cc) (Wn (Wn (Wn z 46 (IntKind.i64.wrap (z 46+1))) 45 ((nx:Int)+1)) (25+R) (IntKind.i64.wrap ((Wn (Wn z 46 (IntKind.i64.wrap (z 46+1))) 45 ((nx:Int)+1)) (25+R)+(Wn (Wn z 46 (IntKind.i64.wrap (z 46+1))) 45 ((nx:Int)+1)) (25+A)))))) w') (fun _ _=>False):=by
 refine gd fun hk=>?_;refine Xt Et hi hs Np nx hz yo hn R A xw vw ep hR hA N hN inV Kz w hF fun cl cs Bo tt _ B w3 hF=>?_;refine vj fun iV eV=>?_;refine Oe ?_;refine cj ?_;refine Pn.vu (S:=ko L w0 (rows.set ic (jo g num net (.slice (Gn ⟨cb,co,Hn⟩) n cc) (Wn (Wn z 46 (IntKind.i64.wrap (z 46+1))) 45 ((nx:Int)+1)))) [qp B 2 R A N]) (Die:=fun _ _=>False) L.Nn L.wu 9 I0 hk J0 (fun _ _ _ h=>h) S8 fun w1 hR=>?_;replace hF:=(hF.rely hR).rely (Rq.drew _);clear hR;refine Z9 ?_;refine Jo L.Nn 2 rfl O8 hF ?_ fun _ hw=>⟨Rm (by
  intro K hK;refine Q9 fun hc=>?_;go_simp;exact hK),by
  refine Q9 fun hc=>?_;refine Fe ?_;co_evs (exact⟨_,rfl⟩)⟩
 refine um ?_;refine Xg ?_;refine um ?_;refine de ?_;refine um ?_;refine Jo L.Nn 5 rfl O8 hF ?_ fun _ hw=>⟨Rm (by
  intro K hK;refine R9 fun hc=>?_;go_simp;exact hK),by
  refine R9 fun hc=>?_;refine Fe ?_;co_evs (exact⟨_,rfl⟩)⟩
 refine um ?_;refine jf ?_;refine um ?_;refine ye ?_;refine um ?_;refine uk fun w1 K hK hF hc zu=>?_;refine qa ?_ ?_ ?_
 ·exact Rb
 ·exact vd
 clear hK K;clear hc zu;replace hF:=ko.yA hi hF (j:=25+R) E0 (IntKind.i64.wrap ((Wn (Wn z 46 (IntKind.i64.wrap (z 46+1))) 45 ((nx:Int)+1)) (25+R)+(Wn (Wn z 46 (IntKind.i64.wrap (z 46+1))) 45 ((nx:Int)+1)) (25+A)));refine za ?_;refine fj fun w1 K hK hF a0 a1 a2 a3=>?_;refine vm ?_ ?_
 ·exact nj
 exact dj
theorem ca0
  (R A:Nat)(xw:R<4)(vw:A<4)(ep:ci (nx*4)=3)(hR:ci (nx*4+1)=R)(hA:ci (nx*4+2)=A)(N:Int)(hN:ci (nx*4+3)=N)(inV Kz:Dn)(w:En)(hF:Kn L w0 rows w):
  Ao prog Tm L.R1 L.D1 113 #[.pointer (Gn ⟨g,0,Hn⟩),inV,Kz] w (fun v w'=>v=.int .i64 3/\Kn L w0 (rows.set ic (jo g num net (.slice (Gn ⟨cb,co,Hn⟩) n cc) (Wn (Wn (Wn z 46 (IntKind.i64.wrap (z 46+1))) 45 ((nx:Int)+1)) (25+R) (IntKind.i64.wrap ((Wn (Wn z 46 (IntKind.i64.wrap (z 46+1))) 45 ((nx:Int)+1)) (25+R)-(Wn (Wn z 46 (IntKind.i64.wrap (z 46+1))) 45 ((nx:Int)+1)) (25+A)))))) w') (fun _ _=>False):=by
 refine gd fun hk=>?_;refine Xt Et hi hs Np nx hz yo hn R A xw vw ep hR hA N hN inV Kz w hF fun cl cs Bo tt _ B w3 hF=>?_;refine vj fun iV eV=>?_;refine Cb ?_;refine cj ?_;refine Pn.vu (S:=ko L w0 (rows.set ic (jo g num net (.slice (Gn ⟨cb,co,Hn⟩) n cc) (Wn (Wn z 46 (IntKind.i64.wrap (z 46+1))) 45 ((nx:Int)+1)))) [qp B 3 R A N]) (Die:=fun _ _=>False) L.Nn L.wu 9 I0 hk J0 (fun _ _ _ h=>h) S8 fun w1 hR=>?_;replace hF:=(hF.rely hR).rely (Rq.drew _);clear hR;refine Z9 ?_;refine Jo L.Nn 2 rfl O8 hF ?_ fun _ hw=>⟨Rm (by
  intro K hK;refine Q9 fun hc=>?_;go_simp;exact hK),by
  refine Q9 fun hc=>?_;refine Fe ?_;co_evs (exact⟨_,rfl⟩)⟩
 refine um ?_;refine Xg ?_;refine um ?_;refine de ?_;refine um ?_;refine Jo L.Nn 5 rfl O8 hF ?_ fun _ hw=>⟨Rm (by
  intro K hK;refine R9 fun hc=>?_;go_simp;exact hK),by
  refine R9 fun hc=>?_;refine Fe ?_;co_evs (exact⟨_,rfl⟩)⟩
 refine um ?_;refine jf ?_;refine um ?_;refine ye ?_;refine um ?_;refine uk fun w1 K hK hF hc zu=>?_;refine qa ?_ ?_ ?_
 ·exact Rb
 ·exact vd
 clear hK K;clear hc zu;replace hF:=ko.yA hi hF (j:=25+R) E0 (IntKind.i64.wrap ((Wn (Wn z 46 (IntKind.i64.wrap (z 46+1))) 45 ((nx:Int)+1)) (25+R)-(Wn (Wn z 46 (IntKind.i64.wrap (z 46+1))) 45 ((nx:Int)+1)) (25+A)));refine za ?_;refine fj fun w1 K hK hF a0 a1 a2 a3=>?_;refine vm ?_ ?_
 ·exact nj
 exact dj
theorem aa0
  (R A:Nat)(xw:R<4)(vw:A<4)(ep:ci (nx*4)=4)(hR:ci (nx*4+1)=R)(hA:ci (nx*4+2)=A)(N:Int)(hN:ci (nx*4+3)=N)(inV Kz:Dn)(w:En)(hF:Kn L w0 rows w):
  Ao prog Tm L.R1 L.D1 113 #[.pointer (Gn ⟨g,0,Hn⟩),inV,Kz] w (fun v w'=>v=.int .i64 4/\Kn L w0 (rows.set ic (jo g num net (.slice (Gn ⟨cb,co,Hn⟩) n cc) (Wn (Wn (Wn z 46 (IntKind.i64.wrap (z 46+1))) 45 ((nx:Int)+1)) (25+R) (IntKind.i64.wrap ((Wn (Wn z 46 (IntKind.i64.wrap (z 46+1))) 45 ((nx:Int)+1)) (25+R)*(Wn (Wn z 46 (IntKind.i64.wrap (z 46+1))) 45 ((nx:Int)+1)) (25+A)))))) w') (fun _ _=>False):=by
 refine gd fun hk=>?_;refine Xt Et hi hs Np nx hz yo hn R A xw vw ep hR hA N hN inV Kz w hF fun cl cs Bo tt _ B w3 hF=>?_;refine vj fun iV eV=>?_;refine Pe ?_;refine cj ?_;refine Pn.vu (S:=ko L w0 (rows.set ic (jo g num net (.slice (Gn ⟨cb,co,Hn⟩) n cc) (Wn (Wn z 46 (IntKind.i64.wrap (z 46+1))) 45 ((nx:Int)+1)))) [qp B 4 R A N]) (Die:=fun _ _=>False) L.Nn L.wu 9 I0 hk J0 (fun _ _ _ h=>h) S8 fun w1 hR=>?_;replace hF:=(hF.rely hR).rely (Rq.drew _);clear hR;refine Z9 ?_;refine Jo L.Nn 2 rfl O8 hF ?_ fun _ hw=>⟨Rm (by
  intro K hK;refine Q9 fun hc=>?_;go_simp;exact hK),by
  refine Q9 fun hc=>?_;refine Fe ?_;co_evs (exact⟨_,rfl⟩)⟩
 refine um ?_;refine Xg ?_;refine um ?_;refine de ?_;refine um ?_;refine Jo L.Nn 5 rfl O8 hF ?_ fun _ hw=>⟨Rm (by
  intro K hK;refine R9 fun hc=>?_;go_simp;exact hK),by
  refine R9 fun hc=>?_;refine Fe ?_;co_evs (exact⟨_,rfl⟩)⟩
 refine um ?_;refine jf ?_;refine um ?_;refine ye ?_;refine um ?_;refine uk fun w1 K hK hF hc zu=>?_;refine qa ?_ ?_ ?_
 ·exact Rb
 ·exact vd
 clear hK K;clear hc zu;replace hF:=ko.yA hi hF (j:=25+R) E0 (IntKind.i64.wrap ((Wn (Wn z 46 (IntKind.i64.wrap (z 46+1))) 45 ((nx:Int)+1)) (25+R)*(Wn (Wn z 46 (IntKind.i64.wrap (z 46+1))) 45 ((nx:Int)+1)) (25+A)));refine za ?_;refine fj fun w1 K hK hF a0 a1 a2 a3=>?_;refine vm ?_ ?_
 ·exact nj
 exact dj
end
end
section
variable {L:Bt}{w0:En}{rows:List Jp}{ic g cb co n cc:Nat}{num:Int}{net:Dn}{z ci:Nat->Int}
section
variable (Et:((97:Nat)==L.ev)=Tm)(hi:rows[ic]?=Gn (jo g num net (.slice (Gn ⟨cb,co,Hn⟩) n cc) z))(hs:Bq L w0 cb)(Np:∀j,j<n*4->w0.cell? ⟨cb,co+j,Hn⟩=Gn (.int .i64 (ci j)))(nx:Nat)(hz:z 45=nx)(yo:nx<n)(hn:n<=48)
include Et hi hs Np nx hz yo hn
theorem X90
  (R A:Nat)(xw:R<4)(vw:A<4)(ep:ci (nx*4)=5)(hR:ci (nx*4+1)=R)(hA:ci (nx*4+2)=A)(N:Int)(hN:ci (nx*4+3)=N)(h0:(Wn (Wn z 46 (IntKind.i64.wrap (z 46+1))) 45 ((nx:Int)+1)) (25+A)≠0)(inV Kz:Dn)(w:En)(hF:Kn L w0 rows w):
  Ao prog Tm L.R1 L.D1 113 #[.pointer (Gn ⟨g,0,Hn⟩),inV,Kz] w (fun v w'=>v=.int .i64 5/\Kn L w0 (rows.set ic (jo g num net (.slice (Gn ⟨cb,co,Hn⟩) n cc) (Wn (Wn (Wn z 46 (IntKind.i64.wrap (z 46+1))) 45 ((nx:Int)+1)) (25+R) (IntKind.i64.wrap (((Wn (Wn z 46 (IntKind.i64.wrap (z 46+1))) 45 ((nx:Int)+1)) (25+R)).tdiv ((Wn (Wn z 46 (IntKind.i64.wrap (z 46+1))) 45 ((nx:Int)+1)) (25+A))))))) w') (fun _ _=>False):=by
 refine gd fun hk=>?_;refine Xt Et hi hs Np nx hz yo hn R A xw vw ep hR hA N hN inV Kz w hF fun cl cs Bo tt _ B w3 hF=>?_;refine vj fun iV eV=>?_;refine Db ?_;refine cj ?_;refine Pn.vu (S:=ko L w0 (rows.set ic (jo g num net (.slice (Gn ⟨cb,co,Hn⟩) n cc) (Wn (Wn z 46 (IntKind.i64.wrap (z 46+1))) 45 ((nx:Int)+1)))) [qp B 5 R A N]) (Die:=fun _ _=>False) L.Nn L.wu 10 I0 hk J0 (fun _ _ _ h=>h) S8 fun w1 hR=>?_;replace hF:=(hF.rely hR).rely (Rq.drew _);clear hR;refine Jj ?_;refine um ?_;refine Jo L.Nn 3 rfl O8 hF ?_ fun _ hw=>⟨Rm (by
  intro K hK;refine Q9 fun hc=>?_;go_simp;exact hK),by
  refine Q9 fun hc=>?_;refine Fe ?_;co_evs (exact⟨_,rfl⟩)⟩
 refine um ?_;refine de ?_;refine um ?_;refine bf ?_;refine um ?_;refine Jo L.Nn 6 rfl O8 hF ?_ fun _ hw=>⟨Rm (by
  intro K hK;refine R9 fun hc=>?_;go_simp;exact hK),by
  refine R9 fun hc=>?_;refine Fe ?_;co_evs (exact⟨_,rfl⟩)⟩
 refine um ?_;refine dt (i:=7) T0 rfl I0 rfl func127 I0 rfl #[.int .i64 ((Wn (Wn z 46 (IntKind.i64.wrap (z 46+1))) 45 ((nx:Int)+1)) (25+R)),.int .i64 ((Wn (Wn z 46 (IntKind.i64.wrap (z 46+1))) 45 ((nx:Int)+1)) (25+A))] J0 (BZ (rows:=rows.set ic (jo g num net (.slice (Gn ⟨cb,co,Hn⟩) n cc) (Wn (Wn z 46 (IntKind.i64.wrap (z 46+1))) 45 ((nx:Int)+1)))++[qp B 5 R A N]) _ _ h0 _ hF) ?_;rintro v w2 ⟨rfl,Gs⟩;replace hF:ko L w0 (rows.set ic (jo g num net (.slice (Gn ⟨cb,co,Hn⟩) n cc) (Wn (Wn z 46 (IntKind.i64.wrap (z 46+1))) 45 ((nx:Int)+1)))) [qp B 5 R A N] w2:=Gs;clear Gs;refine⟨.inl hF,?_⟩;refine um ?_;refine Yg ?_;refine um ?_;refine tu (i:=9) T0 rfl I0 ?_;refine Df fun w1 K hK hF=>?_;refine ga fun hc=>?_;refine Xb fun zu=>?_;refine qa ?_ ?_ ?_
 ·exact Rb
 ·exact vd
 clear hK K;clear hc zu;replace hF:=ko.yA hi hF (j:=25+R) E0 (IntKind.i64.wrap (((Wn (Wn z 46 (IntKind.i64.wrap (z 46+1))) 45 ((nx:Int)+1)) (25+R)).tdiv ((Wn (Wn z 46 (IntKind.i64.wrap (z 46+1))) 45 ((nx:Int)+1)) (25+A))));refine za ?_;refine fj fun w1 K hK hF a0 a1 a2 a3=>?_;refine vm ?_ ?_
 ·exact nj
 exact dj
theorem W30
  (R A:Nat)(xw:R<4)(vw:A<4)(ep:ci (nx*4)=6)(hR:ci (nx*4+1)=R)(hA:ci (nx*4+2)=A)(N:Int)(hN:ci (nx*4+3)=N)(y:Nat)(hy:y<16)(h0:(Wn (Wn z 46 (IntKind.i64.wrap (z 46+1))) 45 ((nx:Int)+1)) (25+A)=(y:Int))(inV Kz:Dn)(w:En)(hF:Kn L w0 rows w):
  Ao prog Tm L.R1 L.D1 113 #[.pointer (Gn ⟨g,0,Hn⟩),inV,Kz] w (fun v w'=>v=.int .i64 6/\Kn L w0 (rows.set ic (jo g num net (.slice (Gn ⟨cb,co,Hn⟩) n cc) (Wn (Wn (Wn z 46 (IntKind.i64.wrap (z 46+1))) 45 ((nx:Int)+1)) (25+R) ((Wn (Wn z 46 (IntKind.i64.wrap (z 46+1))) 45 ((nx:Int)+1)) (29+y))))) w') (fun _ _=>False):=by
 refine gd fun hk=>?_;refine Xt Et hi hs Np nx hz yo hn R A xw vw ep hR hA N hN inV Kz w hF fun cl cs Bo tt _ B w3 hF=>?_;refine vj fun iV eV=>?_;refine Eb ?_;refine cj ?_;refine Oj ?_;refine K9 fun w1 K hK hF=>?_;refine ui fun hc=>?_;refine vm ?_ ?_
 ·exact Cj
 clear hK K;clear hc;refine um ?_;refine Pn.bB L.Nn rfl I0 hk rfl func128 I0 rfl #[.pointer (Gn ⟨g,0,Hn⟩),.int .i64 y] J0 (oa0 (rows:=rows.set ic (jo g num net (.slice (Gn ⟨cb,co,Hn⟩) n cc) (Wn (Wn z 46 (IntKind.i64.wrap (z 46+1))) 45 ((nx:Int)+1)))++[qp B 6 R A N]) y hy _ hF) ?_ S8;rintro v w2 ⟨rfl,Gs⟩;replace hF:ko L w0 (rows.set ic (jo g num net (.slice (Gn ⟨cb,co,Hn⟩) n cc) (Wn (Wn z 46 (IntKind.i64.wrap (z 46+1))) 45 ((nx:Int)+1)))) [qp B 6 R A N] w2:=Gs;clear Gs;refine um ?_;refine rj fun w1 K hK hF=>?_;refine yi fun hc=>?_;refine vm ?_ ?_
 ·exact Cj
 clear hK K;clear hc;refine um ?_;refine rj fun w1 K hK hF=>?_;refine ga fun hc=>?_;refine Xb fun zu=>?_;refine vm ?_ ?_
 ·exact Rb
 clear hK K;clear hc zu;replace hF:=ko.yA hi hF (j:=25+R) E0 ((Wn (Wn z 46 (IntKind.i64.wrap (z 46+1))) 45 ((nx:Int)+1)) (29+y));refine um ?_;refine fj fun w1 K hK hF a0 a1 a2 a3=>?_;refine vm ?_ ?_
 ·exact nj
 exact dj
theorem i_
  (R A:Nat)(xw:R<4)(vw:A<4)(ep:ci (nx*4)=7)(hR:ci (nx*4+1)=R)(hA:ci (nx*4+2)=A)(N:Int)(hN:ci (nx*4+3)=N)(y:Nat)(hy:y<16)(h0:(Wn (Wn z 46 (IntKind.i64.wrap (z 46+1))) 45 ((nx:Int)+1)) (25+A)=(y:Int))(inV Kz:Dn)(w:En)(hF:Kn L w0 rows w):
  Ao prog Tm L.R1 L.D1 113 #[.pointer (Gn ⟨g,0,Hn⟩),inV,Kz] w (fun v w'=>v=.int .i64 7/\Kn L w0 (rows.set ic (jo g num net (.slice (Gn ⟨cb,co,Hn⟩) n cc) (Wn (Wn (Wn z 46 (IntKind.i64.wrap (z 46+1))) 45 ((nx:Int)+1)) (29+y) ((Wn (Wn z 46 (IntKind.i64.wrap (z 46+1))) 45 ((nx:Int)+1)) (25+R))))) w') (fun _ _=>False):=by
 refine gd fun hk=>?_;refine Xt Et hi hs Np nx hz yo hn R A xw vw ep hR hA N hN inV Kz w hF fun cl cs Bo tt _ B w3 hF=>?_;refine vj fun iV eV=>?_;refine Qe ?_;refine cj ?_;refine Pn.vu (S:=ko L w0 (rows.set ic (jo g num net (.slice (Gn ⟨cb,co,Hn⟩) n cc) (Wn (Wn z 46 (IntKind.i64.wrap (z 46+1))) 45 ((nx:Int)+1)))) [qp B 7 R A N]) (Die:=fun _ _=>False) L.Nn L.wu 10 I0 hk J0 (fun _ _ _ h=>h) S8 fun w1 hR=>?_;replace hF:=(hF.rely hR).rely (Rq.drew _);clear hR;refine Jj ?_;refine um ?_;refine Jo L.Nn 3 rfl O8 hF ?_ fun _ hw=>⟨Rm (by
  intro K hK;refine R9 fun hc=>?_;go_simp;exact hK),by
  refine R9 fun hc=>?_;refine Fe ?_;co_evs (exact⟨_,rfl⟩)⟩
 refine um ?_;refine bf ?_;refine um ?_;refine jf ?_;refine um ?_;refine Jo L.Nn 7 rfl O8 hF ?_ fun _ hw=>⟨Rm (by
  intro K hK;refine Q9 fun hc=>?_;go_simp;exact hK),by
  refine Q9 fun hc=>?_;refine Fe ?_;co_evs (exact⟨_,rfl⟩)⟩
 refine um ?_;refine dt (i:=4) T0 rfl I0 rfl func128 I0 rfl #[.pointer (Gn ⟨g,0,Hn⟩),.int .i64 y] J0 (oa0 (rows:=rows.set ic (jo g num net (.slice (Gn ⟨cb,co,Hn⟩) n cc) (Wn (Wn z 46 (IntKind.i64.wrap (z 46+1))) 45 ((nx:Int)+1)))++[qp B 7 R A N]) y hy _ hF) ?_;rintro v w2 ⟨rfl,Gs⟩;replace hF:ko L w0 (rows.set ic (jo g num net (.slice (Gn ⟨cb,co,Hn⟩) n cc) (Wn (Wn z 46 (IntKind.i64.wrap (z 46+1))) 45 ((nx:Int)+1)))) [qp B 7 R A N] w2:=Gs;clear Gs;refine⟨.inl hF,?_⟩;refine um ?_;refine Yg ?_;refine um ?_;refine tu (i:=9) T0 rfl I0 ?_;refine Df fun w1 K hK hF=>?_;refine yi fun hc=>?_;have zu:World.frozen? _ ⟨g,29+y,Hn⟩=false:=ko.FO hi hF (29+y);refine qa ?_ ?_ ?_
 ·refine ko.Px hi hF (29+y) _ ?_;exact yd
 ·exact vd
 clear hK K;clear hc zu;replace hF:=ko.yA hi hF (j:=29+y) E0 ((Wn (Wn z 46 (IntKind.i64.wrap (z 46+1))) 45 ((nx:Int)+1)) (25+R));refine za ?_;refine fj fun w1 K hK hF a0 a1 a2 a3=>?_;refine vm ?_ ?_
 ·exact nj
 exact dj
end
end
section
variable {L:Bt}{w0:En}{rows:List Jp}{ic g cb co n cc:Nat}{num:Int}{net:Dn}{z ci:Nat->Int}
section
variable (Et:((97:Nat)==L.ev)=Tm)(hi:rows[ic]?=Gn (jo g num net (.slice (Gn ⟨cb,co,Hn⟩) n cc) z))
include Et hi
theorem LW(hz:z 45=n)(inV Kz:Dn)(w:En)(hF:Kn L w0 rows w):
  Ao prog Tm L.R1 L.D1 113 #[.pointer (Gn ⟨g,0,Hn⟩),inV,Kz] w (fun _ _=>False) (fun ch w'=>ch=[{v:=.iface 222 (.int .i64 3),recovered:=Tm}]/\Kn L w0 (rows.set ic (jo g num net (.slice (Gn ⟨cb,co,Hn⟩) n cc) (Wn z 46 (IntKind.i64.wrap (z 46+1))))) w'):=by
 replace hF:=hF.start hi;refine gd fun hk=>?_;refine Ao.intro L.Nn #[.pointer (Gn ⟨g,0,Hn⟩),inV,Kz,Bn,Bn,Bn,Bn,Bn,Bn,Bn,Bn,Bn,Bn,Bn,Bn,Bn,Bn,Bn,Bn,Bn,Bn,Bn,Bn,Bn,Bn,Bn,Bn,Bn,Bn,Bn,Bn,Bn,Bn,Bn,Bn,Bn,Bn,Bn,Bn,Bn,Bn,Bn,Bn,Bn,Bn,Bn,Bn,Bn,Bn,Bn,Bn,Bn,Bn,Bn,Bn,Bn,Bn,Bn,Bn,Bn,Bn,Bn,Bn,Bn,Bn,Bn,Bn,Bn,Bn,Bn,Bn,Bn,Bn,Bn,Bn,Bn,Bn,Bn,Bn,Bn,Bn,Bn,Bn,Bn,Bn,Bn,Bn,Bn,Bn,Bn,Bn,Bn,Bn,Bn,Bn,Bn,Bn,Bn,Bn,Bn,Bn,Bn,Bn,Bn,Bn,Bn,Bn,Bn,Bn,Bn,Bn,Bn,Bn,Bn,Bn,Bn,Bn,Bn,Bn,Bn,Bn,Bn,Bn,Bn,Bn,Bn,Bn,Bn,Bn,Bn,Bn,Bn,Bn,Bn,Bn,Bn,Bn,Bn,Bn,Bn,Bn,Bn,Bn,Bn] func113 rfl J0 fun cl cs Bo tt lX=>?_;refine bj ?_;refine zd ?_;refine pj fun w1 K hK hF=>?_;refine Qf fun hc=>?_;refine vm ?_ ?_
 ·exact Cj
 clear hK K;clear hc;refine um ?_;refine pj fun w1 K hK hF=>?_;refine Qf fun hc=>?_;have zu:World.frozen? _ ⟨g,46,Hn⟩=false:=ko.FO hi hF 46;refine vm ?_ ?_
 ·refine ko.Px hi hF 46 _ ?_;exact yd
 clear hK K;clear hc zu;replace hF:=ko.yA hi hF (j:=46) E0 (IntKind.i64.wrap (z 46+1));refine um ?_;refine J9 ?_;refine Ec ?_;refine M9 ?_;exact Pn.bB L.Nn rfl I0 hk rfl func126 I0 rfl #[.pointer (Gn ⟨g,0,Hn⟩)] J0 (A10 (ic:=ic) Et (at2 hi (jo g num net (.slice (Gn ⟨cb,co,Hn⟩) n cc) (Wn z 46 (IntKind.i64.wrap (z 46+1))))) _ rfl ((Kr z _ E0).trans hz) _ hF) l9 fun ch w' fr h h1 _ h3 h4=>lX fr ch w' h1 h3 h4 ⟨h.1,h.2.drop⟩
theorem KW(hs:Bq L w0 cb)(Np:∀j,j<n*4->w0.cell? ⟨cb,co+j,Hn⟩=Gn (.int .i64 (ci j)))(nx:Nat)(hz:z 45=nx)(yo:nx<n)(hn:n<=48)
  (R A:Nat)(xw:R<4)(vw:A<4)(ep:ci (nx*4)=5)(hR:ci (nx*4+1)=R)(hA:ci (nx*4+2)=A)(N:Int)(hN:ci (nx*4+3)=N)(h0:(Wn (Wn z 46 (IntKind.i64.wrap (z 46+1))) 45 ((nx:Int)+1)) (25+A)=0)(inV Kz:Dn)(w:En)(hF:Kn L w0 rows w):
  Ao prog Tm L.R1 L.D1 113 #[.pointer (Gn ⟨g,0,Hn⟩),inV,Kz] w (fun _ _=>False) (fun ch w'=>ch=[{v:=.iface 222 (.int .i64 1),recovered:=Tm}]/\Kn L w0 (rows.set ic (jo g num net (.slice (Gn ⟨cb,co,Hn⟩) n cc) (Wn (Wn z 46 (IntKind.i64.wrap (z 46+1))) 45 ((nx:Int)+1)))) w'):=by
 refine Hj fun hk cl cs Bo tt lX B w3 hF=>?_;refine vj fun iV eV=>?_;refine Db ?_;refine cj ?_;refine Pn.vu (S:=ko L w0 (rows.set ic (jo g num net (.slice (Gn ⟨cb,co,Hn⟩) n cc) (Wn (Wn z 46 (IntKind.i64.wrap (z 46+1))) 45 ((nx:Int)+1)))) [qp B 5 R A N]) (Die:=fun ch w'=>ch=[{v:=.iface 222 (.int .i64 1),recovered:=Tm}]/\Kn L w0 (rows.set ic (jo g num net (.slice (Gn ⟨cb,co,Hn⟩) n cc) (Wn (Wn z 46 (IntKind.i64.wrap (z 46+1))) 45 ((nx:Int)+1)))) w') L.Nn L.wu 10 I0 hk J0 (fun _ _ _ h=>h) (fun ch w' fr h h1 _ h3 h4=>lX fr ch w' h1 h3 h4 h) fun w1 hR=>?_;replace hF:=(hF.rely hR).rely (Rq.drew _);clear hR;co_applyP bp L.Nn V8 O8 ?oS (i:=0) rfl T0 T0 T0 T0 (.inl ⟨I0,fun _ hw=>⟨Rm ?MD,?OH⟩⟩) hF ?q00
 case oS=>exact fun _ _ _ h r=>Pn.rely L.Nn.trans h r
 case MD=>
  exact jb
 case OH=>
  exact Ac
 refine um ?_;co_applyP bp L.Nn V8 O8 ?pS (i:=1) rfl T0 T0 T0 T0 (.inl ⟨I0,fun _ hw=>⟨Rm ?cH,?PH⟩⟩) hF ?r00
 case pS=>exact fun _ _ _ h r=>Pn.rely L.Nn.trans h r
 case cH=>
  exact jb
 case PH=>
  exact Ac
 refine um ?_;co_applyP bp L.Nn V8 O8 ?qS (i:=2) rfl T0 T0 T0 T0 (.inl ⟨I0,fun _ hw=>⟨Rm ?IJ,?QH⟩⟩) hF ?s00
 case qS=>exact fun _ _ _ h r=>Pn.rely L.Nn.trans h r
 case IJ=>
  exact jb
 case QH=>
  exact Ac
 refine um ?_;co_applyP bp L.Nn V8 O8 ?rS (i:=3) rfl T0 T0 T0 T0 (.inl ⟨I0,fun _ hw=>⟨Rm ?JJ,?RH⟩⟩) hF ?t00
 case rS=>exact fun _ _ _ h r=>Pn.rely L.Nn.trans h r
 case JJ=>
  intro K hK;refine Q9 fun hc=>?_;exact fh
 case RH=>
  refine Q9 fun hc=>?_;refine Fe ?_;exact T9
 refine um ?_;co_applyP bp L.Nn V8 O8 ?sS (i:=4) rfl T0 T0 T0 T0 (.inl ⟨I0,fun _ hw=>⟨Rm ?LN,?SH⟩⟩) hF ?u00
 case sS=>exact fun _ _ _ h r=>Pn.rely L.Nn.trans h r
 case LN=>
  exact jb
 case SH=>
  exact Ac
 refine um ?_;co_applyP bp L.Nn V8 O8 ?uS (i:=5) rfl T0 T0 T0 T0 (.inl ⟨I0,fun _ hw=>⟨Rm ?QT,?UH⟩⟩) hF ?v00
 case uS=>exact fun _ _ _ h r=>Pn.rely L.Nn.trans h r
 case QT=>
  exact jb
 case UH=>
  exact Ac
 refine um ?_;co_applyP bp L.Nn V8 O8 ?vS (i:=6) rfl T0 T0 T0 T0 (.inl ⟨I0,fun _ hw=>⟨Rm ?TT,?VH⟩⟩) hF ?w00
 case vS=>exact fun _ _ _ h r=>Pn.rely L.Nn.trans h r
 case TT=>
  intro K hK;refine R9 fun hc=>?_;exact fh
 case VH=>
  refine R9 fun hc=>?_;refine Fe ?_;exact T9
 refine um ?_;refine dt (Post:=fun _ _=>False) (i:=7) T0 rfl I0 rfl func127 I0 rfl #[.int .i64 ((Wn (Wn z 46 (IntKind.i64.wrap (z 46+1))) 45 ((nx:Int)+1)) (25+R)),.int .i64 0] J0 ((yT (rows:=rows.set ic (jo g num net (.slice (Gn ⟨cb,co,Hn⟩) n cc) (Wn (Wn z 46 (IntKind.i64.wrap (z 46+1))) 45 ((nx:Int)+1)))++[qp B 5 R A N]) _ _ hF).mono l9 fun ch w' h=>⟨h.1,h.2.drop⟩) ?_;exact fun _ _ h=>h.elim
theorem YT(hs:Bq L w0 cb)(Np:∀j,j<n*4->w0.cell? ⟨cb,co+j,Hn⟩=Gn (.int .i64 (ci j)))(nx:Nat)(hz:z 45=nx)(yo:nx<n)(hn:n<=48)
  (R A:Nat)(xw:R<4)(vw:A<4)(ep:ci (nx*4)=6)(hR:ci (nx*4+1)=R)(hA:ci (nx*4+2)=A)(N:Int)(hN:ci (nx*4+3)=N)(hy:(Wn (Wn z 46 (IntKind.i64.wrap (z 46+1))) 45 ((nx:Int)+1)) (25+A)<0\/16<=(Wn (Wn z 46 (IntKind.i64.wrap (z 46+1))) 45 ((nx:Int)+1)) (25+A))(inV Kz:Dn)(w:En)(hF:Kn L w0 rows w):
  Ao prog Tm L.R1 L.D1 113 #[.pointer (Gn ⟨g,0,Hn⟩),inV,Kz] w (fun _ _=>False) (fun ch w'=>ch=[{v:=.iface 222 (.int .i64 2),recovered:=Tm}]/\Kn L w0 (rows.set ic (jo g num net (.slice (Gn ⟨cb,co,Hn⟩) n cc) (Wn (Wn z 46 (IntKind.i64.wrap (z 46+1))) 45 ((nx:Int)+1)))) w'):=by
 refine Hj fun hk cl cs Bo tt lX B w3 hF=>?_;refine vj fun iV eV=>?_;refine Eb ?_;refine cj ?_;refine Oj ?_;refine K9 fun w1 K hK hF=>?_;refine ui fun hc=>?_;refine vm ?_ ?_
 ·exact Cj
 clear hK K;clear hc;refine um ?_;exact Pn.bB L.Nn rfl I0 hk rfl func128 I0 rfl #[.pointer (Gn ⟨g,0,Hn⟩),.int .i64 ((Wn (Wn z 46 (IntKind.i64.wrap (z 46+1))) 45 ((nx:Int)+1)) (25+A))] J0 (aX (rows:=rows.set ic (jo g num net (.slice (Gn ⟨cb,co,Hn⟩) n cc) (Wn (Wn z 46 (IntKind.i64.wrap (z 46+1))) 45 ((nx:Int)+1)))++[qp B 6 R A N]) _ hy _ hF) l9 fun ch w' fr h h1 _ h3 h4=>lX fr ch w' h1 h3 h4 ⟨h.1,h.2.drop⟩
theorem KP(hs:Bq L w0 cb)(Np:∀j,j<n*4->w0.cell? ⟨cb,co+j,Hn⟩=Gn (.int .i64 (ci j)))(nx:Nat)(hz:z 45=nx)(yo:nx<n)(hn:n<=48)
  (R A:Nat)(xw:R<4)(vw:A<4)(ep:ci (nx*4)=7)(hR:ci (nx*4+1)=R)(hA:ci (nx*4+2)=A)(N:Int)(hN:ci (nx*4+3)=N)(hy:(Wn (Wn z 46 (IntKind.i64.wrap (z 46+1))) 45 ((nx:Int)+1)) (25+A)<0\/16<=(Wn (Wn z 46 (IntKind.i64.wrap (z 46+1))) 45 ((nx:Int)+1)) (25+A))(inV Kz:Dn)(w:En)(hF:Kn L w0 rows w):
  Ao prog Tm L.R1 L.D1 113 #[.pointer (Gn ⟨g,0,Hn⟩),inV,Kz] w (fun _ _=>False) (fun ch w'=>ch=[{v:=.iface 222 (.int .i64 2),recovered:=Tm}]/\Kn L w0 (rows.set ic (jo g num net (.slice (Gn ⟨cb,co,Hn⟩) n cc) (Wn (Wn z 46 (IntKind.i64.wrap (z 46+1))) 45 ((nx:Int)+1)))) w'):=by
 refine Hj fun hk cl cs Bo tt lX B w3 hF=>?_;refine vj fun iV eV=>?_;refine Qe ?_;refine cj ?_;refine Pn.vu (S:=ko L w0 (rows.set ic (jo g num net (.slice (Gn ⟨cb,co,Hn⟩) n cc) (Wn (Wn z 46 (IntKind.i64.wrap (z 46+1))) 45 ((nx:Int)+1)))) [qp B 7 R A N]) (Die:=fun ch w'=>ch=[{v:=.iface 222 (.int .i64 2),recovered:=Tm}]/\Kn L w0 (rows.set ic (jo g num net (.slice (Gn ⟨cb,co,Hn⟩) n cc) (Wn (Wn z 46 (IntKind.i64.wrap (z 46+1))) 45 ((nx:Int)+1)))) w') L.Nn L.wu 10 I0 hk J0 (fun _ _ _ h=>h) (fun ch w' fr h h1 _ h3 h4=>lX fr ch w' h1 h3 h4 h) fun w1 hR=>?_;replace hF:=(hF.rely hR).rely (Rq.drew _);clear hR;co_applyP bp L.Nn V8 O8 ?oS (i:=0) rfl T0 T0 T0 T0 (.inl ⟨I0,fun _ hw=>⟨Rm ?MD,?OH⟩⟩) hF ?q00
 case oS=>exact fun _ _ _ h r=>Pn.rely L.Nn.trans h r
 case MD=>
  exact jb
 case OH=>
  exact Ac
 refine um ?_;co_applyP bp L.Nn V8 O8 ?pS (i:=1) rfl T0 T0 T0 T0 (.inl ⟨I0,fun _ hw=>⟨Rm ?cH,?PH⟩⟩) hF ?r00
 case pS=>exact fun _ _ _ h r=>Pn.rely L.Nn.trans h r
 case cH=>
  exact jb
 case PH=>
  exact Ac
 refine um ?_;co_applyP bp L.Nn V8 O8 ?qS (i:=2) rfl T0 T0 T0 T0 (.inl ⟨I0,fun _ hw=>⟨Rm ?IJ,?QH⟩⟩) hF ?s00
 case qS=>exact fun _ _ _ h r=>Pn.rely L.Nn.trans h r
 case IJ=>
  exact jb
 case QH=>
  exact Ac
 refine um ?_;co_applyP bp L.Nn V8 O8 ?rS (i:=3) rfl T0 T0 T0 T0 (.inl ⟨I0,fun _ hw=>⟨Rm ?JJ,?RH⟩⟩) hF ?t00
 case rS=>exact fun _ _ _ h r=>Pn.rely L.Nn.trans h r
 case JJ=>
  intro K hK;refine R9 fun hc=>?_;exact fh
 case RH=>
  refine R9 fun hc=>?_;refine Fe ?_;exact T9
 refine um ?_;co_applyP bp L.Nn V8 O8 ?sS (i:=5) rfl T0 T0 T0 T0 (.inl ⟨I0,fun _ hw=>⟨Rm ?LN,?SH⟩⟩) hF ?u00
 case sS=>exact fun _ _ _ h r=>Pn.rely L.Nn.trans h r
 case LN=>
  exact jb
 case SH=>
  exact Ac
 refine um ?_;co_applyP bp L.Nn V8 O8 ?uS (i:=6) rfl T0 T0 T0 T0 (.inl ⟨I0,fun _ hw=>⟨Rm ?QT,?UH⟩⟩) hF ?v00
 case uS=>exact fun _ _ _ h r=>Pn.rely L.Nn.trans h r
 case QT=>
  exact jb
 case UH=>
  exact Ac
 refine um ?_;co_applyP bp L.Nn V8 O8 ?vS (i:=7) rfl T0 T0 T0 T0 (.inl ⟨I0,fun _ hw=>⟨Rm ?TT,?VH⟩⟩) hF ?w00
 case vS=>exact fun _ _ _ h r=>Pn.rely L.Nn.trans h r
 case TT=>
  intro K hK;refine Q9 fun hc=>?_;exact fh
 case VH=>
  refine Q9 fun hc=>?_;refine Fe ?_;exact T9
 refine um ?_;refine dt (Post:=fun _ _=>False) (i:=4) T0 rfl I0 rfl func128 I0 rfl #[.pointer (Gn ⟨g,0,Hn⟩),.int .i64 ((Wn (Wn z 46 (IntKind.i64.wrap (z 46+1))) 45 ((nx:Int)+1)) (25+A))] J0 ((aX (rows:=rows.set ic (jo g num net (.slice (Gn ⟨cb,co,Hn⟩) n cc) (Wn (Wn z 46 (IntKind.i64.wrap (z 46+1))) 45 ((nx:Int)+1)))++[qp B 7 R A N]) _ hy _ hF).mono l9 fun ch w' h=>⟨h.1,h.2.drop⟩) ?_;exact fun _ _ h=>h.elim
end
end
end Go.Proofs.YtdoghgnifkgfdaaGreat.Mute
