import Derived.Test.YtdoghgnifkgfdaaP16
set_option maxRecDepth 100000
set_option maxHeartbeats 16000000
namespace Go.Proofs.Ytdoghgnifkgfdaa.Mute
open Go Go.Conc Go.RowKit
def ctl1:List Item→Option (List Item)
 |.code (.seq x y)::k=>some (.code x::.code y::k)
 |.code (.block id c)::k=>some (.code c::.inBlock id::k)
 |.code .skip::k=>some k
 |.inBlock _::k=>some k
 |.inRegion _ []::k=>some k
 |_=>none
section
variable {P:Program} {main:Bool} {R:World→World→Prop} {D:World→World→Array Event→Prop} {Stop:Goroutine→World→Prop} {b:Frame} {a:Act} {k k':List Item} {cs:List Frame} {w:World}
theorem GoesW.c1 (T:Terms R D) (e:ctl1 k=some k') (h:GoesW P main R D Stop (G (b.at a k') cs) w):GoesW P main R D Stop (G (b.at a k) cs) w:=by
 unfold ctl1 at e;split at e
 ·cases e;exact .seq T h
 ·cases e;exact .block T h
 ·cases e;exact .skip T h
 ·cases e;exact .inBlock T h
 ·cases e;exact .regionEnd T h
 ·cases e
theorem GoesW.opV (T:Terms R D) {ops:Array Oper} {i:Nat} {rest:List Nat} {o:Oper} {v:Value} (ho:ops[i]?=some o) (hw:Region.wanted o (yielded ops a.tmps)=true) (hk:b.kind≠.early)
  (h:GoesW P main R D Stop (G (b.at (a.put o.dst v) (.inRegion ops rest::k)) cs) w)
  (hv:∀w₁,(execOp a.eval o).run P w₁=.ok (.value v) w₁∧(execOp a.eval o).events P w₁ #[]=#[]:=by exact fun _=>⟨run_eq_of (by intro K hK;go_simp;exact hK),by simp [go_sem]⟩):
  GoesW P main R D Stop (G (b.at a (.inRegion ops (i::rest)::k)) cs) w:=by
 refine .op ho hw hk fun w₁ hR K hK=>?_;rw [(hv w₁).1];refine hK _ _ ⟨?_,h.rely T.trans hR⟩;rw [listed_nil (hv w₁).2];exact T.idle _
theorem anyD_tk (T:Terms R D) (i:Nat) {fn:FuncId} {md:Region.Mode} {ops:Array Oper} {S:World→Prop} {oi:Oper} {v:Value} {fuel:Nat} {lst:Array Bool} {a:Act} (hSR:∀x y,S x→R x y→S y) (hS:S w)
  (h:AnyD P main R D fn md ops (fun a' w'=>GoesW P main R D Stop (G (b.at a' k) cs) w') (fun _ _=>False) (fun _ _ _=>False) S fuel (lst.setIfInBounds i true) (a.put oi.dst v) w)
  (hi:ops[i]?=some oi:=by rfl) (hs:Region.noSelect ops=true:=by first|kernel_rfl|decide +kernel) (hdn:downB md ops lst=true:=by first|kernel_rfl|decide +kernel) (hf:Region.free md ops lst i=true:=by first|kernel_rfl|decide +kernel) (hr:(Region.ready md ops lst).contains i=true:=by first|kernel_rfl|decide +kernel)
  (hy:Region.wanted oi (yielded ops a.tmps)=true∧∀w,(execOp a.eval oi).run P w=.ok (.value v) w∧(execOp a.eval oi).events P w #[]=#[]:=by exact ⟨by rfl,fun _=>⟨run_eq_of (by intro K hK;go_simp;exact hK),by simp [go_sem]⟩⟩):
  AnyD P main R D fn md ops (fun a' w'=>GoesW P main R D Stop (G (b.at a' k) cs) w') (fun _ _=>False) (fun _ _ _=>False) S (fuel+1) lst a w:=
 anyD_take (Q:=fun a' w'=>GoesW P main R D Stop (G (b.at a' k) cs) w') (Die:=fun _ _=>False) (Tail:=fun _ _ _=>False) T (fun _ _ _ _ h _=>h.elim) hSR (fun _ _ _ h r=>GoesW.rely T.trans h r) hi hs hdn hf hr (.inl ⟨hy.1,fun w _=>⟨(hy.2 w).1,by rw [listed_nil (hy.2 w).2];exact T.idle _⟩⟩) hS h
theorem anyD_tl (T:Terms R D) (i:Nat) {fn:FuncId} {md:Region.Mode} {ops:Array Oper} {S:World→Prop} {oi:Oper} {v:Value} {fuel:Nat} {lst:Array Bool} {a:Act} (hi:ops[i]?=some oi) (hSR:∀x y,S x→R x y→S y) (hS:S w)
  (h:AnyD P main R D fn md ops (fun a' w'=>GoesW P main R D Stop (G (b.at a' k) cs) w') (fun _ _=>False) (fun _ _ _=>False) S fuel (lst.setIfInBounds i true) (a.put oi.dst v) w)
  (hy:∀w,S w→(execOp a.eval oi).run P w=.ok (.value v) w∧D w w (listed P fn a oi w))
  (hs:Region.noSelect ops=true:=by first|kernel_rfl|decide +kernel) (hdn:downB md ops lst=true:=by first|kernel_rfl|decide +kernel) (hf:Region.free md ops lst i=true:=by first|kernel_rfl|decide +kernel) (hr:(Region.ready md ops lst).contains i=true:=by first|kernel_rfl|decide +kernel) (hwt:Region.wanted oi (yielded ops a.tmps)=true:=by rfl):
  AnyD P main R D fn md ops (fun a' w'=>GoesW P main R D Stop (G (b.at a' k) cs) w') (fun _ _=>False) (fun _ _ _=>False) S (fuel+1) lst a w:=
 anyD_take (Q:=fun a' w'=>GoesW P main R D Stop (G (b.at a' k) cs) w') (Die:=fun _ _=>False) (Tail:=fun _ _ _=>False) T (fun _ _ _ _ h _=>h.elim) hSR (fun _ _ _ h r=>GoesW.rely T.trans h r) hi hs hdn hf hr (.inl ⟨hwt,hy⟩) hS h
end
def KnL (L:Lot) (w0:World) (rows ls:List Row) (w:World):Prop:=Kn L w0 (rows++ls) w
section
variable {L:Lot} {w0 w w':World} {rows ls:List Row} {i k ic g j:Nat} {r:Row} {num:Int} {net code:Value} {z:Nat→Int}
theorem Kn.lay (h:Kn L w0 rows w):KnL L w0 rows [] w:=by unfold KnL;rw [List.append_nil];exact h
theorem KnL.drop (h:KnL L w0 rows ls w):Kn L w0 rows w:=Kn.drop h
theorem KnL.rely (h:KnL L w0 rows ls w) (hr:L.R1 w w'):KnL L w0 rows ls w':=Kn.rely h hr
theorem KnL.cell (h:KnL L w0 rows ls w) (hi:rows[i]?=some r) (hj:j<r.m):w.cell? ⟨r.g,j,none⟩=some (r.f j):=Kn.cell h (rows_app_get hi) hj
theorem KnL.cellZ (h:KnL L w0 rows ls w) (hi:rows[ic]?=some (cellRow g num net code z)) (h3:3≤j) (hj:j<48):w.cell? ⟨g,j,none⟩=some (.int .i64 (z j)):=Kn.cellZ h (rows_app_get hi) h3 hj
theorem KnL.frozen (h:KnL L w0 rows ls w) (hi:rows[i]?=some r) (j:Nat):w.frozen? ⟨r.g,j,none⟩=false:=Kn.frozen h (rows_app_get hi) j
theorem KnL.looks (h:KnL L w0 rows ls w) (hi:rows[i]?=some r) {es:Array Event} (hes:∀e∈es,∃j,e=⟨.cell ⟨r.g,j,none⟩,false,false⟩):L.D1 w w es:=Kn.looks h (rows_app_get hi) hes
theorem KnL.does (h:KnL L w0 rows ls w) (hi:rows[i]?=some r) (j:Nat) (v:Value) {es:Array Event} (hes:∀e∈es,e=⟨.cell ⟨r.g,j,none⟩,true,false⟩):L.D1 w (w.setCell ⟨r.g,j,none⟩ v) es:=Kn.does h (rows_app_get hi) j v hes
theorem set_app (hi:rows[i]?=some r) (r':Row):(rows++ls).set i r'=rows.set i r'++ls:=List.set_append_left i r' (List.getElem?_eq_some_iff.1 hi).1
theorem KnL.setZ (h:KnL L w0 rows ls w) (hi:rows[ic]?=some (cellRow g num net code z)) (h3:3≤j) (v:Int):KnL L w0 (rows.set ic (cellRow g num net code (zset z j v))) ls (w.setCell ⟨g,j,none⟩ (.int .i64 v)):=by
 have:=Kn.setZ h (rows_app_get hi) h3 v;rw [set_app hi] at this;exact this
theorem loc_get (hk:ls[k]?=some r):(rows++ls)[rows.length+k]?=some r:=by
 rw [List.getElem?_append_right (by omega),Nat.add_sub_cancel_left];exact hk
theorem KnL.lcell (h:KnL L w0 rows ls w) (hk:ls[k]?=some r) (hj:j<r.m):w.cell? ⟨r.g,j,none⟩=some (r.f j):=Kn.cell h (loc_get hk) hj
theorem KnL.lfrozen (h:KnL L w0 rows ls w) (hk:ls[k]?=some r) (j:Nat):w.frozen? ⟨r.g,j,none⟩=false:=Kn.frozen h (loc_get hk) j
theorem KnL.llooks (h:KnL L w0 rows ls w) (hk:ls[k]?=some r) {es:Array Event} (hes:∀e∈es,∃j,e=⟨.cell ⟨r.g,j,none⟩,false,false⟩):L.D1 w w es:=Kn.looks h (loc_get hk) hes
theorem KnL.ldoes (h:KnL L w0 rows ls w) (hk:ls[k]?=some r) (j:Nat) (v:Value) {es:Array Event} (hes:∀e∈es,e=⟨.cell ⟨r.g,j,none⟩,true,false⟩):L.D1 w (w.setCell ⟨r.g,j,none⟩ v) es:=Kn.does h (loc_get hk) j v hes
theorem KnL.lset (h:KnL L w0 rows ls w) (hk:ls[k]?=some r) (j:Nat) (v:Value):KnL L w0 rows (ls.set k (r.put j v)) (w.setCell ⟨r.g,j,none⟩ v):=by
 have:=Kn.set h (loc_get hk) j v;rw [List.set_append_right _ _ (by omega),Nat.add_sub_cancel_left] at this;exact this
theorem KnL.alloc (h:KnL L w0 rows ls w) (cs:Array Value) (t:Nat) (f:Nat→Value) (ht:(t==L.ev)=false) (hf:∀j,j<cs.size→cs[j]?=some (f j)):KnL L w0 rows (ls++[⟨w.heap.size,cs.size,t,f⟩]) (w.alloc (.cells cs t)):=by
 have:=Kn.alloc h cs t f ht hf;rw [List.append_assoc] at this;exact this
theorem KnL.doesAlloc (h:KnL L w0 rows ls w) (o:Obj) {es:Array Event} (hes:∀e∈es,False):L.D1 w (w.alloc o) es:=Kn.doesAlloc h o hes
theorem KnL.stillCell (h:KnL L w0 rows ls w) {a:Addr} (hs:Still L w0 a.block):w.cell? a=w0.cell? a:=Kn.stillCell h hs
theorem KnL.stillLooks (h:KnL L w0 rows ls w) {b:Nat} (hs:Still L w0 b) {es:Array Event} (hes:∀e∈es,∃j,e=⟨.cell ⟨b,j,none⟩,false,false⟩):L.D1 w w es:=Kn.stillLooks h hs hes
theorem KnL.less {ex:List Row} (h:KnL L w0 rows (ls++ex) w):KnL L w0 rows ls w:=by
 unfold KnL at *;rw [←List.append_assoc] at h;exact h.drop
theorem rows_set_self (hi:rows[i]?=some r):rows.set i r=rows:=by
 apply List.ext_getElem?;intro n;by_cases h:n=i
 ·subst h;rw [rows_set_get hi,hi]
 ·rw [rows_set_ne h]
theorem Kn.start (h:Kn L w0 rows w) (hi:rows[i]?=some r):KnL L w0 (rows.set i r) [] w:=by
 rw [rows_set_self hi];exact h.lay
theorem at2 {q:Row} (hi:rows[i]?=some q) (r:Row):(rows.set i r++ls)[i]?=some r:=rows_app_get (rows_set_get hi r)
theorem KnL.back {q r':Row} (hi:rows[i]?=some q) (h:Kn L w0 ((rows.set i r++ls).set i r') w):KnL L w0 (rows.set i r') ls w:=by
 rw [set_app (rows_set_get hi r),List.set_set] at h;exact h
theorem KnL.cz {q:Row} (hi:rows[ic]?=some q) (h:KnL L w0 (rows.set ic (cellRow g num net code z)) ls w) (h3:3≤j) (hj:j<48):w.cell? ⟨g,j,none⟩=some (.int .i64 (z j)):=h.cellZ (rows_set_get hi _) h3 hj
theorem KnL.cfz {q:Row} (hi:rows[ic]?=some q) (h:KnL L w0 (rows.set ic (cellRow g num net code z)) ls w) (j:Nat):w.frozen? ⟨g,j,none⟩=false:=h.frozen (rows_set_get hi _) j
theorem KnL.clooks {q:Row} (hi:rows[ic]?=some q) (h:KnL L w0 (rows.set ic (cellRow g num net code z)) ls w) {es:Array Event} (hes:∀e∈es,∃j,e=⟨.cell ⟨g,j,none⟩,false,false⟩):L.D1 w w es:=h.looks (rows_set_get hi _) hes
theorem KnL.cdoes {q:Row} (hi:rows[ic]?=some q) (h:KnL L w0 (rows.set ic (cellRow g num net code z)) ls w) (j:Nat) (v:Value) {es:Array Event} (hes:∀e∈es,e=⟨.cell ⟨g,j,none⟩,true,false⟩):L.D1 w (w.setCell ⟨g,j,none⟩ v) es:=h.does (rows_set_get hi _) j v hes
theorem KnL.cset {q:Row} (hi:rows[ic]?=some q) (h:KnL L w0 (rows.set ic (cellRow g num net code z)) ls w) (h3:3≤j) (v:Int):KnL L w0 (rows.set ic (cellRow g num net code (zset z j v))) ls (w.setCell ⟨g,j,none⟩ (.int .i64 v)):=by
 have:=h.setZ (rows_set_get hi _) h3 v;rw [List.set_set] at this;exact this
def ins4 (a b c d:Int) (j:Nat):Value:=.int .i64 (if j=0 then a else if j=1 then b else if j=2 then c else d)
abbrev insRow (g:Nat) (a b c d:Int):Row:=⟨g,4,73,ins4 a b c d⟩
theorem KnL.lins (h:KnL L w0 rows ls w) {a b c d:Int} (hk:ls[k]?=some (insRow g a b c d)):w.cell? ⟨g,0,none⟩=some (.int .i64 a)∧w.cell? ⟨g,1,none⟩=some (.int .i64 b)∧w.cell? ⟨g,2,none⟩=some (.int .i64 c)∧w.cell? ⟨g,3,none⟩=some (.int .i64 d):=
 ⟨h.lcell hk (j:=0) (show 0<4 by omega),h.lcell hk (j:=1) (show 1<4 by omega),h.lcell hk (j:=2) (show 2<4 by omega),h.lcell hk (j:=3) (show 3<4 by omega)⟩
theorem KnL.linsFz (h:KnL L w0 rows ls w) {a b c d:Int} (hk:ls[k]?=some (insRow g a b c d)):w.frozen? ⟨g,0,none⟩=false∧w.frozen? ⟨g,1,none⟩=false∧w.frozen? ⟨g,2,none⟩=false∧w.frozen? ⟨g,3,none⟩=false:=
 ⟨h.lfrozen hk 0,h.lfrozen hk 1,h.lfrozen hk 2,h.lfrozen hk 3⟩
theorem KnL.newIns (h:KnL L w0 rows ls w) (ht:((73:Nat)==L.ev)=false) (a b c d:Int):KnL L w0 rows (ls++[insRow w.heap.size a b c d]) (w.alloc (.cells #[.int .i64 a,.int .i64 b,.int .i64 c,.int .i64 d] 73)):=
 h.alloc #[.int .i64 a,.int .i64 b,.int .i64 c,.int .i64 d] 73 (ins4 a b c d) ht fun j hj=>by
  have:j=0∨j=1∨j=2∨j=3:=by simp at hj;omega
  rcases this with rfl|rfl|rfl|rfl<;>rfl
theorem KnL.lcongr (h:KnL L w0 rows (ls.set k r) w) {r' q:Row} (hk:ls[k]?=some q) (hg:r'.g=r.g) (hm:r'.m=r.m) (ht:r'.t=r.t) (hf:∀j,j<r.m→r.f j=r'.f j):KnL L w0 rows (ls.set k r') w:=by
 have e:∀x:Row,rows++ls.set k x=(rows++ls).set (rows.length+k) x:=fun x=>by rw [List.set_append_right _ _ (by omega),Nat.add_sub_cancel_left]
 unfold KnL at *;rw [e] at h ⊢;exact h.congr (loc_get hk) hg hm ht hf
theorem KnL.lsetIns (h:KnL L w0 rows ls w) {a b c d a' b' c' d':Int} (hk:ls[k]?=some (insRow g a b c d)):
  KnL L w0 rows (ls.set k (insRow g a' b' c' d')) ((((w.setCell ⟨g,0,none⟩ (.int .i64 a')).setCell ⟨g,1,none⟩ (.int .i64 b')).setCell ⟨g,2,none⟩ (.int .i64 c')).setCell ⟨g,3,none⟩ (.int .i64 d')):=by
 have hl:=(List.getElem?_eq_some_iff.1 hk).1;have s0:=h.lset hk 0 (.int .i64 a');have s1:=s0.lset (rows_set_get hk _) 1 (.int .i64 b');have s2:=s1.lset (rows_set_get (rows_set_get hk _) _) 2 (.int .i64 c');have s3:=s2.lset (rows_set_get (rows_set_get (rows_set_get hk _) _) _) 3 (.int .i64 d');simp only [List.set_set] at s3;refine s3.lcongr hk rfl rfl rfl fun j hj=>?_;have:j=0∨j=1∨j=2∨j=3:=by have:j<4:=hj;omega
 rcases this with rfl|rfl|rfl|rfl<;>rfl
theorem KnL.ldoesIns (h:KnL L w0 rows ls w) {a b c d:Int} (a' b' c' d':Int) (hk:ls[k]?=some (insRow g a b c d)) {es:Array Event} (hes:∀e∈es,∃j wr,e=⟨.cell ⟨g,j,none⟩,wr,false⟩):
  L.D1 w ((((w.setCell ⟨g,0,none⟩ (.int .i64 a')).setCell ⟨g,1,none⟩ (.int .i64 b')).setCell ⟨g,2,none⟩ (.int .i64 c')).setCell ⟨g,3,none⟩ (.int .i64 d')) es:=by
 have s0:=h.lset hk 0 (.int .i64 a');have k0:=rows_set_get hk ((insRow g a b c d).put 0 (.int .i64 a'));have s1:=s0.lset k0 1 (.int .i64 b');have k1:=rows_set_get k0 (((insRow g a b c d).put 0 (.int .i64 a')).put 1 (.int .i64 b'));have s2:=s1.lset k1 2 (.int .i64 c');have k2:=rows_set_get k1 ((((insRow g a b c d).put 0 (.int .i64 a')).put 1 (.int .i64 b')).put 2 (.int .i64 c'));refine Kn.doesAll h (loc_get hk) ?_ ?_ hes
 ·exact (((Kn.turnSet h (loc_get hk) 0 _).trans (Kn.turnSet s0 (loc_get k0) 1 _)).trans (Kn.turnSet s1 (loc_get k1) 2 _)).trans (Kn.turnSet s2 (loc_get k2) 3 _)
 ·exact (Kn.chanSet s2 (loc_get k2) 3 _).trans ((Kn.chanSet s1 (loc_get k1) 2 _).trans ((Kn.chanSet s0 (loc_get k0) 1 _).trans (Kn.chanSet h (loc_get hk) 0 _)))
end
section
variable {L:Lot} {w0:World} {rows:List Row} {ic g cb co n cc:Nat} {num:Int} {net:Value} {z ci:Nat→Int}
theorem fetch_x (hev:((73:Nat)==L.ev)=false) (hi:rows[ic]?=some (cellRow g num net (.slice (some ⟨cb,co,none⟩) n cc) z)) (hs:Still L w0 cb) (hcode:∀j,j<n*4→w0.cell? ⟨cb,co+j,none⟩=some (.int .i64 (ci j))) (nx:Nat) (hz:z 45=nx) (hlt:nx<n) (hn:n≤48) (w:World) (hF:Kn L w0 rows w):
  CallsX Try.prog false L.R1 L.D1 88 #[.pointer (some ⟨g,0,none⟩)] w (fun v w'=>v=.agg #[.int .i64 (ci (nx*4)),.int .i64 (ci (nx*4+1)),.int .i64 (ci (nx*4+2)),.int .i64 (ci (nx*4+3))]∧Kn L w0 (rows.set ic (cellRow g num net (.slice (some ⟨cb,co,none⟩) n cc) (zset z 45 (nx+1)))) w') (fun _ _=>False):=by
 replace hF:=hF.lay;have hk:(base 88).kind≠.early:=by simp [base]
 refine CallsX.intro L.terms1 #[.pointer (some ⟨g,0,none⟩),undef,undef,undef,undef,undef,undef,undef,undef,undef,undef,undef,undef,undef,undef,undef,undef,undef,undef,undef,undef,undef,undef,undef,undef,undef,undef,undef,undef,undef,undef,undef,undef,undef,undef,undef,undef] Try.func88 rfl (by kernel_rfl) fun cl cs Stop Ret _=>?_;repeat refine .c1 L.terms1 rfl ?_
 refine .regionL L.terms1 [0] (by rfl) ?_;refine .op rfl (by rfl) hk fun w1 hR K hK=>?_;replace hF:=hF.rely hR;clear hR;go_simp;try (unfold stored;go_simp)
 refine hK _ _ ⟨?_,?_⟩
 ·refine hF.doesAlloc _ ?_;(intro e he;have hm:=mem_listed he;simp [go_sem, *] at hm)
 clear hK K;replace hF:KnL L w0 rows [insRow w1.heap.size 0 0 0 0] _:=hF.newIns hev 0 0 0 0;generalize hN:w1.heap.size=N at *;generalize hW:(w1.alloc (.cells #[.int .i64 0,.int .i64 0,.int .i64 0,.int .i64 0] 73))=w2 at *;clear hW hN w1;try walk_nrm
 repeat refine .c1 L.terms1 rfl ?_
 refine GoesW.drawnN (S:=KnL L w0 rows [insRow N 0 0 0 0]) (Die:=fun _ _=>False) L.terms1 L.draws1 11 (by rfl) hk (by kernel_rfl) (fun _ _ _ h=>h) (fun _ _ _ h=>h.elim) fun w1 hR=>?_;replace hF:=(hF.rely hR).rely (Turn.drew _);clear hR;refine anyD_tk L.terms1 0 (fun _ _ h r=>KnL.rely h r) hF ?_;try walk_nrm
 refine anyD_tk L.terms1 1 (fun _ _ h r=>KnL.rely h r) hF ?_;try walk_nrm
 refine anyD_tk L.terms1 2 (fun _ _ h r=>KnL.rely h r) hF ?_;try walk_nrm
 refine anyD_tk L.terms1 3 (fun _ _ h r=>KnL.rely h r) hF ?_;try walk_nrm
 refine anyD_tl L.terms1 4 rfl (fun _ _ h r=>KnL.rely h r) hF ?_ fun _ hw=>⟨run_eq_of (by
  intro K hK;have hc:World.cell? _ ⟨g,45,none⟩=some (.int .i64 (z 45)):=hw.cellZ hi (by omega) (by omega);rw [hz] at hc;go_simp;exact hK),by
  have hc:World.cell? _ ⟨g,45,none⟩=some (.int .i64 (z 45)):=hw.cellZ hi (by omega) (by omega);rw [hz] at hc;refine hw.looks hi ?_;co_evs (exact ⟨_,rfl⟩)⟩
 try walk_nrm
 refine anyD_tk L.terms1 5 (fun _ _ h r=>KnL.rely h r) hF ?_;try walk_nrm
 refine anyD_tk L.terms1 6 (fun _ _ h r=>KnL.rely h r) hF ?_;try walk_nrm
 refine anyD_tk L.terms1 7 (fun _ _ h r=>KnL.rely h r) hF ?_;try walk_nrm
 refine anyD_tl L.terms1 8 rfl (fun _ _ h r=>KnL.rely h r) hF ?_ fun _ hw=>⟨run_eq_of (by
  intro K hK;have hc:World.cell? _ ⟨g,2,none⟩=some (.slice (some ⟨cb,co,none⟩) n cc):=hw.cell hi (show 2<48 by omega);go_simp;exact hK),by
  have hc:World.cell? _ ⟨g,2,none⟩=some (.slice (some ⟨cb,co,none⟩) n cc):=hw.cell hi (show 2<48 by omega);refine hw.looks hi ?_;co_evs (exact ⟨_,rfl⟩)⟩
 try walk_nrm
 refine anyD_tk L.terms1 9 (fun _ _ h r=>KnL.rely h r) hF ?_;try walk_nrm
 refine anyD_tk L.terms1 10 (fun _ _ h r=>KnL.rely h r) hF ?_;try walk_nrm
 refine anyD_done (by first|kernel_rfl|decide +kernel) ?_ _;have hne:((nx:Int)==(n:Int))=false:=by simp;omega
 repeat refine .c1 L.terms1 rfl ?_
 refine GoesW.condF L.terms1 (by simp [Act.eval,hne]) ?_;repeat refine .c1 L.terms1 rfl ?_
 refine GoesW.drawnN (S:=KnL L w0 rows [insRow N 0 0 0 0]) (Die:=fun _ _=>False) L.terms1 L.draws1 13 (by rfl) hk (by kernel_rfl) (fun _ _ _ h=>h) (fun _ _ _ h=>h.elim) fun w1 hR=>?_;replace hF:=(hF.rely hR).rely (Turn.drew _);clear hR;refine anyD_tk L.terms1 0 (fun _ _ h r=>KnL.rely h r) hF ?_;try walk_nrm
 refine anyD_tk L.terms1 1 (fun _ _ h r=>KnL.rely h r) hF ?_;try walk_nrm
 refine anyD_tk L.terms1 2 (fun _ _ h r=>KnL.rely h r) hF ?_;try walk_nrm
 refine anyD_tl L.terms1 3 rfl (fun _ _ h r=>KnL.rely h r) hF ?_ fun _ hw=>⟨run_eq_of (by
  intro K hK;have hc:World.cell? _ ⟨g,2,none⟩=some (.slice (some ⟨cb,co,none⟩) n cc):=hw.cell hi (show 2<48 by omega);go_simp;exact hK),by
  have hc:World.cell? _ ⟨g,2,none⟩=some (.slice (some ⟨cb,co,none⟩) n cc):=hw.cell hi (show 2<48 by omega);refine hw.looks hi ?_;co_evs (exact ⟨_,rfl⟩)⟩
 try walk_nrm
 refine anyD_tk L.terms1 4 (fun _ _ h r=>KnL.rely h r) hF ?_;try walk_nrm
 refine anyD_tk L.terms1 5 (fun _ _ h r=>KnL.rely h r) hF ?_;try walk_nrm
 refine anyD_tk L.terms1 6 (fun _ _ h r=>KnL.rely h r) hF ?_;try walk_nrm
 refine anyD_tk L.terms1 7 (fun _ _ h r=>KnL.rely h r) hF ?_;try walk_nrm
 refine anyD_tl L.terms1 8 rfl (fun _ _ h r=>KnL.rely h r) hF ?_ fun _ hw=>⟨run_eq_of (by
  intro K hK;have hc:World.cell? _ ⟨g,45,none⟩=some (.int .i64 (z 45)):=hw.cellZ hi (by omega) (by omega);rw [hz] at hc;go_simp;exact hK),by
  have hc:World.cell? _ ⟨g,45,none⟩=some (.int .i64 (z 45)):=hw.cellZ hi (by omega) (by omega);rw [hz] at hc;refine hw.looks hi ?_;co_evs (exact ⟨_,rfl⟩)⟩
 try walk_nrm
 refine anyD_tl L.terms1 9 rfl (fun _ _ h r=>KnL.rely h r) hF ?_ fun _ hw=>⟨run_eq_of (by
  intro K hK;go_simp;exact hK),by
  co_still L.terms1⟩
 try walk_nrm
 refine anyD_tl L.terms1 10 rfl (fun _ _ h r=>KnL.rely h r) hF ?_ fun _ hw=>⟨run_eq_of (by
  intro K hK;have d0:World.cell? _ ⟨cb,co+nx*4,none⟩=some (.int .i64 (ci (nx*4))):=(hw.stillCell (a:=⟨cb,co+nx*4,none⟩) hs).trans (hcode (nx*4) (by omega));have d1:World.cell? _ ⟨cb,co+nx*4+1,none⟩=some (.int .i64 (ci (nx*4+1))):=(hw.stillCell (a:=⟨cb,co+nx*4+1,none⟩) hs).trans (hcode (nx*4+1) (by omega));have d2:World.cell? _ ⟨cb,co+nx*4+2,none⟩=some (.int .i64 (ci (nx*4+2))):=(hw.stillCell (a:=⟨cb,co+nx*4+2,none⟩) hs).trans (hcode (nx*4+2) (by omega));have d3:World.cell? _ ⟨cb,co+nx*4+3,none⟩=some (.int .i64 (ci (nx*4+3))):=(hw.stillCell (a:=⟨cb,co+nx*4+3,none⟩) hs).trans (hcode (nx*4+3) (by omega));go_simp;exact hK),by
  have d0:World.cell? _ ⟨cb,co+nx*4,none⟩=some (.int .i64 (ci (nx*4))):=(hw.stillCell (a:=⟨cb,co+nx*4,none⟩) hs).trans (hcode (nx*4) (by omega));have d1:World.cell? _ ⟨cb,co+nx*4+1,none⟩=some (.int .i64 (ci (nx*4+1))):=(hw.stillCell (a:=⟨cb,co+nx*4+1,none⟩) hs).trans (hcode (nx*4+1) (by omega));have d2:World.cell? _ ⟨cb,co+nx*4+2,none⟩=some (.int .i64 (ci (nx*4+2))):=(hw.stillCell (a:=⟨cb,co+nx*4+2,none⟩) hs).trans (hcode (nx*4+2) (by omega));have d3:World.cell? _ ⟨cb,co+nx*4+3,none⟩=some (.int .i64 (ci (nx*4+3))):=(hw.stillCell (a:=⟨cb,co+nx*4+3,none⟩) hs).trans (hcode (nx*4+3) (by omega));refine hw.stillLooks hs ?_;(intro e he;have hm:=mem_listed he;simp [go_sem, *] at hm;rcases hm with rfl|rfl|rfl|rfl<;>exact ⟨_,rfl⟩)⟩
 try walk_nrm
 refine anyD_op (i:=11) (by first|kernel_rfl|decide +kernel) rfl (by rfl) ?_;intro w1 hR K hK;replace hF:=hF.rely hR;clear hR;go_simp;try (unfold stored;go_simp)
 refine hK _ _ ⟨?_,?_,?_⟩
 ·refine hF.doesAlloc _ ?_;(intro e he;have hm:=mem_listed he;simp [go_sem, *] at hm)
 ·exact .inl (KnL.less (ex:=[_]) (hF.newIns hev 0 0 0 0))
 clear hK K;replace hF:KnL L w0 rows [insRow N 0 0 0 0,insRow w1.heap.size 0 0 0 0] _:=hF.newIns hev 0 0 0 0;generalize hM:w1.heap.size=M at *;generalize hW:(w1.alloc (.cells #[.int .i64 0,.int .i64 0,.int .i64 0,.int .i64 0] 73))=w3 at *;clear hW hM w1;try walk_nrm
 refine anyD_op (i:=12) (by first|kernel_rfl|decide +kernel) rfl (by rfl) ?_;intro w1 hR K hK;replace hF:=hF.rely hR;clear hR;obtain ⟨a0,a1,a2,a3⟩:=hF.lins (k:=1) rfl;obtain ⟨b0,b1,b2,b3⟩:=hF.linsFz (k:=1) rfl;go_simp;try (unfold stored;go_simp)
 refine hK _ _ ⟨?_,?_,?_⟩
 ·refine hF.ldoesIns (k:=1) _ _ _ _ rfl ?_;(intro e he;have hm:=mem_listed he;simp [go_sem, *] at hm;rcases hm with rfl|rfl|rfl|rfl<;>exact ⟨_,_,rfl⟩)
 ·exact .inr (lastOp_of rfl (by first|kernel_rfl|decide +kernel))
 clear hK K;clear a0 a1 a2 a3 b0 b1 b2 b3;replace hF:KnL L w0 rows [insRow N 0 0 0 0,insRow M (ci (nx*4)) (ci (nx*4+1)) (ci (nx*4+2)) (ci (nx*4+3))] _:=hF.lsetIns (k:=1) rfl;try walk_nrm
 refine anyD_done (by first|kernel_rfl|decide +kernel) ?_ _;repeat refine .c1 L.terms1 rfl ?_
 refine .regionL L.terms1 [0,1,2,3,4,5,6,7,8,9] (by rfl) ?_;iterate 4 (refine .opV L.terms1 rfl (by rfl) hk ?_;try walk_nrm)
 refine .op rfl (by rfl) hk fun w1 hR K hK=>?_;replace hF:=hF.rely hR;clear hR;have hc:World.cell? _ ⟨g,45,none⟩=some (.int .i64 (z 45)):=hF.cellZ hi (by omega) (by omega);rw [hz] at hc;go_simp;try (unfold stored;go_simp)
 refine hK _ _ ⟨?_,?_⟩
 ·refine hF.looks hi ?_;co_evs (exact ⟨_,rfl⟩)
 clear hK K;clear hc;try walk_nrm
 refine .op rfl (by rfl) hk fun w1 hR K hK=>?_;replace hF:=hF.rely hR;clear hR;have hwr:IntKind.i64.wrap ((nx:Int)+1)=nx+1:=by rw [IntKind.wrap_i64];omega
 go_simp;try (unfold stored;go_simp)
 refine hK _ _ ⟨?_,?_⟩
 ·co_quiet L.terms1
 clear hK K;clear hwr;try walk_nrm
 iterate 3 (refine .opV L.terms1 rfl (by rfl) hk ?_;try walk_nrm)
 refine .op rfl (by rfl) hk fun w1 hR K hK=>?_;replace hF:=hF.rely hR;clear hR;have hc:World.cell? _ ⟨g,45,none⟩=some (.int .i64 (z 45)):=hF.cellZ hi (by omega) (by omega);have hz2:World.frozen? _ ⟨g,45,none⟩=false:=hF.frozen hi 45;go_simp;try (unfold stored;go_simp)
 refine hK _ _ ⟨?_,?_⟩
 ·refine hF.does hi 45 _ ?_;co_evs (exact rfl)
 clear hK K;clear hc hz2;replace hF:=hF.setZ hi (j:=45) (by omega) ((nx:Int)+1);try walk_nrm
 repeat refine .c1 L.terms1 rfl ?_
 refine .regionL L.terms1 [0,1] (by rfl) ?_;refine .op rfl (by rfl) hk fun w1 hR K hK=>?_;replace hF:=hF.rely hR;clear hR;obtain ⟨a0,a1,a2,a3⟩:=hF.lins (k:=1) rfl;obtain ⟨b0,b1,b2,b3⟩:=hF.linsFz (k:=1) rfl;go_simp;try (unfold stored;go_simp)
 refine hK _ _ ⟨?_,?_⟩
 ·refine hF.llooks (k:=1) rfl ?_;(intro e he;have hm:=mem_listed he;simp [go_sem, *] at hm;rcases hm with rfl|rfl|rfl|rfl<;>exact ⟨_,rfl⟩)
 clear hK K;clear a0 a1 a2 a3 b0 b1 b2 b3;try walk_nrm
 refine .op rfl (by rfl) hk fun w1 hR K hK=>?_;replace hF:=hF.rely hR;clear hR;obtain ⟨a0,a1,a2,a3⟩:=hF.lins (k:=0) rfl;obtain ⟨b0,b1,b2,b3⟩:=hF.linsFz (k:=0) rfl;go_simp;try (unfold stored;go_simp)
 refine hK _ _ ⟨?_,?_⟩
 ·refine hF.ldoesIns (k:=0) _ _ _ _ rfl ?_;(intro e he;have hm:=mem_listed he;simp [go_sem, *] at hm;rcases hm with rfl|rfl|rfl|rfl<;>exact ⟨_,_,rfl⟩)
 clear hK K;clear a0 a1 a2 a3 b0 b1 b2 b3;replace hF:KnL L w0 _ [insRow N (ci (nx*4)) (ci (nx*4+1)) (ci (nx*4+2)) (ci (nx*4+3)),insRow M (ci (nx*4)) (ci (nx*4+1)) (ci (nx*4+2)) (ci (nx*4+3))] _:=hF.lsetIns (k:=0) rfl;try walk_nrm
 repeat refine .c1 L.terms1 rfl ?_
 refine GoesW.ret L.terms1 fun todo=>?_;refine Ret _ todo _ _ rfl (fun w1 hR=>?_) ⟨rfl,hF.drop⟩;replace hF:=hF.rely hR;obtain ⟨a0,a1,a2,a3⟩:=hF.lins (k:=0) rfl;constructor
 ·simp [results,asAddr,go_sem,a0,a1,a2,a3]
 ·refine hF.llooks (k:=0) rfl fun e he=>?_;have hm:=mem_seen he;simp [results,asAddr,go_sem,a0,a1,a2,a3] at hm;rcases hm with rfl|rfl|rfl|rfl<;>exact ⟨_,rfl⟩
theorem fetch_die (hev:((73:Nat)==L.ev)=false) {code:Value} (hi:rows[ic]?=some (cellRow g num net code z)) (p:Option Addr) (hcd:code=.slice p n cc) (hz:z 45=n) (w:World) (hF:Kn L w0 rows w):
  CallsX Try.prog false L.R1 L.D1 88 #[.pointer (some ⟨g,0,none⟩)] w (fun _ _=>False) (fun ch w'=>ch=[{v:=.iface 187 (.int .i64 3),recovered:=false}]∧Kn L w0 rows w'):=by
 subst hcd;replace hF:=hF.lay;have hk:(base 88).kind≠.early:=by simp [base]
 refine CallsX.intro L.terms1 #[.pointer (some ⟨g,0,none⟩),undef,undef,undef,undef,undef,undef,undef,undef,undef,undef,undef,undef,undef,undef,undef,undef,undef,undef,undef,undef,undef,undef,undef,undef,undef,undef,undef,undef,undef,undef,undef,undef,undef,undef,undef,undef] Try.func88 rfl (by kernel_rfl) fun cl cs Stop Ret Pan=>?_;repeat refine .c1 L.terms1 rfl ?_
 refine .regionL L.terms1 [0] (by rfl) ?_;refine .op rfl (by rfl) hk fun w1 hR K hK=>?_;replace hF:=hF.rely hR;clear hR;go_simp;try (unfold stored;go_simp)
 refine hK _ _ ⟨?_,?_⟩
 ·refine hF.doesAlloc _ ?_;(intro e he;have hm:=mem_listed he;simp [go_sem, *] at hm)
 clear hK K;replace hF:KnL L w0 rows [insRow w1.heap.size 0 0 0 0] _:=hF.newIns hev 0 0 0 0;generalize hN:w1.heap.size=N at *;generalize hW:(w1.alloc (.cells #[.int .i64 0,.int .i64 0,.int .i64 0,.int .i64 0] 73))=w2 at *;clear hW hN w1;try walk_nrm
 repeat refine .c1 L.terms1 rfl ?_
 refine GoesW.drawnN (S:=KnL L w0 rows [insRow N 0 0 0 0]) (Die:=fun _ _=>False) L.terms1 L.draws1 11 (by rfl) hk (by kernel_rfl) (fun _ _ _ h=>h) (fun _ _ _ h=>h.elim) fun w1 hR=>?_;replace hF:=(hF.rely hR).rely (Turn.drew _);clear hR;refine anyD_tk L.terms1 0 (fun _ _ h r=>KnL.rely h r) hF ?_;try walk_nrm
 refine anyD_tk L.terms1 1 (fun _ _ h r=>KnL.rely h r) hF ?_;try walk_nrm
 refine anyD_tk L.terms1 2 (fun _ _ h r=>KnL.rely h r) hF ?_;try walk_nrm
 refine anyD_tk L.terms1 3 (fun _ _ h r=>KnL.rely h r) hF ?_;try walk_nrm
 refine anyD_tl L.terms1 4 rfl (fun _ _ h r=>KnL.rely h r) hF ?_ fun _ hw=>⟨run_eq_of (by
  intro K hK;have hc:World.cell? _ ⟨g,45,none⟩=some (.int .i64 (z 45)):=hw.cellZ hi (by omega) (by omega);rw [hz] at hc;go_simp;exact hK),by
  have hc:World.cell? _ ⟨g,45,none⟩=some (.int .i64 (z 45)):=hw.cellZ hi (by omega) (by omega);rw [hz] at hc;refine hw.looks hi ?_;co_evs (exact ⟨_,rfl⟩)⟩
 try walk_nrm
 refine anyD_tk L.terms1 5 (fun _ _ h r=>KnL.rely h r) hF ?_;try walk_nrm
 refine anyD_tk L.terms1 6 (fun _ _ h r=>KnL.rely h r) hF ?_;try walk_nrm
 refine anyD_tk L.terms1 7 (fun _ _ h r=>KnL.rely h r) hF ?_;try walk_nrm
 refine anyD_tl L.terms1 8 rfl (fun _ _ h r=>KnL.rely h r) hF ?_ fun _ hw=>⟨run_eq_of (by
  intro K hK;have hc:World.cell? _ ⟨g,2,none⟩=some (.slice p n cc):=hw.cell hi (show 2<48 by omega);go_simp;exact hK),by
  have hc:World.cell? _ ⟨g,2,none⟩=some (.slice p n cc):=hw.cell hi (show 2<48 by omega);refine hw.looks hi ?_;co_evs (exact ⟨_,rfl⟩)⟩
 try walk_nrm
 refine anyD_tk L.terms1 9 (fun _ _ h r=>KnL.rely h r) hF ?_;try walk_nrm
 refine anyD_tk L.terms1 10 (fun _ _ h r=>KnL.rely h r) hF ?_;try walk_nrm
 refine anyD_done (by first|kernel_rfl|decide +kernel) ?_ _;repeat refine .c1 L.terms1 rfl ?_
 refine GoesW.condT L.terms1 (by first|rfl|simp [Act.eval]) ?_;repeat refine .c1 L.terms1 rfl ?_
 refine .regionL L.terms1 [0,1] (by rfl) ?_;refine .op rfl (by rfl) hk fun w1 hR K hK=>?_;replace hF:=hF.rely hR;clear hR;go_simp;try (unfold stored;go_simp)
 refine hK _ _ ⟨?_,?_⟩
 ·rw [listed_nil (by rfl)];exact Terms.idle L.terms1 _
 clear hK K;try walk_nrm
 refine GoesW.panic L.terms1 rfl (by rfl) hk (fun w=>?_) (fun w=>?_) fun fr h1 _ h3 h4=>Pan fr _ _ h1 h3 h4 ⟨rfl,hF.drop⟩
 ·rfl
 ·rfl
end
end Go.Proofs.Ytdoghgnifkgfdaa.Mute
