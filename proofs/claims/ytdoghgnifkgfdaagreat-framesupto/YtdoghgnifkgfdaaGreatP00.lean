import GoSem.Step
import Derived.Laws.Sem
import Derived.Conc.Own
import Derived.Conc.LoneCalls
import Derived.Conc.Beside
import Derived.RunT
import Derived.Conc.TokenTrace
import Derived.Conc.Token
import Derived.Conc.CrowdComm
import Derived.Conc.CompanyMem
import Derived.Conc.Own3
import Derived.Conc.Own4
import Derived.Conc.Own5
import Derived.Orders
import Derived.Conc.LeavingOf
import Derived.WalkKit
import Derived.WalkSpells
import Derived.WalkLawsBesides
import Derived.Deep.AppendLies
import Derived.Laws.CopyOwn
import Derived.BigQuiet
import Derived.Deep.QuietTactic
import Derived.WalkSmall
import Derived.Deep.RegionLaw
import Derived.Deep.RegionHeld3
import Derived.Maps.OwnSet
import Derived.Maps.Own
import Derived.Maps.OwnOps
import Derived.Maps.Views
import Derived.DeepKeys4
import Derived.Deep.RegionWith
import Derived.Deep.MidRow
import Derived.Laws.ResultCell
import Derived.Laws.Rows
import Derived.ProofKit
import Derived.SizedLaws
import Derived.Deep.Slices
import Derived.Lib.SmallJoins
import Derived.Conc.DeferLaws
import Derived.Conc.AppendEvents3
import Derived.Conc.PipeWords
import Derived.Conc.TokenWalk
import Derived.Conc.AppendWalk
import Derived.Conc.SmallLaws
import Derived.Conc.EventLaws2
import Derived.Lib.SliceRun
import Derived.Deep.Cut
import Derived.KernelRfl
import Derived.JoinedCond
import Derived.Test.YtdoghgnifkgfdaaGreatProg
namespace Go.Proofs.YtdoghgnifkgfdaaGreat
open Go Go.Conc Go.RowKit Tryz
section
variable {G H I J K L M N:Prop}
theorem E0(h:G:=by omega):G:=h
theorem I0(h:G:=by rfl):G:=h
theorem J0(h:G:=by kernel_rfl):G:=h
theorem P0(h:G:=by simp):G:=h
theorem T0(h:G:=by first|kernel_rfl|decide +kernel):G:=h
theorem U0(h:G:=by decide):G:=h
theorem A1(h:G:=by simp;omega):G:=h
theorem E1(h:G:=by simp[base]):G:=h
theorem J1(h:G:=by go_num):G:=h
theorem U1(h:G:=by simp[intOf];omega):G:=h
theorem Y1(h:G:=by simp only[maxLen];omega):G:=h
theorem D2(h:G:=by simp[Value.oneCell']):G:=h
theorem E2(h:G:=by simpa using hj):G:=h
theorem G2(h:G:=by first|rfl|simp[Act.eval]):G:=h
theorem J2(h:G:=by exact alloc_at rfl):G:=h
theorem U2(h:G:=by have e1:=congrArg Addr.block e;simp only at e1;omega):G:=h
theorem V2(h:G:=by rw[e];rfl):G:=h
theorem X2(h:G:=by show _<r.m;omega):G:=h
theorem Y2(h:G:=by simpa using h):G:=h
theorem Z2(h:G:=by simp at hj;omega):G:=h
theorem D3(h:G:=by rw[touchAt_of py];exact hxa):G:=h
theorem E3(h:G:=by rw[hf];exact x.2):G:=h
theorem G3(h:G:=by cases e):G:=h
theorem I3(h:G:=by rw[e];simp):G:=h
theorem J3(h:G:=by simp[Nj]):G:=h
theorem M3(h:G:=by rw[heq];simp only[stepG.exec,ht];simp[G]):G:=h
theorem U3(h:G:=by rw[zn];simp only[stepG.exec,rG];simp[G,Rq]):G:=h
theorem V3(h:G:=by cases h):G:=h
theorem W3(h:G:=by decide +kernel):G:=h
theorem X3(h:G:=by simp at h):G:=h
theorem Y3(h:G:=by rw[size_setCell];omega):G:=h
theorem Z3(h:G:=by exact alloc_at (size_setCell _ _ _)):G:=h
theorem j4(h:G:=by first|exact vj dj.out _ _|exact(vj dj.out _ _).drew|exact(vj dj.out _ _).drew.drew|exact(vj dj.out _ _).drew.drew.drew|exact(vj dj.out _ _).drew.drew.drew.drew):G:=h
theorem D4(h:G:=by rw[<-e];exact hb):G:=h
theorem F4(h:G:=by show _<K.sm;omega):G:=h
theorem G4(h:G:=by rcases ht with rfl|rfl|rfl<;>decide):G:=h
theorem I4(h:G:=by rw[Oi];rfl):G:=h
theorem J4(h:G:=by simp[Pj,hj]):G:=h
theorem K4(h:G:=by have:=h.1;omega):G:=h
theorem M4(h:G:=by rw[e];first|omega|simp):G:=h
theorem P4(h:G:=by first|exact rj|(simp only[List.append_assoc]at rj ⊢;exact rj)):G:=h
theorem S4(h:G:=by rw[if_pos rfl]):G:=h
theorem U4(h:G:=by simp at hk;omega):G:=h
theorem V4(h:G:=by simp[Value.ownBlock]):G:=h
theorem W4(h:G:=by simpa using Wi):G:=h
theorem X4(h:G:=by first|exact dj.out|exact dj.out.drew|exact dj.out.drew.drew|exact dj.out.drew.drew.drew|exact dj.out.drew.drew.drew.drew):G:=h
theorem Y4(h:G:=by rw[<-e];exact hg):G:=h
theorem Z4(h:G:=by show _<K.qm;omega):G:=h
theorem j5(h:G:=by rw[YB.out];omega):G:=h
theorem l5(h:G:=by simpa using HNE.out):G:=h
theorem y5(h:G:=by simpa using hn):G:=h
theorem A5(h:G:=by simp[Neutral]):G:=h
theorem B5(h:G:=by rw[<-hf];exact h0):G:=h
theorem D5(h:G:=by rw[<-x];exact hb):G:=h
theorem E5(h:G:=by rw[Ip];omega):G:=h
theorem F5(h:G:=by exact HS.out.below (HB.out _ _)):G:=h
theorem G5(h:G:=by rw[om];exact wm):G:=h
theorem H5(h:G:=by obtain⟨e,_,rfl⟩:=Go.Conc.mem_ofEvents hop;rfl):G:=h
theorem I5(h:G:=by simpa using h1):G:=h
theorem J5(h:G:=by simpa using g2):G:=h
theorem K5(h:G:=by exact HOW.out _):G:=h
theorem M5(h:G:=by first|rfl|simp):G:=h
theorem O5(h:G:=by have:=Option.some.inj e;omega):G:=h
theorem P5(h:G:=by rw[ho];omega):G:=h
theorem Q5(h:G:=by rw[Nq];omega):G:=h
theorem S5(h:G:=by have:=HZO.out;omega):G:=h
theorem U5(h:G:=by have:=B0.out;omega):G:=h
theorem V5(h:G:=by simpa[zj,OC.out,LJ.out]using gU):G:=h
theorem X5(h:G:=by rw[size_setCell];exact h.size):G:=h
theorem Y5(h:G:=by simp only[decide_eq_true_eq];omega):G:=h
theorem Z5(h:G:=by simp only[maxLen];have:=HBn.out;omega):G:=h
theorem d6(h:G:=by have:=HBn.out;omega):G:=h
theorem j6(h:G:=by simp[Value.ownBlock]at hj;omega):G:=h
theorem l6(h:G:=by first|exact Nat.le_refl _|(show w1.heap.size<=(w1.alloc _).heap.size;simp)):G:=h
theorem s6(h:G:=by simpa[Value.ownBlock]using hb):G:=h
theorem t6(h:G:=by simp only[List.take_succ_cons,List.take_zero]<;>rfl):G:=h
theorem A6(h:G:=by rw[hB];exact HA.out.drew):G:=h
theorem B6(h:G:=by have:=h2 y hy;omega):G:=h
theorem D6(h:G:=by first|rfl|(simp[Act.eval];omega)):G:=h
theorem E6(h:G:=by rw[size_setCell];exact Nat.le_trans h.but.size hs):G:=h
theorem F6(h:G:=by show w.heap.size<_;omega):G:=h
theorem I6(h:G:=by simpa using World.ownsRow_nil _ _ _ _):G:=h
theorem J6(h:G:=by have:=Yv.out.size;simp at this;omega):G:=h
theorem K6(h:G:=by simpa[gj,hop]using hp):G:=h
theorem L6(h:G:=by simpa[World.setCell]using h.hB):G:=h
theorem M6(h:G:=by simpa[World.setCell]using h.hc):G:=h
theorem N6(h:G:=by simp[Frame.raise,Frame.at]):G:=h
theorem O6(h:G:=by rw[heq];simp only[stepG.exec,ht,hx];simp[G]):G:=h
theorem P6(h:G:=by show Gc<(W.alloc _).heap.size;simp;omega):G:=h
theorem Q6(h:G:=by show b<(W.alloc _).heap.size;simp;omega):G:=h
theorem U6(h:G:=by rw[<-hB];exact HF.out.blk):G:=h
theorem X6(h:G:=by show (C N.toNat).wait.length<=_;omega):G:=h
theorem Y6(h:G:=by show (C N.toNat).sent.length<=_;omega):G:=h
theorem Z6(h:G:=by first|rfl|simp[Act.eval,FC]):G:=h
theorem i7(h:G:=by have:=HNE.out _ e.symm;omega):G:=h
theorem j7(h:G:=by simpa using fun q=>this ⟨h,q⟩):G:=h
theorem s7(h:G:=by show _=_;rw[size_setCell,size_setCell];exact HZ.out):G:=h
theorem t7(h:G:=by show _=_;rw[size_setCell,size_setCell,size_setCell];exact HZ.out):G:=h
theorem A7(h:G:=by exact(QJ.out.drew.alloc (by show wr.heap.size<=wp.heap.size;omega) _)):G:=h
theorem D7(h:G:=by simp only[bne_eq_false_iff_eq]at hx;subst hx;simp;rfl):G:=h
theorem F7(h:G:=by have:=EM.out _ _ (Nat.le_refl _) h;have:=HHH.out.2.1 hn;omega):G:=h
theorem G7(h:G:=by simp[Array.getD,Wi,(Array.getElem?_eq_some_iff.1 ho).2]):G:=h
theorem J7(h:G:=by rw[zn];simp only[stepG.exec,rG,hxs];simp[G,Rq]):G:=h
theorem K7(h:G:=by first|exact HT.out.BF HR.out.lt|(rw[<-HM.out];exact HT.out.BF HR.out.lt)):G:=h
theorem M7(h:G:=by show _<=(V1.setCell _ _).heap.size;rw[size_setCell];exact HV3.out.size):G:=h
theorem Q7(h:G:=by rw[HL.out.s46,<-HS1.out];first|rfl|(rw[w64])|(rw[<-w64])):G:=h
theorem U7(h:G:=by rw[Oi];show yi (Value.int .i64 (Ji z 47 Vz 47))=_;rw[jo]):G:=h
theorem X7(h:G:=by rw[Oi];rcases five hj with rfl|rfl|rfl|rfl|rfl<;>rfl):G:=h
theorem Z7(h:G:=by rw[List.mem_singleton.1 hu]at hb;exact HLm.out.lt b hb):G:=h
theorem a8(h:G:=by rw[upd_ne _ _ E0];exact hc.lost):G:=h
theorem j8(h:G:=by rw[upd_ne _ _ E0];exact a1):G:=h
theorem l8(h:G:=by rw[upd_ne _ _ E0];exact a2):G:=h
theorem t8(h:G:=by rw[Kr,if_pos E0,if_neg E0]):G:=h
theorem v8(h:G:=by rw[Yi E0];exact h.s):G:=h
theorem y8(h:G:=by rw[Yi E0];exact h.q):G:=h
theorem A8(h:G:=by exact own_below HO.out ((Ey.out.setCell (Nat.le_refl _) _).alloc Y3 _)):G:=h
theorem D8(h:G:=by rw[List.getElem?_append_right E0,hl,Nat.sub_self];rfl):G:=h
theorem E8(h:G:=by simp[go_sem,events_indexAt_array (P:=prog) 37 2 4 ⟨g,25,Ai⟩ .i64 (R:Int) underlying37 ⟨E0,E0⟩]):G:=h
theorem F8(h:G:=by simp[go_sem,events_indexAt_array (P:=prog) 37 2 4 ⟨g,25,Ai⟩ .i64 (A:Int) underlying37 ⟨E0,E0⟩]):G:=h
theorem G8(h:G:=by show Ji z 47 Vz i=_;rw[Qk _ _ E0];exact HL.out.old i (.inl bO)):G:=h
theorem H8(h:G:=by rw[List.mem_singleton.1 hu];exact Marked.jU HLm.out E0):G:=h
theorem I8(cH:H)(cI:I)(h:H->I->G:=by intro kH kI;go_simp;(try(unfold stored;go_simp));refine hK _ _ ⟨?_,?_⟩;exact kH;exact kI):G:=h cH cI
theorem J8(c:H)(h:H->G:=by intro k_;(repeat refine .c1 L.Bi rfl ?_);exact k_):G:=h c
theorem K8(c:H)(h:H->G:=by intro k_;refine .op rfl I0 hk fun w1 hR K hK=>?_;replace hF:=hF.rely hR;clear hR;revert w1 K hK hF;exact k_):G:=h c
theorem L8(c:H)(h:H->G:=by intro k_;refine .Gi L.Bi [0,1] I0 ?_;(iterate 2 (refine .pj L.Bi rfl I0 hk ?_;try walk_nrm));exact k_):G:=h c
theorem M8(c:H)(h:H->G:=by intro k_;refine .pj L.Bi rfl I0 hk ?_;(try walk_nrm);exact k_):G:=h c
theorem N8(c:H)(h:H->G:=by intro k_;refine .op rfl I0 hk fun w1 hR K_ hK=>?_;replace hF:=hF.rely hR;clear hR;revert w1 K_ hK hF;exact k_):G:=h c
theorem O8(c:H)(h:H->G:=by intro k_;have HB:Hid (∀o o',Below w.heap.size w ((w.alloc o).alloc o')):=fun o o'=>((Below.refl _ _).alloc (Nat.le_refl _) _).alloc P0 _;revert HB;exact k_):G:=h c
theorem P8(c:H)(h:H->G:=by intro k_;(iterate 3 (refine .pj L.Bi rfl I0 hk ?_;try walk_nrm));exact k_):G:=h c
theorem Q8(c:H)(h:H->G:=by intro k_;refine Ii L.Bi 0 (fun _ _ h r=>Si.rely h r) hF ?_;(try walk_nrm);refine Ii L.Bi 1 (fun _ _ h r=>Si.rely h r) hF ?_;(try walk_nrm);exact k_):G:=h c
theorem S8(c:H)(h:(Unit->H)->G:=by intro k_;have hc:World.cell? _ ⟨g,25+R,Ai⟩=yi (.int .i64 ((Ji (Ji z 46 (IntKind.i64.wrap (z 46+1))) 45 ((nx:Int)+1)) (25+R))):=Si.cz hi hw E0 E0;revert hc;exact k_ ()):G:=h fun _=>c
theorem T8(c:H)(h:(Unit->H)->G:=by intro k_;have hc:World.cell? _ ⟨g,25+A,Ai⟩=yi (.int .i64 ((Ji (Ji z 46 (IntKind.i64.wrap (z 46+1))) 45 ((nx:Int)+1)) (25+A))):=Si.cz hi hw E0 E0;revert hc;exact k_ ()):G:=h fun _=>c
theorem U8(c:H)(h:H->G:=by intro k_;have HA:Hid (∀o,Below w.heap.size w (w.alloc o)):=fun o=>(Below.refl _ _).alloc (Nat.le_refl _) _;revert HA;exact k_):G:=h c
theorem V8(c:H)(h:H->G:=by intro k_;(repeat refine .c1 Di rfl ?_);exact k_):G:=h c
theorem W8(h:G:=by co_evs (exact⟨_,rfl⟩)):G:=h
theorem X8(c:H)(h:H->G:=by intro k_;refine .pj Di rfl I0 hk ?_;(try walk_nrm);exact k_):G:=h c
theorem Y8(c:H)(h:H->G:=by intro k_;(iterate 2 (refine .pj L.Bi rfl I0 hk ?_;try walk_nrm));exact k_):G:=h c
theorem Z8(h:G:=by refine Ci.ret L.Bi fun todo=>?_;exact jm _ todo _ _ rfl (Ej L.Bi I0 _) ⟨I0,hF.drop⟩):G:=h
theorem b9(h:G:=by rintro e V ⟨rfl,rfl⟩;go_wp2_with fail;have uJ:∀(V:ui)(v:ti),(V.setCell ⟨Gc,n*26+r,Ai⟩ v).cell? ⟨B,1,Ai⟩=V.cell? ⟨B,1,Ai⟩:=fun V v=>World.cell?_setCell_other _ _ _ _ (fun e=>U2);go_region_held3 (fun W=>W.cell? ⟨B,1,Ai⟩=yi (.int .i64 r)) (go_keep) (fail);clear uJ;go_wp2_with fail;go_ret;(try rw[Zt.out,Ir.out]);exact⟨rfl,Ei.Rz (i:=r) Bm.out E0 rfl _,j4⟩):G:=h
theorem j9(h:G:=by (intro e he;have hm:=mem_listed he;simp[go_sem, *]at hm)):G:=h
theorem k9(c:H)(h:(Unit->H)->G:=by intro k_;have hc:World.cell? _ ⟨g,25+R,Ai⟩=yi (.int .i64 ((Ji (Ji z 46 (IntKind.i64.wrap (z 46+1))) 45 ((nx:Int)+1)) (25+R))):=Si.cz hi hF E0 E0;revert hc;exact k_ ()):G:=h fun _=>c
theorem l9(c:H)(h:H->G:=by intro k_;refine Ii L.Bi 0 (fun _ _ ⟨RS,z1,ao,h⟩ r=>⟨RS,z1,ao,Si.rely h r⟩) ⟨_,_,.inl rfl,hF⟩ ?_;(try walk_nrm);refine Ii L.Bi 1 (fun _ _ ⟨RS,z1,ao,h⟩ r=>⟨RS,z1,ao,Si.rely h r⟩) ⟨_,_,.inl rfl,hF⟩ ?_;(try walk_nrm);refine Ii L.Bi 2 (fun _ _ ⟨RS,z1,ao,h⟩ r=>⟨RS,z1,ao,Si.rely h r⟩) ⟨_,_,.inl rfl,hF⟩ ?_;(try walk_nrm);refine Ii L.Bi 3 (fun _ _ ⟨RS,z1,ao,h⟩ r=>⟨RS,z1,ao,Si.rely h r⟩) ⟨_,_,.inl rfl,hF⟩ ?_;(try walk_nrm);exact k_):G:=h c
theorem s9(c:H)(h:H->G:=by intro k_;refine .Gi L.Bi [0] I0 ?_;exact k_):G:=h c
theorem y9(c:H)(h:H->G:=by intro k_;(try walk_nrm);refine Ii L.Bi 4 (fun _ _ h r=>Si.rely h r) hF ?_;(try walk_nrm);exact k_):G:=h c
theorem D9(c:H)(h:H->G:=by intro k_;(try walk_nrm);refine Ii L.Bi 6 (fun _ _ h r=>Si.rely h r) hF ?_;(try walk_nrm);refine Ii L.Bi 7 (fun _ _ h r=>Si.rely h r) hF ?_;(try walk_nrm);exact k_):G:=h c
theorem E9(cH:H)(cI:I)(cJ:J)(h:H->I->J->G:=by intro kH kI kJ;go_simp;(try(unfold stored;go_simp));refine hK _ _ ⟨?_,?_,?_⟩;exact kH;exact kI;exact kJ):G:=h cH cI cJ
theorem F9(h:G:=by have HS:Hid (Sl w p (c.qj*3) (fun j=>.int .i64 (c.ch j))):=hs;have HN:Hid (24*c.qj<=140737488355328):=hb;clear hs hb;go_enter func69,ntmps69;go_wp2_with (go_at_call 87;refine(aB c _ _ _ p cap _ _ _ _ F5 HN.out).mono ?_;rintro e w' ⟨b,rfl,rA,Wj⟩);go_ret;exact sk.of rA ((HB.out _ _).trans (Wj.mono A1))):G:=h
theorem G9(c:H)(h:H->G:=by intro k_;unfold execOp;simp only[hop];exact k_):G:=h c
theorem H9(c:H)(h:(Unit->H)->G:=by intro k_;(try walk_nrm);refine Xj T0 ?_ _;exact k_ ()):G:=h fun _=>c
theorem I9(c:H)(h:(Unit->H)->G:=by intro k_;have hc:World.cell? _ ⟨g,1,Ai⟩=yi (.pointer (yi ⟨nb,0,Ai⟩)):=hw.cell (Qi (hgs RS ao) _) (j:=1) (show 1<48 by omega);revert hc;exact k_ ()):G:=h fun _=>c
theorem J9(h:G:=by rintro e w2 ⟨rfl,qE,us,S,r1,r2,r3⟩;have R1:Hid (us.length=4):=r1;have R2:Hid (wl.heap.size<=S):=r2;have R3:Hid _:=r3;clear r1 r2 r3;go_wp2_with fail;go_ret;exact⟨rfl,qE,us,S,w0.heap.size,R1.out,Nat.le_of_lt Hw,Nat.le_trans CQ.out R2.out,R3.out.back Ey.out⟩):G:=h
theorem K9(c:H)(h:(Unit->H)->G:=by intro k_;have lK:K<w.heap.size:=block_lt_of_cell h2;have vN:Kb<w.heap.size:=block_lt_of_cell h4;have nK:K≠w.heap.size:=E0;have nKb:Kb≠w.heap.size:=E0;revert lK vN nK nKb;exact k_ ()):G:=h fun _=>c
theorem L9(h:G:=by exact Lj plain (Vi plain func7 J0 _) J0 _):G:=h
theorem M9(c:H)(h:(Unit->H)->G:=by intro k_;have d0:World.cell? _ ⟨cb,co+nx*4,Ai⟩=yi (.int .i64 (ci (nx*4))):=(hw.nj (a:=⟨cb,co+nx*4,Ai⟩) hs).trans (Gj (nx*4) E0);have d1:World.cell? _ ⟨cb,co+nx*4+1,Ai⟩=yi (.int .i64 (ci (nx*4+1))):=(hw.nj (a:=⟨cb,co+nx*4+1,Ai⟩) hs).trans (Gj (nx*4+1) E0);have d2:World.cell? _ ⟨cb,co+nx*4+2,Ai⟩=yi (.int .i64 (ci (nx*4+2))):=(hw.nj (a:=⟨cb,co+nx*4+2,Ai⟩) hs).trans (Gj (nx*4+2) E0);have d3:World.cell? _ ⟨cb,co+nx*4+3,Ai⟩=yi (.int .i64 (ci (nx*4+3))):=(hw.nj (a:=⟨cb,co+nx*4+3,Ai⟩) hs).trans (Gj (nx*4+3) E0);revert d0 d1 d2 d3;exact k_ ()):G:=h fun _=>c
theorem N9(c:H)(h:H->G:=by intro k_;refine .Gi L.Bi [0,1,2,3,4,5] I0 ?_;exact k_):G:=h c
theorem O9(c:H)(h:(Unit->H)->G:=by intro k_;(try walk_nrm);refine Ii L.Bi 10 (fun _ _ ⟨RS,z1,ao,h⟩ r=>⟨RS,z1,ao,Si.rely h r⟩) ⟨_,_,.inr rfl,hF⟩ ?_;(try walk_nrm);refine Ii L.Bi 11 (fun _ _ ⟨RS,z1,ao,h⟩ r=>⟨RS,z1,ao,Si.rely h r⟩) ⟨_,_,.inr rfl,hF⟩ ?_;(try walk_nrm);refine Ii L.Bi 12 (fun _ _ ⟨RS,z1,ao,h⟩ r=>⟨RS,z1,ao,Si.rely h r⟩) ⟨_,_,.inr rfl,hF⟩ ?_;(try walk_nrm);refine Ii L.Bi 13 (fun _ _ ⟨RS,z1,ao,h⟩ r=>⟨RS,z1,ao,Si.rely h r⟩) ⟨_,_,.inr rfl,hF⟩ ?_;(try walk_nrm);refine Zm (i:=14) T0 rfl I0 ?_;exact k_ ()):G:=h fun _=>c
theorem P9(c:H)(h:H->G:=by intro k_;(iterate 4 (refine .pj L.Bi rfl I0 hk ?_;try walk_nrm));exact k_):G:=h c
theorem Q9(c:H)(h:H->G:=by intro k_;refine .Gi L.Bi [0,1,2] I0 ?_;exact k_):G:=h c
theorem R9(c:H)(h:H->G:=by intro k_;(iterate 3 (refine .pj Di rfl I0 hk ?_;try walk_nrm));exact k_):G:=h c
theorem S9(c:H)(h:H->G:=by intro k_;refine Ii L.Bi 2 (fun _ _ h r=>Si.rely h r) hF ?_;(try walk_nrm);exact k_):G:=h c
theorem T9(c:H)(h:H->G:=by intro k_;refine Ci.zk L.Bi I0 ?_;exact k_):G:=h c
theorem U9(h:G:=by rintro e w' ⟨rfl,hgr,MS⟩;have y0:=Gl (hgr.cell x0 (fun e=>by have:=Option.some.inj e;simp only at this;omega));have y1:=Gl (HKb.out.of_heap (hgr.block _ HKb.out.lt (fun e=>O5)));have HB':=Gl (HB.out.grown hgr HB.out.size (fun j hj=>Z2));have HR':=Gl (MS.congr fun j _=>yK c k (H16.out k Wi) j);have y2:=Gl (HL.out.of_heap (hgr.block _ HL.out.lt (fun e=>O5)));go_wp2_with fail;exact⟨⟨k+1,E0,J1,HB',y0,y1,HR',y2⟩,U1⟩):G:=h
theorem V9(c:H)(h:H->G:=by intro k_;refine hF.vk (k:=0) rfl ?_;exact k_):G:=h c
theorem W9(c:H)(h:H->G:=by intro k_;(try walk_nrm);exact k_):G:=h c
theorem X9(c:H)(h:H->G:=by intro k_;(iterate 2 (refine .pj Di rfl I0 hk ?_;try walk_nrm));exact k_):G:=h c
theorem Y9(c:H)(h:H->G:=by intro k_;(try rw[Zt.out]);(try rw[Ir.out]);exact k_):G:=h c
theorem Z9(c:H)(h:H->G:=by intro k_;have d2:=(Gu.out.cell (p:=⟨K,2,Ai⟩) lK).trans h2;have d4:=(Gu.out.cell (p:=⟨Kb,4,Ai⟩) vN).trans h4;revert d2 d4;exact k_):G:=h c
theorem da(c:H)(h:(Unit->H)->G:=by intro k_;have oL:w.heap.size<=nb+1:=Nat.le_succ_of_le (Nat.le_trans LY.out.size (Nat.le_trans l6 XS));have qI:Hid (w.heap.size<=nb/\∃ve vq vs,Ei wl nb 3 149 (cells3 ve vq vs)/\(∃p cap,ve=.slice p c.qj cap)/\(∃p cap,vq=.slice p c.qj cap)/\(∃p cap,vs=.slice p c.qj cap)/\rZ w.heap.size c ve vq vs wl):=⟨Nat.le_trans LY.out.size (Nat.le_trans l6 XS),ve,vq,vs,hr3,Nw oI,Nw YQ,Nw B_,dq oI oL,dq YQ oL,dq B_ oL⟩;revert oL qI;exact k_ ()):G:=h fun _=>c
theorem ga(c:H)(h:H->G:=by intro k_;refine .Gi L.Bi [0,1,2,3,4,5,6] I0 ?_;exact k_):G:=h c
theorem ia(h:G:=by rintro v w₁ τ d d' ⟨h1,τ',d'',h2⟩;refine⟨h1,d',?_⟩;have e:Rj w₁ w.tape d'=Rj (Rj w₁ τ d) w.tape d':=rfl;rw[e,h2];rfl):G:=h
theorem ja(c:H)(h:(Unit->H)->G:=by intro k_;have uJ:∀(V:ui)(v:ti),(V.setCell ⟨Gc,n*26+r,Ai⟩ v).cell? ⟨B,1,Ai⟩=V.cell? ⟨B,1,Ai⟩:=fun V v=>World.cell?_setCell_other _ _ _ _ (fun e=>U2);revert uJ;exact k_ ()):G:=h fun _=>c
theorem oa(h:G:=by intro K hK;skip;go_simp;exact hK):G:=h
theorem qa(h:G:=by refine Ci.fin L.Bi ?_;exact jm _ [] _ _ rfl (Dj L.Bi I0 _) ⟨rfl,hF.drop⟩):G:=h
theorem ua(h:G:=by go_enter func133,ntmps133;go_wp2_with (at_lookup;refine wpList_lookup_own_ok_int _ rfl _ _ 204 rfl 231 3 .i64 Qx underlying204 underlying3 (wG _) b m D rfl ((HO.out.alloc _).alloc _) _ kl rfl HK.out ?_;intro v hat tX;have HV:=HY.out v hat;clear hat tX;have HV':Hid _:=HV;clear HV);go_ret;exact sk.of (b:=(v==cell)) HV'.out (HB.out _ _)):G:=h
theorem ya(h:G:=by subst Yq;rw[Array.getElem?_setIfInBounds_self_of_lt W4]at hx;obtain rfl:=Option.some.inj hx;rw[upd_same,Deaf_own];exact CV):G:=h
theorem za(c:H)(h:H->G:=by intro k_;obtain⟨a0,a1,a2,a3⟩:=hw.Yn (k:=0) rfl;refine hw.vk (k:=0) rfl ?_;revert a0 a1 a2 a3;exact k_):G:=h c
theorem Aa(c:H)(h:(Unit->H)->G:=by intro k_;have HW:=Gl hw;have HA:Hid (Below w.heap.size w (w.alloc (.cells #[.int .i64 13,.int .i64 R,.int .i64 A,.int .i64 N] 97))):=(Below.refl _ _).alloc (Nat.le_refl _) _;have HB:=row4 w (.int .i64 13) (.int .i64 R) (.int .i64 A) (.int .i64 N) 97;have HR:Hid (Ei (w.alloc (.cells #[.int .i64 13,.int .i64 R,.int .i64 A,.int .i64 N] 97)) Lb (kc*5) 175 (Jm Ls)):=hr.alloc _;have k5:=(HA.out.cell (p:=⟨Kb,5,Ai⟩) (cell_lt h5)).trans h5;have b0:=HB.at4.1;have b3:=HB.at4.2.2.2;revert HW HA HB HR k5 b0 b3;exact k_ ()):G:=h fun _=>c
theorem Ba(c:H)(h:H->G:=by intro k_;refine Ii L.Bi 5 (fun _ _ h r=>Si.rely h r) hF ?_;exact k_):G:=h c
theorem Da(c:H)(h:H->G:=by intro k_;(iterate 2 (refine .Gi L.Bi [0,1] I0 ?_;iterate 2 (refine .pj L.Bi rfl I0 hk ?_;try walk_nrm);repeat refine .c1 L.Bi rfl ?_;refine .xk L.Bi I0 ?_;repeat refine .c1 L.Bi rfl ?_));exact k_):G:=h c
theorem Ea(c:H)(h:H->G:=by intro k_;(iterate 4 (refine .Gi L.Bi [0,1] I0 ?_;iterate 2 (refine .pj L.Bi rfl I0 hk ?_;try walk_nrm);repeat refine .c1 L.Bi rfl ?_;refine .xk L.Bi I0 ?_;repeat refine .c1 L.Bi rfl ?_));exact k_):G:=h c
theorem Fa(c:H)(h:H->G:=by intro k_;(iterate 5 (refine .Gi L.Bi [0,1] I0 ?_;iterate 2 (refine .pj L.Bi rfl I0 hk ?_;try walk_nrm);repeat refine .c1 L.Bi rfl ?_;refine .xk L.Bi I0 ?_;repeat refine .c1 L.Bi rfl ?_));exact k_):G:=h c
theorem Ha(h:G:=by refine Ci.zk Di G2 ?_;(iterate 2 refine .c1 Di rfl ?_);refine .stop rfl fun w9 hR=>?_;exact tail n (i*206) (i) (i*4) w9 _ _ _ _ _ _ _ _ _ _ _ _ _ _ _ _ _ _ _ _ _ _ _ _ _ _ _ _ _ _ _ _ _ _ _ _ _ _ _ _ _ _ _ _ _ _ _ _ _ _ _ _ _ _ _ _ _ _ _ _ _ _ _ _ _ _ _ _ _ _ _ _ _ _ _ _ _ _ _ _ _ _ _ _ _ _ _ _ _ _ _ _ _ _ _ E0 E0 E0 E0 E0 (hIO.is (hF.rely hR))):G:=h
theorem Ia(c:H)(h:(Unit->H)->G:=by intro k_;have xN:World.cell? _ ⟨K.sb,i*4+1,Ai⟩=yi (.int .i64 (C i).age):=(Si.cell (r:=um K fs) hF hx.s (j:=i*4+1) F4).trans (congrArg yi hc.age);revert xN;exact k_ ()):G:=h fun _=>c
theorem Ja(h:G:=by have uB:R0 w (w₂.at d):=U.t0 _ _ _ EV (U.rB _ d);obtain⟨hgo,hD⟩:=h01 _ uB;obtain⟨yk,ops,r1,r2,r3,r4,r5⟩:=hC.aJ (d:=d) (sl:=sl) U ha hb (qk KE) hgo hD;exact⟨yk,_,sl,ops,r1,r2,ih0 _ uB (hB.rely U.t1 (U.t1 _ _ _ Gy (U.t1 _ _ _ (U.JM _ d) (U.d01 _ _ _ hD)))) _ yk sl (t++ops) q (ZE U _) (iy U _) r3 r4 r5⟩):G:=h
theorem La(c:H)(h:(Unit->H)->G:=by intro k_;have S0:Hid (Sl w p0 (c.nC*3) F0):=s0;have K0:Hid (∀i,i<c.nC->Hu w (F0 (i*3)) (c.Xl i) (c.Zi i) 4 (c.code i) 32/\Hu w (F0 (i*3+1)) (c.Yl i) (c.Vj i) 1 (c.img i) 8/\F0 (i*3+2)=.int .i64 (c.lim i)):=k0;revert S0 K0;exact k_ ()):G:=h fun _=>c
theorem Na(h:G:=by have HS:Hid (Sl w p (c.qj*3) (fun j=>.int .i64 (c.ch j))):=hs;have HN:Hid (24*c.qj<=140737488355328):=hb;clear hs hb;go_enter func69,ntmps69;go_wp2_with (go_at_call 87;refine(MB c _ _ _ p cap _ _ _ _ F5 HN.out).mono ?_;rintro e w' ⟨b,rfl,rA,Wj⟩);go_ret;exact sk.of rA ((HB.out _ _).trans (Wj.mono A1))):G:=h
theorem Oa(h:G:=by refine Si.Hq hi hF (25+R) _ ?_;co_evs (exact rfl)):G:=h
theorem Qa(h:G:=by have uB:R1 w₁ (w₂.at d):=U.t1 _ _ _ Gy (U.JM _ d);obtain⟨hgo,hD⟩:=h1 _ uB;obtain⟨yk,ops,r1,r2,r3,r4,r5⟩:=hC.BF (d:=d) (sl:=sl) U ha hb (qk hs) hgo hD;exact⟨yk,_,sl,ops,r1,r2,ih _ uB _ yk sl (t++ops) q (ZE U _) (U.t0 _ _ _ EV (U.t0 _ _ _ (U.rB _ d) (U.d10 _ _ _ hD))) r3 r4 r5⟩):G:=h
theorem Ta(c:H)(h:(Unit->H)->G:=by intro k_;have c0:=hc (k*3) E0;have c1:=hc (k*3+1) E0;have c2:=hc (k*3+2) E0;revert c0 c1 c2;exact k_ ()):G:=h fun _=>c
theorem Ua(c:H)(h:H->G:=by intro k_;have hc:World.cell? _ ⟨k.kb,0,Ai⟩=yi (.slice (yi ⟨tb,0,Ai⟩) nT cT):=(Zp.cell hw (a:=⟨k.kb,0,Ai⟩) hS.WN).trans h0;revert hc;exact k_):G:=h c
theorem Va(c:H)(h:H->G:=by intro k_;have Bn:World.frozen? _ ⟨g,25+R,Ai⟩=false:=Si.XI hi hF (25+R);revert Bn;exact k_):G:=h c
theorem Wa(h:G:=by (intro e he;have hm:=mem_listed he;simp[go_sem,OP, *]at hm;subst hm;exact rfl)):G:=h
theorem Xa(c:H)(h:(Unit->H)->G:=by intro k_;have YN:(R:Int)<4:=E0;have QO:(A:Int)<4:=E0;revert YN QO;exact k_ ()):G:=h fun _=>c
theorem Ya(h:G:=by go_enter func133,ntmps133;go_wp2_with (at_lookup;refine wpList_lookup_own_ok_int _ rfl _ _ 204 rfl 231 3 .i64 Qx underlying204 underlying3 (wG _) b m D rfl ((HO.out.alloc _).alloc _) _ kl rfl HK.out ?_;intro v hat tX;clear hat tX);go_ret;exact sk.no HN.out (HB.out _ _)):G:=h
theorem Za(h:G:=by clear rj xl hat Wi HP OH3 H3;go_wp2_with fail;go_end0;exact⟨rfl,_,[(.slice pl q cl),(.slice (yi ⟨g1,0,Ai⟩) (q+1:Nat) wj),(.slice (yi ⟨g2,0,Ai⟩) (q+2:Nat) cap2),(.slice (yi ⟨g3,0,Ai⟩) (q+3:Nat) nk)],w3.heap.size,rfl,hS,by simpa[List.append_assoc]using H4.out⟩):G:=h
theorem jb(h:G:=by go_enter func114,ntmps114;go_wp2_with fail;go_ret2;exact⟨rfl,rfl⟩):G:=h
theorem mb(c:H)(h:H->G:=by intro k_;obtain⟨a0,a1,a2,a3⟩:=hF.Yn (k:=0) rfl;revert a0 a1 a2 a3;exact k_):G:=h c
theorem vb(c:H)(h:H->G:=by intro k_;refine bj.fl ?_;exact k_):G:=h c
theorem yb(c:H)(h:(Unit->H)->G:=by intro k_;intro w1 hR K hK;replace hF:=hF.rely hR;clear hR;have hc:World.cell? _ ⟨g,25+R,Ai⟩=yi (.int .i64 (z (25+R))):=Si.cz hiT.2 hF E0 E0;have Bn:World.frozen? _ ⟨g,25+R,Ai⟩=false:=Si.XI hiT.2 hF (25+R);revert w1 K hK hF hc Bn;exact k_ ()):G:=h fun _=>c
theorem zb(c:H)(h:H->G:=by intro k_;have hc:World.cell? _ ⟨kb,4,Ai⟩=yi (.slice (yi ⟨T,0,Ai⟩) nC nC):=(hw.nj (a:=⟨kb,4,Ai⟩) sK).trans cK;revert hc;exact k_):G:=h c
theorem Ab(c:H)(h:(Unit->H)->G:=by intro k_;have HAL:Hid (∀o,Below W.heap.size W (W.alloc o)):=fun o=>(Below.refl _ _).alloc (Nat.le_refl _) _;have q1:∀o,(W.alloc o).cell? ⟨Gc,n*26+21,Ai⟩=yi (Q n).nt:=fun o=>((HAL.out o).cell (p:=⟨Gc,n*26+21,Ai⟩) Vy).trans ev;have q2:∀o,(W.alloc o).cell? ⟨B,3,Ai⟩=yi (.int .i64 c):=fun o=>((HAL.out o).cell (p:=⟨B,3,Ai⟩) XF).trans b3;revert HAL q1 q2;exact k_ ()):G:=h fun _=>c
theorem Cb(h:G:=by skip;co_quiet L.Bi):G:=h
theorem Db(h:G:=by refine⟨⟨k+1,E0,J1,HI.out.step HO.out,?_⟩,U1⟩;exact HW.out.trans (Wj.mono HW.out.size)):G:=h
theorem Eb(c:H)(h:H->G:=by intro k_;have heq:=fun W a n c=>Go.Lib.run_eql_slice_nil (P:=prog) W 50 97 a n c 0 0 underlying50;revert heq;exact k_):G:=h c
theorem Fb(c:H)(h:H->G:=by intro k_;refine .Gi L.Bi [0,1,2,3] I0 ?_;exact k_):G:=h c
theorem Ib(c:H)(h:H->G:=by intro k_;refine Ii L.Bi 3 (fun _ _ h r=>Si.rely h r) hF ?_;exact k_):G:=h c
theorem Jb(c:H)(h:H->G:=by intro k_;refine Ii L.Bi 8 (fun _ _ h r=>Si.rely h r) hF ?_;exact k_):G:=h c
theorem Nb(c:H)(h:H->G:=by intro k_;have heq:=fun W a n c=>Go.Lib.run_eql_slice_nil (P:=prog) W 51 2 a n c 0 0 underlying51;revert heq;exact k_):G:=h c
theorem Ob(h:G:=by go_wp2_with fail;go_ret;exact⟨rfl,Bm.out,X4⟩):G:=h
theorem Qb(h:G:=by refine Ci.fin L.Bi ?_;exact jm _ [] _ _ rfl (Dj L.Bi I0 _) ⟨rfl,hF⟩):G:=h
theorem Rb(c:H)(h:(Unit->H)->G:=by intro k_;have hc:World.cell? _ ⟨g,45,Ai⟩=yi (.int .i64 (z 45)):=hw.gp hi E0 E0;revert hc;exact k_ ()):G:=h fun _=>c
theorem Ub(c:H)(h:(Unit->H)->G:=by intro k_;have st:∀{op N:Int},w.cell? ⟨r.cb n,r.co n+nx*4,Ai⟩=yi (.int .i64 op)->w.cell? ⟨r.cb n,r.co n+nx*4+3,Ai⟩=yi (.int .i64 N)->mG r.Kb r.Gc n k.nC r.cq r.bo r.oo (r.cb n) (r.co n) (k.n n) (r.cc n) nx R A op N Q w:=fun c0 c3=>⟨h.h0,h.h4,h.hc n hn,c0,c1,c2,c3,h.row,Fq,hn,Wi,h.n48 n hn,dp,ep,gK,gb,gc⟩;revert st;exact k_ ()):G:=h fun _=>c
theorem Vb(c:H)(h:(Unit->H)->G:=by intro k_;have pG:=Gl Kv;have EW:=Gl (Ks.trans YB.out);have Qv:=Gl (Pn.grown ez j5 (fun k hk=>U4));revert pG EW Qv;exact k_ ()):G:=h fun _=>c
theorem Wb(c:H)(h:H->G:=by intro k_;refine Ci.ret L.Bi fun todo=>?_;revert todo;exact k_):G:=h c
theorem Xb(c:H)(h:(Unit->H)->G:=by intro k_;have S1:Hid (Sl w p1 c.nT F1):=s1;have K1:Hid (∀i,i<c.nT->Hu w (F1 i) (c.jC i) (c.nRow i) 2 (c.row i) 16):=k1;have S2:Hid (Sl w p2 (c.qj*3) (fun j=>.int .i64 (c.ch j))):=s2;revert S1 K1 S2;exact k_ ()):G:=h fun _=>c
theorem Yb(c:H)(h:H->G:=by intro k_;refine .Gi L.Bi [0,1] I0 ?_;exact k_):G:=h c
theorem Zb(c:H)(h:H->G:=by intro k_;refine .Gi Di [0] I0 ?_;exact k_):G:=h c
theorem dc(c:H)(h:(Unit->H)->G:=by intro k_;have S0:Hid (Sl w0 p0 (c.nC*3) F0):=s0;have K0:Hid (∀i,i<c.nC->Hu w0 (F0 (i*3)) (c.Xl i) (c.Zi i) 4 (c.code i) 32/\Hu w0 (F0 (i*3+1)) (c.Yl i) (c.Vj i) 1 (c.img i) 8/\F0 (i*3+2)=.int .i64 (c.lim i)):=k0;have S1:Hid (Sl w0 p1 c.nT F1):=s1;have K1:Hid (∀i,i<c.nT->Hu w0 (F1 i) (c.jC i) (c.nRow i) 2 (c.row i) 16):=k1;revert S0 K0 S1 K1;exact k_ ()):G:=h fun _=>c
theorem ec(h:G:=by exact absurd h E0):G:=h
theorem jc(c:H)(h:H->G:=by intro k_;have hk:(base 113).kind≠.early:=E1;revert hk;exact k_):G:=h c
theorem uc(c:H)(h:(Unit->H)->G:=by intro k_;have hc:World.cell? _ ⟨g,1,Ai⟩=yi (.pointer (yi ⟨nb,0,Ai⟩)):=hw.cell hi (j:=1) (show 1<48 by omega);revert hc;exact k_ ()):G:=h fun _=>c
theorem xc(h:G:=by have iw:=Gl (HR.out.of_heap (Ti.block Lb HR.out.lt V4));have e0':=Ei.LQ iw.out (n:=N) (i:=0) (a:=N*5) E0 rfl E0;have f0':=iw.out.frozen (N*5);go_wp2_with fail;go_ret2;exact⟨rfl,_,Ei.lw iw.out rfl _ _,HT.out.but,K7,HT.out.blk⟩):G:=h
theorem yc(c:H)(h:H->G:=by intro k_;have HVB:Hid (∀b,ve.ownBlock=yi b->b<w.heap.size/\b≠bw):=fun b hb=>⟨(hE.lt b hb).2,fun e=>aK (e▸hb)⟩;revert HVB;exact k_):G:=h c
theorem Ac(c:H)(h:H->G:=by intro k_;refine Ci.unwind L.Bi #[.pointer (yi ⟨p,0,Ai⟩),.pointer (yi ⟨c,0,Ai⟩),.pointer (yi ⟨y,0,Ai⟩),ri,ri,ri,ri,ri,ri,ri,ri,ri,ri,ri,ri,ri,ri,ri,ri,ri] (by rw[hm];simp) hd func111 I0 rfl J0 ?_;exact k_):G:=h c
theorem Bc(c:H)(h:(Unit->H)->G:=by intro k_;have hc:World.cell? _ ⟨g,2,Ai⟩=yi (.slice (yi ⟨cb,co,Ai⟩) n cc):=hw.cell hi (show 2<48 by omega);revert hc;exact k_ ()):G:=h fun _=>c
theorem Cc(h:G:=by exact .inr (zl rfl T0)):G:=h
theorem Dc(c:H)(h:H->G:=by intro k_;have hc:World.cell? _ ⟨k.kb,1,Ai⟩=yi (.int .i64 r):=(Zp.cell hw (a:=⟨k.kb,1,Ai⟩) hS.WN).trans hr;revert hc;exact k_):G:=h c
theorem Ec(h:G:=by co_evs (exact rfl)):G:=h
theorem Ic(c:H)(h:H->G:=by intro k_;refine .Gi L.Bi [0,1,2,3,4,5,6,7] I0 ?_;exact k_):G:=h c
theorem Jc(h:G:=by go_ret;exact WH.some ⟨Wi,HO.out,HI.out⟩ (HW.out.trans (Wj.mono HW.out.size))):G:=h
theorem Lc(c:H)(h:H->G:=by intro k_;have Xq:Hid (Below (w.heap.size+1) (w.alloc (.cells #[.slice p0 c.nC yj,.slice p1 c.nT wj,.slice p2 c.qj cap2,.slice p3 c.nD nk] 28)) w1):=Wj.mono P0;revert Xq;exact k_):G:=h c
theorem Mc(c:H)(h:(Unit->H)->G:=by intro k_;have HF:Hid (IC w W w1 Gc (Q n).nt _ _ g cap (m+1) (xs++[.int .i64 c,.int .i64 x])):=⟨dj.out,Ti.os,Ti.tape,Ti.output,Nat.le_trans P0 Ti.size,fun b hb Jj=>(Ti.block b Q6 (fun e=>Jj e.symm)).trans (heap_alloc_old W _ hb),Oj,hat.imp id (fun e=>M4),HOB.out,Vy⟩;revert HF;exact k_ ()):G:=h fun _=>c
theorem Nc(h:G:=by intro K_ hK;skip;go_simp;exact hK):G:=h
theorem Oc(h:G:=by obtain⟨x',py,ex⟩:=key a x ha;obtain⟨y',Uw,ey⟩:=key b y hb;rw[<-ex,<-ey];exact h.pw a b x' y' py Uw pR):G:=h
theorem Qc(c:H)(h:H->G:=by intro k_;have e0:=(hw.cell ⟨b8,0,Ai⟩).trans o0;have e1:=(hw.cell ⟨b8,1,Ai⟩).trans o1;have e2:=(hw.cell ⟨b8,2,Ai⟩).trans o2;have e3:=(hw.cell ⟨b8,3,Ai⟩).trans o3;have e4:=(hw.cell ⟨b8,4,Ai⟩).trans o4;have e5:=(hw.cell ⟨b8,5,Ai⟩).trans o5;have e6:=(hw.cell ⟨b8,6,Ai⟩).trans o6;have e7:=(hw.cell ⟨b8,7,Ai⟩).trans o7;revert e0 e1 e2 e3 e4 e5 e6 e7;exact k_):G:=h c
theorem Tc(c:H)(h:H->G:=by intro k_;have hc:World.cell? _ ⟨wb,0,Ai⟩=yi (.int .i64 cell):=(hw.nj (a:=⟨wb,0,Ai⟩) sW).trans cW;revert hc;exact k_):G:=h c
theorem Uc(c:H)(h:(Unit->H)->G:=by intro k_;intro g cap w1 Oj Ti hat zo;have r_:Hid _:=yn.log (a:=n*26+22) (HA1.out _) Ti (by rw[List.append_assoc];exact Oj) (hat.imp id (fun e=>M4)) rfl;have f1:w1.cell? ⟨r.Gc,n*26+22,Ai⟩=yi v:=(Ei.rat r_.out.1 (n:=n) (i:=22) E0 rfl E0).trans I4;have f2:=r_.out.1.frozen (n*26+22);clear Oj Ti hat zo;revert g cap w1 r_ f1 f2;exact k_ ()):G:=h fun _=>c
theorem Wc(h:G:=by go_wp2_with fail;go_ret;exact⟨rfl,rfl⟩):G:=h
theorem Xc(h:G:=by rw[listed_nil J0];simp):G:=h
theorem Yc(h:G:=by simpa using this):G:=h
theorem Zc(c:H)(h:(Unit->H)->G:=by intro k_;have HB:=row4 w (.int .i64 12) (.int .i64 R) (.int .i64 A) (.int .i64 N) 97;have HR:Hid (Ei (w.alloc (.cells #[.int .i64 12,.int .i64 R,.int .i64 A,.int .i64 N] 97)) Lb (kc*5) 175 (Jm Ls)):=hr.alloc _;have k5:=(HA.out.cell (p:=⟨Kb,5,Ai⟩) (cell_lt h5)).trans h5;have b0:=HB.at4.1;have b3:=HB.at4.2.2.2;revert HB HR k5 b0 b3;exact k_ ()):G:=h fun _=>c
theorem gd(c:H)(h:H->G:=by intro k_;simp only[stepG.apply,if_true,e3 τ d hA,SE,GStep.after];exact k_):G:=h c
theorem jd(h:G:=by (intro e he;have hm:=mem_listed he;simp[go_sem, *]at hm;rcases hm with rfl|rfl|rfl|rfl<;>exact⟨_,_,rfl⟩)):G:=h
theorem od(h:G:=by exact(h1.mutes (fun op hop=>(hq 0 op hop).1.1) (Deaf_quiet fun op hop=>(hq 0 op hop).2) (Deaf_quiet fun op hop=>(hq k op hop).2)).mono (fun x=>U.s0 _ _ x (U.ch0 _ _ _ _ _)) (fun x=>U.m0 _ _ x (U.ch0 _ _ _ _ _))):G:=h
theorem qd(h:G:=by (intro e he;have hm:=mem_listed he;simp[go_sem, *]at hm;rcases hm with rfl|rfl<;>exact Yj _ _ _)):G:=h
theorem sd(c:H)(h:H->G:=by intro k_;have HB:Hid (∀o,Below w.heap.size w (w.alloc o)):=fun o=>(Below.refl _ _).alloc (Nat.le_refl _) _;revert HB;exact k_):G:=h c
theorem ud(c:H)(h:(Unit->H)->G:=by intro k_;have hc:World.cell? _ ⟨r.g,i*3,Ai⟩=yi (.slice (yi ⟨rk.g,0,Ai⟩) (n+1:Nat) rk.m):=(hF.cell hq (j:=i*3) X2).trans (by rw[hv]);revert hc;exact k_ ()):G:=h fun _=>c
theorem vd(c:H)(h:(Unit->H)->G:=by intro k_;refine Ci.xk L.Bi G2 ?_;refine Ci.exit L.Bi I0 ?_;exact k_ ()):G:=h fun _=>c
theorem xd(h:G:=by rw[listed_nil I0];exact Terms.idle L.Bi _):G:=h
theorem yd(h:G:=by go_wp2;go_ret;exact⟨rfl,HZ.out,HB.out,HR.out.congr (fun j hj=>J4)⟩):G:=h
theorem zd(c:H)(h:H->G:=by intro k_;have hc:World.cell? _ ⟨y,0,Ai⟩=yi (.int .i64 0):=hF.l1 (k:=2) rfl;have Bn:World.frozen? _ ⟨y,0,Ai⟩=false:=hF.Vt (k:=2) rfl 0;revert hc Bn;exact k_):G:=h c
theorem Ad(h:G:=by co_evs (exact Yj _ _ _)):G:=h
theorem Bd(h:G:=by exact⟨j8,l8,a8,hc.shown,hc.age,hc.En,hc.anew⟩):G:=h
theorem Cd(c:H)(h:H->G:=by intro k_;refine Ci.fin L.Bi ?_;exact k_):G:=h c
theorem Ed(c:H)(h:H->G:=by intro k_;refine .Gi Di [0,1,2] I0 ?_;exact k_):G:=h c
theorem Jd(c:H)(h:H->G:=by intro k_;have y2:wl.cell? ⟨w.heap.size,2,Ai⟩=yi (.int .i64 (cell:Int)):=(yo.cell (p:=⟨w.heap.size,2,Ai⟩) z0).trans x2;have y4:wl.cell? ⟨Kb,4,Ai⟩=yi (.slice (yi ⟨Gc,0,Ai⟩) nC cG):=(yo.cell (p:=⟨Kb,4,Ai⟩) z4).trans d4;revert y2 y4;exact k_):G:=h c
theorem Ld(c:H)(h:H->G:=by intro k_;refine Si.Gn hi hw ?_;exact k_):G:=h c
theorem Md(h:G:=by rintro e w' ⟨u,rfl,h1,h2⟩;have H1:Hid _:=h1;have H2:Hid _:=h2;obtain⟨pu,mu,cu,rfl⟩:=kr h2;clear h1 h2;go_wp2_with fail;go_ret2;exact⟨_,rfl,H1.out,H2.out⟩):G:=h
theorem Qd(h:G:=by rw[show MemAct.ofEvent ⟨.mark q,gi,ji⟩=.mark q from rfl,hq.touch]at hz;cases hz):G:=h
theorem Td(c:H)(h:H->G:=by intro k_;have Ey:Hid (Below w.heap.size w wl):=(Gu.out.trans (Xq.out.mono (Nat.le_of_lt Hw))).trans (FD.out.mono (Nat.le_of_lt z0));revert Ey;exact k_):G:=h c
theorem Ud(h:G:=by rw[this]at hv;injection hv with hv;injection hv with _ hv;subst hv;simp only[beq_iff_eq,Vn,Int.toNat_natCast];exact⟨fun h=>⟨E0,E0,trivial,h⟩,fun h=>h.2.2.2⟩):G:=h
theorem Vd(c:H)(h:H->G:=by intro k_;(iterate 8 (refine .Gi L.Bi [0,1] I0 ?_;iterate 2 (refine .pj L.Bi rfl I0 hk ?_;try walk_nrm);repeat refine .c1 L.Bi rfl ?_;refine .xk L.Bi I0 ?_;repeat refine .c1 L.Bi rfl ?_));exact k_):G:=h c
theorem Xd(c:H)(h:H->G:=by intro k_;(iterate 1 (refine .Gi L.Bi [0,1] I0 ?_;iterate 2 (refine .pj L.Bi rfl I0 hk ?_;try walk_nrm);repeat refine .c1 L.Bi rfl ?_;refine .xk L.Bi I0 ?_;repeat refine .c1 L.Bi rfl ?_));exact k_):G:=h c
theorem Yd(c:H)(h:H->G:=by intro k_;(iterate 3 (refine .Gi L.Bi [0,1] I0 ?_;iterate 2 (refine .pj L.Bi rfl I0 hk ?_;try walk_nrm);repeat refine .c1 L.Bi rfl ?_;refine .xk L.Bi I0 ?_;repeat refine .c1 L.Bi rfl ?_));exact k_):G:=h c
theorem Zd(c:H)(h:H->G:=by intro k_;(iterate 6 (refine .Gi L.Bi [0,1] I0 ?_;iterate 2 (refine .pj L.Bi rfl I0 hk ?_;try walk_nrm);repeat refine .c1 L.Bi rfl ?_;refine .xk L.Bi I0 ?_;repeat refine .c1 L.Bi rfl ?_));exact k_):G:=h c
theorem ae(c:H)(h:H->G:=by intro k_;have d4:=(Xq.out.cell (p:=⟨Kb,4,Ai⟩) (Nat.lt_trans vN Hw)).trans ((Gu.out.cell (p:=⟨Kb,4,Ai⟩) vN).trans h4);revert d4;exact k_):G:=h c
theorem de(h:G:=by have e20:=Ei.rat Bm.out (n:=n) (i:=20) E0 rfl E0;have f20:=Bm.out.frozen (n*26+20);go_wp2_with fail;go_ret;exact⟨rfl,Ei.Rz (i:=20) Bm.out E0 rfl _,j4⟩):G:=h
theorem fe(c:H)(h:H->G:=by intro k_;(iterate 5 (refine .pj L.Bi rfl I0 hk ?_;try walk_nrm));exact k_):G:=h c
theorem ie(h:G:=by rw[woken_quitsD pF,upd_ne q m (Ne.symm Yq),Deaf_other t Yq _ ofEvents_g];exact pF):G:=h
theorem je(c:H)(h:H->G:=by intro k_;rw[heq];simp only[callDeferred,e3 τ dd hA,GStep.after];exact k_):G:=h c
theorem oe(c:H)(h:(Unit->H)->G:=by intro k_;have hc:World.cell? _ ⟨g,25+R,Ai⟩=yi (.int .i64 (z (25+R))):=hw.gp hi E0 E0;revert hc;exact k_ ()):G:=h fun _=>c
theorem qe(c:H)(h:(Unit->H)->G:=by intro k_;have x0:=iD.out.cell (j:=0) E0;have x2:=iD.out.cell (j:=2) E0;revert x0 x2;exact k_ ()):G:=h fun _=>c
theorem xe(c:H)(h:H->G:=by intro k_;obtain⟨a0,a1,a2,a3⟩:=hw.Yn (k:=0) rfl;go_simp;revert a0 a1 a2 a3;exact k_):G:=h c
theorem ye(h:G:=by obtain⟨yk,ops,q',h1,h2,h3,h4,h5⟩:=UL.slip (sl:=sl') ha hs hi hg zy;exact yN.step (wm.trans h1) h2 (ihM _ E0 _ yk sl' (t++ops) q' rfl uB h3 h4)):G:=h
theorem ze(c:H)(h:H->G:=by intro k_;intro w1 hR K hK;replace hF:=hF.rely hR;clear hR;revert w1 K hK hF;exact k_):G:=h c
theorem Ae(h:G:=by rintro e w' ⟨rfl,rfl⟩;exact⟨_,rfl,rfl,τ,0,rfl⟩):G:=h
theorem Be(h:G:=by obtain⟨o,ho⟩:=hs.there;obtain⟨j,rfl⟩:=zn e he;exact Av.read (a:=⟨b,j,Ai⟩) (by rw[h.still hs];exact ho) fun hm=>hs.no o ho (.inr hm)):G:=h
theorem Ce(h:G:=by exact⟨HW.out.row,Rk HW.out.own fun _ _=>rfl,⟨HW.out.but.os,HW.out.but.tape,HW.out.but.output,HW.out.but.size,HW.out.but.block⟩,HW.out.blk⟩):G:=h
theorem Ee(h:G:=by exact h.Un i j hi hj Jj b hb uk):G:=h
theorem Fe(c:H)(h:H->G:=by intro k_;refine Ci.Ym (S:=Si L w0 rows [uj N 0 0 0 0]) (Die:=fun _ _=>False) L.Bi L.Wm 11 I0 hk J0 (fun _ _ _ h=>h) (fun _ _ _ h=>h.elim) fun w1 hR=>?_;replace hF:=(hF.rely hR).rely (Turn.drew _);clear hR;revert w1 hF;exact k_):G:=h c
theorem He(c:H)(h:H->G:=by intro k_;refine Ci.uC (S:=Is wO) Di uD 16 U0 W3 W3 [16,17] I0 hk J0 ((Au _ _).trans t6) fun w1 hR=>?_;replace hF:=(hF.rely hR).drew;clear hR;refine Ii Di 0 (fun _ _ h r=>Is.rely h r) hF ?_;revert w1 hF;exact k_):G:=h c
theorem Ie(h:G:=by exact absurd h.2.2.2.2.2.2.1 E0):G:=h
theorem Je(c:H)(h:(Unit->H)->G:=by intro k_;have hc:World.cell? _ ⟨g,46,Ai⟩=yi (.int .i64 (z 46)):=Si.cz hi hF E0 E0;revert hc;exact k_ ()):G:=h fun _=>c
theorem Me(h:G:=by simp[Instr.sliceAt,Instr.slice,Instr.sliceBounds,Instr.sliceBound,Sem.events_bind,run_underlying h,events_underlying,events_sizeOf,asIntOf,h0,h1]):G:=h
theorem Oe(h:G:=by rw[show (bk K g num code z::rn)++ls=bk K g num code z::(rn++ls)from rfl,List.getElem?_cons_succ,List.getElem?_append_left l0];exact hx.q):G:=h
theorem Pe(h:G:=by rw[show (bk K g num code z::rn)++ls=bk K g num code z::(rn++ls)from rfl,List.getElem?_cons_succ,List.getElem?_append_left l1];exact hx.s):G:=h
theorem Qe(c:H)(h:H->G:=by intro k_;refine .Gi Di [0,1,2,3] I0 ?_;exact k_):G:=h c
theorem Ue(h:G:=by go_wp2_with fail;refine(gA kb nC cC q cell _ h2).mono ?_;rintro e w1 ⟨rfl,rfl⟩;rw[hd];go_wp2_with fail;go_ret2;exact⟨rfl,rfl⟩):G:=h
theorem Ve(h:G:=by go_wp2_with fail;go_ret;exact WH.none HI.out HW.out):G:=h
theorem Xe(h:G:=by go_enter func69,ntmps69;go_wp2;go_quiet (fail);go_wp2;go_ret;exact sk.of (b:=decide (n<(nc:Int))) Y5 (below_drewN (HB.out _ _) _)):G:=h
theorem Ye(h:G:=by rw[hn x ZF]at hxa;cases hxa):G:=h
theorem Ze(c:H)(h:(Unit->H)->G:=by intro k_;have hc:World.cell? _ ⟨g,45,Ai⟩=yi (.int .i64 ((Ji (Ji z 46 (IntKind.i64.wrap (z 46+1))) 45 ((nx:Int)+1)) (45))):=Si.cz hi hF E0 E0;have Bn:World.frozen? _ ⟨g,45,Ai⟩=false:=Si.XI hi hF (45);revert hc Bn;exact k_ ()):G:=h fun _=>c
theorem af(h:G:=by rw[if_neg E0,if_neg E0,if_neg E0]):G:=h
theorem bf(c:H)(h:H->G:=by intro k_;refine hF.ym _ ?_;exact k_):G:=h c
theorem jf(c:H)(h:H->G:=by intro k_;simp only[stepG.apply,if_true,hr,SE,GStep.after];exact k_):G:=h c
theorem rf(c:H)(h:H->G:=by intro k_;refine .Gi L.Bi [0,1,2,3,4] I0 ?_;exact k_):G:=h c
theorem tf(c:H)(h:H->G:=by intro k_;have Wi:0<gs.size:=(Array.getElem?_eq_some_iff.1 ha).1;revert Wi;exact k_):G:=h c
theorem uf(c:H)(h:H->G:=by intro k_;intro w1 xo Aq Pn;have iw:=Gl xo;have YB:=Gl Aq;clear xo Aq;revert w1 Pn iw YB;exact k_):G:=h c
theorem vf(c:H)(h:(Unit->H)->G:=by intro k_;have Xu:c.qj<=8796093022208:=E0;have JR:c.nD<=17592186044416:=E0;revert Xu JR;exact k_ ()):G:=h fun _=>c
theorem yf(c:H)(h:H->G:=by intro k_;refine(YD (yi ⟨bq,oq,sq⟩) (c.Zi k) Zr (c.code k) _ ((SC.out.below HB.out).below ((Below.refl _ _).alloc (Nat.le_refl _) _)) P0 BC.out).mono ?_;exact k_):G:=h c
theorem zf(h:G:=by exact .inr (Nat.le_trans h.but.size x)):G:=h
theorem Af(h:G:=by obtain⟨o,ho⟩:=hs.there;rw[ho,h.ph.keep ho hs.nc (hs.no o ho)]):G:=h
theorem Bf(c:H)(h:H->G:=by intro k_;refine Ii L.Bi 10 (fun _ _ h r=>Si.rely h r) hF ?_;exact k_):G:=h c
theorem Df(h:G:=by unfold execOp;simp[hop,resolve,invoke,builtin]):G:=h
theorem Ef(c:H)(h:H->G:=by intro k_;unfold Oper.wp execOp;simp only[ho,resolve,invoke,builtin,Sem.run_bind,Sem.run_pure,Result.andThen_ok,List.map_toArray,List.map_cons,List.map_nil,hs,hx,hr];exact k_):G:=h c
theorem Ff(c:H)(h:H->G:=by intro k_;refine .Gi Di [0,1,2,3,4] I0 ?_;exact k_):G:=h c
theorem Gf(h:G:=by have hr:=run_make (P:=P) W t e i z ht h2 h3 .i64 .i64 n n E0 (Int.le_refl _) uk E0;simpa only [Int.toNat_natCast]using hr):G:=h
theorem Hf(c:H)(h:H->G:=by intro k_;refine Ii L.Bi 7 (fun _ _ h r=>Si.rely h r) hF ?_;exact k_):G:=h c
theorem Jf(h:G:=by exact absurd h.2.2.2.2.1 E0):G:=h
theorem Qf(h:G:=by exact jm _ todo _ _ rfl (Ej L.Bi I0 _) ⟨I0,hF⟩):G:=h
theorem Rf(h:G:=by clear rj hg hat Wi;go_wp2_with fail;go_ret;simpa using HF.out):G:=h
theorem Tf(h:G:=by exact(h.k0 i a D3 hm).imp (·.app _) fun z=>⟨z.1.app _,z.2⟩):G:=h
theorem Uf(h:G:=by exact(h.kk i a D3 hm).imp (·.app _) fun z=>⟨z.1.app _,z.2⟩):G:=h
theorem Vf(h:G:=by exact on _ _ _ _ E0 E0):G:=h
theorem Xf(c:H)(h:H->G:=by intro k_;simp only[stepG.exec,ht];exact k_):G:=h c
theorem Yf(h:G:=by exact deafBehind_still (fun e he=>zn e he) _):G:=h
theorem Zf(c:H)(h:H->G:=by intro k_;refine Ci.inLoop L.Bi ?_;exact k_):G:=h c
theorem ag(h:G:=by exact Lm underlying3 Zv rfl h0):G:=h
theorem bg(h:G:=by refine hc _ cs Stop (fun v w' x=>?_) fun ch w' x=>hd ch w' _ x rfl rfl rfl rfl;rw[Frame.finish_at,ho];exact h v w' x):G:=h
theorem gg(c:H)(h:H->G:=by intro k_;have heq:=fun W a n c=>Go.Lib.run_eql_slice_nil (P:=prog) W 61 111 a n c 0 0 underlying61;revert heq;exact k_):G:=h c
theorem ig(h:G:=by go_enter func69,ntmps69;go_wp2;go_quiet (fail);go_wp2;go_ret;exact sk.no E0 (below_drewN (HB.out _ _) _)):G:=h
theorem jg(c:H)(h:(Unit->H)->G:=by intro k_;rw[if_pos rfl,if_pos E0,if_pos E0,if_pos E0];unfold pat;exact k_ ()):G:=h fun _=>c
theorem kg(h:G:=by go_simp;exact hK):G:=h
theorem ng(c:H)(h:(Unit->H)->G:=by intro k_;refine Ci.zk L.Bi G2 ?_;exact k_ ()):G:=h fun _=>c
theorem og(h:G:=by (intro e he;have hm:=mem_listed he;simp[go_sem, *]at hm;rcases hm with rfl|rfl|rfl|rfl<;>exact⟨_,rfl⟩)):G:=h
theorem pg(h:G:=by show Below _ _ _;exact(((((Below.refl _ _).alloc (Nat.le_refl _) _).alloc P0 _).alloc A1 _).alloc A1 _).drew):G:=h
theorem qg(h:G:=by simpa[Tj]using this):G:=h
theorem sg(c:H)(h:(Unit->H)->G:=by intro k_;refine Rl (i:=8) T0 rfl I0 rfl func137 I0 rfl #[.pointer (yi ⟨nb,0,Ai⟩),.int .i64 i] J0 (Yx sn n1 i yr _ hF) ?_;exact k_ ()):G:=h fun _=>c
theorem ug(h:G:=by exact .inr ⟨b,o,e,fun j hj=>(cell_of_heap (a:=⟨b,o+j,Ai⟩) (ns (h.si i hi b o e))).trans (hc j hj)⟩):G:=h
theorem vg(h:G:=by exact⟨⟨rfl,.inr rfl⟩,fun _=>rfl⟩):G:=h
theorem yg(h:G:=by exact⟨⟨rfl,.inl rfl⟩,fun _=>rfl⟩):G:=h
theorem zg(c:H)(h:H->G:=by intro k_;have yz:Hid ((Value.slice pe me ce).ownBlock≠yi B/\∀b,(Value.slice pe me ce).ownBlock=yi b->b<base):=⟨fun e=>(Qv.out B e).2 rfl,fun b hb=>(Qv.out b hb).1⟩;revert yz;exact k_):G:=h c
theorem Ag(h:G:=by simp[Builtin.copy_,run_underlying hu,Builtin.lenOf,Builtin.firstCells,sizeOf,typeInfo,hq,hi,y10,hl,ma0]):G:=h
theorem Bg(h:G:=by rw[stepG_oper ho hw,<-Us];simp[stepG.apply,hr,he,G,Frame.at,hk,GStep.after,seen_none,tryRecover,hc]):G:=h
theorem Eg(c:H)(h:(Unit->H)->G:=by intro k_;have k1':∀(V:ui)(v:ti),(V.setCell ⟨Gc,n*26+r,Ai⟩ v).cell? ⟨B,3,Ai⟩=V.cell? ⟨B,3,Ai⟩:=fun V v=>World.cell?_setCell_other _ _ _ _ (fun e=>U2);revert k1';exact k_ ()):G:=h fun _=>c
theorem Fg(c:H)(h:H->G:=by intro k_;have yo:b<wr.heap.size:=block_lt_of_cell c0;revert yo;exact k_):G:=h c
theorem Gg(c:H)(h:H->G:=by intro k_;have HR:Hid (0<=r/\r<4):=hr;have HA:Hid (0<=a/\a<4):=ha;revert HR HA;exact k_):G:=h c
theorem Hg(h:G:=by go_ret;exact sk.of (b:=gi) (HU.out _ (by simp only[bne_iff_ne,ne_eq]at hx;simp[hx])) (HB.out _)):G:=h
theorem Ig(c:H)(h:H->G:=by intro k_;rw[Pz a z0.1 z0.2.1,show slt a 0=_ from z0.2.2];exact k_):G:=h c
theorem Jg(h:G:=by go_enter func87,ntmps87;go_wp2;go_ret;exact sk.no (fun h=>by have:=h.2.1;omega) (HB.out _)):G:=h
theorem Og(c:H)(h:H->G:=by intro k_;simp only[stepG.apply,if_true,e3 τ d hA,SE,GStep.after,early,hfo,yE];exact k_):G:=h c
theorem Pg(h:G:=by (intro e he;have hm:=mem_listed he;simp[go_sem, *]at hm;rcases hm with rfl|rfl<;>exact⟨_,rfl⟩)):G:=h
theorem Qg(h:G:=by exact⟨cs,_,_,hh,U0,U0,U0,U0,U0,U0⟩):G:=h
theorem Ug(h:G:=by exact(Option.some.inj hi).symm):G:=h
theorem Vg(h:G:=by rw[Ei.rat h.row (n:=n) (i:=25) E0 E0 E0];show yi (Value.bool (Q n).b)=_;rw[Xq.out];simp[wm]):G:=h
theorem Wg(h:G:=by go_wp2;go_ret;exact⟨rfl,HZ.out,HB.out,(by rw[Nat.mul_one];exact HR.out.congr (fun j hj=>J4))⟩):G:=h
theorem Xg(c:H)(h:H->G:=by intro k_;refine Si.Gn hi hF ?_;exact k_):G:=h c
theorem Yg(h:G:=by exact absurd h.2.2.1 E0):G:=h
theorem Zg(h:G:=by subst hu;simp only[List.mem_toArray,List.mem_cons,List.not_mem_nil,or_false]at hop;subst hop;rfl):G:=h
theorem ah(h:G:=by cases h;exact absurd hq A5):G:=h
theorem bh(h:G:=by co_still L.Bi):G:=h
theorem dh(h:G:=by rw[h.cell (p:=⟨w.heap.size,j,Ai⟩) P0];exact cell_of_row _ _ _ _ _ _ (heap_alloc_new w _)):G:=h
theorem fh(c:H)(h:(Unit->H)->G:=by intro k_;have HP:Hid _:=ou.app H0.out ((Below.refl _ _).alloc (Nat.le_refl _) _) P4 xl (hat.imp id (fun e=>I3)) Zs yz.out.1 yz.out.2 E0 hS;have H1:Hid _:=HP.out.1;revert HP H1;exact k_ ()):G:=h fun _=>c
theorem jh(c:H)(h:(Unit->H)->G:=by intro k_;have HP:Hid _:=ou.app H1.out ((Below.refl _ _).alloc (Nat.le_refl _) _) P4 xl (hat.imp id (fun e=>I3)) Zs yz.out.1 yz.out.2 E0 hS;have H2:Hid _:=HP.out.1;revert HP H2;exact k_ ()):G:=h fun _=>c
theorem kh(c:H)(h:(Unit->H)->G:=by intro k_;have HP:Hid _:=ou.app H2.out ((Below.refl _ _).alloc (Nat.le_refl _) _) P4 xl (hat.imp id (fun e=>I3)) Zs yz.out.1 yz.out.2 E0 hS;have H3:Hid _:=HP.out.1;revert HP H3;exact k_ ()):G:=h fun _=>c
theorem lh(c:H)(h:(Unit->H)->G:=by intro k_;have HP:Hid _:=ou.app H3.out ((Below.refl _ _).alloc (Nat.le_refl _) _) P4 xl (hat.imp id (fun e=>I3)) Zs yz.out.1 yz.out.2 E0 hS;have H4:Hid _:=HP.out.1;revert HP H4;exact k_ ()):G:=h fun _=>c
theorem nh(h:G:=by exact this):G:=h
theorem qh(c:H)(h:(Unit->H)->G:=by intro k_;have Bn:World.frozen? _ ⟨r.g,i*4+2,Ai⟩=false:=hF.frozen (r:=r) hq (i*4+2);have hc:World.cell? _ ⟨r.g,i*4+2,Ai⟩=yi _:=hF.cell (r:=r) hq (j:=i*4+2) X2;revert Bn hc;exact k_ ()):G:=h fun _=>c
theorem rh(h:G:=by exact absurd (h.inj _ _ _ hy Uw) E0):G:=h
theorem uh(c:H)(h:(Unit->H)->G:=by intro k_;have MF:World.cell? _ ⟨K.qb,i*3,Ai⟩=yi (.slice wa (C i).wait.length wc):=(Si.cell (r:=Ko K fq) hF hx.q (j:=i*3) Z4).trans (congrArg yi tX);revert MF;exact k_ ()):G:=h fun _=>c
theorem vh(c:H)(h:H->G:=by intro k_;have HA:Hid (Below w.heap.size w (w.alloc (.cells #[.int .i64 12,.int .i64 R,.int .i64 A,.int .i64 N] 97))):=(Below.refl _ _).alloc (Nat.le_refl _) _;revert HA;exact k_):G:=h c
theorem xh(c:H)(h:(Unit->H)->G:=by intro k_;have MF:World.cell? _ ⟨K.sb,i*4+2,Ai⟩=yi (.int .i64 (C i).En):=(Si.cell (r:=um K fs) hF hx.s (j:=i*4+2) F4).trans (congrArg yi hc.En);revert MF;exact k_ ()):G:=h fun _=>c
theorem yh(c:H)(h:(Unit->H)->G:=by intro k_;have c0:=HR.out.cell (j:=k*3) E0;have c1:=HR.out.cell (j:=k*3+1) E0;have c2:=HR.out.cell (j:=k*3+2) E0;have f0:=HR.out.frozen (k*3);have f1:=HR.out.frozen (k*3+1);have f2:=HR.out.frozen (k*3+2);revert c0 c1 c2 f0 f1 f2;exact k_ ()):G:=h fun _=>c
theorem zh(h:G:=by go_enter func38,ntmps38;go_wp2_with fail;go_ret2;exact vD.mk C1.out (HA.out _)):G:=h
theorem Ah(h:G:=by go_enter func38,ntmps38;go_wp2_with fail;go_ret2;exact vD.mk C2.out (HA.out _)):G:=h
theorem Bh(c:H)(h:H->G:=by intro k_;refine hw.looks hi ?_;exact k_):G:=h c
theorem Dh(c:H)(h:(Unit->H)->G:=by intro k_;have hc:World.cell? _ ⟨g,25+A,Ai⟩=yi (.int .i64 ((Ji (Ji z 46 (IntKind.i64.wrap (z 46+1))) 45 ((nx:Int)+1)) (25+A))):=Si.cz hi hF E0 E0;revert hc;exact k_ ()):G:=h fun _=>c
theorem Eh(c:H)(h:(Unit->H)->G:=by intro k_;have hc:World.cell? _ ⟨g,29+y,Ai⟩=yi (.int .i64 ((Ji (Ji z 46 (IntKind.i64.wrap (z 46+1))) 45 ((nx:Int)+1)) (29+y))):=Si.cz hi hF E0 E0;revert hc;exact k_ ()):G:=h fun _=>c
theorem Fh(h:G:=by rw[hr]at DI;injection DI with _ e;subst e;exact(Turn.drew w).trans (.alloc w.drew _)):G:=h
theorem Gh(c:H)(h:H->G:=by intro k_;refine bj.value rfl I0 hk (fun d=>⟨d,rfl⟩) (fun d=>Lj plain (Vi plain func21 J0 _) J0 _) ?_;exact k_):G:=h c
theorem Hh(c:H)(h:H->G:=by intro k_;refine Ci.loop L.Bi ?_;exact k_):G:=h c
theorem Ih(h:G:=by exact absurd h.2.1 E0):G:=h
theorem Jh(h:G:=by exact⟨_,_,_,rfl⟩):G:=h
theorem Lh(c:H)(h:H->G:=by intro k_;have hH:w.heap.size<wr.heap.size:=HO.out.lt;have hH1:w.heap.size+1<wr.heap.size:=HC.out.lt;revert hH hH1;exact k_):G:=h c
theorem Nh(h:G:=by rw[Array.getElem?_setIfInBounds_ne zy,Array.getElem?_map,ha];simp[woken_running hr]):G:=h
theorem Oh(c:H)(h:(Unit->H)->G:=by intro k_;have hc3:World.cell? _ ⟨K.sb,i*4+3,Ai⟩=yi (.bool (C i).anew):=(Si.cell (r:=um K fs) hF hx.s (j:=i*4+3) F4).trans (congrArg yi hc.anew);revert hc3;exact k_ ()):G:=h fun _=>c
theorem Ph(h:G:=by go_wp2_with fail;exact⟨⟨j+1,E0,J1⟩,U1⟩):G:=h
theorem Qh(h:G:=by go_wp2_with fail;exact⟨⟨k+1,E0,J1⟩,U1⟩):G:=h
theorem Rh(h:G:=by rw[Array.all_eq_true_iff_forall_mem]at this;exact this o (Array.mem_of_getElem? ho)):G:=h
theorem Uh(h:G:=by obtain⟨_,_,_,_,_,_,_,_,_,h1,_⟩:=hw;have e1:w'.tape=τ:=h1.ph.tape;rw[<-e1];rfl):G:=h
theorem Vh(h:G:=by go_wp2_with fail;go_ret;exact⟨rfl,HG.out⟩):G:=h
theorem Wh(h:G:=by simp[Value.ownBlock]at hb):G:=h
theorem Xh(h:G:=by go_enter func87,ntmps87;go_wp2;go_ret;exact sk.no (fun h=>K4) (HB.out _)):G:=h
theorem Yh(c:H)(h:H->G:=by intro k_;simp only[stepG.apply,if_true,hr,SE,GStep.after,early,hfo,hg];exact k_):G:=h c
theorem Zh(h:G:=by (intro e he;have hm:=mem_listed he;simp[go_sem,N_, *]at hm;subst hm;exact rfl)):G:=h
theorem ai(c:H)(h:(Unit->H)->G:=by intro k_;refine Ci.xk Di G2 ?_;refine Ci.exit Di rfl ?_;exact k_ ()):G:=h fun _=>c
theorem di(c:H)(h:H->G:=by intro k_;refine bodyPost_end (results_none rfl _ _ _) rfl ?_;rw[HW.out];exact k_):G:=h c
end
end Go.Proofs.YtdoghgnifkgfdaaGreat
