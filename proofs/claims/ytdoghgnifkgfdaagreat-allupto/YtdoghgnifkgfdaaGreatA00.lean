import GoSem.Step
import Derived.Laws.Sem
import Derived.Conc.Own
import Derived.Conc.LoneCalls
import Derived.Conc.Beside
import Derived.RunT
import Derived.Conc.TokenTrace
import Derived.Conc.Token
import Derived.Conc.CrowdComm
import Derived.Conc.CompanyMem
import Derived.Conc.Own3
import Derived.Conc.Own4
import Derived.Conc.Own5
import Derived.Orders
import Derived.Conc.LeavingOf
import Derived.WalkKit
import Derived.WalkSpells
import Derived.WalkLawsBesides
import Derived.Deep.AppendLies
import Derived.Laws.CopyOwn
import Derived.BigQuiet
import Derived.Deep.QuietTactic
import Derived.WalkSmall
import Derived.Deep.RegionLaw
import Derived.Deep.RegionHeld3
import Derived.Maps.OwnSet
import Derived.Maps.Own
import Derived.Maps.OwnOps
import Derived.Maps.Views
import Derived.DeepKeys4
import Derived.Deep.RegionWith
import Derived.Deep.MidRow
import Derived.Laws.ResultCell
import Derived.Laws.Rows
import Derived.Deep.Cut
import Derived.ProofKit
import Derived.SizedLaws
import Derived.Deep.Slices
import Derived.Lib.SmallJoins
import Derived.Conc.DeferLaws
import Derived.Conc.AppendEvents3
import Derived.Conc.PipeWords
import Derived.Conc.TokenWalk
import Derived.Conc.AppendWalk
import Derived.Conc.SmallLaws
import Derived.Conc.EventLaws2
import Derived.Lib.SliceRun
import Derived.KernelRfl
import Derived.Shelf.SortM.Plain
import Derived.Ground.SlgmProg
import Derived.JoinedCond
import Derived.Test.YtdoghgnifkgfdaaGreatProg
namespace Go.Proofs.YtdoghgnifkgfdaaGreat
open Go Go.Conc Go.RowKit Tryz
section
variable {G H I J K L M N:Prop}
theorem E0(h:G:=by omega):G:=h
theorem I0(h:G:=by rfl):G:=h
theorem J0(h:G:=by kernel_rfl):G:=h
theorem P0(h:G:=by simp):G:=h
theorem T0(h:G:=by first|kernel_rfl|decide +kernel):G:=h
theorem U0(h:G:=by decide):G:=h
theorem A1(h:G:=by simp;omega):G:=h
theorem E1(h:G:=by go_num):G:=h
theorem J1(h:G:=by simp[base]):G:=h
theorem U1(h:G:=by simp[intOf];omega):G:=h
theorem Y1(h:G:=by simp only[maxLen];omega):G:=h
theorem D2(h:G:=by simp[Value.oneCell']):G:=h
theorem E2(h:G:=by simpa using hj):G:=h
theorem G2(h:G:=by exact alloc_at rfl):G:=h
theorem J2(h:G:=by first|rfl|simp[Act.eval]):G:=h
theorem U2(h:G:=by have e1:=congrArg Addr.block e;simp only at e1;omega):G:=h
theorem V2(h:G:=by rw[e];rfl):G:=h
theorem X2(h:G:=by simpa using h):G:=h
theorem Y2(h:G:=by show _<r.m;omega):G:=h
theorem Z2(h:G:=by rw[e];simp):G:=h
theorem D3(h:G:=by simp at hj;omega):G:=h
theorem E3(h:G:=by rw[touchAt_of eE];exact hxa):G:=h
theorem G3(h:G:=by rw[hf];exact x.2):G:=h
theorem I3(h:G:=by cases e):G:=h
theorem J3(h:G:=by exact alloc_at (size_setCell _ _ _)):G:=h
theorem M3(h:G:=by first|exact Io|(simp only[List.append_assoc]at Io ⊢;exact Io)):G:=h
theorem U3(h:G:=by rw[if_pos rfl]):G:=h
theorem V3(h:G:=by simp[qq]):G:=h
theorem X3(h:G:=by cases h):G:=h
theorem Y3(h:G:=by rw[Vv];simp only[stepG.exec,ht];simp[G]):G:=h
theorem Z3(h:G:=by rw[Eu];simp only[stepG.exec,IL];simp[G,ny]):G:=h
theorem j4(h:G:=by decide +kernel):G:=h
theorem D4(h:G:=by simp at h):G:=h
theorem E4(h:G:=by rw[size_setCell];omega):G:=h
theorem F4(h:G:=by first|exact tp Po.out _ _|exact(tp Po.out _ _).drew|exact(tp Po.out _ _).drew.drew|exact(tp Po.out _ _).drew.drew.drew|exact(tp Po.out _ _).drew.drew.drew.drew):G:=h
theorem G4(h:G:=by rw[<-e];exact hb):G:=h
theorem J4(h:G:=by show _<K.sm;omega):G:=h
theorem K4(h:G:=by rcases ht with rfl|rfl|rfl<;>decide):G:=h
theorem M4(h:G:=by rw[Yn];rfl):G:=h
theorem N4(h:G:=by rw[Nu];omega):G:=h
theorem O4(h:G:=by simp[uq,hj]):G:=h
theorem P4(h:G:=by have:=h.1;omega):G:=h
theorem S4(h:G:=by rw[e];first|omega|simp):G:=h
theorem X4(h:G:=by simp at hk;omega):G:=h
theorem Y4(h:G:=by simp[Value.ownBlock]):G:=h
theorem Z4(h:G:=by simpa using yo):G:=h
theorem j5(h:G:=by first|exact Po.out|exact Po.out.drew|exact Po.out.drew.drew|exact Po.out.drew.drew.drew|exact Po.out.drew.drew.drew.drew):G:=h
theorem l5(h:G:=by rw[<-e];exact hg):G:=h
theorem y5(h:G:=by show _<K.qm;omega):G:=h
theorem A5(h:G:=by rw[vH.out];omega):G:=h
theorem B5(h:G:=by simpa using HNE.out):G:=h
theorem D5(h:G:=by simpa using hn):G:=h
theorem E5(h:G:=by simp[Neutral]):G:=h
theorem F5(h:G:=by rw[<-hf];exact h0):G:=h
theorem G5(h:G:=by rw[<-x];exact hb):G:=h
theorem H5(h:G:=by exact HS.out.below (HB.out _ _)):G:=h
theorem I5(h:G:=by rw[Dt];exact Ht):G:=h
theorem J5(h:G:=by obtain⟨e,_,rfl⟩:=Go.Conc.mem_ofEvents ep;rfl):G:=h
theorem K5(h:G:=by simpa using h1):G:=h
theorem M5(h:G:=by simpa using g2):G:=h
theorem O5(h:G:=by exact rO.out _):G:=h
theorem P5(h:G:=by first|rfl|simp):G:=h
theorem Q5(h:G:=by have:=Option.some.inj e;omega):G:=h
theorem S5(h:G:=by rw[ho];omega):G:=h
theorem U5(h:G:=by rw[Xx];omega):G:=h
theorem V5(h:G:=by have:=HZO.out;omega):G:=h
theorem X5(h:G:=by simpa using hc):G:=h
theorem Z5(h:G:=by have:=B0.out;omega):G:=h
theorem d6(h:G:=by simpa[Gp,KG.out,qO.out]using CX):G:=h
theorem j6(h:G:=by rw[size_setCell];exact h.size):G:=h
theorem l6(h:G:=by simp only[decide_eq_true_eq];omega):G:=h
theorem s6(h:G:=by simp only[maxLen];have:=HBn.out;omega):G:=h
theorem t6(h:G:=by have:=HBn.out;omega):G:=h
theorem A6(h:G:=by simp[Value.ownBlock]at hj;omega):G:=h
theorem B6(h:G:=by first|exact Om _|(show w1.heap.size<=(w1.alloc _).heap.size;simp)):G:=h
theorem D6(h:G:=by simpa[Value.ownBlock]using hb):G:=h
theorem E6(h:G:=by simp only[List.take_succ_cons,List.take_zero]<;>rfl):G:=h
theorem F6(h:G:=by rw[hB];exact HA.out.drew):G:=h
theorem G6(h:G:=by have:=h2 y hy;omega):G:=h
theorem H6(h:G:=by first|rfl|(simp[Act.eval];omega)):G:=h
theorem I6(h:G:=by rw[size_setCell];exact Qm h.but.size hs):G:=h
theorem J6(h:G:=by show w.heap.size<_;omega):G:=h
theorem K6(h:G:=by simpa using fun q=>this ⟨h,q⟩):G:=h
theorem M6(h:G:=by simpa using World.ownsRow_nil _ _ _ _):G:=h
theorem N6(h:G:=by have:=EB.out.size;simp at this;omega):G:=h
theorem O6(h:G:=by simpa[Ro,ep]using hp):G:=h
theorem P6(h:G:=by simpa[World.setCell]using h.hB):G:=h
theorem Q6(h:G:=by simpa[World.setCell]using h.hc):G:=h
theorem U6(h:G:=by simp[Frame.raise,Frame.at]):G:=h
theorem V6(h:G:=by rw[Vv];simp only[stepG.exec,ht,hx];simp[G]):G:=h
theorem W6(h:G:=by show Gc<(W.alloc _).heap.size;simp;omega):G:=h
theorem X6(h:G:=by show b<(W.alloc _).heap.size;simp;omega):G:=h
theorem Y6(h:G:=by rw[<-hB];exact HF.out.blk):G:=h
theorem j7(h:G:=by show (C N.toNat).wait.length<=_;omega):G:=h
theorem l7(h:G:=by show (C N.toNat).sent.length<=_;omega):G:=h
theorem s7(h:G:=by first|rfl|simp[Act.eval,lG]):G:=h
theorem y7(h:G:=by rw[List.mem_singleton.1 hu]at hb;exact y_.out.lt b hb):G:=h
theorem A7(h:G:=by have:=HNE.out _ e.symm;omega):G:=h
theorem D7(h:G:=by have:=(Pz.out b hb).1;omega):G:=h
theorem E7(h:G:=by simpa[List.append_assoc]using H4.out):G:=h
theorem G7(h:G:=by show _=_;rw[size_setCell,size_setCell];exact HZ.out):G:=h
theorem H7(h:G:=by show _=_;rw[size_setCell,size_setCell,size_setCell];exact HZ.out):G:=h
theorem J7(h:G:=by exact(TP.out.drew.alloc (by show wr.heap.size<=wp.heap.size;omega) _)):G:=h
theorem K7(h:G:=by simp only[bne_eq_false_iff_eq]at hx;subst hx;simp;rfl):G:=h
theorem O7(h:G:=by have:=XR.out _ _ (Om _) h;have:=HHH.out.2.1 hn;omega):G:=h
theorem P7(h:G:=by simp[Array.getD,yo,(Array.getElem?_eq_some_iff.1 ho).2]):G:=h
theorem U7(h:G:=by rw[Eu];simp only[stepG.exec,IL,hxs];simp[G,ny]):G:=h
theorem V7(h:G:=by first|exact HT.out.rL HR.out.lt|(rw[<-HM.out];exact HT.out.rL HR.out.lt)):G:=h
theorem X7(h:G:=by show _<=(V1.setCell _ _).heap.size;rw[size_setCell];exact HV3.out.size):G:=h
theorem a8(h:G:=by rw[HL.out.s46,<-HS1.out];first|rfl|(rw[w64])|(rw[<-w64])):G:=h
theorem l8(h:G:=by rw[Yn];show Gn (Value.int .i64 (Wn z 47 NF 47))=_;rw[uv]):G:=h
theorem v8(h:G:=by rw[Yn];rcases five hj with rfl|rfl|rfl|rfl|rfl<;>rfl):G:=h
theorem y8(h:G:=by rw[upd_ne _ _ E0];exact hc.lost):G:=h
theorem A8(h:G:=by rw[upd_ne _ _ E0];exact a1):G:=h
theorem D8(h:G:=by rw[upd_ne _ _ E0];exact a2):G:=h
theorem E8(h:G:=by rw[Rx,if_pos E0,if_neg E0]):G:=h
theorem F8(h:G:=by rw[Fo E0];exact h.s):G:=h
theorem G8(h:G:=by rw[Fo E0];exact h.q):G:=h
theorem H8(h:G:=by rw[List.mem_singleton.1 hu];exact Ot.ZS y_.out E0):G:=h
theorem I8(h:G:=by exact xo HO.out ((kD.out.setCell (Om _) _).alloc E4 _)):G:=h
theorem J8(h:G:=by rw[List.getElem?_append_right E0,hl,Nat.sub_self];rfl):G:=h
theorem K8(h:G:=by simp[go_sem,events_indexAt_array (P:=prog) 37 2 4 ⟨g,25,Hn⟩ .i64 (R:Int) underlying37 ⟨E0,E0⟩]):G:=h
theorem L8(h:G:=by simp[go_sem,events_indexAt_array (P:=prog) 37 2 4 ⟨g,25,Hn⟩ .i64 (A:Int) underlying37 ⟨E0,E0⟩]):G:=h
theorem M8(h:G:=by show Wn z 47 NF i=_;rw[Kr _ _ E0];exact HL.out.old i (.inl dV)):G:=h
theorem N8(h:G:=by exact Om _):G:=h
theorem O8(h:G:=by exact fun _ _ h r=>ko.rely h r):G:=h
theorem P8(h:G:=by exact(Below.refl _ _).alloc (Om _) _):G:=h
theorem Q8(h:G:=by exact fun _ _ h r=>Is.rely h r):G:=h
theorem S8(h:G:=by exact fun _ _ _ h=>h.elim):G:=h
theorem T8(h:G:=by exact fun _ _ ⟨RS,z1,jv,h⟩ r=>⟨RS,z1,jv,ko.rely h r⟩):G:=h
theorem U8(h:G:=by exact fun _ _ h r=>jx.rely h r):G:=h
theorem V8(h:G:=by exact fun _ _ _ _ h _=>h.elim):G:=h
theorem W8(h:G:=by exact fun _ _ h r=>Kn.rely h r):G:=h
theorem X8(h:G:=by exact fun _ _ _ _ h r=>⟨h.1,h.2.rely L.Nn.trans r⟩):G:=h
theorem Y8(h:G:=by exact fun _ _ h r=>Mt.rely h r):G:=h
theorem Z8(h:G:=by exact fun _ _ ⟨z1,h⟩ r=>⟨z1,ko.rely h r⟩):G:=h
theorem b9(h:G:=by exact fun _ _ _ _ h r=>⟨h.1,h.2.rely Rn.trans r⟩):G:=h
theorem j9(h:G:=by exact Jq.refl _ _):G:=h
theorem k9(h:G:=by exact Below.refl _ _):G:=h
theorem l9(h:G:=by exact fun _ _ h=>h.elim):G:=h
theorem s9(h:G:=by exact Pm _):G:=h
theorem y9(h:G:=by exact Qm h.but.size x):G:=h
theorem D9(h:G:=by exact Nat.lt_trans lGc sA):G:=h
theorem E9(h:G:=by exact Nat.le_of_lt sA):G:=h
theorem F9(h:G:=by exact Qm B6 GY):G:=h
theorem G9(h:G:=by exact Nat.lt_trans Aw.out.lt sA):G:=h
theorem H9(h:G:=by exact Lm hb h.ph.2.2.2):G:=h
theorem I9(cH:H)(cI:I)(h:H->I->G:=by intro kH kI;go_simp;(try(unfold stored;go_simp));refine hK _ _ ⟨?_,?_⟩;exact kH;exact kI):G:=h cH cI
theorem J9(c:H)(h:H->G:=by intro k_;(repeat refine .c1 L.Nn rfl ?_);exact k_):G:=h c
theorem K9(c:H)(h:H->G:=by intro k_;refine .op rfl I0 hk fun w1 hR K hK=>?_;replace hF:=hF.rely hR;clear hR;revert w1 K hK hF;exact k_):G:=h c
theorem L9(c:H)(h:H->G:=by intro k_;refine .Un L.Nn [0,1] I0 ?_;(iterate 2 (refine .Yo L.Nn rfl I0 hk ?_;try walk_nrm));exact k_):G:=h c
theorem M9(c:H)(h:H->G:=by intro k_;refine .Yo L.Nn rfl I0 hk ?_;(try walk_nrm);exact k_):G:=h c
theorem N9(c:H)(h:H->G:=by intro k_;refine .op rfl I0 hk fun w1 hR K_ hK=>?_;replace hF:=hF.rely hR;clear hR;revert w1 K_ hK hF;exact k_):G:=h c
theorem O9(c:H)(h:H->G:=by intro k_;(iterate 3 (refine .Yo L.Nn rfl I0 hk ?_;try walk_nrm));exact k_):G:=h c
theorem P9(c:H)(h:H->G:=by intro k_;have HB:Hid (∀o o',Sm w.heap.size w ((w.alloc o).alloc o')):=fun o o'=>((Below.refl _ _).alloc N8 _).alloc P0 _;revert HB;exact k_):G:=h c
theorem Q9(c:H)(h:(Unit->H)->G:=by intro k_;have hc:World.cell? _ ⟨g,25+R,Hn⟩=Gn (.int .i64 ((Wn (Wn z 46 (IntKind.i64.wrap (z 46+1))) 45 ((nx:Int)+1)) (25+R))):=ko.cz hi hw E0 E0;revert hc;exact k_ ()):G:=h fun _=>c
theorem R9(c:H)(h:(Unit->H)->G:=by intro k_;have hc:World.cell? _ ⟨g,25+A,Hn⟩=Gn (.int .i64 ((Wn (Wn z 46 (IntKind.i64.wrap (z 46+1))) 45 ((nx:Int)+1)) (25+A))):=ko.cz hi hw E0 E0;revert hc;exact k_ ()):G:=h fun _=>c
theorem S9(c:H)(h:H->G:=by intro k_;(repeat refine .c1 Rn rfl ?_);exact k_):G:=h c
theorem T9(h:G:=by co_evs (exact⟨_,rfl⟩)):G:=h
theorem U9(c:H)(h:H->G:=by intro k_;have HA:Hid (∀o,Sm w.heap.size w (w.alloc o)):=fun o=>(Below.refl _ _).alloc N8 _;revert HA;exact k_):G:=h c
theorem V9(c:H)(h:H->G:=by intro k_;refine .Yo Rn rfl I0 hk ?_;(try walk_nrm);exact k_):G:=h c
theorem W9(c:H)(h:H->G:=by intro k_;(iterate 2 (refine .Yo L.Nn rfl I0 hk ?_;try walk_nrm));exact k_):G:=h c
theorem X9(h:G:=by refine Pn.ret L.Nn fun todo=>?_;exact tt _ todo _ _ rfl (Fp L.Nn I0 _) ⟨I0,hF.drop⟩):G:=h
theorem Y9(h:G:=by rintro e V ⟨rfl,rfl⟩;go_wp2_with fail;have nP:∀(V:En)(v:Dn),(V.setCell ⟨Gc,n*26+r,Hn⟩ v).cell? ⟨B,1,Hn⟩=V.cell? ⟨B,1,Hn⟩:=fun V v=>World.cell?_setCell_other _ _ _ _ (fun e=>U2);go_region_held3 (fun W=>W.cell? ⟨B,1,Hn⟩=Gn (.int .i64 r)) (go_keep) (fail);clear nP;go_wp2_with fail;go_ret;(try rw[Uz.out,zy.out]);exact⟨rfl,Tn.ZF (i:=r) Kt.out E0 rfl _,F4⟩):G:=h
theorem Z9(c:H)(h:H->G:=by intro k_;refine Vn L.Nn 0 O8 hF ?_;(try walk_nrm);refine Vn L.Nn 1 O8 hF ?_;(try walk_nrm);exact k_):G:=h c
theorem da(h:G:=by (intro e he;have hm:=mem_listed he;simp[go_sem, *]at hm)):G:=h
theorem ga(c:H)(h:(Unit->H)->G:=by intro k_;have hc:World.cell? _ ⟨g,25+R,Hn⟩=Gn (.int .i64 ((Wn (Wn z 46 (IntKind.i64.wrap (z 46+1))) 45 ((nx:Int)+1)) (25+R))):=ko.cz hi hF E0 E0;revert hc;exact k_ ()):G:=h fun _=>c
theorem ia(h:G:=by rintro e w2 ⟨rfl,oD,us,S,r1,r2,r3⟩;have R1:Hid (us.length=4):=r1;have R2:Hid (wl.heap.size<=S):=r2;have R3:Hid _:=r3;clear r1 r2 r3;go_wp2_with fail;go_ret;exact⟨rfl,oD,us,S,w0.heap.size,R1.out,Nat.le_of_lt sA,Qm YQ.out R2.out,R3.out.back kD.out⟩):G:=h
theorem ja(c:H)(h:H->G:=by intro k_;refine .Un L.Nn [0] I0 ?_;exact k_):G:=h c
theorem oa(c:H)(h:(Unit->H)->G:=by intro k_;have lK:K<w.heap.size:=Wm h2;have pJ:Kb<w.heap.size:=Wm h4;have nK:K≠w.heap.size:=E0;have nKb:Kb≠w.heap.size:=E0;revert lK pJ nK nKb;exact k_ ()):G:=h fun _=>c
theorem qa(cH:H)(cI:I)(cJ:J)(h:H->I->J->G:=by intro kH kI kJ;go_simp;(try(unfold stored;go_simp));refine hK _ _ ⟨?_,?_,?_⟩;exact kH;exact kI;exact kJ):G:=h cH cI cJ
theorem ua(h:G:=by have HS:Hid (Sl w p (c.Zo*3) (fun j=>.int .i64 (c.ch j))):=hs;have HN:Hid (24*c.Zo<=140737488355328):=hb;clear hs hb;go_enter func69,ntmps69;go_wp2_with (go_at_call 87;refine(OG c _ _ _ p cap _ _ _ _ H5 HN.out).mono ?_;rintro e w' ⟨b,rfl,fG,Dq⟩);go_ret;exact Vq.of fG ((HB.out _ _).trans (Dq.mono A1))):G:=h
theorem ya(c:H)(h:H->G:=by intro k_;unfold execOp;simp only[ep];exact k_):G:=h c
theorem za(c:H)(h:(Unit->H)->G:=by intro k_;(try walk_nrm);refine Fq T0 ?_ _;exact k_ ()):G:=h fun _=>c
theorem Aa(c:H)(h:H->G:=by intro k_;have d2:=(Ox.out.cell (p:=⟨K,2,Hn⟩) lK).trans h2;have d4:=(Ox.out.cell (p:=⟨Kb,4,Hn⟩) pJ).trans h4;revert d2 d4;exact k_):G:=h c
theorem Ba(c:H)(h:(Unit->H)->G:=by intro k_;have hc:World.cell? _ ⟨g,1,Hn⟩=Gn (.pointer (Gn ⟨nb,0,Hn⟩)):=hw.cell (ao (hgs RS jv) _) (j:=1) (show 1<48 by omega);revert hc;exact k_ ()):G:=h fun _=>c
theorem Da(h:G:=by clear Io Zp jr yo HP OH3 H3;go_wp2_with fail;go_end0;exact⟨rfl,_,[(.slice pl q cl),(.slice (Gn ⟨g1,0,Hn⟩) (q+1:Nat) gp),(.slice (Gn ⟨g2,0,Hn⟩) (q+2:Nat) dq),(.slice (Gn ⟨g3,0,Hn⟩) (q+3:Nat) Lq)],w3.heap.size,rfl,hS,E7⟩):G:=h
theorem Ea(h:G:=by exact jq plain (zo plain func7 J0 _) J0 _):G:=h
theorem Fa(c:H)(h:(Unit->H)->G:=by intro k_;have d0:World.cell? _ ⟨cb,co+nx*4,Hn⟩=Gn (.int .i64 (ci (nx*4))):=(hw.Xo (a:=⟨cb,co+nx*4,Hn⟩) hs).trans (Np (nx*4) E0);have d1:World.cell? _ ⟨cb,co+nx*4+1,Hn⟩=Gn (.int .i64 (ci (nx*4+1))):=(hw.Xo (a:=⟨cb,co+nx*4+1,Hn⟩) hs).trans (Np (nx*4+1) E0);have d2:World.cell? _ ⟨cb,co+nx*4+2,Hn⟩=Gn (.int .i64 (ci (nx*4+2))):=(hw.Xo (a:=⟨cb,co+nx*4+2,Hn⟩) hs).trans (Np (nx*4+2) E0);have d3:World.cell? _ ⟨cb,co+nx*4+3,Hn⟩=Gn (.int .i64 (ci (nx*4+3))):=(hw.Xo (a:=⟨cb,co+nx*4+3,Hn⟩) hs).trans (Np (nx*4+3) E0);revert d0 d1 d2 d3;exact k_ ()):G:=h fun _=>c
theorem Ha(c:H)(h:H->G:=by intro k_;refine .Un L.Nn [0,1,2,3,4,5] I0 ?_;exact k_):G:=h c
theorem Ia(c:H)(h:H->G:=by intro k_;(try walk_nrm);exact k_):G:=h c
theorem Ja(c:H)(h:H->G:=by intro k_;(iterate 4 (refine .Yo L.Nn rfl I0 hk ?_;try walk_nrm));exact k_):G:=h c
theorem La(c:H)(h:H->G:=by intro k_;refine .Un L.Nn [0,1,2] I0 ?_;exact k_):G:=h c
theorem Na(c:H)(h:H->G:=by intro k_;(iterate 3 (refine .Yo Rn rfl I0 hk ?_;try walk_nrm));exact k_):G:=h c
theorem Oa(c:H)(h:H->G:=by intro k_;refine Pn.vr L.Nn I0 ?_;exact k_):G:=h c
theorem Qa(h:G:=by rintro e w' ⟨rfl,hgr,NY⟩;have y0:=Qp (hgr.cell x0 (fun e=>by have:=Option.some.inj e;simp only at this;omega));have y1:=Qp (HKb.out.of_heap (hgr.block _ HKb.out.lt (fun e=>Q5)));have HB':=Qp (HB.out.grown hgr HB.out.size (fun j hj=>D3));have HR':=Qp (NY.congr fun j _=>tQ c k (H16.out k yo) j);have y2:=Qp (HL.out.of_heap (hgr.block _ HL.out.lt (fun e=>Q5)));go_wp2_with fail;exact⟨⟨k+1,E0,E1,HB',y0,y1,HR',y2⟩,U1⟩):G:=h
theorem Ta(c:H)(h:H->G:=by intro k_;refine hF.Yq (k:=0) rfl ?_;exact k_):G:=h c
theorem Ua(c:H)(h:H->G:=by intro k_;have kX:Hid (∀b,ve.ownBlock=Gn b->b<w.heap.size/\b≠bw):=fun b hb=>⟨(hE.lt b hb).2,fun e=>eI (e▸hb)⟩;revert kX;exact k_):G:=h c
theorem Va(c:H)(h:H->G:=by intro k_;(iterate 2 (refine .Yo Rn rfl I0 hk ?_;try walk_nrm));exact k_):G:=h c
theorem Wa(c:H)(h:H->G:=by intro k_;(try rw[Uz.out]);(try rw[zy.out]);exact k_):G:=h c
theorem Xa(c:H)(h:H->G:=by intro k_;refine .Un L.Nn [0,1,2,3,4,5,6] I0 ?_;exact k_):G:=h c
theorem Ya(h:G:=by rintro v w₁ τ d d' ⟨h1,τ',d'',h2⟩;refine⟨h1,d',?_⟩;have e:xq w₁ w.tape d'=xq (xq w₁ τ d) w.tape d':=rfl;rw[e,h2];rfl):G:=h
theorem Za(c:H)(h:(Unit->H)->G:=by intro k_;have nP:∀(V:En)(v:Dn),(V.setCell ⟨Gc,n*26+r,Hn⟩ v).cell? ⟨B,1,Hn⟩=V.cell? ⟨B,1,Hn⟩:=fun V v=>World.cell?_setCell_other _ _ _ _ (fun e=>U2);revert nP;exact k_ ()):G:=h fun _=>c
theorem jb(h:G:=by intro K hK;skip;go_simp;exact hK):G:=h
theorem mb(h:G:=by refine Pn.fin L.Nn ?_;exact tt _ [] _ _ rfl (Ep L.Nn I0 _) ⟨rfl,hF.drop⟩):G:=h
theorem vb(h:G:=by go_enter func133,ntmps133;go_wp2_with (at_lookup;refine wpList_lookup_own_ok_int _ rfl _ _ 204 rfl 231 3 .i64 yD underlying204 underlying3 (TL _) b m D rfl ((HO.out.alloc _).alloc _) _ kl rfl HK.out ?_;intro v jr hwv;have HV:=HY.out v jr;clear jr hwv;have HV':Hid _:=HV;clear HV);go_ret;exact Vq.of (b:=(v==cell)) HV'.out (HB.out _ _)):G:=h
theorem yb(c:H)(h:(Unit->H)->G:=by intro k_;have mS:w.heap.size<=nb+1:=Nat.le_succ_of_le (Qm H00.out.size F9);have eO:Hid (w.heap.size<=nb/\∃ve vq vs,Tn wl nb 3 149 (cells3 ve vq vs)/\(∃p cap,ve=.slice p c.Zo cap)/\(∃p cap,vq=.slice p c.Zo cap)/\(∃p cap,vs=.slice p c.Zo cap)/\N00 w.heap.size c ve vq vs wl):=⟨Qm H00.out.size F9,ve,vq,vs,hr3,aD kO,aD IY,aD ho3,qx kO mS,qx IY mS,qx ho3 mS⟩;revert mS eO;exact k_ ()):G:=h fun _=>c
theorem zb(h:G:=by subst gy;rw[Array.getElem?_setIfInBounds_self_of_lt Z4]at hx;obtain rfl:=Option.some.inj hx;rw[upd_same,Deaf_own];exact tX):G:=h
theorem Ab(c:H)(h:H->G:=by intro k_;obtain⟨a0,a1,a2,a3⟩:=hw.Zu (k:=0) rfl;refine hw.Yq (k:=0) rfl ?_;revert a0 a1 a2 a3;exact k_):G:=h c
theorem Cb(c:H)(h:H->G:=by intro k_;(iterate 2 (refine .Un L.Nn [0,1] I0 ?_;iterate 2 (refine .Yo L.Nn rfl I0 hk ?_;try walk_nrm);repeat refine .c1 L.Nn rfl ?_;refine .Zq L.Nn I0 ?_;repeat refine .c1 L.Nn rfl ?_));exact k_):G:=h c
theorem Db(c:H)(h:H->G:=by intro k_;(iterate 4 (refine .Un L.Nn [0,1] I0 ?_;iterate 2 (refine .Yo L.Nn rfl I0 hk ?_;try walk_nrm);repeat refine .c1 L.Nn rfl ?_;refine .Zq L.Nn I0 ?_;repeat refine .c1 L.Nn rfl ?_));exact k_):G:=h c
theorem Eb(c:H)(h:H->G:=by intro k_;(iterate 5 (refine .Un L.Nn [0,1] I0 ?_;iterate 2 (refine .Yo L.Nn rfl I0 hk ?_;try walk_nrm);repeat refine .c1 L.Nn rfl ?_;refine .Zq L.Nn I0 ?_;repeat refine .c1 L.Nn rfl ?_));exact k_):G:=h c
theorem Fb(h:G:=by refine Pn.vr Rn J2 ?_;(iterate 2 refine .c1 Rn rfl ?_);refine .stop rfl fun w9 hR=>?_;exact LP n (i*206) (i) (i*4) w9 _ _ _ _ _ _ _ _ _ _ _ _ _ _ _ _ _ _ _ _ _ _ _ _ _ _ _ _ _ _ _ _ _ _ _ _ _ _ _ _ _ _ _ _ _ _ _ _ _ _ _ _ _ _ _ _ _ _ _ _ _ _ _ _ _ _ _ _ _ _ _ _ _ _ _ _ _ _ _ _ _ _ _ _ _ _ _ _ _ _ _ _ _ _ _ E0 E0 E0 E0 E0 (hIO.is (hF.rely hR))):G:=h
theorem Ib(c:H)(h:(Unit->H)->G:=by intro k_;have HW:=Qp hw;have HA:Hid (Sm w.heap.size w (w.alloc (.cells #[.int .i64 13,.int .i64 R,.int .i64 A,.int .i64 N] 97))):=(Below.refl _ _).alloc N8 _;have HB:=row4 w (.int .i64 13) (.int .i64 R) (.int .i64 A) (.int .i64 N) 97;have HR:Hid (Tn (w.alloc (.cells #[.int .i64 13,.int .i64 R,.int .i64 A,.int .i64 N] 97)) Lb (kc*5) 175 (eu Ls)):=hr.alloc _;have k5:=(HA.out.cell (p:=⟨Kb,5,Hn⟩) (Rr h5)).trans h5;have b0:=HB.at4.1;have b3:=HB.at4.2.2.2;revert HW HA HB HR k5 b0 b3;exact k_ ()):G:=h fun _=>c
theorem Jb(c:H)(h:(Unit->H)->G:=by intro k_;have QM:World.cell? _ ⟨K.sb,i*4+1,Hn⟩=Gn (.int .i64 (C i).age):=(ko.cell (r:=Ft K fs) hF hx.s (j:=i*4+1) J4).trans (congrArg Gn hc.age);revert QM;exact k_ ()):G:=h fun _=>c
theorem Nb(h:G:=by have lH:R0 w (w₂.at d):=U.t0 _ _ _ S_ (U.kH _ d);obtain⟨XH,hD⟩:=h01 _ lH;obtain⟨dr,ops,r1,r2,r3,r4,r5⟩:=hC.tP (d:=d) (sl:=sl) U ha hb (Tq qK) XH hD;exact⟨dr,_,sl,ops,r1,r2,ih0 _ lH (hB.rely U.t1 (U.t1 _ _ _ yE (U.t1 _ _ _ (U.gR _ d) (U.d01 _ _ _ hD)))) _ dr sl (t++ops) q (zK U _) (jE U _) r3 r4 r5⟩):G:=h
theorem Ob(c:H)(h:(Unit->H)->G:=by intro k_;have S0:Hid (Sl w p0 (c.nC*3) F0):=s0;have K0:Hid (∀i,i<c.nC->FC w (F0 (i*3)) (c.Jt i) (c.Ho i) 4 (c.code i) 32/\FC w (F0 (i*3+1)) (c.Vt i) (c.Hq i) 1 (c.img i) 8/\F0 (i*3+2)=.int .i64 (c.lim i)):=k0;revert S0 K0;exact k_ ()):G:=h fun _=>c
theorem Qb(h:G:=by have HS:Hid (Sl w p (c.Zo*3) (fun j=>.int .i64 (c.ch j))):=hs;have HN:Hid (24*c.Zo<=140737488355328):=hb;clear hs hb;go_enter func69,ntmps69;go_wp2_with (go_at_call 87;refine(GH c _ _ _ p cap _ _ _ _ H5 HN.out).mono ?_;rintro e w' ⟨b,rfl,fG,Dq⟩);go_ret;exact Vq.of fG ((HB.out _ _).trans (Dq.mono A1))):G:=h
theorem Rb(h:G:=by refine ko.Px hi hF (25+R) _ ?_;co_evs (exact rfl)):G:=h
theorem Ub(h:G:=by have lH:R1 w₁ (w₂.at d):=U.t1 _ _ _ yE (U.gR _ d);obtain⟨XH,hD⟩:=h1 _ lH;obtain⟨dr,ops,r1,r2,r3,r4,r5⟩:=hC.rL (d:=d) (sl:=sl) U ha hb (Tq hs) XH hD;exact⟨dr,_,sl,ops,r1,r2,ih _ lH _ dr sl (t++ops) q (zK U _) (U.t0 _ _ _ S_ (U.t0 _ _ _ (U.kH _ d) (U.d10 _ _ _ hD))) r3 r4 r5⟩):G:=h
theorem Vb(c:H)(h:(Unit->H)->G:=by intro k_;have c0:=hc (k*3) E0;have c1:=hc (k*3+1) E0;have c2:=hc (k*3+2) E0;revert c0 c1 c2;exact k_ ()):G:=h fun _=>c
theorem Wb(c:H)(h:H->G:=by intro k_;have hc:World.cell? _ ⟨k.kb,0,Hn⟩=Gn (.slice (Gn ⟨tb,0,Hn⟩) nT cT):=(jx.cell hw (a:=⟨k.kb,0,Hn⟩) hS.EW).trans h0;revert hc;exact k_):G:=h c
theorem Xb(c:H)(h:H->G:=by intro k_;have zu:World.frozen? _ ⟨g,25+R,Hn⟩=false:=ko.FO hi hF (25+R);revert zu;exact k_):G:=h c
theorem Yb(h:G:=by (intro e he;have hm:=mem_listed he;simp[go_sem,QU, *]at hm;subst hm;exact rfl)):G:=h
theorem Zb(c:H)(h:(Unit->H)->G:=by intro k_;have iV:(R:Int)<4:=E0;have eV:(A:Int)<4:=E0;revert iV eV;exact k_ ()):G:=h fun _=>c
theorem dc(h:G:=by go_enter func133,ntmps133;go_wp2_with (at_lookup;refine wpList_lookup_own_ok_int _ rfl _ _ 204 rfl 231 3 .i64 yD underlying204 underlying3 (TL _) b m D rfl ((HO.out.alloc _).alloc _) _ kl rfl HK.out ?_;intro v jr hwv;clear jr hwv);go_ret;exact Vq.no HN.out (HB.out _ _)):G:=h
theorem ec(h:G:=by go_enter func114,ntmps114;go_wp2_with fail;go_ret2;exact⟨rfl,rfl⟩):G:=h
theorem jc(c:H)(h:H->G:=by intro k_;obtain⟨a0,a1,a2,a3⟩:=hF.Zu (k:=0) rfl;revert a0 a1 a2 a3;exact k_):G:=h c
theorem uc(c:H)(h:H->G:=by intro k_;refine Ko.Zr ?_;exact k_):G:=h c
theorem xc(c:H)(h:(Unit->H)->G:=by intro k_;intro w1 hR K hK;replace hF:=hF.rely hR;clear hR;have hc:World.cell? _ ⟨g,25+R,Hn⟩=Gn (.int .i64 (z (25+R))):=ko.cz kJ.2 hF E0 E0;have zu:World.frozen? _ ⟨g,25+R,Hn⟩=false:=ko.FO kJ.2 hF (25+R);revert w1 K hK hF hc zu;exact k_ ()):G:=h fun _=>c
theorem yc(c:H)(h:H->G:=by intro k_;have hc:World.cell? _ ⟨kb,4,Hn⟩=Gn (.slice (Gn ⟨T,0,Hn⟩) nC nC):=(hw.Xo (a:=⟨kb,4,Hn⟩) sK).trans cK;revert hc;exact k_):G:=h c
theorem Ac(h:G:=by skip;co_quiet L.Nn):G:=h
theorem Bc(h:G:=by go_wp2_with fail;refine(MB kb nC cC q cell _ h2).mono ?_;rintro e w1 ⟨rfl,rfl⟩;rw[hd];go_wp2_with fail;go_ret2;exact⟨rfl,rfl⟩):G:=h
theorem Cc(h:G:=by refine⟨⟨k+1,E0,E1,HI.out.step HO.out,?_⟩,U1⟩;exact HW.out.trans (Dq.mono HW.out.size)):G:=h
theorem Dc(c:H)(h:H->G:=by intro k_;have Vv:=fun W a n c=>Go.Lib.run_eql_slice_nil (P:=prog) W 50 97 a n c 0 0 underlying50;revert Vv;exact k_):G:=h c
theorem Ec(c:H)(h:H->G:=by intro k_;refine .Un L.Nn [0,1,2,3] I0 ?_;exact k_):G:=h c
theorem Ic(c:H)(h:H->G:=by intro k_;have Vv:=fun W a n c=>Go.Lib.run_eql_slice_nil (P:=prog) W 51 2 a n c 0 0 underlying51;revert Vv;exact k_):G:=h c
theorem Jc(h:G:=by go_wp2_with fail;go_ret;exact⟨rfl,Kt.out,j5⟩):G:=h
theorem Lc(c:H)(h:(Unit->H)->G:=by intro k_;have HAL:Hid (∀o,Sm W.heap.size W (W.alloc o)):=fun o=>(Below.refl _ _).alloc N8 _;have q1:∀o,(W.alloc o).cell? ⟨Gc,n*26+21,Hn⟩=Gn (Q n).nt:=fun o=>((HAL.out o).cell (p:=⟨Gc,n*26+21,Hn⟩) fF).trans ev;have q2:∀o,(W.alloc o).cell? ⟨B,3,Hn⟩=Gn (.int .i64 c):=fun o=>((HAL.out o).cell (p:=⟨B,3,Hn⟩) dL).trans b3;revert HAL q1 q2;exact k_ ()):G:=h fun _=>c
theorem Mc(h:G:=by refine Pn.fin L.Nn ?_;exact tt _ [] _ _ rfl (Ep L.Nn I0 _) ⟨rfl,hF⟩):G:=h
theorem Nc(c:H)(h:(Unit->H)->G:=by intro k_;have hc:World.cell? _ ⟨g,45,Hn⟩=Gn (.int .i64 (z 45)):=hw.zw hi E0 E0;revert hc;exact k_ ()):G:=h fun _=>c
theorem Oc(c:H)(h:(Unit->H)->G:=by intro k_;have st:∀{op N:Int},w.cell? ⟨r.cb n,r.co n+nx*4,Hn⟩=Gn (.int .i64 op)->w.cell? ⟨r.cb n,r.co n+nx*4+3,Hn⟩=Gn (.int .i64 N)->DL r.Kb r.Gc n k.nC r.cq r.bo r.oo (r.cb n) (r.co n) (k.n n) (r.cc n) nx R A op N Q w:=fun c0 c3=>⟨h.h0,h.h4,h.hc n hn,c0,c1,c2,c3,h.row,Nx,hn,yo,h.n48 n hn,xw,vw,gK,gb,gc⟩;revert st;exact k_ ()):G:=h fun _=>c
theorem Qc(c:H)(h:(Unit->H)->G:=by intro k_;have AL:=Qp eB;have HZ2:=Qp (uy.trans vH.out);have Pz:=Qp (Lu.grown jF A5 (fun k hk=>X4));revert AL HZ2 Pz;exact k_ ()):G:=h fun _=>c
theorem Tc(c:H)(h:H->G:=by intro k_;refine Pn.ret L.Nn fun todo=>?_;revert todo;exact k_):G:=h c
theorem Uc(c:H)(h:H->G:=by intro k_;have Qz:Hid ((Value.slice pe me ce).ownBlock≠Gn B/\∀b,(Value.slice pe me ce).ownBlock=Gn b->b<base):=⟨fun e=>(Pz.out B e).2 rfl,fun b hb=>(Pz.out b hb).1⟩;revert Qz;exact k_):G:=h c
theorem Wc(c:H)(h:(Unit->H)->G:=by intro k_;have S1:Hid (Sl w p1 c.nT F1):=s1;have K1:Hid (∀i,i<c.nT->FC w (F1 i) (c.EJ i) (c.nRow i) 2 (c.row i) 16):=k1;have S2:Hid (Sl w p2 (c.Zo*3) (fun j=>.int .i64 (c.ch j))):=s2;revert S1 K1 S2;exact k_ ()):G:=h fun _=>c
theorem Xc(c:H)(h:H->G:=by intro k_;refine .Un L.Nn [0,1] I0 ?_;exact k_):G:=h c
theorem Yc(c:H)(h:H->G:=by intro k_;refine .Un Rn [0] I0 ?_;exact k_):G:=h c
theorem Zc(h:G:=by exact absurd h E0):G:=h
theorem gd(c:H)(h:H->G:=by intro k_;have hk:(base 113).kind≠.early:=J1;revert hk;exact k_):G:=h c
theorem jd(c:H)(h:(Unit->H)->G:=by intro k_;have hc:World.cell? _ ⟨g,1,Hn⟩=Gn (.pointer (Gn ⟨nb,0,Hn⟩)):=hw.cell hi (j:=1) (show 1<48 by omega);revert hc;exact k_ ()):G:=h fun _=>c
theorem od(h:G:=by have FB:=Qp (HR.out.of_heap (uo.block Lb HR.out.lt Y4));have e0':=Tn.yX FB.out (n:=N) (i:=0) (a:=N*5) E0 rfl E0;have f0':=FB.out.frozen (N*5);go_wp2_with fail;go_ret2;exact⟨rfl,_,Tn.lw FB.out rfl _ _,HT.out.but,V7,HT.out.blk⟩):G:=h
theorem qd(c:H)(h:H->G:=by intro k_;refine Pn.unwind L.Nn #[.pointer (Gn ⟨p,0,Hn⟩),.pointer (Gn ⟨c,0,Hn⟩),.pointer (Gn ⟨y,0,Hn⟩),Bn,Bn,Bn,Bn,Bn,Bn,Bn,Bn,Bn,Bn,Bn,Bn,Bn,Bn,Bn,Bn,Bn] (by rw[hm];simp) hd func111 I0 rfl J0 ?_;exact k_):G:=h c
theorem sd(c:H)(h:(Unit->H)->G:=by intro k_;have x0:=rE.out.cell (j:=0) E0;have x2:=rE.out.cell (j:=2) E0;revert x0 x2;exact k_ ()):G:=h fun _=>c
theorem ud(c:H)(h:(Unit->H)->G:=by intro k_;have hc:World.cell? _ ⟨g,2,Hn⟩=Gn (.slice (Gn ⟨cb,co,Hn⟩) n cc):=hw.cell hi (show 2<48 by omega);revert hc;exact k_ ()):G:=h fun _=>c
theorem vd(h:G:=by exact .inr (Ks rfl T0)):G:=h
theorem xd(c:H)(h:H->G:=by intro k_;have hc:World.cell? _ ⟨k.kb,1,Hn⟩=Gn (.int .i64 r):=(jx.cell hw (a:=⟨k.kb,1,Hn⟩) hS.EW).trans hr;revert hc;exact k_):G:=h c
theorem yd(h:G:=by co_evs (exact rfl)):G:=h
theorem zd(c:H)(h:H->G:=by intro k_;refine .Un L.Nn [0,1,2,3,4,5,6,7] I0 ?_;exact k_):G:=h c
theorem Ad(h:G:=by go_ret;exact XL.some ⟨yo,HO.out,HI.out⟩ (HW.out.trans (Dq.mono HW.out.size))):G:=h
theorem Bd(c:H)(h:H->G:=by intro k_;have Ax:Hid (Sm (w.heap.size+1) (w.alloc (.cells #[.slice p0 c.nC yp,.slice p1 c.nT gp,.slice p2 c.Zo dq,.slice p3 c.nD Lq] 28)) w1):=Dq.mono P0;revert Ax;exact k_):G:=h c
theorem Cd(c:H)(h:(Unit->H)->G:=by intro k_;have HF:Hid (yH w W w1 Gc (Q n).nt _ _ g cap (m+1) (xs++[.int .i64 c,.int .i64 x])):=⟨Po.out,uo.os,uo.tape,uo.output,Qm P0 uo.size,fun b hb Yp=>(uo.block b X6 (fun e=>Yp e.symm)).trans (heap_alloc_old W _ hb),kq,jr.imp id (fun e=>S4),HOB.out,fF⟩;revert HF;exact k_ ()):G:=h fun _=>c
theorem Ed(h:G:=by intro K_ hK;skip;go_simp;exact hK):G:=h
theorem Jd(h:G:=by obtain⟨x',eE,ex⟩:=key a x ha;obtain⟨y',XC,ey⟩:=key b y hb;rw[<-ex,<-ey];exact h.pw a b x' y' eE XC YR):G:=h
theorem Ld(c:H)(h:H->G:=by intro k_;have e0:=(hw.cell ⟨b8,0,Hn⟩).trans o0;have e1:=(hw.cell ⟨b8,1,Hn⟩).trans o1;have e2:=(hw.cell ⟨b8,2,Hn⟩).trans o2;have e3:=(hw.cell ⟨b8,3,Hn⟩).trans o3;have e4:=(hw.cell ⟨b8,4,Hn⟩).trans o4;have e5:=(hw.cell ⟨b8,5,Hn⟩).trans o5;have e6:=(hw.cell ⟨b8,6,Hn⟩).trans o6;have e7:=(hw.cell ⟨b8,7,Hn⟩).trans o7;revert e0 e1 e2 e3 e4 e5 e6 e7;exact k_):G:=h c
theorem Md(c:H)(h:H->G:=by intro k_;have hc:World.cell? _ ⟨wb,0,Hn⟩=Gn (.int .i64 cell):=(hw.Xo (a:=⟨wb,0,Hn⟩) sW).trans cW;revert hc;exact k_):G:=h c
theorem Qd(c:H)(h:(Unit->H)->G:=by intro k_;intro g cap w1 kq uo jr Av;have HLg:Hid _:=su.log (a:=n*26+22) (HA1.out _) uo (by rw[List.append_assoc];exact kq) (jr.imp id (fun e=>S4)) rfl;have f1:w1.cell? ⟨r.Gc,n*26+22,Hn⟩=Gn v:=(Tn.rat HLg.out.1 (n:=n) (i:=22) E0 rfl E0).trans M4;have f2:=HLg.out.1.frozen (n*26+22);clear kq uo jr Av;revert g cap w1 HLg f1 f2;exact k_ ()):G:=h fun _=>c
theorem Td(h:G:=by go_wp2_with fail;go_ret;exact⟨rfl,rfl⟩):G:=h
theorem Ud(h:G:=by rw[listed_nil J0];simp):G:=h
theorem Vd(h:G:=by simpa using this):G:=h
theorem Xd(c:H)(h:(Unit->H)->G:=by intro k_;have HB:=row4 w (.int .i64 12) (.int .i64 R) (.int .i64 A) (.int .i64 N) 97;have HR:Hid (Tn (w.alloc (.cells #[.int .i64 12,.int .i64 R,.int .i64 A,.int .i64 N] 97)) Lb (kc*5) 175 (eu Ls)):=hr.alloc _;have k5:=(HA.out.cell (p:=⟨Kb,5,Hn⟩) (Rr h5)).trans h5;have b0:=HB.at4.1;have b3:=HB.at4.2.2.2;revert HB HR k5 b0 b3;exact k_ ()):G:=h fun _=>c
theorem Yd(c:H)(h:H->G:=by intro k_;simp only[stepG.apply,if_true,e3 τ d hA,mK,GStep.after];exact k_):G:=h c
theorem Zd(h:G:=by (intro e he;have hm:=mem_listed he;simp[go_sem, *]at hm;rcases hm with rfl|rfl|rfl|rfl<;>exact⟨_,_,rfl⟩)):G:=h
theorem ae(h:G:=by exact(h1.mutes (fun op ep=>(hq 0 op ep).1.1) (Deaf_quiet fun op ep=>(hq 0 op ep).2) (Deaf_quiet fun op ep=>(hq k op ep).2)).mono (fun x=>U.s0 _ _ x (U.ch0 _ _ _ _ _)) (fun x=>U.m0 _ _ x (U.ch0 _ _ _ _ _))):G:=h
theorem de(c:H)(h:H->G:=by intro k_;refine Vn L.Nn 4 O8 hF ?_;exact k_):G:=h c
theorem fe(h:G:=by (intro e he;have hm:=mem_listed he;simp[go_sem, *]at hm;rcases hm with rfl|rfl<;>exact Gq _ _ _)):G:=h
theorem ie(c:H)(h:(Unit->H)->G:=by intro k_;have hc:World.cell? _ ⟨r.g,i*3,Hn⟩=Gn (.slice (Gn ⟨rk.g,0,Hn⟩) (n+1:Nat) rk.m):=(hF.cell hq (j:=i*3) Y2).trans (by rw[hv]);revert hc;exact k_ ()):G:=h fun _=>c
theorem je(c:H)(h:(Unit->H)->G:=by intro k_;refine Pn.Zq L.Nn J2 ?_;refine Pn.exit L.Nn I0 ?_;exact k_ ()):G:=h fun _=>c
theorem oe(h:G:=by rw[listed_nil I0];exact Terms.idle L.Nn _):G:=h
theorem qe(h:G:=by go_wp2;go_ret;exact⟨rfl,HZ.out,HB.out,HR.out.congr (fun j hj=>O4)⟩):G:=h
theorem xe(c:H)(h:H->G:=by intro k_;have hc:World.cell? _ ⟨y,0,Hn⟩=Gn (.int .i64 0):=hF.l1 (k:=2) rfl;have zu:World.frozen? _ ⟨y,0,Hn⟩=false:=hF.Nz (k:=2) rfl 0;revert hc zu;exact k_):G:=h c
theorem ye(c:H)(h:H->G:=by intro k_;refine Vn L.Nn 7 O8 hF ?_;exact k_):G:=h c
theorem ze(h:G:=by co_evs (exact Gq _ _ _)):G:=h
theorem Ae(h:G:=by exact⟨A8,D8,y8,hc.shown,hc.age,hc.Hu,hc.anew⟩):G:=h
theorem Be(c:H)(h:H->G:=by intro k_;refine Pn.fin L.Nn ?_;exact k_):G:=h c
theorem Ce(c:H)(h:H->G:=by intro k_;refine .Un Rn [0,1,2] I0 ?_;exact k_):G:=h c
theorem Ee(c:H)(h:H->G:=by intro k_;have y2:wl.cell? ⟨w.heap.size,2,Hn⟩=Gn (.int .i64 (cell:Int)):=(Jv.cell (p:=⟨w.heap.size,2,Hn⟩) z0).trans x2;have y4:wl.cell? ⟨Kb,4,Hn⟩=Gn (.slice (Gn ⟨Gc,0,Hn⟩) nC cG):=(Jv.cell (p:=⟨Kb,4,Hn⟩) z4).trans d4;revert y2 y4;exact k_):G:=h c
theorem Fe(c:H)(h:H->G:=by intro k_;refine ko.Ku hi hw ?_;exact k_):G:=h c
theorem He(h:G:=by rintro e w' ⟨u,rfl,h1,h2⟩;have H1:Hid _:=h1;have H2:Hid _:=h2;obtain⟨pu,mu,cu,rfl⟩:=sx h2;clear h1 h2;go_wp2_with fail;go_ret2;exact⟨_,rfl,H1.out,H2.out⟩):G:=h
theorem Ie(h:G:=by rw[show MemAct.ofEvent ⟨.mark q,Tm,Um⟩=.mark q from rfl,hq.touch]at hz;cases hz):G:=h
theorem Je(h:G:=by rw[this]at hv;injection hv with hv;injection hv with _ hv;subst hv;simp only[beq_iff_eq,Vu,Int.toNat_natCast];exact⟨fun h=>⟨E0,E0,trivial,h⟩,fun h=>h.2.2.2⟩):G:=h
theorem Me(c:H)(h:H->G:=by intro k_;(iterate 8 (refine .Un L.Nn [0,1] I0 ?_;iterate 2 (refine .Yo L.Nn rfl I0 hk ?_;try walk_nrm);repeat refine .c1 L.Nn rfl ?_;refine .Zq L.Nn I0 ?_;repeat refine .c1 L.Nn rfl ?_));exact k_):G:=h c
theorem Oe(c:H)(h:H->G:=by intro k_;(iterate 1 (refine .Un L.Nn [0,1] I0 ?_;iterate 2 (refine .Yo L.Nn rfl I0 hk ?_;try walk_nrm);repeat refine .c1 L.Nn rfl ?_;refine .Zq L.Nn I0 ?_;repeat refine .c1 L.Nn rfl ?_));exact k_):G:=h c
theorem Pe(c:H)(h:H->G:=by intro k_;(iterate 3 (refine .Un L.Nn [0,1] I0 ?_;iterate 2 (refine .Yo L.Nn rfl I0 hk ?_;try walk_nrm);repeat refine .c1 L.Nn rfl ?_;refine .Zq L.Nn I0 ?_;repeat refine .c1 L.Nn rfl ?_));exact k_):G:=h c
theorem Qe(c:H)(h:H->G:=by intro k_;(iterate 6 (refine .Un L.Nn [0,1] I0 ?_;iterate 2 (refine .Yo L.Nn rfl I0 hk ?_;try walk_nrm);repeat refine .c1 L.Nn rfl ?_;refine .Zq L.Nn I0 ?_;repeat refine .c1 L.Nn rfl ?_));exact k_):G:=h c
theorem Ue(c:H)(h:H->G:=by intro k_;have d4:=(Ax.out.cell (p:=⟨Kb,4,Hn⟩) (Nat.lt_trans pJ sA)).trans ((Ox.out.cell (p:=⟨Kb,4,Hn⟩) pJ).trans h4);revert d4;exact k_):G:=h c
theorem Ve(h:G:=by have e20:=Tn.rat Kt.out (n:=n) (i:=20) E0 rfl E0;have f20:=Kt.out.frozen (n*26+20);go_wp2_with fail;go_ret;exact⟨rfl,Tn.ZF (i:=20) Kt.out E0 rfl _,F4⟩):G:=h
theorem Xe(c:H)(h:H->G:=by intro k_;(iterate 5 (refine .Yo L.Nn rfl I0 hk ?_;try walk_nrm));exact k_):G:=h c
theorem Ye(h:G:=by rw[woken_quitsD pK,upd_ne q m (Ne.symm gy),Deaf_other t gy _ Vp];exact pK):G:=h
theorem Ze(c:H)(h:H->G:=by intro k_;rw[Vv];simp only[callDeferred,e3 τ dd hA,GStep.after];exact k_):G:=h c
theorem af(c:H)(h:H->G:=by intro k_;refine Vn L.Nn 2 O8 hF ?_;exact k_):G:=h c
theorem bf(c:H)(h:H->G:=by intro k_;refine Vn L.Nn 5 O8 hF ?_;exact k_):G:=h c
theorem jf(c:H)(h:H->G:=by intro k_;refine Vn L.Nn 6 O8 hF ?_;exact k_):G:=h c
theorem rf(c:H)(h:H->G:=by intro k_;have HB:Hid (∀o,Sm w.heap.size w (w.alloc o)):=fun o=>(Below.refl _ _).alloc N8 _;revert HB;exact k_):G:=h c
theorem tf(c:H)(h:(Unit->H)->G:=by intro k_;have hc:World.cell? _ ⟨g,25+R,Hn⟩=Gn (.int .i64 (z (25+R))):=hw.zw hi E0 E0;revert hc;exact k_ ()):G:=h fun _=>c
theorem uf(c:H)(h:H->G:=by intro k_;obtain⟨a0,a1,a2,a3⟩:=hw.Zu (k:=0) rfl;go_simp;revert a0 a1 a2 a3;exact k_):G:=h c
theorem vf(c:H)(h:(Unit->H)->G:=by intro k_;have HP:Hid _:=lx.app H0.out P8 M3 Zp (jr.imp id (fun e=>Z2)) Dx Qz.out.1 Qz.out.2 E0 hS;have H1:Hid _:=HP.out.1;revert HP H1;exact k_ ()):G:=h fun _=>c
theorem yf(c:H)(h:(Unit->H)->G:=by intro k_;have HP:Hid _:=lx.app H1.out P8 M3 Zp (jr.imp id (fun e=>Z2)) Dx Qz.out.1 Qz.out.2 E0 hS;have H2:Hid _:=HP.out.1;revert HP H2;exact k_ ()):G:=h fun _=>c
theorem zf(c:H)(h:(Unit->H)->G:=by intro k_;have HP:Hid _:=lx.app H2.out P8 M3 Zp (jr.imp id (fun e=>Z2)) Dx Qz.out.1 Qz.out.2 E0 hS;have H3:Hid _:=HP.out.1;revert HP H3;exact k_ ()):G:=h fun _=>c
theorem Af(c:H)(h:(Unit->H)->G:=by intro k_;have HP:Hid _:=lx.app H3.out P8 M3 Zp (jr.imp id (fun e=>Z2)) Dx Qz.out.1 Qz.out.2 E0 hS;have H4:Hid _:=HP.out.1;revert HP H4;exact k_ ()):G:=h fun _=>c
theorem Bf(h:G:=by obtain⟨dr,ops,q',h1,h2,h3,h4,h5⟩:=WR.slip (sl:=sl') ha hs hi hg AE;exact lU.step (Ht.trans h1) h2 (ihM _ E0 _ dr sl' (t++ops) q' rfl lH h3 h4)):G:=h
theorem Df(c:H)(h:H->G:=by intro k_;intro w1 hR K hK;replace hF:=hF.rely hR;clear hR;revert w1 K hK hF;exact k_):G:=h c
theorem Ef(h:G:=by rintro e w' ⟨rfl,rfl⟩;exact⟨_,rfl,rfl,τ,0,rfl⟩):G:=h
theorem Ff(h:G:=by obtain⟨o,ho⟩:=hs.there;obtain⟨j,rfl⟩:=Eu e he;exact WA.read (a:=⟨b,j,Hn⟩) (by rw[h.still hs];exact ho) fun hm=>hs.no o ho (.inr hm)):G:=h
theorem Gf(h:G:=by exact⟨HW.out.row,Lr HW.out.own fun _ _=>rfl,⟨HW.out.but.os,HW.out.but.tape,HW.out.but.output,HW.out.but.size,HW.out.but.block⟩,HW.out.blk⟩):G:=h
theorem Hf(h:G:=by exact h.Wu i j hi hj Yp b hb Xq):G:=h
theorem Jf(h:G:=by exact absurd h.2.2.2.2.2.2.1 E0):G:=h
theorem Qf(c:H)(h:(Unit->H)->G:=by intro k_;have hc:World.cell? _ ⟨g,46,Hn⟩=Gn (.int .i64 (z 46)):=ko.cz hi hF E0 E0;revert hc;exact k_ ()):G:=h fun _=>c
theorem Rf(h:G:=by simp[Instr.sliceAt,Instr.slice,Instr.sliceBounds,Instr.sliceBound,Sem.events_bind,run_underlying h,events_underlying,events_sizeOf,asIntOf,h0,h1]):G:=h
theorem Tf(h:G:=by go_wp2_with fail;exact⟨⟨x+1,m,g,cb,L,E1,rfl,E0,q80,HN.out.1,HN.out.2.1,mT HN.out.2.2.1 fun _ _=>rfl,below_drewN HN.out.2.2.2 _⟩,U1⟩):G:=h
theorem Uf(h:G:=by rw[show (Kq K g num code z::rn)++ls=Kq K g num code z::(rn++ls)from rfl,List.getElem?_cons_succ,Em l0];exact hx.q):G:=h
theorem Vf(h:G:=by rw[show (Kq K g num code z::rn)++ls=Kq K g num code z::(rn++ls)from rfl,List.getElem?_cons_succ,Em l1];exact hx.s):G:=h
theorem Xf(c:H)(h:H->G:=by intro k_;have YQ:Hid (w0.heap.size<=wl.heap.size):=Qm Ax.out.size IG.out.size;revert YQ;exact k_):G:=h c
theorem Yf(c:H)(h:H->G:=by intro k_;refine .Un Rn [0,1,2,3] I0 ?_;exact k_):G:=h c
theorem Zf(h:G:=by go_wp2_with fail;go_ret;exact XL.none HI.out HW.out):G:=h
theorem ag(h:G:=by go_enter func69,ntmps69;go_wp2;go_quiet (fail);go_wp2;go_ret;exact Vq.of (b:=decide (n<(nc:Int))) l6 (below_drewN (HB.out _ _) _)):G:=h
theorem bg(h:G:=by rw[hn x jL]at hxa;cases hxa):G:=h
theorem gg(c:H)(h:(Unit->H)->G:=by intro k_;have hc:World.cell? _ ⟨g,45,Hn⟩=Gn (.int .i64 ((Wn (Wn z 46 (IntKind.i64.wrap (z 46+1))) 45 ((nx:Int)+1)) (45))):=ko.cz hi hF E0 E0;have zu:World.frozen? _ ⟨g,45,Hn⟩=false:=ko.FO hi hF (45);revert hc zu;exact k_ ()):G:=h fun _=>c
theorem ig(c:H)(h:H->G:=by intro k_;have kD:Hid (Sm w.heap.size w wl):=(Ox.out.trans (Ax.out.mono E9)).trans (IG.out.mono (Nat.le_of_lt z0));revert kD;exact k_):G:=h c
theorem jg(h:G:=by rw[if_neg E0,if_neg E0,if_neg E0]):G:=h
theorem kg(c:H)(h:H->G:=by intro k_;refine hF.Tt _ ?_;exact k_):G:=h c
theorem ng(c:H)(h:H->G:=by intro k_;simp only[stepG.apply,if_true,hr,mK,GStep.after];exact k_):G:=h c
theorem og(c:H)(h:H->G:=by intro k_;refine .Un L.Nn [0,1,2,3,4] I0 ?_;exact k_):G:=h c
theorem pg(c:H)(h:H->G:=by intro k_;have yo:0<gs.size:=(Array.getElem?_eq_some_iff.1 ha).1;revert yo;exact k_):G:=h c
theorem qg(c:H)(h:H->G:=by intro k_;intro w1 Bv Jx Lu;have FB:=Qp Bv;have vH:=Qp Jx;clear Bv Jx;revert w1 Lu FB vH;exact k_):G:=h c
theorem sg(c:H)(h:(Unit->H)->G:=by intro k_;have Vx:c.Zo<=8796093022208:=E0;have dS:c.nD<=17592186044416:=E0;revert Vx dS;exact k_ ()):G:=h fun _=>c
theorem ug(c:H)(h:H->G:=by intro k_;refine Pn.vu (S:=ko L w0 rows [qp N 0 0 0 0]) (Die:=fun _ _=>False) L.Nn L.wu 11 I0 hk J0 (fun _ _ _ h=>h) S8 fun w1 hR=>?_;replace hF:=(hF.rely hR).rely (Rq.drew _);clear hR;revert w1 hF;exact k_):G:=h c
theorem vg(h:G:=by obtain⟨o,ho⟩:=hs.there;rw[ho,h.ph.keep ho hs.nc (hs.no o ho)]):G:=h
theorem yg(h:G:=by unfold execOp;simp[ep,resolve,invoke,builtin]):G:=h
theorem zg(c:H)(h:H->G:=by intro k_;unfold Oper.wp execOp;simp only[ho,resolve,invoke,builtin,Sem.run_bind,Sem.run_pure,Result.andThen_ok,List.map_toArray,List.map_cons,List.map_nil,hs,hx,hr];exact k_):G:=h c
theorem Ag(c:H)(h:H->G:=by intro k_;refine .Un Rn [0,1,2,3,4] I0 ?_;exact k_):G:=h c
theorem Bg(h:G:=by have hr:=run_make (P:=P) W t e i z ht h2 h3 .i64 .i64 n n E0 (Int.le_refl _) Xq E0;simpa only [Int.toNat_natCast]using hr):G:=h
theorem Eg(c:H)(h:H->G:=by intro k_;refine Pn.LH (S:=Is wO) Rn cJ 16 U0 j4 j4 [16,17] I0 hk J0 ((BA _ _).trans E6) fun w1 hR=>?_;replace hF:=(hF.rely hR).drew;clear hR;refine Vn Rn 0 Q8 hF ?_;revert w1 hF;exact k_):G:=h c
theorem Fg(h:G:=by exact absurd h.2.2.2.2.1 E0):G:=h
theorem Gg(h:G:=by exact tt _ todo _ _ rfl (Fp L.Nn I0 _) ⟨I0,hF⟩):G:=h
theorem Hg(h:G:=by clear Io hg jr yo;go_wp2_with fail;go_ret;simpa using HF.out):G:=h
theorem Ig(h:G:=by exact(h.k0 i a E3 hm).imp (·.app _) fun z=>⟨z.1.app _,z.2⟩):G:=h
theorem Jg(h:G:=by exact(h.kk i a E3 hm).imp (·.app _) fun z=>⟨z.1.app _,z.2⟩):G:=h
theorem Og(h:G:=by exact on _ _ _ _ E0 E0):G:=h
theorem Pg(c:H)(h:H->G:=by intro k_;simp only[stepG.exec,ht];exact k_):G:=h c
theorem Qg(h:G:=by exact deafBehind_still (fun e he=>Eu e he) _):G:=h
theorem Ug(c:H)(h:H->G:=by intro k_;refine Pn.inLoop L.Nn ?_;exact k_):G:=h c
theorem Vg(h:G:=by exact ku underlying3 IB rfl h0):G:=h
theorem Wg(h:G:=by refine hc _ cs Bo (fun v w' x=>?_) fun ch w' x=>hd ch w' _ x rfl rfl rfl rfl;rw[Frame.finish_at,ho];exact h v w' x):G:=h
theorem Xg(c:H)(h:H->G:=by intro k_;refine Vn L.Nn 3 O8 hF ?_;exact k_):G:=h c
theorem Yg(c:H)(h:H->G:=by intro k_;refine Vn L.Nn 8 O8 hF ?_;exact k_):G:=h c
theorem Zg(c:H)(h:H->G:=by intro k_;have Vv:=fun W a n c=>Go.Lib.run_eql_slice_nil (P:=prog) W 61 111 a n c 0 0 underlying61;revert Vv;exact k_):G:=h c
theorem ah(h:G:=by go_enter func69,ntmps69;go_wp2;go_quiet (fail);go_wp2;go_ret;exact Vq.no E0 (below_drewN (HB.out _ _) _)):G:=h
theorem dh(c:H)(h:(Unit->H)->G:=by intro k_;rw[if_pos rfl,if_pos E0,if_pos E0,if_pos E0];unfold pat;exact k_ ()):G:=h fun _=>c
theorem fh(h:G:=by go_simp;exact hK):G:=h
theorem jh(c:H)(h:(Unit->H)->G:=by intro k_;refine Pn.vr L.Nn J2 ?_;exact k_ ()):G:=h fun _=>c
theorem kh(c:H)(h:H->G:=by intro k_;have z0:w.heap.size<w1.heap.size:=Lm sA Ax.out.size;revert z0;exact k_):G:=h c
theorem lh(h:G:=by (intro e he;have hm:=mem_listed he;simp[go_sem, *]at hm;rcases hm with rfl|rfl|rfl|rfl<;>exact⟨_,rfl⟩)):G:=h
theorem nh(h:G:=by simpa[zq]using this):G:=h
theorem qh(c:H)(h:(Unit->H)->G:=by intro k_;refine dt (i:=8) T0 rfl I0 rfl func137 I0 rfl #[.pointer (Gn ⟨nb,0,Hn⟩),.int .i64 i] J0 (zD sn n1 i xy _ hF) ?_;exact k_ ()):G:=h fun _=>c
theorem rh(h:G:=by exact .inr ⟨b,o,e,fun j hj=>(Zn (a:=⟨b,o+j,Hn⟩) (ns (h.si i hi b o e))).trans (hc j hj)⟩):G:=h
theorem uh(h:G:=by exact⟨⟨rfl,.inr rfl⟩,fun _=>rfl⟩):G:=h
theorem vh(h:G:=by exact⟨⟨rfl,.inl rfl⟩,fun _=>rfl⟩):G:=h
theorem xh(h:G:=by simp[Builtin.copy_,run_underlying hu,Builtin.lenOf,Builtin.firstCells,sizeOf,typeInfo,hq,hi,r80,hl,Of0]):G:=h
theorem yh(h:G:=by rw[stepG_oper ho hw,<-bz];simp[stepG.apply,hr,he,G,Frame.at,hk,GStep.after,seen_none,tryRecover,hc]):G:=h
theorem zh(c:H)(h:(Unit->H)->G:=by intro k_;have k1':∀(V:En)(v:Dn),(V.setCell ⟨Gc,n*26+r,Hn⟩ v).cell? ⟨B,3,Hn⟩=V.cell? ⟨B,3,Hn⟩:=fun V v=>World.cell?_setCell_other _ _ _ _ (fun e=>U2);revert k1';exact k_ ()):G:=h fun _=>c
theorem Ah(c:H)(h:H->G:=by intro k_;have Jv:b<wr.heap.size:=Wm c0;revert Jv;exact k_):G:=h c
theorem Bh(c:H)(h:H->G:=by intro k_;have HR:Hid (0<=r/\r<4):=hr;have HA:Hid (0<=a/\a<4):=ha;revert HR HA;exact k_):G:=h c
theorem Dh(h:G:=by go_ret;exact Vq.of (b:=Tm) (HU.out _ (by simp only[bne_iff_ne,ne_eq]at hx;simp[hx])) (HB.out _)):G:=h
theorem Eh(c:H)(h:H->G:=by intro k_;rw[QE a z0.1 z0.2.1,show Wp a 0=_ from z0.2.2];exact k_):G:=h c
theorem Fh(h:G:=by go_enter func87,ntmps87;go_wp2;go_ret;exact Vq.no (fun h=>by have:=h.2.1;omega) (HB.out _)):G:=h
theorem Gh(c:H)(h:H->G:=by intro k_;simp only[stepG.apply,if_true,e3 τ d hA,mK,GStep.after,early,hfo,jJ];exact k_):G:=h c
theorem Hh(h:G:=by (intro e he;have hm:=mem_listed he;simp[go_sem, *]at hm;rcases hm with rfl|rfl<;>exact⟨_,rfl⟩)):G:=h
theorem Ih(h:G:=by exact⟨cs,_,_,hh,U0,U0,U0,U0,U0,U0⟩):G:=h
theorem Jh(h:G:=by exact(Option.some.inj hi).symm):G:=h
theorem Lh(h:G:=by rw[Tn.rat h.row (n:=n) (i:=25) E0 E0 E0];show Gn (Value.bool (Q n).b)=_;rw[Ax.out];simp[Ht]):G:=h
theorem Nh(h:G:=by go_wp2;go_ret;exact⟨rfl,HZ.out,HB.out,(by rw[Nat.mul_one];exact HR.out.congr (fun j hj=>O4))⟩):G:=h
theorem Oh(c:H)(h:H->G:=by intro k_;refine ko.Ku hi hF ?_;exact k_):G:=h c
theorem Ph(h:G:=by exact absurd h.2.2.1 E0):G:=h
theorem Qh(h:G:=by subst hu;simp only[List.mem_toArray,List.mem_cons,List.not_mem_nil,or_false]at ep;subst ep;rfl):G:=h
theorem Rh(h:G:=by cases h;exact absurd hq E5):G:=h
theorem Uh(h:G:=by co_still L.Nn):G:=h
theorem Vh(h:G:=by exact this):G:=h
theorem Wh(h:G:=by show Sm _ _ _;exact(((((Below.refl _ _).alloc N8 _).alloc P0 _).alloc A1 _).alloc A1 _).drew):G:=h
theorem Xh(h:G:=by rw[h.cell (p:=⟨w.heap.size,j,Hn⟩) P0];exact cell_of_row _ _ _ _ _ _ (heap_alloc_new w _)):G:=h
theorem Yh(c:H)(h:(Unit->H)->G:=by intro k_;have zu:World.frozen? _ ⟨r.g,i*4+2,Hn⟩=false:=hF.frozen (r:=r) hq (i*4+2);have hc:World.cell? _ ⟨r.g,i*4+2,Hn⟩=Gn _:=hF.cell (r:=r) hq (j:=i*4+2) Y2;revert zu hc;exact k_ ()):G:=h fun _=>c
theorem Zh(h:G:=by exact absurd (h.inj _ _ _ hy XC) E0):G:=h
theorem ai(c:H)(h:(Unit->H)->G:=by intro k_;have mH:World.cell? _ ⟨K.qb,i*3,Hn⟩=Gn (.slice wa (C i).wait.length wc):=(ko.cell (r:=Tv K fq) hF hx.q (j:=i*3) y5).trans (congrArg Gn hwv);revert mH;exact k_ ()):G:=h fun _=>c
theorem di(c:H)(h:(Unit->H)->G:=by intro k_;have mH:World.cell? _ ⟨K.sb,i*4+2,Hn⟩=Gn (.int .i64 (C i).Hu):=(ko.cell (r:=Ft K fs) hF hx.s (j:=i*4+2) J4).trans (congrArg Gn hc.Hu);revert mH;exact k_ ()):G:=h fun _=>c
theorem ei(c:H)(h:(Unit->H)->G:=by intro k_;have c0:=HR.out.cell (j:=k*3) E0;have c1:=HR.out.cell (j:=k*3+1) E0;have c2:=HR.out.cell (j:=k*3+2) E0;have f0:=HR.out.frozen (k*3);have f1:=HR.out.frozen (k*3+1);have f2:=HR.out.frozen (k*3+2);revert c0 c1 c2 f0 f1 f2;exact k_ ()):G:=h fun _=>c
theorem gi(c:H)(h:H->G:=by intro k_;refine(ZI (Gn ⟨bq,oq,sq⟩) (c.Ho k) Hy (c.code k) _ ((SC.out.below HB.out).below P8) P0 BC.out).mono ?_;exact k_):G:=h c
theorem ji(h:G:=by go_enter func38,ntmps38;go_wp2_with fail;go_ret2;exact PI.mk C1.out (HA.out _)):G:=h
theorem ri(h:G:=by go_enter func38,ntmps38;go_wp2_with fail;go_ret2;exact PI.mk C2.out (HA.out _)):G:=h
theorem ti(c:H)(h:H->G:=by intro k_;refine hw.looks hi ?_;exact k_):G:=h c
theorem ui(c:H)(h:(Unit->H)->G:=by intro k_;have hc:World.cell? _ ⟨g,25+A,Hn⟩=Gn (.int .i64 ((Wn (Wn z 46 (IntKind.i64.wrap (z 46+1))) 45 ((nx:Int)+1)) (25+A))):=ko.cz hi hF E0 E0;revert hc;exact k_ ()):G:=h fun _=>c
theorem yi(c:H)(h:(Unit->H)->G:=by intro k_;have hc:World.cell? _ ⟨g,29+y,Hn⟩=Gn (.int .i64 ((Wn (Wn z 46 (IntKind.i64.wrap (z 46+1))) 45 ((nx:Int)+1)) (29+y))):=ko.cz hi hF E0 E0;revert hc;exact k_ ()):G:=h fun _=>c
theorem Ai(h:G:=by rw[hr]at iP;injection iP with _ e;subst e;exact(Rq.drew w).trans (.alloc w.drew _)):G:=h
theorem Bi(c:H)(h:H->G:=by intro k_;refine Ko.value rfl I0 hk (fun d=>⟨d,rfl⟩) (fun d=>jq plain (zo plain func21 J0 _) J0 _) ?_;exact k_):G:=h c
theorem Ci(h:G:=by simp only[Value.slice.injEq]at h1;exact h1.2.1):G:=h
theorem Di(c:H)(h:H->G:=by intro k_;refine Pn.loop L.Nn ?_;exact k_):G:=h c
theorem Ei(h:G:=by exact absurd h.2.1 E0):G:=h
theorem Gi(h:G:=by exact⟨_,_,_,rfl⟩):G:=h
theorem Ii(c:H)(h:H->G:=by intro k_;have hH:w.heap.size<wr.heap.size:=HO.out.lt;have hH1:w.heap.size+1<wr.heap.size:=HC.out.lt;revert hH hH1;exact k_):G:=h c
theorem Ji(h:G:=by rw[Cm AE,Array.getElem?_map,ha];simp[woken_running hr]):G:=h
theorem Ni(c:H)(h:(Unit->H)->G:=by intro k_;have hc3:World.cell? _ ⟨K.sb,i*4+3,Hn⟩=Gn (.bool (C i).anew):=(ko.cell (r:=Ft K fs) hF hx.s (j:=i*4+3) J4).trans (congrArg Gn hc.anew);revert hc3;exact k_ ()):G:=h fun _=>c
theorem Oi(h:G:=by go_wp2_with fail;exact⟨⟨j+1,E0,E1⟩,U1⟩):G:=h
theorem Qi(h:G:=by go_wp2_with fail;exact⟨⟨k+1,E0,E1⟩,U1⟩):G:=h
theorem Ri(c:H)(h:(Unit->H)->G:=by intro k_;have zL:Hid (Tn w3 B 5 79 fB):=Aw.out.of_heap (K3.out.but.block B Aw.out.lt E0);revert zL;exact k_ ()):G:=h fun _=>c
theorem Si(h:G:=by rw[Array.all_eq_true_iff_forall_mem]at this;exact this o (Array.mem_of_getElem? ho)):G:=h
theorem Ti(h:G:=by obtain⟨_,_,_,_,_,_,_,_,_,h1,_⟩:=hw;have e1:w'.tape=τ:=h1.ph.tape;rw[<-e1];rfl):G:=h
theorem Ui(h:G:=by go_wp2_with fail;go_ret;exact⟨rfl,HG.out⟩):G:=h
theorem Vi(h:G:=by simp[Value.ownBlock]at hb):G:=h
theorem Wi(h:G:=by go_enter func87,ntmps87;go_wp2;go_ret;exact Vq.no (fun h=>P4) (HB.out _)):G:=h
theorem Xi(c:H)(h:H->G:=by intro k_;simp only[stepG.apply,if_true,hr,mK,GStep.after,early,hfo,hg];exact k_):G:=h c
theorem Yi(h:G:=by (intro e he;have hm:=mem_listed he;simp[go_sem,F70, *]at hm;subst hm;exact rfl)):G:=h
theorem Zi(c:H)(h:(Unit->H)->G:=by intro k_;refine Pn.Zq Rn J2 ?_;refine Pn.exit Rn rfl ?_;exact k_ ()):G:=h fun _=>c
theorem aj(c:H)(h:H->G:=by intro k_;refine bodyPost_end (results_none rfl _ _ _) rfl ?_;rw[HW.out];exact k_):G:=h c
theorem bj(c:H)(h:H->G:=by intro k_;refine J9 ?_;refine ja ?_;refine M9 ?_;refine J9 ?_;exact k_):G:=h c
theorem cj(c:H)(h:H->G:=by intro k_;refine L9 ?_;refine J9 ?_;refine Oa ?_;refine J9 ?_;exact k_):G:=h c
theorem dj(h:G:=by clear hK K;clear a0 a1 a2 a3;refine Ia ?_;refine M9 ?_;refine J9 ?_;exact X9):G:=h
theorem fj(c:H)(h:H->G:=by intro k_;refine J9 ?_;refine La ?_;refine M9 ?_;refine K9 fun w1 K hK hF=>?_;refine jc fun a0 a1 a2 a3=>?_;revert w1 K hK hF a0 a1 a2 a3;exact k_):G:=h c
theorem gj(c:H)(h:H->G:=by intro k_;refine J9 ?_;refine L9 ?_;refine J9 ?_;exact k_):G:=h c
theorem ij(c:H)(h:H->G:=by intro k_;refine Vn L.Nn 0 T8 ⟨_,_,.inl rfl,hF⟩ ?_;refine Ia ?_;refine Vn L.Nn 1 T8 ⟨_,_,.inl rfl,hF⟩ ?_;refine Ia ?_;refine Vn L.Nn 2 T8 ⟨_,_,.inl rfl,hF⟩ ?_;refine Ia ?_;refine Vn L.Nn 3 T8 ⟨_,_,.inl rfl,hF⟩ ?_;refine Ia ?_;exact k_):G:=h c
theorem kj(c:H)(h:H->G:=by intro k_;refine Ia ?_;exact k_):G:=h c
theorem lj(c:H)(h:H->G:=by intro k_;refine S9 ?_;refine Yc ?_;refine V9 ?_;refine S9 ?_;exact k_):G:=h c
theorem nj(h:G:=by refine Ta ?_;exact T9):G:=h
theorem pj(c:H)(h:H->G:=by intro k_;refine O9 ?_;refine K9 fun w1 K hK hF=>?_;revert w1 K hK hF;exact k_):G:=h c
theorem qj(c:H)(h:H->G:=by intro k_;refine M9 ?_;refine J9 ?_;exact k_):G:=h c
theorem rj(c:H)(h:H->G:=by intro k_;refine M9 ?_;refine K9 fun w1 K hK hF=>?_;revert w1 K hK hF;exact k_):G:=h c
theorem sj(h:G:=by refine kg ?_;exact da):G:=h
theorem tj(c:H)(h:H->G:=by intro k_;refine za ?_;refine J9 ?_;exact k_):G:=h c
theorem uj(c:H)(h:H->G:=by intro k_;refine W9 ?_;refine J9 ?_;exact k_):G:=h c
theorem vj(c:H)(h:H->G:=by intro k_;refine Zb fun iV eV=>?_;refine J9 ?_;revert iV eV;exact k_):G:=h c
theorem wj(h:G:=by refine ko.looks (r:=Ft K fs) hF hx.s ?_;exact T9):G:=h
theorem xj(c:H)(h:H->G:=by intro k_;refine O9 ?_;refine N9 fun w1 K_ hK hF=>?_;revert w1 K_ hK hF;exact k_):G:=h c
theorem yj(h:G:=by refine ko.looks (r:=Tv K fq) hF hx.q ?_;exact T9):G:=h
theorem zj(cH:H)(cI:I)(h:H->I->G:=by intro kH kI;refine I9 ?_ ?_;exact kH;exact kI):G:=h cH cI
theorem Aj(c:H)(h:H->G:=by intro k_;refine J9 ?_;refine Be ?_;exact k_):G:=h c
theorem Bj(h:G:=by refine hF.looks hq ?_;exact T9):G:=h
theorem Cj(h:G:=by refine Oh ?_;exact T9):G:=h
theorem Dj(h:G:=by refine hF.e00 (k:=2) rfl 0 _ ?_;exact yd):G:=h
theorem Ej(c:H)(h:H->G:=by intro k_;refine J9 ?_;refine Xc ?_;exact k_):G:=h c
theorem Fj(c:H)(h:H->G:=by intro k_;refine V9 ?_;refine S9 ?_;exact k_):G:=h c
theorem Gj(h:G:=by refine hF.zp hW.sn ?_;exact T9):G:=h
theorem Hj(c:H)(h:H->G:=by intro k_;refine gd fun hk=>?_;refine Xt Et hi hs Np nx hz yo hn R A xw vw ep hR hA N hN inV Kz w hF fun cl cs Bo tt lX B w3 hF=>?_;revert hk cl cs Bo tt lX B w3 hF;exact k_):G:=h c
theorem Ij(h:G:=by refine Tc fun todo=>?_;exact tt _ todo _ _ rfl (Fp L.Nn I0 _) ⟨P5,hF.drop⟩):G:=h
theorem Jj(c:H)(h:H->G:=by intro k_;refine Z9 ?_;refine af ?_;exact k_):G:=h c
theorem Lj(h:G:=by refine Ug ?_;exact ih (i+1) _ _ _ _ _ _ _ _ _ _ _ _ _ _ _ _ _ _ _ _ _ _ _ _ _ _ _ _ E0 hF):G:=h
theorem Nj(h:G:=by refine Tc fun todo=>?_;exact tt _ todo _ _ rfl (Qy L.Nn I0 _) ⟨I0,hF⟩):G:=h
theorem Oj(c:H)(h:H->G:=by intro k_;refine .Un L.Nn [0,1,2,3,4,5,6,7,8,9] I0 ?_;refine Ja ?_;exact k_):G:=h c
theorem Pj(h:G:=by refine ko.Px kJ.2 hF (25+R) _ ?_;exact yd):G:=h
theorem Qj(c:H)(h:(Unit->H)->G:=by intro k_;have HP:Hid (∀j,_):=fun j=>SV k n j z xG;have c0:=HR.out.cell (j:=k*2) E0;have c1:=HR.out.cell (j:=k*2+1) E0;have f0:=HR.out.frozen (k*2);have f1:=HR.out.frozen (k*2+1);revert HP c0 c1 f0 f1;exact k_ ()):G:=h fun _=>c
theorem Rj(h:G:=by exact ku underlying3 IB rfl h1):G:=h
theorem Sj(c:H)(h:H->G:=by intro k_;rw[key τ d hA];simp only[stepG.apply,if_true,e3 τ d hA,mK,GStep.after,Z_,BF h.kind Yp cs,A80];exact k_):G:=h c
theorem Tj(c:H)(h:H->G:=by intro k_;have oU:base<=g:=(QI.out.lt g rfl).1;have HST:Hid ((dw 1 me tz m q).set q (.int .i64 mk)=dw 1 me tz m (q+1)):=ZJ me tz m q yo mk VL.out;revert oU HST;exact k_):G:=h c
theorem Uj(c:H)(h:H->G:=by intro k_;obtain⟨g1,g2,g3,g4⟩:=Ky ((h2 τ d main cs).symm.trans (hxy cs).1);revert g1 g2 g3 g4;exact k_):G:=h c
theorem Vj(h:G:=by exact hf.set E0 E0 _):G:=h
theorem Wj(c:H)(h:(Unit->H)->G:=by intro k_;have hb0:c.nC<=2513169434916:=E0;have Dx:c.nT<=5864062014805:=E0;revert hb0 Dx;exact k_ ()):G:=h fun _=>c
theorem Xj(c:H)(h:H->G:=by intro k_;have hk:(base 129).kind≠.early:=J1;revert hk;exact k_):G:=h c
theorem Yj(c:H)(h:H->G:=by intro k_;have Pz:Hid (∀b,(Value.slice pe me ce).ownBlock=Gn b->b<base/\b≠B):=Vx;revert Pz;exact k_):G:=h c
theorem Zj(h:G:=by exact offersAt_of_not_blocked (Sv (h.rest j g gG iG kz)) _ _):G:=h
theorem ak(c:H)(h:H->G:=by intro k_;refine J9 ?_;refine Xa ?_;exact k_):G:=h c
theorem bk(c:H)(h:H->G:=by intro k_;have HA:Hid (Sm w.heap.size w (w.alloc (.cells #[.int .i64 12,.int .i64 R,.int .i64 A,.int .i64 N] 97))):=(Below.refl _ _).alloc N8 _;revert HA;exact k_):G:=h c
theorem dk(h:G:=by go_enter func69,ntmps69;go_wp2;go_ret;exact Vq.no E0 (HB.out _ _)):G:=h
theorem ik(h:G:=by unfold Frame.finish;rw[IL,ht];simp[ny]):G:=h
theorem jk(h:G:=by exact h.but.block k hk hn):G:=h
theorem nk(h:G:=by show World.ownsRow _ _ _ _ _ _ _;rw[<-HST.out];exact dD QI.out _ _):G:=h
theorem qk(h:G:=by rw[if_neg E0]):G:=h
theorem sk(h:G:=by rw[h2,seen_none];exact⟨h1,T.idle _⟩):G:=h
theorem uk(c:H)(h:(Unit->H)->G:=by intro k_;refine tu (i:=8) T0 rfl I0 ?_;refine Df fun w1 K hK hF=>?_;refine ga fun hc=>?_;refine Xb fun zu=>?_;revert w1 K hK hF hc zu;exact k_ ()):G:=h fun _=>c
theorem vk(h:G:=by exact xp (h.own n hn) h.row U0 G5):G:=h
theorem xk(h:G:=by show w.heap.size+6<=(W7 w cell budget g inV).heap.size;rw[Xx];omega):G:=h
theorem yk(c:H)(h:H->G:=by intro k_;have hc:World.cell? _ ⟨tb,r,Hn⟩=Gn (.slice (Gn ⟨Wx,wo,Hn⟩) nW cW):=(jx.cell hw (a:=⟨tb,r,Hn⟩) stb).trans Ir;revert hc;exact k_):G:=h c
theorem zk(h:G:=by simp only[Value.slice.injEq]at h1;omega):G:=h
theorem Ak(c:H)(h:(Unit->H)->G:=by intro k_;have hc:World.cell? _ ⟨g,1,Hn⟩=Gn (.pointer (Gn ⟨nb,0,Hn⟩)):=hw.cell (ao hi _) (j:=1) (show 1<48 by omega);revert hc;exact k_ ()):G:=h fun _=>c
theorem Dk(cH:H)(cI:I)(cJ:J)(h:(Unit->H)->(Unit->I)->(Unit->J)->G:=by intro kH kI kJ;refine Ug ?_;refine ih (j+1) _ _ _ _ _ _ _ _ _ _ _ _ _ _ _ _ _ _ _ _ _ _ _ _ _ _ _ _ _ _ _ _ _ _ _ _ _ _ _ E0 mF ?_ ((upd_ne _ _ E0).trans hsv) ?_ ?_ hF;exact kH ();exact kI ();exact kJ ()):G:=h (fun _=>cH) (fun _=>cI) (fun _=>cJ)
theorem Ek(h:G:=by simp only[stepG.exec,ht,WC];simp[G]):G:=h
theorem Gk(c:H)(h:H->G:=by intro k_;have Pv:=runT_crowd_go (P:=P) (sl:=sl) (i:=i) hi (by rw[l80];exact PY w);have ju:((gs.map (woken P g g' w)).setIfInBounds i g').size=gs.size:=P0;revert Pv ju;exact k_):G:=h c
theorem Ik(h:G:=by go_wp2_with fail;exact⟨⟨k+1,E0,E1,HK2,by first|rfl|trivial⟩,U1⟩):G:=h
theorem Jk(h:G:=by show w.heap.size+4<(W7 w cell budget g inV).heap.size;rw[Xx];omega):G:=h
theorem Nk(h:G:=by exact⟨Hn,0,rfl,Om _,V3,fun _=>⟨rfl,rfl⟩,U0,.inl rfl⟩):G:=h
theorem Qk(h:G:=by rw[woken_quitsD pK,Deaf_other t (Ne.symm gG) _ Vp];exact pK):G:=h
theorem Rk(h:G:=by simp[G,stepG,Go.unwind,doReturn,Frame.at,baseD,hd,hf,e,hm,GStep.after]):G:=h
theorem Uk(h:G:=by rw[if_neg hj]at hy;cases hy):G:=h
theorem Vk(c:H)(h:H->G:=by intro k_;refine W9 ?_;refine K9 fun w1 K hK hF=>?_;revert w1 K hK hF;exact k_):G:=h c
theorem Xk(c:H)(h:H->G:=by intro k_;rw[Oo _ _ e];exact k_):G:=h c
theorem Yk(h:G:=by rw[hr];refine h.mono ?_;rintro e w' ⟨r,rfl,hR⟩;exact hk r w' hR):G:=h
theorem Zk(c:H)(h:(Unit->H)->G:=by intro k_;have HH:Hid (b<w.heap.size):=Wm (hc 0 E0);revert HH;exact k_ ()):G:=h fun _=>c
theorem fl(h:G:=by simp only[stepG.apply,if_true,hr,rX,GStep.after,bz,UG];simp[G]):G:=h
theorem gl(h:G:=by skip;co_quiet Rn):G:=h
theorem ql(h:G:=by exact .inr (Qm h.ph.2.2.2 e)):G:=h
theorem vl(h:G:=by exact⟨rfl,rfl,rfl⟩):G:=h
theorem xl(h:G:=by exact(h.known i a E3 hm).imp (·.app _) fun z=>⟨z.1.app _,z.2⟩):G:=h
theorem yl(c:H)(h:H->G:=by intro k_;refine S9 ?_;refine .Un Rn [0,1,2,3,4,5] I0 ?_;exact k_):G:=h c
theorem zl(c:H)(h:H->G:=by intro k_;rw[QE a z0.1 z0.2.1,show Wp a 0=_ from z0.2.2,z1];exact k_):G:=h c
theorem Bl(h:G:=by rw[hu x jL]at this;exact .inl this):G:=h
theorem Dl(h:G:=by subst gy;exact bO pX hi hy (hK _ _ _) hS ⟨.inl hS,H⟩):G:=h
theorem Gl(h:G:=by exact absurd yo (by show ¬b<w.heap.size+6;exact Nat.not_lt.2 hb)):G:=h
theorem Hl(h:G:=by exact⟨hl,.inr ⟨g,cap,Ov,rfl,hg,(hb g rfl).trans hh,h1⟩⟩):G:=h
theorem Il(c:H)(h:H->G:=by intro k_;have a1:=hs hc.wait (h.two _);have a2:=hs hc.sent (h.two _);revert a1 a2;exact k_):G:=h c
theorem Jl(c:H)(h:H->G:=by intro k_;have hc:World.cell? _ ⟨b1,0,Hn⟩=Gn (.pointer (Gn ⟨g,0,Hn⟩)):=(hF.Xo (a:=⟨b1,0,Hn⟩) s1).trans c1;revert hc;exact k_):G:=h c
theorem Ll(c:H)(h:H->G:=by intro k_;have hc:World.cell? _ ⟨b1,0,Hn⟩=Gn (.pointer (Gn ⟨g,0,Hn⟩)):=(hw.Xo (a:=⟨b1,0,Hn⟩) s1).trans c1;revert hc;exact k_):G:=h c
theorem Nl(c:H)(h:H->G:=by intro k_;have Aw:=Qp hB;have pO:=Qp hf;have HE:=Qp hE;refine Ua fun kX=>?_;revert Aw pO HE kX;exact k_):G:=h c
theorem Ol(c:H)(h:H->G:=by intro k_;refine U9 fun HA=>?_;refine oa fun lK pJ nK nKb=>?_;revert HA lK pJ nK nKb;exact k_):G:=h c
theorem Ql(h:G:=by exact jq plain (zo plain func21 J0 _) J0 _):G:=h
theorem Rl(h:G:=by rw[if_neg h,if_neg h]):G:=h
theorem Ul(c:H)(h:H->G:=by intro k_;refine K9 fun w1 K hK hF=>?_;have e0:=(hF.cell ⟨b8,0,Hn⟩).trans o0;revert w1 K hK hF e0;exact k_):G:=h c
theorem Vl(c:H)(h:H->G:=by intro k_;refine V9 ?_;(iterate 2 refine .c1 Rn rfl ?_);refine .stop rfl fun w9 hR=>?_;revert w9 hR;exact k_):G:=h c
theorem Xl(h:G:=by exact⟨rfl,rfl⟩):G:=h
theorem Yl(h:G:=by go_wp2_with fail;exact⟨⟨k+1,E0,E1,rfl,HBF,HOi,HCi⟩,U1⟩):G:=h
theorem Zl(c:H)(h:(Unit->H)->G:=by intro k_;have le0:Hid (Nq wA3 YB ((c.nD+2)*1) ty3 0 (fun j=>.int .i64 (uq 1 c.nD c.dv j))):=Nq.of (MY.below xt Mb0) _;revert le0;exact k_ ()):G:=h fun _=>c
theorem dm(c:H)(h:H->G:=by intro k_;have yo:i<gs.size:=(Array.getElem?_eq_some_iff.1 hi).1;revert yo;exact k_):G:=h c
theorem jm(c:H)(h:H->G:=by intro k_;refine J9 ?_;refine ja ?_;exact k_):G:=h c
theorem km(c:H)(h:H->G:=by intro k_;refine J9 ?_;refine Ha ?_;exact k_):G:=h c
theorem om(h:G:=by simp[ep,resolve,Deferred.ofValue,invoke,callFunc,hf,h1,h2,hx]):G:=h
theorem um(c:H)(h:H->G:=by intro k_;refine kj ?_;exact k_):G:=h c
theorem vm(cH:H)(cI:I)(h:H->I->G:=by intro kH kI;refine zj ?_ ?_;exact kH;exact kI):G:=h cH cI
end
end Go.Proofs.YtdoghgnifkgfdaaGreat
