/-
  No cell of these rows narrows 'for every input' (looked for: loops, veiled, ifaces, maps, wideKeys, modest, calm, conditions, laid).
  DERIVED. THE GIVEN ROWS OF THIS SEAT. 5 by the template 'for every input the law returns true; each argument reads behind the call as it read before'; 0 by the template 'total and deterministic' (their statements: YtdoghgnifkgfdaaTotals.lean).
  GIVEN WITH THE SEED: the statements are not yours to turn. If you find one false, say at which input.
  Laid BY PROGRAM, IN A SANDBOX (cutbox-rows.mjs): the forced cells as the released guide's own fill.sh prints them over the translation ba7ba0fa8d1cfcfb… (all of the seat's roots in one cut). By AI agents, Wed Nov 11 2026. No macro, syntax, notation, axiom, sorry.
-/
import Derived.Test.YtdoghgnifkgfdaaChecked
import GoSem.Claim
import GoSem.ClaimJoined
import GoSem.ClaimMapViews
import Derived.JoinedTies
import Derived.KernelRfl
namespace Go.Proofs.Ytdoghgnifkgfdaa
/- THE CELL 'sum', in the pinned program and in every row, IS THE sha256 OF THE DUMP (.gsa) THAT YtdoghgnifkgfdaaProg.lean LOADS. Nothing in Lean hashes anything: it is a label: what it is worth is what the hold of that sum in a sandbox is worth. -/
noncomputable def Try.pinned : Pinned := { name := "ytdoghgnifkgfdaa", sum := "ba7ba0fa8d1cfcfb6ba90b69b1c560084044464a824c324ab1616cdf16ca09ce", checked := Try.checked }
namespace Rows
def none {H : Type} : Left H := { results := [], args := [] }

/-- 'cloisterlaw.Configs': WHATEVER THE INPUT: true; the input reads as it did. -/
def configsSpec : ChangeSpec := { name := "configs", fn := fun _ => fun
  | [d] => { results := [.lit (.bool true)], args := [d] }
  | _ => none }
def configsRow : OpenClaim := { program := "ytdoghgnifkgfdaa", sum := "ba7ba0fa8d1cfcfb6ba90b69b1c560084044464a824c324ab1616cdf16ca09ce", func := "cloister/cloisterlaw.Configs", spec := "configs", unfollowed := true, recurses := true, plainKeys := false, leaving := true, apart := false }
def ConfigsSaid : Prop := configsRow.holds Try.pinned (OpenSpec.ofChange configsSpec)

/-- ITS FALSE NEIGHBOUR: 'it returns false'. Refute it at one input. -/
def configsWrong : ChangeSpec := { name := "configs", fn := fun _ => fun
  | [d] => { results := [.lit (.bool false)], args := [d] }
  | _ => none }
def ConfigsWrongFalsely : Prop := configsRow.holds Try.pinned (OpenSpec.ofChange configsWrong)

/-- 'cloisterkeep.Ruled': WHATEVER THE INPUT: true; the input reads as it did. -/
def ruledSpec : ChangeSpec := { name := "ruled", fn := fun _ => fun
  | [d1, d2, d3] => { results := [.lit (.bool true)], args := [d1, d2, d3] }
  | _ => none }
def ruledRow : OpenClaim := { program := "ytdoghgnifkgfdaa", sum := "ba7ba0fa8d1cfcfb6ba90b69b1c560084044464a824c324ab1616cdf16ca09ce", func := "cloister/cloisterkeep.Ruled", spec := "ruled", unfollowed := true, recurses := true, plainKeys := false, leaving := true, apart := false }
def RuledSaid : Prop := ruledRow.holds Try.pinned (OpenSpec.ofChange ruledSpec)

/-- ITS FALSE NEIGHBOUR: 'it returns false'. Refute it at one input. -/
def ruledWrong : ChangeSpec := { name := "ruled", fn := fun _ => fun
  | [d1, d2, d3] => { results := [.lit (.bool false)], args := [d1, d2, d3] }
  | _ => none }
def RuledWrongFalsely : Prop := ruledRow.holds Try.pinned (OpenSpec.ofChange ruledWrong)

/-- 'cloisterkeep.Relayed': WHATEVER THE INPUT: true; the input reads as it did. -/
def relayedSpec : ChangeSpec := { name := "relayed", fn := fun _ => fun
  | [d1, d2, d3] => { results := [.lit (.bool true)], args := [d1, d2, d3] }
  | _ => none }
def relayedRow : OpenClaim := { program := "ytdoghgnifkgfdaa", sum := "ba7ba0fa8d1cfcfb6ba90b69b1c560084044464a824c324ab1616cdf16ca09ce", func := "cloister/cloisterkeep.Relayed", spec := "relayed", unfollowed := true, recurses := true, plainKeys := false, leaving := true, apart := false }
def RelayedSaid : Prop := relayedRow.holds Try.pinned (OpenSpec.ofChange relayedSpec)

/-- ITS FALSE NEIGHBOUR: 'it returns false'. Refute it at one input. -/
def relayedWrong : ChangeSpec := { name := "relayed", fn := fun _ => fun
  | [d1, d2, d3] => { results := [.lit (.bool false)], args := [d1, d2, d3] }
  | _ => none }
def RelayedWrongFalsely : Prop := relayedRow.holds Try.pinned (OpenSpec.ofChange relayedWrong)

/-- 'cloisterkeep.Anew': WHATEVER THE INPUT: true; the input reads as it did. -/
def anewSpec : ChangeSpec := { name := "anew", fn := fun _ => fun
  | [d1, d2, d3] => { results := [.lit (.bool true)], args := [d1, d2, d3] }
  | _ => none }
def anewRow : OpenClaim := { program := "ytdoghgnifkgfdaa", sum := "ba7ba0fa8d1cfcfb6ba90b69b1c560084044464a824c324ab1616cdf16ca09ce", func := "cloister/cloisterkeep.Anew", spec := "anew", unfollowed := true, recurses := true, plainKeys := false, leaving := true, apart := false }
def AnewSaid : Prop := anewRow.holds Try.pinned (OpenSpec.ofChange anewSpec)

/-- ITS FALSE NEIGHBOUR: 'it returns false'. Refute it at one input. -/
def anewWrong : ChangeSpec := { name := "anew", fn := fun _ => fun
  | [d1, d2, d3] => { results := [.lit (.bool false)], args := [d1, d2, d3] }
  | _ => none }
def AnewWrongFalsely : Prop := anewRow.holds Try.pinned (OpenSpec.ofChange anewWrong)

/-- 'cloisterkeep.Apart': WHATEVER THE INPUT: true; the input reads as it did. -/
def apartSpec : ChangeSpec := { name := "apart", fn := fun _ => fun
  | [d1, d2, d3, d4] => { results := [.lit (.bool true)], args := [d1, d2, d3, d4] }
  | _ => none }
def apartRow : OpenClaim := { program := "ytdoghgnifkgfdaa", sum := "ba7ba0fa8d1cfcfb6ba90b69b1c560084044464a824c324ab1616cdf16ca09ce", func := "cloister/cloisterkeep.Apart", spec := "apart", unfollowed := true, recurses := true, plainKeys := false, leaving := true, apart := false }
def ApartSaid : Prop := apartRow.holds Try.pinned (OpenSpec.ofChange apartSpec)

/-- ITS FALSE NEIGHBOUR: 'it returns false'. Refute it at one input. -/
def apartWrong : ChangeSpec := { name := "apart", fn := fun _ => fun
  | [d1, d2, d3, d4] => { results := [.lit (.bool false)], args := [d1, d2, d3, d4] }
  | _ => none }
def ApartWrongFalsely : Prop := apartRow.holds Try.pinned (OpenSpec.ofChange apartWrong)

/- THE SECOND FORM. 'bulk': how many values and letters a reading holds, each counted each time it is reached (what is shared counts as often as it is met; a slice's spare places count too). A statement '..UptoSaid' is the law's where the arguments, and the package variables that the reading takes, are together of bulk at most 1048576: NARROWER than '..Said'. Prove '..Said' where nothing that the law and all that it calls make is longer than what came in: it says more and counts as full. Else prove '..UptoSaid'. A law counts once. -/
mutual
def uptoBulk {H : Type} : DataW H → Nat
  | .lit (.string bytes) => bytes.length + 1
  | .lit _ => 1
  | .nil => 1
  | .ptr d => uptoBulk d + 1
  | .slice elems spare => uptoBulkAll elems + uptoBulkAll spare + 1
  | .agg parts => uptoBulkAll parts + 1
  | .iface _ d => uptoBulk d + 1
  | .map entries => uptoBulkEntries entries + 1
  | .held _ => 1
def uptoBulkAll {H : Type} : List (DataW H) → Nat
  | [] => 0
  | d :: r => uptoBulk d + uptoBulkAll r
def uptoBulkEntries {H : Type} : List (Lit × DataW H) → Nat
  | [] => 0
  | x :: r => uptoBulkEntry x + uptoBulkEntries r
def uptoBulkEntry {H : Type} : Lit × DataW H → Nat
  | (.string bytes, d) => bytes.length + uptoBulk d + 1
  | (_, d) => uptoBulk d + 1
 end
def uptoSmall : (H : Type) → List (DataW H) → Bool := fun _ ds => decide (uptoBulkAll ds ≤ 1048576)
def OpenSpec.upto (s : _root_.Go.ChangeSpec) : _root_.Go.OpenSpec := { _root_.Go.OpenSpec.ofChange s with cond := some uptoSmall }

/-- 'cloisterlaw.Configs', WHERE WHAT IT READS IS OF BULK AT MOST 1048576: true; the input reads as it did. -/
def configsUptoRow : OpenClaim := { program := "ytdoghgnifkgfdaa", sum := "ba7ba0fa8d1cfcfb6ba90b69b1c560084044464a824c324ab1616cdf16ca09ce", func := "cloister/cloisterlaw.Configs", spec := "configs", unfollowed := true, recurses := true, plainKeys := false, leaving := true, apart := false, narrowed := true }
def ConfigsUptoSaid : Prop := configsUptoRow.holds Try.pinned (OpenSpec.upto configsSpec)

/-- 'cloisterkeep.Ruled', WHERE WHAT IT READS IS OF BULK AT MOST 1048576: true; the input reads as it did. -/
def ruledUptoRow : OpenClaim := { program := "ytdoghgnifkgfdaa", sum := "ba7ba0fa8d1cfcfb6ba90b69b1c560084044464a824c324ab1616cdf16ca09ce", func := "cloister/cloisterkeep.Ruled", spec := "ruled", unfollowed := true, recurses := true, plainKeys := false, leaving := true, apart := false, narrowed := true }
def RuledUptoSaid : Prop := ruledUptoRow.holds Try.pinned (OpenSpec.upto ruledSpec)

/-- 'cloisterkeep.Relayed', WHERE WHAT IT READS IS OF BULK AT MOST 1048576: true; the input reads as it did. -/
def relayedUptoRow : OpenClaim := { program := "ytdoghgnifkgfdaa", sum := "ba7ba0fa8d1cfcfb6ba90b69b1c560084044464a824c324ab1616cdf16ca09ce", func := "cloister/cloisterkeep.Relayed", spec := "relayed", unfollowed := true, recurses := true, plainKeys := false, leaving := true, apart := false, narrowed := true }
def RelayedUptoSaid : Prop := relayedUptoRow.holds Try.pinned (OpenSpec.upto relayedSpec)

/-- 'cloisterkeep.Anew', WHERE WHAT IT READS IS OF BULK AT MOST 1048576: true; the input reads as it did. -/
def anewUptoRow : OpenClaim := { program := "ytdoghgnifkgfdaa", sum := "ba7ba0fa8d1cfcfb6ba90b69b1c560084044464a824c324ab1616cdf16ca09ce", func := "cloister/cloisterkeep.Anew", spec := "anew", unfollowed := true, recurses := true, plainKeys := false, leaving := true, apart := false, narrowed := true }
def AnewUptoSaid : Prop := anewUptoRow.holds Try.pinned (OpenSpec.upto anewSpec)

/-- 'cloisterkeep.Apart', WHERE WHAT IT READS IS OF BULK AT MOST 1048576: true; the input reads as it did. -/
def apartUptoRow : OpenClaim := { program := "ytdoghgnifkgfdaa", sum := "ba7ba0fa8d1cfcfb6ba90b69b1c560084044464a824c324ab1616cdf16ca09ce", func := "cloister/cloisterkeep.Apart", spec := "apart", unfollowed := true, recurses := true, plainKeys := false, leaving := true, apart := false, narrowed := true }
def ApartUptoSaid : Prop := apartUptoRow.holds Try.pinned (OpenSpec.upto apartSpec)

end Rows
end Go.Proofs.Ytdoghgnifkgfdaa
