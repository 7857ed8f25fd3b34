/-
  No cell of these rows narrows 'for every input' (looked for: loops, veiled, ifaces, maps, wideKeys, modest, calm, conditions, laid).
  DERIVED. THE GIVEN ROWS OF THIS SEAT. 6 by the template 'for every input the law returns true; each argument reads behind the call as it read before'; 0 by the template 'total and deterministic' (their statements: YtodmdkhdbfbfgaaTotals.lean).
  GIVEN WITH THE SEED: the statements are not yours to turn. If you find one false, say at which input.
  Laid BY PROGRAM, IN A SANDBOX (cutbox-rows.mjs): the forced cells as the released guide's own fill.sh prints them over the translation b68bbe102ac141e1… (all of the seat's roots in one cut). By AI agents, Wed Nov 11 2026. No macro, syntax, notation, axiom, sorry.
-/
import Derived.Test.YtodmdkhdbfbfgaaChecked
import GoSem.Claim
import GoSem.ClaimJoined
import GoSem.ClaimMapViews
import Derived.JoinedTies
import Derived.KernelRfl
namespace Go.Proofs.Ytodmdkhdbfbfgaa
/- THE CELL 'sum', in the pinned program and in every row, IS THE sha256 OF THE DUMP (.gsa) THAT YtodmdkhdbfbfgaaProg.lean LOADS. Nothing in Lean hashes anything: it is a label: what it is worth is what the hold of that sum in a sandbox is worth. -/
noncomputable def Try.pinned : Pinned := { name := "ytodmdkhdbfbfgaa", sum := "b68bbe102ac141e121a547f7e341009fdaaebd03b07aaf923f9ae7740136d83d", checked := Try.checked }
namespace Rows
def none {H : Type} : Left H := { results := [], args := [] }

/-- 'nandlaw.Codes': WHATEVER THE INPUT: true; the input reads as it did. -/
def codesSpec : ChangeSpec := { name := "codes", fn := fun _ => fun
  | [d] => { results := [.lit (.bool true)], args := [d] }
  | _ => none }
def codesRow : OpenClaim := { program := "ytodmdkhdbfbfgaa", sum := "b68bbe102ac141e121a547f7e341009fdaaebd03b07aaf923f9ae7740136d83d", func := "nand/nandlaw.Codes", spec := "codes", apart := false }
def CodesSaid : Prop := codesRow.holds Try.pinned (OpenSpec.ofChange codesSpec)

/-- ITS FALSE NEIGHBOUR: 'it returns false'. Refute it at one input. -/
def codesWrong : ChangeSpec := { name := "codes", fn := fun _ => fun
  | [d] => { results := [.lit (.bool false)], args := [d] }
  | _ => none }
def CodesWrongFalsely : Prop := codesRow.holds Try.pinned (OpenSpec.ofChange codesWrong)

/-- 'nandlaw.Unpacks': WHATEVER THE INPUT: true; the input reads as it did. -/
def unpacksSpec : ChangeSpec := { name := "unpacks", fn := fun _ => fun
  | [d] => { results := [.lit (.bool true)], args := [d] }
  | _ => none }
def unpacksRow : OpenClaim := { program := "ytodmdkhdbfbfgaa", sum := "b68bbe102ac141e121a547f7e341009fdaaebd03b07aaf923f9ae7740136d83d", func := "nand/nandlaw.Unpacks", spec := "unpacks", apart := false }
def UnpacksSaid : Prop := unpacksRow.holds Try.pinned (OpenSpec.ofChange unpacksSpec)

/-- ITS FALSE NEIGHBOUR: 'it returns false'. Refute it at one input. -/
def unpacksWrong : ChangeSpec := { name := "unpacks", fn := fun _ => fun
  | [d] => { results := [.lit (.bool false)], args := [d] }
  | _ => none }
def UnpacksWrongFalsely : Prop := unpacksRow.holds Try.pinned (OpenSpec.ofChange unpacksWrong)

/-- 'nandlaw.Packs': WHATEVER THE INPUT: true; the input reads as it did. -/
def packsSpec : ChangeSpec := { name := "packs", fn := fun _ => fun
  | [d] => { results := [.lit (.bool true)], args := [d] }
  | _ => none }
def packsRow : OpenClaim := { program := "ytodmdkhdbfbfgaa", sum := "b68bbe102ac141e121a547f7e341009fdaaebd03b07aaf923f9ae7740136d83d", func := "nand/nandlaw.Packs", spec := "packs", apart := false }
def PacksSaid : Prop := packsRow.holds Try.pinned (OpenSpec.ofChange packsSpec)

/-- ITS FALSE NEIGHBOUR: 'it returns false'. Refute it at one input. -/
def packsWrong : ChangeSpec := { name := "packs", fn := fun _ => fun
  | [d] => { results := [.lit (.bool false)], args := [d] }
  | _ => none }
def PacksWrongFalsely : Prop := packsRow.holds Try.pinned (OpenSpec.ofChange packsWrong)

/-- 'nandlaw.Chips': WHATEVER THE INPUT: true; the input reads as it did. -/
def chipsSpec : ChangeSpec := { name := "chips", fn := fun _ => fun
  | [d1, d2, d3, d4] => { results := [.lit (.bool true)], args := [d1, d2, d3, d4] }
  | _ => none }
def chipsRow : OpenClaim := { program := "ytodmdkhdbfbfgaa", sum := "b68bbe102ac141e121a547f7e341009fdaaebd03b07aaf923f9ae7740136d83d", func := "nand/nandlaw.Chips", spec := "chips", apart := false }
def ChipsSaid : Prop := chipsRow.holds Try.pinned (OpenSpec.ofChange chipsSpec)

/-- ITS FALSE NEIGHBOUR: 'it returns false'. Refute it at one input. -/
def chipsWrong : ChangeSpec := { name := "chips", fn := fun _ => fun
  | [d1, d2, d3, d4] => { results := [.lit (.bool false)], args := [d1, d2, d3, d4] }
  | _ => none }
def ChipsWrongFalsely : Prop := chipsRow.holds Try.pinned (OpenSpec.ofChange chipsWrong)

/-- 'nandkeep.Prefixed': WHATEVER THE INPUT: true; the input reads as it did. -/
def prefixedSpec : ChangeSpec := { name := "prefixed", fn := fun _ => fun
  | [d] => { results := [.lit (.bool true)], args := [d] }
  | _ => none }
def prefixedRow : OpenClaim := { program := "ytodmdkhdbfbfgaa", sum := "b68bbe102ac141e121a547f7e341009fdaaebd03b07aaf923f9ae7740136d83d", func := "nand/nandkeep.Prefixed", spec := "prefixed", apart := false }
def PrefixedSaid : Prop := prefixedRow.holds Try.pinned (OpenSpec.ofChange prefixedSpec)

/-- ITS FALSE NEIGHBOUR: 'it returns false'. Refute it at one input. -/
def prefixedWrong : ChangeSpec := { name := "prefixed", fn := fun _ => fun
  | [d] => { results := [.lit (.bool false)], args := [d] }
  | _ => none }
def PrefixedWrongFalsely : Prop := prefixedRow.holds Try.pinned (OpenSpec.ofChange prefixedWrong)

/-- 'nandkeep.Again': WHATEVER THE INPUT: true; the input reads as it did. -/
def againSpec : ChangeSpec := { name := "again", fn := fun _ => fun
  | [d1, d2, d3] => { results := [.lit (.bool true)], args := [d1, d2, d3] }
  | _ => none }
def againRow : OpenClaim := { program := "ytodmdkhdbfbfgaa", sum := "b68bbe102ac141e121a547f7e341009fdaaebd03b07aaf923f9ae7740136d83d", func := "nand/nandkeep.Again", spec := "again", apart := false }
def AgainSaid : Prop := againRow.holds Try.pinned (OpenSpec.ofChange againSpec)

/-- ITS FALSE NEIGHBOUR: 'it returns false'. Refute it at one input. -/
def againWrong : ChangeSpec := { name := "again", fn := fun _ => fun
  | [d1, d2, d3] => { results := [.lit (.bool false)], args := [d1, d2, d3] }
  | _ => none }
def AgainWrongFalsely : Prop := againRow.holds Try.pinned (OpenSpec.ofChange againWrong)

/- THE SECOND FORM. 'bulk': how many values and letters a reading holds, each counted each time it is reached (what is shared counts as often as it is met; a slice's spare places count too). A statement '..UptoSaid' is the law's where the arguments, and the package variables that the reading takes, are together of bulk at most 1048576: NARROWER than '..Said'. Prove '..Said' where nothing that the law and all that it calls make is longer than what came in: it says more and counts as full. Else prove '..UptoSaid'. A law counts once. -/
mutual
def uptoBulk {H : Type} : DataW H → Nat
  | .lit (.string bytes) => bytes.length + 1
  | .lit _ => 1
  | .nil => 1
  | .ptr d => uptoBulk d + 1
  | .slice elems spare => uptoBulkAll elems + uptoBulkAll spare + 1
  | .agg parts => uptoBulkAll parts + 1
  | .iface _ d => uptoBulk d + 1
  | .map entries => uptoBulkEntries entries + 1
  | .held _ => 1
def uptoBulkAll {H : Type} : List (DataW H) → Nat
  | [] => 0
  | d :: r => uptoBulk d + uptoBulkAll r
def uptoBulkEntries {H : Type} : List (Lit × DataW H) → Nat
  | [] => 0
  | x :: r => uptoBulkEntry x + uptoBulkEntries r
def uptoBulkEntry {H : Type} : Lit × DataW H → Nat
  | (.string bytes, d) => bytes.length + uptoBulk d + 1
  | (_, d) => uptoBulk d + 1
 end
def uptoSmall : (H : Type) → List (DataW H) → Bool := fun _ ds => decide (uptoBulkAll ds ≤ 1048576)
def OpenSpec.upto (s : _root_.Go.ChangeSpec) : _root_.Go.OpenSpec := { _root_.Go.OpenSpec.ofChange s with cond := some uptoSmall }

/-- 'nandlaw.Codes', WHERE WHAT IT READS IS OF BULK AT MOST 1048576: true; the input reads as it did. -/
def codesUptoRow : OpenClaim := { program := "ytodmdkhdbfbfgaa", sum := "b68bbe102ac141e121a547f7e341009fdaaebd03b07aaf923f9ae7740136d83d", func := "nand/nandlaw.Codes", spec := "codes", apart := false, narrowed := true }
def CodesUptoSaid : Prop := codesUptoRow.holds Try.pinned (OpenSpec.upto codesSpec)

/-- 'nandlaw.Unpacks', WHERE WHAT IT READS IS OF BULK AT MOST 1048576: true; the input reads as it did. -/
def unpacksUptoRow : OpenClaim := { program := "ytodmdkhdbfbfgaa", sum := "b68bbe102ac141e121a547f7e341009fdaaebd03b07aaf923f9ae7740136d83d", func := "nand/nandlaw.Unpacks", spec := "unpacks", apart := false, narrowed := true }
def UnpacksUptoSaid : Prop := unpacksUptoRow.holds Try.pinned (OpenSpec.upto unpacksSpec)

/-- 'nandlaw.Packs', WHERE WHAT IT READS IS OF BULK AT MOST 1048576: true; the input reads as it did. -/
def packsUptoRow : OpenClaim := { program := "ytodmdkhdbfbfgaa", sum := "b68bbe102ac141e121a547f7e341009fdaaebd03b07aaf923f9ae7740136d83d", func := "nand/nandlaw.Packs", spec := "packs", apart := false, narrowed := true }
def PacksUptoSaid : Prop := packsUptoRow.holds Try.pinned (OpenSpec.upto packsSpec)

/-- 'nandlaw.Chips', WHERE WHAT IT READS IS OF BULK AT MOST 1048576: true; the input reads as it did. -/
def chipsUptoRow : OpenClaim := { program := "ytodmdkhdbfbfgaa", sum := "b68bbe102ac141e121a547f7e341009fdaaebd03b07aaf923f9ae7740136d83d", func := "nand/nandlaw.Chips", spec := "chips", apart := false, narrowed := true }
def ChipsUptoSaid : Prop := chipsUptoRow.holds Try.pinned (OpenSpec.upto chipsSpec)

/-- 'nandkeep.Prefixed', WHERE WHAT IT READS IS OF BULK AT MOST 1048576: true; the input reads as it did. -/
def prefixedUptoRow : OpenClaim := { program := "ytodmdkhdbfbfgaa", sum := "b68bbe102ac141e121a547f7e341009fdaaebd03b07aaf923f9ae7740136d83d", func := "nand/nandkeep.Prefixed", spec := "prefixed", apart := false, narrowed := true }
def PrefixedUptoSaid : Prop := prefixedUptoRow.holds Try.pinned (OpenSpec.upto prefixedSpec)

/-- 'nandkeep.Again', WHERE WHAT IT READS IS OF BULK AT MOST 1048576: true; the input reads as it did. -/
def againUptoRow : OpenClaim := { program := "ytodmdkhdbfbfgaa", sum := "b68bbe102ac141e121a547f7e341009fdaaebd03b07aaf923f9ae7740136d83d", func := "nand/nandkeep.Again", spec := "again", apart := false, narrowed := true }
def AgainUptoSaid : Prop := againUptoRow.holds Try.pinned (OpenSpec.upto againSpec)

end Rows
end Go.Proofs.Ytodmdkhdbfbfgaa
