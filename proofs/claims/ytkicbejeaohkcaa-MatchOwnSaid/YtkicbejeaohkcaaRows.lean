/-
  No cell of these rows narrows 'for every input' (looked for: loops, veiled, ifaces, maps, wideKeys, modest, calm, conditions, laid).
  DERIVED. THE GIVEN ROWS OF THIS SEAT. 4 by the template 'for every input the law returns true; each argument reads behind the call as it read before'; 0 by the template 'total and deterministic' (their statements: YtkicbejeaohkcaaTotals.lean).
  GIVEN WITH THE SEED: the statements are not yours to turn. If you find one false, say at which input.
  Laid BY PROGRAM, IN A SANDBOX (cutbox-rows.mjs): the forced cells as the released guide's own fill.sh prints them over the translation a7f63480d97d5a99… (all of the seat's roots in one cut). By AI agents, Wed Nov 11 2026. No macro, syntax, notation, axiom, sorry.
-/
import Derived.Test.YtkicbejeaohkcaaChecked
import GoSem.Claim
import GoSem.ClaimJoined
import GoSem.ClaimMapViews
import Derived.JoinedTies
import Derived.KernelRfl
namespace Go.Proofs.Ytkicbejeaohkcaa
/- THE CELL 'sum', in the pinned program and in every row, IS THE sha256 OF THE DUMP (.gsa) THAT YtkicbejeaohkcaaProg.lean LOADS. Nothing in Lean hashes anything: it is a label: what it is worth is what the hold of that sum in a sandbox is worth. -/
noncomputable def Try.pinned : Pinned := { name := "ytkicbejeaohkcaa", sum := "a7f63480d97d5a99577f0ee85e830dbee0e72f06fe61444629d5e4e7ec69a193", checked := Try.checked }
namespace Rows
def none {H : Type} : Left H := { results := [], args := [] }

/-- 'sedimentlaw07.MatchPlaces': WHATEVER THE INPUT: true; the input reads as it did. -/
def matchPlacesSpec : ChangeSpec := { name := "matchPlaces", fn := fun _ => fun
  | [d1, d2, d3] => { results := [.lit (.bool true)], args := [d1, d2, d3] }
  | _ => none }
def matchPlacesRow : OpenClaim := { program := "ytkicbejeaohkcaa", sum := "a7f63480d97d5a99577f0ee85e830dbee0e72f06fe61444629d5e4e7ec69a193", func := "sediment/sedimentlaw07.MatchPlaces", spec := "matchPlaces", apart := false }
def MatchPlacesSaid : Prop := matchPlacesRow.holds Try.pinned (OpenSpec.ofChange matchPlacesSpec)

/-- ITS FALSE NEIGHBOUR: 'it returns false'. Refute it at one input. -/
def matchPlacesWrong : ChangeSpec := { name := "matchPlaces", fn := fun _ => fun
  | [d1, d2, d3] => { results := [.lit (.bool false)], args := [d1, d2, d3] }
  | _ => none }
def MatchPlacesWrongFalsely : Prop := matchPlacesRow.holds Try.pinned (OpenSpec.ofChange matchPlacesWrong)

/-- 'sedimentlaw07.MatchFinds': WHATEVER THE INPUT: true; the input reads as it did. -/
def matchFindsSpec : ChangeSpec := { name := "matchFinds", fn := fun _ => fun
  | [d1, d2, d3] => { results := [.lit (.bool true)], args := [d1, d2, d3] }
  | _ => none }
def matchFindsRow : OpenClaim := { program := "ytkicbejeaohkcaa", sum := "a7f63480d97d5a99577f0ee85e830dbee0e72f06fe61444629d5e4e7ec69a193", func := "sediment/sedimentlaw07.MatchFinds", spec := "matchFinds", apart := false }
def MatchFindsSaid : Prop := matchFindsRow.holds Try.pinned (OpenSpec.ofChange matchFindsSpec)

/-- ITS FALSE NEIGHBOUR: 'it returns false'. Refute it at one input. -/
def matchFindsWrong : ChangeSpec := { name := "matchFinds", fn := fun _ => fun
  | [d1, d2, d3] => { results := [.lit (.bool false)], args := [d1, d2, d3] }
  | _ => none }
def MatchFindsWrongFalsely : Prop := matchFindsRow.holds Try.pinned (OpenSpec.ofChange matchFindsWrong)

/-- 'sedimentlaw07.MatchThere': WHATEVER THE INPUT: true; the input reads as it did. -/
def matchThereSpec : ChangeSpec := { name := "matchThere", fn := fun _ => fun
  | [d1, d2, d3] => { results := [.lit (.bool true)], args := [d1, d2, d3] }
  | _ => none }
def matchThereRow : OpenClaim := { program := "ytkicbejeaohkcaa", sum := "a7f63480d97d5a99577f0ee85e830dbee0e72f06fe61444629d5e4e7ec69a193", func := "sediment/sedimentlaw07.MatchThere", spec := "matchThere", apart := false }
def MatchThereSaid : Prop := matchThereRow.holds Try.pinned (OpenSpec.ofChange matchThereSpec)

/-- ITS FALSE NEIGHBOUR: 'it returns false'. Refute it at one input. -/
def matchThereWrong : ChangeSpec := { name := "matchThere", fn := fun _ => fun
  | [d1, d2, d3] => { results := [.lit (.bool false)], args := [d1, d2, d3] }
  | _ => none }
def MatchThereWrongFalsely : Prop := matchThereRow.holds Try.pinned (OpenSpec.ofChange matchThereWrong)

/-- 'sedimentlaw07.MatchOwn': WHATEVER THE INPUT: true; the input reads as it did. -/
def matchOwnSpec : ChangeSpec := { name := "matchOwn", fn := fun _ => fun
  | [d1, d2] => { results := [.lit (.bool true)], args := [d1, d2] }
  | _ => none }
def matchOwnRow : OpenClaim := { program := "ytkicbejeaohkcaa", sum := "a7f63480d97d5a99577f0ee85e830dbee0e72f06fe61444629d5e4e7ec69a193", func := "sediment/sedimentlaw07.MatchOwn", spec := "matchOwn", apart := false }
def MatchOwnSaid : Prop := matchOwnRow.holds Try.pinned (OpenSpec.ofChange matchOwnSpec)

/-- ITS FALSE NEIGHBOUR: 'it returns false'. Refute it at one input. -/
def matchOwnWrong : ChangeSpec := { name := "matchOwn", fn := fun _ => fun
  | [d1, d2] => { results := [.lit (.bool false)], args := [d1, d2] }
  | _ => none }
def MatchOwnWrongFalsely : Prop := matchOwnRow.holds Try.pinned (OpenSpec.ofChange matchOwnWrong)

/- THE SECOND FORM. 'bulk': how many values and letters a reading holds, each counted each time it is reached (what is shared counts as often as it is met; a slice's spare places count too). A statement '..UptoSaid' is the law's where the arguments, and the package variables that the reading takes, are together of bulk at most 1048576: NARROWER than '..Said'. Prove '..Said' where nothing that the law and all that it calls make is longer than what came in: it says more and counts as full. Else prove '..UptoSaid'. A law counts once. -/
mutual
def uptoBulk {H : Type} : DataW H → Nat
  | .lit (.string bytes) => bytes.length + 1
  | .lit _ => 1
  | .nil => 1
  | .ptr d => uptoBulk d + 1
  | .slice elems spare => uptoBulkAll elems + uptoBulkAll spare + 1
  | .agg parts => uptoBulkAll parts + 1
  | .iface _ d => uptoBulk d + 1
  | .map entries => uptoBulkEntries entries + 1
  | .held _ => 1
def uptoBulkAll {H : Type} : List (DataW H) → Nat
  | [] => 0
  | d :: r => uptoBulk d + uptoBulkAll r
def uptoBulkEntries {H : Type} : List (Lit × DataW H) → Nat
  | [] => 0
  | x :: r => uptoBulkEntry x + uptoBulkEntries r
def uptoBulkEntry {H : Type} : Lit × DataW H → Nat
  | (.string bytes, d) => bytes.length + uptoBulk d + 1
  | (_, d) => uptoBulk d + 1
 end
def uptoSmall : (H : Type) → List (DataW H) → Bool := fun _ ds => decide (uptoBulkAll ds ≤ 1048576)
def OpenSpec.upto (s : _root_.Go.ChangeSpec) : _root_.Go.OpenSpec := { _root_.Go.OpenSpec.ofChange s with cond := some uptoSmall }

/-- 'sedimentlaw07.MatchPlaces', WHERE WHAT IT READS IS OF BULK AT MOST 1048576: true; the input reads as it did. -/
def matchPlacesUptoRow : OpenClaim := { program := "ytkicbejeaohkcaa", sum := "a7f63480d97d5a99577f0ee85e830dbee0e72f06fe61444629d5e4e7ec69a193", func := "sediment/sedimentlaw07.MatchPlaces", spec := "matchPlaces", apart := false, narrowed := true }
def MatchPlacesUptoSaid : Prop := matchPlacesUptoRow.holds Try.pinned (OpenSpec.upto matchPlacesSpec)

/-- 'sedimentlaw07.MatchFinds', WHERE WHAT IT READS IS OF BULK AT MOST 1048576: true; the input reads as it did. -/
def matchFindsUptoRow : OpenClaim := { program := "ytkicbejeaohkcaa", sum := "a7f63480d97d5a99577f0ee85e830dbee0e72f06fe61444629d5e4e7ec69a193", func := "sediment/sedimentlaw07.MatchFinds", spec := "matchFinds", apart := false, narrowed := true }
def MatchFindsUptoSaid : Prop := matchFindsUptoRow.holds Try.pinned (OpenSpec.upto matchFindsSpec)

/-- 'sedimentlaw07.MatchThere', WHERE WHAT IT READS IS OF BULK AT MOST 1048576: true; the input reads as it did. -/
def matchThereUptoRow : OpenClaim := { program := "ytkicbejeaohkcaa", sum := "a7f63480d97d5a99577f0ee85e830dbee0e72f06fe61444629d5e4e7ec69a193", func := "sediment/sedimentlaw07.MatchThere", spec := "matchThere", apart := false, narrowed := true }
def MatchThereUptoSaid : Prop := matchThereUptoRow.holds Try.pinned (OpenSpec.upto matchThereSpec)

/-- 'sedimentlaw07.MatchOwn', WHERE WHAT IT READS IS OF BULK AT MOST 1048576: true; the input reads as it did. -/
def matchOwnUptoRow : OpenClaim := { program := "ytkicbejeaohkcaa", sum := "a7f63480d97d5a99577f0ee85e830dbee0e72f06fe61444629d5e4e7ec69a193", func := "sediment/sedimentlaw07.MatchOwn", spec := "matchOwn", apart := false, narrowed := true }
def MatchOwnUptoSaid : Prop := matchOwnUptoRow.holds Try.pinned (OpenSpec.upto matchOwnSpec)

end Rows
end Go.Proofs.Ytkicbejeaohkcaa
