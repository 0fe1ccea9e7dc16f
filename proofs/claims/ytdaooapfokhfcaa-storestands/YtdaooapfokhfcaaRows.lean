/-
  NARROWER THAN 'FOR EVERY INPUT', by the rows' own cells (each row's printed sentence says how): StoreBack: loops · StoreStands: loops · StoreWalks: loops · StoreApart: loops.
  DERIVED. THE GIVEN ROWS OF THIS SEAT. 4 by the template 'for every input the law returns true; each argument reads behind the call as it read before'; 0 by the template 'total and deterministic' (their statements: YtdaooapfokhfcaaTotals.lean).
  GIVEN WITH THE SEED: the statements are not yours to turn. If you find one false, say at which input.
  Laid BY PROGRAM, IN A SANDBOX (cutbox-rows.mjs): the forced cells as the released guide's own fill.sh prints them over the translation 3cb9f274355b1efa… (all of the seat's roots in one cut). By AI agents, Wed Nov 11 2026. No macro, syntax, notation, axiom, sorry.
-/
import Derived.Test.YtdaooapfokhfcaaChecked
import GoSem.Claim
import GoSem.ClaimJoined
import GoSem.ClaimMapViews
import Derived.JoinedTies
import Derived.KernelRfl
namespace Go.Proofs.Ytdaooapfokhfcaa
/- THE CELL 'sum', in the pinned program and in every row, IS THE sha256 OF THE DUMP (.gsa) THAT YtdaooapfokhfcaaProg.lean LOADS. Nothing in Lean hashes anything: it is a label: what it is worth is what the hold of that sum in a sandbox is worth. -/
noncomputable def Try.pinned : Pinned := { name := "ytdaooapfokhfcaa", sum := "3cb9f274355b1efab2dea64b5f1d4cde8ebb982f2766405aa32e340f81cc14d6", checked := Try.checked }
namespace Rows
def none {H : Type} : Left H := { results := [], args := [] }

/-- 'scruplelaw06.StoreBack': WHATEVER THE INPUT: true; the input reads as it did. -/
def storeBackSpec : ChangeSpec := { name := "storeBack", fn := fun _ => fun
  | [d1, d2] => { results := [.lit (.bool true)], args := [d1, d2] }
  | _ => none }
def storeBackRow : OpenClaim := { program := "ytdaooapfokhfcaa", sum := "3cb9f274355b1efab2dea64b5f1d4cde8ebb982f2766405aa32e340f81cc14d6", func := "scruple/scruplelaw06.StoreBack", spec := "storeBack", inPlace := ["slices.overlaps[scruple/table.pair[string, scruple/api.Value]]", "slices.overlaps[scruple/table.pair[string, scruple/store.undo]]"], unfollowed := true, recurses := true, loops := true, apart := false }
def StoreBackSaid : Prop := storeBackRow.holds Try.pinned (OpenSpec.ofChange storeBackSpec)

/-- ITS FALSE NEIGHBOUR: 'it returns false'. Refute it at one input. -/
def storeBackWrong : ChangeSpec := { name := "storeBack", fn := fun _ => fun
  | [d1, d2] => { results := [.lit (.bool false)], args := [d1, d2] }
  | _ => none }
def StoreBackWrongFalsely : Prop := storeBackRow.holds Try.pinned (OpenSpec.ofChange storeBackWrong)

/-- 'scruplelaw06.StoreStands': WHATEVER THE INPUT: true; the input reads as it did. -/
def storeStandsSpec : ChangeSpec := { name := "storeStands", fn := fun _ => fun
  | [d] => { results := [.lit (.bool true)], args := [d] }
  | _ => none }
def storeStandsRow : OpenClaim := { program := "ytdaooapfokhfcaa", sum := "3cb9f274355b1efab2dea64b5f1d4cde8ebb982f2766405aa32e340f81cc14d6", func := "scruple/scruplelaw06.StoreStands", spec := "storeStands", inPlace := ["slices.overlaps[scruple/table.pair[string, scruple/api.Value]]", "slices.overlaps[scruple/table.pair[string, scruple/store.undo]]"], unfollowed := true, recurses := true, loops := true, apart := false }
def StoreStandsSaid : Prop := storeStandsRow.holds Try.pinned (OpenSpec.ofChange storeStandsSpec)

/-- ITS FALSE NEIGHBOUR: 'it returns false'. Refute it at one input. -/
def storeStandsWrong : ChangeSpec := { name := "storeStands", fn := fun _ => fun
  | [d] => { results := [.lit (.bool false)], args := [d] }
  | _ => none }
def StoreStandsWrongFalsely : Prop := storeStandsRow.holds Try.pinned (OpenSpec.ofChange storeStandsWrong)

/-- 'scruplelaw06.StoreWalks': WHATEVER THE INPUT: true; the input reads as it did. -/
def storeWalksSpec : ChangeSpec := { name := "storeWalks", fn := fun _ => fun
  | [d1, d2] => { results := [.lit (.bool true)], args := [d1, d2] }
  | _ => none }
def storeWalksRow : OpenClaim := { program := "ytdaooapfokhfcaa", sum := "3cb9f274355b1efab2dea64b5f1d4cde8ebb982f2766405aa32e340f81cc14d6", func := "scruple/scruplelaw06.StoreWalks", spec := "storeWalks", inPlace := ["slices.overlaps[scruple/table.pair[string, scruple/api.Value]]", "slices.overlaps[scruple/table.pair[string, scruple/store.undo]]"], unfollowed := true, recurses := true, loops := true, apart := false }
def StoreWalksSaid : Prop := storeWalksRow.holds Try.pinned (OpenSpec.ofChange storeWalksSpec)

/-- ITS FALSE NEIGHBOUR: 'it returns false'. Refute it at one input. -/
def storeWalksWrong : ChangeSpec := { name := "storeWalks", fn := fun _ => fun
  | [d1, d2] => { results := [.lit (.bool false)], args := [d1, d2] }
  | _ => none }
def StoreWalksWrongFalsely : Prop := storeWalksRow.holds Try.pinned (OpenSpec.ofChange storeWalksWrong)

/-- 'scruplelaw06.StoreApart': WHATEVER THE INPUT: true; the input reads as it did. -/
def storeApartSpec : ChangeSpec := { name := "storeApart", fn := fun _ => fun
  | [d1, d2] => { results := [.lit (.bool true)], args := [d1, d2] }
  | _ => none }
def storeApartRow : OpenClaim := { program := "ytdaooapfokhfcaa", sum := "3cb9f274355b1efab2dea64b5f1d4cde8ebb982f2766405aa32e340f81cc14d6", func := "scruple/scruplelaw06.StoreApart", spec := "storeApart", inPlace := ["slices.overlaps[scruple/table.pair[string, scruple/api.Value]]", "slices.overlaps[scruple/table.pair[string, scruple/store.undo]]"], unfollowed := true, recurses := true, loops := true, apart := false }
def StoreApartSaid : Prop := storeApartRow.holds Try.pinned (OpenSpec.ofChange storeApartSpec)

/-- ITS FALSE NEIGHBOUR: 'it returns false'. Refute it at one input. -/
def storeApartWrong : ChangeSpec := { name := "storeApart", fn := fun _ => fun
  | [d1, d2] => { results := [.lit (.bool false)], args := [d1, d2] }
  | _ => none }
def StoreApartWrongFalsely : Prop := storeApartRow.holds Try.pinned (OpenSpec.ofChange storeApartWrong)

/- THE SECOND FORM. 'bulk': how many values and letters a reading holds, each counted each time it is reached (what is shared counts as often as it is met; a slice's spare places count too). A statement '..UptoSaid' is the law's where the arguments, and the package variables that the reading takes, are together of bulk at most 1048576: NARROWER than '..Said'. Prove '..Said' where nothing that the law and all that it calls make is longer than what came in: it says more and counts as full. Else prove '..UptoSaid'. A law counts once. -/
mutual
def uptoBulk {H : Type} : DataW H → Nat
  | .lit (.string bytes) => bytes.length + 1
  | .lit _ => 1
  | .nil => 1
  | .ptr d => uptoBulk d + 1
  | .slice elems spare => uptoBulkAll elems + uptoBulkAll spare + 1
  | .agg parts => uptoBulkAll parts + 1
  | .iface _ d => uptoBulk d + 1
  | .map entries => uptoBulkEntries entries + 1
  | .held _ => 1
def uptoBulkAll {H : Type} : List (DataW H) → Nat
  | [] => 0
  | d :: r => uptoBulk d + uptoBulkAll r
def uptoBulkEntries {H : Type} : List (Lit × DataW H) → Nat
  | [] => 0
  | x :: r => uptoBulkEntry x + uptoBulkEntries r
def uptoBulkEntry {H : Type} : Lit × DataW H → Nat
  | (.string bytes, d) => bytes.length + uptoBulk d + 1
  | (_, d) => uptoBulk d + 1
 end
def uptoSmall : (H : Type) → List (DataW H) → Bool := fun _ ds => decide (uptoBulkAll ds ≤ 1048576)
def OpenSpec.upto (s : _root_.Go.ChangeSpec) : _root_.Go.OpenSpec := { _root_.Go.OpenSpec.ofChange s with cond := some uptoSmall }

/-- 'scruplelaw06.StoreBack', WHERE WHAT IT READS IS OF BULK AT MOST 1048576: true; the input reads as it did. -/
def storeBackUptoRow : OpenClaim := { program := "ytdaooapfokhfcaa", sum := "3cb9f274355b1efab2dea64b5f1d4cde8ebb982f2766405aa32e340f81cc14d6", func := "scruple/scruplelaw06.StoreBack", spec := "storeBack", inPlace := ["slices.overlaps[scruple/table.pair[string, scruple/api.Value]]", "slices.overlaps[scruple/table.pair[string, scruple/store.undo]]"], unfollowed := true, recurses := true, loops := true, apart := false, narrowed := true }
def StoreBackUptoSaid : Prop := storeBackUptoRow.holds Try.pinned (OpenSpec.upto storeBackSpec)

/-- 'scruplelaw06.StoreStands', WHERE WHAT IT READS IS OF BULK AT MOST 1048576: true; the input reads as it did. -/
def storeStandsUptoRow : OpenClaim := { program := "ytdaooapfokhfcaa", sum := "3cb9f274355b1efab2dea64b5f1d4cde8ebb982f2766405aa32e340f81cc14d6", func := "scruple/scruplelaw06.StoreStands", spec := "storeStands", inPlace := ["slices.overlaps[scruple/table.pair[string, scruple/api.Value]]", "slices.overlaps[scruple/table.pair[string, scruple/store.undo]]"], unfollowed := true, recurses := true, loops := true, apart := false, narrowed := true }
def StoreStandsUptoSaid : Prop := storeStandsUptoRow.holds Try.pinned (OpenSpec.upto storeStandsSpec)

/-- 'scruplelaw06.StoreWalks', WHERE WHAT IT READS IS OF BULK AT MOST 1048576: true; the input reads as it did. -/
def storeWalksUptoRow : OpenClaim := { program := "ytdaooapfokhfcaa", sum := "3cb9f274355b1efab2dea64b5f1d4cde8ebb982f2766405aa32e340f81cc14d6", func := "scruple/scruplelaw06.StoreWalks", spec := "storeWalks", inPlace := ["slices.overlaps[scruple/table.pair[string, scruple/api.Value]]", "slices.overlaps[scruple/table.pair[string, scruple/store.undo]]"], unfollowed := true, recurses := true, loops := true, apart := false, narrowed := true }
def StoreWalksUptoSaid : Prop := storeWalksUptoRow.holds Try.pinned (OpenSpec.upto storeWalksSpec)

/-- 'scruplelaw06.StoreApart', WHERE WHAT IT READS IS OF BULK AT MOST 1048576: true; the input reads as it did. -/
def storeApartUptoRow : OpenClaim := { program := "ytdaooapfokhfcaa", sum := "3cb9f274355b1efab2dea64b5f1d4cde8ebb982f2766405aa32e340f81cc14d6", func := "scruple/scruplelaw06.StoreApart", spec := "storeApart", inPlace := ["slices.overlaps[scruple/table.pair[string, scruple/api.Value]]", "slices.overlaps[scruple/table.pair[string, scruple/store.undo]]"], unfollowed := true, recurses := true, loops := true, apart := false, narrowed := true }
def StoreApartUptoSaid : Prop := storeApartUptoRow.holds Try.pinned (OpenSpec.upto storeApartSpec)

end Rows
end Go.Proofs.Ytdaooapfokhfcaa
