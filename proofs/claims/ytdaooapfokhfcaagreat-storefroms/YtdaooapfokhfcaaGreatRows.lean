/-
  NARROWER THAN 'FOR EVERY INPUT', by the rows' own cells (each row's printed sentence says how): StoreRuns: loops · StoreFroms: loops.
  DERIVED. THE GIVEN ROWS OF THIS SEAT. 2 by the template 'for every input the law returns true; each argument reads behind the call as it read before'; 0 by the template 'total and deterministic' (their statements: YtdaooapfokhfcaaGreatTotals.lean).
  GIVEN WITH THE SEED: the statements are not yours to turn. If you find one false, say at which input.
  Laid BY PROGRAM, IN A SANDBOX (cutbox-rows.mjs): the forced cells as the released guide's own fill.sh prints them over the translation 3e8151e199e56c2a… (all of the seat's roots in one cut). By AI agents, Wed Nov 11 2026. No macro, syntax, notation, axiom, sorry.
-/
import Derived.Test.YtdaooapfokhfcaaGreatChecked
import GoSem.Claim
import GoSem.ClaimJoined
import GoSem.ClaimMapViews
import Derived.JoinedTies
import Derived.KernelRfl
namespace Go.Proofs.YtdaooapfokhfcaaGreat
/- THE CELL 'sum', in the pinned program and in every row, IS THE sha256 OF THE DUMP (.gsa) THAT YtdaooapfokhfcaaGreatProg.lean LOADS. Nothing in Lean hashes anything: it is a label: what it is worth is what the hold of that sum in a sandbox is worth. -/
noncomputable def Tryz.pinned : Pinned := { name := "ytdaooapfokhfcaagreat", sum := "3e8151e199e56c2a4ab73cc4d6d1060822533f565ed9148c3d14ecb962b644c5", checked := Tryz.checked }
namespace Rows
def none {H : Type} : Left H := { results := [], args := [] }

/-- 'scruplelaw06.StoreRuns': WHATEVER THE INPUT: true; the input reads as it did. -/
def storeRunsSpec : ChangeSpec := { name := "storeRuns", fn := fun _ => fun
  | [d] => { results := [.lit (.bool true)], args := [d] }
  | _ => none }
def storeRunsRow : OpenClaim := { program := "ytdaooapfokhfcaagreat", sum := "3e8151e199e56c2a4ab73cc4d6d1060822533f565ed9148c3d14ecb962b644c5", func := "scruple/scruplelaw06.StoreRuns", spec := "storeRuns", inPlace := ["slices.overlaps[scruple/table.pair[string, scruple/api.Value]]", "slices.overlaps[scruple/table.pair[string, scruple/store.undo]]"], unfollowed := true, recurses := true, loops := true, apart := false }
def StoreRunsSaid : Prop := storeRunsRow.holds Tryz.pinned (OpenSpec.ofChange storeRunsSpec)

/-- ITS FALSE NEIGHBOUR: 'it returns false'. Refute it at one input. -/
def storeRunsWrong : ChangeSpec := { name := "storeRuns", fn := fun _ => fun
  | [d] => { results := [.lit (.bool false)], args := [d] }
  | _ => none }
def StoreRunsWrongFalsely : Prop := storeRunsRow.holds Tryz.pinned (OpenSpec.ofChange storeRunsWrong)

/-- 'scruplelaw06.StoreFroms': WHATEVER THE INPUT: true; the input reads as it did. -/
def storeFromsSpec : ChangeSpec := { name := "storeFroms", fn := fun _ => fun
  | [d1, d2] => { results := [.lit (.bool true)], args := [d1, d2] }
  | _ => none }
def storeFromsRow : OpenClaim := { program := "ytdaooapfokhfcaagreat", sum := "3e8151e199e56c2a4ab73cc4d6d1060822533f565ed9148c3d14ecb962b644c5", func := "scruple/scruplelaw06.StoreFroms", spec := "storeFroms", inPlace := ["slices.overlaps[scruple/table.pair[string, scruple/api.Value]]", "slices.overlaps[scruple/table.pair[string, scruple/store.undo]]"], unfollowed := true, recurses := true, loops := true, apart := false }
def StoreFromsSaid : Prop := storeFromsRow.holds Tryz.pinned (OpenSpec.ofChange storeFromsSpec)

/-- ITS FALSE NEIGHBOUR: 'it returns false'. Refute it at one input. -/
def storeFromsWrong : ChangeSpec := { name := "storeFroms", fn := fun _ => fun
  | [d1, d2] => { results := [.lit (.bool false)], args := [d1, d2] }
  | _ => none }
def StoreFromsWrongFalsely : Prop := storeFromsRow.holds Tryz.pinned (OpenSpec.ofChange storeFromsWrong)

/- THE SECOND FORM. 'bulk': how many values and letters a reading holds, each counted each time it is reached (what is shared counts as often as it is met; a slice's spare places count too). A statement '..UptoSaid' is the law's where the arguments, and the package variables that the reading takes, are together of bulk at most 1048576: NARROWER than '..Said'. Prove '..Said' where nothing that the law and all that it calls make is longer than what came in: it says more and counts as full. Else prove '..UptoSaid'. A law counts once. -/
mutual
def uptoBulk {H : Type} : DataW H → Nat
  | .lit (.string bytes) => bytes.length + 1
  | .lit _ => 1
  | .nil => 1
  | .ptr d => uptoBulk d + 1
  | .slice elems spare => uptoBulkAll elems + uptoBulkAll spare + 1
  | .agg parts => uptoBulkAll parts + 1
  | .iface _ d => uptoBulk d + 1
  | .map entries => uptoBulkEntries entries + 1
  | .held _ => 1
def uptoBulkAll {H : Type} : List (DataW H) → Nat
  | [] => 0
  | d :: r => uptoBulk d + uptoBulkAll r
def uptoBulkEntries {H : Type} : List (Lit × DataW H) → Nat
  | [] => 0
  | x :: r => uptoBulkEntry x + uptoBulkEntries r
def uptoBulkEntry {H : Type} : Lit × DataW H → Nat
  | (.string bytes, d) => bytes.length + uptoBulk d + 1
  | (_, d) => uptoBulk d + 1
 end
def uptoSmall : (H : Type) → List (DataW H) → Bool := fun _ ds => decide (uptoBulkAll ds ≤ 1048576)
def OpenSpec.upto (s : _root_.Go.ChangeSpec) : _root_.Go.OpenSpec := { _root_.Go.OpenSpec.ofChange s with cond := some uptoSmall }

/-- 'scruplelaw06.StoreRuns', WHERE WHAT IT READS IS OF BULK AT MOST 1048576: true; the input reads as it did. -/
def storeRunsUptoRow : OpenClaim := { program := "ytdaooapfokhfcaagreat", sum := "3e8151e199e56c2a4ab73cc4d6d1060822533f565ed9148c3d14ecb962b644c5", func := "scruple/scruplelaw06.StoreRuns", spec := "storeRuns", inPlace := ["slices.overlaps[scruple/table.pair[string, scruple/api.Value]]", "slices.overlaps[scruple/table.pair[string, scruple/store.undo]]"], unfollowed := true, recurses := true, loops := true, apart := false, narrowed := true }
def StoreRunsUptoSaid : Prop := storeRunsUptoRow.holds Tryz.pinned (OpenSpec.upto storeRunsSpec)

/-- 'scruplelaw06.StoreFroms', WHERE WHAT IT READS IS OF BULK AT MOST 1048576: true; the input reads as it did. -/
def storeFromsUptoRow : OpenClaim := { program := "ytdaooapfokhfcaagreat", sum := "3e8151e199e56c2a4ab73cc4d6d1060822533f565ed9148c3d14ecb962b644c5", func := "scruple/scruplelaw06.StoreFroms", spec := "storeFroms", inPlace := ["slices.overlaps[scruple/table.pair[string, scruple/api.Value]]", "slices.overlaps[scruple/table.pair[string, scruple/store.undo]]"], unfollowed := true, recurses := true, loops := true, apart := false, narrowed := true }
def StoreFromsUptoSaid : Prop := storeFromsUptoRow.holds Tryz.pinned (OpenSpec.upto storeFromsSpec)

end Rows
end Go.Proofs.YtdaooapfokhfcaaGreat
