/-
  NARROWER THAN 'FOR EVERY INPUT', by the rows' own cells (each row's printed sentence says how): StateDiffs: loops · StateApplies: loops · StateLeads: loops.
  DERIVED. THE GIVEN ROWS OF THIS SEAT. 3 by the template 'for every input the law returns true; each argument reads behind the call as it read before'; 0 by the template 'total and deterministic' (their statements: YtlmgiimgmjbkeaaTotals.lean).
  GIVEN WITH THE SEED: the statements are not yours to turn. If you find one false, say at which input.
  Laid BY PROGRAM, IN A SANDBOX (cutbox-rows.mjs): the forced cells as the released guide's own fill.sh prints them over the translation 53358afe171d8532… (all of the seat's roots in one cut). By AI agents, Wed Nov 11 2026. No macro, syntax, notation, axiom, sorry.
-/
import Derived.Test.YtlmgiimgmjbkeaaChecked
import GoSem.Claim
import GoSem.ClaimJoined
import GoSem.ClaimMapViews
import Derived.JoinedTies
import Derived.KernelRfl
namespace Go.Proofs.Ytlmgiimgmjbkeaa
/- THE CELL 'sum', in the pinned program and in every row, IS THE sha256 OF THE DUMP (.gsa) THAT YtlmgiimgmjbkeaaProg.lean LOADS. Nothing in Lean hashes anything: it is a label: what it is worth is what the hold of that sum in a sandbox is worth. -/
noncomputable def Try.pinned : Pinned := { name := "ytlmgiimgmjbkeaa", sum := "53358afe171d8532d4662839efd1c6927058e17ef843581fa99843c14b940063", checked := Try.checked }
namespace Rows
def none {H : Type} : Left H := { results := [], args := [] }

/-- 'scruplelaw07.StateDiffs': WHATEVER THE INPUT: true; the input reads as it did. -/
def stateDiffsSpec : ChangeSpec := { name := "stateDiffs", fn := fun _ => fun
  | [d1, d2] => { results := [.lit (.bool true)], args := [d1, d2] }
  | _ => none }
def stateDiffsRow : OpenClaim := { program := "ytlmgiimgmjbkeaa", sum := "53358afe171d8532d4662839efd1c6927058e17ef843581fa99843c14b940063", func := "scruple/scruplelaw07.StateDiffs", spec := "stateDiffs", unfollowed := true, recurses := true, loops := true, apart := false }
def StateDiffsSaid : Prop := stateDiffsRow.holds Try.pinned (OpenSpec.ofChange stateDiffsSpec)

/-- ITS FALSE NEIGHBOUR: 'it returns false'. Refute it at one input. -/
def stateDiffsWrong : ChangeSpec := { name := "stateDiffs", fn := fun _ => fun
  | [d1, d2] => { results := [.lit (.bool false)], args := [d1, d2] }
  | _ => none }
def StateDiffsWrongFalsely : Prop := stateDiffsRow.holds Try.pinned (OpenSpec.ofChange stateDiffsWrong)

/-- 'scruplelaw07.StateApplies': WHATEVER THE INPUT: true; the input reads as it did. -/
def stateAppliesSpec : ChangeSpec := { name := "stateApplies", fn := fun _ => fun
  | [d1, d2] => { results := [.lit (.bool true)], args := [d1, d2] }
  | _ => none }
def stateAppliesRow : OpenClaim := { program := "ytlmgiimgmjbkeaa", sum := "53358afe171d8532d4662839efd1c6927058e17ef843581fa99843c14b940063", func := "scruple/scruplelaw07.StateApplies", spec := "stateApplies", unfollowed := true, recurses := true, loops := true, apart := false }
def StateAppliesSaid : Prop := stateAppliesRow.holds Try.pinned (OpenSpec.ofChange stateAppliesSpec)

/-- ITS FALSE NEIGHBOUR: 'it returns false'. Refute it at one input. -/
def stateAppliesWrong : ChangeSpec := { name := "stateApplies", fn := fun _ => fun
  | [d1, d2] => { results := [.lit (.bool false)], args := [d1, d2] }
  | _ => none }
def StateAppliesWrongFalsely : Prop := stateAppliesRow.holds Try.pinned (OpenSpec.ofChange stateAppliesWrong)

/-- 'scruplelaw07.StateLeads': WHATEVER THE INPUT: true; the input reads as it did. -/
def stateLeadsSpec : ChangeSpec := { name := "stateLeads", fn := fun _ => fun
  | [d1, d2] => { results := [.lit (.bool true)], args := [d1, d2] }
  | _ => none }
def stateLeadsRow : OpenClaim := { program := "ytlmgiimgmjbkeaa", sum := "53358afe171d8532d4662839efd1c6927058e17ef843581fa99843c14b940063", func := "scruple/scruplelaw07.StateLeads", spec := "stateLeads", unfollowed := true, recurses := true, loops := true, apart := false }
def StateLeadsSaid : Prop := stateLeadsRow.holds Try.pinned (OpenSpec.ofChange stateLeadsSpec)

/-- ITS FALSE NEIGHBOUR: 'it returns false'. Refute it at one input. -/
def stateLeadsWrong : ChangeSpec := { name := "stateLeads", fn := fun _ => fun
  | [d1, d2] => { results := [.lit (.bool false)], args := [d1, d2] }
  | _ => none }
def StateLeadsWrongFalsely : Prop := stateLeadsRow.holds Try.pinned (OpenSpec.ofChange stateLeadsWrong)

/- THE SECOND FORM. 'bulk': how many values and letters a reading holds, each counted each time it is reached (what is shared counts as often as it is met; a slice's spare places count too). A statement '..UptoSaid' is the law's where the arguments, and the package variables that the reading takes, are together of bulk at most 1048576: NARROWER than '..Said'. Prove '..Said' where nothing that the law and all that it calls make is longer than what came in: it says more and counts as full. Else prove '..UptoSaid'. A law counts once. -/
mutual
def uptoBulk {H : Type} : DataW H → Nat
  | .lit (.string bytes) => bytes.length + 1
  | .lit _ => 1
  | .nil => 1
  | .ptr d => uptoBulk d + 1
  | .slice elems spare => uptoBulkAll elems + uptoBulkAll spare + 1
  | .agg parts => uptoBulkAll parts + 1
  | .iface _ d => uptoBulk d + 1
  | .map entries => uptoBulkEntries entries + 1
  | .held _ => 1
def uptoBulkAll {H : Type} : List (DataW H) → Nat
  | [] => 0
  | d :: r => uptoBulk d + uptoBulkAll r
def uptoBulkEntries {H : Type} : List (Lit × DataW H) → Nat
  | [] => 0
  | x :: r => uptoBulkEntry x + uptoBulkEntries r
def uptoBulkEntry {H : Type} : Lit × DataW H → Nat
  | (.string bytes, d) => bytes.length + uptoBulk d + 1
  | (_, d) => uptoBulk d + 1
 end
def uptoSmall : (H : Type) → List (DataW H) → Bool := fun _ ds => decide (uptoBulkAll ds ≤ 1048576)
def OpenSpec.upto (s : _root_.Go.ChangeSpec) : _root_.Go.OpenSpec := { _root_.Go.OpenSpec.ofChange s with cond := some uptoSmall }

/-- 'scruplelaw07.StateDiffs', WHERE WHAT IT READS IS OF BULK AT MOST 1048576: true; the input reads as it did. -/
def stateDiffsUptoRow : OpenClaim := { program := "ytlmgiimgmjbkeaa", sum := "53358afe171d8532d4662839efd1c6927058e17ef843581fa99843c14b940063", func := "scruple/scruplelaw07.StateDiffs", spec := "stateDiffs", unfollowed := true, recurses := true, loops := true, apart := false, narrowed := true }
def StateDiffsUptoSaid : Prop := stateDiffsUptoRow.holds Try.pinned (OpenSpec.upto stateDiffsSpec)

/-- 'scruplelaw07.StateApplies', WHERE WHAT IT READS IS OF BULK AT MOST 1048576: true; the input reads as it did. -/
def stateAppliesUptoRow : OpenClaim := { program := "ytlmgiimgmjbkeaa", sum := "53358afe171d8532d4662839efd1c6927058e17ef843581fa99843c14b940063", func := "scruple/scruplelaw07.StateApplies", spec := "stateApplies", unfollowed := true, recurses := true, loops := true, apart := false, narrowed := true }
def StateAppliesUptoSaid : Prop := stateAppliesUptoRow.holds Try.pinned (OpenSpec.upto stateAppliesSpec)

/-- 'scruplelaw07.StateLeads', WHERE WHAT IT READS IS OF BULK AT MOST 1048576: true; the input reads as it did. -/
def stateLeadsUptoRow : OpenClaim := { program := "ytlmgiimgmjbkeaa", sum := "53358afe171d8532d4662839efd1c6927058e17ef843581fa99843c14b940063", func := "scruple/scruplelaw07.StateLeads", spec := "stateLeads", unfollowed := true, recurses := true, loops := true, apart := false, narrowed := true }
def StateLeadsUptoSaid : Prop := stateLeadsUptoRow.holds Try.pinned (OpenSpec.upto stateLeadsSpec)

end Rows
end Go.Proofs.Ytlmgiimgmjbkeaa
