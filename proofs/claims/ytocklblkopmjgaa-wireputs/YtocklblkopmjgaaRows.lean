/-
  NARROWER THAN 'FOR EVERY INPUT', by the rows' own cells (each row's printed sentence says how): ValueRecords: loops · ValueChanges: loops · ValueLaws: loops · WirePuts: loops · WireCodes: loops.
  DERIVED. THE GIVEN ROWS OF THIS SEAT. 6 by the template 'for every input the law returns true; each argument reads behind the call as it read before'; 0 by the template 'total and deterministic' (their statements: YtocklblkopmjgaaTotals.lean).
  GIVEN WITH THE SEED: the statements are not yours to turn. If you find one false, say at which input.
  Laid BY PROGRAM, IN A SANDBOX (cutbox-rows.mjs): the forced cells as the released guide's own fill.sh prints them over the translation 25a0c1a9a52fdb8e… (all of the seat's roots in one cut). By AI agents, Wed Nov 11 2026. No macro, syntax, notation, axiom, sorry.
-/
import Derived.Test.YtocklblkopmjgaaChecked
import GoSem.Claim
import GoSem.ClaimJoined
import GoSem.ClaimMapViews
import Derived.JoinedTies
import Derived.KernelRfl
namespace Go.Proofs.Ytocklblkopmjgaa
/- THE CELL 'sum', in the pinned program and in every row, IS THE sha256 OF THE DUMP (.gsa) THAT YtocklblkopmjgaaProg.lean LOADS. Nothing in Lean hashes anything: it is a label: what it is worth is what the hold of that sum in a sandbox is worth. -/
noncomputable def Try.pinned : Pinned := { name := "ytocklblkopmjgaa", sum := "25a0c1a9a52fdb8e41f7de8c345209c27d6561073796eab1ede7d1a6f93cdc12", checked := Try.checked }
namespace Rows
def none {H : Type} : Left H := { results := [], args := [] }

/-- 'scruplelaw03.ValueRecords': WHATEVER THE INPUT: true; the input reads as it did. -/
def valueRecordsSpec : ChangeSpec := { name := "valueRecords", fn := fun _ => fun
  | [d] => { results := [.lit (.bool true)], args := [d] }
  | _ => none }
def valueRecordsRow : OpenClaim := { program := "ytocklblkopmjgaa", sum := "25a0c1a9a52fdb8e41f7de8c345209c27d6561073796eab1ede7d1a6f93cdc12", func := "scruple/scruplelaw03.ValueRecords", spec := "valueRecords", unfollowed := true, recurses := true, loops := true, apart := false }
def ValueRecordsSaid : Prop := valueRecordsRow.holds Try.pinned (OpenSpec.ofChange valueRecordsSpec)

/-- ITS FALSE NEIGHBOUR: 'it returns false'. Refute it at one input. -/
def valueRecordsWrong : ChangeSpec := { name := "valueRecords", fn := fun _ => fun
  | [d] => { results := [.lit (.bool false)], args := [d] }
  | _ => none }
def ValueRecordsWrongFalsely : Prop := valueRecordsRow.holds Try.pinned (OpenSpec.ofChange valueRecordsWrong)

/-- 'scruplelaw03.ValueChanges': WHATEVER THE INPUT: true; the input reads as it did. -/
def valueChangesSpec : ChangeSpec := { name := "valueChanges", fn := fun _ => fun
  | [d1, d2, d3] => { results := [.lit (.bool true)], args := [d1, d2, d3] }
  | _ => none }
def valueChangesRow : OpenClaim := { program := "ytocklblkopmjgaa", sum := "25a0c1a9a52fdb8e41f7de8c345209c27d6561073796eab1ede7d1a6f93cdc12", func := "scruple/scruplelaw03.ValueChanges", spec := "valueChanges", inPlace := ["slices.overlaps[string]", "slices.overlaps[scruple/api.Value]"], unfollowed := true, recurses := true, loops := true, apart := false }
def ValueChangesSaid : Prop := valueChangesRow.holds Try.pinned (OpenSpec.ofChange valueChangesSpec)

/-- ITS FALSE NEIGHBOUR: 'it returns false'. Refute it at one input. -/
def valueChangesWrong : ChangeSpec := { name := "valueChanges", fn := fun _ => fun
  | [d1, d2, d3] => { results := [.lit (.bool false)], args := [d1, d2, d3] }
  | _ => none }
def ValueChangesWrongFalsely : Prop := valueChangesRow.holds Try.pinned (OpenSpec.ofChange valueChangesWrong)

/-- 'scruplelaw03.ValueLaws': WHATEVER THE INPUT: true; the input reads as it did. -/
def valueLawsSpec : ChangeSpec := { name := "valueLaws", fn := fun _ => fun
  | [d1, d2, d3, d4] => { results := [.lit (.bool true)], args := [d1, d2, d3, d4] }
  | _ => none }
def valueLawsRow : OpenClaim := { program := "ytocklblkopmjgaa", sum := "25a0c1a9a52fdb8e41f7de8c345209c27d6561073796eab1ede7d1a6f93cdc12", func := "scruple/scruplelaw03.ValueLaws", spec := "valueLaws", inPlace := ["slices.overlaps[string]", "slices.overlaps[scruple/api.Value]"], unfollowed := true, recurses := true, loops := true, apart := false }
def ValueLawsSaid : Prop := valueLawsRow.holds Try.pinned (OpenSpec.ofChange valueLawsSpec)

/-- ITS FALSE NEIGHBOUR: 'it returns false'. Refute it at one input. -/
def valueLawsWrong : ChangeSpec := { name := "valueLaws", fn := fun _ => fun
  | [d1, d2, d3, d4] => { results := [.lit (.bool false)], args := [d1, d2, d3, d4] }
  | _ => none }
def ValueLawsWrongFalsely : Prop := valueLawsRow.holds Try.pinned (OpenSpec.ofChange valueLawsWrong)

/-- 'scruplelaw04.WirePuts': WHATEVER THE INPUT: true; the input reads as it did. -/
def wirePutsSpec : ChangeSpec := { name := "wirePuts", fn := fun _ => fun
  | [d1, d2] => { results := [.lit (.bool true)], args := [d1, d2] }
  | _ => none }
def wirePutsRow : OpenClaim := { program := "ytocklblkopmjgaa", sum := "25a0c1a9a52fdb8e41f7de8c345209c27d6561073796eab1ede7d1a6f93cdc12", func := "scruple/scruplelaw04.WirePuts", spec := "wirePuts", unfollowed := true, recurses := true, loops := true, apart := false }
def WirePutsSaid : Prop := wirePutsRow.holds Try.pinned (OpenSpec.ofChange wirePutsSpec)

/-- ITS FALSE NEIGHBOUR: 'it returns false'. Refute it at one input. -/
def wirePutsWrong : ChangeSpec := { name := "wirePuts", fn := fun _ => fun
  | [d1, d2] => { results := [.lit (.bool false)], args := [d1, d2] }
  | _ => none }
def WirePutsWrongFalsely : Prop := wirePutsRow.holds Try.pinned (OpenSpec.ofChange wirePutsWrong)

/-- 'scruplelaw04.WireTakes': WHATEVER THE INPUT: true; the input reads as it did. -/
def wireTakesSpec : ChangeSpec := { name := "wireTakes", fn := fun _ => fun
  | [d1, d2] => { results := [.lit (.bool true)], args := [d1, d2] }
  | _ => none }
def wireTakesRow : OpenClaim := { program := "ytocklblkopmjgaa", sum := "25a0c1a9a52fdb8e41f7de8c345209c27d6561073796eab1ede7d1a6f93cdc12", func := "scruple/scruplelaw04.WireTakes", spec := "wireTakes", unfollowed := true, recurses := true, apart := false }
def WireTakesSaid : Prop := wireTakesRow.holds Try.pinned (OpenSpec.ofChange wireTakesSpec)

/-- ITS FALSE NEIGHBOUR: 'it returns false'. Refute it at one input. -/
def wireTakesWrong : ChangeSpec := { name := "wireTakes", fn := fun _ => fun
  | [d1, d2] => { results := [.lit (.bool false)], args := [d1, d2] }
  | _ => none }
def WireTakesWrongFalsely : Prop := wireTakesRow.holds Try.pinned (OpenSpec.ofChange wireTakesWrong)

/-- 'scruplelaw04.WireCodes': WHATEVER THE INPUT: true; the input reads as it did. -/
def wireCodesSpec : ChangeSpec := { name := "wireCodes", fn := fun _ => fun
  | [d1, d2] => { results := [.lit (.bool true)], args := [d1, d2] }
  | _ => none }
def wireCodesRow : OpenClaim := { program := "ytocklblkopmjgaa", sum := "25a0c1a9a52fdb8e41f7de8c345209c27d6561073796eab1ede7d1a6f93cdc12", func := "scruple/scruplelaw04.WireCodes", spec := "wireCodes", unfollowed := true, recurses := true, loops := true, apart := false }
def WireCodesSaid : Prop := wireCodesRow.holds Try.pinned (OpenSpec.ofChange wireCodesSpec)

/-- ITS FALSE NEIGHBOUR: 'it returns false'. Refute it at one input. -/
def wireCodesWrong : ChangeSpec := { name := "wireCodes", fn := fun _ => fun
  | [d1, d2] => { results := [.lit (.bool false)], args := [d1, d2] }
  | _ => none }
def WireCodesWrongFalsely : Prop := wireCodesRow.holds Try.pinned (OpenSpec.ofChange wireCodesWrong)

/- THE SECOND FORM. 'bulk': how many values and letters a reading holds, each counted each time it is reached (what is shared counts as often as it is met; a slice's spare places count too). A statement '..UptoSaid' is the law's where the arguments, and the package variables that the reading takes, are together of bulk at most 1048576: NARROWER than '..Said'. Prove '..Said' where nothing that the law and all that it calls make is longer than what came in: it says more and counts as full. Else prove '..UptoSaid'. A law counts once. -/
mutual
def uptoBulk {H : Type} : DataW H → Nat
  | .lit (.string bytes) => bytes.length + 1
  | .lit _ => 1
  | .nil => 1
  | .ptr d => uptoBulk d + 1
  | .slice elems spare => uptoBulkAll elems + uptoBulkAll spare + 1
  | .agg parts => uptoBulkAll parts + 1
  | .iface _ d => uptoBulk d + 1
  | .map entries => uptoBulkEntries entries + 1
  | .held _ => 1
def uptoBulkAll {H : Type} : List (DataW H) → Nat
  | [] => 0
  | d :: r => uptoBulk d + uptoBulkAll r
def uptoBulkEntries {H : Type} : List (Lit × DataW H) → Nat
  | [] => 0
  | x :: r => uptoBulkEntry x + uptoBulkEntries r
def uptoBulkEntry {H : Type} : Lit × DataW H → Nat
  | (.string bytes, d) => bytes.length + uptoBulk d + 1
  | (_, d) => uptoBulk d + 1
 end
def uptoSmall : (H : Type) → List (DataW H) → Bool := fun _ ds => decide (uptoBulkAll ds ≤ 1048576)
def OpenSpec.upto (s : _root_.Go.ChangeSpec) : _root_.Go.OpenSpec := { _root_.Go.OpenSpec.ofChange s with cond := some uptoSmall }

/-- 'scruplelaw03.ValueRecords', WHERE WHAT IT READS IS OF BULK AT MOST 1048576: true; the input reads as it did. -/
def valueRecordsUptoRow : OpenClaim := { program := "ytocklblkopmjgaa", sum := "25a0c1a9a52fdb8e41f7de8c345209c27d6561073796eab1ede7d1a6f93cdc12", func := "scruple/scruplelaw03.ValueRecords", spec := "valueRecords", unfollowed := true, recurses := true, loops := true, apart := false, narrowed := true }
def ValueRecordsUptoSaid : Prop := valueRecordsUptoRow.holds Try.pinned (OpenSpec.upto valueRecordsSpec)

/-- 'scruplelaw03.ValueChanges', WHERE WHAT IT READS IS OF BULK AT MOST 1048576: true; the input reads as it did. -/
def valueChangesUptoRow : OpenClaim := { program := "ytocklblkopmjgaa", sum := "25a0c1a9a52fdb8e41f7de8c345209c27d6561073796eab1ede7d1a6f93cdc12", func := "scruple/scruplelaw03.ValueChanges", spec := "valueChanges", inPlace := ["slices.overlaps[string]", "slices.overlaps[scruple/api.Value]"], unfollowed := true, recurses := true, loops := true, apart := false, narrowed := true }
def ValueChangesUptoSaid : Prop := valueChangesUptoRow.holds Try.pinned (OpenSpec.upto valueChangesSpec)

/-- 'scruplelaw03.ValueLaws', WHERE WHAT IT READS IS OF BULK AT MOST 1048576: true; the input reads as it did. -/
def valueLawsUptoRow : OpenClaim := { program := "ytocklblkopmjgaa", sum := "25a0c1a9a52fdb8e41f7de8c345209c27d6561073796eab1ede7d1a6f93cdc12", func := "scruple/scruplelaw03.ValueLaws", spec := "valueLaws", inPlace := ["slices.overlaps[string]", "slices.overlaps[scruple/api.Value]"], unfollowed := true, recurses := true, loops := true, apart := false, narrowed := true }
def ValueLawsUptoSaid : Prop := valueLawsUptoRow.holds Try.pinned (OpenSpec.upto valueLawsSpec)

/-- 'scruplelaw04.WirePuts', WHERE WHAT IT READS IS OF BULK AT MOST 1048576: true; the input reads as it did. -/
def wirePutsUptoRow : OpenClaim := { program := "ytocklblkopmjgaa", sum := "25a0c1a9a52fdb8e41f7de8c345209c27d6561073796eab1ede7d1a6f93cdc12", func := "scruple/scruplelaw04.WirePuts", spec := "wirePuts", unfollowed := true, recurses := true, loops := true, apart := false, narrowed := true }
def WirePutsUptoSaid : Prop := wirePutsUptoRow.holds Try.pinned (OpenSpec.upto wirePutsSpec)

/-- 'scruplelaw04.WireTakes', WHERE WHAT IT READS IS OF BULK AT MOST 1048576: true; the input reads as it did. -/
def wireTakesUptoRow : OpenClaim := { program := "ytocklblkopmjgaa", sum := "25a0c1a9a52fdb8e41f7de8c345209c27d6561073796eab1ede7d1a6f93cdc12", func := "scruple/scruplelaw04.WireTakes", spec := "wireTakes", unfollowed := true, recurses := true, apart := false, narrowed := true }
def WireTakesUptoSaid : Prop := wireTakesUptoRow.holds Try.pinned (OpenSpec.upto wireTakesSpec)

/-- 'scruplelaw04.WireCodes', WHERE WHAT IT READS IS OF BULK AT MOST 1048576: true; the input reads as it did. -/
def wireCodesUptoRow : OpenClaim := { program := "ytocklblkopmjgaa", sum := "25a0c1a9a52fdb8e41f7de8c345209c27d6561073796eab1ede7d1a6f93cdc12", func := "scruple/scruplelaw04.WireCodes", spec := "wireCodes", unfollowed := true, recurses := true, loops := true, apart := false, narrowed := true }
def WireCodesUptoSaid : Prop := wireCodesUptoRow.holds Try.pinned (OpenSpec.upto wireCodesSpec)

end Rows
end Go.Proofs.Ytocklblkopmjgaa
