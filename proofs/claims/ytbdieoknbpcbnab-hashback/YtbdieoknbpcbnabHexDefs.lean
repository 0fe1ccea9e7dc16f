/-
  The digits of bytes, as numbers; no conditions.
-/
import Derived.Test.YtbdieoknbpcbnabDigDefs
import Derived.Test.YtbdieoknbpcbnabArr
import Derived.WalkSmall
import Derived.Laws.BitsAllLaws
import Derived.Laws.BytesArg
namespace Go.Proofs.Ytbdieoknbpcbnab
open Go.RowKit

/-- the digits of bytes -/
def hexL : List Int → List Int
  | [] => []
  | c :: l => hexC (c / 16) :: hexC (c % 16) :: hexL l

theorem hexL_app (a : List Int) (c : Int) : hexL (a ++ [c]) = hexL a ++ [hexC (c / 16), hexC (c % 16)] := by
  induction a with
  | nil => rfl
  | cons x a ih => simp [hexL, ih]

theorem hexL_len (a : List Int) : (hexL a).length = 2 * a.length := by
  induction a with
  | nil => rfl
  | cons x a ih => simp [hexL, ih]; omega

theorem infoU8 : (Try.prog.info? 5).map (fun i => (i.zero, i.size, i.bytes)) = some (some (.int .u8 0), 1, 1) := by kernel_rfl

end Go.Proofs.Ytbdieoknbpcbnab
