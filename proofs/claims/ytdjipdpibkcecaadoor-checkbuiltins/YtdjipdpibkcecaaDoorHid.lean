/-
  A fact put out of the walk's sight, and taken out again; no conditions.
-/
import Derived.WalkKit
namespace Go.Proofs.YtdjipdpibkcecaaDoor
open Go.RowKit
theorem hide {p : Prop} (h : p) : Hid p := h
theorem unhide {p : Prop} (h : Hid p) : p := h
end Go.Proofs.YtdjipdpibkcecaaDoor
