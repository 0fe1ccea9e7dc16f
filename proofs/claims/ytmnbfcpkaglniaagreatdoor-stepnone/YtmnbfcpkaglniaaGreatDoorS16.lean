/-
  Slices of whole numbers, of texts, of instructions (layer 8) in memory; no conditions.
-/
import Derived.Test.YtmnbfcpkaglniaaGreatDoorS00
set_option linter.unusedVariables false
set_option linter.unusedSimpArgs false
namespace Go.Proofs.YtmnbfcpkaglniaaGreatDoor
open Go.RowKit
/-- a slice of whole numbers -/
def RowI (w : World) (ao : Option Addr) (len : Nat) (zs : List Int) : Prop := zs.length = len ∧ ∀ j z, zs[j]? = some z → ∃ b o, ao = some ⟨b, o, none⟩ ∧ w.cell? ⟨b, o + j, none⟩ = some (.int .i64 z)
/-- a slice of texts -/
def RowS (w : World) (ao : Option Addr) (len : Nat) (zs : List ByteArray) : Prop := zs.length = len ∧ ∀ j z, zs[j]? = some z → ∃ b o, ao = some ⟨b, o, none⟩ ∧ w.cell? ⟨b, o + j, none⟩ = some (.string z)
theorem RowI.later {w w' : World} {ao : Option Addr} {len : Nat} {zs : List Int} (h : RowI w ao len zs) (hb : Below w.heap.size w w') : RowI w' ao len zs :=
  ⟨h.1, fun j z hz => by obtain ⟨b, o, e, c⟩ := h.2 j z hz; exact ⟨b, o, e, cell_later hb c⟩⟩
theorem RowS.later {w w' : World} {ao : Option Addr} {len : Nat} {zs : List ByteArray} (h : RowS w ao len zs) (hb : Below w.heap.size w w') : RowS w' ao len zs :=
  ⟨h.1, fun j z hz => by obtain ⟨b, o, e, c⟩ := h.2 j z hz; exact ⟨b, o, e, cell_later hb c⟩⟩
/-- an instruction: operation and operand -/
abbrev Ins := Int × Int
def i64B (z : Int) : Prop := -9223372036854775808 ≤ z ∧ z ≤ 9223372036854775807
/-- a slice of instructions -/
def RowN (w : World) (ao : Option Addr) (len : Nat) (ls : List Ins) : Prop := ls.length = len ∧ (∀ p ∈ ls, i64B p.1 ∧ i64B p.2) ∧ ∀ j p, ls[j]? = some p → ∃ a b o, ao = some a ∧ a.add (j * 2) = ⟨b, o, none⟩ ∧ w.cell? ⟨b, o, none⟩ = some (.int .i64 p.1) ∧ w.cell? ⟨b, o + 1, none⟩ = some (.int .i64 p.2)
theorem RowN.later {w w' : World} {ao : Option Addr} {len : Nat} {zs : List Ins} (h : RowN w ao len zs) (hb : Below w.heap.size w w') : RowN w' ao len zs :=
  ⟨h.1, h.2.1, fun j z hz => by obtain ⟨a, b, o, e, e2, c, d⟩ := h.2.2 j z hz; exact ⟨a, b, o, e, e2, cell_later hb c, cell_later hb d⟩⟩
end Go.Proofs.YtmnbfcpkaglniaaGreatDoor
