/-
  Names (layer 9): the walks of isDigit, isLetter, IsName; no conditions.
  A module (layer 9): its parts, which may be, how they lie in memory; the walks of formedFunc, of the counts of the sections' parts and of the table of sections; no conditions.
-/
import Derived.Test.YtmnbfcpkaglniaaGreatDoorRows
import Derived.Test.YtmnbfcpkaglniaaGreatDoorS00
import Derived.WalkKit
import Derived.WalkSpells
import Derived.WalkSmall
import Derived.BigQuiet
import Derived.Test.YtmnbfcpkaglniaaGreatDoorS15
import Derived.Test.YtmnbfcpkaglniaaGreatDoorS12
import Derived.Deep.RegionHeld3
set_option linter.unusedVariables false
set_option linter.unusedSimpArgs false
namespace Go.Proofs.YtmnbfcpkaglniaaGreatDoor
open Go.RowKit
def digC (c : Int) : Bool := decide (48 ≤ c) && decide (c ≤ 57)
def letC (c : Int) : Bool := decide (97 ≤ c) && decide (c ≤ 122) || decide (65 ≤ c) && decide (c ≤ 90) || decide (c = 95)
/-- a text's byte -/
def chr (s : ByteArray) (i : Nat) : Int := if h : i < s.size then ((s[i]'h).toNat : Int) else 0
def nameC (c : Int) : Bool := letC c || digC c
/-- is a text a name? -/
def nameB (s : ByteArray) : Bool := decide (1 ≤ s.size) && decide (s.size ≤ 20) && !digC (chr s 0) && (List.range s.size).all (fun j => nameC (chr s j))
theorem chr_at (s : ByteArray) (i : Nat) (h : i < s.size) : chr s i = ((s[i]'h).toNat : Int) := by unfold chr; rw [dif_pos h]
theorem name_yes {s : ByteArray} (h1 : 1 ≤ s.size) (h2 : s.size ≤ 20) (h3 : digC (chr s 0) = false) (h4 : ∀ j, j < s.size → nameC (chr s j) = true) : nameB s = true := by
  unfold nameB
  rw [h3, decide_eq_true h1, decide_eq_true h2]
  simp only [Bool.not_false, Bool.and_true, Bool.true_and, List.all_eq_true, List.mem_range]
  exact h4
theorem name_no {s : ByteArray} (j : Nat) (hj : j < s.size) (h : nameC (chr s j) = false) : nameB s = false := by
  unfold nameB
  have : (List.range s.size).all (fun j => nameC (chr s j)) = false := by
    rw [Bool.eq_false_iff]
    intro e
    rw [List.all_eq_true] at e
    have := e j (List.mem_range.2 hj)
    rw [h] at this
    cases this
  rw [this]
  simp
theorem digit_any (c : Int) (w : World) :
    Calls Tryz.prog 196 #[.int .u8 c] w fun e w' => e = .returned (.bool (digC c)) ∧ w' = w := by
  by_cases h1 : 48 ≤ c <;> by_cases h2 : c ≤ 57
  all_goals
    have hR : digC c = (decide (48 ≤ c) && decide (c ≤ 57)) := rfl
    simp only [h1, h2, decide_true, decide_false, Bool.and_true, Bool.and_false] at hR
    rw [hR]
    clear hR
    go_enter Tryz.func196, Tryz.ntmps196
    go_wp2_with fail
    go_ret
    exact ⟨rfl, rfl⟩
theorem letD (c : Int) : letC c = decide (97 ≤ c ∧ c ≤ 122 ∨ 65 ≤ c ∧ c ≤ 90 ∨ c = 95) := by
  rw [Bool.eq_iff_iff]
  simp [letC]
  omega
theorem let_cases (c : Int) : (letC c = false ∧ ¬ 97 ≤ c ∧ ¬ 65 ≤ c ∧ (c == 95) = false) ∨ (letC c = true ∧ ¬ 97 ≤ c ∧ 65 ≤ c ∧ c ≤ 90) ∨ (letC c = true ∧ ¬ 97 ≤ c ∧ 65 ≤ c ∧ ¬ c ≤ 90 ∧ (c == 95) = true) ∨ (letC c = false ∧ ¬ 97 ≤ c ∧ 65 ≤ c ∧ ¬ c ≤ 90 ∧ (c == 95) = false) ∨ (letC c = true ∧ 97 ≤ c ∧ c ≤ 122) ∨ (letC c = false ∧ 97 ≤ c ∧ ¬ c ≤ 122 ∧ 65 ≤ c ∧ ¬ c ≤ 90 ∧ (c == 95) = false) := by
  simp only [letD, decide_eq_true_eq, decide_eq_false_iff_not, beq_iff_eq, beq_eq_false_iff_ne, ne_eq]
  omega
theorem letter_any (c : Int) (w : World) :
    Calls Tryz.prog 197 #[.int .u8 c] w fun e w' => e = .returned (.bool (letC c)) ∧ w' = w := by
  rcases let_cases c with ⟨hR, h1, h2, h3⟩ | ⟨hR, h1, h2, h3⟩ | ⟨hR, h1, h2, h3, h4⟩ | ⟨hR, h1, h2, h3, h4⟩ | ⟨hR, h1, h2⟩ | ⟨hR, h1, h2, h3, h4, h5⟩
  all_goals
    rw [hR]
    clear hR
    go_enter Tryz.func197, Tryz.ntmps197
    go_wp2_with fail
    go_ret
    exact ⟨rfl, rfl⟩
set_option maxRecDepth 100000 in
set_option maxHeartbeats 1000000 in
theorem isName_any (s : ByteArray) (w : World) (hs : s.size ≤ 140737488351232) :
    Calls Tryz.prog 158 #[.string s] w fun e w' => e = .returned (.bool (nameB s)) ∧ w' = w := by
  by_cases h0 : s.size = 0
  · have hN : nameB s = false := by unfold nameB; rw [h0]; rfl
    have i1 : ((s.size : Int) == 0) = true := beq_iff_eq.2 (by omega)
    have i2 : (s.size : Int) = 0 := by omega
    rw [hN]
    clear hN
    go_enter Tryz.func158, Tryz.ntmps158
    go_wp2_with fail
    go_ret
    exact ⟨rfl, rfl⟩
  have i1 : ((s.size : Int) == 0) = false := beq_eq_false_iff_ne.2 (by omega)
  have i2 : ¬ (s.size : Int) = 0 := by omega
  by_cases h20 : 20 < s.size
  · have hN : nameB s = false := by unfold nameB; rw [decide_eq_false (show ¬ s.size ≤ 20 by omega)]; simp
    have i3 : (20 : Int) < (s.size : Int) := by omega
    rw [hN]
    clear hN
    go_enter Tryz.func158, Tryz.ntmps158
    go_wp2_with fail
    go_ret
    exact ⟨rfl, rfl⟩
  have i3 : ¬ (20 : Int) < (s.size : Int) := by omega
  have hp : 0 < s.size := by omega
  have CD := hide (digit_any ((s[0]'hp).toNat : Int) w)
  rw [← chr_at s 0 hp] at CD
  cases hD : digC (chr s 0) with
  | true =>
    have hN : nameB s = false := by unfold nameB; rw [hD]; simp
    rw [hN]
    rw [hD] at CD
    rw [chr_at s 0 hp] at CD
    clear hN hD
    go_enter Tryz.func158, Tryz.ntmps158
    go_wp2_with fail
    refine (unhide CD).mono ?_
    rintro e u ⟨rfl, rfl⟩
    go_wp2_with fail
    go_ret
    exact ⟨rfl, rfl⟩
  | false =>
    rw [hD] at CD
    rw [chr_at s 0 hp] at CD
    have HD := hide hD
    obtain ⟨N, hN⟩ : ∃ N, nameB s = N := ⟨_, rfl⟩
    have HN := hide hN
    rw [hN]
    clear hD hN
    go_enter Tryz.func158, Tryz.ntmps158
    go_wp2_with fail
    refine (unhide CD).mono ?_
    rintro e u ⟨rfl, rfl⟩
    clear CD
    go_wp2_with fail
    go_loop [19] (fun x => ∃ i : Nat, i ≤ s.size ∧ x = .int .i64 (i : Int) ∧ Hid (∀ j, j < i → nameC (chr s j) = true)) (fun x => s.size - (intOf x).toNat)
    case atStart => exact ⟨0, by omega, rfl, hide (fun j h => by omega)⟩
    case round =>
      obtain ⟨i, hi, rfl, HJ⟩ := hrel
      by_cases hlt : i < s.size
      · have j1 : (i : Int) < (s.size : Int) := by omega
        have CL := hide (letter_any ((s[i]'hlt).toNat : Int) u)
        have CG := hide (digit_any ((s[i]'hlt).toNat : Int) u)
        have HC := hide (chr_at s i hlt)
        cases hL : letC ((s[i]'hlt).toNat : Int) with
        | true =>
          rw [hL] at CL
          have HO : Hid (nameC (chr s i) = true) := hide (by rw [unhide HC]; unfold nameC; rw [hL]; rfl)
          clear hL CG
          go_wp2_with fail
          refine (unhide CL).mono ?_
          rintro e u2 ⟨rfl, rfl⟩
          go_wp2_with fail
          go_round
          case rel => exact ⟨i + 1, by omega, by go_num, hide (fun j hj => by
            rcases Nat.lt_or_ge j i with h | h
            · exact unhide HJ j h
            · have e : j = i := by omega
              rw [e]; exact unhide HO)⟩
          case measure => simp [intOf]; omega
        | false =>
          rw [hL] at CL
          cases hG : digC ((s[i]'hlt).toNat : Int) with
          | true =>
            rw [hG] at CG
            have HO : Hid (nameC (chr s i) = true) := hide (by rw [unhide HC]; unfold nameC; rw [hL, hG]; rfl)
            clear hL hG
            go_wp2_with fail
            refine (unhide CL).mono ?_
            rintro e u2 ⟨rfl, rfl⟩
            go_wp2_with fail
            refine (unhide CG).mono ?_
            rintro e u2 ⟨rfl, rfl⟩
            go_wp2_with fail
            go_round
            case rel => exact ⟨i + 1, by omega, by go_num, hide (fun j hj => by
              rcases Nat.lt_or_ge j i with h | h
              · exact unhide HJ j h
              · have e : j = i := by omega
                rw [e]; exact unhide HO)⟩
            case measure => simp [intOf]; omega
          | false =>
            rw [hG] at CG
            have HO : Hid (nameB s = false) := hide (name_no i hlt (by rw [unhide HC]; unfold nameC; rw [hL, hG]; rfl))
            clear hL hG
            go_wp2_with fail
            refine (unhide CL).mono ?_
            rintro e u2 ⟨rfl, rfl⟩
            go_wp2_with fail
            refine (unhide CG).mono ?_
            rintro e u2 ⟨rfl, rfl⟩
            go_wp2_with fail
            go_ret
            exact ⟨by rw [← unhide HN, unhide HO]; rfl, rfl⟩
      · have j1 : ¬ (i : Int) < (s.size : Int) := by omega
        have HO : Hid (nameB s = true) := hide (name_yes (by omega) (by omega) (unhide HD) (fun j hj => unhide HJ j (by omega)))
        go_wp2_with fail
        go_ret
        exact ⟨by rw [← unhide HN, unhide HO]; rfl, rfl⟩
/-- a function: parameters, locals, stack, code -/
abbrev Fn := Int × Int × Int × ByteArray
/-- an export: name and function -/
abbrev Ex := ByteArray × Int
/-- a module -/
structure Md where
  cs : List Vl
  fs : List Fn
  xs : List Ex
def fnV (f : Fn) : List Value := [.int .i64 f.1, .int .i64 f.2.1, .int .i64 f.2.2.1, .string f.2.2.2]
def exV (x : Ex) : List Value := [.string x.1, .int .i64 x.2]
def fnB (f : Fn) : Bool := decide (0 ≤ f.1) && decide (f.1 ≤ 8) && decide (f.1 ≤ f.2.1) && decide (f.2.1 ≤ 32) && decide (0 ≤ f.2.2.1) && decide (f.2.2.1 ≤ 40) && decide (f.2.2.2.size ≤ 4000)
def exB (nf : Nat) (p : ByteArray) (x : Ex) : Bool := nameB x.1 && Op.bytesLess p.toList x.1.toList && decide (0 ≤ x.2) && decide (x.2 < (nf : Int))
def exsB (nf : Nat) : ByteArray → List Ex → Bool
  | _, [] => true
  | p, x :: r => exB nf p x && exsB nf x.1 r
/-- right in all but the length of its bytes -/
def formedB (m : Md) : Bool := decide (m.cs.length ≤ 100) && decide (m.fs.length ≤ 24) && decide (m.xs.length ≤ 24) && m.cs.all rightB && m.fs.all fnB && exsB m.fs.length ⟨#[]⟩ m.xs
/-- rows of k cells, one behind the other -/
structure IsT (w : World) (P : Nat → Prop) (k : Nat) (rs : List (List Value)) (al : Option Addr) (cl : Nat) : Prop where
  nl : al = none → rs.length = 0 ∧ cl = 0
  ll : rs.length ≤ cl
  bl : rs.length ≤ 140737488351232
  hl : ∀ a, al = some a → ∀ i r, rs[i]? = some r → P a.block ∧ ∀ j v, r[j]? = some v → w.cell? ((a.add (i * k)).add j) = some v
theorem IsT.to {w w' : World} {P Q : Nat → Prop} (hw : ∀ b, P b → w'.heap[b]? = w.heap[b]?) (hP : ∀ b, P b → Q b) {k : Nat} {rs : List (List Value)} {al : Option Addr} {cl : Nat} (h : IsT w P k rs al cl) : IsT w' Q k rs al cl := by
  refine ⟨h.nl, h.ll, h.bl, fun a ha i r hr => ⟨hP _ (h.hl a ha i r hr).1, fun j v hv => ?_⟩⟩
  have e : w'.cell? ((a.add (i * k)).add j) = w.cell? ((a.add (i * k)).add j) := World.cell?_of_block (by rw [block_add, block_add]; exact hw _ (h.hl a ha i r hr).1)
  rw [e]
  exact (h.hl a ha i r hr).2 j v hv
theorem IsT.elem {w : World} {P : Nat → Prop} {k : Nat} {rs : List (List Value)} {al : Option Addr} {cl : Nat} (h : IsT w P k rs al cl) (i : Nat) (r : List Value) (hr : rs[i]? = some r) : ∃ a : Addr, al = some a ∧ P a.block ∧ ∀ j v, r[j]? = some v → w.cell? ((a.add (i * k)).add j) = some v := by
  cases al with
  | none => have := (h.nl rfl).1; have := (List.getElem?_eq_some_iff.1 hr).1; omega
  | some a => exact ⟨a, rfl, (h.hl a rfl i r hr).1, (h.hl a rfl i r hr).2⟩
/-- values, one behind the other: as the elements of an array -/
def IsC (w : World) (P : Nat → Prop) (cs : List Vl) (al : Option Addr) (cl : Nat) : Prop :=
  IsP w P (.mk 4 0 ⟨#[]⟩ cs []) (.agg #[.int .i64 4, .int .i64 0, .string ⟨#[]⟩, .slice al cs.length cl, .slice none 0 0])
theorem IsC.len {w : World} {P : Nat → Prop} {cs : List Vl} {al : Option Addr} {cl : Nat} (h : IsC w P cs al cl) : cs.length ≤ cl ∧ cs.length ≤ 140737488351232 ∧ (al = none → cs.length = 0) := by
  obtain ⟨_, _, _, _, _, V, hf, _⟩ := IsP.at h
  exact ⟨hf.ll, hf.bl, fun e => (hf.nl e).1⟩
/-- how a module lies in memory -/
structure IsM (w : World) (P : Nat → Prop) (m : Md) (a1 : Option Addr) (c1 : Nat) (a2 : Option Addr) (c2 : Nat) (a3 : Option Addr) (c3 : Nat) : Prop where
  hc : IsC w P m.cs a1 c1
  hf : IsT w P 4 (m.fs.map fnV) a2 c2
  hx : IsT w P 2 (m.xs.map exV) a3 c3
  bf : ∀ f ∈ m.fs, f.2.2.2.size ≤ 140737488351232
  bx : ∀ x ∈ m.xs, x.1.size ≤ 140737488351232
theorem IsM.to {w w' : World} {P Q : Nat → Prop} (hw : ∀ b, P b → w'.heap[b]? = w.heap[b]?) (hP : ∀ b, P b → Q b) {m : Md} {a1 a2 a3 : Option Addr} {c1 c2 c3 : Nat} (h : IsM w P m a1 c1 a2 c2 a3 c3) : IsM w' Q m a1 c1 a2 c2 a3 c3 :=
  ⟨IsP.to hw hP h.hc, h.hf.to hw hP, h.hx.to hw hP, h.bf, h.bx⟩
theorem IsM.weak {w : World} {P Q : Nat → Prop} (hP : ∀ b, P b → Q b) {m : Md} {a1 a2 a3 : Option Addr} {c1 c2 c3 : Nat} (h : IsM w P m a1 c1 a2 c2 a3 c3) : IsM w Q m a1 c1 a2 c2 a3 c3 := h.to (fun _ _ => rfl) hP
theorem IsM.later {w w' : World} {B : Nat} {m : Md} {a1 a2 a3 : Option Addr} {c1 c2 c3 : Nat} (h : IsM w (fun b => b < B) m a1 c1 a2 c2 a3 c3) (hb : Below B w w') : IsM w' (fun b => b < B) m a1 c1 a2 c2 a3 c3 := h.to (fun b hl => hb.block b hl) (fun _ h => h)
theorem IsM.len {w : World} {P : Nat → Prop} {m : Md} {a1 a2 a3 : Option Addr} {c1 c2 c3 : Nat} (h : IsM w P m a1 c1 a2 c2 a3 c3) : m.cs.length ≤ 140737488351232 ∧ m.fs.length ≤ 140737488351232 ∧ m.xs.length ≤ 140737488351232 :=
  ⟨h.hc.len.2.1, by simpa using h.hf.bl, by simpa using h.hx.bl⟩
/-- a constant's cells -/
theorem IsM.const {w : World} {B : Nat} {m : Md} {a1 a2 a3 : Option Addr} {c1 c2 c3 : Nat} (h : IsM w (fun b => b < B) m a1 c1 a2 c2 a3 c3) (i : Nat) (y : Vl) (hy : m.cs[i]? = some y) :
    ∃ (a : Addr) (x0 x1 : Int) (x2 : ByteArray) (al' ak' : Option Addr) (ll' m' cl' ck' : Nat), a1 = some a ∧ a.block < B ∧ (∀ j v, [Value.int .i64 x0, .int .i64 x1, .string x2, .slice al' ll' cl', .slice ak' m' ck'][j]? = some v → w.cell? ((a.add (i * 5)).add j) = some v) ∧ IsV w B y (.agg #[.int .i64 x0, .int .i64 x1, .string x2, .slice al' ll' cl', .slice ak' m' ck']) :=
  IsV.elem (show IsV w B (.mk 4 0 ⟨#[]⟩ m.cs []) _ from h.hc) i y hy
/-- a function's cells -/
theorem IsM.func {w : World} {B : Nat} {m : Md} {a1 a2 a3 : Option Addr} {c1 c2 c3 : Nat} (h : IsM w (fun b => b < B) m a1 c1 a2 c2 a3 c3) (i : Nat) (p l s : Int) (t : ByteArray) (hy : m.fs[i]? = some (p, l, s, t)) :
    ∃ a : Addr, a2 = some a ∧ a.block < B ∧ t.size ≤ 140737488351232 ∧ w.cell? (a.add (i * 4)) = some (.int .i64 p) ∧ w.cell? ⟨(a.add (i * 4)).block, (a.add (i * 4)).off + 1, none⟩ = some (.int .i64 l) ∧ w.cell? ⟨(a.add (i * 4)).block, (a.add (i * 4)).off + 2, none⟩ = some (.int .i64 s) ∧ w.cell? ⟨(a.add (i * 4)).block, (a.add (i * 4)).off + 3, none⟩ = some (.string t) := by
  obtain ⟨a, ha, hP, hc⟩ := h.hf.elem i (fnV (p, l, s, t)) (by rw [List.getElem?_map, hy]; rfl)
  exact ⟨a, ha, hP, h.bf _ (List.mem_of_getElem? hy), hc 0 _ rfl, hc 1 _ rfl, hc 2 _ rfl, hc 3 _ rfl⟩
/-- an export's cells -/
theorem IsM.exp {w : World} {B : Nat} {m : Md} {a1 a2 a3 : Option Addr} {c1 c2 c3 : Nat} (h : IsM w (fun b => b < B) m a1 c1 a2 c2 a3 c3) (i : Nat) (s : ByteArray) (f : Int) (hy : m.xs[i]? = some (s, f)) :
    ∃ a : Addr, a3 = some a ∧ a.block < B ∧ s.size ≤ 140737488351232 ∧ w.cell? (a.add (i * 2)) = some (.string s) ∧ w.cell? ⟨(a.add (i * 2)).block, (a.add (i * 2)).off + 1, none⟩ = some (.int .i64 f) := by
  obtain ⟨a, ha, hP, hc⟩ := h.hx.elem i (exV (s, f)) (by rw [List.getElem?_map, hy]; rfl)
  exact ⟨a, ha, hP, h.bx _ (List.mem_of_getElem? hy), hc 0 _ rfl, hc 1 _ rfl⟩
/-- cells that were put into a block of their own -/
structure BoxN (w w1 : World) (c : Array Value) (T : TypeId) : Prop where
  row : w1.heap[w.heap.size]? = some (.cells c T (0, 0))
  size : w1.heap.size = w.heap.size + 1
  below : Below w.heap.size w w1
theorem BoxN.mk' (w : World) (c : Array Value) (T : TypeId) : BoxN w (w.alloc (.cells c T)) c T :=
  ⟨heap_alloc_new w _, by simp, (Below.refl _ _).alloc (Nat.le_refl _) _⟩
theorem row_cell2 {w : World} {g : Nat} {x0 x1 : Value} {T : TypeId} (h : w.heap[g]? = some (.cells #[x0, x1] T (0, 0))) :
    w.cell? ⟨g, 0, none⟩ = some x0 ∧ w.cell? ⟨g, 1, none⟩ = some x1 :=
  ⟨by rw [cell_of_row w g 0 _ _ (0, 0) h]; rfl, by rw [cell_of_row w g 1 _ _ (0, 0) h]; rfl⟩
theorem row_cell3 {w : World} {g : Nat} {x0 x1 x2 : Value} {T : TypeId} (h : w.heap[g]? = some (.cells #[x0, x1, x2] T (0, 0))) :
    w.cell? ⟨g, 0, none⟩ = some x0 ∧ w.cell? ⟨g, 1, none⟩ = some x1 ∧ w.cell? ⟨g, 2, none⟩ = some x2 :=
  ⟨by rw [cell_of_row w g 0 _ _ (0, 0) h]; rfl, by rw [cell_of_row w g 1 _ _ (0, 0) h]; rfl, by rw [cell_of_row w g 2 _ _ (0, 0) h]; rfl⟩
theorem row_cell4 {w : World} {g : Nat} {x0 x1 x2 x3 : Value} {T : TypeId} (h : w.heap[g]? = some (.cells #[x0, x1, x2, x3] T (0, 0))) :
    w.cell? ⟨g, 0, none⟩ = some x0 ∧ w.cell? ⟨g, 1, none⟩ = some x1 ∧ w.cell? ⟨g, 2, none⟩ = some x2 ∧ w.cell? ⟨g, 3, none⟩ = some x3 :=
  ⟨by rw [cell_of_row w g 0 _ _ (0, 0) h]; rfl, by rw [cell_of_row w g 1 _ _ (0, 0) h]; rfl, by rw [cell_of_row w g 2 _ _ (0, 0) h]; rfl, by rw [cell_of_row w g 3 _ _ (0, 0) h]; rfl⟩
set_option maxHeartbeats 1000000 in
theorem formedFunc_any (p l s : Int) (t : ByteArray) (w : World) (ht : t.size ≤ 140737488351232) :
    Calls Tryz.prog 157 #[.agg #[.int .i64 p, .int .i64 l, .int .i64 s, .string t]] w fun e w' => e = .returned (.bool (fnB (p, l, s, t))) ∧ Below w.heap.size w w' := by
  have BX := hide (BoxN.mk' w #[.int .i64 p, .int .i64 l, .int .i64 s, .string t] 41)
  have hR : fnB (p, l, s, t) = (decide (0 ≤ p) && decide (p ≤ 8) && decide (p ≤ l) && decide (l ≤ 32) && decide (0 ≤ s) && decide (s ≤ 40) && decide ((t.size : Int) ≤ 4000)) := by unfold fnB; dsimp only; congr 1; exact decide_eq_decide.2 (by omega)
  rw [hR]
  clear hR
  by_cases h1 : 0 ≤ p
  by_cases h2 : p ≤ 8
  by_cases h3 : p ≤ l
  by_cases h4 : l ≤ 32
  by_cases h5 : 0 ≤ s
  by_cases h6 : s ≤ 40
  by_cases h7 : (t.size : Int) ≤ 4000
  all_goals
    simp only [*, decide_true, decide_false, Bool.and_true, Bool.and_false, Bool.false_and]
    go_enter Tryz.func157, Tryz.ntmps157
    go_wp2_with fail
    go_ret
    exact ⟨rfl, (unhide BX).below⟩
theorem count1_any (a1 a2 a3 : Option Addr) (n1 c1 n2 c2 n3 c3 : Nat) (w : World) :
    Calls Tryz.prog 159 #[.agg #[.slice a1 n1 c1, .slice a2 n2 c2, .slice a3 n3 c3]] w fun e w' => e = .returned (.int .i64 (n1 : Int)) ∧ Below w.heap.size w w' := by
  go_enter Tryz.func159, Tryz.ntmps159
  go_wp2_with fail
  go_ret
  exact ⟨rfl, (Below.refl _ _).alloc (Nat.le_refl _) _⟩
theorem count2_any (a1 a2 a3 : Option Addr) (n1 c1 n2 c2 n3 c3 : Nat) (w : World) :
    Calls Tryz.prog 162 #[.agg #[.slice a1 n1 c1, .slice a2 n2 c2, .slice a3 n3 c3]] w fun e w' => e = .returned (.int .i64 (n2 : Int)) ∧ Below w.heap.size w w' := by
  go_enter Tryz.func162, Tryz.ntmps162
  go_wp2_with fail
  go_ret
  exact ⟨rfl, (Below.refl _ _).alloc (Nat.le_refl _) _⟩
theorem count3_any (a1 a2 a3 : Option Addr) (n1 c1 n2 c2 n3 c3 : Nat) (w : World) :
    Calls Tryz.prog 165 #[.agg #[.slice a1 n1 c1, .slice a2 n2 c2, .slice a3 n3 c3]] w fun e w' => e = .returned (.int .i64 (n3 : Int)) ∧ Below w.heap.size w w' := by
  go_enter Tryz.func165, Tryz.ntmps165
  go_wp2_with fail
  go_ret
  exact ⟨rfl, (Below.refl _ _).alloc (Nat.le_refl _) _⟩
/-- the table of sections -/
def secRow : Array Value := #[.int .i64 100, .func (.func 159) #[] #[], .func (.func 160) #[] #[], .func (.func 161) #[] #[],
  .int .i64 24, .func (.func 162) #[] #[], .func (.func 163) #[] #[], .func (.func 164) #[] #[],
  .int .i64 24, .func (.func 165) #[] #[], .func (.func 166) #[] #[], .func (.func 167) #[] #[]]
theorem sections_any (w : World) :
    Calls Tryz.prog 117 #[] w fun e w' => e = .returned (.slice (some ⟨w.heap.size, 0, none⟩) 3 3) ∧ BoxN w w' secRow 195 := by
  go_enter Tryz.func117, Tryz.ntmps117
  go_wp2_with fail
  go_ret
  exact ⟨rfl, BoxN.mk' w secRow 195⟩
theorem secNo_any (i : Nat) (w : World) (hi : i ≤ 2) :
    Calls Tryz.prog 119 #[.int .i64 (i : Int)] w fun e w' => e = .returned (.int .u8 ((i : Int) + 1)) ∧ w' = w := by
  have e : IntKind.u8.wrap ((i : Int) + 1) = (i : Int) + 1 := by rw [IntKind.wrap_u8]; omega
  go_enter Tryz.func119, Tryz.ntmps119
  go_wp2_with fail
  go_ret
  exact ⟨rfl, rfl⟩
end Go.Proofs.YtmnbfcpkaglniaaGreatDoor
