/-
  The walk of copied: a value in new memory, if it has few parts; conditions: the form's own reach.
  The walk of the document's plain: are the fields that a kind does not use zero? no conditions but the form's own reach.
  The walk of the document's weighed (it calls itself): a value's weight, above the greatest where it is not right; no conditions but the form's own reach.
-/
import Derived.Test.YtdlgehnplkeoiaaGreatDoorB16
import Derived.Test.YtdlgehnplkeoiaaGreatDoorB15
import Derived.Test.YtdlgehnplkeoiaaGreatDoorB07
import Derived.Test.YtdlgehnplkeoiaaGreatDoorB09
import Derived.BigQuiet
set_option linter.unusedVariables false
set_option linter.unusedSimpArgs false
namespace Go.Proofs.YtdlgehnplkeoiaaGreatDoor
open Go.RowKit

/-- two boxes, one behind the other -/
structure Two (w w2 : World) (g : Nat) (T : TypeId) (x y : Array Value) : Prop where
  at0 : w2.heap[g]? = some (.cells x T (0, 0))
  at1 : w2.heap[g + 1]? = some (.cells y T (0, 0))
  size : w2.heap.size = g + 2
  below : Below w.heap.size w w2

theorem Two.mk' (w : World) (T : TypeId) (x y : Array Value) : Two w ((w.alloc (.cells x T)).alloc (.cells y T)) w.heap.size T x y := by
  have h1 : Below w.heap.size w ((w.alloc (.cells x T)).alloc (.cells y T)) := ((Below.refl _ _).alloc (Nat.le_refl _) _).alloc (by simp) _
  refine ⟨?_, ?_, by simp, h1⟩
  · have := ((Below.refl (w.alloc (.cells x T)).heap.size (w.alloc (.cells x T))).alloc (Nat.le_refl _) (.cells y T)).block w.heap.size (by simp)
    rw [this]
    exact heap_alloc_new w _
  · have := heap_alloc_new (w.alloc (.cells x T)) (.cells y T)
    simpa using this

theorem Two.later {w w2 u : World} {g : Nat} {T : TypeId} {x y : Array Value} (h : Two w w2 g T x y) (hb : Below w2.heap.size w2 u) : u.heap[g]? = some (.cells x T (0, 0)) ∧ u.heap[g + 1]? = some (.cells y T (0, 0)) := by
  have := h.size
  exact ⟨(hb.block g (by omega)).trans h.at0, (hb.block (g + 1) (by omega)).trans h.at1⟩

set_option maxRecDepth 100000 in
set_option maxHeartbeats 400000 in
theorem copied_two (v : Vl) (x : Value) (B : Nat) (w : World) (hv : IsV w B v x) (hBs : B ≤ w.heap.size) :
    Calls Tryz.prog 15 #[x] w fun e w' => ∃ x', e = .returned x' ∧ IsV w' w'.heap.size v x' ∧ Below w.heap.size w w' ∧ (fewB v = true → IsQ w' (fun b => w.heap.size ≤ b ∧ b < w'.heap.size) v x') ∧ (fewB v = false → x' = x) := by
  obtain ⟨k, n, s, l, ks, al, ak, cl, ck, hvv, hx⟩ := hv.shape
  clear hvv
  obtain ⟨m, hm⟩ : ∃ m, ks.length = m := ⟨_, rfl⟩
  obtain ⟨ln, hln⟩ : ∃ ln, l.length = ln := ⟨_, rfl⟩
  rw [hm, hln] at hx
  subst hx
  have TW := Two.mk' w 45 #[.int .i64 k, .int .i64 n, .string s, .slice al ln cl, .slice ak m ck] #[.int .i64 0, .int .i64 0, .string ⟨#[]⟩, .slice none 0 0, .slice none 0 0]
  obtain ⟨w2, hw2⟩ : ∃ w2, (w.alloc (.cells #[.int .i64 k, .int .i64 n, .string s, .slice al ln cl, .slice ak m ck] 45)).alloc (.cells #[.int .i64 0, .int .i64 0, .string ⟨#[]⟩, .slice none 0 0, .slice none 0 0] 45) = w2 := ⟨_, rfl⟩
  rw [hw2] at TW
  obtain ⟨g, hg⟩ : ∃ g, w.heap.size = g := ⟨_, rfl⟩
  rw [hg] at TW
  have HT : Hid (∀ u, Below w2.heap.size w2 u → u.heap[g]? = some (.cells #[.int .i64 k, .int .i64 n, .string s, .slice al ln cl, .slice ak m ck] 45 (0, 0)) ∧ u.heap[g + 1]? = some (.cells #[.int .i64 0, .int .i64 0, .string ⟨#[]⟩, .slice none 0 0, .slice none 0 0] 45 (0, 0)) ∧ IsV u B v (.agg #[.int .i64 k, .int .i64 n, .string s, .slice al ln cl, .slice ak m ck]) ∧ B ≤ u.heap.size ∧ Below w.heap.size w u ∧ g + 2 ≤ u.heap.size) :=
    hide (fun u hu => by
      have h1 : Below w.heap.size w u := TW.below.trans (hu.mono (by have := TW.size; omega))
      have h2 := TW.size
      have h3 := hu.size
      exact ⟨(TW.later hu).1, (TW.later hu).2, hv.mono (h1.mono hBs), by omega, h1, by omega⟩)
  obtain ⟨c0, c1, c2, c3, c4⟩ := row_cell TW.at0
  have CF := hide (few_any v _ B w2 (unhide HT w2 (Below.refl _ _)).2.2.1 (unhide HT w2 (Below.refl _ _)).2.2.2.1)
  clear TW hv hm hln
  cases hF : fewB v with
  | false =>
    rw [hF] at CF
    clear hF
    go_enter Tryz.func15, Tryz.ntmps15
    go_wp2_with fail
    refine (unhide CF).mono ?_
    rintro e u3 ⟨rfl, b3⟩
    have H3 := hide b3
    clear b3 CF c0 c1 c2 c3 c4
    obtain ⟨c0, c1, c2, c3, c4⟩ := row_cell (unhide HT u3 (unhide H3)).1
    have ATX := (unhide HT u3 (unhide H3)).2.1
    obtain ⟨z0, z1, z2, z3, z4⟩ := row_cell ATX
    have fz : ∀ q, u3.frozen? ⟨g + 1, q, none⟩ = false := fun q => frozen_of_row u3 (g + 1) q _ _ ATX
    have fz0 := fz 0
    have fz1 := fz 1
    have fz2 := fz 2
    have fz3 := fz 3
    have fz4 := fz 4
    have HAT := hide ATX
    clear fz ATX
    go_wp2_with fail
    have ATX := unhide HAT
    have BW := (unhide HT u3 (unhide H3)).2.2.2.2.1
    have VV := (unhide HT u3 (unhide H3)).2.2.1
    have BU := (unhide HT u3 (unhide H3)).2.2.2.1
    have R9 := five_set u3 (g + 1) 45 _ _ _ _ _ (.int .i64 k) (.int .i64 n) (.string s) (.slice al ln cl) (.slice ak m ck) ATX
    have O9 := five_other u3 (g + 1) (x0 := .int .i64 k) (x1 := .int .i64 n) (x2 := .string s) (x3 := .slice al ln cl) (x4 := .slice ak m ck)
    have S9 : (((((u3.setCell ⟨g + 1, 0, none⟩ (.int .i64 k)).setCell ⟨g + 1, 1, none⟩ (.int .i64 n)).setCell ⟨g + 1, 2, none⟩ (.string s)).setCell ⟨g + 1, 3, none⟩ (.slice al ln cl)).setCell ⟨g + 1, 4, none⟩ (.slice ak m ck)).heap.size = u3.heap.size := by simp
    obtain ⟨w9, hw9⟩ : ∃ w9, (((((u3.setCell ⟨g + 1, 0, none⟩ (.int .i64 k)).setCell ⟨g + 1, 1, none⟩ (.int .i64 n)).setCell ⟨g + 1, 2, none⟩ (.string s)).setCell ⟨g + 1, 3, none⟩ (.slice al ln cl)).setCell ⟨g + 1, 4, none⟩ (.slice ak m ck)) = w9 := ⟨_, rfl⟩
    rw [hw9] at R9 S9 ⊢
    have B9 : Below w.heap.size w w9 := by rw [← hw9]; exact five_below BW (by omega) _ _ _ _ _
    obtain ⟨r0, r1, r2, r3, r4⟩ := row_cell R9
    refine bodyPost_ret (v := .agg #[.int .i64 k, .int .i64 n, .string s, .slice al ln cl, .slice ak m ck]) (by simp [results, Tryz.results15, go_sem, r0, r1, r2, r3, r4]) rfl ?_
    have V9 : IsV w9 w9.heap.size v (.agg #[.int .i64 k, .int .i64 n, .string s, .slice al ln cl, .slice ak m ck]) := IsV.lift (by omega) (VV.mono (by rw [← hw9]; exact five_below (Below.refl _ _) (by omega) _ _ _ _ _))
    first | exact ⟨_, rfl, V9, B9, (fun h => by cases h), fun _ => rfl⟩ | (rw [hg] at B9; exact ⟨_, rfl, V9, B9, (fun h => by cases h), fun _ => rfl⟩)
  | true =>
    rw [hF] at CF
    have hcn : cnt v ≤ 5000 := by unfold fewB at hF; exact of_decide_eq_true hF
    have CD := fun u hu => hide (deep_any (dep v) v _ B u (Nat.le_refl _) hcn (unhide HT u hu).2.2.1 (unhide HT u hu).2.2.2.1)
    clear hF hcn
    go_enter Tryz.func15, Tryz.ntmps15
    go_wp2_with fail
    refine (unhide CF).mono ?_
    rintro e u3 ⟨rfl, b3⟩
    have H3 := hide b3
    clear b3 CF c0 c1 c2 c3 c4
    obtain ⟨c0, c1, c2, c3, c4⟩ := row_cell (unhide HT u3 (unhide H3)).1
    go_wp2_with fail
    refine (unhide (CD u3 (unhide H3))).mono ?_
    rintro e u4 ⟨x4, rfl, p4, b4⟩
    obtain ⟨k4, n4, s4, l4, ks4, al4, ak4, cl4, ck4, hv4, rfl⟩ := p4.shape
    clear hv4
    obtain ⟨lc, hlc⟩ : ∃ lc, l4.length = lc := ⟨_, rfl⟩
    obtain ⟨mc, hmc⟩ : ∃ mc, ks4.length = mc := ⟨_, rfl⟩
    rw [hlc, hmc] at p4 ⊢
    have X4 := (unhide H3).trans (b4.mono (unhide H3).size)
    have H4 := hide (And.intro X4 (And.intro p4 b4.size))
    have ATX := (unhide HT u4 X4).2.1
    obtain ⟨z0, z1, z2, z3, z4⟩ := row_cell ATX
    have fz : ∀ q, u4.frozen? ⟨g + 1, q, none⟩ = false := fun q => frozen_of_row u4 (g + 1) q _ _ ATX
    have fz0 := fz 0
    have fz1 := fz 1
    have fz2 := fz 2
    have fz3 := fz 3
    have fz4 := fz 4
    have HAT := hide ATX
    clear fz ATX p4 b4 X4 CD hlc hmc c0 c1 c2 c3 c4
    go_wp2_with fail
    have ATX := unhide HAT
    have BW := (unhide HT u4 (unhide H4).1).2.2.2.2.1
    have g3 := (unhide HT u3 (unhide H3)).2.2.2.2.2
    have R9 := five_set u4 (g + 1) 45 _ _ _ _ _ (.int .i64 k4) (.int .i64 n4) (.string s4) (.slice al4 lc cl4) (.slice ak4 mc ck4) ATX
    have O9 := five_other u4 (g + 1) (x0 := .int .i64 k4) (x1 := .int .i64 n4) (x2 := .string s4) (x3 := .slice al4 lc cl4) (x4 := .slice ak4 mc ck4)
    have S9 : (((((u4.setCell ⟨g + 1, 0, none⟩ (.int .i64 k4)).setCell ⟨g + 1, 1, none⟩ (.int .i64 n4)).setCell ⟨g + 1, 2, none⟩ (.string s4)).setCell ⟨g + 1, 3, none⟩ (.slice al4 lc cl4)).setCell ⟨g + 1, 4, none⟩ (.slice ak4 mc ck4)).heap.size = u4.heap.size := by simp
    obtain ⟨w9, hw9⟩ : ∃ w9, (((((u4.setCell ⟨g + 1, 0, none⟩ (.int .i64 k4)).setCell ⟨g + 1, 1, none⟩ (.int .i64 n4)).setCell ⟨g + 1, 2, none⟩ (.string s4)).setCell ⟨g + 1, 3, none⟩ (.slice al4 lc cl4)).setCell ⟨g + 1, 4, none⟩ (.slice ak4 mc ck4)) = w9 := ⟨_, rfl⟩
    rw [hw9] at R9 S9 ⊢
    have B9 : Below w.heap.size w w9 := by rw [← hw9]; exact five_below BW (by omega) _ _ _ _ _
    obtain ⟨r0, r1, r2, r3, r4⟩ := row_cell R9
    refine bodyPost_ret (v := .agg #[.int .i64 k4, .int .i64 n4, .string s4, .slice al4 lc cl4, .slice ak4 mc ck4]) (by simp [results, Tryz.results15, go_sem, r0, r1, r2, r3, r4]) rfl ?_
    have V9 : IsV w9 w9.heap.size v (.agg #[.int .i64 k4, .int .i64 n4, .string s4, .slice al4 lc cl4, .slice ak4 mc ck4]) := IsQ.isV (fun q hq => by have := hq.2; omega) ((unhide H4).2.1.move (fun q hq => by rw [← hw9]; exact O9 q (by have := hq.1; omega)))
    have Q9 : IsQ w9 (fun b => w.heap.size ≤ b ∧ b < w9.heap.size) v (.agg #[.int .i64 k4, .int .i64 n4, .string s4, .slice al4 lc cl4, .slice ak4 mc ck4]) := ((unhide H4).2.1.move (fun q hq => by rw [← hw9]; exact O9 q (by have := hq.1; omega))).weak (fun q hq => ⟨by have := hq.1; omega, by have := hq.2; omega⟩)
    first | exact ⟨_, rfl, V9, B9, (fun _ => Q9), fun h => by cases h⟩ | (rw [hg] at B9 Q9; exact ⟨_, rfl, V9, B9, (fun _ => Q9), fun h => by cases h⟩)

end Go.Proofs.YtdlgehnplkeoiaaGreatDoor

namespace Go.Proofs.YtdlgehnplkeoiaaGreatDoor
open Go.RowKit
set_option linter.unusedVariables false

set_option maxRecDepth 100000 in
set_option maxHeartbeats 800000 in
theorem plain0 (n : Int) (s : ByteArray) (ll m : Nat) (al ak : Option Addr) (cl ck : Nat) (w : World) :
    Calls Tryz.prog 100 #[.agg #[.int .i64 0, .int .i64 n, .string s, .slice al ll cl, .slice ak m ck]] w fun e w' => e = .returned (.bool (formM 0 n s ll m true)) ∧ Below w.heap.size w w' := by
  have BEL : Hid (∀ o, Below w.heap.size w (w.alloc o)) := hide (fun o => (Below.refl _ _).alloc (Nat.le_refl _) o)
  go_enter Tryz.func100, Tryz.ntmps100
  go_wp2_with fail
  all_goals (go_ret; exact ⟨by simp_all [formM, beq0], unhide BEL _⟩)

set_option maxRecDepth 100000 in
set_option maxHeartbeats 800000 in
theorem plain1 (n : Int) (s : ByteArray) (ll m : Nat) (al ak : Option Addr) (cl ck : Nat) (w : World) :
    Calls Tryz.prog 100 #[.agg #[.int .i64 1, .int .i64 n, .string s, .slice al ll cl, .slice ak m ck]] w fun e w' => e = .returned (.bool (formM 1 n s ll m true)) ∧ Below w.heap.size w w' := by
  have BEL : Hid (∀ o, Below w.heap.size w (w.alloc o)) := hide (fun o => (Below.refl _ _).alloc (Nat.le_refl _) o)
  go_enter Tryz.func100, Tryz.ntmps100
  go_wp2_with fail
  all_goals (go_ret; exact ⟨by simp_all [formM, beq0], unhide BEL _⟩)

set_option maxRecDepth 100000 in
set_option maxHeartbeats 800000 in
theorem plain2 (n : Int) (s : ByteArray) (ll m : Nat) (al ak : Option Addr) (cl ck : Nat) (w : World) :
    Calls Tryz.prog 100 #[.agg #[.int .i64 2, .int .i64 n, .string s, .slice al ll cl, .slice ak m ck]] w fun e w' => e = .returned (.bool (formM 2 n s ll m true)) ∧ Below w.heap.size w w' := by
  have BEL : Hid (∀ o, Below w.heap.size w (w.alloc o)) := hide (fun o => (Below.refl _ _).alloc (Nat.le_refl _) o)
  go_enter Tryz.func100, Tryz.ntmps100
  go_wp2_with fail
  all_goals (go_ret; exact ⟨by simp_all [formM, beq0], unhide BEL _⟩)

set_option maxRecDepth 100000 in
set_option maxHeartbeats 800000 in
theorem plain3 (n : Int) (s : ByteArray) (ll m : Nat) (al ak : Option Addr) (cl ck : Nat) (w : World) :
    Calls Tryz.prog 100 #[.agg #[.int .i64 3, .int .i64 n, .string s, .slice al ll cl, .slice ak m ck]] w fun e w' => e = .returned (.bool (formM 3 n s ll m true)) ∧ Below w.heap.size w w' := by
  have BEL : Hid (∀ o, Below w.heap.size w (w.alloc o)) := hide (fun o => (Below.refl _ _).alloc (Nat.le_refl _) o)
  go_enter Tryz.func100, Tryz.ntmps100
  go_wp2_with fail
  all_goals (go_ret; exact ⟨by simp_all [formM, beq0], unhide BEL _⟩)

set_option maxRecDepth 100000 in
set_option maxHeartbeats 800000 in
theorem plain4 (n : Int) (s : ByteArray) (ll m : Nat) (al ak : Option Addr) (cl ck : Nat) (w : World) :
    Calls Tryz.prog 100 #[.agg #[.int .i64 4, .int .i64 n, .string s, .slice al ll cl, .slice ak m ck]] w fun e w' => e = .returned (.bool (formM 4 n s ll m true)) ∧ Below w.heap.size w w' := by
  have BEL : Hid (∀ o, Below w.heap.size w (w.alloc o)) := hide (fun o => (Below.refl _ _).alloc (Nat.le_refl _) o)
  go_enter Tryz.func100, Tryz.ntmps100
  go_wp2_with fail
  all_goals (go_ret; exact ⟨by simp_all [formM, beq0], unhide BEL _⟩)

set_option maxRecDepth 100000 in
set_option maxHeartbeats 800000 in
theorem plain5 (n : Int) (s : ByteArray) (ll m : Nat) (al ak : Option Addr) (cl ck : Nat) (w : World) :
    Calls Tryz.prog 100 #[.agg #[.int .i64 5, .int .i64 n, .string s, .slice al ll cl, .slice ak m ck]] w fun e w' => e = .returned (.bool (formM 5 n s ll m true)) ∧ Below w.heap.size w w' := by
  have BEL : Hid (∀ o, Below w.heap.size w (w.alloc o)) := hide (fun o => (Below.refl _ _).alloc (Nat.le_refl _) o)
  by_cases hn : n = 0
  · subst hn
    by_cases hs : s.toList = []
    · by_cases hml : m = ll
      · subst hml
        have HG : Hid (formM 5 0 s m m true = true) := hide (by simp [formM, hs])
        go_enter Tryz.func100, Tryz.ntmps100
        go_wp2_with fail
        all_goals (go_ret; exact ⟨by rw [unhide HG]; rfl, unhide BEL _⟩)
      · have HG : Hid (formM 5 0 s ll m true = false) := hide (by simp [formM, hml])
        have hml' : ¬ (m : Int) = (ll : Int) := by omega
        have hmb : Hid (((m : Int) == (ll : Int)) = false) := hide (by simpa using hml')
        go_enter Tryz.func100, Tryz.ntmps100
        go_wp2_with fail
        all_goals (go_ret; exact ⟨by rw [unhide HG, ← unhide hmb]; rfl, unhide BEL _⟩)
    · have HG : Hid (formM 5 0 s ll m true = false) := hide (by simp [formM, hs])
      go_enter Tryz.func100, Tryz.ntmps100
      go_wp2_with fail
      all_goals (go_ret; exact ⟨by rw [unhide HG]; rfl, unhide BEL _⟩)
  · have HG : Hid (formM 5 n s ll m true = false) := hide (by simp [formM, hn])
    go_enter Tryz.func100, Tryz.ntmps100
    go_wp2_with fail
    all_goals (go_ret; exact ⟨by rw [unhide HG]; rfl, unhide BEL _⟩)

set_option maxRecDepth 100000 in
set_option maxHeartbeats 800000 in
theorem plainX (kind : Int) (k0 : ¬ kind = 0) (k1 : ¬ kind = 1) (k2 : ¬ kind = 2) (k3 : ¬ kind = 3) (k4 : ¬ kind = 4) (k5 : ¬ kind = 5) (n : Int) (s : ByteArray) (ll m : Nat) (al ak : Option Addr) (cl ck : Nat) (w : World) :
    Calls Tryz.prog 100 #[.agg #[.int .i64 kind, .int .i64 n, .string s, .slice al ll cl, .slice ak m ck]] w fun e w' => e = .returned (.bool (formM kind n s ll m true)) ∧ Below w.heap.size w w' := by
  have BEL : Hid (∀ o, Below w.heap.size w (w.alloc o)) := hide (fun o => (Below.refl _ _).alloc (Nat.le_refl _) o)
  go_enter Tryz.func100, Tryz.ntmps100
  go_wp2_with fail
  all_goals (go_ret; exact ⟨by simp_all [formM], unhide BEL _⟩)

theorem plain_any (kind n : Int) (s : ByteArray) (ll m : Nat) (al ak : Option Addr) (cl ck : Nat) (w : World) :
    Calls Tryz.prog 100 #[.agg #[.int .i64 kind, .int .i64 n, .string s, .slice al ll cl, .slice ak m ck]] w fun e w' => e = .returned (.bool (formM kind n s ll m true)) ∧ Below w.heap.size w w' := by
  by_cases k0 : kind = 0
  · subst k0; exact plain0 n s ll m al ak cl ck w
  by_cases k1 : kind = 1
  · subst k1; exact plain1 n s ll m al ak cl ck w
  by_cases k2 : kind = 2
  · subst k2; exact plain2 n s ll m al ak cl ck w
  by_cases k3 : kind = 3
  · subst k3; exact plain3 n s ll m al ak cl ck w
  by_cases k4 : kind = 4
  · subst k4; exact plain4 n s ll m al ak cl ck w
  by_cases k5 : kind = 5
  · subst k5; exact plain5 n s ll m al ak cl ck w
  exact plainX kind k0 k1 k2 k3 k4 k5 n s ll m al ak cl ck w
end Go.Proofs.YtdlgehnplkeoiaaGreatDoor

namespace Go.Proofs.YtdlgehnplkeoiaaGreatDoor
open Go.RowKit

/-- what weighed answers -/
def wgh (b : Nat) (v : Vl) (sofar : Nat) : Nat := if (okB b v && decide (sofar + wt v ≤ 2048)) = true then sofar + wt v else 2049

def WeighAt (b : Nat) : Prop := ∀ (v : Vl) (x : Value) (around sofar B : Nat) (w : World), around + b = 8 → IsV w B v x → B ≤ w.heap.size → sofar ≤ 4096 →
  Calls Tryz.prog 83 #[x, .int .i64 (around : Int), .int .i64 (sofar : Int)] w fun e w' => e = .returned (.int .i64 (wgh b v sofar : Int)) ∧ Below w.heap.size w w'

theorem form_true {kind n : Int} {s : ByteArray} {ll m : Nat} {R : Bool} (h : formM kind n s ll m true = false) : formM kind n s ll m R = false := by
  unfold formM at h ⊢
  repeat' split at h
  all_goals first
    | (subst_vars; simp_all; done)
    | simp_all

set_option maxRecDepth 100000 in
set_option maxHeartbeats 400000 in
theorem weigh_zero : WeighAt 0 := by
  intro v x around sofar B w hab hv hBs hso
  obtain ⟨k', n', s', l', ks', al', ak', cl', ck', hy', hx⟩ := hv.shape
  obtain ⟨ll, hll⟩ : ∃ ll, l'.length = ll := ⟨_, rfl⟩
  obtain ⟨m, hm⟩ : ∃ m, ks'.length = m := ⟨_, rfl⟩
  rw [hll, hm] at hx
  subst hx
  obtain ⟨w1, hw1⟩ : ∃ w1, w.alloc (.cells #[.int .i64 k', .int .i64 n', .string s', .slice al' ll cl', .slice ak' m ck'] 45) = w1 := ⟨_, rfl⟩
  have BX := Box.mk' w (.int .i64 k') (.int .i64 n') (.string s') (.slice al' ll cl') (.slice ak' m ck')
  rw [hw1] at BX
  obtain ⟨c0, c1, c2, c3, c4⟩ := row_cell BX.row
  have z1 := BX.size
  have HB := hide BX.below
  obtain rfl : around = 8 := by omega
  have HG : Hid (wgh 0 v sofar = 2049) := hide (by simp [wgh, okB])
  have CP := hide (plain_any k' n' s' ll m al' ak' cl' ck' w1)
  obtain ⟨F, hF⟩ : ∃ F, formM k' n' s' ll m true = F := ⟨_, rfl⟩
  rw [hF] at CP
  clear BX hv hy' hF
  go_enter Tryz.func83, Tryz.ntmps83
  go_wp2_with fail
  refine (unhide CP).mono ?_
  rintro e w2 ⟨rfl, b2⟩
  have B2 := hide b2
  clear b2 CP
  cases F with
  | false =>
    go_wp2_with fail
    go_ret
    exact ⟨by rw [unhide HG]; rfl, (unhide HB).trans ((unhide B2).mono (by omega))⟩
  | true =>
    go_wp2_with fail
    go_ret
    exact ⟨by rw [unhide HG]; rfl, (unhide HB).trans ((unhide B2).mono (by omega))⟩

/-! ### What weighed has in hand at element i -/
def kw (kind : Int) (ks : List ByteArray) (i : Nat) : Nat := if kind = 5 then keysW (ks.take i) else 0
def prv (ks : List ByteArray) (i : Nat) : Option ByteArray := if i = 0 then none else ks[i - 1]?

structure InvW (b : Nat) (kind n : Int) (t : ByteArray) (l : List Vl) (ks : List ByteArray) (sofar i W : Nat) : Prop where
  good : W ≤ 2048 → okL b (l.take i) = true ∧ W = sofar + 1 + kw kind ks i + wtL (l.take i) ∧ (kind = 5 → risingFrom none ks = risingFrom (prv ks i) (ks.drop i))
  bad : 2049 ≤ W → wgh (b + 1) (.mk kind n t l ks) sofar = 2049

theorem keysW_take_le (ks : List ByteArray) (i : Nat) : keysW (ks.take i) ≤ keysW ks := by
  have h := keysW_app (ks.take i) (ks.drop i)
  rw [List.take_append_drop] at h
  omega

theorem size_zero {t : ByteArray} (h : t.toList = []) : t.size = 0 := by
  rw [ByteArray.toList_eq] at h
  have h1 : t.data.size = 0 := by rw [← Array.length_toList, h]; rfl
  exact h1

theorem wgh_no {b : Nat} {v : Vl} {sofar : Nat} (h : okB b v = false ∨ 2048 < sofar + wt v) : wgh b v sofar = 2049 := by
  unfold wgh
  rw [if_neg]
  intro hc
  rw [Bool.and_eq_true, decide_eq_true_eq] at hc
  rcases h with h | h
  · rw [h] at hc; cases hc.1
  · omega

theorem wgh_yes {b : Nat} {v : Vl} {sofar : Nat} (h : okB b v = true) (h2 : sofar + wt v ≤ 2048) : wgh b v sofar = sofar + wt v := by
  unfold wgh
  rw [if_pos]
  rw [Bool.and_eq_true, decide_eq_true_eq]
  exact ⟨h, h2⟩

theorem wgh_le (b : Nat) (v : Vl) (sofar : Nat) : wgh b v sofar ≤ 2049 := by
  unfold wgh
  by_cases h : (okB b v && decide (sofar + wt v ≤ 2048)) = true
  · rw [if_pos h]
    rw [Bool.and_eq_true, decide_eq_true_eq] at h
    omega
  · rw [if_neg h]
    omega

theorem InvW.start {b : Nat} {kind n : Int} {t : ByteArray} {l : List Vl} {ks : List ByteArray} {sofar : Nat} (hs : sofar ≤ 2048) : InvW b kind n t l ks sofar 0 (sofar + 1) := by
  refine ⟨fun _ => ⟨by simp [okL], by simp [kw, wtL, keysW], fun _ => by simp [prv]⟩, fun h => wgh_no (Or.inr ?_)⟩
  have := wt_pos (.mk kind n t l ks)
  omega

theorem InvW.next {b : Nat} {kind n : Int} {t : ByteArray} {l : List Vl} {ks : List ByteArray} {sofar i W W' : Nat} {y : Vl} (h : InvW b kind n t l ks sofar i W) (hW : W ≤ 2048) (hy : l[i]? = some y)
    (h5 : kind = 5 → ∃ k, ks[i]? = some k ∧ risingFrom none ks = risingFrom (some k) (ks.drop (i + 1)) ∧ W' = W + (1 + k.size)) (hn : ¬ kind = 5 → W' = W) : InvW b kind n t l ks sofar (i + 1) (wgh b y W') := by
  obtain ⟨g1, g2, g3⟩ := h.good hW
  have hkw : W' = sofar + 1 + kw kind ks (i + 1) + wtL (l.take i) ∧ (kind = 5 → risingFrom none ks = risingFrom (prv ks (i + 1)) (ks.drop (i + 1))) ∧ kw kind ks (i + 1) ≤ keysW ks := by
    by_cases hk : kind = 5
    · obtain ⟨k, k1, k2, k3⟩ := h5 hk
      have e := keysW_next ks i k k1
      have e2 := keysW_take_le ks (i + 1)
      unfold kw at g2 ⊢
      rw [if_pos hk] at g2 ⊢
      refine ⟨by omega, fun _ => ?_, e2⟩
      unfold prv
      rw [if_neg (by omega), show i + 1 - 1 = i by omega, k1]
      exact k2
    · have e := hn hk
      unfold kw at g2 ⊢
      rw [if_neg hk] at g2 ⊢
      exact ⟨by omega, fun h => absurd h hk, by omega⟩
  obtain ⟨e1, e2, e3⟩ := hkw
  have e4 := wt_le_wtL l i y hy
  by_cases ho : okB b y = true
  · by_cases hw : W' + wt y ≤ 2048
    · rw [wgh_yes ho hw]
      refine ⟨fun _ => ⟨by rw [okL_next b l i y hy, g1, ho]; rfl, by rw [wtL_next l i y hy]; omega, e2⟩, fun h => by omega⟩
    · rw [wgh_no (Or.inr (by omega))]
      refine ⟨fun h => by omega, fun _ => wgh_no (Or.inr ?_)⟩
      simp only [wt]
      omega
  · have ho' : okB b y = false := by simpa using ho
    rw [wgh_no (Or.inl ho')]
    refine ⟨fun h => by omega, fun _ => wgh_no (Or.inl ?_)⟩
    simp only [okB]
    rw [okL_of_take b l i y hy ho', Bool.and_false]
end Go.Proofs.YtdlgehnplkeoiaaGreatDoor
