/-
  The table at texts and 32 (layer 5, as store uses it): how it lies, Len, Find, Get, New; no conditions but that its keys rise.
  A frame: only blocks of G have changed, and new ones may have come; no conditions.
  A region that draws its order and closes with a store over a cell that it has read: the read may be taken first, since the store waits for it; no conditions.
-/
import Derived.Test.YtdaooapfokhfcaaGreatA01
import Derived.Test.YtdaooapfokhfcaaGreatA08
import Derived.Laws.ResultCell
import Derived.WalkSpells
import Derived.OpenShut
import Derived.Deep.QuietTactic
import Derived.BigQuiet
import Derived.LoopTactic
import Derived.Deep.RegionHeld3
import Derived.Deep.CutRange
import Derived.Deep.Cut
import Derived.WalkSmall
import Derived.Test.YtdaooapfokhfcaaGreatA00
import Derived.Below
import Derived.Laws.Rows
namespace Go.Proofs.YtdaooapfokhfcaaGreat
open Go.RowKit
set_option linter.unusedVariables false
set_option linter.unusedSimpArgs false

abbrev ThV := Int × Int × ByteArray × Option Addr × Nat × Nat × Option Addr × Nat × Nat
def thV (t : ThV) : List Value := [.int .i64 t.1, .int .i64 t.2.1, .string t.2.2.1, .slice t.2.2.2.1 t.2.2.2.2.1 t.2.2.2.2.2.1, .slice t.2.2.2.2.2.2.1 t.2.2.2.2.2.2.2.1 t.2.2.2.2.2.2.2.2]
def pcV (p : ByteArray × ThV) : List Value := .string p.1 :: thV p.2
def cellsV (l : List (ByteArray × ThV)) : List Value := l.flatMap pcV

theorem pcV_len (p : ByteArray × ThV) : (pcV p).length = 6 := rfl
theorem cellsV_cons (p : ByteArray × ThV) (l : List (ByteArray × ThV)) : cellsV (p :: l) = pcV p ++ cellsV l := by simp [cellsV]
theorem cellsV_app (a b : List (ByteArray × ThV)) : cellsV (a ++ b) = cellsV a ++ cellsV b := by simp [cellsV]
theorem cellsV_len : ∀ l : List (ByteArray × ThV), (cellsV l).length = l.length * 6
  | [] => rfl
  | p :: l => by rw [cellsV_cons, List.length_append, cellsV_len l, pcV_len, List.length_cons]; omega
theorem cellsV_at : ∀ (l : List (ByteArray × ThV)) (i : Nat) (p : ByteArray × ThV), l[i]? = some p → ∀ j v, (pcV p)[j]? = some v → (cellsV l)[i * 6 + j]? = some v
  | [], i, p, h, _, _, _ => by simp at h
  | q :: l, 0, p, h, j, v, hv => by
    simp only [List.getElem?_cons_zero, Option.some.injEq] at h
    subst h
    have hj : j < 6 := (List.getElem?_eq_some_iff.1 hv).1
    rw [cellsV_cons, Nat.zero_mul, Nat.zero_add, List.getElem?_append_left (by rw [pcV_len]; exact hj)]
    exact hv
  | q :: l, i + 1, p, h, j, v, hv => by
    rw [cellsV_cons, List.getElem?_append_right (by rw [pcV_len]; omega), pcV_len, show (i + 1) * 6 + j - 6 = i * 6 + j by omega]
    exact cellsV_at l i p (by simpa using h) j v hv
theorem cellsV_take : ∀ (l : List (ByteArray × ThV)) (i : Nat), i ≤ l.length → cellsV (l.take i) = (cellsV l).take (i * 6)
  | l, 0, _ => by simp [cellsV]
  | [], i + 1, h => by simp at h
  | q :: l, i + 1, h => by
    rw [List.take_succ_cons, cellsV_cons, cellsV_cons, cellsV_take l i (by simpa using h), show (i + 1) * 6 = (pcV q).length + i * 6 by rw [pcV_len]; omega, List.take_length_add_append]
theorem cellsV_drop : ∀ (l : List (ByteArray × ThV)) (i : Nat), i ≤ l.length → cellsV (l.drop i) = (cellsV l).drop (i * 6)
  | l, 0, _ => by simp
  | [], i + 1, h => by simp at h
  | q :: l, i + 1, h => by
    rw [List.drop_succ_cons, cellsV_cons, cellsV_drop l i (by simpa using h), show (i + 1) * 6 = (pcV q).length + i * 6 by rw [pcV_len]; omega, List.drop_length_add_append]
theorem cellsV_one (l : List (ByteArray × ThV)) : ∀ u ∈ cellsV l, u.oneCell' = true := by
  intro u hu
  obtain ⟨p, _, hp⟩ := List.mem_flatMap.1 hu
  simp only [pcV, thV, List.mem_cons, List.not_mem_nil, or_false] at hp
  rcases hp with rfl | rfl | rfl | rfl | rfl | rfl <;> rfl

/-- a table -/
structure KTV (w : World) (g : Nat) (v : Value) (l : List (ByteArray × ThV)) : Prop where
  here : w.heap[g]? = some (.cells #[v] 81 (0, 0))
  row : w.ownsRow 0 104 6 v l.length (cellsV l)

section
variable {w w' : World} {g : Nat} {v : Value} {l : List (ByteArray × ThV)}

theorem KTV.to (h : KTV w g v l) (h1 : w'.heap[g]? = w.heap[g]?) (h2 : ∀ b, v.ownBlock = some b → w'.heap[b]? = w.heap[b]?) : KTV w' g v l := by
  refine ⟨h1.trans h.here, h.row.1, ?_⟩
  rcases h.row.2 with hn | ⟨b, cap, cur, rfl, hbs, hg', rest⟩
  · exact .inl hn
  · exact .inr ⟨b, cap, cur, rfl, hbs, (h2 b rfl).trans hg', rest⟩
theorem KTV.lt (h : KTV w g v l) : g < w.heap.size := (Array.getElem?_eq_some_iff.1 h.here).1
theorem KTV.below (h : KTV w g v l) (hb : Below w.heap.size w w') : KTV w' g v l := h.to (hb.block g h.lt) (fun b e => hb.block b (h.row.lt b e).2)
theorem KTV.cell (h : KTV w g v l) : w.cell? ⟨g, 0, none⟩ = some v := by rw [cell_of_row w g 0 _ _ (0, 0) h.here]; rfl
theorem KTV.apart (h : KTV w g v l) : v.ownBlock ≠ some g := fun e => by
  rcases h.row.2 with ⟨rfl, _⟩ | ⟨b, cap, cur, rfl, _, hg', _⟩
  · cases e
  · cases e
    rw [h.here] at hg'
    cases hg'

theorem KTV.shape (h : KTV w g v l) : ∃ ao cap, v = .slice ao l.length cap ∧ l.length ≤ cap ∧ cap ≤ maxLen ∧ (ao = none → l.length = 0 ∧ cap = 0) ∧ ∀ i p, l[i]? = some p → ∃ b, ao = some ⟨b, 0, none⟩ ∧ b < w.heap.size ∧ ∀ j u, (pcV p)[j]? = some u → w.cell? ⟨b, i * 6 + j, none⟩ = some u := by
  rcases h.row.2 with ⟨rfl, hn⟩ | ⟨b, cap, cur, rfl, hb, hg, hc, hm, hs, ht⟩
  · exact ⟨none, 0, by rw [hn], by omega, Nat.zero_le _, fun _ => ⟨hn, rfl⟩, fun i p hp => by have := (List.getElem?_eq_some_iff.1 hp).1; omega⟩
  · refine ⟨_, cap, rfl, hc, hm, (fun h => by cases h), fun i p hp => ⟨b, rfl, (Array.getElem?_eq_some_iff.1 hg).1, fun j u hj => ?_⟩⟩
    have h1 := cellsV_at l i p hp j u hj
    have := h.row.cells rfl _ _ h1
    rw [add_offR, Nat.zero_add] at this
    exact this
end

/-- two results, the first of which lies in memory -/
theorem ret_ctV {P : Program} {fn : Func} {p u : Tmp} {T : TypeId} (h : fn.results = #[.cell p T, .tmp u]) (tmps : Array Value) (w : World) (g : Nat) (c : Array Value) (d : TypeDesc) (t : TypeId)
    (hp : tmps.getD p undef = .pointer (some ⟨g, 0, none⟩)) (hb : w.heap[g]? = some (.cells c t (0, 0))) (hu : P.underlying T = some d) (hd : (match d with | .struct _ | .array _ _ => true | _ => false) = true) (hi : (P.info? T).map (·.size) = some c.size) :
    (results fn tmps).run P w = .ok (.tuple #[.agg c, tmps.getD u undef]) w := by
  rw [results_cell_tmp h, hp]
  have hl := run_loadVar_row (P := P) w g t T c (0, 0) _ hb hu hd hi
  simp [asAddr, Result.andThen, hl]

theorem size_thV : (Tryz.prog.info? 32).map (·.size) = some 5 := by kernel_rfl

set_option maxRecDepth 100000 in
theorem new_V (w : World) : Calls Tryz.prog 16 #[] w fun e w' => e = .returned (.pointer (some ⟨w.heap.size, 0, none⟩)) ∧ w' = w.alloc (.cells #[.slice none 0 0] 81) := by
  go_enter Tryz.func16, Tryz.ntmps16
  go_wp2_with fail
  go_ret
  exact ⟨rfl, rfl⟩

set_option maxRecDepth 100000 in
theorem len_nilV (w : World) : Calls Tryz.prog 54 #[.pointer none] w fun e w' => e = .returned (.int .i64 0) ∧ w' = w := by
  go_enter Tryz.func54, Tryz.ntmps54
  go_wp2_with fail
  go_ret
  exact ⟨rfl, rfl⟩

set_option maxRecDepth 100000 in
theorem find_nilV (k : ByteArray) (w : World) : Calls Tryz.prog 56 #[.pointer none, .string k] w fun e w' => e = .returned (.tuple #[.int .i64 0, .bool false]) ∧ ∃ q, w' = w.drewN q := by
  have hl : decide ((0 : Int) < (0 : Int)) = false := by decide
  go_enter Tryz.func56, Tryz.ntmps56
  go_wp2_with fail
  refine (len_nilV _).mono ?_
  rintro e w1 ⟨rfl, rfl⟩
  go_wp2_with fail
  go_loopw [6, 7] (fun x y wr => x = .int .i64 0 ∧ y = .int .i64 0 ∧ wr = w1) (fun _ _ _ => 0)
  case atStart => exact ⟨rfl, rfl, rfl⟩
  case round =>
    obtain ⟨rfl, rfl, rfl⟩ := hrel
    go_wp2_with fail
    go_quiet ((go_at_call 54; exact Calls.quiet_of_same (len_nilV _)))
    go_wp2_with fail
    go_ret2
    exact ⟨rfl, _, rfl⟩

set_option maxRecDepth 100000 in
theorem len_V {g : Nat} {v : Value} {l : List (ByteArray × ThV)} {w : World} (h : KTV w g v l) : Calls Tryz.prog 54 #[.pointer (some ⟨g, 0, none⟩)] w fun e w' => e = .returned (.int .i64 l.length) ∧ w' = w := by
  have c0 := h.cell
  obtain ⟨ao, cap, rfl, -⟩ := h.shape
  clear h
  go_enter Tryz.func54, Tryz.ntmps54
  go_wp2_with fail
  go_ret
  exact ⟨rfl, rfl⟩

set_option maxRecDepth 100000 in
set_option maxHeartbeats 800000 in
theorem findL_V {g : Nat} {v : Value} {l : List (ByteArray × ThV)} {w : World} (h : KTV w g v l) (hr : Rk l) (k : ByteArray) : Calls Tryz.prog 56 #[.pointer (some ⟨g, 0, none⟩), .string k] w fun e w' =>
    ∃ L : Nat, e = .returned (.tuple #[.int .i64 L, .bool (decide ((l.map Prod.fst)[L]? = some k))]) ∧ L ≤ l.length ∧ (∀ i p, l[i]? = some p → (i < L ↔ bl p.1 k = true)) ∧ ∃ q, w' = w.drewN q := by
  have CL : Hid (∀ u : World, u.heap = w.heap → Calls Tryz.prog 54 #[.pointer (some ⟨g, 0, none⟩)] u fun e w' => e = .returned (.int .i64 l.length) ∧ w' = u) := hide (fun u hu => len_V (v := v) ⟨by rw [hu]; exact h.here, h.row.1, by rw [hu]; exact h.row.2⟩)
  have hr' : ∀ (i j : Nat) (p q : ByteArray × ThV), i < j → l[i]? = some p → l[j]? = some q → bl p.1 q.1 = true := fun i j p q hij hp hq => by
    obtain ⟨hi, rfl⟩ := List.getElem?_eq_some_iff.1 hp
    obtain ⟨hj, rfl⟩ := List.getElem?_eq_some_iff.1 hq
    exact (List.pairwise_iff_getElem.1 hr) i j hi hj hij
  have c0 := h.cell
  obtain ⟨ao, cap, rfl, hcap, hmax, hnone, hsome⟩ := h.shape
  obtain ⟨n, hn⟩ : ∃ n, l.length = n := ⟨_, rfl⟩
  rw [hn] at c0 CL hcap hnone
  have hmx : n ≤ 9223372036854775807 := by unfold maxLen at hmax; omega
  have HC : Hid (∀ i p, l[i]? = some p → ∃ b, ao = some ⟨b, 0, none⟩ ∧ w.cell? ⟨b, i * 6, none⟩ = some (.string p.1)) := hide (fun i p hp => by
    obtain ⟨b, e, _, hb⟩ := hsome i p hp
    exact ⟨b, e, hb 0 _ rfl⟩)
  have HR := hide hr'
  have HN := hide hn
  clear h hsome hr hr' hnone hcap hmax hn
  go_enter Tryz.func56, Tryz.ntmps56
  go_wp2_with fail
  refine (unhide CL _ rfl).mono ?_
  rintro e w1 ⟨rfl, rfl⟩
  go_wp2_with fail
  go_loopw [6, 7] (fun x y wr => ∃ lo hi : Nat, x = .int .i64 lo ∧ y = .int .i64 hi ∧ wr = w1 ∧ lo ≤ hi ∧ hi ≤ n ∧ Hid (∀ i p, l[i]? = some p → (i < lo → bl p.1 k = true) ∧ (hi ≤ i → bl p.1 k = false))) (fun x y _ => (intOf y).toNat - (intOf x).toNat)
  case atStart =>
    refine ⟨0, n, rfl, rfl, rfl, by omega, by omega, hide (fun i p hp => ⟨fun h => by omega, fun h => ?_⟩)⟩
    have := (List.getElem?_eq_some_iff.1 hp).1
    have := unhide HN
    omega
  case round =>
    obtain ⟨lo, hi, rfl, rfl, rfl, h1, h2, HI⟩ := hrel
    by_cases hlt : lo < hi
    · have hlt' : (lo : Int) < (hi : Int) := by omega
      obtain ⟨m, hm⟩ : ∃ m : Nat, (m : Int) = (lo : Int) + ((hi : Int) - (lo : Int)) / 2 := ⟨lo + (hi - lo) / 2, by omega⟩
      have hm1 : lo ≤ m := by omega
      have hm2 : m < hi := by omega
      have hq : (Int.tdiv ((hi : Int) - (lo : Int)) 2) = ((hi : Int) - (lo : Int)) / 2 := by rw [Int.tdiv_eq_ediv_of_nonneg (by omega)]
      obtain ⟨p, hp⟩ : ∃ p, l[m]? = some p := ⟨_, List.getElem?_eq_getElem (by have := unhide HN; omega)⟩
      obtain ⟨b, rfl, cm⟩ := unhide HC m p hp
      go_upto_region 3 with fail
      go_cut [8] from 11 to 32 (fun r wx => r = .int .i64 (m : Int) ∧ wx = wr)
      case first =>
        go_wp2_with fail
        go_meet
        exact ⟨congrArg (Value.int .i64) hm.symm, rfl⟩
      case rest =>
        obtain ⟨rfl, hwc⟩ := hcut
        obtain rfl := hwc.symm
        clear hwc hq hm
        by_cases hk : bl p.1 k = true
        · go_wp2_with fail
          refine ⟨⟨m + 1, hi, by rw [Int.natCast_add]; rfl, rfl, trivial, by omega, h2, hide (fun i q hq => ⟨fun hi' => ?_, (unhide HI i q hq).2⟩)⟩, by simp [intOf]; omega⟩
          by_cases him : i = m
          · subst him
            rw [hp] at hq
            cases hq
            exact hk
          · exact kl_trans (unhide HR i m q p (by omega) hq hp) hk
        · go_wp2_with fail
          refine ⟨⟨lo, m, rfl, rfl, trivial, hm1, by omega, hide (fun i q hq => ⟨(unhide HI i q hq).1, fun hi' => ?_⟩)⟩, by simp [intOf]; omega⟩
          by_cases him : i = m
          · subst him
            rw [hp] at hq
            cases hq
            simpa using hk
          · have h1 := unhide HR m i p q (by omega) hp hq
            cases h2 : bl q.1 k with
            | false => rfl
            | true => exact absurd (kl_trans h1 h2) hk
    · obtain rfl : hi = lo := by omega
      have HL : Hid (hi ≤ l.length ∧ ∀ i p, l[i]? = some p → (i < hi ↔ bl p.1 k = true)) := hide ⟨by have := unhide HN; omega, fun i p hp => ⟨(unhide HI i p hp).1, fun h => by
        rcases Nat.lt_or_ge i hi with hc | hc
        · exact hc
        · rw [(unhide HI i p hp).2 hc] at h
          cases h⟩⟩
      by_cases hl : hi < n
      · obtain ⟨p, hp⟩ : ∃ p, l[hi]? = some p := ⟨_, List.getElem?_eq_getElem (by have := unhide HN; omega)⟩
        obtain ⟨b, rfl, cm⟩ := unhide HC hi p hp
        have hl' : (hi : Int) < (n : Int) := by omega
        have HP := hide hp
        clear hp
        go_wp2_with fail
        go_quiet ((go_at_call 54; exact Calls.quiet_of_same (unhide CL _ (by first | rfl | (obtain ⟨n, hn⟩ := ‹∃ n, _ = _›; subst hn; rfl)))))
        go_wp2_with fail
        go_ret2
        refine ⟨hi, ?_, (unhide HL).1, (unhide HL).2, _, rfl⟩
        rw [List.getElem?_map, unhide HP]
        simp [Array.getD]
        rw [Bool.eq_iff_iff, kb_beq]
        simp
      · have hl' : decide ((hi : Int) < (n : Int)) = false := by simp; omega
        have hl2 : decide (hi < n) = false := by simp; omega
        go_wp2_with fail
        go_quiet ((go_at_call 54; exact Calls.quiet_of_same (unhide CL _ (by first | rfl | (obtain ⟨n, hn⟩ := ‹∃ n, _ = _›; subst hn; rfl)))))
        go_wp2_with fail
        go_ret2
        refine ⟨hi, ?_, (unhide HL).1, (unhide HL).2, _, rfl⟩
        rw [List.getElem?_eq_none (by rw [List.length_map]; have := unhide HN; omega)]
        simp [Array.getD]

theorem find_V {g : Nat} {v : Value} {l : List (ByteArray × ThV)} {w : World} (h : KTV w g v l) (hr : Rk l) (k : ByteArray) : Calls Tryz.prog 56 #[.pointer (some ⟨g, 0, none⟩), .string k] w fun e w' =>
    e = .returned (.tuple #[.int .i64 (lowK l k), .bool (decide ((l.map Prod.fst)[lowK l k]? = some k))]) ∧ ∃ q, w' = w.drewN q := by
  refine (findL_V h hr k).mono ?_
  rintro e w' ⟨L, rfl, hL, hl, hq⟩
  obtain rfl := low_eqK l k L hL hl
  exact ⟨rfl, hq⟩
end Go.Proofs.YtdaooapfokhfcaaGreat

namespace Go.Proofs.YtdaooapfokhfcaaGreat
open Go.RowKit

structure Fr (G : Nat → Prop) (w w' : World) : Prop where
  os : w'.os = w.os
  tape : w'.tape = w.tape
  output : w'.output = w.output
  size : w.heap.size ≤ w'.heap.size
  block : ∀ j, j < w.heap.size → ¬ G j → w'.heap[j]? = w.heap[j]?

theorem sz_setCell (w : World) (a : Addr) (v : Value) : (w.setCell a v).heap.size = w.heap.size := by simp [World.setCell]

theorem drew_at {w : World} {j : Nat} {o : Option Obj} (h : w.heap[j]? = o) : w.drew.heap[j]? = o := h
theorem heap_drew (w : World) : w.drew.heap = w.heap := rfl

section
variable {G G' : Nat → Prop} {w w1 w2 : World}

theorem Fr.refl (G : Nat → Prop) (w : World) : Fr G w w := ⟨rfl, rfl, rfl, Nat.le_refl _, fun _ _ _ => rfl⟩
theorem Fr.trans (h : Fr G w w1) (h2 : Fr G' w1 w2) (hs : ∀ j, j < w.heap.size → G' j → G j) : Fr G w w2 :=
  ⟨h2.os.trans h.os, h2.tape.trans h.tape, h2.output.trans h.output, Nat.le_trans h.size h2.size, fun j hj hn => (h2.block j (Nat.lt_of_lt_of_le hj h.size) (fun e => hn (hs j hj e))).trans (h.block j hj hn)⟩
theorem Fr.mono (h : Fr G' w w1) (hs : ∀ j, j < w.heap.size → G' j → G j) : Fr G w w1 := ⟨h.os, h.tape, h.output, h.size, fun j hj hn => h.block j hj (fun e => hn (hs j hj e))⟩
theorem Fr.of (h : Below w.heap.size w w1) : Fr G w w1 := ⟨h.os, h.tape, h.output, h.size, fun j hj _ => h.block j hj⟩
theorem Fr.below (h : Fr G w w1) {B : Nat} (hB : B ≤ w.heap.size) (hg : ∀ j, G j → B ≤ j) : Below B w w1 := ⟨h.os, h.tape, h.output, h.size, fun j hj => h.block j (by omega) (fun e => by have := hg j e; omega)⟩
theorem Fr.then (h : Fr G w w1) (h2 : Below w1.heap.size w1 w2) : Fr G w w2 := h.trans (Fr.of (G := fun _ => False) h2) (fun _ _ e => e.elim)
theorem Fr.behind (h : Below w.heap.size w w1) (h2 : Fr G' w1 w2) (hs : ∀ j, j < w.heap.size → G' j → G j) : Fr G w w2 := (Fr.of h).trans h2 hs
theorem Fr.nil (h : Fr (fun _ => False) w w1) : Below w.heap.size w w1 := h.below (Nat.le_refl _) (fun _ e => e.elim)
theorem Fr.set (g i : Nat) (v : Value) (w : World) : Fr (fun j => j = g) w (w.setCell ⟨g, i, none⟩ v) := ⟨rfl, rfl, rfl, by simp [World.setCell], fun j _ hn => heap_setCell_other _ _ _ _ hn⟩
theorem Fr.put {g i : Nat} {v : Value} (h : Fr G w w1) (hg : G g) : Fr G w (w1.setCell ⟨g, i, none⟩ v) := h.trans (Fr.set g i v w1) (fun j _ e => by rw [e]; exact hg)
theorem Fr.draw (q : Nat) (w : World) : Fr G w (w.drewN q) := ⟨rfl, rfl, rfl, Nat.le_refl _, fun _ _ _ => rfl⟩
theorem Fr.drew (w : World) : Fr G w w.drew := ⟨rfl, rfl, rfl, Nat.le_refl _, fun _ _ _ => rfl⟩
end
end Go.Proofs.YtdaooapfokhfcaaGreat

namespace Go.Proofs.YtdaooapfokhfcaaGreat
open Go.RowKit

section
variable {P : Program} {ops : Array Oper} {Q : Exit → Act → World → Prop} {md : Region.Mode} {S : World → Prop} {z : Nat}

/-- whatever order is picked from here on, S holding behind each operation but number z -/
def Till (P : Program) (md : Region.Mode) (ops : Array Oper) (Q : Exit → Act → World → Prop) (S : World → Prop) (z : Nat) : Nat → Array Bool → Act → World → Prop
  | 0, listed, a, w => Region.ready md ops listed = [] ∧ Q .normal a w
  | f + 1, listed, a, w => (Region.ready md ops listed = [] → Q .normal a w) ∧ ∀ i ∈ Region.ready md ops listed, wpOp P ops Q i (fun a' w' => (i = z ∨ S w') ∧ Till P md ops Q S z f (listed.setIfInBounds i true) a' w') a w

theorem Till.any : ∀ (f : Nat) (listed : Array Bool) (a : Act) (w : World), Till P md ops Q S z f listed a w → wpAny P md ops Q f listed a w
  | 0, _, _, _, h => h
  | f + 1, _, _, _, h => ⟨h.1, fun i hi => wpOp_mono (fun a' w' h' => Till.any f _ a' w' h'.2) (h.2 i hi)⟩

theorem Till.first {i : Nat} {oi oz : Oper} {v : Value} (hi : ops[i]? = some oi) (hz : ops[z]? = some oz) (hwait : ∃ e ∈ oz.after, Region.binds md e = true ∧ e.on = i)
    (hsel : ∀ (j : Nat) (o : Oper) cs b, ops[j]? = some o → o.op ≠ .select cs b) (hQ : ∀ c a w, Q (.panic c) (a.put oi.dst v) w → Q (.panic c) a w) :
    ∀ (f : Nat) (listed : Array Bool) (a : Act) (w : World),
      (∀ j oj, ops[j]? = some oj → j ≠ i → listed.getD j true = false → (∀ e ∈ oj.after, Region.binds md e = true → e.on ≠ i) → oi.apart ops oj = true) →
      i ∈ Region.ready md ops listed → YieldsIf P ops S oi v a → S w →
      Till P md ops Q S z f (listed.setIfInBounds i true) (a.put oi.dst v) w → Till P md ops Q S z (f + 1) listed a w := by
  intro f
  induction f with
  | zero =>
    intro listed a w _ hr hy hS H
    refine ⟨fun h => (by rw [h] at hr; cases hr), fun j hj => ?_⟩
    by_cases e : j = i
    · rw [e]
      exact hy.wpOp hi hS ⟨Or.inr hS, H⟩
    · exact absurd (ready_mono hj e) (by rw [H.1]; simp)
  | succ f ih =>
    intro listed a w hfree hr hy hS H
    refine ⟨fun h => (by rw [h] at hr; cases hr), fun j hj => ?_⟩
    by_cases e : j = i
    · rw [e]
      exact hy.wpOp hi hS ⟨Or.inr hS, H⟩
    · obtain ⟨hun, oj, hoj, hall⟩ := mem_ready.1 hj
      have hi0 := (mem_ready.1 hr).1
      -- nobody who may come up now waits for number i
      have hnot : ∀ x ∈ oj.after, Region.binds md x = true → x.on ≠ i := fun x hx hb he => by
        have h1 := hall x hx hb
        rw [he] at h1
        rcases Nat.lt_or_ge i listed.size with hl | hl
        · simp [hl] at hi0 h1
          rw [hi0] at h1
          cases h1
        · simp [Array.getElem?_eq_none hl] at h1
      have hjz : j ≠ z := fun he => by
        obtain ⟨x, hx, hb, hon⟩ := hwait
        rw [he] at hoj
        rw [hoj] at hz
        cases hz
        exact hnot x hx hb hon
      have h2 := wpOp_putIf hoj (hfree j oj hoj e hun hnot) (fun cs b => hsel i oi cs b hi) (fun cs b => hsel j oj cs b hoj) hQ hy (H.2 j (ready_mono hj e))
      refine wpOp_mono (fun a' w' h3 => ?_) h2
      obtain ⟨hy', hS', hT⟩ := h3
      have hSw : S w' := hS'.resolve_left hjz
      refine ⟨Or.inr hSw, ih (listed.setIfInBounds j true) a' w' (fun k ok hk hki hu hno => hfree k ok hk hki ?_ hno) (ready_mono hr (Ne.symm e)) hy' hSw ?_⟩
      · by_cases hjk : j = k
        · rw [← hjk]; exact hun
        · rw [getD_set_ne true hjk] at hu; exact hu
      · rw [Array.setIfInBounds_comm _ _ e]
        exact hT

/-- number i first -/
theorem till_take {f : Nat} {listed : Array Bool} {a : Act} {w : World} (i : Nat) {oi oz : Oper} {v : Value} (d : Option Tmp) (hi : ops[i]? = some oi) (hd : oi.dst = d) (hz : ops[z]? = some oz) (hwait : (oz.after.any fun e => Region.binds md e && e.on == i) = true)
    (hs : Region.noSelect ops = true) (hf : Region.free md ops listed i = true) (hr : (Region.ready md ops listed).contains i = true)
    (hQ : ∀ c a w, Q (.panic c) (a.put d v) w → Q (.panic c) a w) (hy : YieldsIf P ops S oi v a) (hS : S w)
    (h : Till P md ops Q S z f (listed.setIfInBounds i true) (a.put d v) w) : Till P md ops Q S z (f + 1) listed a w := by
  subst hd
  refine Till.first hi hz ?_ (Region.noSelect_spec hs) hQ f listed a w (Region.free_spec hi hf) (by simpa using hr) hy hS h
  rw [Array.any_eq_true] at hwait
  obtain ⟨k, hk, hx⟩ := hwait
  rw [Bool.and_eq_true, beq_iff_eq] at hx
  exact ⟨_, Array.getElem_mem hk, hx.1, hx.2⟩

/-- one alone may come up -/
theorem till_one {f : Nat} {listed : Array Bool} {a : Act} {w : World} (i : Nat) {o : Oper} (hr : Region.ready md ops listed = [i]) (ho : ops[i]? = some o)
    (h : ∀ K' : Act → World → Prop, Shut (∀ a w, (i = z ∨ S w) → Till P md ops Q S z f (listed.setIfInBounds i true) a w → K' a w) → if Region.wanted o (yielded ops a.tmps) = true then Oper.wp P o a w K' Q else K' (a.put o.dst undef) w) :
    Till P md ops Q S z (f + 1) listed a w := by
  refine ⟨fun e => (by rw [e] at hr; cases hr), fun j hj => ?_⟩
  rw [hr, List.mem_singleton] at hj
  subst hj
  exact wpOp_step ho (fun K' hK => h K' (fun a w hS hT => hK a w ⟨hS, hT⟩))

/-- two may come up -/
theorem till_two {f : Nat} {listed : Array Bool} {a : Act} {w : World} (i j : Nat) {oi oj : Oper} (hr : Region.ready md ops listed = [i, j]) (hi : ops[i]? = some oi) (hj : ops[j]? = some oj)
    (h1 : ∀ K' : Act → World → Prop, Shut (∀ a w, (i = z ∨ S w) → Till P md ops Q S z f (listed.setIfInBounds i true) a w → K' a w) → if Region.wanted oi (yielded ops a.tmps) = true then Oper.wp P oi a w K' Q else K' (a.put oi.dst undef) w)
    (h2 : ∀ K' : Act → World → Prop, Shut (∀ a w, (j = z ∨ S w) → Till P md ops Q S z f (listed.setIfInBounds j true) a w → K' a w) → if Region.wanted oj (yielded ops a.tmps) = true then Oper.wp P oj a w K' Q else K' (a.put oj.dst undef) w) :
    Till P md ops Q S z (f + 1) listed a w := by
  refine ⟨fun e => (by rw [e] at hr; cases hr), fun k hk => ?_⟩
  rw [hr, List.mem_cons, List.mem_singleton] at hk
  rcases hk with e | e
  · rw [e]
    exact wpOp_step hi (fun K' hK => h1 K' (fun a w hS hT => hK a w ⟨hS, hT⟩))
  · rw [e]
    exact wpOp_step hj (fun K' hK => h2 K' (fun a w hS hT => hK a w ⟨hS, hT⟩))

theorem till_done {listed : Array Bool} {a : Act} {w : World} (hr : Region.ready md ops listed = []) (h : Q .normal a w) : ∀ f, Till P md ops Q S z f listed a w
  | 0 => ⟨hr, h⟩
  | _ + 1 => ⟨fun _ => h, by rw [hr]; simp⟩

theorem till_begin {id : Nat} {a : Act} {w : World} (z : Nat) (hm : P.follows .mixedOrders = true) (h : Till P .any ops Q S z ops.size (Array.replicate ops.size false) a w.drew) : (Code.region id ops true).wp P Q a w :=
  wp_region_any hm (Till.any _ _ _ _ h)
end
end Go.Proofs.YtdaooapfokhfcaaGreat
