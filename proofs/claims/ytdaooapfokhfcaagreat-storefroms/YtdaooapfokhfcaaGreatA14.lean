/-
  slices.Clone of entries: the same cells in new memory; conditions: the form's own reach.
  slices.Delete of one value out of a row of the call's own; no conditions.
  The table at texts and 73 (layer 5, as store uses it): how it lies, Len, Find, Get, New; no conditions but that its keys rise.
-/
import Derived.Test.YtdaooapfokhfcaaGreatA06
import Derived.Test.YtdaooapfokhfcaaGreatA13
import Derived.Test.YtdaooapfokhfcaaGreatA08
import Derived.Deep.RegionHeld3
import Derived.Test.YtdaooapfokhfcaaGreatA01
import Derived.Laws.ResultCell
import Derived.WalkSpells
import Derived.OpenShut
import Derived.Deep.QuietTactic
import Derived.BigQuiet
import Derived.LoopTactic
import Derived.Deep.CutRange
import Derived.Deep.Cut
import Derived.WalkSmall
namespace Go.Proofs.YtdaooapfokhfcaaGreat
open Go.RowKit
set_option linter.unusedVariables false
set_option linter.unusedSimpArgs false

set_option maxRecDepth 100000 in
set_option maxHeartbeats 400000 in
theorem clonePU (ao : Option Addr) (len cap : Nat) (xs : List Value) (w : World) (h : Shows w ao len cap 3 xs) (hb : len * 32 ≤ 140737488355328) :
    Calls Tryz.prog 115 #[.slice ao len cap] w fun e w' => ∃ v', e = .returned v' ∧ w'.ownsRow w.heap.size 118 3 v' len xs ∧ Below w.heap.size w w' := by
  cases ao with
  | none =>
    obtain ⟨rfl, rfl⟩ := h.none rfl
    obtain rfl : xs = [] := List.eq_nil_of_length_eq_zero (by simpa using h.length)
    clear h
    have he : ∀ w : World, (binOp .eql 110 (.slice none 0 0) (.slice none 0 0)).run Tryz.prog w = .ok (.bool true) w := fun _ => rfl
    go_enter Tryz.func115, Tryz.ntmps115
    go_wp2_with fail
    go_ret
    exact ⟨_, rfl, World.ownsRow_nil _ _ _ _, Below.refl _ _⟩
  | some a =>
    obtain ⟨i0, hi, hz0, hz1, hz2⟩ := info_parts infoPU
    have HI := hide (And.intro hi (And.intro hz0 (And.intro hz1 hz2)))
    have B1 : Below w.heap.size w (w.alloc (.cells #[] 118)) := (Below.refl _ _).alloc (Nat.le_refl _) _
    have HB1 := hide B1
    have HM := hide (made0 w 118 3)
    have HC : Hid (∀ j u, xs[j]? = some u → (w.alloc (.cells #[] 118)).cell? (a.add j) = some u) := hide (fun j u hu => by
      have h1 := h.cells a rfl j u hu
      rw [B1.cell (World.block_lt_of_cell? _ _ (by rw [h1]))]
      exact h1)
    have HX := hide (And.intro h.length h.one)
    have he : ∀ w : World, (binOp .eql 110 (.slice (some a) len cap) (.slice none 0 0)).run Tryz.prog w = .ok (.bool false) w := fun _ => rfl
    clear hi hz0 hz1 hz2 B1 h
    go_enter Tryz.func115, Tryz.ntmps115
    go_wp2_with (first | (at_builtin; refine wpList_append_own _ rfl (.tmp 5) (.tmp 6) 110 rfl w.heap.size 118 i0 (.agg #[.string ⟨#[]⟩, .nilFunc, .bool false]) 3 32 Tryz.underlying110 (unhide HI).1 (unhide HI).2.1 (unhide HI).2.2.1 (unhide HI).2.2.2 rfl (by omega) _ 0 [] rfl (unhide HM) a len cap xs rfl (unhide HX).1 (unhide HC) (unhide HX).2 (by unfold maxLen; omega) (by omega) (by simp) ?_; intro v2 w2 hown2 hgrow2 _; have H2 := hide (And.intro hown2 hgrow2); clear hown2 hgrow2))
    go_ret
    obtain ⟨ho, hg⟩ := unhide H2
    refine ⟨_, rfl, by simpa using ho, (unhide HB1).grown hg (by simp) (fun k hk => ?_)⟩
    cases hk
    exact Nat.le_refl _
end Go.Proofs.YtdaooapfokhfcaaGreat

namespace Go.Proofs.YtdaooapfokhfcaaGreat
open Go.RowKit
set_option linter.unusedVariables false
set_option linter.unusedSimpArgs false

theorem zcPU : (Builtin.zeroCells (.agg #[.string ⟨#[]⟩, .nilFunc, .bool false] : Value).cells 1).toList = [.string ⟨#[]⟩, .nilFunc, .bool false] := by
  simp [Builtin.zeroCells, List.range_succ, Value.cells]

theorem zoPU : ∀ u ∈ ([.string ⟨#[]⟩, .nilFunc, .bool false] : List Value), u.oneCell' = true := by simp [Value.oneCell']

set_option maxRecDepth 100000 in
set_option maxHeartbeats 1000000 in
theorem deletePU (base : Nat) (xs : List Value) (n i b cap : Nat) (w : World) (ho : w.ownsRow base 118 3 (.slice (some ⟨b, 0, none⟩) n cap) n xs) (hl1 : ∀ u ∈ xs, u.oneCell' = true) (hi : i < n) (J : Int) (hJ : J = (i : Int) + 1) :
    Calls Tryz.prog 106 #[.slice (some ⟨b, 0, none⟩) n cap, .int .i64 i, .int .i64 J] w fun e w' => e = .returned (.slice (some ⟨b, 0, none⟩) (n - 1) cap) ∧ w'.ownsRow base 118 3 (.slice (some ⟨b, 0, none⟩) (n - 1) cap) (n - 1) (xs.take (i * 3) ++ xs.drop ((i + 1) * 3)) ∧ w.grownBy w' (some b) := by
  obtain ⟨i0, hi0, hz0, hz1, hz2⟩ := info_parts infoPU
  have hxl := ho.1
  obtain ⟨cur, hbase, hg, hc, hm, hcs, htk⟩ : ∃ cur : List Value, base ≤ b ∧ w.heap[b]? = some (.cells cur.toArray 118 (0, 0)) ∧ n ≤ cap ∧ cap ≤ maxLen ∧ cur.length = cap * 3 ∧ cur.take (n * 3) = xs := by
    rcases ho.2 with ⟨e, _⟩ | ⟨g, cap', cur, e, hb, hg, hc, hm, hs, ht⟩
    · cases e
    · cases e
      exact ⟨cur.toList, hb, by simpa using hg, hc, hm, by simpa using hs, ht⟩
  have hcm : cap ≤ 9223372036854775807 := by unfold maxLen at hm; omega
  have hsrc : ∀ (u : World) (ad : Addr), u.heap[b]? = some (.cells cur.toArray 118 (0, 0)) → (i + 1 < n → ad = ⟨b, (i + 1) * 3, none⟩) → ∀ j v, (xs.drop ((i + 1) * 3))[j]? = some v → u.cell? (ad.add j) = some v := fun u ad hu had j v hj => by
    have hlt : i + 1 < n := by
      have := (List.getElem?_eq_some_iff.1 hj).1
      rw [List.length_drop, hxl] at this
      omega
    rw [had hlt, add_offR, cell_of_row u b _ _ _ (0, 0) hu]
    rw [List.getElem?_drop, ← htk] at hj
    rw [List.getElem?_take] at hj
    split at hj
    · simpa using hj
    · cases hj
  have HP : Hid (∀ u ∈ xs.drop ((i + 1) * 3), u.oneCell' = true) := hide (fun u hu => hl1 u (List.mem_of_mem_drop hu))
  have HG := hide hg
  have HS := hide hsrc
  have HC := hide (And.intro hbase (And.intro hcs (And.intro htk (And.intro hm hxl))))
  have HL : Hid ((xs.drop ((i + 1) * 3)).length = (n - (i + 1)) * 3) := hide (by rw [List.length_drop, hxl]; omega)
  have HF : Hid (i * 3 + (xs.drop ((i + 1) * 3)).length ≤ cur.length) := hide (by rw [unhide HL, hcs]; omega)
  obtain ⟨ds, hds⟩ : ∃ ds, xs.drop ((i + 1) * 3) = ds := ⟨_, rfl⟩
  rw [hds] at HL HF HS HP
  have HDS := hide hds
  have i1 : (0 : Int) ≤ (i : Int) := by omega
  have i2 : (i : Int) ≤ (i : Int) + 1 := by omega
  have i3 : (i : Int) + 1 ≤ (n : Int) := by omega
  have i4 : (n : Int) ≤ (cap : Int) := by omega
  have i5 : ¬ ((i : Int) = (i : Int) + 1) := by omega
  have i6 : ((i : Int) + 1).toNat = i + 1 := by omega
  have i7 : (0 : Int) ≤ (i : Int) + 1 := by omega
  have i8 : ¬ (n = i) := by omega
  have i9 : ¬ (cap = i) := by omega
  have i10 : (i : Int) ≤ (cap : Int) := by omega
  have i11 : (i : Int) + 1 ≤ (cap : Int) := by omega
  subst hJ
  clear ho hl1 hg hsrc hbase hcs hm htk hds hxl
  have fin : Hid (∀ w1 w2 : World, LaidR w.drew w1 b (splice cur (i * 3) ds) 118 → LaidR w1 w2 b (splice (splice cur (i * 3) ds) ((n - 1) * 3) [.string ⟨#[]⟩, .nilFunc, .bool false]) 118 →
      w2.ownsRow base 118 3 (.slice (some ⟨b, 0, none⟩) (n - 1) cap) (n - 1) (xs.take (i * 3) ++ xs.drop ((i + 1) * 3)) ∧ w.grownBy w2 (some b)) := hide (fun w1 w2 H1 H2 => by
    obtain ⟨hbase, hcs, htk, hm, hxl⟩ := unhide HC
    obtain ⟨hs1, hs2⟩ := splice_delR cur xs [.string ⟨#[]⟩, .nilFunc, .bool false] 3 (n * 3) (i * 3) hxl rfl (by omega) (by omega) htk
    have e1 : i * 3 + 3 = (i + 1) * 3 := by omega
    have e2 : n * 3 - 3 = (n - 1) * 3 := by omega
    rw [e1, unhide HDS, e2] at hs1 hs2
    refine ⟨⟨?_, .inr ⟨b, cap, _, rfl, hbase, H2.here, by omega, hm, by rw [List.size_toArray, hs2, hcs], ?_⟩⟩, ⟨?_, ?_, ?_, ?_, fun k hk hne' => ?_⟩⟩
    · simp only [List.length_append, List.length_take, List.length_drop, hxl]
      omega
    · rw [List.toList_toArray, unhide HDS, show (n - 1) * 3 = (n - 1) * 3 by omega]
      exact hs1
    · exact H2.os.trans H1.os
    · exact H2.tape.trans H1.tape
    · exact H2.output.trans H1.output
    · rw [H2.size, H1.size]
      exact Nat.le_refl _
    · have hk2 : k ≠ b := fun e => hne' (by rw [e])
      rw [H2.other k hk2, H1.other k hk2]
      rfl)
  by_cases hcp : cap = i + 1
  · subst hcp
    go_enter Tryz.func106, Tryz.ntmps106
    go_wp2_with fail
    go_region_held3 (fun _ => True)
      (exact trivial)
      ((refine step_roomR (by rfl) (.tmp 22) (.tmp 25) 110 118 i0 3 (by rfl) Tryz.underlying110 hi0 hz1 b i (i + 1) ⟨b, 0, none⟩ 0 0 (by rfl) (by rfl) cur ds (unhide HG) (by have := unhide HL; omega) (unhide HS _ _ (unhide HG) (by omega)) (unhide HP) (by omega) (unhide HF) ?_; rw [show i + 0 = n - 1 by omega]; intro w1 H1))
    have hs1 : (splice cur (i * 3) ds).length = cur.length := length_splice _ _ _ (unhide HF)
    have HF1 : Hid ((n - 1) * 3 + 3 ≤ (splice cur (i * 3) ds).length) := hide (by rw [hs1]; have := (unhide HC).2.1; omega)
    clear hs1
    have j1 : ((n - 1 : Nat) : Int) ≤ (n : Int) := by omega
    have j2 : ¬ (i + 1 = n - 1) := by omega
    have j3 : (0 : Int) ≤ ((n - 1 : Nat) : Int) := by omega
    have j4 : n - (n - 1) = 1 := by omega
    have tok1 : True := trivial
    go_wp2_with (first | (have _t := tok1; refine wpl_clearR rfl (.tmp 31) 110 118 _ 3 rfl Tryz.underlying110 Tryz.zeroValue118 [.string ⟨#[]⟩, .nilFunc, .bool false] zcPU rfl zoPU b ((n - 1) * 3) (i + 1 - (n - 1)) (by simp [Act.eval, Act.put, j4]) (splice cur (i * 3) ds) 118 (unhide H1).here (unhide HF1) ?_; intro w2 H2; clear tok1))
    go_ret
    exact ⟨rfl, unhide fin w1 w2 (unhide H1) (unhide H2)⟩
  · go_enter Tryz.func106, Tryz.ntmps106
    go_wp2_with fail
    go_region_held3 (fun _ => True)
      (exact trivial)
      ((refine step_roomR (by rfl) (.tmp 22) (.tmp 25) 110 118 i0 3 (by rfl) Tryz.underlying110 hi0 hz1 b i cap ⟨b, (i + 1) * 3, none⟩ (n - (i + 1)) (cap - (i + 1)) (by rfl) (by rfl) cur ds (unhide HG) (by have := unhide HL; omega) (unhide HS _ _ (unhide HG) (by intro _; rfl)) (unhide HP) (by omega) (unhide HF) ?_; rw [show i + (n - (i + 1)) = n - 1 by omega]; intro w1 H1))
    have hs1 : (splice cur (i * 3) ds).length = cur.length := length_splice _ _ _ (unhide HF)
    have HF1 : Hid ((n - 1) * 3 + 3 ≤ (splice cur (i * 3) ds).length) := hide (by rw [hs1]; have := (unhide HC).2.1; omega)
    clear hs1
    have j1 : ((n - 1 : Nat) : Int) ≤ (n : Int) := by omega
    have j2 : ¬ (cap = n - 1) := by omega
    have j3 : (0 : Int) ≤ ((n - 1 : Nat) : Int) := by omega
    have j4 : n - (n - 1) = 1 := by omega
    have tok1 : True := trivial
    go_wp2_with (first | (have _t := tok1; refine wpl_clearR rfl (.tmp 31) 110 118 _ 3 rfl Tryz.underlying110 Tryz.zeroValue118 [.string ⟨#[]⟩, .nilFunc, .bool false] zcPU rfl zoPU b ((n - 1) * 3) (cap - (n - 1)) (by simp [Act.eval, Act.put, j4]) (splice cur (i * 3) ds) 118 (unhide H1).here (unhide HF1) ?_; intro w2 H2; clear tok1))
    go_ret
    exact ⟨rfl, unhide fin w1 w2 (unhide H1) (unhide H2)⟩

end Go.Proofs.YtdaooapfokhfcaaGreat

namespace Go.Proofs.YtdaooapfokhfcaaGreat
open Go.RowKit
set_option linter.unusedVariables false
set_option linter.unusedSimpArgs false

abbrev ThU := Fn × Array Value × Array Value × Bool
def thU (t : ThU) : List Value := [.func t.1 t.2.1 t.2.2.1, .bool t.2.2.2]
def pcU (p : ByteArray × ThU) : List Value := .string p.1 :: thU p.2
def cellsU (l : List (ByteArray × ThU)) : List Value := l.flatMap pcU

theorem pcU_len (p : ByteArray × ThU) : (pcU p).length = 3 := rfl
theorem cellsU_cons (p : ByteArray × ThU) (l : List (ByteArray × ThU)) : cellsU (p :: l) = pcU p ++ cellsU l := by simp [cellsU]
theorem cellsU_app (a b : List (ByteArray × ThU)) : cellsU (a ++ b) = cellsU a ++ cellsU b := by simp [cellsU]
theorem cellsU_len : ∀ l : List (ByteArray × ThU), (cellsU l).length = l.length * 3
  | [] => rfl
  | p :: l => by rw [cellsU_cons, List.length_append, cellsU_len l, pcU_len, List.length_cons]; omega
theorem cellsU_at : ∀ (l : List (ByteArray × ThU)) (i : Nat) (p : ByteArray × ThU), l[i]? = some p → ∀ j v, (pcU p)[j]? = some v → (cellsU l)[i * 3 + j]? = some v
  | [], i, p, h, _, _, _ => by simp at h
  | q :: l, 0, p, h, j, v, hv => by
    simp only [List.getElem?_cons_zero, Option.some.injEq] at h
    subst h
    have hj : j < 3 := (List.getElem?_eq_some_iff.1 hv).1
    rw [cellsU_cons, Nat.zero_mul, Nat.zero_add, List.getElem?_append_left (by rw [pcU_len]; exact hj)]
    exact hv
  | q :: l, i + 1, p, h, j, v, hv => by
    rw [cellsU_cons, List.getElem?_append_right (by rw [pcU_len]; omega), pcU_len, show (i + 1) * 3 + j - 3 = i * 3 + j by omega]
    exact cellsU_at l i p (by simpa using h) j v hv
theorem cellsU_take : ∀ (l : List (ByteArray × ThU)) (i : Nat), i ≤ l.length → cellsU (l.take i) = (cellsU l).take (i * 3)
  | l, 0, _ => by simp [cellsU]
  | [], i + 1, h => by simp at h
  | q :: l, i + 1, h => by
    rw [List.take_succ_cons, cellsU_cons, cellsU_cons, cellsU_take l i (by simpa using h), show (i + 1) * 3 = (pcU q).length + i * 3 by rw [pcU_len]; omega, List.take_length_add_append]
theorem cellsU_drop : ∀ (l : List (ByteArray × ThU)) (i : Nat), i ≤ l.length → cellsU (l.drop i) = (cellsU l).drop (i * 3)
  | l, 0, _ => by simp
  | [], i + 1, h => by simp at h
  | q :: l, i + 1, h => by
    rw [List.drop_succ_cons, cellsU_cons, cellsU_drop l i (by simpa using h), show (i + 1) * 3 = (pcU q).length + i * 3 by rw [pcU_len]; omega, List.drop_length_add_append]
theorem cellsU_one (l : List (ByteArray × ThU)) : ∀ u ∈ cellsU l, u.oneCell' = true := by
  intro u hu
  obtain ⟨p, _, hp⟩ := List.mem_flatMap.1 hu
  simp only [pcU, thU, List.mem_cons, List.not_mem_nil, or_false] at hp
  rcases hp with rfl | rfl | rfl <;> rfl

/-- a table -/
structure KTU (w : World) (g : Nat) (v : Value) (l : List (ByteArray × ThU)) : Prop where
  here : w.heap[g]? = some (.cells #[v] 112 (0, 0))
  row : w.ownsRow 0 118 3 v l.length (cellsU l)

section
variable {w w' : World} {g : Nat} {v : Value} {l : List (ByteArray × ThU)}

theorem KTU.to (h : KTU w g v l) (h1 : w'.heap[g]? = w.heap[g]?) (h2 : ∀ b, v.ownBlock = some b → w'.heap[b]? = w.heap[b]?) : KTU w' g v l := by
  refine ⟨h1.trans h.here, h.row.1, ?_⟩
  rcases h.row.2 with hn | ⟨b, cap, cur, rfl, hbs, hg', rest⟩
  · exact .inl hn
  · exact .inr ⟨b, cap, cur, rfl, hbs, (h2 b rfl).trans hg', rest⟩
theorem KTU.lt (h : KTU w g v l) : g < w.heap.size := (Array.getElem?_eq_some_iff.1 h.here).1
theorem KTU.below (h : KTU w g v l) (hb : Below w.heap.size w w') : KTU w' g v l := h.to (hb.block g h.lt) (fun b e => hb.block b (h.row.lt b e).2)
theorem KTU.cell (h : KTU w g v l) : w.cell? ⟨g, 0, none⟩ = some v := by rw [cell_of_row w g 0 _ _ (0, 0) h.here]; rfl
theorem KTU.apart (h : KTU w g v l) : v.ownBlock ≠ some g := fun e => by
  rcases h.row.2 with ⟨rfl, _⟩ | ⟨b, cap, cur, rfl, _, hg', _⟩
  · cases e
  · cases e
    rw [h.here] at hg'
    cases hg'

theorem KTU.shape (h : KTU w g v l) : ∃ ao cap, v = .slice ao l.length cap ∧ l.length ≤ cap ∧ cap ≤ maxLen ∧ (ao = none → l.length = 0 ∧ cap = 0) ∧ ∀ i p, l[i]? = some p → ∃ b, ao = some ⟨b, 0, none⟩ ∧ b < w.heap.size ∧ ∀ j u, (pcU p)[j]? = some u → w.cell? ⟨b, i * 3 + j, none⟩ = some u := by
  rcases h.row.2 with ⟨rfl, hn⟩ | ⟨b, cap, cur, rfl, hb, hg, hc, hm, hs, ht⟩
  · exact ⟨none, 0, by rw [hn], by omega, Nat.zero_le _, fun _ => ⟨hn, rfl⟩, fun i p hp => by have := (List.getElem?_eq_some_iff.1 hp).1; omega⟩
  · refine ⟨_, cap, rfl, hc, hm, (fun h => by cases h), fun i p hp => ⟨b, rfl, (Array.getElem?_eq_some_iff.1 hg).1, fun j u hj => ?_⟩⟩
    have h1 := cellsU_at l i p hp j u hj
    have := h.row.cells rfl _ _ h1
    rw [add_offR, Nat.zero_add] at this
    exact this
end

/-- two results, the first of which lies in memory -/
theorem ret_ctU {P : Program} {fn : Func} {p u : Tmp} {T : TypeId} (h : fn.results = #[.cell p T, .tmp u]) (tmps : Array Value) (w : World) (g : Nat) (c : Array Value) (d : TypeDesc) (t : TypeId)
    (hp : tmps.getD p undef = .pointer (some ⟨g, 0, none⟩)) (hb : w.heap[g]? = some (.cells c t (0, 0))) (hu : P.underlying T = some d) (hd : (match d with | .struct _ | .array _ _ => true | _ => false) = true) (hi : (P.info? T).map (·.size) = some c.size) :
    (results fn tmps).run P w = .ok (.tuple #[.agg c, tmps.getD u undef]) w := by
  rw [results_cell_tmp h, hp]
  have hl := run_loadVar_row (P := P) w g t T c (0, 0) _ hb hu hd hi
  simp [asAddr, Result.andThen, hl]

theorem size_thU : (Tryz.prog.info? 73).map (·.size) = some 2 := by kernel_rfl

set_option maxRecDepth 100000 in
theorem new_U (w : World) : Calls Tryz.prog 65 #[] w fun e w' => e = .returned (.pointer (some ⟨w.heap.size, 0, none⟩)) ∧ w' = w.alloc (.cells #[.slice none 0 0] 112) := by
  go_enter Tryz.func65, Tryz.ntmps65
  go_wp2_with fail
  go_ret
  exact ⟨rfl, rfl⟩

set_option maxRecDepth 100000 in
theorem len_nilU (w : World) : Calls Tryz.prog 110 #[.pointer none] w fun e w' => e = .returned (.int .i64 0) ∧ w' = w := by
  go_enter Tryz.func110, Tryz.ntmps110
  go_wp2_with fail
  go_ret
  exact ⟨rfl, rfl⟩

set_option maxRecDepth 100000 in
theorem find_nilU (k : ByteArray) (w : World) : Calls Tryz.prog 97 #[.pointer none, .string k] w fun e w' => e = .returned (.tuple #[.int .i64 0, .bool false]) ∧ ∃ q, w' = w.drewN q := by
  have hl : decide ((0 : Int) < (0 : Int)) = false := by decide
  go_enter Tryz.func97, Tryz.ntmps97
  go_wp2_with fail
  refine (len_nilU _).mono ?_
  rintro e w1 ⟨rfl, rfl⟩
  go_wp2_with fail
  go_loopw [6, 7] (fun x y wr => x = .int .i64 0 ∧ y = .int .i64 0 ∧ wr = w1) (fun _ _ _ => 0)
  case atStart => exact ⟨rfl, rfl, rfl⟩
  case round =>
    obtain ⟨rfl, rfl, rfl⟩ := hrel
    go_wp2_with fail
    go_quiet ((go_at_call 110; exact Calls.quiet_of_same (len_nilU _)))
    go_wp2_with fail
    go_ret2
    exact ⟨rfl, _, rfl⟩

set_option maxRecDepth 100000 in
theorem len_U {g : Nat} {v : Value} {l : List (ByteArray × ThU)} {w : World} (h : KTU w g v l) : Calls Tryz.prog 110 #[.pointer (some ⟨g, 0, none⟩)] w fun e w' => e = .returned (.int .i64 l.length) ∧ w' = w := by
  have c0 := h.cell
  obtain ⟨ao, cap, rfl, -⟩ := h.shape
  clear h
  go_enter Tryz.func110, Tryz.ntmps110
  go_wp2_with fail
  go_ret
  exact ⟨rfl, rfl⟩

set_option maxRecDepth 100000 in
set_option maxHeartbeats 800000 in
theorem findL_U {g : Nat} {v : Value} {l : List (ByteArray × ThU)} {w : World} (h : KTU w g v l) (hr : Rk l) (k : ByteArray) : Calls Tryz.prog 97 #[.pointer (some ⟨g, 0, none⟩), .string k] w fun e w' =>
    ∃ L : Nat, e = .returned (.tuple #[.int .i64 L, .bool (decide ((l.map Prod.fst)[L]? = some k))]) ∧ L ≤ l.length ∧ (∀ i p, l[i]? = some p → (i < L ↔ bl p.1 k = true)) ∧ ∃ q, w' = w.drewN q := by
  have CL : Hid (∀ u : World, u.heap = w.heap → Calls Tryz.prog 110 #[.pointer (some ⟨g, 0, none⟩)] u fun e w' => e = .returned (.int .i64 l.length) ∧ w' = u) := hide (fun u hu => len_U (v := v) ⟨by rw [hu]; exact h.here, h.row.1, by rw [hu]; exact h.row.2⟩)
  have hr' : ∀ (i j : Nat) (p q : ByteArray × ThU), i < j → l[i]? = some p → l[j]? = some q → bl p.1 q.1 = true := fun i j p q hij hp hq => by
    obtain ⟨hi, rfl⟩ := List.getElem?_eq_some_iff.1 hp
    obtain ⟨hj, rfl⟩ := List.getElem?_eq_some_iff.1 hq
    exact (List.pairwise_iff_getElem.1 hr) i j hi hj hij
  have c0 := h.cell
  obtain ⟨ao, cap, rfl, hcap, hmax, hnone, hsome⟩ := h.shape
  obtain ⟨n, hn⟩ : ∃ n, l.length = n := ⟨_, rfl⟩
  rw [hn] at c0 CL hcap hnone
  have hmx : n ≤ 9223372036854775807 := by unfold maxLen at hmax; omega
  have HC : Hid (∀ i p, l[i]? = some p → ∃ b, ao = some ⟨b, 0, none⟩ ∧ w.cell? ⟨b, i * 3, none⟩ = some (.string p.1)) := hide (fun i p hp => by
    obtain ⟨b, e, _, hb⟩ := hsome i p hp
    exact ⟨b, e, hb 0 _ rfl⟩)
  have HR := hide hr'
  have HN := hide hn
  clear h hsome hr hr' hnone hcap hmax hn
  go_enter Tryz.func97, Tryz.ntmps97
  go_wp2_with fail
  refine (unhide CL _ rfl).mono ?_
  rintro e w1 ⟨rfl, rfl⟩
  go_wp2_with fail
  go_loopw [6, 7] (fun x y wr => ∃ lo hi : Nat, x = .int .i64 lo ∧ y = .int .i64 hi ∧ wr = w1 ∧ lo ≤ hi ∧ hi ≤ n ∧ Hid (∀ i p, l[i]? = some p → (i < lo → bl p.1 k = true) ∧ (hi ≤ i → bl p.1 k = false))) (fun x y _ => (intOf y).toNat - (intOf x).toNat)
  case atStart =>
    refine ⟨0, n, rfl, rfl, rfl, by omega, by omega, hide (fun i p hp => ⟨fun h => by omega, fun h => ?_⟩)⟩
    have := (List.getElem?_eq_some_iff.1 hp).1
    have := unhide HN
    omega
  case round =>
    obtain ⟨lo, hi, rfl, rfl, rfl, h1, h2, HI⟩ := hrel
    by_cases hlt : lo < hi
    · have hlt' : (lo : Int) < (hi : Int) := by omega
      obtain ⟨m, hm⟩ : ∃ m : Nat, (m : Int) = (lo : Int) + ((hi : Int) - (lo : Int)) / 2 := ⟨lo + (hi - lo) / 2, by omega⟩
      have hm1 : lo ≤ m := by omega
      have hm2 : m < hi := by omega
      have hq : (Int.tdiv ((hi : Int) - (lo : Int)) 2) = ((hi : Int) - (lo : Int)) / 2 := by rw [Int.tdiv_eq_ediv_of_nonneg (by omega)]
      obtain ⟨p, hp⟩ : ∃ p, l[m]? = some p := ⟨_, List.getElem?_eq_getElem (by have := unhide HN; omega)⟩
      obtain ⟨b, rfl, cm⟩ := unhide HC m p hp
      go_upto_region 3 with fail
      go_cut [8] from 11 to 32 (fun r wx => r = .int .i64 (m : Int) ∧ wx = wr)
      case first =>
        go_wp2_with fail
        go_meet
        exact ⟨congrArg (Value.int .i64) hm.symm, rfl⟩
      case rest =>
        obtain ⟨rfl, hwc⟩ := hcut
        obtain rfl := hwc.symm
        clear hwc hq hm
        by_cases hk : bl p.1 k = true
        · go_wp2_with fail
          refine ⟨⟨m + 1, hi, by rw [Int.natCast_add]; rfl, rfl, trivial, by omega, h2, hide (fun i q hq => ⟨fun hi' => ?_, (unhide HI i q hq).2⟩)⟩, by simp [intOf]; omega⟩
          by_cases him : i = m
          · subst him
            rw [hp] at hq
            cases hq
            exact hk
          · exact kl_trans (unhide HR i m q p (by omega) hq hp) hk
        · go_wp2_with fail
          refine ⟨⟨lo, m, rfl, rfl, trivial, hm1, by omega, hide (fun i q hq => ⟨(unhide HI i q hq).1, fun hi' => ?_⟩)⟩, by simp [intOf]; omega⟩
          by_cases him : i = m
          · subst him
            rw [hp] at hq
            cases hq
            simpa using hk
          · have h1 := unhide HR m i p q (by omega) hp hq
            cases h2 : bl q.1 k with
            | false => rfl
            | true => exact absurd (kl_trans h1 h2) hk
    · obtain rfl : hi = lo := by omega
      have HL : Hid (hi ≤ l.length ∧ ∀ i p, l[i]? = some p → (i < hi ↔ bl p.1 k = true)) := hide ⟨by have := unhide HN; omega, fun i p hp => ⟨(unhide HI i p hp).1, fun h => by
        rcases Nat.lt_or_ge i hi with hc | hc
        · exact hc
        · rw [(unhide HI i p hp).2 hc] at h
          cases h⟩⟩
      by_cases hl : hi < n
      · obtain ⟨p, hp⟩ : ∃ p, l[hi]? = some p := ⟨_, List.getElem?_eq_getElem (by have := unhide HN; omega)⟩
        obtain ⟨b, rfl, cm⟩ := unhide HC hi p hp
        have hl' : (hi : Int) < (n : Int) := by omega
        have HP := hide hp
        clear hp
        go_wp2_with fail
        go_quiet ((go_at_call 110; exact Calls.quiet_of_same (unhide CL _ (by first | rfl | (obtain ⟨n, hn⟩ := ‹∃ n, _ = _›; subst hn; rfl)))))
        go_wp2_with fail
        go_ret2
        refine ⟨hi, ?_, (unhide HL).1, (unhide HL).2, _, rfl⟩
        rw [List.getElem?_map, unhide HP]
        simp [Array.getD]
        rw [Bool.eq_iff_iff, kb_beq]
        simp
      · have hl' : decide ((hi : Int) < (n : Int)) = false := by simp; omega
        have hl2 : decide (hi < n) = false := by simp; omega
        go_wp2_with fail
        go_quiet ((go_at_call 110; exact Calls.quiet_of_same (unhide CL _ (by first | rfl | (obtain ⟨n, hn⟩ := ‹∃ n, _ = _›; subst hn; rfl)))))
        go_wp2_with fail
        go_ret2
        refine ⟨hi, ?_, (unhide HL).1, (unhide HL).2, _, rfl⟩
        rw [List.getElem?_eq_none (by rw [List.length_map]; have := unhide HN; omega)]
        simp [Array.getD]

theorem find_U {g : Nat} {v : Value} {l : List (ByteArray × ThU)} {w : World} (h : KTU w g v l) (hr : Rk l) (k : ByteArray) : Calls Tryz.prog 97 #[.pointer (some ⟨g, 0, none⟩), .string k] w fun e w' =>
    e = .returned (.tuple #[.int .i64 (lowK l k), .bool (decide ((l.map Prod.fst)[lowK l k]? = some k))]) ∧ ∃ q, w' = w.drewN q := by
  refine (findL_U h hr k).mono ?_
  rintro e w' ⟨L, rfl, hL, hl, hq⟩
  obtain rfl := low_eqK l k L hL hl
  exact ⟨rfl, hq⟩
end Go.Proofs.YtdaooapfokhfcaaGreat
