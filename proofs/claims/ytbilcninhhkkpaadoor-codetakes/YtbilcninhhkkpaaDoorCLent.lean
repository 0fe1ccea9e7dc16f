/-
  The walks of the statements' lent and still (layer 8): bytes with spare room behind them and marks in it; do they read as they did? conditions: the bytes and their room fit.
-/
import Derived.Test.YtbilcninhhkkpaaDoorCApp
import Derived.Laws.CopyOwn
import Derived.Laws.CopyRow
import Derived.Laws.IdiomCopy
import Derived.OwnWalk
import Derived.BigQuiet
import Derived.Deep.QuietTactic
namespace Go.Proofs.YtbilcninhhkkpaaDoor
open Go.RowKit
set_option linter.unusedVariables false
set_option linter.unusedSimpArgs false

/-- a block of bytes -/
def Bys (w : World) (G : Nat) (xs : List Int) : Prop := w.heap[G]? = some (.cells (xs.map (Value.int .u8)).toArray 5 (0, 0))

theorem Bys.cell {w : World} {G : Nat} {xs : List Int} (h : Bys w G xs) (k : Nat) (hk : k < xs.length) : w.cell? ⟨G, k, none⟩ = some (.int .u8 (xs.getD k 0)) := by
  rw [cell_of_row w G k _ _ (0, 0) h]
  simp [List.getD, hk]
theorem Bys.free {w : World} {G : Nat} {xs : List Int} (h : Bys w G xs) (k : Nat) : w.frozen? ⟨G, k, none⟩ = false := frozen_of_row w G k _ _ h
theorem Bys.set {w : World} {G : Nat} {xs : List Int} (h : Bys w G xs) (k : Nat) (x : Int) : Bys (w.setCell ⟨G, k, none⟩ (.int .u8 x)) G (xs.set k x) := by
  unfold Bys
  rw [heap_setCell_same w G k _ _ _ h]
  simp [List.map_set]
theorem Bys.lt {w : World} {G : Nat} {xs : List Int} (h : Bys w G xs) : G < w.heap.size := (Array.getElem?_eq_some_iff.1 h).1
theorem Bys.row {w : World} {G : Nat} {xs ys : List Int} (h : Bys w G (xs ++ ys)) (hs : ∀ c ∈ xs, 0 ≤ c ∧ c ≤ 255) (cap : Nat) (hc : xs.length ≤ cap) : Row8 w (some ⟨G, 0, none⟩) xs.length cap xs := by
  refine ⟨rfl, (fun e => by cases e), fun ad ha j u hj => ?_, hs, hc⟩
  cases ha
  have hp : (⟨G, 0, none⟩ : Addr).add j = ⟨G, j, none⟩ := by unfold Addr.add; split <;> simp_all
  have hjl : j < xs.length := by
    have := (List.getElem?_eq_some_iff.1 hj).1
    simpa using this
  rw [hp, cell_of_row w G j _ _ (0, 0) h]
  simp only [List.getElem?_toArray, List.map_append]
  rw [List.getElem?_append_left (by simpa using hjl)]
  exact hj

/-- the marks behind n bytes -/
def marks (n : Nat) : List Int := (List.range 40).map fun i => (((100 + (n + i) % 50 : Nat)) : Int)
theorem marks_len (n : Nat) : (marks n).length = 40 := by simp [marks]
theorem mark_at (xs : List Int) (k : Nat) (h1 : xs.length ≤ k) (h2 : k < xs.length + 40) : (xs ++ marks xs.length)[k]? = some ((100 + k % 50 : Nat) : Int) := by
  rw [List.getElem?_append_right h1]
  simp only [marks, List.getElem?_map, List.getElem?_range (show k - xs.length < 40 by omega), Option.map_some]
  rw [show xs.length + (k - xs.length) = k by omega]

theorem take_set4 (xs : List Int) (k : Nat) (x : Int) (h : k < xs.length) : (xs.set k x).take (k + 1) = xs.take k ++ [x] := by
  rw [List.take_succ_eq_append_getElem (by simpa using h)]
  simp [List.take_set_of_le]

theorem made0 (n : Nat) : (madeCells (Value.int IntKind.u8 0).cells (n * 1)).toList = (List.replicate n (0 : Int)).map (Value.int .u8) := by
  apply List.ext_getElem
  · rw [Array.length_toList, size_madeCells, List.length_map, List.length_replicate, Nat.mul_one]
  · intro i h1 h2
    simp [madeCells, Value.cells, Nat.mod_one]

theorem own_bys {w : World} {base g n : Nat} {xs : List Int} (h : w.ownsRow base 5 1 (.slice (some ⟨g, 0, none⟩) n n) n (xs.map (Value.int .u8))) : Bys w g xs := by
  rcases h.2 with ⟨e, _⟩ | ⟨g', cap', cur, e, _, hg, _, _, hs, ht⟩
  · cases e
  · cases e
    have hc : cur.toList = xs.map (Value.int .u8) := by rw [← ht, List.take_of_length_le (by simp; omega)]
    unfold Bys
    rw [hg, ← hc]

/-- copy(all, b) -/
theorem wpl_copy8 {w : World} {ops : Array Oper} {rest : List Oper} {o : Oper} {a : Act} {Q : Exit → Act → World → Prop} (hgd : o.guard = none) (d x : Operand)
    (ho : o.op = .call { callee := .builtin .copy, args := #[d, x], argTypes := #[34, 34] }) (g dLen : Nat) (ao : Option Addr) (len cap : Nat) (zs cur : List Int)
    (hd : a.eval d = .slice (some ⟨g, 0, none⟩) dLen dLen) (hx : a.eval x = .slice ao len cap) (hz : Row8 w ao len cap zs) (hg : Bys w g cur) (hle : len ≤ dLen) (hfit : len ≤ cur.length)
    (h : ∀ w', Hid (Bys w' g (zs ++ cur.drop len) ∧ w'.heap.size = w.heap.size ∧ (∀ B a, Below B a w → B ≤ g → Below B a w')) → wpList Tryd.prog ops Q rest (a.put o.dst (goInt len)) w') : wpList Tryd.prog ops Q (o :: rest) a w := by
  refine wpList_plain hgd fun K hK => ?_
  have hl := hz.length
  have s1 : (Tryd.prog.info? 5).map (·.size) = some 1 := by kernel_rfl
  by_cases h0 : len = 0
  · subst h0
    obtain rfl := List.eq_nil_of_length_eq_zero hl
    have hrun := run_copy_none (P := Tryd.prog) w 34 34 o.type 5 (some ⟨g, 0, none⟩) ao dLen dLen 0 cap Tryd.underlying34 s1 (by simp)
    unfold Oper.wp
    simp only [execOp, ho, resolve, invoke, builtin, Sem.run_bind, Sem.run_pure, Result.andThen_ok, List.map_toArray, List.map_cons, List.map_nil, hd, hx, hrun]
    exact hK _ _ (h _ (hide ⟨by simpa using hg, rfl, fun B a hb _ => hb⟩))
  · obtain ⟨ad, rfl⟩ : ∃ ad, ao = some ad := by
      cases ao with
      | none => have := (hz.none rfl).1; omega
      | some ad => exact ⟨ad, rfl⟩
    have hrun := run_copy_row (P := Tryd.prog) w 34 34 o.type 5 g 0 dLen dLen ad len cap _ 5 (zs.map (Value.int .u8)) Tryd.underlying34 s1 hg (by rw [List.length_map, hl]; exact (Nat.min_eq_left hle).symm) (fun j v hj => hz.cells ad rfl j v hj) (by simp; omega) (by intro u hu; obtain ⟨y, _, rfl⟩ := List.mem_map.1 hu; rfl)
    have hcs : ((cur.map (Value.int .u8)).toArray.toList.take 0 ++ zs.map (Value.int .u8) ++ (cur.map (Value.int .u8)).toArray.toList.drop (0 + (zs.map (Value.int .u8)).length)).toArray = ((zs ++ cur.drop len).map (Value.int .u8)).toArray := by
      simp [hl]
    rw [hcs, List.length_map, hl] at hrun
    unfold Oper.wp
    simp only [execOp, ho, resolve, invoke, builtin, Sem.run_bind, Sem.run_pure, Result.andThen_ok, List.map_toArray, List.map_cons, List.map_nil, hd, hx, hrun]
    exact hK _ _ (h _ (hide ⟨setRow_heap w g _ _ 5 _ hg, by simp [World.setRow], fun B a hb hB => below_setRow hb hB _⟩))

set_option maxRecDepth 100000 in
set_option maxHeartbeats 400000 in
theorem lent4 (ao : Option Addr) (n cap : Nat) (zs : List Int) (w : World) (hz : Row8 w ao n cap zs) (hm : n ≤ 140737488351232) :
    Calls Tryd.prog 15 #[.slice ao n cap] w fun e w' => e = .returned (.tuple #[.slice (some ⟨w.heap.size, 0, none⟩) n (n + 40), .slice (some ⟨w.heap.size, 0, none⟩) (n + 40) (n + 40)]) ∧ Bys w' w.heap.size (zs ++ marks n) ∧ Below w.heap.size w w' := by
  obtain ⟨i0, hi, hz0, hz1, hz2⟩ := info_parts info5
  obtain ⟨G, hG⟩ : ∃ G, w.heap.size = G := ⟨_, rfl⟩
  have hlen := hz.length
  have HA : Hid (∀ k, n ≤ k → k < n + 40 → (zs ++ marks n)[k]? = some ((100 + k % 50 : Nat) : Int)) := hide (fun k h1 h2 => by rw [← hlen]; exact mark_at zs k (by omega) (by omega))
  have HLT := hide hlen
  rw [hG]
  have n1 : IntKind.i64.wrap ((n : Int) + 40) = (n : Int) + 40 := by rw [IntKind.wrap_i64]; omega
  have HZ := hide hz
  have tokA : True := trivial
  clear hz hlen
  go_enter Tryd.func15, Tryd.ntmps15
  go_wp2_with (first
    | (at_make; refine wpList_make_full _ rfl _ _ 34 rfl G 5 i0 (.int .u8 0) 1 Tryd.underlying34 hi hz0 hz1 _ _ _ _ (n + 40) rfl rfl (by omega) (by omega) (by rw [hz2]; omega) (by unfold maxLen; omega) (by omega) ?_; intro w1 hown1 hgrow1; rw [hG] at hown1 ⊢; rw [made0] at hown1; have A1 := hide (own_bys hown1); have G1 : Hid (Below w.heap.size w w1) := hide ⟨hgrow1.os, hgrow1.tape, hgrow1.output, hgrow1.size, fun k hk => hgrow1.block k hk (by simp)⟩; clear hown1 hgrow1)
    | (have _t := tokA; refine wpl_copy8 rfl (.tmp 10) (.tmp 11) rfl G (n + 40) ao n cap zs (List.replicate (n + 40) 0) rfl rfl ((unhide HZ).later (unhide G1)) (unhide A1) (by omega) (by simp) ?_; intro w2 P2; clear tokA))
  have hd : Hid ((zs ++ (List.replicate (n + 40) (0 : Int)).drop n).length = n + 40) := hide (by rw [List.length_append, unhide HLT]; simp)
  have A2 : Hid (Bys w2 G (zs ++ (List.replicate (n + 40) (0 : Int)).drop n)) := hide (unhide P2).1
  have T2 : Hid ((zs ++ (List.replicate (n + 40) (0 : Int)).drop n).take n = (zs ++ marks n).take n) := hide (by
    rw [List.take_append_of_le_length (by have := unhide HLT; omega), List.take_append_of_le_length (by have := unhide HLT; omega)])
  have B2 : Hid (Below G w w2) := hide ((unhide P2).2.2 G w (by rw [← hG]; exact unhide G1) (Nat.le_refl _))
  generalize zs ++ (List.replicate (n + 40) (0 : Int)).drop n = L0 at *
  clear P2 A1 G1
  go_loopw [5] (fun x wr => ∃ (k : Nat) (xs : List Int), n ≤ k ∧ k ≤ n + 40 ∧ x = .int .i64 k ∧ Hid (Bys wr G xs) ∧ Hid (xs.length = n + 40) ∧ Hid (xs.take k = (zs ++ marks n).take k) ∧ Hid (Below G w wr)) (fun x _ => n + 40 - (intOf x).toNat)
  case atStart => exact ⟨n, L0, by omega, by omega, rfl, A2, hd, T2, B2⟩
  case round =>
    clear A2 hd T2 B2
    obtain ⟨k, xs, hk1, hk2, rfl, HX, HL, HT, HB⟩ := hrel
    by_cases hlt : k < n + 40
    · have c1 := (unhide HX).cell k (by have := unhide HL; omega)
      have cf := (unhide HX).free k
      have hat := unhide HA k hk1 hlt
      obtain ⟨r, hr⟩ : ∃ r, k % 50 = r := ⟨_, rfl⟩
      rw [hr] at hat
      have r0 : r < 50 := by omega
      have r1 : (k : Int).tmod 50 = (r : Int) := by rw [Int.tmod_eq_emod_of_nonneg (by omega)]; omega
      have r2 : (k : Int) % 50 = (r : Int) := by omega
      have r3 : IntKind.i64.wrap (100 + (r : Int)) = 100 + (r : Int) := by rw [IntKind.wrap_i64]; omega
      have r4 : IntKind.u8.wrap (100 + (r : Int)) = 100 + (r : Int) := by rw [IntKind.wrap_u8]; omega
      have r5 : (100 + (r : Int)) % 256 = 100 + (r : Int) := by omega
      have k1 : (k : Int) < (n : Int) + 40 := by omega
      have HX' := hide ((unhide HX).set k (100 + (r : Int)))
      have HL' : Hid ((xs.set k (100 + (r : Int))).length = n + 40) := hide (by simpa using unhide HL)
      have HT' : Hid ((xs.set k (100 + (r : Int))).take (k + 1) = (zs ++ marks n).take (k + 1)) := hide (by
        rw [take_set4 _ _ _ (by have := unhide HL; omega), unhide HT, List.take_add_one, hat]
        simp)
      have HB' := hide ((unhide HB).setCell (p := ⟨G, k, none⟩) (Nat.le_refl _) (.int .u8 (100 + (r : Int))))
      generalize xs.getD k 0 = y0 at *
      clear hat hr
      go_wp2_with fail
      go_roundw
      case rel => exact ⟨k + 1, _, by omega, by omega, by go_num, HX', HL', HT', HB'⟩
      case measure => simp [intOf]; omega
    · have hk : k = n + 40 := by omega
      subst hk
      have hxs : xs = zs ++ marks n := by
        have h := unhide HT
        rw [List.take_of_length_le (by have := unhide HL; omega), List.take_of_length_le (by rw [List.length_append, unhide HLT, marks_len]; exact Nat.le_refl _)] at h
        exact h
      subst hxs
      go_wp2_with fail
      go_ret2
      exact ⟨rfl, unhide HX, unhide HB⟩

set_option maxRecDepth 100000 in
set_option maxHeartbeats 400000 in
theorem still4 (G : Nat) (ao : Option Addr) (n cap : Nat) (zs : List Int) (w : World) (hz : Row8 w ao n cap zs) (hcap : cap ≤ maxLen) (hm : n ≤ 140737488351232) (hA : Bys w G (zs ++ marks n)) :
    Calls Tryd.prog 18 #[.slice (some ⟨G, 0, none⟩) (n + 40) (n + 40), .slice ao n cap] w fun e w' => e = .returned (.bool true) ∧ Below w.heap.size w w' := by
  have hlen := hz.length
  have hle := hz.le
  have hcp : cap ≤ 9223372036854775807 := by unfold maxLen at hcap; omega
  have HA : Hid (∀ k, n ≤ k → k < n + 40 → (zs ++ marks n)[k]? = some ((100 + k % 50 : Nat) : Int)) := hide (fun k h1 h2 => by rw [← hlen]; exact mark_at zs k (by omega) (by omega))
  have HAll : Hid (∀ u, Below w.heap.size w u → Bys u G (zs ++ marks n) ∧ Row8 u ao n cap zs) := hide (fun u hu => ⟨(hu.block G hA.lt).trans hA, hz.later hu⟩)
  have HL : Hid ((zs ++ marks n).length = n + 40 ∧ zs.length = n) := hide ⟨by rw [List.length_append, marks_len, hlen], hlen⟩
  clear hA hz hlen
  go_enter Tryd.func18, Tryd.ntmps18
  go_wp2_with fail
  go_loopw [5] (fun x wr => ∃ k : Nat, k ≤ n + 40 ∧ x = .int .i64 k ∧ Hid (Below w.heap.size w wr)) (fun x _ => n + 40 - (intOf x).toNat)
  case atStart => exact ⟨0, by omega, rfl, hide (Below.refl _ _)⟩
  case round =>
    obtain ⟨k, hk2, rfl, HB⟩ := hrel
    obtain ⟨hA, hz⟩ := unhide HAll wr (unhide HB)
    by_cases hlt : k < n + 40
    · have c1 := hA.cell k (by have := (unhide HL).1; omega)
      have k1 : (k : Int) < (n : Int) + 40 := by omega
      have k0 : (0 : Int) ≤ (k : Int) := by omega
      by_cases hn : k < n
      · obtain ⟨b, off, rfl, hc⟩ := hz.at (by omega)
        have c2 := hc k hn
        have e1 : (zs ++ marks n).getD k 0 = zs.getD k 0 := by rw [List.getD_eq_getElem?_getD, List.getElem?_append_left (by have := (unhide HL).2; omega), ← List.getD_eq_getElem?_getD]
        rw [e1] at c1
        have d1 : decide ((k : Int) < (n : Int)) = true := by simp; omega
        have d2 : decide (n ≤ k) = false := by simp; omega
        have d3 : (k : Int) < (n : Int) := by omega
        have HB2 : Hid (∀ q, Below w.heap.size w (wr.drewN q)) := hide (fun q => below_drewN (unhide HB) q)
        generalize zs.getD k 0 = y at *
        clear hA hz hc e1
        go_upto_region 4 with fail
        go_quiet (fail)
        go_wp2_with fail
        go_roundw
        case rel => exact ⟨k + 1, by omega, by go_num, hide (unhide HB2 _)⟩
        case measure => simp [intOf]; omega
      · have hat := unhide HA k (by omega) hlt
        rw [List.getD_eq_getElem?_getD, hat] at c1
        obtain ⟨r, hr⟩ : ∃ r, k % 50 = r := ⟨_, rfl⟩
        rw [hr] at c1
        have c2 : wr.cell? ⟨G, k, none⟩ = some (.int .u8 (100 + (r : Int))) := by simpa using c1
        have r0 : r < 50 := by omega
        have r1 : (k : Int).tmod 50 = (r : Int) := by rw [Int.tmod_eq_emod_of_nonneg (by omega)]; omega
        have r2 : (k : Int) % 50 = (r : Int) := by omega
        have r3 : IntKind.i64.wrap (100 + (r : Int)) = 100 + (r : Int) := by rw [IntKind.wrap_i64]; omega
        have r4 : IntKind.u8.wrap (100 + (r : Int)) = 100 + (r : Int) := by rw [IntKind.wrap_u8]; omega
        have r5 : (100 + (r : Int)) % 256 = 100 + (r : Int) := by omega
        have d1 : decide ((k : Int) < (n : Int)) = false := by simp; omega
        have d2 : decide (n ≤ k) = true := by simp; omega
        have d3 : ¬ (k : Int) < (n : Int) := by omega
        have d4 : (n : Int) ≤ (k : Int) := by omega
        have HB2 : Hid (∀ q, Below w.heap.size w (wr.drewN q)) := hide (fun q => below_drewN (unhide HB) q)
        clear hat hr c1 hA hz
        go_upto_region 4 with fail
        go_quiet (fail)
        go_wp2_with fail
        go_roundw
        case rel => exact ⟨k + 1, by omega, by go_num, hide (unhide HB2 _)⟩
        case measure => simp [intOf]; omega
    · have k1 : ¬ (k : Int) < (n : Int) + 40 := by omega
      clear hA hz
      go_wp2_with fail
      go_ret
      exact ⟨rfl, unhide HB⟩
end Go.Proofs.YtbilcninhhkkpaaDoor
