/-
  The walks of the document's Right, Weight, deep, Depth; no conditions but the form's own reach.
  The walks of the document's Weight, deep, Depth; no conditions but the form's own reach.
  The walks of the statements' lent and still (layer 4): bytes with spare room behind them and marks in it; do they read as they did? conditions: the bytes and their room fit.
  How a slice of bytes among the arguments is opened: its elements as a list of numbers, its capacity within the form's own reach; no conditions.
  What the form's own reach says of what lies within an argument: elements of slices, fields of structs; no conditions.
-/
import Derived.Test.YtjkladljhbcelaaVWeigh2
import Derived.Test.YtjkladljhbcelaaWApp
import Derived.Laws.CopyOwn
import Derived.Laws.CopyRow
import Derived.Laws.IdiomCopy
import Derived.OwnWalk
import Derived.BigQuiet
import Derived.Deep.QuietTactic
import Derived.Test.YtjkladljhbcelaaR00
import Derived.Test.YtjkladljhbcelaaRows
import Derived.ProofKit
import Derived.ShutString
import Derived.ChangeOld
import Derived.SizedLaws
import Derived.Test.YtjkladljhbcelaaChecked
import Derived.Deep.Strs
namespace Go.Proofs.Ytjkladljhbcelaa
open Go.RowKit

theorem weighR_any : ∀ b, WeighAt b
  | 0 => weigh_zero
  | b + 1 => weigh_step b (weighR_any b)

theorem wgh_right (v : Vl) : (wgh 8 v 0 ≤ 2048 ↔ rightB v = true) ∧ (rightB v = true → wgh 8 v 0 = wt v) ∧ (rightB v = false → wgh 8 v 0 = 2049) := by
  have h0 : rightB v = (okB 8 v && decide (0 + wt v ≤ 2048)) := by unfold rightB; rw [Nat.zero_add]
  have h1 : rightB v = true → wgh 8 v 0 = wt v := by
    intro h
    rw [h0] at h
    unfold wgh
    rw [if_pos h, Nat.zero_add]
  have h2 : rightB v = false → wgh 8 v 0 = 2049 := by
    intro h
    rw [h0] at h
    unfold wgh
    rw [if_neg (by rw [h]; simp)]
  refine ⟨⟨fun h => ?_, fun h => ?_⟩, h1, h2⟩
  · cases hr : rightB v with
    | true => rfl
    | false => rw [h2 hr] at h; omega
  · rw [h1 h]
    unfold rightB at h
    rw [Bool.and_eq_true, decide_eq_true_eq] at h
    exact h.2
end Go.Proofs.Ytjkladljhbcelaa

namespace Go.Proofs.Ytjkladljhbcelaa
open Go.RowKit

set_option maxRecDepth 100000 in
set_option maxHeartbeats 400000 in
theorem weight_ref (v : Vl) (x : Value) (B : Nat) (w : World) (hv : IsV w B v x) (hBs : B ≤ w.heap.size) :
    Calls Try.prog 16 #[x] w fun e w' => e = .returned (.int .i64 (wt0 v : Int)) ∧ Below w.heap.size w w' := by
  obtain ⟨k', n', s', l', ks', al', ak', cl', ck', hy', hx⟩ := hv.shape
  obtain ⟨ll, hll⟩ : ∃ ll, l'.length = ll := ⟨_, rfl⟩
  obtain ⟨m, hm⟩ : ∃ m, ks'.length = m := ⟨_, rfl⟩
  rw [hll, hm] at hx
  subst hx
  obtain ⟨w1, hw1⟩ : ∃ w1, w.alloc (.cells #[.int .i64 k', .int .i64 n', .string s', .slice al' ll cl', .slice ak' m ck'] 36) = w1 := ⟨_, rfl⟩
  have BX := Box.mk' w (.int .i64 k') (.int .i64 n') (.string s') (.slice al' ll cl') (.slice ak' m ck')
  rw [hw1] at BX
  obtain ⟨c0, c1, c2, c3, c4⟩ := row_cell BX.row
  have z1 := BX.size
  have HB := hide BX.below
  have CW := hide (weighR_any 8 v _ 0 0 B w1 (by omega) (hv.mono (BX.below.mono hBs)) (by omega) (by omega))
  clear BX hv hy'
  cases hr : rightB v with
  | true =>
    have hz : wt0 v = wt v := by unfold wt0; rw [hr]; rfl
    have hwl : wt v ≤ 2048 := by
      unfold rightB at hr
      rw [Bool.and_eq_true, decide_eq_true_eq] at hr
      exact hr.2
    rw [(wgh_right v).2.1 hr] at CW
    obtain ⟨W, hW⟩ : ∃ W, wt v = W := ⟨_, rfl⟩
    rw [hW] at CW hz hwl
    rw [hz]
    have h1 : ¬ (2048 : Int) < (W : Int) := by omega
    clear hr hz hW
    go_enter Try.func16, Try.ntmps16
    go_wp2_with fail
    refine (unhide CW).mono ?_
    rintro e w2 ⟨rfl, b2⟩
    have B2 := hide b2
    clear b2 CW
    go_wp2_with fail
    go_ret
    exact ⟨rfl, (unhide HB).trans ((unhide B2).mono (by omega))⟩
  | false =>
    have hz : wt0 v = 0 := by unfold wt0; rw [hr]; rfl
    rw [(wgh_right v).2.2 hr] at CW
    rw [hz]
    clear hr hz
    go_enter Try.func16, Try.ntmps16
    go_wp2_with fail
    refine (unhide CW).mono ?_
    rintro e w2 ⟨rfl, b2⟩
    have B2 := hide b2
    clear b2 CW
    go_wp2_with fail
    go_ret
    exact ⟨rfl, (unhide HB).trans ((unhide B2).mono (by omega))⟩
end Go.Proofs.Ytjkladljhbcelaa

namespace Go.Proofs.Ytjkladljhbcelaa
open Go.RowKit
set_option linter.unusedVariables false
set_option linter.unusedSimpArgs false

/-- a block of bytes -/
def Bys (w : World) (G : Nat) (xs : List Int) : Prop := w.heap[G]? = some (.cells (xs.map (Value.int .u8)).toArray 5 (0, 0))

theorem Bys.cell {w : World} {G : Nat} {xs : List Int} (h : Bys w G xs) (k : Nat) (hk : k < xs.length) : w.cell? ⟨G, k, none⟩ = some (.int .u8 (xs.getD k 0)) := by
  rw [cell_of_row w G k _ _ (0, 0) h]
  simp [List.getD, hk]
theorem Bys.free {w : World} {G : Nat} {xs : List Int} (h : Bys w G xs) (k : Nat) : w.frozen? ⟨G, k, none⟩ = false := frozen_of_row w G k _ _ h
theorem Bys.set {w : World} {G : Nat} {xs : List Int} (h : Bys w G xs) (k : Nat) (x : Int) : Bys (w.setCell ⟨G, k, none⟩ (.int .u8 x)) G (xs.set k x) := by
  unfold Bys
  rw [heap_setCell_same w G k _ _ _ h]
  simp [List.map_set]
theorem Bys.lt {w : World} {G : Nat} {xs : List Int} (h : Bys w G xs) : G < w.heap.size := (Array.getElem?_eq_some_iff.1 h).1
theorem Bys.row {w : World} {G : Nat} {xs ys : List Int} (h : Bys w G (xs ++ ys)) (hs : ∀ c ∈ xs, 0 ≤ c ∧ c ≤ 255) (cap : Nat) (hc : xs.length ≤ cap) : Row8 w (some ⟨G, 0, none⟩) xs.length cap xs := by
  refine ⟨rfl, (fun e => by cases e), fun ad ha j u hj => ?_, hs, hc⟩
  cases ha
  have hp : (⟨G, 0, none⟩ : Addr).add j = ⟨G, j, none⟩ := by unfold Addr.add; split <;> simp_all
  have hjl : j < xs.length := by
    have := (List.getElem?_eq_some_iff.1 hj).1
    simpa using this
  rw [hp, cell_of_row w G j _ _ (0, 0) h]
  simp only [List.getElem?_toArray, List.map_append]
  rw [List.getElem?_append_left (by simpa using hjl)]
  exact hj

/-- the marks behind n bytes -/
def marks (n : Nat) : List Int := (List.range 40).map fun i => (((100 + (n + i) % 50 : Nat)) : Int)
theorem marks_len (n : Nat) : (marks n).length = 40 := by simp [marks]
theorem mark_at (xs : List Int) (k : Nat) (h1 : xs.length ≤ k) (h2 : k < xs.length + 40) : (xs ++ marks xs.length)[k]? = some ((100 + k % 50 : Nat) : Int) := by
  rw [List.getElem?_append_right h1]
  simp only [marks, List.getElem?_map, List.getElem?_range (show k - xs.length < 40 by omega), Option.map_some]
  rw [show xs.length + (k - xs.length) = k by omega]

theorem take_set4 (xs : List Int) (k : Nat) (x : Int) (h : k < xs.length) : (xs.set k x).take (k + 1) = xs.take k ++ [x] := by
  rw [List.take_succ_eq_append_getElem (by simpa using h)]
  simp [List.take_set_of_le]

theorem made0 (n : Nat) : (madeCells (Value.int IntKind.u8 0).cells (n * 1)).toList = (List.replicate n (0 : Int)).map (Value.int .u8) := by
  apply List.ext_getElem
  · rw [Array.length_toList, size_madeCells, List.length_map, List.length_replicate, Nat.mul_one]
  · intro i h1 h2
    simp [madeCells, Value.cells, Nat.mod_one]

theorem own_bys {w : World} {base g n : Nat} {xs : List Int} (h : w.ownsRow base 5 1 (.slice (some ⟨g, 0, none⟩) n n) n (xs.map (Value.int .u8))) : Bys w g xs := by
  rcases h.2 with ⟨e, _⟩ | ⟨g', cap', cur, e, _, hg, _, _, hs, ht⟩
  · cases e
  · cases e
    have hc : cur.toList = xs.map (Value.int .u8) := by rw [← ht, List.take_of_length_le (by simp; omega)]
    unfold Bys
    rw [hg, ← hc]

/-- copy(all, b) -/
theorem wpl_copy8 {w : World} {ops : Array Oper} {rest : List Oper} {o : Oper} {a : Act} {Q : Exit → Act → World → Prop} (hgd : o.guard = none) (d x : Operand)
    (ho : o.op = .call { callee := .builtin .copy, args := #[d, x], argTypes := #[22, 22] }) (g dLen : Nat) (ao : Option Addr) (len cap : Nat) (zs cur : List Int)
    (hd : a.eval d = .slice (some ⟨g, 0, none⟩) dLen dLen) (hx : a.eval x = .slice ao len cap) (hz : Row8 w ao len cap zs) (hg : Bys w g cur) (hle : len ≤ dLen) (hfit : len ≤ cur.length)
    (h : ∀ w', Hid (Bys w' g (zs ++ cur.drop len) ∧ w'.heap.size = w.heap.size ∧ (∀ B a, Below B a w → B ≤ g → Below B a w')) → wpList Try.prog ops Q rest (a.put o.dst (goInt len)) w') : wpList Try.prog ops Q (o :: rest) a w := by
  refine wpList_plain hgd fun K hK => ?_
  have hl := hz.length
  have s1 : (Try.prog.info? 5).map (·.size) = some 1 := by kernel_rfl
  by_cases h0 : len = 0
  · subst h0
    obtain rfl := List.eq_nil_of_length_eq_zero hl
    have hrun := run_copy_none (P := Try.prog) w 22 22 o.type 5 (some ⟨g, 0, none⟩) ao dLen dLen 0 cap Try.underlying22 s1 (by simp)
    unfold Oper.wp
    simp only [execOp, ho, resolve, invoke, builtin, Sem.run_bind, Sem.run_pure, Result.andThen_ok, List.map_toArray, List.map_cons, List.map_nil, hd, hx, hrun]
    exact hK _ _ (h _ (hide ⟨by simpa using hg, rfl, fun B a hb _ => hb⟩))
  · obtain ⟨ad, rfl⟩ : ∃ ad, ao = some ad := by
      cases ao with
      | none => have := (hz.none rfl).1; omega
      | some ad => exact ⟨ad, rfl⟩
    have hrun := run_copy_row (P := Try.prog) w 22 22 o.type 5 g 0 dLen dLen ad len cap _ 5 (zs.map (Value.int .u8)) Try.underlying22 s1 hg (by rw [List.length_map, hl]; exact (Nat.min_eq_left hle).symm) (fun j v hj => hz.cells ad rfl j v hj) (by simp; omega) (by intro u hu; obtain ⟨y, _, rfl⟩ := List.mem_map.1 hu; rfl)
    have hcs : ((cur.map (Value.int .u8)).toArray.toList.take 0 ++ zs.map (Value.int .u8) ++ (cur.map (Value.int .u8)).toArray.toList.drop (0 + (zs.map (Value.int .u8)).length)).toArray = ((zs ++ cur.drop len).map (Value.int .u8)).toArray := by
      simp [hl]
    rw [hcs, List.length_map, hl] at hrun
    unfold Oper.wp
    simp only [execOp, ho, resolve, invoke, builtin, Sem.run_bind, Sem.run_pure, Result.andThen_ok, List.map_toArray, List.map_cons, List.map_nil, hd, hx, hrun]
    exact hK _ _ (h _ (hide ⟨setRow_heap w g _ _ 5 _ hg, by simp [World.setRow], fun B a hb hB => below_setRow hb hB _⟩))

end Go.Proofs.Ytjkladljhbcelaa

namespace Go.Proofs.Ytjkladljhbcelaa
open Go.ChangeShapes Go.WideShapes Go.ChangeAt Go.RowKit

theorem cells5 : Try.prog.cellsOf 5 = 1 := by kernel_rfl

theorem open_row8 {H : Type} {enc : TypeId × Value → H} {W : World} {a0 : Option Addr} {len cap : Nat} {d0 : DataW H} {p0 : List MemPlace} (h0 : DataW.Trod enc Try.prog W 0 (fun _ => true) true 22 (.slice a0 len cap) d0 p0) :
    ∃ zs, Row8 W a0 len cap zs ∧ cap ≤ maxLen ∧ (cap = 0 ∨ ∃ elems spare, d0 = .slice elems spare ∧ elems.length + spare.length = cap) := by
  obtain ⟨fuel, hf⟩ := h0
  rcases open_ints Try.underlying22 Try.underlying5 cells5 hf with ⟨hcs, _⟩ | ⟨x, l, c, zs, hcs, _, hl, hm, hz, hx, hcell, hwz⟩
  · simp [Value.cells] at hcs
    obtain ⟨rfl, rfl, rfl⟩ := hcs
    exact ⟨[], ⟨rfl, fun _ => ⟨rfl, rfl⟩, (fun ad h => by cases h), (fun n h => by cases h), Nat.le_refl _⟩, Nat.zero_le _, Or.inl rfl⟩
  · simp [Value.cells] at hcs
    obtain ⟨rfl, rfl, rfl⟩ := hcs
    simp only [if_true] at hz
    refine ⟨zs.take len, ⟨by simp; omega, (fun e => by cases e), ?_, ?_, hl⟩, hm, Or.inr ?_⟩
    · intro ad ha j u hj
      cases ha
      have hjl : j < (zs.take len).length := by
        have := (List.getElem?_eq_some_iff.1 hj).1
        simpa using this
      simp only [List.length_take] at hjl
      rw [hcell j (by omega)]
      rw [List.getElem?_map, List.getElem?_take_of_lt (by omega), List.getElem?_eq_getElem (by omega)] at hj
      rw [← hj]
      simp [List.getD, (by omega : j < zs.length)]
    · intro n hn
      exact bounds_u8 (hwz n (List.mem_of_mem_take hn))
    · simp only [Prod.mk.injEq] at hx
      exact ⟨_, _, hx.1, by simp [lits]; omega⟩
end Go.Proofs.Ytjkladljhbcelaa

namespace Go.Proofs.Ytjkladljhbcelaa
open Go

theorem weightsAll_mem {H : Type} {P : Program} {e : TypeId} : ∀ {ds : List (DataW H)} {d : DataW H}, d ∈ ds → ∀ n ∈ d.weights P e, n ∈ DataW.weightsAll P e ds
  | d0 :: ds, d, hd, n, hn => by
    simp only [DataW.weightsAll, List.mem_append]
    rcases List.mem_cons.1 hd with rfl | hd
    · exact Or.inl hn
    · exact Or.inr (weightsAll_mem hd n hn)

/-- within reach -/
def Reach {H : Type} (P : Program) (t : TypeId) (d : DataW H) : Prop := ∀ n ∈ d.weights P t, n ≤ reachBytes

theorem reach_arg {H : Type} {P : Program} {ts : List TypeId} {ds : List (DataW H)} (h : (DataW.weightsEach P ts ds).all (· ≤ reachBytes) = true) {j : Nat} {t : TypeId} {d : DataW H} (ht : ts[j]? = some t) (hd : ds[j]? = some d) : Reach P t d := fun n hn => by
  have := List.all_eq_true.1 h _ (DataW.weights_mem_each ht hd n hn)
  simpa using this

theorem Reach.slice {H : Type} {P : Program} {t e : TypeId} {elems spare : List (DataW H)} (h : Reach P t (.slice elems spare)) (hu : P.underlying t = some (.slice e)) : (elems.length + spare.length) * P.bytesOf e ≤ reachBytes :=
  h _ (by simp [DataW.weights, hu])

theorem Reach.elem {H : Type} {P : Program} {t e : TypeId} {elems spare : List (DataW H)} (h : Reach P t (.slice elems spare)) (hu : P.underlying t = some (.slice e)) {d : DataW H} (hd : d ∈ elems) : Reach P e d := fun n hn =>
  h n (by
    simp only [DataW.weights, hu, List.mem_cons, List.mem_append]
    exact Or.inr (Or.inl (weightsAll_mem hd n hn)))

theorem Reach.string {H : Type} {P : Program} {t : TypeId} {bytes : List UInt8} (h : Reach (H := H) P t (.lit (.string bytes))) : bytes.length ≤ reachBytes :=
  h _ (by simp [DataW.weights])

theorem Reach.field {H : Type} {P : Program} {t : TypeId} {fs : Array Field} {parts : List (DataW H)} (h : Reach P t (.agg parts)) (hu : P.underlying t = some (.struct fs)) {j : Nat} {u : TypeId} {d : DataW H} (ht : (fs.toList.map (·.type))[j]? = some u) (hd : parts[j]? = some d) : Reach P u d := fun n hn =>
  h n (by
    simp only [DataW.weights, hu]
    exact DataW.weights_mem_each ht hd n hn)

theorem reach_size {H : Type} {P : Program} {t : TypeId} {s : ByteArray} (h : Reach (H := H) P t (.lit (.string s.data.toList))) : s.size ≤ 140737488351232 := by
  have := h.string
  unfold reachBytes at this
  simpa using this
end Go.Proofs.Ytjkladljhbcelaa
