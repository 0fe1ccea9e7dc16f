/-
  nothing: a nil store answers as it must; conditions: the form's own reach.
  What the form's own reach says of what lies within an argument: elements of slices, fields of structs; no conditions.
  How a value among the arguments is opened: a tree of values that lies in memory; no conditions.
  How a row of Ops among the arguments is opened; no conditions.
  StoreRuns is true of any Ops; conditions: the form's own reach.
-/
import Derived.Test.YtdaooapfokhfcaaGreatA52
import Derived.Test.YtdaooapfokhfcaaGreatChecked
import Derived.SizedLaws
import Derived.Deep.Strs
import Derived.Test.YtdaooapfokhfcaaGreatA00
import Derived.ProofKit
import Derived.OpenShut
import Derived.Test.YtdaooapfokhfcaaGreatA38
namespace Go.Proofs.YtdaooapfokhfcaaGreat
open Go.RowKit
set_option linter.unusedVariables false
set_option linter.unusedSimpArgs false

set_option maxRecDepth 100000 in
set_option maxHeartbeats 3200000 in
theorem nothing_any (w : World) : Calls Tryz.prog 7 #[] w fun e w' => e = .returned (.bool true) ∧ Below w.heap.size w w' := by
  have C1 : Hid (Calls Tryz.prog 17 #[.pointer none, .string ⟨#[107]⟩] w fun e w' => ∃ y0 y1 y2 y3 y4 y5 y6 y7 y8, e = .returned (.tuple #[.agg #[.int .i64 y0, .int .i64 y1, .string y2, .slice y3 y4 y5, .slice y6 y7 y8], .bool false]) ∧ Hid (Below w.heap.size w w' ∧ IsV w' w'.heap.size vz (.agg #[.int .i64 y0, .int .i64 y1, .string y2, .slice y3 y4 y5, .slice y6 y7 y8]))) := hide ((get_nil ⟨#[107]⟩ w).mono (by
    rintro e w' ⟨x, rfl, b, q⟩
    obtain ⟨⟨y0, y1, y2, y3, y4, y5, y6, y7, y8⟩, rfl⟩ := isP_th q.1
    exact ⟨y0, y1, y2, y3, y4, y5, y6, y7, y8, rfl, hide ⟨b, q.isV (fun j hj => hj.2)⟩⟩))
  have CA : ∀ u : World, Hid (Calls Tryz.prog 18 #[.pointer none, .string ⟨#[]⟩] u fun e w' => e = .returned (.tuple #[.string ⟨#[]⟩, .bool false]) ∧ Below u.heap.size u w') := fun u => hide (after_nil ⟨#[]⟩ u)
  have CB : ∀ u : World, Hid (Calls Tryz.prog 9 #[.pointer none, .string ⟨#[107]⟩, .agg #[.int .i64 0, .int .i64 0, .string ⟨#[]⟩, .slice none 0 0, .slice none 0 0]] u fun e w' => e = .returned (.int .i64 1) ∧ Below u.heap.size u w') := fun u => hide (put_nil ⟨#[107]⟩ _ _ _ _ _ _ _ _ _ u)
  have CD : ∀ u : World, Hid (Calls Tryz.prog 19 #[.pointer none] u fun e w' => e = .returned (.int .i64 1) ∧ Below u.heap.size u w') := fun u => hide (rollback_nil u)
  have CE : ∀ u : World, Hid (Calls Tryz.prog 20 #[.pointer none] u fun e w' => e = .returned (.int .i64 1) ∧ Below u.heap.size u w') := fun u => hide (commit_nil u)
  have CF : ∀ u : World, Hid (Calls Tryz.prog 22 #[.pointer none, .string ⟨#[107]⟩] u fun e w' => e = .returned (.bool false) ∧ Below u.heap.size u w') := fun u => hide (del_nil ⟨#[107]⟩ u)
  have CG : ∀ u : World, Hid (Calls Tryz.prog 15 #[.pointer none] u fun e w' => e = .returned (.int .i64 0) ∧ w' = u) := fun u => hide (len_nil u)
  have CH : ∀ u : World, Hid (Calls Tryz.prog 23 #[.pointer none] u fun e w' => e = .returned (.int .i64 0) ∧ w' = u) := fun u => hide (weight_nil u)
  have CI : ∀ u : World, Hid (Calls Tryz.prog 24 #[.pointer none] u fun e w' => e = .returned (.int .i64 0) ∧ w' = u) := fun u => hide (check_nil u)
  have CJ : ∀ u : World, Hid (Calls Tryz.prog 25 #[.pointer none] u fun e w' => e = .returned (.int .i64 0) ∧ w' = u) := fun u => hide (open_nil u)
  have CK : ∀ u : World, Hid (Calls Tryz.prog 26 #[.pointer none] u fun e w' => ∃ al cl, e = .returned (.slice al 0 cl) ∧ Below u.heap.size u w') := fun u => hide ((entries_nil u).mono (by
    rintro e w' ⟨sv, es, rfl, he, hen, b⟩
    have hl : es.length = 0 := by
      have := congrArg List.length he
      rw [mapK_len] at this
      exact this
    obtain ⟨ao, cap, hsv, -⟩ := own_slice hen.row
    rw [hl] at hsv
    exact ⟨ao, cap, by rw [hsv], b⟩))
  have HCA := hide CA
  have HCB := hide CB
  have HCD := hide CD
  have HCE := hide CE
  have HCF := hide CF
  have HCG := hide CG
  have HCH := hide CH
  have HCI := hide CI
  have HCJ := hide CJ
  have HCK := hide CK
  clear CA CB CD CE CF CG CH CI CJ CK
  go_enter Tryz.func7, Tryz.ntmps7
  go_wp2_with fail
  refine (unhide C1).mono ?_
  rintro e u1 ⟨y0, y1, y2, y3, y4, y5, y6, y7, y8, rfl, H1⟩
  obtain ⟨P, hP⟩ : ∃ P, u1.heap.size = P := ⟨_, rfl⟩
  obtain ⟨w3, hw3⟩ : ∃ w3, u1.alloc (.cells #[.int .i64 y0, .int .i64 y1, .string y2, .slice y3 y4 y5, .slice y6 y7 y8] 32) = w3 := ⟨_, rfl⟩
  have b3 : Below u1.heap.size u1 w3 := by rw [← hw3]; exact (Below.refl _ _).alloc (Nat.le_refl _) _
  have n3 : w3.heap[P]? = some (.cells #[.int .i64 y0, .int .i64 y1, .string y2, .slice y3 y4 y5, .slice y6 y7 y8] 32 (0, 0)) := by rw [← hw3, ← hP]; exact heap_alloc_new u1 _
  have HS : Hid (∀ u, Below w3.heap.size w3 u → (Calls Tryz.prog 21 #[.agg #[.int .i64 y0, .int .i64 y1, .string y2, .slice y3 y4 y5, .slice y6 y7 y8], .agg #[.int .i64 0, .int .i64 0, .string ⟨#[]⟩, .slice none 0 0, .slice none 0 0]] u fun e w' => e = .returned (.bool true) ∧ Below u.heap.size u w') ∧ Five u P (y0, y1, y2, y3, y4, y5, y6, y7, y8)) := hide (fun u hu => by
    have z1 := b3.size
    have z2 := hu.size
    have hv : IsV u u.heap.size vz (.agg #[.int .i64 y0, .int .i64 y1, .string y2, .slice y3 y4 y5, .slice y6 y7 y8]) := ((unhide H1).2.mono (b3.trans (hu.mono z1))).lift (by omega)
    refine ⟨(same_any vz vz _ _ u.heap.size u hv (vz_is u _) (Nat.le_refl _)).mono ?_, Five.of ((hu.block P (Array.getElem?_eq_some_iff.1 n3).1).trans n3)⟩
    rintro e w' ⟨rfl, b⟩
    exact ⟨by rw [smB_refl], b⟩)
  have B3 : Hid (Below w.heap.size w w3) := hide ((unhide H1).1.trans (b3.mono (unhide H1).1.size))
  clear C1 H1 b3 n3
  go_wp2_with fail
  refine (unhide (unhide HCA w3)).mono ?_
  rintro e u4 ⟨rfl, b4⟩
  have H4 := hide b4
  clear b4 hw3
  go_wp2_with fail
  refine (unhide (unhide HCB _)).mono ?_
  rintro e u5 ⟨rfl, b5⟩
  have H5 := hide ((unhide H4).trans (b5.mono (unhide H4).size))
  clear b5 H4
  go_wp2_with fail
  refine (unhide (unhide HCD _)).mono ?_
  rintro e u6 ⟨rfl, b6⟩
  have H6 := hide ((unhide H5).trans (b6.mono (unhide H5).size))
  clear b6 H5
  go_wp2_with fail
  refine (unhide (unhide HCE _)).mono ?_
  rintro e u7 ⟨rfl, b7⟩
  have H7 := hide ((unhide H6).trans (b7.mono (unhide H6).size))
  clear b7 H6
  obtain ⟨CS, ⟨c0, c1, c2, c3, c4⟩⟩ := unhide HS u7 (unhide H7)
  dsimp only at c0 c1 c2 c3 c4
  have CSH := hide CS
  clear CS
  go_wp2_with fail
  refine (unhide CSH).mono ?_
  rintro e u8 ⟨rfl, b8⟩
  have H8 := hide ((unhide H7).trans (b8.mono (unhide H7).size))
  clear b8 H7 c0 c1 c2 c3 c4 CSH
  go_wp2_with fail
  refine (unhide (unhide HCF _)).mono ?_
  rintro e u9 ⟨rfl, b9⟩
  have H9 := hide ((unhide H8).trans (b9.mono (unhide H8).size))
  clear b9 H8
  go_wp2_with fail
  refine (unhide (unhide HCG _)).mono ?_
  rintro e v1 ⟨rfl, hv1⟩
  obtain rfl := hv1.symm
  clear hv1
  go_wp2_with fail
  refine (unhide (unhide HCH _)).mono ?_
  rintro e v1 ⟨rfl, hv1⟩
  obtain rfl := hv1.symm
  clear hv1
  go_wp2_with fail
  refine (unhide (unhide HCI _)).mono ?_
  rintro e v1 ⟨rfl, hv1⟩
  obtain rfl := hv1.symm
  clear hv1
  go_wp2_with fail
  refine (unhide (unhide HCJ _)).mono ?_
  rintro e v1 ⟨rfl, hv1⟩
  obtain rfl := hv1.symm
  clear hv1
  go_wp2_with fail
  refine (unhide (unhide HCK _)).mono ?_
  rintro e vA ⟨al, cl, rfl, bA⟩
  have HA := hide ((unhide H9).trans (bA.mono (unhide H9).size))
  clear bA H9
  go_wp2_with fail
  go_ret
  exact ⟨by simp, (unhide B3).trans ((unhide HA).mono (unhide B3).size)⟩
end Go.Proofs.YtdaooapfokhfcaaGreat

namespace Go.Proofs.YtdaooapfokhfcaaGreat
open Go

theorem weightsAll_mem {H : Type} {P : Program} {e : TypeId} : ∀ {ds : List (DataW H)} {d : DataW H}, d ∈ ds → ∀ n ∈ d.weights P e, n ∈ DataW.weightsAll P e ds
  | d0 :: ds, d, hd, n, hn => by
    simp only [DataW.weightsAll, List.mem_append]
    rcases List.mem_cons.1 hd with rfl | hd
    · exact Or.inl hn
    · exact Or.inr (weightsAll_mem hd n hn)

/-- within reach -/
def Reach {H : Type} (P : Program) (t : TypeId) (d : DataW H) : Prop := ∀ n ∈ d.weights P t, n ≤ reachBytes

theorem reach_arg {H : Type} {P : Program} {ts : List TypeId} {ds : List (DataW H)} (h : (DataW.weightsEach P ts ds).all (· ≤ reachBytes) = true) {j : Nat} {t : TypeId} {d : DataW H} (ht : ts[j]? = some t) (hd : ds[j]? = some d) : Reach P t d := fun n hn => by
  have := List.all_eq_true.1 h _ (DataW.weights_mem_each ht hd n hn)
  simpa using this

theorem Reach.slice {H : Type} {P : Program} {t e : TypeId} {elems spare : List (DataW H)} (h : Reach P t (.slice elems spare)) (hu : P.underlying t = some (.slice e)) : (elems.length + spare.length) * P.bytesOf e ≤ reachBytes :=
  h _ (by simp [DataW.weights, hu])

theorem Reach.elem {H : Type} {P : Program} {t e : TypeId} {elems spare : List (DataW H)} (h : Reach P t (.slice elems spare)) (hu : P.underlying t = some (.slice e)) {d : DataW H} (hd : d ∈ elems) : Reach P e d := fun n hn =>
  h n (by
    simp only [DataW.weights, hu, List.mem_cons, List.mem_append]
    exact Or.inr (Or.inl (weightsAll_mem hd n hn)))

theorem Reach.string {H : Type} {P : Program} {t : TypeId} {bytes : List UInt8} (h : Reach (H := H) P t (.lit (.string bytes))) : bytes.length ≤ reachBytes :=
  h _ (by simp [DataW.weights])

theorem Reach.field {H : Type} {P : Program} {t : TypeId} {fs : Array Field} {parts : List (DataW H)} (h : Reach P t (.agg parts)) (hu : P.underlying t = some (.struct fs)) {j : Nat} {u : TypeId} {d : DataW H} (ht : (fs.toList.map (·.type))[j]? = some u) (hd : parts[j]? = some d) : Reach P u d := fun n hn =>
  h n (by
    simp only [DataW.weights, hu]
    exact DataW.weights_mem_each ht hd n hn)

theorem reach_size {H : Type} {P : Program} {t : TypeId} {s : ByteArray} (h : Reach (H := H) P t (.lit (.string s.data.toList))) : s.size ≤ 140737488351232 := by
  have := h.string
  unfold reachBytes at this
  simpa using this
end Go.Proofs.YtdaooapfokhfcaaGreat

namespace Go.Proofs.YtdaooapfokhfcaaGreat
open Go.ChangeShapes Go.WideShapes Go.ChangeAt Go.RowKit

theorem cells1i : Tryz.prog.cellsOf 3 = 1 := by kernel_rfl
theorem cells1j : Tryz.prog.cellsOf 2 = 1 := by kernel_rfl
theorem cells1s : Tryz.prog.cellsOf 9 = 1 := by kernel_rfl
theorem cells1l : Tryz.prog.cellsOf 29 = 1 := by kernel_rfl
theorem cells1k : Tryz.prog.cellsOf 30 = 1 := by kernel_rfl
theorem cells5v : Tryz.prog.cellsOf 32 = 5 := by kernel_rfl

section
variable {H : Type} {enc : TypeId × Value → H} {W : World}

set_option maxRecDepth 100000 in
theorem open_fields {fuel : Nat} {cs : List Value} {x : DataW H × List MemPlace} (h : DataW.trod enc Tryz.prog W 0 (fun _ => true) true fuel 32 cs = some x) :
    ∃ (n : Nat) (c0 c1 c2 c3 c4 : Value) (y0 y1 y2 y3 y4 : DataW H × List MemPlace), fuel = n + 1 ∧ cs = [c0, c1, c2, c3, c4] ∧ x.1 = .agg [y0.1, y1.1, y2.1, y3.1, y4.1] ∧
      DataW.trod enc Tryz.prog W 0 (fun _ => true) true n 3 [c0] = some y0 ∧ DataW.trod enc Tryz.prog W 0 (fun _ => true) true n 2 [c1] = some y1 ∧ DataW.trod enc Tryz.prog W 0 (fun _ => true) true n 9 [c2] = some y2 ∧
      DataW.trod enc Tryz.prog W 0 (fun _ => true) true n 29 [c3] = some y3 ∧ DataW.trod enc Tryz.prog W 0 (fun _ => true) true n 30 [c4] = some y4 := by
  obtain ⟨xs, n, rfl, rfl, hl, hlen, hf⟩ := DataW.trod_struct Tryz.underlying32 h
  rw [cells5v] at hl
  have hlen' : xs.length = 5 := hlen
  match cs, hl, xs, hlen' with
  | [c0, c1, c2, c3, c4], _, [y0, y1, y2, y3, y4], _ =>
    have h0 : DataW.trod enc Tryz.prog W 0 (fun _ => true) true n 3 (([c0, c1, c2, c3, c4].drop 0).take (Tryz.prog.cellsOf 3)) = some y0 := hf 0 _ rfl
    rw [cells1i] at h0
    have h1 : DataW.trod enc Tryz.prog W 0 (fun _ => true) true n 2 (([c0, c1, c2, c3, c4].drop 1).take (Tryz.prog.cellsOf 2)) = some y1 := hf 1 _ rfl
    rw [cells1j] at h1
    have h2 : DataW.trod enc Tryz.prog W 0 (fun _ => true) true n 9 (([c0, c1, c2, c3, c4].drop 2).take (Tryz.prog.cellsOf 9)) = some y2 := hf 2 _ rfl
    rw [cells1s] at h2
    have h3 : DataW.trod enc Tryz.prog W 0 (fun _ => true) true n 29 (([c0, c1, c2, c3, c4].drop 3).take (Tryz.prog.cellsOf 29)) = some y3 := hf 3 _ rfl
    rw [cells1l] at h3
    have h4 : DataW.trod enc Tryz.prog W 0 (fun _ => true) true n 30 (([c0, c1, c2, c3, c4].drop 4).take (Tryz.prog.cellsOf 30)) = some y4 := hf 4 _ rfl
    rw [cells1k] at h4
    exact ⟨n, c0, c1, c2, c3, c4, y0, y1, y2, y3, y4, rfl, rfl, rfl, h0, h1, h2, h3, h4⟩

set_option maxRecDepth 100000 in
theorem open_value : ∀ (fuel : Nat) (cs : List Value) (x : DataW H × List MemPlace), DataW.trod enc Tryz.prog W 0 (fun _ => true) true fuel 32 cs = some x → Go.Proofs.YtdaooapfokhfcaaGreat.Reach Tryz.prog 32 x.1 → ∃ v, IsV W W.heap.size v (.agg cs.toArray) := by
  intro fuel
  induction fuel using Nat.strongRecOn with
  | ind fuel ih =>
    intro cs x h hre
    obtain ⟨n, c0, c1, c2, c3, c4, y0, y1, y2, y3, y4, rfl, rfl, hx, h0, h1, h2, h3, h4⟩ := open_fields h
    rw [hx] at hre
    obtain ⟨k, e0, _, w0⟩ := DataW.trod_int Tryz.underlying3 h0
    obtain ⟨m, e1, _, w1⟩ := DataW.trod_int Tryz.underlying2 h1
    obtain ⟨s, e2, hy2, _⟩ := DataW.trod_string Tryz.underlying9 h2
    simp only [List.cons.injEq, and_true] at e0 e1 e2
    subst e0
    subst e1
    subst e2
    have r2 : s.size ≤ 140737488351232 := by
      have := hre.field (j := 2) (u := 9) (d := y2.1) Tryz.underlying32 rfl rfl
      rw [hy2] at this
      exact reach_size this
    have r3 := hre.field (j := 3) (u := 29) (d := y3.1) Tryz.underlying32 rfl rfl
    have r4 := hre.field (j := 4) (u := 30) (d := y4.1) Tryz.underlying32 rfl rfl
    obtain ⟨ks, ak, ck, hc4, nk, lk, ⟨bc, bq⟩, hk, bt⟩ : ∃ (ks : List ByteArray) (ak : Option Addr) (ck : Nat), c4 = .slice ak ks.length ck ∧ (ak = none → ks.length = 0 ∧ ck = 0) ∧ ks.length ≤ ck ∧ (ck ≤ 140737488351232 ∧ 16 * ks.length ≤ 140737488351232) ∧ (∀ a, ak = some a → ∀ i t, ks[i]? = some t → a.block < W.heap.size ∧ W.cell? (a.add i) = some (.string t)) ∧ ∀ t ∈ ks, t.size ≤ 140737488351232 := by
      rcases Go.Deep.open_strs Tryz.underlying30 Tryz.underlying9 cells1s h4 with ⟨hcs, _⟩ | ⟨a, l, c, m', Sx, hcs, _, hl, hm, hmm, hx4, hcell⟩
      · simp only [List.cons.injEq, and_true] at hcs
        exact ⟨[], none, 0, hcs, fun _ => ⟨rfl, rfl⟩, Nat.le_refl _, ⟨by omega, by simp⟩, (fun a h => by cases h), fun t h => by cases h⟩
      · simp only [List.cons.injEq, and_true] at hcs
        simp only [if_true] at hmm
        subst hmm
        rw [hx4] at r4
        refine ⟨(List.range l).map Sx, some a, m', by simpa using hcs, (fun e => by cases e), by simpa using hl, ?_, ?_, ?_⟩
        · have h := r4.slice Tryz.underlying30
          rw [show Tryz.prog.bytesOf 9 = 16 by kernel_rfl] at h
          unfold reachBytes at h
          simp at h
          refine ⟨by omega, ?_⟩
          rw [List.length_map, List.length_range]
          omega
        · intro b hb i t ht
          cases hb
          have hi : i < l := by
            have := (List.getElem?_eq_some_iff.1 ht).1
            simpa using this
          rw [List.getElem?_map, List.getElem?_range hi] at ht
          simp only [Option.map_some, Option.some.injEq] at ht
          subst ht
          have hc := (hcell i (by omega)).1
          refine ⟨?_, hc⟩
          have := World.block_lt_of_cell? _ _ (by rw [hc])
          rw [block_add] at this
          exact this
        · intro t ht
          obtain ⟨i, hi, rfl⟩ := List.mem_map.1 ht
          exact reach_size (r4.elem Tryz.underlying30 (List.mem_map.2 ⟨i, hi, rfl⟩))
    obtain ⟨l, al, cl, V, hc3, nl, ll, bl, hl, hv, el⟩ : ∃ (l : List Vl) (al : Option Addr) (cl : Nat) (V : Nat → List Value), c3 = .slice al l.length cl ∧ (al = none → l.length = 0 ∧ cl = 0) ∧ l.length ≤ cl ∧ cl ≤ 140737488351232 ∧
        (∀ a, al = some a → ∀ i, i < l.length → a.block < W.heap.size ∧ ∀ j v, (V i)[j]? = some v → W.cell? ((a.add (i * 5)).add j) = some v) ∧ (∀ i, i < l.length → (V i).length = 5) ∧ ∀ i x, l[i]? = some x → IsV W W.heap.size x (.agg (V i).toArray) := by
      rcases DataW.trod_slice Tryz.underlying29 h3 with ⟨hcs, _⟩ | ⟨a, len, cap, elems, rest, n', hn', hcs, hx3, _, hlc, hcm, hlen, hel, hsp, _⟩
      · simp only [List.cons.injEq, and_true] at hcs
        exact ⟨[], none, 0, fun _ => [], hcs, fun _ => ⟨rfl, rfl⟩, Nat.le_refl _, by omega, (fun a h => by cases h), (fun i h => absurd h (by simp)), fun i x h => by simp at h⟩
      · simp only [List.cons.injEq, and_true] at hcs
        rw [hx3] at r3
        rw [cells5v] at hel
        have hall : ∀ i, i < len → ∃ p : List Value × Vl, p.1.length = 5 ∧ (a.block < W.heap.size ∧ ∀ j v, p.1[j]? = some v → W.cell? ((a.add (i * 5)).add j) = some v) ∧ IsV W W.heap.size p.2 (.agg p.1.toArray) := by
          intro i hi
          have he := hel i hi
          rw [List.getElem?_eq_getElem (by omega)] at he
          obtain ⟨cs', hc1, hc2⟩ := Option.bind_eq_some_iff.1 he
          obtain ⟨_, hl5, hcell⟩ := World.cells?_some hc1
          obtain ⟨v, hv⟩ := ih n' (by omega) cs' _ hc2 (r3.elem Tryz.underlying29 (List.mem_map.2 ⟨_, List.getElem_mem _, rfl⟩))
          refine ⟨(cs', v), hl5, ⟨?_, fun j u hu => ?_⟩, hv⟩
          · have h0 := hcell 0 (by omega)
            have := World.block_lt_of_cell? W ((a.add (i * 5)).add 0) (by rw [h0, List.getElem?_eq_getElem (by omega)])
            rw [block_add, block_add] at this
            exact this
          · have hj : j < 5 := by
              have h5 : j < cs'.length := (List.getElem?_eq_some_iff.1 hu).1
              omega
            rw [hcell j hj]
            exact hu
        haveI : Inhabited (List Value × Vl) := ⟨([], .mk 0 0 ⟨#[]⟩ [] [])⟩
        obtain ⟨f, hf⟩ := Go.Deep.choose_lt hall
        refine ⟨(List.range len).map (fun i => (f i).2), some a, cap, fun i => (f i).1, by simpa using hcs, (fun e => by cases e), by simpa using hlc, ?_, ?_, ?_, ?_⟩
        · have h := r3.slice Tryz.underlying29
          rw [show Tryz.prog.bytesOf 32 = 80 by kernel_rfl] at h
          have hs := (hsp rfl).1
          unfold reachBytes at h
          simp at h
          omega
        · intro b hb i hi
          cases hb
          exact (hf i (by simpa using hi)).2.1
        · intro i hi
          exact (hf i (by simpa using hi)).1
        · intro i x hx
          have hi : i < len := by
            have := (List.getElem?_eq_some_iff.1 hx).1
            simpa using this
          rw [List.getElem?_map, List.getElem?_range hi] at hx
          simp only [Option.map_some, Option.some.injEq] at hx
          subst hx
          exact (hf i hi).2.2
    subst hc3
    subst hc4
    exact ⟨.mk k m s l ks, IsP.of ⟨bounds_i64 w0, bounds_i64 w1, r2, nl, nk, ll, lk, Nat.le_trans ll bl, Nat.le_trans lk bc, bq, hl, hv, hk, bt⟩ el⟩
end
end Go.Proofs.YtdaooapfokhfcaaGreat

namespace Go.Proofs.YtdaooapfokhfcaaGreat
open Go.ChangeShapes Go.WideShapes Go.ChangeAt Go.RowKit

theorem cells7o : Tryz.prog.cellsOf 34 = 7 := by kernel_rfl

/-- where a cell is, its address is plain -/
theorem plain_of {w : World} {a : Addr} {v : Value} (h : w.cell? a = some v) : a = ⟨a.block, a.off, none⟩ := by
  obtain ⟨b, o, s⟩ := a
  unfold World.cell? at h
  cases s with
  | none => rfl
  | some s =>
    exfalso
    revert h
    split
    · simp
    · simp

section
variable {H : Type} {enc : TypeId × Value → H} {W : World}

set_option maxRecDepth 100000 in
theorem open_op {fuel : Nat} {cs : List Value} {x : DataW H × List MemPlace} (h : DataW.trod enc Tryz.prog W 0 (fun _ => true) true fuel 34 cs = some x) (hre : Go.Proofs.YtdaooapfokhfcaaGreat.Reach Tryz.prog 34 x.1) :
    ∃ (k : Int) (s : ByteArray) (ds : List Value) (v : Vl), cs = .int .i64 k :: .string s :: ds ∧ ds.length = 5 ∧ (-9223372036854775808 ≤ k ∧ k ≤ 9223372036854775807) ∧ s.size ≤ 140737488351232 ∧ IsV W W.heap.size v (.agg ds.toArray) := by
  obtain ⟨xs, n, rfl, hx, hl, hlen, hf⟩ := DataW.trod_struct Tryz.underlying34 h
  rw [cells7o] at hl
  have hlen' : xs.length = 3 := hlen
  match cs, hl, xs, hlen', hx, hf with
  | [c0, c1, c2, c3, c4, c5, c6], _, [y0, y1, y2], _, hx, hf =>
    have h0 : DataW.trod enc Tryz.prog W 0 (fun _ => true) true n 3 (([c0, c1, c2, c3, c4, c5, c6].drop 0).take (Tryz.prog.cellsOf 3)) = some y0 := hf 0 _ rfl
    rw [cells1i] at h0
    have h1 : DataW.trod enc Tryz.prog W 0 (fun _ => true) true n 9 (([c0, c1, c2, c3, c4, c5, c6].drop 1).take (Tryz.prog.cellsOf 9)) = some y1 := hf 1 _ rfl
    rw [cells1s] at h1
    have h2 : DataW.trod enc Tryz.prog W 0 (fun _ => true) true n 32 (([c0, c1, c2, c3, c4, c5, c6].drop 2).take (Tryz.prog.cellsOf 32)) = some y2 := hf 2 _ rfl
    rw [cells5v] at h2
    have hx' : x.1 = .agg [y0.1, y1.1, y2.1] := by rw [hx]; rfl
    rw [hx'] at hre
    obtain ⟨k, e0, _, w0⟩ := DataW.trod_int Tryz.underlying3 h0
    obtain ⟨s, e1, hy1, _⟩ := DataW.trod_string Tryz.underlying9 h1
    simp only [List.drop_zero, List.drop_succ_cons, List.take_succ_cons, List.take_zero, List.cons.injEq, and_true] at e0 e1
    have r1 : s.size ≤ 140737488351232 := by
      have := hre.field (j := 1) (u := 9) (d := y1.1) Tryz.underlying34 rfl rfl
      rw [hy1] at this
      exact reach_size this
    have r2 := hre.field (j := 2) (u := 32) (d := y2.1) Tryz.underlying34 rfl rfl
    obtain ⟨v, hv⟩ := open_value n _ _ h2 r2
    exact ⟨k, s, [c2, c3, c4, c5, c6], v, by rw [e0, e1], rfl, bounds_i64 w0, r1, hv⟩

set_option maxRecDepth 100000 in
theorem open_ops {fuel : Nat} {c3 : Value} {x : DataW H × List MemPlace} (h3 : DataW.trod enc Tryz.prog W 0 (fun _ => true) true fuel 22 [c3] = some x) (r3 : Go.Proofs.YtdaooapfokhfcaaGreat.Reach Tryz.prog 22 x.1) :
    ∃ (os : List Opx) (al : Option Addr) (cl : Nat), c3 = .slice al os.length cl ∧ OpsF W W.heap.size al os.length os := by
  rcases DataW.trod_slice Tryz.underlying22 h3 with ⟨hcs, _⟩ | ⟨a, len, cap, elems, rest, n', hn', hcs, hx3, _, hlc, hcm, hlen, hel, hsp, _⟩
  · simp only [List.cons.injEq, and_true] at hcs
    exact ⟨[], none, 0, hcs, rfl, by simp, (fun i e h => by simp at h)⟩
  · simp only [List.cons.injEq, and_true] at hcs
    rw [hx3] at r3
    rw [cells7o] at hel
    have hall : ∀ i, i < len → ∃ o : Opx, ∃ b off x0 x1 x2 x3 x4 x5 x6 x7 x8, OpAt W W.heap.size (a.add (i * 7)) o b off x0 x1 x2 x3 x4 x5 x6 x7 x8 := by
      intro i hi
      have he := hel i hi
      rw [List.getElem?_eq_getElem (by omega)] at he
      obtain ⟨cs', hc1, hc2⟩ := Option.bind_eq_some_iff.1 he
      obtain ⟨_, hl6, hcell⟩ := World.cells?_some hc1
      obtain ⟨k, s, ds, v, hcs', hd5, hkb, hs, hv⟩ := open_op hc2 (r3.elem Tryz.underlying22 (List.mem_map.2 ⟨_, List.getElem_mem _, rfl⟩))
      obtain ⟨k', n', s', l', ks', al', ak', cl', ck', hy', hxx⟩ := hv.shape
      have hds : ds = [.int .i64 k', .int .i64 n', .string s', .slice al' l'.length cl', .slice ak' ks'.length ck'] := by
        have h1 := Value.agg.inj hxx
        have h2 := congrArg Array.toList h1
        simpa using h2
      subst hds
      subst hcs'
      have g0 := hcell 0 (by omega)
      have hz : (a.add (i * 7)).add 0 = a.add (i * 7) := rfl
      rw [hz] at g0
      replace g0 : W.cell? (a.add (i * 7)) = some (.int .i64 k) := g0
      have hp := plain_of g0
      have gj : ∀ j (v : Value), j < 7 → ([.int .i64 k, .string s, .int .i64 k', .int .i64 n', .string s', .slice al' l'.length cl', .slice ak' ks'.length ck'] : List Value)[j]? = some v → W.cell? ⟨(a.add (i * 7)).block, (a.add (i * 7)).off + j, none⟩ = some v := fun j v hj hv => by
        have := hcell j hj
        rw [hp] at this
        have e : (⟨(a.add (i * 7)).block, (a.add (i * 7)).off, none⟩ : Addr).add j = ⟨(a.add (i * 7)).block, (a.add (i * 7)).off + j, none⟩ := by
          have : ∀ (b o q : Nat), (⟨b, o, none⟩ : Addr).add q = ⟨b, o + q, none⟩ := fun b o q => by
            unfold Addr.add
            split
            · rename_i hq
              simp only [hq, Nat.add_zero]
            · rfl
          exact this _ _ _
        rw [e] at this
        rw [this]
        exact hv
      have g0' := gj 0 _ (by omega) rfl
      refine ⟨⟨k, s, v⟩, (a.add (i * 7)).block, (a.add (i * 7)).off, k', n', s', al', l'.length, cl', ak', ks'.length, ck', hp, World.block_lt_of_cell? _ _ (by rw [g0]), g0', gj 1 _ (by omega) rfl, gj 2 _ (by omega) rfl, gj 3 _ (by omega) rfl, gj 4 _ (by omega) rfl, gj 5 _ (by omega) rfl, gj 6 _ (by omega) rfl, hkb, hs, hv⟩
    haveI : Inhabited Opx := ⟨⟨0, ⟨#[]⟩, .mk 0 0 ⟨#[]⟩ [] []⟩⟩
    obtain ⟨f, hf⟩ := Go.Deep.choose_lt hall
    have hl : ((List.range len).map f).length = len := by simp
    have hb := r3.slice Tryz.underlying22
    rw [show Tryz.prog.bytesOf 34 = 104 by kernel_rfl] at hb
    have hs := (hsp rfl).1
    unfold reachBytes at hb
    simp at hb
    refine ⟨(List.range len).map f, some a, cap, by rw [hl]; exact hcs, rfl, by rw [hl]; omega, fun i o ho => ?_⟩
    have hi : i < len := by
      have := (List.getElem?_eq_some_iff.1 ho).1
      simpa using this
    rw [List.getElem?_map, List.getElem?_range hi] at ho
    simp only [Option.map_some, Option.some.injEq] at ho
    subst ho
    obtain ⟨b, off, x0, x1, x2, x3, x4, x5, x6, x7, x8, q⟩ := hf i hi
    exact ⟨a, b, off, x0, x1, x2, x3, x4, x5, x6, x7, x8, rfl, q⟩
end
end Go.Proofs.YtdaooapfokhfcaaGreat

namespace Go.Proofs.YtdaooapfokhfcaaGreat
open Go.RowKit Go.ChangeShapes Go.WideShapes
set_option linter.unusedVariables false
set_option linter.unusedSimpArgs false

/-- how many Ops there may be -/
theorem ops_few {H : Type} {enc : TypeId × Value → H} {W : World} {fuel n cl : Nat} {al : Option Addr} {x : DataW H × List MemPlace} (h3 : DataW.trod enc Tryz.prog W 0 (fun _ => true) true fuel 22 [.slice al n cl] = some x) (r3 : Go.Proofs.YtdaooapfokhfcaaGreat.Reach Tryz.prog 22 x.1) : n ≤ 1353245080315 := by
  rcases DataW.trod_slice Tryz.underlying22 h3 with ⟨hcs, _⟩ | ⟨a, len, cap, elems, rest, n', hn', hcs, hx3, _, hlc, hcm, hlen, hel, hsp, _⟩
  · simp only [List.cons.injEq, and_true] at hcs
    cases hcs
    omega
  · simp only [List.cons.injEq, and_true] at hcs
    cases hcs
    rw [hx3] at r3
    have hb := r3.slice Tryz.underlying22
    rw [show Tryz.prog.bytesOf 34 = 104 by kernel_rfl] at hb
    have hs := (hsp rfl).1
    unfold reachBytes at hb
    simp at hb
    omega

theorem duo_new {w w1 w2 : World} {s : Nat} {X Y : Xs} {Bs Cs : List Xs} {N : Nat} {t2 : Rx} (L1 : Live w w1 s X Bs) (h2 : Rtt w2 (fun _ => False) t2 Y Cs N) (ho : ∀ j, t2.own j → w1.heap.size ≤ j) (b2 : Below w1.heap.size w1 w2) : Duo w2 (fun j => j < w.heap.size) w2 s X Bs t2.r Y Cs N := by
  obtain ⟨V, t, h1, hs, h3, h4⟩ := L1
  have z1 := h4.size
  have z2 := b2.size
  refine ⟨V, t, _, t2, h1, rfl, hs.later b2, h2, fun j hj => ⟨fun e => ?_, fun e => e⟩, fun j hj e => ?_, fun j hj => ⟨by omega, fun e => ?_, fun e => ?_, fun e => ?_, fun e => e⟩, Fr.refl _ _⟩
  · have := hs.sto.lt hj
    have := ho j e
    omega
  · have := ho j hj
    have := (hs.sto.vs j e).1
    omega
  · have := h3 j (.inl e)
    omega
  · have := h3 j (.inr e)
    omega
  · have := ho j e
    omega

theorem Duo.below {wk w : World} {s r n : Nat} {X Y : Xs} {Bs Cs : List Xs} {N : Nat} (h : Duo wk (fun j => j < n) w s X Bs r Y Cs N) (hn : n ≤ wk.heap.size) : Below n wk w := h.fr.below hn (fun j hj => Nat.le_of_not_lt hj)

theorem bad_right : rightB (.mk 1 2 ⟨#[]⟩ [] []) = false := by first | decide | rfl | kernel_rfl

set_option maxRecDepth 100000 in
set_option maxHeartbeats 3200000 in
theorem runs_any (os : List Opx) (ao : Option Addr) (n cap : Nat) (w : World) (ho : OpsF w w.heap.size ao n os) (hnb : n ≤ 1353245080315) :
    Calls Tryz.prog 3 #[.slice ao n cap] w fun e w' => e = .returned (.bool true) ∧ Below w.heap.size w w' := by
  have CN := hide (live_new (w0 := w) (Below.refl _ w))
  have HO : Hid (∀ u, Below w.heap.size w u → OpsF u w.heap.size ao n os) := hide (fun u hu => ho.later hu)
  have HN := hide ho.length
  clear ho
  go_enter Tryz.func3, Tryz.ntmps3
  go_wp2_with fail
  refine (unhide CN).mono ?_
  rintro e w1 ⟨s, rfl, L1, b1⟩
  have H1 := hide L1
  have CN2 := hide (rnew_any w1)
  clear L1 b1 CN
  go_wp2_with fail
  refine (unhide CN2).mono ?_
  rintro e w2 ⟨t2, rfl, R2, o2, b2⟩
  have T2 := hide (duo_new (unhide H1) R2 o2 b2)
  have HB2 : Hid (Below w.heap.size w w2) := hide ((unhide H1).below.trans (b2.mono (unhide H1).below.size))
  obtain ⟨r, hr⟩ : ∃ r, t2.r = r := ⟨_, rfl⟩
  rw [hr] at T2 ⊢
  have CX := hide (nothing_any w2)
  clear R2 o2 b2 CN2 H1 hr
  go_wp2_with fail
  refine (unhide CX).mono ?_
  rintro e w3 ⟨rfl, b3⟩
  have H3 := hide ((unhide T2).later b3)
  clear b3 CX T2
  go_wp2_with fail
  go_loopw [6] (fun x wr => ∃ (i : Nat) (X : Xs) (Bs : List Xs), x = .int .i64 (i : Int) ∧ i ≤ n ∧ Hid (Duo w2 (fun j => j < w.heap.size) wr s X Bs r X Bs i)) (fun x _ => n - (intOf x).toNat)
  case atStart => exact ⟨0, _, _, rfl, Nat.zero_le _, H3⟩
  case round =>
    obtain ⟨i, X, Bs, rfl, hi, HT⟩ := hrel
    clear H3
    have HW : Hid (Below w.heap.size w wr) := hide ((unhide HB2).trans ((unhide HT).below (unhide HB2).size))
    by_cases hlt : i < n
    · have i1 : (i : Int) < (n : Int) := by omega
      obtain ⟨q, hq⟩ : ∃ q, os[i]? = some q := ⟨_, List.getElem?_eq_getElem (by have := unhide HN; omega)⟩
      obtain ⟨a, b, off, x0, x1, x2, x3, x4, x5, x6, x7, x8, rfl, p⟩ := (unhide HO wr (unhide HW)).cell i q hq
      have CD := hide (held_any (unhide HT) (by omega) q.kd q.key q.v x0 x1 x2 x3 x4 x5 x6 x7 x8 p.bk p.is (fun j h => h))
      have e0 := p.at'
      obtain ⟨kd, key, qv⟩ := q
      have e1 := p.k
      have e2 := p.s
      have e3 := p.c0
      have e4 := p.c1
      have e5 := p.c2
      have e6 := p.c3
      have e7 := p.c4
      dsimp only at CD e1 e2
      clear p hq
      go_wp2_with fail
      refine (unhide CD).mono ?_
      rintro e w5 ⟨rfl, X', Bs', T5⟩
      have H5 := hide T5
      clear T5 CD e0 e1 e2 e3 e4 e5 e6 e7
      have HI1 : Hid (i + 1 ≤ n) := hide (by omega)
      go_wp2_with fail
      go_roundw
      case rel => exact ⟨i + 1, X', Bs', by go_num, unhide HI1, H5⟩
      case measure => have := unhide HI1; simp [intOf]; omega
    · have i1 : ¬ (i : Int) < (n : Int) := by omega
      clear HW
      go_wp2_with fail
      go_loopw [8] (fun x wr => ∃ (k : Nat) (X : Xs) (Bs : List Xs), x = .int .i64 (k : Int) ∧ 7 ≤ k ∧ k ≤ 9 ∧ Hid (Duo w2 (fun j => j < w.heap.size) wr s X Bs r X Bs (n + (k - 7)))) (fun x _ => 9 - (intOf x).toNat)
      case atStart => exact ⟨7, X, Bs, rfl, by omega, by omega, hide (by
        have e : n + (7 - 7) = i := by omega
        rw [e]
        exact unhide HT)⟩
      case round =>
        clear HT
        obtain ⟨k, X2, Bs2, rfl, hk7, hk9, HT⟩ := hrel
        by_cases hlt2 : k < 9
        · have j1 : (k : Int) < 9 := by omega
          have CD := hide (held_any (P := fun _ => False) (unhide HT) (by omega) (k : Int) ⟨#[]⟩ vz 0 0 ⟨#[]⟩ none 0 0 none 0 0 ⟨by omega, by omega⟩ (isP_flat wr _ 0 0 ⟨#[]⟩ (by omega) (by omega) (by decide)) (fun j h => h.elim))
          have HK : Hid (7 ≤ k + 1 ∧ k + 1 ≤ 9 ∧ n + (k + 1 - 7) = n + (k - 7) + 1) := hide ⟨by omega, by omega, by omega⟩
          go_wp2_with fail
          refine (unhide CD).mono ?_
          rintro e w5 ⟨rfl, X', Bs', T5⟩
          have H5 := hide T5
          clear T5 CD
          go_wp2_with fail
          go_roundw
          case rel => exact ⟨k + 1, X', Bs', by go_num, (unhide HK).1, (unhide HK).2.1, hide (by rw [(unhide HK).2.2]; exact unhide H5)⟩
          case measure => have := (unhide HK).2.1; simp [intOf]; omega
        · have j1 : ¬ (k : Int) < 9 := by omega
          have CP := duo_put (P := fun _ => False) (unhide HT) ⟨#[97]⟩ (.mk 1 2 ⟨#[]⟩ [] []) _ (isP_flat wr _ 1 2 ⟨#[]⟩ (by omega) (by omega) (by decide)) (fun j h => h.elim)
          have hE : putE X2 ⟨#[97]⟩ (.mk 1 2 ⟨#[]⟩ [] []) = 61 := by
            unfold putE
            rw [if_pos (by decide), bad_right]
            rfl
          rw [hE] at CP
          have CPH := hide CP
          clear CP hE
          go_wp2_with fail
          refine (unhide CPH).mono ?_
          rintro e w6 ⟨rfl, d6⟩
          have H6 : Hid (Below w.heap.size w w6) := hide ((unhide HB2).trans (d6.below (unhide HB2).size))
          clear d6 CPH
          go_wp2_with fail
          go_ret
          exact ⟨rfl, unhide H6⟩
end Go.Proofs.YtdaooapfokhfcaaGreat
