/-
  What Do answers is right, or it is nothing and a trap of the list (prim); conditions: the package's variables, those of hash.
-/
import Derived.Test.YtgkmdjmigehmeaaGreatDoorR50
namespace Go.Proofs.YtgkmdjmigehmeaaGreatDoor
set_option linter.unusedVariables false
set_option linter.unusedSimpArgs false
set_option maxRecDepth 100000
set_option maxHeartbeats 16000000
open Go.RowKit Go.Shelf
theorem keysW_erase : ∀ (ks : List ByteArray) (i : Nat), keysW (ks.eraseIdx i) ≤ keysW ks
 | [], i => by simp
 | t :: r, 0 => by simp only [List.eraseIdx_cons_zero, keysW]; omega
 | t :: r, i + 1 => by
  have := keysW_erase r i
  simp only [List.eraseIdx_cons_succ, keysW]; omega
theorem wtL_erase : ∀ (l : List Vl) (i : Nat), wtL (l.eraseIdx i) ≤ wtL l
 | [], i => by simp
 | t :: r, 0 => by rw [List.eraseIdx_cons_zero, wtL_cons]; omega
 | t :: r, i + 1 => by
  have := wtL_erase r i
  rw [List.eraseIdx_cons_succ, wtL_cons, wtL_cons]; omega
theorem okL_erase : ∀ (b : Nat) (l : List Vl) (i : Nat), okL b l = true → okL b (l.eraseIdx i) = true
 | b, [], i, h => by simpa using h
 | b, t :: r, 0, h => by
  rw [okL_cons, Bool.and_eq_true] at h
  rw [List.eraseIdx_cons_zero]; exact h.2
 | b, t :: r, i + 1, h => by
  rw [okL_cons, Bool.and_eq_true] at h
  rw [List.eraseIdx_cons_succ, okL_cons, Bool.and_eq_true]
  exact ⟨h.1, okL_erase b r i h.2⟩
theorem right_erase {n : Int} {s : ByteArray} {l : List Vl} {ks : List ByteArray} (h : rightB (.mk 5 n s l ks) = true) (i : Nat) : rightB (.mk 5 0 ⟨#[]⟩ (l.eraseIdx i) (ks.eraseIdx i)) = true := by
 obtain ⟨h1, h2⟩ := right_wt h
 simp only [okB, Bool.and_eq_true] at h1
 obtain ⟨hf, hl⟩ := h1
 unfold formB formM at hf
 simp only [Int.reduceEq, if_false, if_true, Bool.and_eq_true, decide_eq_true_eq] at hf
 obtain ⟨⟨_, hm⟩, hr⟩ := hf
 have hr2 : risingFrom none (ks.eraseIdx i) = true := by
  rw [rising_iff] at hr ⊢
  exact ⟨fun t ht => hr.1 t ((List.eraseIdx_sublist ks i).subset ht), hr.2.1.sublist (List.eraseIdx_sublist ks i), fun q hq => by cases hq⟩
 have hlen : (ks.eraseIdx i).length = (l.eraseIdx i).length := by rw [List.length_eraseIdx, List.length_eraseIdx, hm]
 have h3 := keysW_erase ks i
 have h4 := wtL_erase l i
 unfold rightB
 rw [Bool.and_eq_true, decide_eq_true_eq]
 constructor
 ·simp only [okB, Bool.and_eq_true]
  refine ⟨?_, okL_erase _ _ _ hl⟩
  unfold formB formM
  simp only [Int.reduceEq, if_false, if_true, Bool.and_eq_true, decide_eq_true_eq]
  exact ⟨⟨⟨trivial, by simp⟩, hlen⟩, hr2⟩
 ·simp only [wt] at h2 ⊢
  have e0 : (⟨#[]⟩ : ByteArray).size = 0 := rfl
  rw [e0]
  omega
theorem right_tv (b : Bool) : rightB (tv b) = true := by
 have hs : (⟨#[]⟩ : ByteArray).size = 0 := rfl
 cases b <;> simp [rightB, tv, tN, okB, okL, formB, formM, wt, wtL, dep, depL, risingFrom, keysW, hs]
theorem right_tx {s : ByteArray} (h : s.size ≤ 2047) : rightB (.mk 3 0 s [] []) = true := by
 simp [rightB, okB, okL, formB, formM, wt, wtL, dep, depL, risingFrom, keysW]
 omega
def OkR (r : Vl × Int) : Prop := (r.2 = 0 ∧ rightB r.1 = true) ∨ (r.1 = vlz ∧ (r.2 = 1 ∨ r.2 = 2 ∨ r.2 = 3 ∨ r.2 = 5 ∨ r.2 = 6 ∨ r.2 = 8))
theorem OkR.val {v : Vl} (h : rightB v = true) : OkR (v, 0) := Or.inl ⟨rfl, h⟩
theorem ok_sz (v : Vl) : OkR (szV v) := by
 unfold szV
 split
 ·next h => exact OkR.val h
 ·exact Or.inr ⟨rfl, by simp⟩
theorem ok_told {v : Vl} {e : Int} (h : e = 0 → rightB v = true) : OkR (toldV v e) := by
 unfold toldV
 split
 ·next h1 => exact OkR.val (h h1)
 ·split
  ·exact Or.inr ⟨rfl, by simp⟩
  ·exact Or.inr ⟨rfl, by simp⟩
theorem ok_trap {t : Int} (h : t = 1 ∨ t = 2 ∨ t = 3 ∨ t = 5 ∨ t = 6 ∨ t = 8) : OkR (vlz, t) := Or.inr ⟨rfl, h⟩
theorem ok_add (x y : Vl) : OkR (addV x y) := by
 unfold addV
 split
 ·exact OkR.val (right_nm _)
 ·split <;> exact ok_sz _
theorem ok_div (p q : Int) : OkR (divV p q) := by
 unfold divV
 split
 ·exact ok_trap (by simp)
 ·exact OkR.val (right_nm _)
theorem ok_rem (p q : Int) : OkR (remV p q) := by
 unfold remV
 split
 ·exact ok_trap (by simp)
 ·exact OkR.val (right_nm _)
theorem ok_index {x : Vl} (hx : rightB x = true) (i : Int) : OkR (indexV x i) := by
 unfold indexV
 split
 ·split
  ·exact OkR.val (right_nm _)
  ·cases he : x.l[i.toNat]? with
   | none => exact OkR.val right_z
   | some e => exact OkR.val (right_el hx e (List.mem_of_getElem? he))
 ·exact ok_trap (by simp)
theorem ok_get {x : Vl} {k : ByteArray} {e : Vl} (h : getR x k = some e) : rightB e = true := by
 obtain ⟨kd, n, s, l, ks⟩ := x
 simp only [getR] at h
 split at h
 ·next hc =>
  cases hp : placeK ks k with
  | none => rw [hp] at h; cases h
  | some i =>
   rw [hp] at h
   exact right_el hc.1 e (List.mem_of_getElem? h)
 ·cases h
theorem ok_field (ex x : Vl) : OkR (fieldV ex x) := by
 unfold fieldV
 split
 ·split
  ·next h =>
   cases hg : getR x ex.s with
   | none => rw [hg] at h; cases h
   | some e => exact OkR.val (ok_get hg)
  ·exact ok_trap (by simp)
 ·exact ok_trap (by simp)
theorem ok_change (x : Vl) (i : Int) (z : Vl) : OkR (changeV x i z) := by
 unfold changeV
 split
 ·exact ok_sz _
 ·exact ok_trap (by simp)
theorem ok_slice (x : Vl) (i j : Int) : OkR (sliceV x i j) := by
 unfold sliceV
 split
 ·exact ok_trap (by simp)
 ·split <;> exact ok_sz _
theorem ok_with (x : Vl) (k : ByteArray) (z : Vl) : OkR (toldV (wiV x k z) (withE x k z)) := by
 refine ok_told fun h => ?_
 unfold wiV
 rw [if_pos h]
 unfold withE at h
 split at h
 ·split at h
  ·next h2 => exact h2
  ·cases h
 ·next h1 => exact absurd h h1
theorem ok_without (x : Vl) (k : ByteArray) : OkR (toldV (woV x k) (withoutC x k)) := by
 refine ok_told fun h => ?_
 unfold woV
 rw [if_pos h]
 unfold withoutC at h
 split at h
 ·next h1 =>
  split at h
  ·next h5 =>
   cases hp : placeK x.ks k with
   | none => exact right_z
   | some i =>
    obtain ⟨kd, n, s, l, ks⟩ := x
    obtain rfl : kd = 5 := h5
    exact right_erase h1 i
  ·cases h
 ·cases h
theorem ok_record (ex : Vl) (vs : List Vl) : OkR (recordV ex vs) := by
 unfold recordV
 split
 ·split
  ·exact ok_trap (by simp)
  ·refine ok_told fun h => ?_
   unfold rcV
   rw [if_pos h]
   unfold docC at h
   split at h
   ·cases h
   ·split at h
    ·split at h
     ·split at h
      ·next h2 => exact h2
      ·cases h
     ·cases h
    ·cases h
 ·exact ok_trap (by simp)
theorem ok_dig (kt : List Int) (x : Vl) : OkR (digV kt x) := by
 refine OkR.val (right_tx ?_)
 rw [strOfNums_sizeH, digM_len]
 omega
theorem ok_do {op k0 k1 k2 : Int} {alk : Bool} {ex : Vl} {vs : List Vl} {r : Vl × Int} (h : mayB op ex vs = true → OkR r) : OkR (doR op k0 k1 k2 alk ex vs r) ∧ ((doR op k0 k1 k2 alk ex vs r).2 = 0 → 10 ≤ op ∧ op ≤ 37) := by
 unfold doR
 split
 ·next hc =>
  rw [Bool.and_eq_true] at hc
  exact ⟨h hc.1, fun _ => (may_right hc.1).1⟩
 ·exact ⟨ok_trap (by simp), fun h => by cases h⟩
theorem may_first {op : Int} {ex : Vl} {vs : List Vl} (h : mayB op ex vs = true) : rightB (vs.getD 0 vlz) = true := by
 have hr := (may_right h).2.2.2
 cases vs with
 | nil => exact right_z
 | cons v r => exact hr v (by simp)
theorem do_right (op : Int) (ex : Vl) (e0 e1 : Int) (e2 : ByteArray) (e3 : Option Addr) (e4 e5 : Nat) (e6 : Option Addr) (e7 e8 : Nat) (vs : List Vl) (al : Option Addr) (n cl B : Nat) (w : World) (ht : Tab w) (hx : IsV w B ex (.agg #[.int .i64 e0, .int .i64 e1, .string e2, .slice e3 e4 e5, .slice e6 e7 e8])) (h : ArV w B vs al n cl) (hBs : B ≤ w.heap.size) (kt : List Int) (hpk : Pk w kt) :
  Calls Tryz.prog 12 #[.int .i64 op, .agg #[.int .i64 e0, .int .i64 e1, .string e2, .slice e3 e4 e5, .slice e6 e7 e8], .slice al n cl] w fun e w' => ∃ r, (OkR r ∧ (r.2 = 0 → 10 ≤ op ∧ op ≤ 37)) ∧ OpPost w r e w' := by
 by_cases hop : 10 ≤ op ∧ op ≤ 37
 ·rcases (show op = 10 ∨ op = 11 ∨ op = 12 ∨ op = 13 ∨ op = 14 ∨ op = 15 ∨ op = 16 ∨ op = 17 ∨ op = 18 ∨ op = 19 ∨ op = 20 ∨ op = 21 ∨ op = 22 ∨ op = 23 ∨ op = 24 ∨ op = 25 ∨ op = 26 ∨ op = 27 ∨ op = 28 ∨ op = 29 ∨ op = 30 ∨ op = 31 ∨ op = 32 ∨ op = 33 ∨ op = 34 ∨ op = 35 ∨ op = 36 ∨ op = 37 by omega) with rfl | rfl | rfl | rfl | rfl | rfl | rfl | rfl | rfl | rfl | rfl | rfl | rfl | rfl | rfl | rfl | rfl | rfl | rfl | rfl | rfl | rfl | rfl | rfl | rfl | rfl | rfl | rfl
  ·exact (on_add w ht ex e0 e1 e2 e3 e4 e5 e6 e7 e8 vs al n cl B hx h hBs).mono fun e w' h9 => ⟨_, ok_do (fun hm => ok_add _ _), h9⟩
  ·exact (on_sub w ht ex e0 e1 e2 e3 e4 e5 e6 e7 e8 vs al n cl B hx h hBs).mono fun e w' h9 => ⟨_, ok_do (fun hm => OkR.val (right_nm _)), h9⟩
  ·exact (on_mul w ht ex e0 e1 e2 e3 e4 e5 e6 e7 e8 vs al n cl B hx h hBs).mono fun e w' h9 => ⟨_, ok_do (fun hm => OkR.val (right_nm _)), h9⟩
  ·exact (on_div w ht ex e0 e1 e2 e3 e4 e5 e6 e7 e8 vs al n cl B hx h hBs).mono fun e w' h9 => ⟨_, ok_do (fun hm => ok_div _ _), h9⟩
  ·exact (on_rem w ht ex e0 e1 e2 e3 e4 e5 e6 e7 e8 vs al n cl B hx h hBs).mono fun e w' h9 => ⟨_, ok_do (fun hm => ok_rem _ _), h9⟩
  ·exact (on_neg w ht ex e0 e1 e2 e3 e4 e5 e6 e7 e8 vs al n cl B hx h hBs).mono fun e w' h9 => ⟨_, ok_do (fun hm => OkR.val (right_nm _)), h9⟩
  ·exact (on_not w ht ex e0 e1 e2 e3 e4 e5 e6 e7 e8 vs al n cl B hx h hBs).mono fun e w' h9 => ⟨_, ok_do (fun hm => OkR.val (right_tv _)), h9⟩
  ·exact (on_eq w ht ex e0 e1 e2 e3 e4 e5 e6 e7 e8 vs al n cl B hx h hBs).mono fun e w' h9 => ⟨_, ok_do (fun hm => OkR.val (right_tv _)), h9⟩
  ·exact (on_ne w ht ex e0 e1 e2 e3 e4 e5 e6 e7 e8 vs al n cl B hx h hBs).mono fun e w' h9 => ⟨_, ok_do (fun hm => OkR.val (right_tv _)), h9⟩
  ·exact (on_lt w ht ex e0 e1 e2 e3 e4 e5 e6 e7 e8 vs al n cl B hx h hBs).mono fun e w' h9 => ⟨_, ok_do (fun hm => OkR.val (right_tv _)), h9⟩
  ·exact (on_le w ht ex e0 e1 e2 e3 e4 e5 e6 e7 e8 vs al n cl B hx h hBs).mono fun e w' h9 => ⟨_, ok_do (fun hm => OkR.val (right_tv _)), h9⟩
  ·exact (on_gt w ht ex e0 e1 e2 e3 e4 e5 e6 e7 e8 vs al n cl B hx h hBs).mono fun e w' h9 => ⟨_, ok_do (fun hm => OkR.val (right_tv _)), h9⟩
  ·exact (on_ge w ht ex e0 e1 e2 e3 e4 e5 e6 e7 e8 vs al n cl B hx h hBs).mono fun e w' h9 => ⟨_, ok_do (fun hm => OkR.val (right_tv _)), h9⟩
  ·exact (on_array w ht ex e0 e1 e2 e3 e4 e5 e6 e7 e8 vs al n cl B hx h hBs).mono fun e w' h9 => ⟨_, ok_do (fun hm => ok_sz _), h9⟩
  ·exact (on_record w ht ex e0 e1 e2 e3 e4 e5 e6 e7 e8 vs al n cl B hx h hBs).mono fun e w' h9 => ⟨_, ok_do (fun hm => ok_record _ _), h9⟩
  ·exact (on_index w ht ex e0 e1 e2 e3 e4 e5 e6 e7 e8 vs al n cl B hx h hBs).mono fun e w' h9 => ⟨_, ok_do (fun hm => ok_index (may_first hm) _), h9⟩
  ·exact (on_field w ht ex e0 e1 e2 e3 e4 e5 e6 e7 e8 vs al n cl B hx h hBs).mono fun e w' h9 => ⟨_, ok_do (fun hm => ok_field _ _), h9⟩
  ·exact (on_length w ht ex e0 e1 e2 e3 e4 e5 e6 e7 e8 vs al n cl B hx h hBs).mono fun e w' h9 => ⟨_, ok_do (fun hm => OkR.val (right_nm _)), h9⟩
  ·exact (on_push w ht ex e0 e1 e2 e3 e4 e5 e6 e7 e8 vs al n cl B hx h hBs).mono fun e w' h9 => ⟨_, ok_do (fun hm => ok_sz _), h9⟩
  ·exact (on_change w ht ex e0 e1 e2 e3 e4 e5 e6 e7 e8 vs al n cl B hx h hBs).mono fun e w' h9 => ⟨_, ok_do (fun hm => ok_change _ _ _), h9⟩
  ·exact (on_slice w ht ex e0 e1 e2 e3 e4 e5 e6 e7 e8 vs al n cl B hx h hBs).mono fun e w' h9 => ⟨_, ok_do (fun hm => ok_slice _ _ _), h9⟩
  ·exact (on_with w ht ex e0 e1 e2 e3 e4 e5 e6 e7 e8 vs al n cl B hx h hBs).mono fun e w' h9 => ⟨_, ok_do (fun hm => ok_with _ _ _), h9⟩
  ·exact (on_without w ht ex e0 e1 e2 e3 e4 e5 e6 e7 e8 vs al n cl B hx h hBs).mono fun e w' h9 => ⟨_, ok_do (fun hm => ok_without _ _), h9⟩
  ·exact (on_keys w ht ex e0 e1 e2 e3 e4 e5 e6 e7 e8 vs al n cl B hx h hBs).mono fun e w' h9 => ⟨_, ok_do (fun hm => ok_sz _), h9⟩
  ·exact (on_has w ht ex e0 e1 e2 e3 e4 e5 e6 e7 e8 vs al n cl B hx h hBs).mono fun e w' h9 => ⟨_, ok_do (fun hm => OkR.val (right_tv _)), h9⟩
  ·exact (on_kind w ht ex e0 e1 e2 e3 e4 e5 e6 e7 e8 vs al n cl B hx h hBs).mono fun e w' h9 => ⟨_, ok_do (fun hm => OkR.val (right_nm _)), h9⟩
  ·exact (on_digest w ht kt hpk ex e0 e1 e2 e3 e4 e5 e6 e7 e8 vs al n cl B hx h hBs).mono fun e w' h9 => ⟨_, ok_do (fun hm => ok_dig _ _), h9⟩
  ·exact (on_abort w ht ex e0 e1 e2 e3 e4 e5 e6 e7 e8 vs al n cl B hx h hBs).mono fun e w' h9 => ⟨_, ok_do (fun hm => ok_trap (by simp)), h9⟩
 ·have hm : mayB op ex vs = false := by
   unfold mayB
   rw [decide_eq_false hop]
   rfl
  exact (do_bad op ex e0 e1 e2 e3 e4 e5 e6 e7 e8 vs al n cl B w ht hx h hBs hm).mono fun e w' h9 => ⟨(vlz, 3), ⟨ok_trap (by simp), fun h => by cases h⟩, op_bad h9⟩
end Go.Proofs.YtgkmdjmigehmeaaGreatDoor
