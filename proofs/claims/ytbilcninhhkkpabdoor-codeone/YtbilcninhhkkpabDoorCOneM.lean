/-
  What is read as instructions is written as the same bytes (layer 8): as functions; no conditions.
-/
import Derived.Test.YtbilcninhhkkpabDoorCBackM
namespace Go.Proofs.YtbilcninhhkkpabDoor
open Go.RowKit

theorem byt_drop (zs : List Int) (p j : Nat) (h : p + j < zs.length) : (zs.drop p)[j]? = some (byt zs (p + j)) := by
  unfold byt
  rw [List.getElem?_drop, List.getD_eq_getElem?_getD, List.getElem?_eq_getElem h]
  rfl

theorem byt_small {zs : List Int} (hz : ∀ c ∈ zs, 0 ≤ c ∧ c ≤ 255) (j : Nat) (h : j < zs.length) : 0 ≤ byt zs j ∧ byt zs j ≤ 255 := by
  unfold byt
  exact hz _ (by rw [List.getD_eq_getElem?_getD, List.getElem?_eq_getElem h]; exact List.getElem_mem _)

/-- the bytes of an instruction that is read -/
theorem take_back (zs : List Int) (hz : ∀ c ∈ zs, 0 ≤ c ∧ c ≤ 255) (p S : Nat) (c : Int) (hc : byt zs p = c) (hS : siz (srt c) = S) (hl : p + 1 + S ≤ zs.length) (hS2 : S ≤ 2) : insB c (valB zs p S) = (zs.drop p).take (1 + S) := by
  have e0 := byt_drop zs p 0 (by omega)
  rw [Nat.add_zero, hc] at e0
  unfold insB
  rw [hS]
  apply List.ext_getElem?
  intro j
  match S, hS2 with
  | 0, _ =>
    match j with
    | 0 => rw [List.getElem?_take_of_lt (by omega), e0]; rfl
    | j + 1 => rw [List.getElem?_eq_none (by simp [tailB]), List.getElem?_eq_none (by simp; omega)]
  | 1, _ =>
    have e1 := byt_drop zs p 1 (by omega)
    have s1 := byt_small hz (p + 1) (by omega)
    match j with
    | 0 => rw [List.getElem?_take_of_lt (by omega), e0]; rfl
    | 1 =>
      rw [List.getElem?_take_of_lt (by omega), e1]
      show some (byt zs (p + 1) % 256) = _
      congr 1
      omega
    | j + 2 => rw [List.getElem?_eq_none (by simp [tailB]), List.getElem?_eq_none (by simp; omega)]
  | 2, _ =>
    have e1 := byt_drop zs p 1 (by omega)
    have e2 := byt_drop zs p 2 (by omega)
    have s1 := byt_small hz (p + 1) (by omega)
    have s2 := byt_small hz (p + 2) (by omega)
    match j with
    | 0 => rw [List.getElem?_take_of_lt (by omega), e0]; rfl
    | 1 =>
      rw [List.getElem?_take_of_lt (by omega), e1]
      show some ((byt zs (p + 1) * 256 + byt zs (p + 2)) / 256) = _
      congr 1
      omega
    | 2 =>
      rw [List.getElem?_take_of_lt (by omega), e2]
      show some ((byt zs (p + 1) * 256 + byt zs (p + 2)) % 256) = _
      congr 1
      omega
    | j + 3 => rw [List.getElem?_eq_none (by simp [tailB]), List.getElem?_eq_none (by simp; omega)]

theorem lst_back (zs : List Int) (hz : ∀ c ∈ zs, 0 ≤ c ∧ c ≤ 255) : ∀ (f p : Nat), p ≤ zs.length → zs.length ≤ p + f →
    ((lst zs f p).2.2.2 = 0 → (lst zs f p).2.2.1 = 0 ∧ bytesF (lst zs f p).1 = 0 ∧ bytesL (lst zs f p).1 = zs.drop p ∧ (lst zs f p).2.1.length = (lst zs f p).1.length) ∧
    (¬ (lst zs f p).2.2.2 = 0 → (lst zs f p).1 = [] ∧ (lst zs f p).2.1 = [] ∧ ∃ (q : Nat) (m : List Ins), (lst zs f p).2.2.1 = (q : Int) ∧ p ≤ q ∧ q < zs.length ∧ (takeI zs (q : Int)).2.2.2 = (lst zs f p).2.2.2 ∧ bytesF m = 0 ∧ bytesL m = (zs.drop p).take (q - p)) := by
  intro f
  induction f with
  | zero =>
    intro p h1 h2
    have : p = zs.length := by omega
    subst this
    exact ⟨fun _ => ⟨rfl, rfl, by simp [lst, bytesL], rfl⟩, fun h => absurd rfl h⟩
  | succ f ih =>
    intro p h1 h2
    by_cases hp : zs.length ≤ p
    · have hd : lst zs (f + 1) p = ([], [], 0, 0) := by unfold lst; rw [if_pos hp]
      have : p = zs.length := by omega
      subst this
      rw [hd]
      exact ⟨fun _ => ⟨rfl, rfl, by simp [bytesL], rfl⟩, fun h => absurd rfl h⟩
    · by_cases ht : (takeI zs (p : Int)).2.2.2 = 0
      · obtain ⟨g1, g2, g3, g4, g5, g6⟩ := take_good zs p ht
        obtain ⟨c, hc⟩ : ∃ c, byt zs p = c := ⟨_, rfl⟩
        rw [hc] at g2 g3 g4 g5 g6
        have hfo := fault_ok g4
        have hS2 := (opd_at (srt c) (srt_is c hfo.1).2).2.1
        obtain ⟨S, hS⟩ : ∃ S, siz (srt c) = S := ⟨_, rfl⟩
        rw [hS] at g3 g4 g5 g6 hS2
        have hb := take_back zs hz p S c hc hS g6 hS2
        obtain ⟨q, hq⟩ : ∃ q, p + 1 + S = q := ⟨_, rfl⟩
        have hd : lst zs (f + 1) p = glue [(c, valB zs p S)] [(p : Int)] (lst zs f q) := by
          conv => lhs; unfold lst
          rw [if_neg hp, if_pos ht, g2, g3, g5, show ((p : Int) + 1 + (S : Int)).toNat = q by omega]
        have hsplit : zs.drop p = insB c (valB zs p S) ++ zs.drop q := by
          rw [hb, show q = p + (1 + S) by omega, ← List.drop_drop, List.take_append_drop]
        have hlen : (insB c (valB zs p S)).length = q - p := by
          rw [hb, List.length_take, List.length_drop]
          omega
        obtain ⟨i1, i2⟩ := ih q (by omega) (by omega)
        rw [hd]
        generalize lst zs f q = r at *
        by_cases hr : r.2.2.2 = 0
        · obtain ⟨j1, j2, j3, j4⟩ := i1 hr
          have hgl : glue [(c, valB zs p S)] [(p : Int)] r = ([(c, valB zs p S)] ++ r.1, [(p : Int)] ++ r.2.1, 0, 0) := by unfold glue; rw [if_pos hr]
          rw [hgl]
          refine ⟨fun _ => ⟨rfl, ?_, ?_, by simp [j4]⟩, fun h => absurd rfl h⟩
          · show bytesF ((c, valB zs p S) :: r.1) = 0
            simp only [bytesF]
            rw [if_pos g4]
            exact j2
          · show bytesL ([(c, valB zs p S)] ++ r.1) = _
            rw [bytesL_app, bytesL_one, j3]
            exact hsplit.symm
        · obtain ⟨k1, k2, y, m, k3, k4, k5, k6, k7, k8⟩ := i2 hr
          clear i1 i2 ih
          have a1 : p ≤ y := by omega
          have a2 : q - p ≤ y - p := by omega
          have a3 : y - p - (q - p) = y - q := by omega
          have hgl : glue [(c, valB zs p S)] [(p : Int)] r = ([], [], r.2.2.1, r.2.2.2) := by unfold glue; rw [if_neg hr]
          rw [hgl]
          refine ⟨fun h => absurd h hr, fun _ => ⟨rfl, rfl, y, (c, valB zs p S) :: m, k3, a1, k5, k6, ?_, ?_⟩⟩
          · simp only [bytesF]
            rw [if_pos g4]
            exact k7
          · have e : bytesL ((c, valB zs p S) :: m) = insB c (valB zs p S) ++ bytesL m := by simp [bytesL]
            rw [e, k8, hsplit, List.take_append, hlen, List.take_of_length_le (l := insB c (valB zs p S)) (by rw [hlen]; exact a2), a3]
      · have hd : lst zs (f + 1) p = ([], [], (p : Int), (takeI zs (p : Int)).2.2.2) := by
          unfold lst
          rw [if_neg hp, if_neg ht]
        rw [hd]
        exact ⟨fun h => absurd h ht, fun _ => ⟨rfl, rfl, p, [], rfl, Nat.le_refl _, by omega, rfl, rfl, by simp [bytesL]⟩⟩
end Go.Proofs.YtbilcninhhkkpabDoor
