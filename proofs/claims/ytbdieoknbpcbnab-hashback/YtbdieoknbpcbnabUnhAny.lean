/-
  What hash.Unhex answers, of any text, in one piece; Hex and Unhex undo each other; no conditions.
-/
import Derived.Test.YtbdieoknbpcbnabH2Unhex
import Derived.Test.YtbdieoknbpcbnabHexDefs
namespace Go.Proofs.Ytbdieoknbpcbnab
open Go.RowKit

/-- what Unhex answers -/
def ansL (s : ByteArray) : List Int := if s.size = 64 then ((unh s 32).getD (List.replicate 32 0)) else List.replicate 32 0
def ansE (s : ByteArray) : Int := if s.size = 64 then (if (unh s 32).isSome then 0 else 20) else 20

theorem unh_len (s : ByteArray) : ∀ i l, unh s i = some l → l.length = i := by
  intro i
  induction i with
  | zero => intro l h; simp [unh] at h; subst h; rfl
  | succ i ih =>
    intro l h
    simp only [unh] at h
    cases hq : unh s i with
    | none => rw [hq] at h; simp at h
    | some m =>
      rw [hq] at h
      simp only [Option.bind_some] at h
      split at h
      · cases h
      · simp only [Option.some.injEq] at h
        subst h
        simp [ih m hq]

theorem ansL_len (s : ByteArray) : (ansL s).length = 32 := by
  unfold ansL
  split
  · cases hu : unh s 32 with
    | none => simp
    | some l => simpa using unh_len s 32 l hu
  · simp

theorem hUnhex_any (s : ByteArray) (w : World) :
    Calls Try.prog 5 #[.string s] w fun e w' => e = .returned (.tuple #[.agg ((ansL s).map (Value.int .u8)).toArray, .int .i64 (ansE s)]) ∧ Below w.heap.size w w' := by
  by_cases hs : s.size = 64
  · refine (hUnhex_long s w hs).mono ?_
    rintro e w' ⟨⟨l', h1, _, rfl⟩ | ⟨h1, rfl⟩, hB⟩
    · refine ⟨?_, hB⟩
      simp only [ansL, ansE, hs, h1, if_true, Option.getD_some, Option.isSome_some]
    · refine ⟨?_, hB⟩
      simp only [ansL, ansE, hs, h1, if_true, Option.getD_none, Option.isSome_none]
      rfl
  · refine (hUnhex_short s w hs).mono ?_
    rintro e w' ⟨rfl, hB⟩
    refine ⟨?_, hB⟩
    simp only [ansL, ansE, hs, if_false]
    rfl

/-- the bytes of a text -/
def txt (s : ByteArray) : List Int := s.data.toList.map fun b => (b.toNat : Int)

theorem txt_len (s : ByteArray) : (txt s).length = s.size := by
  unfold txt
  rw [List.length_map, Array.length_toList]
  rfl

theorem txt_inj {s t : ByteArray} (h : txt s = txt t) : s = t := by
  cases s with | mk a => cases t with | mk b =>
  unfold txt at h
  congr 1
  apply Array.toList_inj.1
  have inj : Function.Injective (fun b : UInt8 => (b.toNat : Int)) := by
    intro x y h
    apply UInt8.toNat_inj.1
    have : (x.toNat : Int) = (y.toNat : Int) := h
    omega
  exact (List.map_inj_right inj).1 h

theorem txt_at (s : ByteArray) (k : Nat) (h : k < s.size) : ((s.data.toList.getD k 0).toNat : Int) = (txt s).getD k 0 := by
  have hl : k < s.data.toList.length := by rw [Array.length_toList]; exact h
  unfold txt
  rw [List.getD_eq_getElem?_getD, List.getD_eq_getElem?_getD, List.getElem?_map, List.getElem?_eq_getElem hl]
  rfl

theorem hexC_bounds (n : Int) (h0 : 0 ≤ n) (h1 : n < 16) : 0 ≤ hexC n ∧ hexC n ≤ 255 := by
  unfold hexC; split <;> omega

theorem hexL_bounds : ∀ (l : List Int), (∀ c ∈ l, 0 ≤ c ∧ c ≤ 255) → ∀ x ∈ hexL l, 0 ≤ x ∧ x ≤ 255
  | [], _, x, h => by cases h
  | c :: l, hb, x, h => by
    have hc := hb c (by simp)
    simp only [hexL, List.mem_cons] at h
    rcases h with rfl | rfl | h
    · exact hexC_bounds _ (by omega) (by omega)
    · exact hexC_bounds _ (by omega) (by omega)
    · exact hexL_bounds l (fun c hc => hb c (by simp [hc])) x h

theorem txt_of {s : ByteArray} {l : List Int} (h : s.data.toList = l.map fun n => UInt8.ofNat n.toNat) (hb : ∀ c ∈ l, 0 ≤ c ∧ c ≤ 255) : txt s = l := by
  unfold txt
  rw [h, List.map_map]
  conv => rhs; rw [← List.map_id l]
  refine List.map_congr_left fun c hc => ?_
  have := hb c hc
  simp only [Function.comp_apply, UInt8.toNat_ofNat', id_eq]
  have e : c.toNat % 2 ^ 8 = c.toNat := Nat.mod_eq_of_lt (by omega)
  rw [e]
  omega

/-- the digits that Hex writes tell the digest -/
theorem unh_hex (s : ByteArray) (ds : List Int) (hs : txt s = hexL ds) (hb : ∀ c ∈ ds, 0 ≤ c ∧ c ≤ 255) : ∀ i, i ≤ ds.length → unh s i = some (ds.take i) := by
  have hsz : s.size = 2 * ds.length := by rw [← txt_len, hs, hexL_len]
  have hat : ∀ (l : List Int) (i : Nat), i < l.length → (hexL l).getD (2 * i) 0 = hexC (l.getD i 0 / 16) ∧ (hexL l).getD (2 * i + 1) 0 = hexC (l.getD i 0 % 16) := by
    intro l
    induction l with
    | nil => intro i h; simp at h
    | cons c l ih =>
      intro i h
      cases i with
      | zero => exact ⟨rfl, rfl⟩
      | succ i =>
        have := ih i (by simpa using h)
        exact this
  intro i
  induction i with
  | zero => intro _; rfl
  | succ i ih =>
    intro hi
    have ht := hat ds i (by omega)
    have hc := hb (ds.getD i 0) (by
      have g : ds.getD i 0 = ds[i] := by simp [List.getD, (by omega : i < ds.length)]
      rw [g]; exact List.getElem_mem _)
    simp only [unh, ih (by omega), Option.bind_some]
    rw [txt_at s (2 * i) (by omega), txt_at s (2 * i + 1) (by omega), hs, ht.1, ht.2, dig_hex _ (by omega) (by omega), dig_hex _ (by omega) (by omega)]
    rw [if_neg (by omega), List.take_succ_eq_append_getElem (by omega)]
    have g : ds.getD i 0 = ds[i] := by simp [List.getD, (by omega : i < ds.length)]
    rw [g]
    congr 3
    omega

/-- what is told is written as the same digits -/
theorem hex_unh (s : ByteArray) : ∀ (i : Nat) (l : List Int), 2 * i ≤ s.size → unh s i = some l → hexL l = (txt s).take (2 * i) ∧ ∀ c ∈ l, 0 ≤ c ∧ c ≤ 255
  | 0, l, _, h => by
    simp [unh] at h
    subst h
    exact ⟨rfl, fun c h => by cases h⟩
  | i + 1, l, hs, h => by
    simp only [unh] at h
    cases hq : unh s i with
    | none => rw [hq] at h; simp at h
    | some m =>
      rw [hq] at h
      simp only [Option.bind_some] at h
      split at h
      · cases h
      · next hd =>
        simp only [Option.some.injEq] at h
        subst h
        obtain ⟨h1, h2⟩ := hex_unh s i m (by omega) hq
        rw [txt_at s (2 * i) (by omega), txt_at s (2 * i + 1) (by omega)] at *
        have d1 := dig_bounds ((txt s).getD (2 * i) 0)
        have d2 := dig_bounds ((txt s).getD (2 * i + 1) 0)
        have e1 := hex_dig ((txt s).getD (2 * i) 0) (by omega)
        have e2 := hex_dig ((txt s).getD (2 * i + 1) 0) (by omega)
        generalize digI ((txt s).getD (2 * i) 0) = a at *
        generalize digI ((txt s).getD (2 * i + 1) 0) = b at *
        refine ⟨?_, ?_⟩
        · have hl := txt_len s
          have t2 := List.take_succ_eq_append_getElem (l := txt s) (i := 2 * i + 1) (by omega)
          have t1 := List.take_succ_eq_append_getElem (l := txt s) (i := 2 * i) (by omega)
          rw [hexL_app, h1, show (16 * a + b) / 16 = a by omega, show (16 * a + b) % 16 = b by omega, e1, e2, show 2 * (i + 1) = 2 * i + 1 + 1 from by omega, t2, t1]
          have g1 : (txt s).getD (2 * i) 0 = (txt s)[2 * i] := by simp [List.getD, (by omega : 2 * i < (txt s).length)]
          have g2 : (txt s).getD (2 * i + 1) 0 = (txt s)[2 * i + 1] := by simp [List.getD, (by omega : 2 * i + 1 < (txt s).length)]
          rw [g1, g2, List.append_assoc]
          rfl
        · intro c hc
          rcases List.mem_append.1 hc with hc | hc
          · exact h2 c hc
          · simp only [List.mem_singleton] at hc
            subst hc
            omega

theorem ans_hex {s : ByteArray} {ds : List Int} (hd : ds.length = 32) (hs : txt s = hexL ds) (hb : ∀ c ∈ ds, 0 ≤ c ∧ c ≤ 255) : ansL s = ds ∧ ansE s = 0 ∧ s.size = 64 := by
  have hz : s.size = 64 := by rw [← txt_len, hs, hexL_len, hd]
  have hu := unh_hex s ds hs hb 32 (by omega)
  rw [List.take_of_length_le (by omega)] at hu
  simp [ansL, ansE, hz, hu]

theorem ans_back {s : ByteArray} (hz : s.size = 64) : (ansE s = 20 ∧ ansL s = List.replicate 32 0) ∨ (ansE s = 0 ∧ hexL (ansL s) = txt s ∧ ∀ c ∈ ansL s, 0 ≤ c ∧ c ≤ 255) := by
  cases hu : unh s 32 with
  | none => exact Or.inl (by simp [ansL, ansE, hz, hu])
  | some l =>
    have h := hex_unh s 32 l (by omega) hu
    rw [List.take_of_length_le (by rw [txt_len]; omega)] at h
    exact Or.inr ⟨by simp [ansE, hz, hu], by simpa [ansL, hz, hu] using h.1, by simpa [ansL, hz, hu] using h.2⟩
end Go.Proofs.Ytbdieoknbpcbnab
