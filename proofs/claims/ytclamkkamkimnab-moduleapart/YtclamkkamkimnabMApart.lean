/-
  No module's bytes (layer 9) begin another's; no conditions.
-/
import Derived.Test.YtclamkkamkimnabM4
namespace Go.Proofs.Ytclamkkamkimnab
open Go.RowKit

/-- parts that are told by their bytes, one behind the other -/
theorem flat_split {α : Type} (f : α → List Int) (Ok : α → Prop) (hf : ∀ x y r1 r2, Ok x → Ok y → f x ++ r1 = f y ++ r2 → x = y ∧ r1 = r2) : ∀ (a b : List α) (r1 r2 : List Int), a.length = b.length → (∀ x ∈ a, Ok x) → (∀ x ∈ b, Ok x) → (a.map f).flatten ++ r1 = (b.map f).flatten ++ r2 → a = b ∧ r1 = r2
  | [], [], r1, r2, _, _, _, h => ⟨rfl, by simpa using h⟩
  | [], y :: b, _, _, hl, _, _, _ => by simp at hl
  | x :: a, [], _, _, hl, _, _, _ => by simp at hl
  | x :: a, y :: b, r1, r2, hl, ha, hb, h => by
    simp only [List.map_cons, List.flatten_cons, List.append_assoc] at h
    obtain ⟨e1, e2⟩ := hf x y _ _ (ha x List.mem_cons_self) (hb y List.mem_cons_self) h
    obtain ⟨e3, e4⟩ := flat_split f Ok hf a b r1 r2 (by simpa using hl) (fun z hz => ha z (List.mem_cons_of_mem _ hz)) (fun z hz => hb z (List.mem_cons_of_mem _ hz)) e2
    exact ⟨by rw [e1, e3], e4⟩

theorem fn_split (x y : Fn) (r1 r2 : List Int) (h : encFn x ++ r1 = encFn y ++ r2) : x = y ∧ r1 = r2 := by
  obtain ⟨p, l, s, t⟩ := x
  obtain ⟨p', l', s', t'⟩ := y
  unfold encFn at h
  dsimp only at h
  simp only [List.append_assoc] at h
  obtain ⟨e1, h1⟩ := encF_split 9 _ _ _ _ h
  obtain ⟨e2, h2⟩ := encF_split 9 _ _ _ _ h1
  obtain ⟨e3, h3⟩ := encF_split 9 _ _ _ _ h2
  have h4 : tx t ++ r1 = tx t' ++ r2 := by unfold tx; simpa only [List.append_assoc] using h3
  obtain ⟨e5, h5⟩ := tx_split t t' r1 r2 h4
  exact ⟨by rw [e1, e2, e3, e5], h5⟩

theorem ex_split (x y : Ex) (r1 r2 : List Int) (h : encEx x ++ r1 = encEx y ++ r2) : x = y ∧ r1 = r2 := by
  obtain ⟨t, f⟩ := x
  obtain ⟨t', f'⟩ := y
  unfold encEx at h
  dsimp only at h
  have h4 : tx t ++ (encF 9 f ++ r1) = tx t' ++ (encF 9 f' ++ r2) := by unfold tx; simpa only [List.append_assoc] using h
  obtain ⟨e1, h1⟩ := tx_split t t' _ _ h4
  obtain ⟨e2, h2⟩ := encF_split 9 _ _ _ _ h1
  exact ⟨by rw [e1, e2], h2⟩

/-- a section's body tells its parts -/
theorem body_split {α : Type} (f : α → List Int) (Ok : α → Prop) (hf : ∀ x y r1 r2, Ok x → Ok y → f x ++ r1 = f y ++ r2 → x = y ∧ r1 = r2) (a b : List α) (ha : ∀ x ∈ a, Ok x) (hb : ∀ x ∈ b, Ok x) (h : bodyM (a.map f) = bodyM (b.map f)) : a = b := by
  unfold bodyM at h
  obtain ⟨h1, h2⟩ := encF_split 9 _ _ _ _ h
  have hl : a.length = b.length := by rw [List.length_map, List.length_map] at h1; omega
  exact (flat_split f Ok hf a b [] [] hl ha hb (by simpa using h2)).1

theorem sec_split (i : Nat) (L K : List (List Int)) (r1 r2 : List Int) (h : secM i L ++ r1 = secM i K ++ r2) : bodyM L = bodyM K ∧ r1 = r2 := by
  unfold secM at h
  simp only [List.cons_append, List.cons.injEq, true_and, List.append_assoc] at h
  obtain ⟨h1, h2⟩ := encF_split 9 _ _ _ _ h
  exact List.append_inj h2 (by omega)

theorem encM_split {a b : Md} (ha : formedB a = true) (hb : formedB b = true) (r1 r2 : List Int) (h : encM a ++ r1 = encM b ++ r2) : a = b ∧ r1 = r2 := by
  unfold encM at h
  simp only [outM, List.append_assoc] at h
  have h0 := List.append_cancel_left h
  obtain ⟨e1, h1⟩ := sec_split 0 _ _ _ _ h0
  obtain ⟨e2, h2⟩ := sec_split 1 _ _ _ _ h1
  obtain ⟨e3, h3⟩ := sec_split 2 _ _ _ _ h2
  obtain ⟨_, _, _, a4, _, _⟩ := formed_parts ha
  obtain ⟨_, _, _, b4, _, _⟩ := formed_parts hb
  have x1 : a.cs = b.cs := body_split wenc (fun v => rightB v = true) (fun x y r1 r2 hx hy hh => wenc_split x y 8 8 r1 r2 (right_wt hx).1 (right_wt hy).1 hh) _ _ a4 b4 (by simpa [partsM] using e1)
  have x2 : a.fs = b.fs := body_split encFn (fun _ => True) (fun x y r1 r2 _ _ hh => fn_split x y r1 r2 hh) _ _ (fun _ _ => trivial) (fun _ _ => trivial) (by simpa [partsM] using e2)
  have x3 : a.xs = b.xs := body_split encEx (fun _ => True) (fun x y r1 r2 _ _ hh => ex_split x y r1 r2 hh) _ _ (fun _ _ => trivial) (fun _ _ => trivial) (by simpa [partsM] using e3)
  refine ⟨?_, h3⟩
  cases a
  cases b
  simp_all

theorem encM_begins {a b : Md} (ha : formedB a = true) (hb : formedB b = true) (h : (encM b).take (encM a).length = encM a) : a = b := by
  have e : encM a ++ (encM b).drop (encM a).length = encM b ++ [] := by
    rw [List.append_nil]
    have q := List.take_append_drop (encM a).length (encM b)
    rw [h] at q
    exact q
  exact (encM_split ha hb _ _ e).1
end Go.Proofs.Ytclamkkamkimnab
