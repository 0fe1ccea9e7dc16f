/-
  The order of bytes: it is one; no conditions.
  Things by rising keys, as lists: what stands under a key, one put, one taken away; no conditions.
  The walk of rising: may these be a record's keys? no conditions but the form's own reach.
-/
import Derived.Test.YtdaooapfokhfcaaGreatA00
import Derived.Laws.Strings
import Derived.ProofKit
import Derived.ShutString
namespace Go.Proofs.YtdaooapfokhfcaaGreat

/-- less, by bytes -/
abbrev bl (a b : ByteArray) : Bool := Op.bytesLess a.toList b.toList

theorem kl_tr : ∀ (a b c : List UInt8), Op.bytesLess a b = true → Op.bytesLess b c = true → Op.bytesLess a c = true
  | [], b, [], _, h => by cases b <;> simp [Op.bytesLess] at h
  | [], _, c :: z, _, _ => by simp [Op.bytesLess]
  | a :: x, [], _, h, _ => by simp [Op.bytesLess] at h
  | a :: x, b :: y, [], _, h => by simp [Op.bytesLess] at h
  | a :: x, b :: y, c :: z, h1, h2 => by
    have ih := kl_tr x y z
    simp only [Op.bytesLess, Bool.or_eq_true, Bool.and_eq_true, decide_eq_true_eq, beq_iff_eq] at h1 h2 ⊢
    rcases h1 with h1 | ⟨rfl, h1⟩
    · rcases h2 with h2 | ⟨rfl, h2⟩
      · exact .inl (UInt8.lt_trans h1 h2)
      · exact .inl h1
    · rcases h2 with h2 | ⟨rfl, h2⟩
      · exact .inl h2
      · exact .inr ⟨rfl, ih h1 h2⟩

theorem kb_inj {a b : ByteArray} (h : a.toList = b.toList) : a = b := by
  rw [ByteArray.toList_eq, ByteArray.toList_eq] at h
  exact Go.WideShapes.bytes_inj h

theorem kb_beq (a b : ByteArray) : (a.toList == b.toList) = true ↔ a = b := by
  rw [beq_iff_eq]
  exact ⟨kb_inj, fun h => by rw [h]⟩

theorem kl_irr (a : ByteArray) : bl a a = false := by
  have h := bl_not a.toList a.toList
  cases hb : Op.bytesLess a.toList a.toList with
  | false => exact hb
  | true => rw [hb] at h; simp at h

theorem kl_trans {a b c : ByteArray} (h1 : bl a b = true) (h2 : bl b c = true) : bl a c = true := kl_tr _ _ _ h1 h2

theorem kl_tri (a b : ByteArray) : bl a b = true ∨ a = b ∨ bl b a = true := by
  have h := bl_not a.toList b.toList
  cases h1 : bl a b with
  | true => exact .inl rfl
  | false =>
    cases h2 : bl b a with
    | true => exact .inr (.inr rfl)
    | false =>
      have h1' : Op.bytesLess a.toList b.toList = false := h1
      have h2' : Op.bytesLess b.toList a.toList = false := h2
      rw [h1', h2'] at h
      simp at h
      exact .inr (.inl (kb_inj h.symm))

theorem kl_asym {a b : ByteArray} (h : bl a b = true) : bl b a = false := by
  cases hb : bl b a with
  | false => rfl
  | true => have := kl_trans h hb; rw [kl_irr] at this; cases this
end Go.Proofs.YtdaooapfokhfcaaGreat

namespace Go.Proofs.YtdaooapfokhfcaaGreat
set_option linter.unusedVariables false
set_option linter.unusedSimpArgs false

section
variable {α β : Type}

/-- keys rise -/
def Rk (l : List (ByteArray × α)) : Prop := l.Pairwise (fun p q => bl p.1 q.1 = true)

def lookK : List (ByteArray × α) → ByteArray → Option α
  | [], _ => none
  | p :: r, k => if p.1 = k then some p.2 else lookK r k
def putK : List (ByteArray × α) → ByteArray → α → List (ByteArray × α)
  | [], k, x => [(k, x)]
  | p :: r, k, x => if bl p.1 k = true then p :: putK r k x else if p.1 = k then (k, x) :: r else (k, x) :: p :: r
def delK : List (ByteArray × α) → ByteArray → List (ByteArray × α)
  | [], _ => []
  | p :: r, k => if p.1 = k then r else p :: delK r k
/-- how many keys are less -/
def lowK : List (ByteArray × α) → ByteArray → Nat
  | [], _ => 0
  | p :: r, k => if bl p.1 k = true then lowK r k + 1 else 0

theorem bl_ne {a b : ByteArray} (h : bl a b = true) : a ≠ b := fun e => by rw [e, kl_irr] at h; cases h

theorem rk_tail {p : ByteArray × α} {r : List (ByteArray × α)} (h : Rk (p :: r)) : Rk r := (List.pairwise_cons.1 h).2
theorem rk_head {p : ByteArray × α} {r : List (ByteArray × α)} (h : Rk (p :: r)) : ∀ q ∈ r, bl p.1 q.1 = true := (List.pairwise_cons.1 h).1

theorem low_le : ∀ (l : List (ByteArray × α)) (k : ByteArray), lowK l k ≤ l.length
  | [], _ => Nat.le_refl _
  | p :: r, k => by
    unfold lowK
    split
    · have := low_le r k
      simp
      omega
    · exact Nat.zero_le _

theorem low_eqK : ∀ (l : List (ByteArray × α)) (k : ByteArray) (L : Nat), L ≤ l.length → (∀ (i : Nat) (p : ByteArray × α), l[i]? = some p → (i < L ↔ bl p.1 k = true)) → L = lowK l k
  | [], k, L, h, _ => by simp at h; simp [lowK, h]
  | p :: r, k, L, h, hL => by
    have h0 := hL 0 p rfl
    unfold lowK
    by_cases hb : bl p.1 k = true
    · rw [if_pos hb]
      have h1 := h0.2 hb
      obtain ⟨L', rfl⟩ : ∃ L', L = L' + 1 := ⟨L - 1, by omega⟩
      have := low_eqK r k L' (by simp at h; omega) (fun i q hq => by
        have := hL (i + 1) q (by simpa using hq)
        rw [← this]
        omega)
      omega
    · rw [if_neg hb]
      have h1 : ¬ 0 < L := fun e => hb (h0.1 e)
      omega

theorem look_none_lt {l : List (ByteArray × α)} {k : ByteArray} (h : ∀ q ∈ l, bl k q.1 = true) : lookK l k = none := by
  induction l with
  | nil => rfl
  | cons p r ih =>
    unfold lookK
    rw [if_neg (fun e => bl_ne (h p (List.mem_cons_self ..)) e.symm)]
    exact ih (fun q hq => h q (List.mem_cons_of_mem _ hq))

/-- what stands under a key stands at its place -/
theorem look_at : ∀ (l : List (ByteArray × α)) (k : ByteArray), Rk l → (∀ x, lookK l k = some x ↔ l[lowK l k]? = some (k, x))
  | [], k, _, x => by simp [lookK]
  | p :: r, k, h, x => by
    unfold lookK lowK
    by_cases hb : bl p.1 k = true
    · rw [if_neg (bl_ne hb), if_pos hb, List.getElem?_cons_succ]
      exact look_at r k (rk_tail h) x
    · rw [if_neg hb]
      by_cases he : p.1 = k
      · rw [if_pos he]
        simp only [List.getElem?_cons_zero, Option.some.injEq]
        constructor
        · intro e; rw [← he, ← e]
        · intro e; rw [e]
      · rw [if_neg he]
        have hk : bl k p.1 = true := by
          rcases kl_tri p.1 k with h1 | h1 | h1
          · exact absurd h1 hb
          · exact absurd h1 he
          · exact h1
        rw [look_none_lt (fun q hq => kl_trans hk (rk_head h q hq))]
        simp only [List.getElem?_cons_zero, Option.some.injEq]
        constructor
        · intro e; cases e
        · intro e; exact absurd (congrArg Prod.fst e) he

theorem look_none_at (l : List (ByteArray × α)) (k : ByteArray) (h : Rk l) : lookK l k = none ↔ (l.map Prod.fst)[lowK l k]? ≠ some k := by
  constructor
  · intro e e2
    rw [List.getElem?_map] at e2
    obtain ⟨p, hp, he⟩ := Option.map_eq_some_iff.1 e2
    obtain ⟨k', x⟩ := p
    simp only at he
    subst he
    rw [(look_at l k' h x).2 hp] at e
    cases e
  · intro e
    cases hl : lookK l k with
    | none => rfl
    | some x =>
      exfalso
      apply e
      rw [List.getElem?_map, (look_at l k h x).1 hl]
      rfl

theorem put_new : ∀ (l : List (ByteArray × α)) (k : ByteArray) (x : α), (l.map Prod.fst)[lowK l k]? ≠ some k → l.take (lowK l k) ++ (k, x) :: l.drop (lowK l k) = putK l k x
  | [], k, x, _ => rfl
  | p :: r, k, x, h => by
    unfold lowK at h ⊢
    unfold putK
    by_cases hb : bl p.1 k = true
    · rw [if_pos hb] at h ⊢
      rw [if_pos hb, List.take_succ_cons, List.drop_succ_cons, List.cons_append, put_new r k x (by simpa using h)]
    · rw [if_neg hb] at h ⊢
      rw [if_neg hb, if_neg (by simpa using h)]
      rfl

theorem put_old : ∀ (l : List (ByteArray × α)) (k : ByteArray) (x : α), (l.map Prod.fst)[lowK l k]? = some k → l.set (lowK l k) (k, x) = putK l k x
  | [], k, x, h => by simp at h
  | p :: r, k, x, h => by
    unfold lowK at h ⊢
    unfold putK
    by_cases hb : bl p.1 k = true
    · rw [if_pos hb] at h ⊢
      rw [if_pos hb, List.set_cons_succ, put_old r k x (by simpa using h)]
    · rw [if_neg hb] at h ⊢
      rw [if_neg hb, if_pos (by simpa using h)]
      rfl

theorem del_at : ∀ (l : List (ByteArray × α)) (k : ByteArray), (l.map Prod.fst)[lowK l k]? = some k → l.eraseIdx (lowK l k) = delK l k
  | [], k, h => by simp at h
  | p :: r, k, h => by
    unfold lowK at h ⊢
    unfold delK
    by_cases hb : bl p.1 k = true
    · rw [if_pos hb] at h ⊢
      rw [if_neg (bl_ne hb), List.eraseIdx_cons_succ, del_at r k (by simpa using h)]
    · rw [if_neg hb] at h ⊢
      rw [if_pos (by simpa using h)]
      rfl

theorem del_none : ∀ (l : List (ByteArray × α)) (k : ByteArray), lookK l k = none → delK l k = l
  | [], _, _ => rfl
  | p :: r, k, h => by
    unfold lookK at h
    unfold delK
    by_cases he : p.1 = k
    · rw [if_pos he] at h; cases h
    · rw [if_neg he] at h ⊢
      rw [del_none r k h]

theorem put_mem {l : List (ByteArray × α)} {k : ByteArray} {x : α} {q : ByteArray × α} (h : q ∈ putK l k x) : q = (k, x) ∨ q ∈ l := by
  induction l with
  | nil => simp [putK] at h; exact .inl h
  | cons p r ih =>
    unfold putK at h
    split at h
    · rcases List.mem_cons.1 h with rfl | h
      · exact .inr (List.mem_cons_self ..)
      · rcases ih h with h | h
        · exact .inl h
        · exact .inr (List.mem_cons_of_mem _ h)
    · split at h
      · rcases List.mem_cons.1 h with h | h
        · exact .inl h
        · exact .inr (List.mem_cons_of_mem _ h)
      · rcases List.mem_cons.1 h with h | h
        · exact .inl h
        · exact .inr h

theorem del_mem {l : List (ByteArray × α)} {k : ByteArray} {q : ByteArray × α} (h : q ∈ delK l k) : q ∈ l := by
  induction l with
  | nil => simp [delK] at h
  | cons p r ih =>
    unfold delK at h
    split at h
    · exact List.mem_cons_of_mem _ h
    · rcases List.mem_cons.1 h with rfl | h
      · exact List.mem_cons_self ..
      · exact List.mem_cons_of_mem _ (ih h)

theorem put_rk {l : List (ByteArray × α)} (k : ByteArray) (x : α) (h : Rk l) : Rk (putK l k x) := by
  induction l with
  | nil => simp [putK, Rk]
  | cons p r ih =>
    unfold putK
    by_cases hb : bl p.1 k = true
    · rw [if_pos hb]
      refine List.pairwise_cons.2 ⟨fun q hq => ?_, ih (rk_tail h)⟩
      rcases put_mem hq with rfl | hq
      · exact hb
      · exact rk_head h q hq
    · rw [if_neg hb]
      by_cases he : p.1 = k
      · rw [if_pos he]
        refine List.pairwise_cons.2 ⟨fun q hq => ?_, rk_tail h⟩
        rw [← he]
        exact rk_head h q hq
      · rw [if_neg he]
        have hk : bl k p.1 = true := by
          rcases kl_tri p.1 k with h1 | h1 | h1
          · exact absurd h1 hb
          · exact absurd h1 he
          · exact h1
        refine List.pairwise_cons.2 ⟨fun q hq => ?_, h⟩
        rcases List.mem_cons.1 hq with rfl | hq
        · exact hk
        · exact kl_trans hk (rk_head h q hq)

theorem del_rk {l : List (ByteArray × α)} (k : ByteArray) (h : Rk l) : Rk (delK l k) := by
  induction l with
  | nil => exact h
  | cons p r ih =>
    unfold delK
    split
    · exact rk_tail h
    · exact List.pairwise_cons.2 ⟨fun q hq => rk_head h q (del_mem hq), ih (rk_tail h)⟩

theorem look_put : ∀ (l : List (ByteArray × α)) (k : ByteArray) (x : α) (k' : ByteArray), Rk l → lookK (putK l k x) k' = if k = k' then some x else lookK l k'
  | [], k, x, k', _ => by simp [putK, lookK]
  | p :: r, k, x, k', h => by
    unfold putK
    by_cases hb : bl p.1 k = true
    · rw [if_pos hb]
      unfold lookK
      rw [look_put r k x k' (rk_tail h)]
      by_cases h1 : p.1 = k'
      · rw [if_pos h1, if_neg (fun e => bl_ne hb (by rw [h1, e])), if_pos h1]
      · rw [if_neg h1, if_neg h1]
    · rw [if_neg hb]
      by_cases he : p.1 = k
      · rw [if_pos he]
        unfold lookK
        simp only
        by_cases h1 : k = k'
        · rw [if_pos h1, if_pos h1]
        · rw [if_neg h1, if_neg h1, if_neg (by rw [he]; exact h1)]
      · rw [if_neg he]
        conv => lhs; unfold lookK
    
theorem look_del : ∀ (l : List (ByteArray × α)) (k k' : ByteArray), Rk l → lookK (delK l k) k' = if k = k' then none else lookK l k'
  | [], k, k', _ => by simp [delK, lookK]
  | p :: r, k, k', h => by
    unfold delK
    by_cases he : p.1 = k
    · rw [if_pos he]
      by_cases h1 : k = k'
      · rw [if_pos h1, ← h1, ← he]
        exact look_none_lt (rk_head h)
      · rw [if_neg h1]
        conv => rhs; unfold lookK
        rw [if_neg (by rw [he]; exact h1)]
    · rw [if_neg he]
      conv => lhs; unfold lookK
      rw [look_del r k k' (rk_tail h)]
      conv => rhs; unfold lookK
      by_cases h1 : p.1 = k'
      · rw [if_pos h1, if_pos h1, if_neg (fun e => he (by rw [h1, e]))]
      · rw [if_neg h1, if_neg h1]

/-- two rows of rising keys under which the same stands are one -/
theorem rk_ext : ∀ (l l' : List (ByteArray × α)), Rk l → Rk l' → (∀ k, lookK l k = lookK l' k) → l = l'
  | [], [], _, _, _ => rfl
  | [], q :: r', _, _, h => by have := h q.1; simp [lookK] at this
  | p :: r, [], _, _, h => by have := h p.1; simp [lookK] at this
  | p :: r, q :: r', h1, h2, h => by
    have e1 := h p.1
    have e2 := h q.1
    have hpq : p.1 = q.1 := by
      rcases kl_tri p.1 q.1 with hb | hb | hb
      · exfalso
        have : lookK (q :: r') p.1 = none := look_none_lt (fun z hz => by
          rcases List.mem_cons.1 hz with rfl | hz
          · exact hb
          · exact kl_trans hb (rk_head h2 z hz))
        rw [this] at e1
        simp [lookK] at e1
      · exact hb
      · exfalso
        have : lookK (p :: r) q.1 = none := look_none_lt (fun z hz => by
          rcases List.mem_cons.1 hz with rfl | hz
          · exact hb
          · exact kl_trans hb (rk_head h1 z hz))
        rw [this] at e2
        simp [lookK] at e2
    have e3 : p = q := by
      have e4 : p.2 = q.2 := by
        have := e1
        unfold lookK at this
        rw [if_pos rfl, if_pos hpq.symm] at this
        exact Option.some.inj this
      exact Prod.ext hpq e4
    subst e3
    rw [rk_ext r r' (rk_tail h1) (rk_tail h2) (fun k => by
      by_cases hk : p.1 = k
      · rw [← hk, look_none_lt (rk_head h1), look_none_lt (rk_head h2)]
      · have := h k
        unfold lookK at this
        rw [if_neg hk, if_neg hk] at this
        exact this)]

theorem look_mem : ∀ {l : List (ByteArray × α)} {k : ByteArray} {x : α}, lookK l k = some x → (k, x) ∈ l
  | [], _, _, h => by cases h
  | p :: r, k, x, h => by
    unfold lookK at h
    by_cases he : p.1 = k
    · rw [if_pos he] at h
      have e : p = (k, x) := Prod.ext he (Option.some.inj h)
      rw [e]
      exact List.mem_cons_self ..
    · rw [if_neg he] at h
      exact List.mem_cons_of_mem _ (look_mem h)

theorem mem_look : ∀ {l : List (ByteArray × α)} {k : ByteArray} {x : α}, Rk l → (k, x) ∈ l → lookK l k = some x
  | p :: r, k, x, h, hm => by
    unfold lookK
    rcases List.mem_cons.1 hm with e | hm
    · rw [← e, if_pos rfl]
    · rw [if_neg (bl_ne (rk_head h _ hm)), mem_look (rk_tail h) hm]

/-- the same, things seen through f -/
def mapK (f : α → β) (l : List (ByteArray × α)) : List (ByteArray × β) := l.map fun p => (p.1, f p.2)

theorem mapK_rk (f : α → β) {l : List (ByteArray × α)} (h : Rk l) : Rk (mapK f l) := by
  unfold Rk mapK
  rw [List.pairwise_map]
  exact h
theorem mapK_look (f : α → β) : ∀ (l : List (ByteArray × α)) (k : ByteArray), lookK (mapK f l) k = (lookK l k).map f
  | [], _ => rfl
  | p :: r, k => by
    show lookK ((p.1, f p.2) :: mapK f r) k = _
    unfold lookK
    by_cases h : p.1 = k
    · rw [if_pos h, if_pos h]; rfl
    · rw [if_neg h, if_neg h, mapK_look f r k]
theorem mapK_put (f : α → β) : ∀ (l : List (ByteArray × α)) (k : ByteArray) (x : α), mapK f (putK l k x) = putK (mapK f l) k (f x)
  | [], _, _ => rfl
  | p :: r, k, x => by
    show _ = putK ((p.1, f p.2) :: mapK f r) k (f x)
    unfold putK
    by_cases hb : bl p.1 k = true
    · rw [if_pos hb, if_pos hb, ← mapK_put f r k x]; rfl
    · rw [if_neg hb, if_neg hb]
      by_cases he : p.1 = k
      · rw [if_pos he, if_pos he]; rfl
      · rw [if_neg he, if_neg he]; rfl
theorem mapK_del (f : α → β) : ∀ (l : List (ByteArray × α)) (k : ByteArray), mapK f (delK l k) = delK (mapK f l) k
  | [], _ => rfl
  | p :: r, k => by
    show _ = delK ((p.1, f p.2) :: mapK f r) k
    unfold delK
    by_cases he : p.1 = k
    · rw [if_pos he, if_pos he]
    · rw [if_neg he, if_neg he, ← mapK_del f r k]; rfl
theorem mapK_len (f : α → β) (l : List (ByteArray × α)) : (mapK f l).length = l.length := by simp [mapK]
theorem mapK_low (f : α → β) : ∀ (l : List (ByteArray × α)) (k : ByteArray), lowK (mapK f l) k = lowK l k
  | [], _ => rfl
  | p :: r, k => by
    show lowK ((p.1, f p.2) :: mapK f r) k = _
    unfold lowK
    rw [mapK_low f r k]

theorem put_len : ∀ (l : List (ByteArray × α)) (k : ByteArray) (x : α), (putK l k x).length = if (l.map Prod.fst)[lowK l k]? = some k then l.length else l.length + 1 := fun l k x => by
  by_cases h : (l.map Prod.fst)[lowK l k]? = some k
  · rw [if_pos h, ← put_old l k x h, List.length_set]
  · rw [if_neg h, ← put_new l k x h, List.length_append, List.length_cons, List.length_take, List.length_drop]
    have := low_le l k
    omega
end
end Go.Proofs.YtdaooapfokhfcaaGreat

namespace Go.Proofs.YtdaooapfokhfcaaGreat
open Go.RowKit

/-- keys in memory -/
structure IsK (w : World) (ks : List ByteArray) (ak : Option Addr) (ck : Nat) : Prop where
  none : ak = none → ks.length = 0
  len : ks.length ≤ ck
  bnd : ks.length ≤ 140737488351232
  cell : ∀ a, ak = some a → ∀ i t, ks[i]? = some t → w.cell? (a.add i) = some (.string t)
  small : ∀ t ∈ ks, t.size ≤ 140737488351232

theorem IsK.mono {w w' : World} {ks : List ByteArray} {ak : Option Addr} {ck : Nat} (h : IsK w ks ak ck) (hb : Below w.heap.size w w') : IsK w' ks ak ck :=
  ⟨h.none, h.len, h.bnd, fun a ha i t ht => by
    have h1 := h.cell a ha i t ht
    rw [hb.cell (World.block_lt_of_cell? _ _ (by rw [h1]))]
    exact h1, h.small⟩

theorem add_pos (a : Addr) {i : Nat} (h : ¬ i = 0) : a.add i = ⟨a.block, a.off + i, none⟩ := by unfold Addr.add; rw [if_neg h]

theorem drop_cons {ks : List ByteArray} {i : Nat} {t : ByteArray} (h : ks[i]? = some t) : ks.drop i = t :: ks.drop (i + 1) := by
  obtain ⟨hi, rfl⟩ := List.getElem?_eq_some_iff.1 h
  exact List.drop_eq_getElem_cons hi

set_option maxRecDepth 100000 in
set_option maxHeartbeats 400000 in
theorem rising_any (ks : List ByteArray) (ak : Option Addr) (ck : Nat) (w : World) (h : IsK w ks ak ck) :
    Calls Tryz.prog 109 #[.slice ak ks.length ck] w fun e w' => e = .returned (.bool (risingFrom none ks)) ∧ w' = w := by
  have hn := h.len
  have hb := h.bnd
  have HH := hide h
  clear h
  obtain ⟨n, hnn⟩ : ∃ n, ks.length = n := ⟨_, rfl⟩
  rw [hnn] at hn hb ⊢
  have HN := hide hnn
  clear hnn
  go_enter Tryz.func109, Tryz.ntmps109
  go_wp2_with fail
  go_loopw [7] (fun x wr => ∃ i : Nat, i ≤ n ∧ x = .int .i64 i ∧ wr = w ∧ Hid (risingFrom none ks = risingFrom (if i = 0 then none else ks[i - 1]?) (ks.drop i))) (fun x _ => n - (intOf x).toNat)
  case atStart => exact ⟨0, by omega, rfl, rfl, hide (by simp)⟩
  case round =>
    obtain ⟨i, hi, rfl, rfl, HR⟩ := hrel
    by_cases hlt : i < n
    · have hln := unhide HN
      obtain ⟨t, ht⟩ : ∃ t, ks[i]? = some t := ⟨_, List.getElem?_eq_getElem (by omega)⟩
      obtain ⟨a, rfl⟩ : ∃ a, ak = some a := by
        cases ak with
        | none => have := (unhide HH).none rfl; omega
        | some a => exact ⟨a, rfl⟩
      have c1 := (unhide HH).cell a rfl i t ht
      have ts := (unhide HH).small t (List.mem_of_getElem? ht)
      have HT := hide ht
      clear hln ht
      by_cases h32 : t.size ≤ 32
      · by_cases h0 : i = 0
        · subst h0
          have c0 : wr.cell? a = some (.string t) := c1
          clear c1
          have HR' : Hid (risingFrom none ks = risingFrom (if 1 = 0 then none else ks[1 - 1]?) (ks.drop 1)) := hide (by
            rw [unhide HR, drop_cons (unhide HT)]
            have e := unhide HT
            simp [risingFrom, h32, e])
          go_wp2_with fail
          go_roundw
          case rel => exact ⟨1, by omega, by go_num, trivial, HR'⟩
          case measure => simp [intOf]; omega
        · obtain ⟨k, hk⟩ : ∃ k, i = k + 1 := ⟨i - 1, by omega⟩
          obtain ⟨q, hq⟩ : ∃ q, ks[k]? = some q := ⟨_, List.getElem?_eq_getElem (by have := unhide HN; omega)⟩
          have c2 := (unhide HH).cell a rfl k q hq
          have k1 : (i : Int) - 1 = (k : Int) := by omega
          have k2 : IntKind.i64.wrap ((i : Int) - 1) = (k : Int) := by rw [IntKind.wrap_i64]; omega
          have k3 : (0 : Int) < (i : Int) := by omega
          have k4 : (k : Int) < (n : Int) := by omega
          have HQ := hide (And.intro hq hk)
          clear hq hk
          have hstep : risingFrom none ks = (Op.bytesLess q.toList t.toList && risingFrom (some t) (ks.drop (i + 1))) := by
            rw [unhide HR, drop_cons (unhide HT), if_neg h0, show i - 1 = k by have := (unhide HQ).2; omega, (unhide HQ).1]
            simp [risingFrom, h32]
          have HS := hide hstep
          clear hstep
          by_cases hbl : Op.bytesLess q.toList t.toList = true
          · have HR' : Hid (risingFrom none ks = risingFrom (if i + 1 = 0 then none else ks[i + 1 - 1]?) (ks.drop (i + 1))) := hide (by
              rw [unhide HS, hbl, if_neg (by omega), show i + 1 - 1 = i by omega, unhide HT]
              simp)
            go_wp2_with fail
            go_roundw
            case rel => exact ⟨i + 1, by omega, by go_num, trivial, HR'⟩
            case measure => simp [intOf]; omega
          · have hbl' : Op.bytesLess q.toList t.toList = false := by simpa using hbl
            have HF : Hid (risingFrom none ks = false) := hide (by rw [unhide HS, hbl']; rfl)
            clear hbl
            go_wp2_with fail
            go_ret
            exact ⟨by rw [unhide HF]; rfl, rfl⟩
      · have hfin : risingFrom none ks = false := by
          rw [unhide HR, drop_cons (unhide HT)]
          simp [risingFrom, h32]
        have HF := hide hfin
        clear hfin
        go_wp2_with fail
        go_ret
        exact ⟨by rw [unhide HF]; rfl, rfl⟩
    · have hfin : risingFrom none ks = true := by
        rw [unhide HR, List.drop_eq_nil_of_le (by have := unhide HN; omega)]
        rfl
      have HF := hide hfin
      clear hfin
      go_wp2_with fail
      go_ret
      exact ⟨by rw [unhide HF]; rfl, rfl⟩
end Go.Proofs.YtdaooapfokhfcaaGreat
