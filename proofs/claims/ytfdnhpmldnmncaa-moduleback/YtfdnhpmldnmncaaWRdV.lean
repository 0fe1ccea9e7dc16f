/-
  The walk of value, and with it of every value that the reader meets; conditions: the weight so far is at most 2048, the form's own reach.
-/
import Derived.Test.YtfdnhpmldnmncaaWRdC
namespace Go.Proofs.Ytfdnhpmldnmncaa
open Go.RowKit

def rdTag (zs : List Int) (d a t : Nat) : Except (Int × Int) Int :=
  match zs[a]? with
  | none => .error (41, (a : Int))
  | some c => if 6 < c then .error (41, (a : Int)) else if d = 0 then .error (42, (a : Int)) else if 2048 < t + 1 then .error (42, (a : Int)) else .ok c

def ResT (gr : Nat) (bv : Value) (a t : Nat) (w : World) (r : Except (Int × Int) Int) (e : Ending) (w' : World) : Prop :=
  match r with
  | .error p => e = fault p.1 p.2 ∧ Beside gr w w'
  | .ok c => e = .returned (.int .u8 c) ∧ Rdr w' gr bv ((a + 1 : Nat) : Int) ((t + 1 : Nat) : Int) ∧ Beside gr w w'

theorem tag_res (zs : List Int) (d a t gr : Nat) (ao : Option Addr) (len cap : Nat) (w : World) (h : Rdr w gr (.slice ao len cap) a t) (hS : Src w gr ao len cap zs) (ha : a ≤ len) (ht : t ≤ 2048) (hd : d ≤ 8) :
    Calls Try.prog 83 #[.pointer (some ⟨gr, 0, none⟩), .int .i64 (8 - (d : Int))] w fun e w' => ResT gr (.slice ao len cap) a t w (rdTag zs d a t) e w' := by
  unfold rdTag
  cases hc : zs[a]? with
  | none =>
    have hl : len ≤ a := by rw [← hS.row.length]; exact List.getElem?_eq_none_iff.1 hc
    have e : a = len := by omega
    subst e
    exact tag_end gr ao a cap t _ w h (Nat.le_trans hS.row.le hS.cap)
  | some c =>
    dsimp only
    by_cases c6 : 6 < c
    · rw [if_pos c6]
      exact tag_wrong gr ao len cap a c t _ zs w h hS hc c6
    · rw [if_neg c6]
      by_cases hd0 : d = 0
      · rw [if_pos hd0]
        exact tag_deep gr ao len cap a c t _ zs w h hS hc c6 (by omega)
      · rw [if_neg hd0]
        by_cases hh : 2048 < t + 1
        · rw [if_pos hh]
          exact tag_heavy gr ao len cap a c t _ zs w h hS hc c6 (by omega) (by omega) (by omega)
        · rw [if_neg hh]
          refine (tag_ok gr ao len cap a c t _ zs w h hS hc c6 (by omega) (by omega) (by omega)).mono fun e w' ⟨he, r, b⟩ => ⟨he, ?_, b⟩
          rw [show ((t + 1 : Nat) : Int) = (t : Int) + 1 by omega]
          exact r

theorem rdV_tag_error {zs : List Int} {d a t : Nat} {p : Int × Int} (h : rdTag zs d a t = .error p) : rdV zs d a t = .error p := by
  unfold rdTag at h
  cases d with
  | zero =>
    simp only [rdV]
    cases hc : zs[a]? with
    | none => rw [hc] at h; cases h; rfl
    | some c =>
      rw [hc] at h
      simp only at h ⊢
      by_cases c6 : 6 < c
      · rw [if_pos c6] at h ⊢; cases h; rfl
      · rw [if_neg c6] at h ⊢; simp only [if_true] at h; cases h; rfl
  | succ d =>
    simp only [rdV]
    cases hc : zs[a]? with
    | none => rw [hc] at h; cases h; rfl
    | some c =>
      rw [hc] at h
      simp only at h ⊢
      by_cases c6 : 6 < c
      · rw [if_pos c6] at h ⊢; cases h; rfl
      · rw [if_neg c6] at h ⊢
        rw [if_neg (by omega)] at h
        by_cases hh : 2048 < t + 1
        · rw [if_pos hh] at h ⊢; cases h; rfl
        · rw [if_neg hh] at h; cases h

theorem rdV_tag_ok {zs : List Int} {d a t : Nat} {c : Int} (hl : ∀ n ∈ zs, 0 ≤ n ∧ n ≤ 255) (h : rdTag zs d a t = .ok c) : a < zs.length ∧ t + 1 ≤ 2048 ∧ 0 ≤ c ∧ c ≤ 6 ∧ ∃ e, d = e + 1 ∧ rdV zs d a t =
    if c = 1 then .ok (.mk 1 0 ⟨#[]⟩ [] [], a + 1, t + 1) else if c = 2 then .ok (.mk 1 1 ⟨#[]⟩ [] [], a + 1, t + 1)
      else if c = 3 then rdNum zs (a + 1) (t + 1) else if c = 4 then rdTxt zs a (a + 1) (t + 1)
      else if c = 5 then rdAll zs (rdV zs e) a (a + 1) (t + 1) else if c = 6 then rdPairs zs (rdV zs e) a (a + 1) (t + 1)
      else .ok (.mk 0 0 ⟨#[]⟩ [] [], a + 1, t + 1) := by
  unfold rdTag at h
  cases hc : zs[a]? with
  | none => rw [hc] at h; cases h
  | some x =>
    rw [hc] at h
    simp only at h
    have hx := hl x (List.mem_of_getElem? hc)
    have hlt := (List.getElem?_eq_some_iff.1 hc).1
    by_cases c6 : 6 < x
    · rw [if_pos c6] at h; cases h
    rw [if_neg c6] at h
    by_cases hd : d = 0
    · rw [if_pos hd] at h; cases h
    rw [if_neg hd] at h
    by_cases hh : 2048 < t + 1
    · rw [if_pos hh] at h; cases h
    rw [if_neg hh] at h
    cases h
    refine ⟨hlt, by omega, hx.1, by omega, d - 1, by omega, ?_⟩
    obtain ⟨e, rfl⟩ : ∃ e, d = e + 1 := ⟨d - 1, by omega⟩
    simp only [rdV, hc, Nat.add_sub_cancel]
    rw [if_neg c6, if_neg hh]

/-- the value is laid into its variable -/
theorem store_end {w u : World} {gr g : Nat} {bv : Value} {Z0 Z1 Z2 Z3 Z4 : Value} {v : Vl} (x0 x1 x2 x3 x4 : Value) {p t : Nat} (h0 : u.heap[g]? = some (.cells #[Z0, Z1, Z2, Z3, Z4] 51 (0, 0))) (hb : Beside gr w u) (hg : w.heap.size = g) (hr : gr < g) (hR : Rdr u gr bv p t)
    (hI : ∀ u' : World, u'.heap.size = u.heap.size → (∀ c, c ≠ g → u'.heap[c]? = u.heap[c]?) → u'.heap[g]? = some (.cells #[x0, x1, x2, x3, x4] 51 (0, 0)) → IsP u' (fun c => g ≤ c ∧ c < u'.heap.size) v (.agg #[x0, x1, x2, x3, x4])) :
    Res gr bv w (.ok (v, p, t)) (.returned (.agg #[x0, x1, x2, x3, x4])) (((((u.setCell ⟨g, 0, none⟩ x0).setCell ⟨g, 1, none⟩ x1).setCell ⟨g, 2, none⟩ x2).setCell ⟨g, 3, none⟩ x3).setCell ⟨g, 4, none⟩ x4) ∧
    (((((u.setCell ⟨g, 0, none⟩ x0).setCell ⟨g, 1, none⟩ x1).setCell ⟨g, 2, none⟩ x2).setCell ⟨g, 3, none⟩ x3).setCell ⟨g, 4, none⟩ x4).heap[g]? = some (.cells #[x0, x1, x2, x3, x4] 51 (0, 0)) := by
  have R9 := five_set u g 51 _ _ _ _ _ x0 x1 x2 x3 x4 h0
  have O9 := fun c hc => five_other u g c x0 x1 x2 x3 x4 hc
  have B9 := five_below (Below.refl g u) (Nat.le_refl g) x0 x1 x2 x3 x4
  have S9 : (((((u.setCell ⟨g, 0, none⟩ x0).setCell ⟨g, 1, none⟩ x1).setCell ⟨g, 2, none⟩ x2).setCell ⟨g, 3, none⟩ x3).setCell ⟨g, 4, none⟩ x4).heap.size = u.heap.size := by simp
  generalize (((((u.setCell ⟨g, 0, none⟩ x0).setCell ⟨g, 1, none⟩ x1).setCell ⟨g, 2, none⟩ x2).setCell ⟨g, 3, none⟩ x3).setCell ⟨g, 4, none⟩ x4) = w9 at *
  refine ⟨⟨_, rfl, ?_, (O9 gr (by omega)).trans hR, B9.os.trans hb.os, B9.tape.trans hb.tape, B9.output.trans hb.output, Nat.le_trans hb.size B9.size, fun k hk hn => (O9 k (by omega)).trans (hb.block k hk hn)⟩, R9⟩
  rw [hg]
  exact hI w9 S9 O9 R9

theorem plain_made {u : World} {g : Nat} {k n : Int} {s : ByteArray} (h : u.heap[g]? = some (.cells #[.int .i64 k, .int .i64 n, .string s, .slice none 0 0, .slice none 0 0] 51 (0, 0))) (bk : 0 ≤ k ∧ k ≤ 5) (bn : -9223372036854775808 ≤ n ∧ n ≤ 9223372036854775807) (bs : s.size ≤ 2048) :
    IsP u (fun c => g ≤ c ∧ c < u.heap.size) (.mk k n s [] []) (.agg #[.int .i64 k, .int .i64 n, .string s, .slice none 0 0, .slice none 0 0]) := by
  have M : Mid u (g + 1) g k n s [] [] (.slice none 0 0) (.slice none 0 0) 0 0 (fun _ => []) := ⟨h, by omega, (Array.getElem?_eq_some_iff.1 h).1, World.ownsRow_nil _ _ _ _, World.ownsRow_nil _ _ _ _, Or.inl rfl, fun c h => by omega, fun c y h => by omega⟩
  exact (M.made rfl rfl (by omega) bn (by omega) (by simp) (by simp) (by simp)).weak (fun c hP => ⟨by omega, hP.2⟩)
end Go.Proofs.Ytfdnhpmldnmncaa
