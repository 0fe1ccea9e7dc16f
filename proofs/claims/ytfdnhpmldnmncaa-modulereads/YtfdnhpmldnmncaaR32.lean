/-
  The walks of number, text and lastName of a module's reader (layer 9); no conditions but the form's own reach.
-/
import Derived.Test.YtfdnhpmldnmncaaR31
namespace Go.Proofs.Ytfdnhpmldnmncaa
open Go.RowKit

def ResNo (w0 : World) (I : Nat → Obj → Prop) (gr : Nat) (vb vy : Value) (a : Int) (C F X : Value) (m : Md) (V : Nat → List Value) (r : Except Int (Int × Nat)) (e : Ending) (w' : World) : Prop :=
  match r with
  | .error c => e = .returned (.tuple #[.int .i64 0, .int .i64 c]) ∧ RdM w0 I w' gr vb vy a C F X m V
  | .ok (n, nx) => e = .returned (.tuple #[.int .i64 n, .int .i64 0]) ∧ RdM w0 I w' gr vb vy (nx : Int) C F X m V

theorem uint_nat {zs : List Int} {a n nx : Int} (hs : ∀ c ∈ zs, 0 ≤ c ∧ c ≤ 255) (h : uintAt zs a = (n, nx, 0)) : 0 ≤ n ∧ 0 ≤ nx := by
  have := uint_form zs a hs (by rw [h])
  obtain ⟨q, k, _, _, _, _, h1, _, h2⟩ := this
  rw [h] at h1 h2
  dsimp only at h1 h2
  omega

set_option maxRecDepth 100000 in
set_option maxHeartbeats 1000000 in
theorem number_any (w0 : World) (I : Nat → Obj → Prop) (gr : Nat) (vb : Value) (bo : Option Addr) (e bc : Nat) (a : Nat) (C F X : Value) (m : Md) (V : Nat → List Value) (bs : List Int) (most above : Int) (w : World) (h : RdM w0 I w gr vb (.slice bo e bc) a C F X m V) (hy : Row8 w0 bo e bc bs) (hg : w0.heap.size ≤ gr) (hm : bc ≤ maxLen) (hmost : -1 ≤ most ∧ most ≤ 4294967296) :
    Calls Try.prog 43 #[.pointer (some ⟨gr, 0, none⟩), .int .i64 most, .int .i64 above] w fun e' w' => ResNo w0 I gr vb (.slice bo e bc) a C F X m V (rdNo bs a most above) e' w' := by
  obtain ⟨c0, c1, c2, c3, c4, c5⟩ := row_cells6 h.box
  have fz := frozen_of_row w gr 2 _ _ h.box
  have CI := fun q => hide (uint_any bo e bc (a : Int) bs (w.drewN q) ((h.drew q).bytes hy hg) hm)
  have hsm := hy.small
  have hx := uint_max bs a hsm
  have HH := hide h
  unfold rdNo
  have hnat := fun n nx h => uint_nat (a := (a : Int)) (n := n) (nx := nx) hsm h
  generalize uintAt bs a = r at *
  obtain ⟨n, nx, er⟩ := r
  dsimp only at *
  clear hy h
  by_cases he : er ≠ 0
  · have k1 : ¬ er = 0 := he
    rw [if_pos he]
    go_enter Try.func43, Try.ntmps43
    go_upto_region 1 with fail
    go_quiet ((go_at_call 42; exact Calls.quiet_of_same (unhide (CI _))))
    go_wp2_with fail
    go_ret2
    exact ⟨rfl, (unhide HH).drew _⟩
  · rw [if_neg he]
    have e0 : er = 0 := by simpa using he
    subst e0
    obtain ⟨n0, nx0⟩ := hnat n nx rfl
    clear hnat he
    by_cases h1 : most < 0
    · rw [if_pos (Or.inl h1)]
      go_enter Try.func43, Try.ntmps43
      go_upto_region 1 with fail
      go_quiet ((go_at_call 42; exact Calls.quiet_of_same (unhide (CI _))))
      go_wp2_with fail
      go_ret2
      exact ⟨rfl, (unhide HH).drew _⟩
    · have w1 : IntKind.u64.wrap most = most := by rw [IntKind.wrap_u64]; omega
      by_cases h2 : most < n
      · rw [if_pos (Or.inr h2)]
        go_enter Try.func43, Try.ntmps43
        go_upto_region 1 with fail
        go_quiet ((go_at_call 42; exact Calls.quiet_of_same (unhide (CI _))))
        go_wp2_with fail
        go_ret2
        exact ⟨rfl, (unhide HH).drew _⟩
      · rw [if_neg (by omega)]
        have w2 : IntKind.i64.wrap n = n := by rw [IntKind.wrap_i64]; omega
        obtain ⟨nn, rfl⟩ : ∃ nn : Nat, nx = (nn : Int) := ⟨nx.toNat, by omega⟩
        rw [Int.toNat_natCast]
        go_enter Try.func43, Try.ntmps43
        go_upto_region 1 with fail
        go_quiet ((go_at_call 42; exact Calls.quiet_of_same (unhide (CI _))))
        go_wp2_with fail
        go_ret2
        exact ⟨rfl, ((unhide HH).drew _).setAt _⟩

def ResTx (w0 : World) (I : Nat → Obj → Prop) (gr : Nat) (vb vy : Value) (a : Int) (C F X : Value) (m : Md) (V : Nat → List Value) (r : Except Int (ByteArray × Nat)) (e : Ending) (w' : World) : Prop :=
  match r with
  | .error c => e = .returned (.tuple #[.string ⟨#[]⟩, .int .i64 c]) ∧ RdM w0 I w' gr vb vy a C F X m V
  | .ok (t, nx) => e = .returned (.tuple #[.string t, .int .i64 0]) ∧ RdM w0 I w' gr vb vy (nx : Int) C F X m V

set_option maxRecDepth 100000 in
set_option maxHeartbeats 1000000 in
theorem textM_any (w0 : World) (I : Nat → Obj → Prop) (gr : Nat) (vb : Value) (bo : Option Addr) (e bc : Nat) (a : Nat) (C F X : Value) (m : Md) (V : Nat → List Value) (bs : List Int) (most : Int) (w : World) (h : RdM w0 I w gr vb (.slice bo e bc) a C F X m V) (hy : Row8 w0 bo e bc bs) (hg : w0.heap.size ≤ gr) (hm : bc ≤ maxLen) (hmost : 0 ≤ most ∧ most ≤ 4294967296) :
    Calls Try.prog 55 #[.pointer (some ⟨gr, 0, none⟩), .int .i64 most] w fun e' w' => ResTx w0 I gr vb (.slice bo e bc) a C F X m V (rdTx bs a most) e' w' := by
  obtain ⟨c0, c1, c2, c3, c4, c5⟩ := row_cells6 h.box
  have fz := frozen_of_row w gr 2 _ _ h.box
  have CI := fun q => hide (text_any bo e bc (a : Int) most bs (w.drewN q) ((h.drew q).bytes hy hg) (by unfold maxLen at hm; omega) (by omega))
  have hsm := hy.small
  have HF : (textOfU bs most (uintAt bs a)).2.2 = 0 → 0 ≤ (textOfU bs most (uintAt bs a)).2.1 := fun h0 => by
    obtain ⟨b, _, _, hb, _⟩ := text_form bs most.toNat a hsm (by rw [show ((most.toNat : Nat) : Int) = most by omega]; exact h0)
    rw [show ((most.toNat : Nat) : Int) = most by omega] at hb
    omega
  have HH := hide h
  unfold rdTx
  generalize textOfU bs most (uintAt bs a) = r at *
  obtain ⟨t, nx, er⟩ := r
  dsimp only at *
  clear hy h
  by_cases h13 : er = 13
  · subst h13
    rw [if_pos rfl]
    go_enter Try.func55, Try.ntmps55
    go_upto_region 1 with fail
    go_quiet ((go_at_call 66; exact Calls.quiet_of_same (unhide (CI _))))
    go_wp2_with fail
    go_ret2
    exact ⟨rfl, (unhide HH).drew _⟩
  · rw [if_neg h13]
    have k13 : (er == 13) = false := beq_eq_false_iff_ne.2 h13
    by_cases he : er ≠ 0
    · have k1 : ¬ er = 0 := he
      rw [if_pos he]
      go_enter Try.func55, Try.ntmps55
      go_upto_region 1 with fail
      go_quiet ((go_at_call 66; exact Calls.quiet_of_same (unhide (CI _))))
      go_wp2_with fail
      go_ret2
      exact ⟨rfl, (unhide HH).drew _⟩
    · rw [if_neg he]
      have e0 : er = 0 := by simpa using he
      subst e0
      have n0 := HF rfl
      obtain ⟨nn, rfl⟩ : ∃ nn : Nat, nx = (nn : Int) := ⟨nx.toNat, by omega⟩
      rw [Int.toNat_natCast]
      clear HF he
      go_enter Try.func55, Try.ntmps55
      go_upto_region 1 with fail
      go_quiet ((go_at_call 66; exact Calls.quiet_of_same (unhide (CI _))))
      go_wp2_with fail
      go_ret2
      exact ⟨rfl, ((unhide HH).drew _).setAt _⟩

theorem flat2_at (l : List Ex) (i : Nat) (x : Ex) (h : l[i]? = some x) : (l.flatMap exV)[i * 2]? = some (.string x.1) := by
  induction l generalizing i with
  | nil => simp at h
  | cons y r ih =>
    cases i with
    | zero => simp at h; subst h; rfl
    | succ i =>
      rw [List.flatMap_cons, show (i + 1) * 2 = i * 2 + 2 by omega, List.getElem?_append_right (by simp [exV])]
      simpa [exV] using ih i (by simpa using h)

set_option maxRecDepth 100000 in
set_option maxHeartbeats 1000000 in
theorem last_any (w0 : World) (I : Nat → Obj → Prop) (gr : Nat) (vb vy : Value) (a : Int) (C F X : Value) (m : Md) (V : Nat → List Value) (w : World) (h : RdM w0 I w gr vb vy a C F X m V) (hx : m.xs.length ≤ 100) :
    Calls Try.prog 56 #[.pointer (some ⟨gr, 0, none⟩)] w fun e' w' => e' = .returned (.string (lastN m)) ∧ ∃ q, w' = w.drewN q := by
  obtain ⟨c0, c1, c2, c3, c4, c5⟩ := row_cells6 h.box
  obtain ⟨ax, cx, hX, nX, lX, mX, aX⟩ := slice_form h.ownX
  obtain ⟨n, hn⟩ : ∃ n, m.xs.length = n := ⟨_, rfl⟩
  rw [hn] at hX hx lX nX
  have hcl := h.ownX
  subst hX
  by_cases h0 : n = 0
  · have hl : lastN m = ⟨#[]⟩ := by
      unfold lastN
      have hnil : m.xs = [] := List.eq_nil_of_length_eq_zero (by omega)
      rw [hnil]
      rfl
    rw [hl]
    subst h0
    clear hcl nX lX mX aX h
    go_enter Try.func56, Try.ntmps56
    go_wp2_with fail
    go_ret
    exact ⟨rfl, 0, rfl⟩
  · obtain ⟨x, hxl⟩ : ∃ x, m.xs[n - 1]? = some x := ⟨_, List.getElem?_eq_getElem (by omega)⟩
    have hl : lastN m = x.1 := by
      unfold lastN
      rw [List.getLast?_eq_getElem?, hn, hxl]
    rw [hl]
    obtain ⟨ad, rfl⟩ : ∃ ad, ax = some ad := by
      cases ax with
      | none => have := (nX rfl).1; omega
      | some ad => exact ⟨ad, rfl⟩
    obtain ⟨o1, o2⟩ := aX ad rfl
    obtain ⟨bx, hbx⟩ : ∃ bx, ad.block = bx := ⟨_, rfl⟩
    rw [hbx] at o2
    have cc := hcl.cells o1 ((n - 1) * 2) _ (flat2_at m.xs (n - 1) x hxl)
    rw [hbx] at cc
    subst o2
    obtain ⟨k, hk⟩ : ∃ k, n = k + 1 := ⟨n - 1, by omega⟩
    subst hk
    rw [Nat.add_sub_cancel] at cc
    have e1 : IntKind.i64.wrap (((k + 1 : Nat) : Int) - 1) = (k : Int) := by rw [IntKind.wrap_i64]; omega
    have e2 : ((k + 1 : Nat) : Int) - 1 = (k : Int) := by omega
    have e3 : (((k + 1 : Nat) : Int) == 0) = false := beq_eq_false_iff_ne.2 (by omega)
    have e4 : (k : Int) < (k : Int) + 1 := by omega
    have e5 : IntKind.i64.wrap (k : Int) = (k : Int) := by rw [IntKind.wrap_i64]; omega
    have e6 : (((k : Int) + 1) == 0) = false := beq_eq_false_iff_ne.2 (by omega)
    have hadd : (⟨bx, 0, none⟩ : Addr).add (k * 2) = ⟨bx, k * 2, none⟩ := by unfold Addr.add; split <;> simp_all
    have cc' : w.cell? ⟨bx, k * 2, none⟩ = some (.string x.1) := by rw [← hadd]; exact cc
    clear hadd
    clear hcl nX lX mX aX h cc hxl hl o1
    obtain ⟨s, hs⟩ : ∃ s, x.1 = s := ⟨_, rfl⟩
    rw [hs] at cc' ⊢
    go_enter Try.func56, Try.ntmps56
    go_upto_region 3 with fail
    go_quiet (fail)
    go_wp2_with fail
    go_ret
    exact ⟨rfl, _, rfl⟩
end Go.Proofs.Ytfdnhpmldnmncaa
