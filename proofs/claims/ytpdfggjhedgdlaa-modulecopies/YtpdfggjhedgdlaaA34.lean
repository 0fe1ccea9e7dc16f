/-
  The walk of the document's IsName (layer 9); no conditions.
  A module in its box; small facts for the document's own walks; no conditions.
  A module that was lent: lists of its own, with marks behind; how it lies in memory; no conditions.
-/
import Derived.Test.YtpdfggjhedgdlaaA31
import Derived.Test.YtpdfggjhedgdlaaA33
import Derived.Test.YtpdfggjhedgdlaaA18
import Derived.BigQuiet
import Derived.Deep.QuietTactic
import Derived.Test.YtpdfggjhedgdlaaA32
import Derived.Test.YtpdfggjhedgdlaaA23
namespace Go.Proofs.Ytpdfggjhedgdlaa
open Go.RowKit

theorem refLetter_any (c : Int) (w : World) :
    Calls Try.prog 71 #[.int .u8 c] w fun e w' => e = .returned (.bool (letC c)) ∧ w' = w := by
  rcases let_cases c with ⟨hR, h1, h2, h3⟩ | ⟨hR, h1, h2, h3⟩ | ⟨hR, h1, h2, h3, h4⟩ | ⟨hR, h1, h2, h3, h4⟩ | ⟨hR, h1, h2⟩ | ⟨hR, h1, h2, h3, h4, h5⟩
  all_goals
    rw [hR]
    clear hR
    go_enter Try.func71, Try.ntmps71
    go_wp2_with fail
    go_ret
    exact ⟨rfl, rfl⟩

theorem digD (c : Int) : digC c = decide (48 ≤ c ∧ c ≤ 57) := by
  rw [Bool.eq_iff_iff]
  simp [digC]

theorem size_zeroM {s : ByteArray} (h : s.size = 0) : (s.toList == []) = true := by
  have : s.toList.length = 0 := by rw [ByteArray.toList_eq]; simpa using h
  rw [List.eq_nil_of_length_eq_zero this]
  rfl

theorem size_someM {s : ByteArray} (h : s.size ≠ 0) : (s.toList == []) = false := by
  have : s.toList.length ≠ 0 := by rw [ByteArray.toList_eq]; simpa using h
  cases hs : s.toList with
  | nil => rw [hs] at this; simp at this
  | cons a r => rfl

set_option maxRecDepth 100000 in
set_option maxHeartbeats 1000000 in
theorem refName_any (s : ByteArray) (w : World) (hs : s.size ≤ 140737488351232) :
    Calls Try.prog 56 #[.string s] w fun e w' => e = .returned (.bool (nameB s)) ∧ w' = w := by
  by_cases h0 : s.size = 0
  · have hN : nameB s = false := by unfold nameB; rw [h0]; rfl
    have i1 := size_zeroM h0
    rw [hN]
    clear hN
    go_enter Try.func56, Try.ntmps56
    go_wp2_with fail
    go_ret
    exact ⟨rfl, rfl⟩
  have i1 := size_someM h0
  by_cases h20 : 20 < s.size
  · have hN : nameB s = false := by unfold nameB; rw [decide_eq_false (show ¬ s.size ≤ 20 by omega)]; simp
    have i3 : (20 : Int) < (s.size : Int) := by omega
    rw [hN]
    clear hN
    go_enter Try.func56, Try.ntmps56
    go_wp2_with fail
    go_ret
    exact ⟨rfl, rfl⟩
  have i3 : ¬ (20 : Int) < (s.size : Int) := by omega
  have hp : 0 < s.size := by omega
  obtain ⟨N, hN⟩ : ∃ N, nameB s = N := ⟨_, rfl⟩
  have HN := hide hN
  rw [hN]
  clear hN
  go_enter Try.func56, Try.ntmps56
  go_wp2_with fail
  go_loop [3] (fun x => ∃ i : Nat, i ≤ s.size ∧ x = .int .i64 (i : Int) ∧ Hid (∀ j, j < i → nameC (chr s j) = true ∧ (j = 0 → digC (chr s j) = false))) (fun x => s.size - (intOf x).toNat)
  case atStart => exact ⟨0, by omega, rfl, hide (fun j h => by omega)⟩
  case round =>
    obtain ⟨i, hi, rfl, HJ⟩ := hrel
    by_cases hlt : i < s.size
    · have j1 : (i : Int) < (s.size : Int) := by omega
      have CL := hide (refLetter_any ((s[i]'hlt).toNat : Int) w)
      have HC := hide (chr_at s i hlt)
      cases hL : letC ((s[i]'hlt).toNat : Int) with
      | true =>
        rw [hL] at CL
        have HO : Hid (nameC (chr s i) = true ∧ (i = 0 → digC (chr s i) = false)) := hide (by
          rw [unhide HC]
          refine ⟨by unfold nameC; rw [hL]; rfl, fun _ => ?_⟩
          rw [letD] at hL
          rw [digD]
          simp only [decide_eq_true_eq, decide_eq_false_iff_not] at hL ⊢
          omega)
        clear hL
        go_wp2_with fail
        refine (unhide CL).mono ?_
        rintro e u2 ⟨rfl, rfl⟩
        go_wp2_with fail
        go_round
        case rel => exact ⟨i + 1, by omega, by go_num, hide (fun j hj => by
          rcases Nat.lt_or_ge j i with h | h
          · exact unhide HJ j h
          · have e : j = i := by omega
            rw [e]; exact unhide HO)⟩
        case measure => simp [intOf]; omega
      | false =>
        rw [hL] at CL
        by_cases hi0 : i = 0
        · subst hi0
          have HO : Hid (nameB s = false) := hide (by
            cases hd : digC (chr s 0) with
            | true => unfold nameB; rw [hd]; simp
            | false => exact name_no 0 hlt (by unfold nameC; rw [hd, unhide HC, hL]; rfl))
          clear hL
          go_wp2_with fail
          refine (unhide CL).mono ?_
          rintro e u2 ⟨rfl, rfl⟩
          go_wp2_with fail
          go_ret
          exact ⟨by rw [← unhide HN, unhide HO]; rfl, rfl⟩
        · have k0 : ((i : Int) == 0) = false := beq_eq_false_iff_ne.2 (by omega)
          by_cases hg1 : ((s[i]'hlt).toNat : Int) < 48
          · have HO : Hid (nameB s = false) := hide (name_no i hlt (by unfold nameC; rw [unhide HC, hL, digD, decide_eq_false (by omega)]; rfl))
            clear hL
            go_wp2_with fail
            refine (unhide CL).mono ?_
            rintro e u2 ⟨rfl, rfl⟩
            go_wp2_with fail
            go_ret
            exact ⟨by rw [← unhide HN, unhide HO]; rfl, rfl⟩
          · by_cases hg2 : 57 < ((s[i]'hlt).toNat : Int)
            · have HO : Hid (nameB s = false) := hide (name_no i hlt (by unfold nameC; rw [unhide HC, hL, digD, decide_eq_false (by omega)]; rfl))
              clear hL
              go_wp2_with fail
              refine (unhide CL).mono ?_
              rintro e u2 ⟨rfl, rfl⟩
              go_wp2_with fail
              go_ret
              exact ⟨by rw [← unhide HN, unhide HO]; rfl, rfl⟩
            · have HO : Hid (nameC (chr s i) = true ∧ (i = 0 → digC (chr s i) = false)) := hide (by
                rw [unhide HC]
                exact ⟨by unfold nameC; rw [hL, digD, decide_eq_true (by omega)]; rfl, fun h => absurd h hi0⟩)
              clear hL
              go_wp2_with fail
              refine (unhide CL).mono ?_
              rintro e u2 ⟨rfl, rfl⟩
              go_wp2_with fail
              go_round
              case rel => exact ⟨i + 1, by omega, by go_num, hide (fun j hj => by
                rcases Nat.lt_or_ge j i with h | h
                · exact unhide HJ j h
                · have e : j = i := by omega
                  rw [e]; exact unhide HO)⟩
              case measure => simp [intOf]; omega
    · have j1 : ¬ (i : Int) < (s.size : Int) := by omega
      have HO : Hid (nameB s = true) := hide (name_yes (by omega) (by omega) ((unhide HJ 0 (by omega)).2 rfl) (fun j hj => (unhide HJ j (by omega)).1))
      go_wp2_with fail
      go_ret
      exact ⟨by rw [← unhide HN, unhide HO]; rfl, rfl⟩
end Go.Proofs.Ytpdfggjhedgdlaa

namespace Go.Proofs.Ytpdfggjhedgdlaa
open Go.RowKit
set_option linter.unusedVariables false
set_option linter.unusedSimpArgs false

theorem below_drewM {B : Nat} {w w' : World} (h : Below B w w') (q : Nat) : Below B w (w'.drewN q) := ⟨h.os, h.tape, h.output, h.size, h.block⟩

/-- a module in its box -/
structure SeeM (w : World) (B g : Nat) (m : Md) (s1 s2 s3 : Value) (a1 : Option Addr) (c1 : Nat) (a2 : Option Addr) (c2 : Nat) (a3 : Option Addr) (c3 : Nat) : Prop where
  box : w.heap[g]? = some (.cells #[s1, s2, s3] 26 (0, 0))
  mod : IsM w (fun b => b < B) m a1 c1 a2 c2 a3 c3
  low : B ≤ w.heap.size

theorem SeeM.later {w w' : World} {B g : Nat} {m : Md} {s1 s2 s3 : Value} {a1 a2 a3 : Option Addr} {c1 c2 c3 : Nat} (h : SeeM w B g m s1 s2 s3 a1 c1 a2 c2 a3 c3) (hb : Below w.heap.size w w') : SeeM w' B g m s1 s2 s3 a1 c1 a2 c2 a3 c3 :=
  ⟨(hb.block g (lt_of_row h.box)).trans h.box, h.mod.later (hb.mono h.low), Nat.le_trans h.low hb.size⟩

theorem SeeM.drewN {w : World} {B g : Nat} {m : Md} {s1 s2 s3 : Value} {a1 a2 a3 : Option Addr} {c1 c2 c3 : Nat} (h : SeeM w B g m s1 s2 s3 a1 c1 a2 c2 a3 c3) (q : Nat) : SeeM (w.drewN q) B g m s1 s2 s3 a1 c1 a2 c2 a3 c3 := h.later (below_drewM (Below.refl _ _) q)

theorem name_less {s : ByteArray} (h : nameB s = true) : Op.bytesLess ((⟨#[]⟩ : ByteArray).toList) s.toList = true := by
  have hs : s.size ≠ 0 := by
    intro e
    unfold nameB at h
    rw [e] at h
    simp at h
  have h1 := size_someM hs
  have h0 : (⟨#[]⟩ : ByteArray).toList = [] := eq_of_beq (size_zeroM (s := ⟨#[]⟩) rfl)
  rw [h0]
  cases hl : s.toList with
  | nil => rw [hl] at h1; simp at h1
  | cons a r => simp [Op.bytesLess]

end Go.Proofs.Ytpdfggjhedgdlaa

namespace Go.Proofs.Ytpdfggjhedgdlaa
open Go.RowKit
set_option linter.unusedVariables false
set_option linter.unusedSimpArgs false

def markF : List Value := [.int .i64 77, .int .i64 0, .int .i64 0, .string ⟨#[]⟩]
def markX : List Value := [.string ⟨#[]⟩, .int .i64 77]

/-- the cells of a list of values that came in -/
def CsV (u : World) (B : Nat) (cs : List Vl) (al : Option Addr) (V : Nat → List Value) : Prop := ∀ i y, cs[i]? = some y → ∃ (a : Addr) (x0 x1 : Int) (x2 : ByteArray) (al' ak' : Option Addr) (ll' m' cl' ck' : Nat), al = some a ∧ a.block < B ∧ V i = [.int .i64 x0, .int .i64 x1, .string x2, .slice al' ll' cl', .slice ak' m' ck'] ∧ (∀ j v, (V i)[j]? = some v → u.cell? ((a.add (i * 5)).add j) = some v) ∧ IsV u B y (.agg (V i).toArray)

theorem CsV.later {u u' : World} {B : Nat} {cs : List Vl} {al : Option Addr} {V : Nat → List Value} (h : CsV u B cs al V) (hb : Below B u u') : CsV u' B cs al V := by
  intro i y hy
  obtain ⟨a, x0, x1, x2, al', ak', ll', m', cl', ck', h1, h2, h3, h4, h5⟩ := h i y hy
  refine ⟨a, x0, x1, x2, al', ak', ll', m', cl', ck', h1, h2, h3, fun j v hv => ?_, h5.mono hb⟩
  have e : u'.cell? ((a.add (i * 5)).add j) = u.cell? ((a.add (i * 5)).add j) := World.cell?_of_block (by rw [block_add, block_add]; exact hb.block _ h2)
  rw [e]
  exact h4 j v hv

theorem IsC.csV {w : World} {B : Nat} {cs : List Vl} {al : Option Addr} {cl : Nat} (h : IsC w (fun b => b < B) cs al cl) : ∃ V, CsV w B cs al V := by
  obtain ⟨_, _, _, _, _, V, hf, el⟩ := IsP.at h
  refine ⟨V, fun i y hy => ?_⟩
  have hi : i < cs.length := (List.getElem?_eq_some_iff.1 hy).1
  cases al with
  | none => have := (hf.nl rfl).1; omega
  | some a =>
    have hp := el i y hy
    obtain ⟨k', n', s', l', ks', al', ak', cl', ck', hy', hx⟩ := hp.shape
    have hVi : V i = [.int .i64 k', .int .i64 n', .string s', .slice al' l'.length cl', .slice ak' ks'.length ck'] := by
      have h1 := Value.agg.inj hx
      have h2 := congrArg Array.toList h1
      simpa using h2
    exact ⟨a, k', n', s', al', ak', _, _, cl', ck', rfl, (hf.hl a rfl i hi).1, hVi, (hf.hl a rfl i hi).2, hp⟩

theorem LentOk.wide {u : World} {lo hi lo' hi' : Nat} {v : Vl} {x y : Value} (h : LentOk u lo hi v x y) (h1 : lo' ≤ lo) (h2 : hi ≤ hi') : LentOk u lo' hi' v x y := by
  rcases h with ⟨a, b⟩ | h
  · exact Or.inl ⟨a, b.to (fun _ _ => rfl) (fun c hc => ⟨by omega, by omega⟩)⟩
  · exact Or.inr h

theorem LentOk.shape {u : World} {lo hi : Nat} {v : Vl} {x0 x1 : Int} {x2 : ByteArray} {x3 x4 : Option Addr} {n3 c3 n4 c4 : Nat} {y : Value} (h : LentOk u lo hi v (.agg #[.int .i64 x0, .int .i64 x1, .string x2, .slice x3 n3 c3, .slice x4 n4 c4]) y) : ∃ (k n : Int) (s : ByteArray) (a b : Option Addr) (p q p' q' : Nat), y = .agg #[.int .i64 k, .int .i64 n, .string s, .slice a p q, .slice b p' q'] := by
  rcases h with ⟨_, bl, bk, V, e, _, _⟩ | ⟨_, e⟩
  · exact ⟨_, _, _, _, _, _, _, _, _, e⟩
  · exact ⟨_, _, _, _, _, _, _, _, _, e⟩

/-- constants that are being lent: i of them have been -/
structure LC (w1 wr : World) (bc i N : Nat) (cs : List Vl) (V : Nat → List Value) (R : List (List Value)) : Prop where
  row : RowK wr bc 40 5 R
  rl : R.length = N
  hm : ∀ j, cs.length ≤ j → j < i → R[j]? = some markV
  el : ∀ j y, cs[j]? = some y → j < i → ∃ r, R[j]? = some r ∧ LentOk wr (bc + 1) wr.heap.size y (.agg (V j).toArray) (.agg r.toArray)
  below : Below bc w1 wr

theorem LC.next {w1 wr u : World} {bc i N : Nat} {cs : List Vl} {V : Nat → List Value} {R : List (List Value)} (h : LC w1 wr bc i N cs V R) (hi : i < N) (r : List Value) (hu : ∀ c, bc < c → c < wr.heap.size → u.heap[c]? = wr.heap[c]?) (hs : wr.heap.size ≤ u.heap.size) (hb : Below bc w1 u) (hr : RowK u bc 40 5 (R.set i r))
    (hm : cs.length ≤ i → r = markV) (he : ∀ y, cs[i]? = some y → LentOk u (bc + 1) u.heap.size y (.agg (V i).toArray) (.agg r.toArray)) : LC w1 u bc (i + 1) N cs V (R.set i r) where
  row := hr
  rl := by rw [List.length_set]; exact h.rl
  hm := fun j h1 h2 => by
    by_cases e : j = i
    · subst e
      rw [List.getElem?_set_self (by rw [h.rl]; exact hi), hm h1]
    · rw [List.getElem?_set_ne (by omega)]
      exact h.hm j h1 (by omega)
  el := fun j y hy h2 => by
    by_cases e : j = i
    · subst e
      exact ⟨r, by rw [List.getElem?_set_self (by rw [h.rl]; exact hi)], he y hy⟩
    · obtain ⟨r', h3, h4⟩ := h.el j y hy (by omega)
      exact ⟨r', by rw [List.getElem?_set_ne (by omega)]; exact h3, (h4.to (fun b hb1 hb2 => hu b (by omega) hb2)).wide (Nat.le_refl _) hs⟩
  below := hb

/-- a module that was lent -/
structure LentM (u : World) (lo hi : Nat) (m : Md) (V : Nat → List Value) (bc bf bx : Nat) (R : List (List Value)) : Prop where
  rc : RowK u bc 40 5 (R ++ [markV, markV])
  rl : R.length = m.cs.length
  el : ∀ j y, m.cs[j]? = some y → ∃ r, R[j]? = some r ∧ LentOk u lo hi y (.agg (V j).toArray) (.agg r.toArray)
  rf : RowK u bf 43 4 (m.fs.map fnV ++ [markF, markF])
  rx : RowK u bx 45 2 (m.xs.map exV ++ [markX, markX])
  b1 : lo ≤ bc ∧ bc < hi
  b2 : lo ≤ bf ∧ bf < hi
  b3 : lo ≤ bx ∧ bx < hi
  top : hi ≤ u.heap.size

theorem LentM.to {u u' : World} {lo hi : Nat} {m : Md} {V : Nat → List Value} {bc bf bx : Nat} {R : List (List Value)} (h : LentM u lo hi m V bc bf bx R) (hb : ∀ b, lo ≤ b → b < hi → u'.heap[b]? = u.heap[b]?) (hs : hi ≤ u'.heap.size) : LentM u' lo hi m V bc bf bx R where
  rc := h.rc.to (hb _ h.b1.1 h.b1.2)
  rl := h.rl
  el := fun j y hy => by
    obtain ⟨r, h1, h2⟩ := h.el j y hy
    exact ⟨r, h1, h2.to (fun b hb1 hb2 => hb b hb1 hb2)⟩
  rf := h.rf.to (hb _ h.b2.1 h.b2.2)
  rx := h.rx.to (hb _ h.b3.1 h.b3.2)
  b1 := h.b1
  b2 := h.b2
  b3 := h.b3
  top := hs

theorem LentM.later {u u' : World} {lo hi : Nat} {m : Md} {V : Nat → List Value} {bc bf bx : Nat} {R : List (List Value)} (h : LentM u lo hi m V bc bf bx R) (hb : Below u.heap.size u u') : LentM u' lo hi m V bc bf bx R :=
  h.to (fun b _ h2 => hb.block b (Nat.lt_of_lt_of_le h2 h.top)) (Nat.le_trans h.top hb.size)

/-- a lent module lies as a module does -/
theorem LentM.isM {u w0 : World} {lo hi : Nat} {m : Md} {V : Nat → List Value} {bc bf bx B C : Nat} {R : List (List Value)} {a1 a2 a3 : Option Addr} {c1 c2 c3 : Nat} {Q : Nat → Prop} (h : LentM u lo hi m V bc bf bx R) (hV : CsV u B m.cs a1 V) (hM : IsM w0 Q m a1 c1 a2 c2 a3 c3) (h1 : hi ≤ C) (h2 : B ≤ C) : IsM u (fun b => b < C) m (some ⟨bc, 0, none⟩) (m.cs.length + 2) (some ⟨bf, 0, none⟩) (m.fs.length + 2) (some ⟨bx, 0, none⟩) (m.xs.length + 2) where
  hc := by
    have hl := hM.len
    refine IsP.of (V := fun i => R.getD i []) ⟨by omega, by omega, by decide, (fun e => by cases e), fun _ => ⟨rfl, rfl⟩, Nat.le_add_right _ _, Nat.le_refl _, hl.1, by simp, by simp, ?_, ?_, (fun a h => by cases h), (fun t h => by cases h)⟩ ?_
    · intro a ha i hi'
      cases ha
      have hR : R[i]? = some (R.getD i []) := by rw [List.getD_eq_getElem?_getD, List.getElem?_eq_getElem (by rw [h.rl]; exact hi')]; rfl
      refine ⟨by show bc < C; have := h.b1; omega, fun j v hv => ?_⟩
      rw [addK, addK0]
      exact h.rc.cell i _ (by rw [List.getElem?_append_left (by rw [h.rl]; exact hi')]; exact hR) j v hv
    · intro i hi'
      have hR : R[i]? = some (R.getD i []) := by rw [List.getD_eq_getElem?_getD, List.getElem?_eq_getElem (by rw [h.rl]; exact hi')]; rfl
      exact h.rc.len _ (List.mem_append_left _ (List.mem_of_getElem? hR))
    · intro i y hy
      obtain ⟨r, hr, hk⟩ := h.el i y hy
      obtain ⟨_, _, _, _, _, _, _, _, _, _, _, _, _, _, hv⟩ := hV i y hy
      have e : R.getD i [] = r := by rw [List.getD_eq_getElem?_getD, hr]; rfl
      show IsP u _ y (.agg (R.getD i []).toArray)
      rw [e]
      exact hk.isV hv h1 h2
  hf := by
    have := h.rf.isT (P := fun b => b < C) (A := m.fs.map fnV) (cap := m.fs.length + 2) (by have := h.b2; omega) (by simp) (by have := hM.len; simpa using this.2.1)
    exact this
  hx := by
    have := h.rx.isT (P := fun b => b < C) (A := m.xs.map exV) (cap := m.xs.length + 2) (by have := h.b3; omega) (by simp) (by have := hM.len; simpa using this.2.2)
    exact this
  bf := hM.bf
  bx := hM.bx

theorem fnV_rows (fs : List Fn) : ∀ r ∈ fs.map fnV, r.length = 4 ∧ ∀ v ∈ r, v.oneCell' = true := by
  intro r hr
  obtain ⟨f, _, rfl⟩ := List.mem_map.1 hr
  refine ⟨rfl, fun v hv => ?_⟩
  simp only [fnV, List.mem_cons, List.not_mem_nil, or_false] at hv
  rcases hv with rfl | rfl | rfl | rfl <;> rfl

theorem exV_rows (xs : List Ex) : ∀ r ∈ xs.map exV, r.length = 2 ∧ ∀ v ∈ r, v.oneCell' = true := by
  intro r hr
  obtain ⟨f, _, rfl⟩ := List.mem_map.1 hr
  refine ⟨rfl, fun v hv => ?_⟩
  simp only [exV, List.mem_cons, List.not_mem_nil, or_false] at hv
  rcases hv with rfl | rfl <;> rfl

theorem set_mid (A : List (List Value)) (t y : List Value) (T : List (List Value)) : (A ++ t :: T).set A.length y = A ++ y :: T := by
  rw [List.set_append_right _ _ (Nat.le_refl _), Nat.sub_self, List.set_cons_zero]

theorem three_set (w : World) (g : Nat) (T : TypeId) (c0 c1 c2 x0 x1 x2 : Value) (h : w.heap[g]? = some (.cells #[c0, c1, c2] T (0, 0))) :
    (((w.setCell ⟨g, 0, none⟩ x0).setCell ⟨g, 1, none⟩ x1).setCell ⟨g, 2, none⟩ x2).heap[g]? = some (.cells #[x0, x1, x2] T (0, 0)) := by
  have h1 := heap_setCell_same w g 0 _ _ x0 h
  have h2 := heap_setCell_same _ g 1 _ _ x1 h1
  have h3 := heap_setCell_same _ g 2 _ _ x2 h2
  simpa using h3

theorem split2 {α : Type} (R : List α) (n : Nat) (a b : α) (hl : R.length = n + 2) (ha : R[n]? = some a) (hb : R[n + 1]? = some b) : R = R.take n ++ [a, b] := by
  apply List.ext_getElem?
  intro i
  rcases Nat.lt_or_ge i n with h | h
  · rw [List.getElem?_append_left (by rw [List.length_take]; omega), List.getElem?_take_of_lt h]
  · rw [List.getElem?_append_right (by rw [List.length_take]; omega), List.length_take, Nat.min_eq_left (by omega)]
    rcases (show i = n ∨ i = n + 1 ∨ n + 2 ≤ i by omega) with rfl | rfl | h2
    · rw [Nat.sub_self, ha]; rfl
    · rw [show n + 1 - n = 1 by omega, hb]; rfl
    · rw [List.getElem?_eq_none (by omega), List.getElem?_eq_none (by simp; omega)]

theorem infoMF : (Try.prog.info? 43).map (fun i => (i.zero, i.size, i.bytes)) = some (some (.agg #[.int .i64 0, .int .i64 0, .int .i64 0, .string ⟨#[]⟩]), 4, 40) := by kernel_rfl
theorem infoMX : (Try.prog.info? 45).map (fun i => (i.zero, i.size, i.bytes)) = some (some (.agg #[.string ⟨#[]⟩, .int .i64 0]), 2, 24) := by kernel_rfl
end Go.Proofs.Ytpdfggjhedgdlaa
