/-
  Layer 18 (print): has a tree no more parts than may be; conditions: the nodes lie in memory.
-/
import Derived.Test.YtjkfkneibcjgaaaGreatDoorA14
set_option linter.unusedVariables false
set_option linter.unusedSimpArgs false
namespace Go.Proofs.YtjkfkneibcjgaaaGreatDoor
open Go.RowKit
set_option linter.unusedVariables false
set_option linter.unusedSimpArgs false

/-- all blocks but one as before -/
structure Bes (gl : Nat) (w w' : World) : Prop where
  os : w'.os = w.os
  tape : w'.tape = w.tape
  output : w'.output = w.output
  size : w.heap.size ≤ w'.heap.size
  block : ∀ k, k < w.heap.size → k ≠ gl → w'.heap[k]? = w.heap[k]?
theorem Bes.trans {gl : Nat} {a b c : World} (h : Bes gl a b) (k : Bes gl b c) : Bes gl a c :=
  ⟨k.os.trans h.os, k.tape.trans h.tape, k.output.trans h.output, Nat.le_trans h.size k.size, fun i hi hn => (k.block i (Nat.lt_of_lt_of_le hi h.size) hn).trans (h.block i hi hn)⟩
theorem Bes.of {gl : Nat} {a b : World} (h : Below a.heap.size a b) : Bes gl a b := ⟨h.os, h.tape, h.output, h.size, fun k hk _ => h.block k hk⟩
theorem Bes.below {gl B : Nat} {a b : World} (h : Bes gl a b) (hB : B ≤ gl) (hs : B ≤ a.heap.size) : Below B a b := ⟨h.os, h.tape, h.output, h.size, fun k hk => h.block k (Nat.lt_of_lt_of_le hk hs) (by omega)⟩
theorem Bes.set {gl : Nat} {a b : World} (h : Bes gl a b) (v : Value) : Bes gl a (b.setCell ⟨gl, 0, none⟩ v) := by
  have hb := (Below.refl 0 b).setCell (p := ⟨gl, 0, none⟩) (Nat.zero_le _) v
  exact ⟨hb.os.trans h.os, hb.tape.trans h.tape, hb.output.trans h.output, Nat.le_trans h.size hb.size, fun k hk hn => by rw [heap_setCell_other _ _ _ _ hn]; exact h.block k hk hn⟩
/-- what small has in hand: how many are left; itself -/
structure Sml (w : World) (gl gv : Nat) (x : Int) : Prop where
  lf : w.heap[gl]? = some (.cells #[.int .i64 x] 3 (0, 0))
  fv : w.heap[gv]? = some (.cells #[.func (.func 58) #[] #[.pointer (some ⟨gl, 0, none⟩), .pointer (some ⟨gv, 0, none⟩)]] 62 (0, 0))
theorem Sml.set {w : World} {gl gv : Nat} {x : Int} (h : Sml w gl gv x) (hn : gv ≠ gl) (y : Int) : Sml (w.setCell ⟨gl, 0, none⟩ (.int .i64 y)) gl gv y :=
  ⟨by rw [heap_setCell_same w gl 0 _ _ _ h.lf]; rfl, by rw [heap_setCell_other _ _ _ _ hn]; exact h.fv⟩
theorem Sml.later {w u : World} {gl gv : Nat} {x : Int} (h : Sml w gl gv x) (hb : Below w.heap.size w u) : Sml u gl gv x := ⟨Below.cellsAt hb h.lf, Below.cellsAt hb h.fv⟩
theorem cvs_le : ∀ (l : List Vl) (i : Nat), cvs (l.drop i) ≤ cvs l := by
  intro l
  induction l with
  | nil => intro i; simp
  | cons a r ih =>
    intro i
    cases i with
    | zero => simp
    | succ i => obtain ⟨k, n, s, l, ks⟩ := a; have := ih i; simp only [List.drop_succ_cons, cvs]; omega
theorem cvs_mem : ∀ (l : List Vl) (i : Nat) (y : Vl), l[i]? = some y → 1 + cvs y.l ≤ cvs l := by
  intro l i y h
  have h1 := cvs_at l i y h
  have h2 : ∀ (l : List Vl) (i : Nat), cvs (l.drop i) ≤ cvs l := by
    intro l
    induction l with
    | nil => intro i; simp
    | cons a r ih =>
      intro i
      cases i with
      | zero => simp
      | succ i => obtain ⟨k, n, s, l, ks⟩ := a; have := ih i; simp only [List.drop_succ_cons, cvs]; omega
  have := h2 l i
  omega
theorem isV_lt {w : World} {B : Nat} {kind n : Int} {s : ByteArray} {l : List Vl} {ks : List ByteArray} {al ak : Option Addr} {ll cl lk ck : Nat} (h : IsV w B (.mk kind n s l ks) (.agg #[.int .i64 kind, .int .i64 n, .string s, .slice al ll cl, .slice ak lk ck])) : ll = l.length ∧ ll ≤ cl ∧ ll ≤ 140737488351232 := by
  obtain ⟨_, _, _, h1, h2, V, hf, _⟩ := IsP.at h
  exact ⟨h1, by rw [h1]; exact hf.ll, by rw [h1]; exact hf.bl⟩
/-- what a call of values does -/
def VlsAt (N : Nat) : Prop := ∀ (kind n : Int) (s : ByteArray) (l : List Vl) (ks : List ByteArray) (al ak : Option Addr) (ll cl lk ck x B gl gv : Nat) (w : World), cvs l ≤ N → IsV w B (.mk kind n s l ks) (.agg #[.int .i64 kind, .int .i64 n, .string s, .slice al ll cl, .slice ak lk ck]) → B ≤ gl → B ≤ gv → gv ≠ gl → B ≤ w.heap.size → x ≤ 20000 → Sml w gl gv (x : Int) →
  Calls Tryz.prog 58 #[.slice al ll cl, .pointer (some ⟨gl, 0, none⟩), .pointer (some ⟨gv, 0, none⟩)] w fun e w' => e = .returned (.bool (decide (cvs l ≤ x))) ∧ Bes gl w w' ∧ (decide (cvs l ≤ x) = true → Sml w' gl gv ((x - cvs l : Nat) : Int))
theorem call_vals (x : Array Value) (u : World) : Sem.run Tryz.prog (callFunc 58 x) u = .ok (.enter 58 x) u := by kernel_rfl

set_option maxRecDepth 100000 in
set_option maxHeartbeats 2000000 in
theorem values_step (N : Nat) (ih : ∀ M, M < N → VlsAt M) : VlsAt N := by
  intro kind n s l ks al ak ll cl lk ck x B gl gv w hN hv hl hg hne hB hx hs
  obtain ⟨hll, hlc, hlb⟩ := isV_lt hv
  have HH := hide (And.intro hv (And.intro hs (And.intro hll (And.intro hB hN))))
  have HG := hide (And.intro hl (And.intro hg hne))
  obtain ⟨R, hR⟩ : ∃ R, decide (cvs l ≤ x) = R := ⟨_, rfl⟩
  rw [hR]
  have HR := hide hR
  obtain ⟨Z, hZ⟩ : ∃ Z, x - cvs l = Z := ⟨_, rfl⟩
  rw [hZ]
  have HZ := hide hZ
  clear hv hs hll hB hN hl hg hR hZ
  go_enter Tryz.func58, Tryz.ntmps58
  go_wp2_with fail
  go_loopw [9] (fun xx wr => ∃ (i y : Nat), xx = .int .i64 (i : Int) ∧ i ≤ ll ∧ y ≤ 20000 ∧ Hid (Bes gl w wr) ∧ Hid (Sml wr gl gv (y : Int)) ∧ Hid (x = y + (cvs l - cvs (l.drop i)))) (fun xx _ => ll - (intOf xx).toNat)
  case atStart => exact ⟨0, x, rfl, Nat.zero_le _, hx, hide ⟨rfl, rfl, rfl, Nat.le_refl _, fun _ _ _ => rfl⟩, hide (unhide HH).2.1, hide (by simp)⟩
  case round =>
    obtain ⟨i, y, rfl, hin, hy20, HBB, HS, HE⟩ := hrel
    obtain ⟨wq, hwq⟩ : ∃ wq, wq = wr := ⟨_, rfl⟩
    subst hwq
    by_cases hi : i < ll
    · have i2 : (i : Int) < (ll : Int) := by omega
      obtain ⟨hv, hs, hll, hB, hN⟩ := unhide HH
      obtain ⟨hl, hg, hne⟩ := unhide HG
      have bq := (unhide HBB).below hl hB
      obtain ⟨z, hz⟩ : ∃ z, l[i]? = some z := ⟨_, List.getElem?_eq_getElem (by omega)⟩
      obtain ⟨a, y0, y1, y2, al', ak', ll', m', cl', ck', rfl, hab, hce, hve⟩ := (hv.mono bq).elem i z hz
      have e0 : wq.cell? (a.add (i * 5)) = some (.int .i64 y0) := hce 0 (.int .i64 y0) rfl
      have e1 : wq.cell? ⟨(a.add (i * 5)).block, (a.add (i * 5)).off + 1, none⟩ = some (.int .i64 y1) := hce 1 (.int .i64 y1) rfl
      have e2 : wq.cell? ⟨(a.add (i * 5)).block, (a.add (i * 5)).off + 2, none⟩ = some (.string y2) := hce 2 (.string y2) rfl
      have e3 : wq.cell? ⟨(a.add (i * 5)).block, (a.add (i * 5)).off + 3, none⟩ = some (.slice al' ll' cl') := hce 3 (.slice al' ll' cl') rfl
      have e4 : wq.cell? ⟨(a.add (i * 5)).block, (a.add (i * 5)).off + 4, none⟩ = some (.slice ak' m' ck') := hce 4 (.slice ak' m' ck') rfl
      obtain ⟨w5, hw5⟩ : ∃ w5, wq.alloc (.cells #[(.int .i64 y0), (.int .i64 y1), (.string y2), (.slice al' ll' cl'), (.slice ak' m' ck')] 26) = w5 := ⟨_, rfl⟩
      have BX5 := Box.mk' wq (.int .i64 y0) (.int .i64 y1) (.string y2) (.slice al' ll' cl') (.slice ak' m' ck')
      rw [hw5] at BX5
      obtain ⟨g5, hg5⟩ : ∃ g, wq.heap.size = g := ⟨_, rfl⟩
      have S5 := (unhide HS).later BX5.below
      obtain ⟨q1, f1⟩ := one_cell S5.lf
      have hgl5 : gl < g5 := by rw [← hg5]; exact (Array.getElem?_eq_some_iff.1 (unhide HS).lf).1
      obtain ⟨w6, hw6⟩ : ∃ w6, w5.setCell ⟨gl, 0, none⟩ (.int .i64 ((y : Int) - 1)) = w6 := ⟨_, rfl⟩
      have S6 : Sml w6 gl gv ((y : Int) - 1) := by rw [← hw6]; exact S5.set hne _
      have R6 : w6.heap[g5]? = some (.cells #[(.int .i64 y0), (.int .i64 y1), (.string y2), (.slice al' ll' cl'), (.slice ak' m' ck')] 26 (0, 0)) := by rw [← hw6, heap_setCell_other _ _ _ _ (by simp; omega), ← hg5]; exact BX5.row
      have B6 : Bes gl wq w6 := by rw [← hw6]; exact (Bes.of BX5.below).set _
      have hBq : B ≤ wq.heap.size := Nat.le_trans hB (unhide HBB).size
      have hv6 : IsV w6 B z (.agg #[.int .i64 y0, .int .i64 y1, .string y2, .slice al' ll' cl', .slice ak' m' ck']) := hve.mono (B6.below hl hBq)
      have X6 := hide ((unhide HBB).trans B6)
      have HY5 := hide hw5
      have HY6 := hide hw6
      have HV6 := hide (And.intro hv6 (And.intro S6 (And.intro hBq B6)))
      have HGG := hide hg5
      have HR5 := hide (row_cell R6).2.2.2.1
      have HD := hide hz
      clear hv hs hB hN hll hl hg bq hz hce hve BX5 S5 S6 R6 B6 hBq hv6 hw5 hw6
      go_upto_region 4 with fail
      rw [unhide HY5]
      try rw [unhide HGG]
      have e5 : IntKind.i64.wrap ((y : Int) - 1) = (y : Int) - 1 := by rw [IntKind.wrap_i64]; omega
      clear HY5 e0 e1 e2 e3 e4
      go_upto_region 5 with fail
      rw [unhide HY6]
      clear HY6 q1 f1
      obtain ⟨q1, f1⟩ := one_cell (unhide HV6).2.1.lf
      by_cases hy0 : y = 0
      · subst hy0
        have l1 : ((0 : Nat) : Int) - 1 < 0 := by omega
        have hF : R = false := by
          rw [← unhide HR]
          have h1 := unhide HE
          have h2 := cvs_at l i z (unhide HD)
          have h3 := cvs_le l i
          exact decide_eq_false (by omega)
        have HF := hide hF
        clear hF
        go_wp2_with fail
        go_ret
        exact ⟨by rw [unhide HF]; rfl, unhide X6, fun h => by rw [unhide HF] at h; cases h⟩
      · obtain ⟨m, hm⟩ : ∃ m, y = m + 1 := ⟨y - 1, by omega⟩
        have em : (y : Int) - 1 = (m : Int) := by omega
        have HM := hide hm
        have hm20 : m ≤ 20000 := by omega
        rw [em] at q1 HV6
        obtain ⟨hv6, S6, hBq, B6⟩ := unhide HV6
        obtain ⟨k', n', s', l', ks', _, _, _, _, rfl, _⟩ := hv6.shape
        obtain ⟨hv6, h1, h2⟩ : IsV w6 B (.mk k' n' s' l' ks') (.agg #[.int .i64 k', .int .i64 n', .string s', .slice al' ll' cl', .slice ak' m' ck']) ∧ y0 = k' ∧ y1 = n' := by
          obtain ⟨e1, e2, e3, _⟩ := IsP.at hv6
          subst e1 e2 e3
          exact ⟨hv6, rfl, rfl⟩
        have q2 := (one_cell S6.fv).1
        have CI := hide (ih (cvs l') (by have h5 := cvs_mem l i _ (unhide HD); have h6 := (unhide HH).2.2.2.2; simp only at h5; omega) k' n' s' l' ks' al' ak' ll' cl' m' ck' m B gl gv w6 (Nat.le_refl _) hv6 (unhide HG).1 (unhide HG).2.1 (unhide HG).2.2 (Nat.le_trans hBq B6.size) hm20 S6)
        have HW6 := hide (And.intro B6 S6)
        have l1 : ¬ (m : Int) < 0 := by omega
        obtain ⟨Q, hQ⟩ : ∃ Q, decide (cvs l' ≤ m) = Q := ⟨_, rfl⟩
        rw [hQ] at CI
        have HQ := hide hQ
        have HR6 := hide (show w6.cell? ⟨g5, 3, none⟩ = some (.slice al' ll' cl') from unhide HR5)
        have r3 := unhide HR6
        clear hQ hm hv6 S6 hBq B6 h1 h2 HV6 em hy0
        go_wp2_with fail
        refine (unhide CI).mono ?_
        rintro e w7 ⟨rfl, b7, s7⟩
        have X7 := hide ((unhide X6).trans b7)
        have S7 := hide s7
        clear b7 s7 CI q1 f1 q2 r3
        cases Q with
        | false =>
          have hF : R = false := by
            rw [← unhide HR]
            have h1 := unhide HE
            have h2 := cvs_at l i _ (unhide HD)
            have h3 := cvs_le l i
            have h4 := of_decide_eq_false (unhide HQ)
            have h5 := unhide HM
            simp only at h2
            exact decide_eq_false (by omega)
          have HF := hide hF
          clear hF
          go_wp2_with fail
          go_ret
          exact ⟨by rw [unhide HF]; rfl, unhide X7, fun h => by rw [unhide HF] at h; cases h⟩
        | true =>
          have h4 := of_decide_eq_true (unhide HQ)
          have HE2 : Hid (x = (m - cvs l') + (cvs l - cvs (l.drop (i + 1)))) := hide (by
            have h1 := unhide HE
            have h2 := cvs_at l i _ (unhide HD)
            have h3 := cvs_le l i
            have h5 := unhide HM
            simp only at h2
            omega)
          have S8 := hide (unhide S7 rfl)
          have hq20 : m - cvs l' ≤ 20000 := by omega
          clear h4 S7 HS HE HBB
          go_wp2_with fail
          go_roundw
          case rel => exact ⟨i + 1, m - cvs l', by go_num, by omega, hq20, X7, S8, HE2⟩
          case measure => simp [intOf]; omega
    · have i2 : ¬ (i : Int) < (ll : Int) := by omega
      have hin2 : i = ll := by omega
      have hE : x = y + cvs l := by
        have h1 := unhide HE
        rw [hin2, (unhide HH).2.2.1, List.drop_length] at h1
        simpa [cvs] using h1
      have hT : R = true := by rw [← unhide HR]; exact decide_eq_true (by omega)
      have hZ2 : Z = y := by rw [← unhide HZ]; omega
      have HT := hide hT
      have HZ2 := hide hZ2
      clear hE hT hZ2
      go_wp2_with fail
      go_ret
      exact ⟨by rw [unhide HT]; rfl, unhide HBB, fun _ => by rw [unhide HZ2]; exact unhide HS⟩

theorem vals_all (N : Nat) : VlsAt N := by
  induction N using Nat.strongRecOn with
  | ind N ih => exact values_step N ih
end Go.Proofs.YtjkfkneibcjgaaaGreatDoor
