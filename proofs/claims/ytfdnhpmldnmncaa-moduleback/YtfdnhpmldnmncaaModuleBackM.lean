/-
  A right module is read from its bytes, and from no others behind which, or ahead of whose end, something stands (ModuleBackSaid); no condition but the form's own reach.
-/
import Derived.Test.YtfdnhpmldnmncaaRows
import Derived.Test.YtfdnhpmldnmncaaDC
import Derived.Test.YtfdnhpmldnmncaaMR
import Derived.Test.YtfdnhpmldnmncaaMBk
import Derived.Test.YtfdnhpmldnmncaaMOp
import Derived.ShutString
import Derived.ChangeOld
import Derived.Deep.RegionHeld3
import Derived.BigQuiet
namespace Go.Proofs.Ytfdnhpmldnmncaa.moduleBack
open Go.ChangeShapes Go.WideShapes Go.ChangeAt Go.RowKit
set_option linter.unusedVariables false

theorem own : ownKnob Try.prog.godebug = none := by kernel_rfl
theorem laidOut : laidOutB Try.prog = true := by kernel_rfl

theorem codeM_yes {m : Md} (h : rightM m = true) : codeM m = 0 ∧ bytesM m = encM m := by unfold codeM bytesM; rw [h]; exact ⟨rfl, rfl⟩
theorem codeM_no {m : Md} (h : rightM m = false) : codeM m = 90 ∧ bytesM m = [] := by unfold codeM bytesM; rw [h]; exact ⟨rfl, rfl⟩

theorem encM_pos (m : Md) : 0 < (encM m).length := by
  have h1 := outM_le m 0 3
  have h2 : (outM m 0).length = 4 := rfl
  unfold encM
  rw [Nat.zero_add] at h1
  omega

/-- what Decode says, whatever it reads -/
theorem decode_code (ao : Option Addr) (len cap : Nat) (zs : List Int) (w : World) (hz : Row8 w ao len cap zs) (hm : cap ≤ maxLen) (ok : Bool) (h1 : ok = true → ∃ m, decM zs = .ok m) (h0 : ok = false → ∀ m, decM zs ≠ .ok m) :
    Calls Try.prog 7 #[.slice ao len cap] w fun e w' => ∃ (y1 y2 y3 : Option Addr) (l1 l2 l3 k1 k2 k3 : Nat) (p c : Int), e = .returned (.tuple #[.agg #[.slice y1 l1 k1, .slice y2 l2 k2, .slice y3 l3 k3], .int .i64 p, .int .i64 c]) ∧ (ok = true → c = 0) ∧ (ok = false → ¬ c = 0) ∧ Below w.heap.size w w' := by
  refine (decodeM_any ao len cap zs w hz hm).mono fun e w' h => ?_
  cases hD : decM zs with
  | error p =>
    rw [hD] at h
    obtain ⟨rfl, hb⟩ := h
    exact ⟨_, _, _, _, _, _, _, _, _, _, _, rfl, (fun e => by obtain ⟨m, hm⟩ := h1 e; rw [hD] at hm; cases hm), (fun _ => (decM_bad hz.small hD).2), hb⟩
  | ok m =>
    rw [hD] at h
    obtain ⟨a1, a2, a3, c1, c2, c3, rfl, _, hb⟩ := h
    exact ⟨_, _, _, _, _, _, _, _, _, _, _, rfl, (fun _ => rfl), (fun e => absurd hD (h0 e m)), hb⟩

theorem own_row8 {w : World} {base n : Nat} {v : Value} {zs : List Int} (h : w.ownsRow base 5 1 v n (zs.map (Value.int .u8))) (hp : 0 < n) (hs : ∀ c ∈ zs, 0 ≤ c ∧ c ≤ 255) : ∃ a c, v = .slice a n c ∧ Row8 w a n c zs ∧ c ≤ maxLen := by
  obtain ⟨a, c, rfl, q1, q2, q3, _⟩ := slice_form h
  rcases h.2 with ⟨_, h0⟩ | ⟨g, c', cur, he, _⟩
  · omega
  · simp only [Value.slice.injEq, true_and] at he
    obtain ⟨rfl, rfl⟩ := he
    exact ⟨_, _, rfl, Row8.own h hs, q3⟩

theorem below_grown {B g : Nat} {w u u' : World} (h : Below B w u) (hs : B ≤ u.heap.size) (hg : u.grownBy u' (some g)) (hB : B ≤ g) : Below B w u' :=
  ⟨hg.os.trans h.os, hg.tape.trans h.tape, hg.output.trans h.output, Nat.le_trans h.size hg.size, fun b hb => (hg.block b (by omega) (by intro e; cases e; omega)).trans (h.block b hb)⟩

/-- the module and the bytes behind, at a later time -/
structure St (w u : World) (B g : Nat) (m : Md) (s1 s2 s3 : Value) (a1 : Option Addr) (c1 : Nat) (a2 : Option Addr) (c2 : Nat) (a3 : Option Addr) (c3 : Nat) (ar : Option Addr) (lr cr : Nat) (rs : List Int) : Prop where
  box : u.heap[g]? = some (.cells #[s1, s2, s3] 28 (0, 0))
  mod : IsM u (fun b => b < B) m a1 c1 a2 c2 a3 c3
  low : B ≤ u.heap.size
  row : Row8 u ar lr cr rs
  bel : Below w.heap.size w u

set_option maxRecDepth 100000 in
set_option maxHeartbeats 1000000 in
theorem walk_no (m : Md) (a1 a2 a3 ar : Option Addr) (n1 c1 n2 c2 n3 c3 B lr cr : Nat) (cut : Int) (rs : List Int) (w : World) (hn1 : m.cs.length = n1) (hn2 : m.fs.length = n2) (hn3 : m.xs.length = n3)
    (h : IsM w (fun b => b < B) m a1 c1 a2 c2 a3 c3) (hB : B ≤ w.heap.size) (hr : Row8 w ar lr cr rs) (hno : rightM m = false) :
    Calls Try.prog 5 #[.agg #[.slice a1 n1 c1, .slice a2 n2 c2, .slice a3 n3 c3], .slice ar lr cr, .int .i64 cut] w fun e w' => e = .returned (.bool true) ∧ Below w.heap.size w w' := by
  obtain ⟨g, hg⟩ : ∃ g, w.heap.size = g := ⟨_, rfl⟩
  have BX := BoxN.mk' w #[.slice a1 n1 c1, .slice a2 n2 c2, .slice a3 n3 c3] 28
  obtain ⟨w1, hw1⟩ : ∃ w1, w.alloc (.cells #[.slice a1 n1 c1, .slice a2 n2 c2, .slice a3 n3 c3] 28) = w1 := ⟨_, rfl⟩
  rw [hw1] at BX
  have H2 : Hid (∀ u, Below w1.heap.size w1 u → St w u B g m (.slice a1 n1 c1) (.slice a2 n2 c2) (.slice a3 n3 c3) a1 c1 a2 c2 a3 c3 ar lr cr rs) := hide (fun u hu => by
    have q1 := BX.size
    have q2 : Below w.heap.size w u := BX.below.trans (hu.mono BX.below.size)
    exact ⟨(hu.block g (by omega)).trans (by rw [← hg]; exact BX.row), h.later (q2.mono hB), Nat.le_trans hB q2.size, hr.later q2, q2⟩)
  have CS := hide (shown_any w1)
  have CR := fun u (hu : Below w1.heap.size w1 u) => hide (rightM_any m a1 a2 a3 n1 c1 n2 c2 n3 c3 B u hn1 hn2 hn3 (unhide H2 u hu).mod (unhide H2 u hu).low)
  have CE := fun u (hu : Below w1.heap.size w1 u) => hide (encodeM_any m a1 a2 a3 n1 c1 n2 c2 n3 c3 B u hn1 hn2 hn3 (unhide H2 u hu).mod (unhide H2 u hu).low)
  obtain ⟨k1, k2⟩ := codeM_no hno
  simp only [hno] at CR
  simp only [k1, k2] at CE
  have HG := hide hg
  clear h hn1 hn2 hn3 hr hno k1 k2 BX
  go_enter Try.func5, Try.ntmps5
  go_wp2_with fail
  refine (unhide CS).mono ?_
  rintro e u ⟨rfl, b1'⟩
  have B1 := hide b1'
  obtain ⟨m0, m1, m2⟩ := row_cell3 (unhide H2 u b1').box
  clear b1'
  go_wp2_with fail
  refine (unhide (CR u (unhide B1))).mono ?_
  rintro e u2 ⟨rfl, b2'⟩
  have B2 := hide ((unhide B1).trans (b2'.mono (unhide B1).size))
  obtain ⟨m3, m4, m5⟩ := row_cell3 (unhide H2 u2 (unhide B2)).box
  clear b2'
  go_wp2_with fail
  refine (unhide (CE u2 (unhide B2))).mono ?_
  rintro e u3 ⟨ao, len, cap, rfl, r3, b3', _, _, _⟩
  have h0 := r3.length
  simp only [List.length_nil] at h0
  subst h0
  have B3 := hide (unhide H2 u3 ((unhide B2).trans (b3'.mono (unhide B2).size))).bel
  clear b3' r3
  go_wp2_with fail
  go_ret
  exact ⟨by simp, by first | exact unhide B3 | (rw [← unhide HG]; exact unhide B3)⟩

set_option maxRecDepth 100000 in
set_option maxHeartbeats 2000000 in
theorem walk_yes (m : Md) (a1 a2 a3 ar : Option Addr) (n1 c1 n2 c2 n3 c3 B lr cr : Nat) (cut : Int) (rs : List Int) (w : World) (hn1 : m.cs.length = n1) (hn2 : m.fs.length = n2) (hn3 : m.xs.length = n3)
    (h : IsM w (fun b => b < B) m a1 c1 a2 c2 a3 c3) (hB : B ≤ w.heap.size) (hr : Row8 w ar lr cr rs) (hlr : lr ≤ 140737488351232) (hyes : rightM m = true) :
    Calls Try.prog 5 #[.agg #[.slice a1 n1 c1, .slice a2 n2 c2, .slice a3 n3 c3], .slice ar lr cr, .int .i64 cut] w fun e w' => e = .returned (.bool true) ∧ Below w.heap.size w w' := by
  obtain ⟨g, hg⟩ : ∃ g, w.heap.size = g := ⟨_, rfl⟩
  have BX := BoxN.mk' w #[.slice a1 n1 c1, .slice a2 n2 c2, .slice a3 n3 c3] 28
  obtain ⟨w1, hw1⟩ : ∃ w1, w.alloc (.cells #[.slice a1 n1 c1, .slice a2 n2 c2, .slice a3 n3 c3] 28) = w1 := ⟨_, rfl⟩
  rw [hw1] at BX
  have H2 : Hid (∀ u, Below w1.heap.size w1 u → St w u B g m (.slice a1 n1 c1) (.slice a2 n2 c2) (.slice a3 n3 c3) a1 c1 a2 c2 a3 c3 ar lr cr rs) := hide (fun u hu => by
    have q1 := BX.size
    have q2 : Below w.heap.size w u := BX.below.trans (hu.mono BX.below.size)
    exact ⟨(hu.block g (by omega)).trans (by rw [← hg]; exact BX.row), h.later (q2.mono hB), Nat.le_trans hB q2.size, hr.later q2, q2⟩)
  have CS := hide (shown_any w1)
  have CR := fun u (hu : Below w1.heap.size w1 u) => hide (rightM_any m a1 a2 a3 n1 c1 n2 c2 n3 c3 B u hn1 hn2 hn3 (unhide H2 u hu).mod (unhide H2 u hu).low)
  have CE := fun u (hu : Below w1.heap.size w1 u) => hide (encodeM_any m a1 a2 a3 n1 c1 n2 c2 n3 c3 B u hn1 hn2 hn3 (unhide H2 u hu).mod (unhide H2 u hu).low)
  obtain ⟨k1, k2⟩ := codeM_yes hyes
  have hft := cs_fit h.hc
  have hlim : (encM m).length ≤ 65536 := by
    have := hyes
    unfold rightM at this
    simp only [Bool.and_eq_true, decide_eq_true_eq] at this
    exact this.2
  have HF := hide (And.intro hyes (And.intro hft hlim))
  have hsm : ∀ c ∈ encM m, 0 ≤ c ∧ c ≤ 255 := by
    refine outM_small ?_ hft 3 (Nat.le_refl _)
    have := hyes
    unfold rightM at this
    simp only [Bool.and_eq_true] at this
    exact this.1
  have HSM := hide hsm
  have HRS := hide (And.intro hr.length hr.small)
  simp only [hyes] at CR
  simp only [k1, k2] at CE
  have HG := hide hg
  have HN := hide (And.intro hn1 (And.intro hn2 hn3))
  have HLR := hide hlr
  clear h hn1 hn2 hn3 hr hyes k1 k2 BX hft hlim hsm hlr
  go_enter Try.func5, Try.ntmps5
  go_wp2_with fail
  refine (unhide CS).mono ?_
  rintro e u ⟨rfl, b1'⟩
  have B1 := hide b1'
  obtain ⟨m0, m1, m2⟩ := row_cell3 (unhide H2 u b1').box
  clear b1'
  go_wp2_with fail
  refine (unhide (CR u (unhide B1))).mono ?_
  rintro e u2 ⟨rfl, b2'⟩
  have B2 := hide ((unhide B1).trans (b2'.mono (unhide B1).size))
  obtain ⟨m3, m4, m5⟩ := row_cell3 (unhide H2 u2 (unhide B2)).box
  clear b2' m0 m1 m2
  go_wp2_with fail
  refine (unhide (CE u2 (unhide B2))).mono ?_
  rintro e u3 ⟨ao, len, cap, rfl, r3, b3', _, hcap, o3⟩
  have o3 := o3 (unhide HF).1
  have hln := r3.length
  have hpos : 0 < len := by have := encM_pos m; omega
  obtain ⟨gb, hgb⟩ : ∃ gb, ao = some ⟨gb, 0, none⟩ ∧ u2.heap.size ≤ gb ∧ gb < u3.heap.size := by
    obtain ⟨ao', cap', e, q1, q2, q3, q4⟩ := slice_form o3
    cases e
    cases ao with
    | none => have := (q1 rfl).1; omega
    | some ad =>
      rcases o3.2 with ⟨hh, _⟩ | ⟨gb, cp, cur, he, hbg, hgg, _⟩
      · cases hh
      · simp only [Value.slice.injEq, Option.some.injEq, true_and] at he
        exact ⟨gb, by rw [he.1], hbg, (Array.getElem?_eq_some_iff.1 hgg).1⟩
  obtain ⟨rfl, hgb1, hgb2⟩ := hgb
  have HGB := hide (And.intro hgb1 hgb2)
  have B3 := hide ((unhide B2).trans (b3'.mono (unhide B2).size))
  have HB23 := hide b3'
  have CD := hide (decodeM_any _ len cap _ u3 r3 hcap)
  rw [decM_back (unhide HF).1 (unhide HF).2.1] at CD
  have O3 := hide o3
  have HCAP := hide hcap
  have HLN := hide hln
  have hle := r3.le
  clear b3' r3 o3 hgb1 hgb2 hln hcap m3 m4 m5
  go_wp2_with fail
  refine (unhide CD).mono ?_
  rintro e u4 ⟨x1, x2, x3, d1, d2, d3, rfl, i4, b4'⟩
  rw [(unhide HN).1, (unhide HN).2.1, (unhide HN).2.2]
  have I4 := hide i4
  have B4 := hide b4'
  clear i4 b4' CD
  have BX4 := BoxN.mk' u4 #[.slice x1 n1 d1, .slice x2 n2 d2, .slice x3 n3 d3] 28
  have q34 : Below w1.heap.size w1 (u4.alloc (.cells #[.slice x1 n1 d1, .slice x2 n2 d2, .slice x3 n3 d3] 28)) := by
    have z1 := (unhide B3).trans ((unhide B4).mono (unhide B3).size)
    exact z1.trans (BX4.below.mono z1.size)
  have O5 := hide (own_below (unhide O3) ((unhide B4).trans (BX4.below.mono (unhide B4).size)))
  have R5 := hide (unhide H2 _ q34).row
  have HBX4 := hide BX4
  have Q34 := hide q34
  have hbt : len + lr ≤ 140737489403904 := by have := unhide HLN; have := (unhide HF).2.2; have := unhide HLR; omega
  have hbs : u2.heap.size ≤ (u4.alloc (.cells #[.slice x1 n1 d1, .slice x2 n2 d2, .slice x3 n3 d3] 28)).heap.size := by
    have z1 := (unhide HB23).size
    have z2 := (unhide B4).size
    have z3 := BX4.below.size
    omega
  have HBT := hide hbt
  have HBS := hide hbs
  clear BX4 q34 hbt hbs
  have tok := True.intro
  go_wp2_with (first | (at_builtin; have _t := tok; refine wpl_keep rfl (.tmp 45) (.tmp 46) rfl u2.heap.size gb len cap (encM m) rfl (unhide O5) ar lr cr rs rfl (unhide R5) (unhide HBT) (unhide HBS) ?_; intro v5 w5 o5; obtain ⟨a5, p5, rfl, r5, hp5⟩ := own_row8 (unhide o5).1 (by omega) (by intro c hc; rcases List.mem_append.1 hc with hc | hc; exact unhide HSM c hc; exact (unhide HRS).2 c hc); have R6 := hide r5; have HP5 := hide hp5; clear tok r5 hp5))
  -- THE END
  have H5 : Hid (∀ u, Below w5.heap.size w5 u → u.heap[u4.heap.size]? = some (.cells #[.slice x1 n1 d1, .slice x2 n2 d2, .slice x3 n3 d3] 28 (0, 0)) ∧ IsM u (fun b => b < w5.heap.size) m x1 d1 x2 d2 x3 d3 ∧ St w u B g m (.slice a1 n1 c1) (.slice a2 n2 c2) (.slice a3 n3 c3) a1 c1 a2 c2 a3 c3 ar lr cr rs ∧ Row8 u (some ⟨gb, 0, none⟩) len cap (encM m) ∧ IsM u (fun b => b < w5.heap.size) m a1 c1 a2 c2 a3 c3) := hide (fun u hu => by
    have g5 := (unhide o5).2.1
    have z0 := (unhide HBX4).size
    have z1 := (unhide HGB).1
    have z2 := (unhide HGB).2
    have z3 := (unhide B4).size
    have z4 := (unhide B2).size
    have z5 := g5.size
    have hq : Below w1.heap.size w1 w5 := below_grown (unhide Q34) (unhide Q34).size g5 (by omega)
    have hst := unhide H2 u (hq.trans (hu.mono hq.size))
    have hst5 := unhide H2 w5 hq
    refine ⟨(hu.block _ (by omega)).trans ((g5.block _ (by omega) (by intro e; cases e; omega)).trans (unhide HBX4).row), (unhide I4).to (fun b hb => (hu.block b (by omega)).trans ((g5.block b (by omega) (by intro e; cases e; omega)).trans ((unhide HBX4).below.block b hb.2))) (fun b hb => by omega), hst, (Row8.own (unhide o5).2.2 (unhide HSM)).later hu, hst.mod.weak (fun b hb => by have := hst5.low; omega)⟩)
  have CQ := fun u (hu : Below w5.heap.size w5 u) => hide (sameM_any m m x1 x2 x3 a1 a2 a3 n1 d1 n2 d2 n3 d3 n1 c1 n2 c2 n3 c3 w5.heap.size u (unhide HN).1 (unhide HN).2.1 (unhide HN).2.2 (unhide HN).1 (unhide HN).2.1 (unhide HN).2.2 (unhide H5 u hu).2.1 (unhide H5 u hu).2.2.2.2 hu.size)
  have hcut : cut < 0 ∨ (0 ≤ cut ∧ ¬ cut < (len : Int)) ∨ ∃ k : Nat, cut = (k : Int) ∧ k < len := by
    by_cases k0 : cut < 0
    · exact Or.inl k0
    · by_cases k1 : cut < (len : Int)
      · exact Or.inr (Or.inr ⟨cut.toNat, by omega, by omega⟩)
      · exact Or.inr (Or.inl ⟨by omega, k1⟩)
  by_cases hz : lr = 0
  · have hrs : rs = [] := List.eq_nil_of_length_eq_zero (by have := (unhide HRS).1; omega)
    refine (decode_code a5 (len + lr) p5 _ w5 (unhide R6) (unhide HP5) true (fun _ => ⟨m, by rw [hrs, List.append_nil]; exact decM_back (unhide HF).1 (unhide HF).2.1⟩) (fun e => by cases e)).mono ?_
    rintro e v6 ⟨y1, y2, y3, l1, l2, l3, f1, f2, f3, p6, c6, rfl, hc6, _, b6⟩
    obtain rfl := hc6 rfl
    clear hc6
    have iz : ((lr : Nat) : Int) = 0 := by omega
    have BX6 := BoxN.mk' v6 #[.slice y1 l1 f1, .slice y2 l2 f2, .slice y3 l3 f3] 28
    obtain ⟨u6, hu6⟩ : ∃ u6, v6.alloc (.cells #[.slice y1 l1 f1, .slice y2 l2 f2, .slice y3 l3 f3] 28) = u6 := ⟨_, rfl⟩
    rw [hu6] at BX6
    have b6 : Below w5.heap.size w5 u6 := b6.trans (BX6.below.mono b6.size)
    have B6 := hide b6
    obtain ⟨m0, m1, m2⟩ := row_cell3 (unhide H5 u6 b6).1
    obtain ⟨m3, m4, m5⟩ := row_cell3 (unhide H5 u6 b6).2.2.1.box
    clear b6 hrs BX6
    rcases hcut with k0 | ⟨k0, k1⟩ | ⟨k, rfl, hk⟩
    · have k1 : ¬ (0 : Int) ≤ cut := by omega
      clear k0
      go_wp2_with fail
      refine (unhide (CQ u6 (unhide B6))).mono ?_
      rintro e u8 ⟨r8, rfl, h8, b8⟩
      obtain rfl : r8 = true := h8.2 rfl
      have B8 := hide (unhide H5 u8 ((unhide B6).trans (b8.mono (unhide B6).size))).2.2.1.bel
      clear b8 h8
      go_wp2_with fail
      go_ret
      exact ⟨by simp, by first | exact unhide B8 | (rw [← unhide HG]; exact unhide B8)⟩
    · go_wp2_with fail
      refine (unhide (CQ u6 (unhide B6))).mono ?_
      rintro e u8 ⟨r8, rfl, h8, b8⟩
      obtain rfl : r8 = true := h8.2 rfl
      have B8 := hide (unhide H5 u8 ((unhide B6).trans (b8.mono (unhide B6).size))).2.2.1.bel
      clear b8 h8
      go_wp2_with fail
      go_ret
      exact ⟨by simp, by first | exact unhide B8 | (rw [← unhide HG]; exact unhide B8)⟩
    · have k0 : (0 : Int) ≤ (k : Int) := by omega
      have k1 : (k : Int) < (len : Int) := by omega
      have k2 : (k : Int) ≤ (cap : Int) := by omega
      have HK := hide hk
      clear hk
      go_wp2_with fail
      refine (decode_code _ k cap ((encM m).take k) u6 ((unhide H5 u6 (unhide B6)).2.2.2.1.take k (by have := unhide HK; omega)) (unhide HCAP) false (fun e => by cases e) (fun _ q => decM_cut (unhide HF).1 (unhide HSM) (by have := unhide HK; have := unhide HLN; omega))).mono ?_
      rintro e u7 ⟨z1, z2, z3, r1, r2, r3, t1, t2, t3, p7, c7, rfl, _, hc7, b7⟩
      have kc7 := hc7 rfl
      have B7 := hide ((unhide B6).trans (b7.mono (unhide B6).size))
      clear m0 m1 m2 m3 m4 m5 hc7
      obtain ⟨m0, m1, m2⟩ := row_cell3 (unhide H5 u7 (unhide B7)).1
      obtain ⟨m3, m4, m5⟩ := row_cell3 (unhide H5 u7 (unhide B7)).2.2.1.box
      clear b7
      go_wp2_with fail
      refine (unhide (CQ u7 (unhide B7))).mono ?_
      rintro e u8 ⟨r8, rfl, h8, b8⟩
      obtain rfl : r8 = true := h8.2 rfl
      have B8 := hide (unhide H5 u8 ((unhide B7).trans (b8.mono (unhide B7).size))).2.2.1.bel
      clear b8 h8
      go_wp2_with fail
      go_ret
      exact ⟨by simp; exact kc7, by first | exact unhide B8 | (rw [← unhide HG]; exact unhide B8)⟩
  · have hrs : ¬ rs = [] := fun e => hz (by have := (unhide HRS).1; rw [e] at this; simpa using this.symm)
    refine (decode_code a5 (len + lr) p5 _ w5 (unhide R6) (unhide HP5) false (fun e => by cases e) (fun _ k hk => hrs (decM_rest (unhide HF).1 (by intro c hc; rcases List.mem_append.1 hc with hc | hc; exact unhide HSM c hc; exact (unhide HRS).2 c hc) hk))).mono ?_
    rintro e v6 ⟨y1, y2, y3, l1, l2, l3, f1, f2, f3, p6, c6, rfl, _, hc6, b6⟩
    have kc6 := hc6 rfl
    clear hc6
    have iz : ¬ ((lr : Nat) : Int) = 0 := by omega
    have BX6 := BoxN.mk' v6 #[.slice y1 l1 f1, .slice y2 l2 f2, .slice y3 l3 f3] 28
    obtain ⟨u6, hu6⟩ : ∃ u6, v6.alloc (.cells #[.slice y1 l1 f1, .slice y2 l2 f2, .slice y3 l3 f3] 28) = u6 := ⟨_, rfl⟩
    rw [hu6] at BX6
    have b6 : Below w5.heap.size w5 u6 := b6.trans (BX6.below.mono b6.size)
    have B6 := hide b6
    obtain ⟨m0, m1, m2⟩ := row_cell3 (unhide H5 u6 b6).1
    obtain ⟨m3, m4, m5⟩ := row_cell3 (unhide H5 u6 b6).2.2.1.box
    clear b6 hrs BX6
    rcases hcut with k0 | ⟨k0, k1⟩ | ⟨k, rfl, hk⟩
    · have k1 : ¬ (0 : Int) ≤ cut := by omega
      clear k0
      go_wp2_with fail
      refine (unhide (CQ u6 (unhide B6))).mono ?_
      rintro e u8 ⟨r8, rfl, h8, b8⟩
      obtain rfl : r8 = true := h8.2 rfl
      have B8 := hide (unhide H5 u8 ((unhide B6).trans (b8.mono (unhide B6).size))).2.2.1.bel
      clear b8 h8
      go_wp2_with fail
      · go_ret
        exact ⟨by simp, by first | exact unhide B8 | (rw [← unhide HG]; exact unhide B8)⟩
      · rename_i hh
        exact absurd (by rw [beq_eq_false_iff_ne.2 kc6, beq_eq_false_iff_ne.2 iz]) hh
    · go_wp2_with fail
      refine (unhide (CQ u6 (unhide B6))).mono ?_
      rintro e u8 ⟨r8, rfl, h8, b8⟩
      obtain rfl : r8 = true := h8.2 rfl
      have B8 := hide (unhide H5 u8 ((unhide B6).trans (b8.mono (unhide B6).size))).2.2.1.bel
      clear b8 h8
      go_wp2_with fail
      · go_ret
        exact ⟨by simp, by first | exact unhide B8 | (rw [← unhide HG]; exact unhide B8)⟩
      · rename_i hh
        exact absurd (by rw [beq_eq_false_iff_ne.2 kc6, beq_eq_false_iff_ne.2 iz]) hh
    · have k0 : (0 : Int) ≤ (k : Int) := by omega
      have k1 : (k : Int) < (len : Int) := by omega
      have k2 : (k : Int) ≤ (cap : Int) := by omega
      have HK := hide hk
      clear hk
      go_wp2_with fail
      refine (decode_code _ k cap ((encM m).take k) u6 ((unhide H5 u6 (unhide B6)).2.2.2.1.take k (by have := unhide HK; omega)) (unhide HCAP) false (fun e => by cases e) (fun _ q => decM_cut (unhide HF).1 (unhide HSM) (by have := unhide HK; have := unhide HLN; omega))).mono ?_
      rintro e u7 ⟨z1, z2, z3, r1, r2, r3, t1, t2, t3, p7, c7, rfl, _, hc7, b7⟩
      have kc7 := hc7 rfl
      have B7 := hide ((unhide B6).trans (b7.mono (unhide B6).size))
      clear m0 m1 m2 m3 m4 m5 hc7
      obtain ⟨m0, m1, m2⟩ := row_cell3 (unhide H5 u7 (unhide B7)).1
      obtain ⟨m3, m4, m5⟩ := row_cell3 (unhide H5 u7 (unhide B7)).2.2.1.box
      clear b7
      go_wp2_with fail
      refine (unhide (CQ u7 (unhide B7))).mono ?_
      rintro e u8 ⟨r8, rfl, h8, b8⟩
      obtain rfl : r8 = true := h8.2 rfl
      have B8 := hide (unhide H5 u8 ((unhide B7).trans (b8.mono (unhide B7).size))).2.2.1.bel
      clear b8 h8
      go_wp2_with fail
      · go_ret
        exact ⟨by simp; exact kc7, by first | exact unhide B8 | (rw [← unhide HG]; exact unhide B8)⟩
      · rename_i hh
        exact absurd (by rw [beq_eq_false_iff_ne.2 kc6, beq_eq_false_iff_ne.2 iz]) hh

theorem walk (m : Md) (a1 a2 a3 ar : Option Addr) (n1 c1 n2 c2 n3 c3 B lr cr : Nat) (cut : Int) (rs : List Int) (w : World) (hn1 : m.cs.length = n1) (hn2 : m.fs.length = n2) (hn3 : m.xs.length = n3)
    (h : IsM w (fun b => b < B) m a1 c1 a2 c2 a3 c3) (hB : B ≤ w.heap.size) (hr : Row8 w ar lr cr rs) (hlr : lr ≤ 140737488351232) :
    Calls Try.prog 5 #[.agg #[.slice a1 n1 c1, .slice a2 n2 c2, .slice a3 n3 c3], .slice ar lr cr, .int .i64 cut] w fun e w' => e = .returned (.bool true) ∧ Below w.heap.size w w' := by
  cases hyes : rightM m with
  | false => exact walk_no m a1 a2 a3 ar n1 c1 n2 c2 n3 c3 B lr cr cut rs w hn1 hn2 hn3 h hB hr hyes
  | true => exact walk_yes m a1 a2 a3 ar n1 c1 n2 c2 n3 c3 B lr cr cut rs w hn1 hn2 hn3 h hB hr hlr hyes

set_option maxRecDepth 100000 in
theorem lifted (os : Os) (started : os.Started) (H : Type) (enc : TypeId × Value → H) :
    ReturnsInHanded {} Try.checked os 5 .any (Rows.moduleBackSpec.pre6 enc Try.prog Try.f5 Rows.moduleBackRow.domain false) (Rows.moduleBackSpec.post enc Try.prog Try.f5 false true false false) := by
  refine returnsInHanded_of_change_sized (C := Try.checked) own started (by kernel_rfl) Try.func5
    (ChangeSpec.witness6 (enc := enc) (C := Try.checked) false ⟨#[], #[.agg #[.slice none 0 0, .slice none 0 0, .slice none 0 0], .slice none 0 0, .int .i64 0], []⟩ 8 (by kernel_rfl) (by kernel_rfl) (by kernel_rfl) (by kernel_rfl)) ?_
  intro W base args ds gs before hval0 hW _ hsz0 _
  have hsz : (DataW.weightsEach Try.prog (Try.f5.params.toList ++ Rows.moduleBackSpec.plain.varTypes Try.prog) (ds ++ gs)).all (· ≤ reachBytes) = true := hsz0
  clear hsz0
  have hval : ∀ (j : Nat) t v, Try.f5.params[j]? = some t → args[j]? = some v → Value.okWide Try.prog W .any base t v := hval0
  have hW' := hW
  obtain ⟨p, q, hA0, hV, rfl, hfz, hnd⟩ := hW
  have hA : DataW.TrodAll enc Try.prog W 0 (fun _ => true) true Try.f5.params.toList args.toList ds p := hA0
  rw [Try.params5] at hA hval hsz
  obtain ⟨v0, vs0, d0, ds0, p0, q0, hargs, rfl, rfl, h0, r0⟩ := trodAll_cons hA
  obtain ⟨v1, vs1, d1, ds1, p1, q1, hargs1, rfl, rfl, h1, r1⟩ := trodAll_cons r0
  obtain ⟨v2, vs2, d2, ds2, p2, q2, hargs2, rfl, rfl, h2, r2⟩ := trodAll_cons r1
  obtain ⟨rfl, rfl, rfl⟩ := trodAll_nil r2
  subst hargs2
  subst hargs1
  obtain rfl : args = #[v0, v1, v2] := by cases args; simp_all
  obtain ⟨rfl, rfl⟩ := trodVars_none hV
  have k0 := h0
  have lt0 : ∀ x ∈ p0, x.block < W.heap.size := by obtain ⟨m, hm⟩ := k0; exact DataW.trod_lt m _ _ _ hm
  have k1 := h1
  have lt1 : ∀ x ∈ p1, x.block < W.heap.size := by obtain ⟨m, hm⟩ := k1; exact DataW.trod_lt m _ _ _ hm
  have k2 := h2
  have lt2 : ∀ x ∈ p2, x.block < W.heap.size := by obtain ⟨m, hm⟩ := k2; exact DataW.trod_lt m _ _ _ hm
  obtain ⟨m, a1, a2, a3, c1, c2, c3, rfl, hm⟩ := arg_module (hval 0 28 v0 rfl rfl) h0 (reach_arg hsz (j := 0) rfl rfl)
  have hre : Go.Proofs.Ytfdnhpmldnmncaa.Reach Try.prog 22 d1 := reach_arg hsz (j := 1) rfl rfl
  obtain ⟨ar, lr, cr, rfl⟩ := okWide_slice Try.underlying22 (hval 1 22 v1 rfl rfl)
  obtain ⟨rs, hrow, _, hsp⟩ := open_row8 h1
  have hlr : lr ≤ 140737488351232 := by
    have hle := hrow.le
    rcases hsp with h | ⟨elems, spare, rfl, hes⟩
    · omega
    · have hb := hre.slice Try.underlying22
      rw [show Try.prog.bytesOf 5 = 1 by kernel_rfl] at hb
      unfold reachBytes at hb
      simp at hb
      omega
  obtain ⟨cut, rfl, _⟩ := okWide_int Try.underlying3 (hval 2 3 v2 rfl rfl)
  clear hA0 hval0
  refine (walk m a1 a2 a3 ar _ c1 _ c2 _ c3 W.heap.size lr cr cut rs W rfl rfl rfl hm (Nat.le_refl _) hrow hlr).mono fun e W' ⟨he, bel⟩ => ?_
  subst he
  exact ⟨_, rfl, _, _, _, [], _, [], hW', trodAll_mk1 (shut_bool Try.underlying4 _), (trodAll_cons_mk (Below.trod laidOut (by kernel_rfl) (of_decide_eq_true (by kernel_rfl)) k0 bel lt0) (trodAll_cons_mk (Below.trod laidOut (by kernel_rfl) (of_decide_eq_true (by kernel_rfl)) k1 bel lt1) (trodAll_cons_mk (Below.trod laidOut (by kernel_rfl) (of_decide_eq_true (by kernel_rfl)) k2 bel lt2) trodAll_mk0))), rfl, bel.frame _, fun h => by cases h⟩

theorem over : Rows.moduleBackRow.holds Try.pinned (OpenSpec.ofChange Rows.moduleBackSpec) :=
  OpenClaim.holds_of_wide 5 Try.f5 rfl rfl rfl rfl rfl rfl rfl ⟨rfl, rfl, rfl, rfl, rfl⟩ rfl rfl rfl rfl rfl (by kernel_rfl) Try.func5 (by kernel_rfl)
    (of_decide_eq_true (by kernel_rfl)) (by unfold Func.isWrapper; first | (rw [if_pos (by decide +kernel)]; kernel_rfl) | (rw [if_neg (by decide +kernel)]; exact ⟨rfl, rfl⟩))
    (fun os started H enc _ => lifted os started H enc)

end Go.Proofs.Ytfdnhpmldnmncaa.moduleBack

namespace Go.Proofs.Ytfdnhpmldnmncaa
theorem moduleBack_holds : Rows.ModuleBackSaid := moduleBack.over
#print axioms moduleBack_holds
end Go.Proofs.Ytfdnhpmldnmncaa
