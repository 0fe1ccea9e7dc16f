/-
  The walks of the document's own Find, Put and Delete of pairs; no conditions but that the row's bytes are within 2^47.
-/
import Derived.Test.YtflopmhjgamcfaaTFromI
import Derived.Laws.AppendOwnNone
set_option linter.unusedSimpArgs false
namespace Go.Proofs.Ytflopmhjgamcfaa
open Go.RowKit
set_option linter.unusedVariables false

abbrev RefRow (w : World) (r : Value) (l : Prs) : Prop := w.ownsRow 0 39 2 r l.length (cells2 (valsI l))

theorem low_char : ∀ (l : Prs) (k : Int) (n : Nat), n ≤ l.length → (∀ (i : Nat) (p : Int × Int), i < n → l[i]? = some p → p.1 < k) → (∀ p, l[n]? = some p → ¬ p.1 < k) → n = low l k
  | [], k, n, hn, _, _ => by simp at hn; subst hn; rfl
  | q :: r, k, 0, _, _, h2 => by rw [low_cons_ge (h2 q rfl)]
  | q :: r, k, n + 1, hn, h1, h2 => by
    rw [low_cons_lt (h1 0 q (by omega) rfl), ← low_char r k n (by simpa using hn) (fun i p hi hp => h1 (i + 1) p (by omega) (by simpa using hp)) (fun p hp => h2 p (by simpa using hp))]

theorem ref_cells {w : World} {r : Value} {l : Prs} (h : RefRow w r l) : ∃ ao cap, r = .slice ao l.length cap ∧ l.length ≤ cap ∧ cap ≤ 9223372036854775807 ∧ (ao = none → l.length = 0) ∧ ∀ i p, l[i]? = some p → ∃ b, ao = some ⟨b, 0, none⟩ ∧ w.cell? ⟨b, i * 2, none⟩ = some (.int .i64 p.1) ∧ w.cell? ⟨b, i * 2 + 1, none⟩ = some (.int .i64 p.2) := by
  obtain ⟨ao, cap, rfl, hcap, hmax, hnone, hsome⟩ := own_shape (l := valsI l) (by rw [valsI_len]; exact h)
  rw [valsI_len] at hcap hnone ⊢
  refine ⟨ao, cap, rfl, hcap, by unfold maxLen at hmax; omega, hnone, fun i p hp => ?_⟩
  cases ao with
  | none =>
    have := (List.getElem?_eq_some_iff.1 hp).1
    have := hnone rfl
    omega
  | some ad =>
    obtain ⟨b, rfl, -, -, hb⟩ := hsome ad rfl
    exact ⟨b, rfl, (hb i _ (valsI_at hp)).1, (hb i _ (valsI_at hp)).2⟩

set_option maxRecDepth 100000 in
set_option maxHeartbeats 800000 in
theorem ref_find {w : World} {r : Value} {l : Prs} (h : RefRow w r l) (k : Int) : Calls Try.prog 12 #[r, .int .i64 k] w fun e w' => e = .returned (.tuple #[.int .i64 (low l k), .bool (has l k)]) ∧ ∃ q, w' = w.drewN q := by
  obtain ⟨ao, cap, rfl, hcap, hmx, hnone, hcell⟩ := ref_cells h
  obtain ⟨n, hn⟩ : ∃ n, l.length = n := ⟨_, rfl⟩
  rw [hn] at hcap hnone ⊢
  have HC := hide hcell
  have HN := hide hn
  clear h hcell hn hnone
  go_enter Try.func12, Try.ntmps12
  go_wp2_with fail
  go_loopw [6] (fun x wr => ∃ i : Nat, x = .int .i64 i ∧ wr = w ∧ i ≤ n ∧ Hid (∀ (j : Nat) (p : Int × Int), j < i → l[j]? = some p → p.1 < k)) (fun x _ => n - (intOf x).toNat)
  case atStart => exact ⟨0, rfl, rfl, Nat.zero_le _, hide (fun j p h => by omega)⟩
  case round =>
    obtain ⟨i, rfl, rfl, hi, HI⟩ := hrel
    by_cases hlt : i < n
    · have i1 : (i : Int) < (n : Int) := by omega
      obtain ⟨p, hp⟩ : ∃ p, l[i]? = some p := ⟨_, List.getElem?_eq_getElem (by have := unhide HN; omega)⟩
      obtain ⟨b, rfl, c0, c1⟩ := unhide HC i p hp
      have HP := hide hp
      clear hp
      by_cases hk : p.1 < k
      · go_wp2_with fail
        go_roundw
        case rel => exact ⟨i + 1, by go_num, trivial, by omega, hide (fun j q hj hq => by
          by_cases e : j = i
          · subst e
            rw [unhide HP] at hq
            cases hq
            exact hk
          · exact unhide HI j q (by omega) hq)⟩
        case measure => simp [intOf]; omega
      · have hlow : i = low l k := low_char l k i (by have := unhide HN; omega) (unhide HI) (fun q hq => by rw [unhide HP] at hq; cases hq; exact hk)
        have HL := hide hlow
        clear hlow
        have hk2 : decide (p.1 < k) = false := decide_eq_false hk
        go_wp2_with fail
        go_quiet (fail)
        go_wp2_with fail
        go_ret2
        refine ⟨?_, _, rfl⟩
        have hh : has l k = decide (p.1 = k) := by
          unfold has
          rw [← unhide HL, List.getElem?_map, unhide HP]
          simp
        rw [hh, ← unhide HL]
        simp [Array.getD]
        rw [Bool.eq_iff_iff]
        simp
    · obtain rfl : i = n := by omega
      have i1 : decide ((i : Int) < (i : Int)) = false := by simp
      have i2 : decide (i < i) = false := by simp
      have hlow : i = low l k := low_char l k i (by have := unhide HN; omega) (unhide HI) (fun q hq => by have h1 := (List.getElem?_eq_some_iff.1 hq).1; have := unhide HN; omega)
      have HL := hide hlow
      clear hlow
      go_wp2_with fail
      go_quiet (fail)
      go_wp2_with fail
      go_ret2
      refine ⟨?_, _, rfl⟩
      have hh : has l k = false := by
        unfold has
        rw [← unhide HL, List.getElem?_eq_none (by rw [List.length_map]; have := unhide HN; omega)]
        simp
      rw [hh, ← unhide HL]
      simp [Array.getD]

theorem infoR : (Try.prog.info? 39).map (fun i => (i.zero, i.size, i.bytes)) = some (some (.agg #[.int .i64 0, .int .i64 0]), 2, 16) := by kernel_rfl

/-- the cells of a part of a row -/
theorem part_cells {w : World} {b cap : Nat} {l : Prs} (h : RefRow w (.slice (some ⟨b, 0, none⟩) l.length cap) l) (i n : Nat) (ad : Addr) (had : 0 < ((l.drop i).take n).length → ad = ⟨b, i * 2, none⟩) : ∀ j u, (cells2 (valsI ((l.drop i).take n)))[j]? = some u → w.cell? (ad.add j) = some u := fun j u hj => by
  have hpos : 0 < ((l.drop i).take n).length := by
    have := (List.getElem?_eq_some_iff.1 hj).1
    rw [cells2_len, valsI_len] at this
    omega
  rw [had hpos, add_off]
  have hv : valsI ((l.drop i).take n) = ((valsI l).drop i).take n := by simp [valsI, List.map_drop, List.map_take]
  rw [hv, cells2_take, cells2_drop, List.getElem?_take] at hj
  split at hj
  · rw [List.getElem?_drop] at hj
    have := h.cells rfl (i * 2 + j) u hj
    rw [add_at] at this
    exact this
  · cases hj

theorem own_zero {w : World} {base : Nat} {E : TypeId} {v : Value} {n : Nat} {xs : List Value} (h : w.ownsRow base E 2 v n xs) : w.ownsRow 0 E 2 v n xs := by
  refine ⟨h.1, ?_⟩
  rcases h.2 with hn | ⟨g, cap, cur, e, _, rest⟩
  · exact .inl hn
  · exact .inr ⟨g, cap, cur, e, Nat.zero_le _, rest⟩

theorem ref_later {w w' : World} {r : Value} {l : Prs} (h : RefRow w r l) (hb : Below w.heap.size w w') : RefRow w' r l := own_below h hb

set_option maxRecDepth 100000 in
set_option maxHeartbeats 1000000 in
theorem ref_put {w : World} {b cap : Nat} {l : Prs} (h : RefRow w (.slice (some ⟨b, 0, none⟩) l.length cap) l) (k x : Int) (hb : (l.length + 1) * 16 ≤ 140737488355328) :
    Calls Try.prog 29 #[.slice (some ⟨b, 0, none⟩) l.length cap, .int .i64 k, .int .i64 x] w fun e w' => ∃ r', e = .returned (.tuple #[r', .bool (has l k)]) ∧ RefRow w' r' (putL l k x) ∧ Below w.heap.size w w' := by
  obtain ⟨i0, hi0, hz0, hz1, hz2⟩ := info_parts infoR
  have CF := hide (ref_find h k)
  have hL := low_le l k
  obtain ⟨L, hLL⟩ : ∃ L, low l k = L := ⟨_, rfl⟩
  have hcap : l.length ≤ cap := by
    obtain ⟨ao, cap', he, hle, _⟩ := ref_cells h
    simp only [Value.slice.injEq] at he
    omega
  have hcm : cap ≤ 9223372036854775807 := by
    obtain ⟨ao, cap', he, _, hle, _⟩ := ref_cells h
    simp only [Value.slice.injEq] at he
    omega
  have HH := hide h
  have HS : Hid (∀ u, Below w.heap.size w u → RefRow u (.slice (some ⟨b, 0, none⟩) l.length cap) l) := hide (fun u hu => ref_later h hu)
  obtain ⟨n, hn⟩ : ∃ n, l.length = n := ⟨_, rfl⟩
  rw [hLL] at hL CF
  have HN := hide hn
  rw [hn] at hb hL hcap CF ⊢
  have HLL := hide hLL
  clear h hLL hn
  have i1 : (0 : Int) ≤ (L : Int) := by omega
  have i2 : (L : Int) ≤ (cap : Int) := by omega
  have i3 : (L : Int) ≤ (n : Int) := by omega
  have ht : (l.take L).length = L := by rw [List.length_take, unhide HN]; omega
  have HT := hide ht
  clear ht
  cases hh : has l k with
  | false =>
    rw [hh] at CF
    have HHS := hide hh
    clear hh
    have HPL : Hid (putL l k x = l.take L ++ (k, x) :: l.drop L) := hide (by
      unfold putL
      rw [if_neg (by rw [unhide HHS]; simp), unhide HLL])
    have hdl : (l.drop L).length = n - L := by rw [List.length_drop, unhide HN]
    have HDL := hide hdl
    clear hdl
    go_enter Try.func29, Try.ntmps29
    go_wp2_with fail
    refine (unhide CF).mono ?_
    rintro e w1 ⟨rfl, q, rfl⟩
    have B1 : Below w.heap.size w (w.drewN q) := below_drewN (Below.refl _ _) q
    have HB1 := hide B1
    have P1 : Hid (∀ j u, (cells2 (valsI (l.take L)))[j]? = some u → (w.drewN q).cell? ((⟨b, 0, none⟩ : Addr).add j) = some u) := hide (fun j u hj => by
      have := part_cells (unhide HS _ B1) 0 L ⟨b, 0, none⟩ (fun _ => by simp)
      rw [List.drop_zero] at this
      exact this j u hj)
    clear B1 CF
    go_upto_region 4 with (first | (at_builtin; refine wpl_appm rfl (.tmp 17) (.tmp 20) 27 39 i0 _ 16 Try.underlying27 hi0 hz0 hz1 hz2 rfl rfl w.heap.size 0 (.slice none 0 0) [] rfl (World.ownsRow_nil _ _ _ _) ⟨b, 0, none⟩ L cap (cells2 (valsI (l.take L))) rfl (by rw [cells2_len, valsI_len, unhide HT]) (unhide P1) (onesI _) (by unfold maxLen; omega) (by omega) (unhide HB1).size ?_; intro v2 w2 H2))
    have O2 : Hid (w2.ownsRow w.heap.size 39 2 v2 L (cells2 (valsI (l.take L))) ∧ Below w.heap.size w w2) := hide (by
      obtain ⟨o2, g2⟩ := unhide H2
      rw [Nat.zero_add, List.nil_append] at o2
      exact ⟨o2, (unhide HB1).grown g2.grown (unhide HB1).size (fun c hc => by cases hc)⟩)
    obtain ⟨m1, m2, m3⟩ := new_pair w2 (.int .i64 k) (.int .i64 x) 39
    have O3 := hide (And.intro (own_below (unhide O2).1 m2) (And.intro m1 ((unhide O2).2.trans (m2.mono (unhide O2).2.size))))
    obtain ⟨a2, c2, hv2⟩ := slice_of (unhide O2).1
    subst hv2
    clear m1 m2 m3 H2 P1
    go_upto_region 5 with (first | (at_builtin; refine wpl_app2 rfl (.tmp 22) (.tmp 26) 27 39 i0 _ 16 Try.underlying27 hi0 hz0 hz1 hz2 rfl rfl w.heap.size L (.slice a2 L c2) (cells2 (valsI (l.take L))) rfl (unhide O3).1 w2.heap.size (.int .i64 k) (.int .i64 x) rfl (unhide O3).2.1 rfl rfl (by unfold maxLen; omega) (by omega) (unhide O3).2.2.size ?_; intro v4 w4 H4))
    have O4 : Hid (w4.ownsRow w.heap.size 39 2 v4 (L + 1) (cells2 (valsI (l.take L)) ++ [.int .i64 k, .int .i64 x]) ∧ Below w.heap.size w w4) := hide ⟨(unhide H4).1, (unhide O3).2.2.grown (unhide H4).2.grown (unhide O3).2.2.size (fun c hc => ((unhide O3).1.lt c hc).1)⟩
    obtain ⟨a4, c4, hv4⟩ := slice_of (unhide O4).1
    subst hv4
    clear H4 O3 O2
    by_cases hdeg : cap = L
    · obtain ⟨cc, rfl⟩ : ∃ cc, cc = cap := ⟨_, rfl⟩
      have hdeg' := hdeg.symm
      subst hdeg'
      have hz : n - L = 0 := by omega
      rw [hz] at HDL
      have P4 : Hid (∀ j u, (cells2 (valsI (l.drop L)))[j]? = some u → w4.cell? ((⟨b, 0, none⟩ : Addr).add j) = some u) := hide (fun j u hj => by
        have := (List.getElem?_eq_some_iff.1 hj).1
        rw [cells2_len, valsI_len, unhide HDL] at this
        omega)
      go_wp2_with (first | (at_builtin; refine wpl_appm rfl (.tmp 31) (.tmp 34) 27 39 i0 _ 16 Try.underlying27 hi0 hz0 hz1 hz2 rfl rfl w.heap.size (L + 1) (.slice a4 (L + 1) c4) (cells2 (valsI (l.take L)) ++ [.int .i64 k, .int .i64 x]) rfl (unhide O4).1 ⟨b, 0, none⟩ 0 0 (cells2 (valsI (l.drop L))) rfl (by rw [cells2_len, valsI_len, unhide HDL]) (unhide P4) (onesI _) (by unfold maxLen; omega) (by omega) (unhide O4).2.size ?_; intro v6 w6 H6))
      go_ret2
      have hlen : (putL l k x).length = L + 1 + 0 := by
        rw [unhide HPL, List.length_append, List.length_cons, unhide HT, unhide HDL]
        try omega
      have hcell : cells2 (valsI (putL l k x)) = cells2 (valsI (l.take L)) ++ [.int .i64 k, .int .i64 x] ++ cells2 (valsI (l.drop L)) := by
        rw [unhide HPL]
        have e : valsI (l.take L ++ (k, x) :: l.drop L) = valsI (l.take L) ++ (.int .i64 k, .int .i64 x) :: valsI (l.drop L) := by simp [valsI]
        rw [e, cells2_append, cells2_cons]
        simp
      refine ⟨v6, rfl, ?_, (unhide O4).2.grown (unhide H6).2.grown (unhide O4).2.size (fun c hc => ((unhide O4).1.lt c hc).1)⟩
      show RefRow w6 v6 (putL l k x)
      unfold RefRow
      rw [hlen, hcell]
      exact own_zero (unhide H6).1
    · have P4 : Hid (∀ j u, (cells2 (valsI (l.drop L)))[j]? = some u → w4.cell? ((⟨b, L * 2, none⟩ : Addr).add j) = some u) := hide (fun j u hj => by
        have := part_cells (unhide HS w4 (unhide O4).2) L n ⟨b, L * 2, none⟩ (fun _ => rfl)
        rw [List.take_of_length_le (by rw [unhide HDL]; omega)] at this
        exact this j u hj)
      go_wp2_with (first | (at_builtin; refine wpl_appm rfl (.tmp 31) (.tmp 34) 27 39 i0 _ 16 Try.underlying27 hi0 hz0 hz1 hz2 rfl rfl w.heap.size (L + 1) (.slice a4 (L + 1) c4) (cells2 (valsI (l.take L)) ++ [.int .i64 k, .int .i64 x]) rfl (unhide O4).1 ⟨b, L * 2, none⟩ (n - L) (cap - L) (cells2 (valsI (l.drop L))) rfl (by rw [cells2_len, valsI_len, unhide HDL]) (unhide P4) (onesI _) (by unfold maxLen; omega) (by omega) (unhide O4).2.size ?_; intro v6 w6 H6))
      go_ret2
      have hlen : (putL l k x).length = L + 1 + (n - L) := by
        rw [unhide HPL, List.length_append, List.length_cons, unhide HT, unhide HDL]
        try omega
      have hcell : cells2 (valsI (putL l k x)) = cells2 (valsI (l.take L)) ++ [.int .i64 k, .int .i64 x] ++ cells2 (valsI (l.drop L)) := by
        rw [unhide HPL]
        have e : valsI (l.take L ++ (k, x) :: l.drop L) = valsI (l.take L) ++ (.int .i64 k, .int .i64 x) :: valsI (l.drop L) := by simp [valsI]
        rw [e, cells2_append, cells2_cons]
        simp
      refine ⟨v6, rfl, ?_, (unhide O4).2.grown (unhide H6).2.grown (unhide O4).2.size (fun c hc => ((unhide O4).1.lt c hc).1)⟩
      show RefRow w6 v6 (putL l k x)
      unfold RefRow
      rw [hlen, hcell]
      exact own_zero (unhide H6).1
  | true =>
    rw [hh] at CF
    have HHS := hide hh
    clear hh
    have hlt : L < n := by
      obtain ⟨v0, h0⟩ := has_at (unhide HHS)
      have h1 := (List.getElem?_eq_some_iff.1 h0).1
      rw [unhide HLL] at h1
      have := unhide HN
      omega
    have j1 : ((L : Int) + 1).toNat = L + 1 := by omega
    have j2 : (0 : Int) ≤ (L : Int) + 1 := by omega
    have j3 : (L : Int) + 1 ≤ (n : Int) := by omega
    have j4 : (L : Int) + 1 ≤ (cap : Int) := by omega
    have HPL : Hid (putL l k x = l.take L ++ (k, x) :: l.drop (L + 1)) := hide (by
      unfold putL
      rw [if_pos (unhide HHS), unhide HLL, List.set_eq_take_append_cons_drop, if_pos (by have := unhide HN; omega)])
    have hdl : (l.drop (L + 1)).length = n - (L + 1) := by rw [List.length_drop, unhide HN]
    have HDL := hide hdl
    clear hdl
    go_enter Try.func29, Try.ntmps29
    go_wp2_with fail
    refine (unhide CF).mono ?_
    rintro e w1 ⟨rfl, q, rfl⟩
    have B1 : Below w.heap.size w (w.drewN q) := below_drewN (Below.refl _ _) q
    have HB1 := hide B1
    have P1 : Hid (∀ j u, (cells2 (valsI (l.take L)))[j]? = some u → (w.drewN q).cell? ((⟨b, 0, none⟩ : Addr).add j) = some u) := hide (fun j u hj => by
      have := part_cells (unhide HS _ B1) 0 L ⟨b, 0, none⟩ (fun _ => by simp)
      rw [List.drop_zero] at this
      exact this j u hj)
    clear B1 CF
    go_upto_region 4 with (first | (at_builtin; refine wpl_appm rfl (.tmp 17) (.tmp 20) 27 39 i0 _ 16 Try.underlying27 hi0 hz0 hz1 hz2 rfl rfl w.heap.size 0 (.slice none 0 0) [] rfl (World.ownsRow_nil _ _ _ _) ⟨b, 0, none⟩ L cap (cells2 (valsI (l.take L))) rfl (by rw [cells2_len, valsI_len, unhide HT]) (unhide P1) (onesI _) (by unfold maxLen; omega) (by omega) (unhide HB1).size ?_; intro v2 w2 H2))
    have O2 : Hid (w2.ownsRow w.heap.size 39 2 v2 L (cells2 (valsI (l.take L))) ∧ Below w.heap.size w w2) := hide (by
      obtain ⟨o2, g2⟩ := unhide H2
      rw [Nat.zero_add, List.nil_append] at o2
      exact ⟨o2, (unhide HB1).grown g2.grown (unhide HB1).size (fun c hc => by cases hc)⟩)
    obtain ⟨m1, m2, m3⟩ := new_pair w2 (.int .i64 k) (.int .i64 x) 39
    have O3 := hide (And.intro (own_below (unhide O2).1 m2) (And.intro m1 ((unhide O2).2.trans (m2.mono (unhide O2).2.size))))
    obtain ⟨a2, c2, hv2⟩ := slice_of (unhide O2).1
    subst hv2
    clear m1 m2 m3 H2 P1
    go_upto_region 5 with (first | (at_builtin; refine wpl_app2 rfl (.tmp 22) (.tmp 26) 27 39 i0 _ 16 Try.underlying27 hi0 hz0 hz1 hz2 rfl rfl w.heap.size L (.slice a2 L c2) (cells2 (valsI (l.take L))) rfl (unhide O3).1 w2.heap.size (.int .i64 k) (.int .i64 x) rfl (unhide O3).2.1 rfl rfl (by unfold maxLen; omega) (by omega) (unhide O3).2.2.size ?_; intro v4 w4 H4))
    have O4 : Hid (w4.ownsRow w.heap.size 39 2 v4 (L + 1) (cells2 (valsI (l.take L)) ++ [.int .i64 k, .int .i64 x]) ∧ Below w.heap.size w w4) := hide ⟨(unhide H4).1, (unhide O3).2.2.grown (unhide H4).2.grown (unhide O3).2.2.size (fun c hc => ((unhide O3).1.lt c hc).1)⟩
    obtain ⟨a4, c4, hv4⟩ := slice_of (unhide O4).1
    subst hv4
    clear H4 O3 O2
    by_cases hdeg : cap = (L + 1)
    · obtain ⟨cc, rfl⟩ : ∃ cc, cc = cap := ⟨_, rfl⟩
      have hdeg' := hdeg.symm
      subst hdeg'
      have hz : n - (L + 1) = 0 := by omega
      rw [hz] at HDL
      have P4 : Hid (∀ j u, (cells2 (valsI (l.drop (L + 1))))[j]? = some u → w4.cell? ((⟨b, 0, none⟩ : Addr).add j) = some u) := hide (fun j u hj => by
        have := (List.getElem?_eq_some_iff.1 hj).1
        rw [cells2_len, valsI_len, unhide HDL] at this
        omega)
      go_wp2_with (first | (at_builtin; refine wpl_appm rfl (.tmp 31) (.tmp 34) 27 39 i0 _ 16 Try.underlying27 hi0 hz0 hz1 hz2 rfl rfl w.heap.size (L + 1) (.slice a4 (L + 1) c4) (cells2 (valsI (l.take L)) ++ [.int .i64 k, .int .i64 x]) rfl (unhide O4).1 ⟨b, 0, none⟩ 0 0 (cells2 (valsI (l.drop (L + 1)))) rfl (by rw [cells2_len, valsI_len, unhide HDL]) (unhide P4) (onesI _) (by unfold maxLen; omega) (by omega) (unhide O4).2.size ?_; intro v6 w6 H6))
      go_ret2
      have hlen : (putL l k x).length = L + 1 + 0 := by
        rw [unhide HPL, List.length_append, List.length_cons, unhide HT, unhide HDL]
        try omega
      have hcell : cells2 (valsI (putL l k x)) = cells2 (valsI (l.take L)) ++ [.int .i64 k, .int .i64 x] ++ cells2 (valsI (l.drop (L + 1))) := by
        rw [unhide HPL]
        have e : valsI (l.take L ++ (k, x) :: l.drop (L + 1)) = valsI (l.take L) ++ (.int .i64 k, .int .i64 x) :: valsI (l.drop (L + 1)) := by simp [valsI]
        rw [e, cells2_append, cells2_cons]
        simp
      refine ⟨v6, rfl, ?_, (unhide O4).2.grown (unhide H6).2.grown (unhide O4).2.size (fun c hc => ((unhide O4).1.lt c hc).1)⟩
      show RefRow w6 v6 (putL l k x)
      unfold RefRow
      rw [hlen, hcell]
      exact own_zero (unhide H6).1
    · have P4 : Hid (∀ j u, (cells2 (valsI (l.drop (L + 1))))[j]? = some u → w4.cell? ((⟨b, (L + 1) * 2, none⟩ : Addr).add j) = some u) := hide (fun j u hj => by
        have := part_cells (unhide HS w4 (unhide O4).2) (L + 1) n ⟨b, (L + 1) * 2, none⟩ (fun _ => rfl)
        rw [List.take_of_length_le (by rw [unhide HDL]; omega)] at this
        exact this j u hj)
      go_wp2_with (first | (at_builtin; refine wpl_appm rfl (.tmp 31) (.tmp 34) 27 39 i0 _ 16 Try.underlying27 hi0 hz0 hz1 hz2 rfl rfl w.heap.size (L + 1) (.slice a4 (L + 1) c4) (cells2 (valsI (l.take L)) ++ [.int .i64 k, .int .i64 x]) rfl (unhide O4).1 ⟨b, (L + 1) * 2, none⟩ (n - (L + 1)) (cap - (L + 1)) (cells2 (valsI (l.drop (L + 1)))) rfl (by rw [cells2_len, valsI_len, unhide HDL]) (unhide P4) (onesI _) (by unfold maxLen; omega) (by omega) (unhide O4).2.size ?_; intro v6 w6 H6))
      go_ret2
      have hlen : (putL l k x).length = L + 1 + (n - (L + 1)) := by
        rw [unhide HPL, List.length_append, List.length_cons, unhide HT, unhide HDL]
        try omega
      have hcell : cells2 (valsI (putL l k x)) = cells2 (valsI (l.take L)) ++ [.int .i64 k, .int .i64 x] ++ cells2 (valsI (l.drop (L + 1))) := by
        rw [unhide HPL]
        have e : valsI (l.take L ++ (k, x) :: l.drop (L + 1)) = valsI (l.take L) ++ (.int .i64 k, .int .i64 x) :: valsI (l.drop (L + 1)) := by simp [valsI]
        rw [e, cells2_append, cells2_cons]
        simp
      refine ⟨v6, rfl, ?_, (unhide O4).2.grown (unhide H6).2.grown (unhide O4).2.size (fun c hc => ((unhide O4).1.lt c hc).1)⟩
      show RefRow w6 v6 (putL l k x)
      unfold RefRow
      rw [hlen, hcell]
      exact own_zero (unhide H6).1

set_option maxRecDepth 100000 in
set_option maxHeartbeats 1000000 in
theorem ref_put_nil {w : World} (k x : Int) :
    Calls Try.prog 29 #[.slice none 0 0, .int .i64 k, .int .i64 x] w fun e w' => ∃ r', e = .returned (.tuple #[r', .bool (has [] k)]) ∧ RefRow w' r' (putL [] k x) ∧ Below w.heap.size w w' := by
  obtain ⟨i0, hi0, hz0, hz1, hz2⟩ := info_parts infoR
  have h : RefRow w (.slice none 0 0) [] := World.ownsRow_nil _ _ _ _
  have CF := hide (ref_find h k)
  have hh : has [] k = false := rfl
  have hL : low [] k = 0 := rfl
  have hp : putL [] k x = [(k, x)] := rfl
  rw [hh, hL] at CF
  rw [hh, hp]
  clear h hh hL hp
  go_enter Try.func29, Try.ntmps29
  go_wp2_with fail
  refine (unhide CF).mono ?_
  rintro e w1 ⟨rfl, q, rfl⟩
  have B1 : Below w.heap.size w (w.drewN q) := below_drewN (Below.refl _ _) q
  have HB1 := hide B1
  clear B1 CF
  go_upto_region 4 with (first | (at_builtin; refine wpList_append_own_none rfl (.tmp 17) (.tmp 20) 27 rfl w.heap.size 39 i0 2 Try.underlying27 hi0 (.slice none 0 0) 0 [] rfl (World.ownsRow_nil _ _ _ _) rfl ?_))
  obtain ⟨m1, m2, m3⟩ := new_pair (w.drewN q) (.int .i64 k) (.int .i64 x) 39
  have m1' : ((w.drewN q).alloc (.cells #[.int .i64 k, .int .i64 x] 39)).heap[w.heap.size]? = some (.cells #[.int .i64 k, .int .i64 x] 39 (0, 0)) := m1
  have O3 := hide (And.intro m1' ((unhide HB1).trans (m2.mono (unhide HB1).size)))
  clear m1 m2 m3 m1'
  go_upto_region 5 with (first | (at_builtin; refine wpl_app2 rfl (.tmp 22) (.tmp 26) 27 39 i0 _ 16 Try.underlying27 hi0 hz0 hz1 hz2 rfl rfl w.heap.size 0 (.slice none 0 0) [] rfl (World.ownsRow_nil _ _ _ _) w.heap.size (.int .i64 k) (.int .i64 x) rfl (unhide O3).1 rfl rfl (by unfold maxLen; omega) (by omega) (unhide O3).2.size ?_; intro v4 w4 H4))
  have O4 : Hid (w4.ownsRow w.heap.size 39 2 v4 1 [.int .i64 k, .int .i64 x] ∧ Below w.heap.size w w4) := hide ⟨(unhide H4).1, (unhide O3).2.grown (unhide H4).2.grown (unhide O3).2.size (fun c hc => by cases hc)⟩
  obtain ⟨a4, c4, hv4⟩ := slice_of (unhide O4).1
  subst hv4
  clear H4 O3
  go_wp2_with (first | (at_builtin; refine wpList_append_own_none rfl (.tmp 31) (.tmp 34) 27 rfl w.heap.size 39 i0 2 Try.underlying27 hi0 (.slice a4 1 c4) 1 _ rfl (unhide O4).1 rfl ?_))
  go_ret2
  exact ⟨_, rfl, own_zero (unhide O4).1, (unhide O4).2⟩

set_option maxRecDepth 100000 in
set_option maxHeartbeats 1000000 in
theorem ref_del {w : World} {r : Value} {l : Prs} (h : RefRow w r l) (k : Int) (hb : (l.length + 1) * 16 ≤ 140737488355328) :
    Calls Try.prog 30 #[r, .int .i64 k] w fun e w' => ∃ r', e = .returned (.tuple #[r', .bool (has l k)]) ∧ RefRow w' r' (delL l k) ∧ Below w.heap.size w w' := by
  obtain ⟨i0, hi0, hz0, hz1, hz2⟩ := info_parts infoR
  have CF := hide (ref_find h k)
  have hL := low_le l k
  obtain ⟨L, hLL⟩ : ∃ L, low l k = L := ⟨_, rfl⟩
  rw [hLL] at hL CF
  have HLL := hide hLL
  have HH := hide h
  cases hh : has l k with
  | false =>
    rw [hh] at CF
    have hd : delL l k = l := by unfold delL; rw [if_neg (by rw [hh]; simp)]
    rw [hd]
    obtain ⟨ao, cap, rfl, _⟩ := ref_cells h
    clear hh hd h hLL
    go_enter Try.func30, Try.ntmps30
    go_wp2_with fail
    refine (unhide CF).mono ?_
    rintro e w1 ⟨rfl, q, rfl⟩
    go_wp2_with fail
    go_ret2
    exact ⟨_, rfl, ref_later (unhide HH) (below_drewN (Below.refl _ _) q), below_drewN (Below.refl _ _) q⟩
  | true =>
    rw [hh] at CF
    obtain ⟨v0, h0⟩ := has_at hh
    rw [hLL] at h0
    have hlt : L < l.length := (List.getElem?_eq_some_iff.1 h0).1
    obtain ⟨ao, cap, rfl, hcap, hcm, _, hcell⟩ := ref_cells h
    obtain ⟨b, rfl, _, _⟩ := hcell L _ h0
    have HS : Hid (∀ u, Below w.heap.size w u → RefRow u (.slice (some ⟨b, 0, none⟩) l.length cap) l) := hide (fun u hu => ref_later h hu)
    have HDEL : Hid (delL l k = l.take L ++ l.drop (L + 1)) := hide (by unfold delL; rw [if_pos hh, hLL])
    obtain ⟨n, hn⟩ : ∃ n, l.length = n := ⟨_, rfl⟩
    have HN := hide hn
    have HT : Hid ((l.take L).length = L) := hide (by rw [List.length_take]; omega)
    have HDL : Hid ((l.drop (L + 1)).length = n - (L + 1)) := hide (by rw [List.length_drop, hn])
    rw [hn] at hb hL hcap hlt CF ⊢
    have i1 : (0 : Int) ≤ (L : Int) := by omega
    have i2 : (L : Int) ≤ (cap : Int) := by omega
    have i3 : (L : Int) ≤ (n : Int) := by omega
    have j1 : ((L : Int) + 1).toNat = L + 1 := by omega
    have j2 : (0 : Int) ≤ (L : Int) + 1 := by omega
    have j3 : (L : Int) + 1 ≤ (n : Int) := by omega
    have j4 : (L : Int) + 1 ≤ (cap : Int) := by omega
    clear h hh h0 hcell hLL hn
    go_enter Try.func30, Try.ntmps30
    go_wp2_with fail
    refine (unhide CF).mono ?_
    rintro e w1 ⟨rfl, q, rfl⟩
    have B1 : Below w.heap.size w (w.drewN q) := below_drewN (Below.refl _ _) q
    have HB1 := hide B1
    have P1 : Hid (∀ j u, (cells2 (valsI (l.take L)))[j]? = some u → (w.drewN q).cell? ((⟨b, 0, none⟩ : Addr).add j) = some u) := hide (fun j u hj => by
      have := part_cells (unhide HS _ B1) 0 L ⟨b, 0, none⟩ (fun _ => by simp)
      rw [List.drop_zero] at this
      exact this j u hj)
    clear B1 CF
    go_upto_region 6 with (first | (at_builtin; refine wpl_appm rfl (.tmp 18) (.tmp 21) 27 39 i0 _ 16 Try.underlying27 hi0 hz0 hz1 hz2 rfl rfl w.heap.size 0 (.slice none 0 0) [] rfl (World.ownsRow_nil _ _ _ _) ⟨b, 0, none⟩ L cap (cells2 (valsI (l.take L))) rfl (by rw [cells2_len, valsI_len, unhide HT]) (unhide P1) (onesI _) (by unfold maxLen; omega) (by omega) (unhide HB1).size ?_; intro v2 w2 H2))
    have O4 : Hid (w2.ownsRow w.heap.size 39 2 v2 L (cells2 (valsI (l.take L))) ∧ Below w.heap.size w w2) := hide (by
      obtain ⟨o2, g2⟩ := unhide H2
      rw [Nat.zero_add, List.nil_append] at o2
      exact ⟨o2, (unhide HB1).grown g2.grown (unhide HB1).size (fun c hc => by cases hc)⟩)
    obtain ⟨a4, c4, hv4⟩ := slice_of (unhide O4).1
    subst hv4
    clear H2 P1
    have fin : Hid (∀ v6 w6 m, (l.drop (L + 1)).length = m → w6.ownsRow w.heap.size 39 2 v6 (L + m) (cells2 (valsI (l.take L)) ++ cells2 (valsI (l.drop (L + 1)))) → RefRow w6 v6 (delL l k)) := hide (fun v6 w6 m hm ho => by
      unfold RefRow
      rw [unhide HDEL]
      have e : valsI (l.take L ++ l.drop (L + 1)) = valsI (l.take L) ++ valsI (l.drop (L + 1)) := by simp [valsI]
      rw [e, cells2_append, List.length_append, unhide HT, hm]
      exact own_zero ho)
    by_cases hdeg : cap = L + 1
    · subst hdeg
      have hz : n - (L + 1) = 0 := by omega
      rw [hz] at HDL
      have P4 : Hid (∀ j u, (cells2 (valsI (l.drop (L + 1))))[j]? = some u → w2.cell? ((⟨b, 0, none⟩ : Addr).add j) = some u) := hide (fun j u hj => by
        have := (List.getElem?_eq_some_iff.1 hj).1
        rw [cells2_len, valsI_len, unhide HDL] at this
        omega)
      go_wp2_with (first | (at_builtin; refine wpl_appm rfl (.tmp 23) (.tmp 27) 27 39 i0 _ 16 Try.underlying27 hi0 hz0 hz1 hz2 rfl rfl w.heap.size L (.slice a4 L c4) (cells2 (valsI (l.take L))) rfl (unhide O4).1 ⟨b, 0, none⟩ 0 0 (cells2 (valsI (l.drop (L + 1)))) rfl (by rw [cells2_len, valsI_len, unhide HDL]) (unhide P4) (onesI _) (by unfold maxLen; omega) (by omega) (unhide O4).2.size ?_; intro v6 w6 H6))
      go_ret2
      exact ⟨v6, rfl, unhide fin v6 w6 0 (unhide HDL) (unhide H6).1, (unhide O4).2.grown (unhide H6).2.grown (unhide O4).2.size (fun c hc => ((unhide O4).1.lt c hc).1)⟩
    · have P4 : Hid (∀ j u, (cells2 (valsI (l.drop (L + 1))))[j]? = some u → w2.cell? ((⟨b, (L + 1) * 2, none⟩ : Addr).add j) = some u) := hide (fun j u hj => by
        have := part_cells (unhide HS w2 (unhide O4).2) (L + 1) n ⟨b, (L + 1) * 2, none⟩ (fun _ => rfl)
        rw [List.take_of_length_le (by rw [unhide HDL]; omega)] at this
        exact this j u hj)
      go_wp2_with (first | (at_builtin; refine wpl_appm rfl (.tmp 23) (.tmp 27) 27 39 i0 _ 16 Try.underlying27 hi0 hz0 hz1 hz2 rfl rfl w.heap.size L (.slice a4 L c4) (cells2 (valsI (l.take L))) rfl (unhide O4).1 ⟨b, (L + 1) * 2, none⟩ (n - (L + 1)) (cap - (L + 1)) (cells2 (valsI (l.drop (L + 1)))) rfl (by rw [cells2_len, valsI_len, unhide HDL]) (unhide P4) (onesI _) (by unfold maxLen; omega) (by omega) (unhide O4).2.size ?_; intro v6 w6 H6))
      go_ret2
      exact ⟨v6, rfl, unhide fin v6 w6 _ (unhide HDL) (unhide H6).1, (unhide O4).2.grown (unhide H6).2.grown (unhide O4).2.size (fun c hc => ((unhide O4).1.lt c hc).1)⟩
end Go.Proofs.Ytflopmhjgamcfaa
