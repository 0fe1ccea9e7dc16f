/-
  The walk of the document's token (layer 16); conditions: a text of at most 8192 bytes.
-/
import Derived.Test.YtnflbgejjgjpcaaDoorLxR4
namespace Go.Proofs.YtnflbgejjgjpcaaDoor
open Go.RowKit
set_option linter.unusedVariables false
set_option linter.unusedSimpArgs false

set_option maxRecDepth 100000 in
set_option maxHeartbeats 2000000 in
theorem tokenD_word (s : ByteArray) (a : Nat) (ha : a < s.size) (hs : s.size ≤ 8192) (w : World) (hlet : lxLet (s[a]'ha) = true) :
    Calls Tryd.prog 16 #[.string s, .int .i64 (a : Int)] w fun e w' => e = .returned (tokV a (wrdT ((s.data.toList.drop a).takeWhile lxW))) ∧ Below w.heap.size w w' := by
  have CW := hide (fun u => wordD_any s a (by omega) (by omega) u)
  have CL := hide (fun u => letterD_at s a ha u)
  have CD := hide (fun u => digitD_at s a ha u)
  obtain ⟨c, hc⟩ : ∃ c, s[a]'ha = c := ⟨_, rfl⟩
  have hci : ((s[a]'ha).toNat : Int) = (c.toNat : Int) := by rw [hc]
  obtain ⟨g, hg⟩ : ∃ g, w.heap.size = g := ⟨_, rfl⟩
  have HG := hide hg
  have hs2 : (s.size : Int) ≤ 8192 := by omega
  have ha2 : (a : Int) < (s.size : Int) := by omega
  have hdr := drop_at s a ha
  rw [hc] at hdr
  obtain ⟨n, hn⟩ : ∃ n, ((s.data.toList.drop a).takeWhile lxW).length = n := ⟨_, rfl⟩
  rw [hn] at CW
  have hnl : a + n ≤ s.size := by
    have := tw_le lxW (s.data.toList.drop a)
    rw [hn, List.length_drop, len_list] at this
    omega
  obtain ⟨b, hb⟩ : ∃ b, a + n = b := ⟨_, rfl⟩
  have hbi : (a : Int) + (n : Int) = (b : Int) := by omega
  have hbs : (b : Int) ≤ (s.size : Int) := by omega
  have hab : (a : Int) ≤ (b : Int) := by omega
  rw [hc] at CL CD hlet
  have hdg : lxDig c = false := by
    unfold lxLet at hlet
    rw [decide_eq_true_eq] at hlet
    exact decide_eq_false (by omega)
  rw [hlet] at CL
  rw [hdg] at CD
  obtain ⟨W, hW⟩ : ∃ W, (s.data.toList.drop a).takeWhile lxW = W := ⟨_, rfl⟩
  rw [hW] at hn ⊢
  have hext : s.extract a b = bA W := by
    refine bA_eq _ _ ?_
    rw [ext_data, List.drop_take, show b - a = n by omega, ← hW, ← hn, ← hW]
    exact (List.prefix_iff_eq_take.1 (List.takeWhile_prefix lxW)).symm
  have CI := fun u r (h : RowT u r keyL) => isIn_any u r keyL 12 h (by decide) (by decide) (bA W)
  rw [bA_data, show keyL.contains W = keyB W from rfl] at CI
  obtain ⟨V, hV⟩ : ∃ V, bA W = V := ⟨_, rfl⟩
  rw [hV] at hext CI
  have CII := hide CI
  obtain ⟨R, hR⟩ : ∃ R, tokV a (wrdT W) = R := ⟨_, rfl⟩
  have HR := hide (And.intro hR (And.intro hV (And.intro hn hb)))
  rw [hR]
  clear hlet hdg hdr hc hn hb hR hV hW CI
  go_enter Tryd.func16, Tryd.ntmps16
  go_upto_region 2 with fail
  obtain ⟨w2, hw2⟩ : ∃ w2, w2 = (w.alloc (.cells #[.int .i64 0, .string ⟨#[]⟩, .int .i64 0, .int .i64 0] 29)).alloc (.cells #[.int .i64 0, .string ⟨#[]⟩, .int .i64 0, .int .i64 (a : Int)] 29) := ⟨_, rfl⟩
  rw [← hw2]
  have BX : Hid (Bx w w2 g (.int .i64 0) (.string ⟨#[]⟩) (.int .i64 0) (.int .i64 (a : Int))) := hide (by rw [hw2, ← hg]; exact bx_start w a)
  clear hw2
  go_wp2_with fail
  refine ((unhide CW) _).mono ?_
  rintro e u ⟨rfl, hu⟩
  obtain rfl := hu.symm
  go_wp2_with fail
  refine ((unhide CL) _).mono ?_
  rintro e u ⟨rfl, hu⟩
  obtain rfl := hu.symm
  go_wp2_with fail
  refine ((unhide CD) _).mono ?_
  rintro e u ⟨rfl, hu⟩
  obtain rfl := hu.symm
  have f0 := (unhide BX).frz 0
  obtain ⟨x0, x1, x2, x3⟩ := (unhide BX).cells
  have hl := (unhide BX).lt
  go_upto_region 7 with fail
  obtain ⟨w3, hw3⟩ : ∃ w3, w3 = w2.setCell ⟨g + 1, 0, none⟩ (.int .i64 1) := ⟨_, rfl⟩
  rw [← hw3]
  have BX3 : Hid (Bx w w3 g (.int .i64 1) (.string ⟨#[]⟩) (.int .i64 0) (.int .i64 (a : Int))) := hide (by rw [hw3]; exact (unhide BX).set0 _)
  clear hw3 f0 hl BX x0 x1 x2 x3
  have f1 := (unhide BX3).frz 1
  obtain ⟨x0, x1, x2, x3⟩ := (unhide BX3).cells
  have hl := (unhide BX3).lt
  go_upto_region 8 with fail
  obtain ⟨w4, hw4⟩ : ∃ w4, w4 = w3.setCell ⟨g + 1, 1, none⟩ (.string V) := ⟨_, rfl⟩
  rw [← hw4]
  have BX4 : Hid (Bx w w4 g (.int .i64 1) (.string V) (.int .i64 0) (.int .i64 (a : Int))) := hide (by rw [hw4]; exact (unhide BX3).set1 _)
  clear hw4 f1 hl BX3 x0 x1 x2 x3
  have c1 := (unhide BX4).cells.2.1
  have HKK : Hid (∀ w', Below w4.heap.size w4 w' → w'.cell? ⟨g + 1, 1, none⟩ = some (.string V)) := hide (fun w' hw' => cell_later hw' c1)
  go_region_held3 (fun w' => Below w4.heap.size w4 w' ∧ w'.cell? ⟨g + 1, 1, none⟩ = some (.string V))
    (first | assumption | exact ⟨(Below.refl _ _).drew, unhide HKK _ (Below.refl _ _).drew⟩ | (refine keepD HKK (And.left (by assumption)) (by assumption); done) | (refine keepD HKK ?_ ?_ <;> assumption))
    (first | (go_at_call 32; refine (keywords_any _).mono ?_; rintro e w5 ⟨rfl, hrow, b5⟩) | (go_at_call 31; refine ((unhide CII) _ _ (by assumption)).mono ?_; rintro e w6 ⟨rfl, hw6⟩; obtain rfl := hw6.symm))
  have hb5 : Below w4.heap.size w4 w5 := And.left (by assumption)
  have BX6 := hide ((unhide BX4).later hb5)
  clear b5 hb5 hrow c1 HKK BX4
  cases hk : keyB W with
    | true =>
      have HE : Hid (R = .tuple #[.agg #[.int .i64 2, .string V, .int .i64 0, .int .i64 (a : Int)], .int .i64 (b : Int), .int .i64 0]) := hide (by
        obtain ⟨h1, h2, h3, h4⟩ := unhide HR
        rw [← h1]
        unfold wrdT
        rw [if_pos hk, ← h2, ← h4, ← h3]
        rfl)
      have f0 := (unhide BX6).frz 0
      obtain ⟨x0, x1, x2, x3⟩ := (unhide BX6).cells
      have hl := (unhide BX6).lt
      clear hk
      go_upto_region 13 with fail
      obtain ⟨w7, hw7⟩ : ∃ w7, w7 = w5.setCell ⟨g + 1, 0, none⟩ (.int .i64 2) := ⟨_, rfl⟩
      rw [← hw7]
      have BX7 : Hid (Bx w w7 g (.int .i64 2) (.string V) (.int .i64 0) (.int .i64 (a : Int))) := hide (by rw [hw7]; exact (unhide BX6).set0 _)
      clear hw7 f0 hl BX6 x0 x1 x2 x3
      obtain ⟨d0, d1, d2, d3⟩ := (unhide BX7).cells
      have tok : True := trivial
      go_wp2_with (first | (have _t := tok; refine wpList_put_arr rfl 29 (.tmp 4) (.tmp 49) rfl g _ _ rfl rfl (unhide BX7).ans rfl size_tok (one_tok _ _ _ _) ?_; clear tok; intro w9 M9))
      exact bodyPost_ret (ret_ctt (p := 4) (u := 5) (v := 6) (T := 29) rfl _ _ g _ _ _ rfl (unhide M9).at' Tryd.underlying29 rfl size_tok) rfl ⟨by rw [unhide HE]; rfl, by first | exact (unhide M9).below g w (unhide BX7).below (Nat.le_refl _) | (rw [unhide HG]; exact (unhide M9).below g w (unhide BX7).below (Nat.le_refl _))⟩
    | false =>
      by_cases h20 : 20 < n
      · have k1 : (20 : Int) < (n : Int) := by omega
        have HE : Hid (R = .tuple #[.agg #[.int .i64 0, .string ⟨#[]⟩, .int .i64 0, .int .i64 0], .int .i64 0, .int .i64 164]) := hide (by
          obtain ⟨h1, h2, h3, h4⟩ := unhide HR
          rw [← h1]
          unfold wrdT
          rw [if_neg (by rw [hk]; simp), if_pos (by omega)]
          rfl)
        clear hk h20
        have tok : True := trivial
        go_wp2_with (first | (have _t := tok; refine wpList_put_arr rfl 29 (.tmp 4) (.tmp 48) rfl g _ _ rfl rfl (unhide BX6).ans rfl size_tok (one_tok _ _ _ _) ?_; clear tok; intro w9 M9))
        exact bodyPost_ret (ret_ctt (p := 4) (u := 5) (v := 6) (T := 29) rfl _ _ g _ _ _ rfl (unhide M9).at' Tryd.underlying29 rfl size_tok) rfl ⟨by rw [unhide HE]; rfl, by first | exact (unhide M9).below g w (unhide BX6).below (Nat.le_refl _) | (rw [unhide HG]; exact (unhide M9).below g w (unhide BX6).below (Nat.le_refl _))⟩
      · have k1 : ¬ (20 : Int) < (n : Int) := by omega
        have HE : Hid (R = .tuple #[.agg #[.int .i64 1, .string V, .int .i64 0, .int .i64 (a : Int)], .int .i64 (b : Int), .int .i64 0]) := hide (by
          obtain ⟨h1, h2, h3, h4⟩ := unhide HR
          rw [← h1]
          unfold wrdT
          rw [if_neg (by rw [hk]; simp), if_neg (by omega), ← h2, ← h4, ← h3]
          rfl)
        obtain ⟨d0, d1, d2, d3⟩ := (unhide BX6).cells
        have hl := (unhide BX6).lt
        clear hk h20
        have tok : True := trivial
        go_wp2_with (first | (have _t := tok; refine wpList_put_arr rfl 29 (.tmp 4) (.tmp 49) rfl g _ _ rfl rfl (unhide BX6).ans rfl size_tok (one_tok _ _ _ _) ?_; clear tok; intro w9 M9))
        exact bodyPost_ret (ret_ctt (p := 4) (u := 5) (v := 6) (T := 29) rfl _ _ g _ _ _ rfl (unhide M9).at' Tryd.underlying29 rfl size_tok) rfl ⟨by rw [unhide HE]; rfl, by first | exact (unhide M9).below g w (unhide BX6).below (Nat.le_refl _) | (rw [unhide HG]; exact (unhide M9).below g w (unhide BX6).below (Nat.le_refl _))⟩

end Go.Proofs.YtnflbgejjgjpcaaDoor
