/-
  The walk of the document's token (layer 16); conditions: a text of at most 8192 bytes.
-/
import Derived.Test.YtnflbgejjgjpcaaDoorLxR4
namespace Go.Proofs.YtnflbgejjgjpcaaDoor
open Go.RowKit
set_option linter.unusedVariables false
set_option linter.unusedSimpArgs false

set_option maxRecDepth 100000 in
set_option maxHeartbeats 2000000 in
theorem tokenD_num (s : ByteArray) (a : Nat) (ha : a < s.size) (hs : s.size ≤ 8192) (w : World) (hdg : lxDig (s[a]'ha) = true) :
    Calls Tryd.prog 16 #[.string s, .int .i64 (a : Int)] w fun e w' => e = .returned (tokV a (numT ((s.data.toList.drop a).takeWhile lxW))) ∧ Below w.heap.size w w' := by
  have CW := hide (fun u => wordD_any s a (by omega) (by omega) u)
  have CL := hide (fun u => letterD_at s a ha u)
  have CD := hide (fun u => digitD_at s a ha u)
  obtain ⟨c, hc⟩ : ∃ c, s[a]'ha = c := ⟨_, rfl⟩
  have hci : ((s[a]'ha).toNat : Int) = (c.toNat : Int) := by rw [hc]
  obtain ⟨g, hg⟩ : ∃ g, w.heap.size = g := ⟨_, rfl⟩
  have HG := hide hg
  have hs2 : (s.size : Int) ≤ 8192 := by omega
  have ha2 : (a : Int) < (s.size : Int) := by omega
  have hdr := drop_at s a ha
  rw [hc] at hdr
  obtain ⟨n, hn⟩ : ∃ n, ((s.data.toList.drop a).takeWhile lxW).length = n := ⟨_, rfl⟩
  rw [hn] at CW
  have hnl : a + n ≤ s.size := by
    have := tw_le lxW (s.data.toList.drop a)
    rw [hn, List.length_drop, len_list] at this
    omega
  obtain ⟨b, hb⟩ : ∃ b, a + n = b := ⟨_, rfl⟩
  have hbi : (a : Int) + (n : Int) = (b : Int) := by omega
  have hbs : (b : Int) ≤ (s.size : Int) := by omega
  have hab : (a : Int) ≤ (b : Int) := by omega
  rw [hc] at CL CD hdg
  have hlet : lxLet c = false := by
    have := dig_range hdg
    exact decide_eq_false (by omega)
  rw [hlet] at CL
  rw [hdg] at CD
  obtain ⟨W, hW⟩ : ∃ W, (s.data.toList.drop a).takeWhile lxW = W := ⟨_, rfl⟩
  rw [hW] at hn ⊢
  have hWn : 0 < W.length := by
    rw [← hW, hdr, List.takeWhile_cons, if_pos (by unfold lxW; rw [hdg]; simp)]
    simp
  have hext : s.extract a b = bA W := by
    refine bA_eq _ _ ?_
    rw [ext_data, List.drop_take, show b - a = n by omega, ← hW, ← hn, ← hW]
    exact (List.prefix_iff_eq_take.1 (List.takeWhile_prefix lxW)).symm
  have CN := hide (fun u => numberD_any (bA W) (by rw [bA_size]; exact hWn) (by rw [bA_size]; omega) u)
  rw [bA_data] at CN
  obtain ⟨V, hV⟩ : ∃ V, bA W = V := ⟨_, rfl⟩
  rw [hV] at hext CN
  obtain ⟨R, hR⟩ : ∃ R, tokV a (numT W) = R := ⟨_, rfl⟩
  have HR := hide (And.intro hR (And.intro hV (And.intro hn hb)))
  rw [hR]
  clear hlet hdg hdr hc hn hb hR hV hW hWn
  go_enter Tryd.func16, Tryd.ntmps16
  go_upto_region 2 with fail
  obtain ⟨w2, hw2⟩ : ∃ w2, w2 = (w.alloc (.cells #[.int .i64 0, .string ⟨#[]⟩, .int .i64 0, .int .i64 0] 29)).alloc (.cells #[.int .i64 0, .string ⟨#[]⟩, .int .i64 0, .int .i64 (a : Int)] 29) := ⟨_, rfl⟩
  rw [← hw2]
  have BX : Hid (Bx w w2 g (.int .i64 0) (.string ⟨#[]⟩) (.int .i64 0) (.int .i64 (a : Int))) := hide (by rw [hw2, ← hg]; exact bx_start w a)
  clear hw2
  go_wp2_with fail
  refine ((unhide CW) _).mono ?_
  rintro e u ⟨rfl, hu⟩
  obtain rfl := hu.symm
  go_wp2_with fail
  refine ((unhide CL) _).mono ?_
  rintro e u ⟨rfl, hu⟩
  obtain rfl := hu.symm
  go_wp2_with fail
  refine ((unhide CD) _).mono ?_
  rintro e u ⟨rfl, hu⟩
  obtain rfl := hu.symm
  go_wp2_with fail
  refine ((unhide CN) _).mono ?_
  rintro e u ⟨⟨z, rfl, hz⟩, hu⟩
  obtain rfl := hu.symm
  have HZ := hide hz
  clear hz CN
  cases hi : intV W with
  | none =>
    simp only [Option.isSome_none]
    have HE : Hid (R = .tuple #[.agg #[.int .i64 0, .string ⟨#[]⟩, .int .i64 0, .int .i64 0], .int .i64 0, .int .i64 162]) := hide (by
      obtain ⟨h1, h2, h3, h4⟩ := unhide HR
      rw [← h1]
      unfold numT
      rw [hi]
      rfl)
    clear hi
    have tok : True := trivial
    go_wp2_with (first | (have _t := tok; refine wpList_put_arr rfl 29 (.tmp 4) (.tmp 67) rfl g _ _ rfl rfl (unhide BX).ans rfl size_tok (one_tok _ _ _ _) ?_; clear tok; intro w9 M9))
    exact bodyPost_ret (ret_ctt (p := 4) (u := 5) (v := 6) (T := 29) rfl _ _ g _ _ _ rfl (unhide M9).at' Tryd.underlying29 rfl size_tok) rfl ⟨by rw [unhide HE]; rfl, by first | exact (unhide M9).below g w (unhide BX).below (Nat.le_refl _) | (rw [unhide HG]; exact (unhide M9).below g w (unhide BX).below (Nat.le_refl _))⟩
  | some m =>
    have hzm := unhide HZ m hi
    subst hzm
    simp only [Option.isSome_some]
    have HE : Hid (R = .tuple #[.agg #[.int .i64 3, .string ⟨#[]⟩, .int .i64 (m : Int), .int .i64 (a : Int)], .int .i64 (b : Int), .int .i64 0]) := hide (by
      obtain ⟨h1, h2, h3, h4⟩ := unhide HR
      rw [← h1]
      unfold numT
      rw [hi, ← h4, ← h3]
      rfl)
    have f0 := (unhide BX).frz 0
    obtain ⟨x0, x1, x2, x3⟩ := (unhide BX).cells
    have hl := (unhide BX).lt
    clear hi HZ
    go_upto_region 19 with fail
    obtain ⟨w3, hw3⟩ : ∃ w3, w3 = w2.setCell ⟨g + 1, 0, none⟩ (.int .i64 3) := ⟨_, rfl⟩
    rw [← hw3]
    have BX3 : Hid (Bx w w3 g (.int .i64 3) (.string ⟨#[]⟩) (.int .i64 0) (.int .i64 (a : Int))) := hide (by rw [hw3]; exact (unhide BX).set0 _)
    clear hw3 f0 hl BX x0 x1 x2 x3
    have f2 := (unhide BX3).frz 2
    obtain ⟨x0, x1, x2, x3⟩ := (unhide BX3).cells
    have hl := (unhide BX3).lt
    go_upto_region 20 with fail
    obtain ⟨w4, hw4⟩ : ∃ w4, w4 = w3.setCell ⟨g + 1, 2, none⟩ (.int .i64 (m : Int)) := ⟨_, rfl⟩
    rw [← hw4]
    have BX4 : Hid (Bx w w4 g (.int .i64 3) (.string ⟨#[]⟩) (.int .i64 (m : Int)) (.int .i64 (a : Int))) := hide (by rw [hw4]; exact (unhide BX3).set2 _)
    clear hw4 f2 hl BX3 x0 x1 x2 x3
    obtain ⟨d0, d1, d2, d3⟩ := (unhide BX4).cells
    have hl := (unhide BX4).lt
    have tok : True := trivial
    go_wp2_with (first | (have _t := tok; refine wpList_put_arr rfl 29 (.tmp 4) (.tmp 71) rfl g _ _ rfl rfl (unhide BX4).ans rfl size_tok (one_tok _ _ _ _) ?_; clear tok; intro w9 M9))
    exact bodyPost_ret (ret_ctt (p := 4) (u := 5) (v := 6) (T := 29) rfl _ _ g _ _ _ rfl (unhide M9).at' Tryd.underlying29 rfl size_tok) rfl ⟨by rw [unhide HE]; rfl, by first | exact (unhide M9).below g w (unhide BX4).below (Nat.le_refl _) | (rw [unhide HG]; exact (unhide M9).below g w (unhide BX4).below (Nat.le_refl _))⟩

end Go.Proofs.YtnflbgejjgjpcaaDoor
