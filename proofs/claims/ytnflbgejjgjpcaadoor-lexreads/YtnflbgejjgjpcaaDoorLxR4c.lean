/-
  The walk of the document's token (layer 16); conditions: a text of at most 8192 bytes.
-/
import Derived.Test.YtnflbgejjgjpcaaDoorLxR4
namespace Go.Proofs.YtnflbgejjgjpcaaDoor
open Go.RowKit
set_option linter.unusedVariables false
set_option linter.unusedSimpArgs false

set_option maxRecDepth 100000 in
set_option maxHeartbeats 2000000 in
theorem tokenD_bytes (s : ByteArray) (a : Nat) (ha : a < s.size) (hs : s.size ≤ 8192) (w : World) (h34 : (s[a]'ha).toNat = 34) :
    Calls Tryd.prog 16 #[.string s, .int .i64 (a : Int)] w fun e w' => e = .returned (tokV a (bytT (s.data.toList.drop (a + 1)))) ∧ Below w.heap.size w w' := by
  have CW := hide (fun u => wordD_any s a (by omega) (by omega) u)
  have CL := hide (fun u => letterD_at s a ha u)
  have CD := hide (fun u => digitD_at s a ha u)
  obtain ⟨c, hc⟩ : ∃ c, s[a]'ha = c := ⟨_, rfl⟩
  have hci : ((s[a]'ha).toNat : Int) = (c.toNat : Int) := by rw [hc]
  obtain ⟨g, hg⟩ : ∃ g, w.heap.size = g := ⟨_, rfl⟩
  have HG := hide hg
  have hs2 : (s.size : Int) ≤ 8192 := by omega
  have ha2 : (a : Int) < (s.size : Int) := by omega
  have hdr := drop_at s a ha
  rw [hc] at hdr
  obtain ⟨n, hn⟩ : ∃ n, ((s.data.toList.drop a).takeWhile lxW).length = n := ⟨_, rfl⟩
  rw [hn] at CW
  have hnl : a + n ≤ s.size := by
    have := tw_le lxW (s.data.toList.drop a)
    rw [hn, List.length_drop, len_list] at this
    omega
  obtain ⟨b, hb⟩ : ∃ b, a + n = b := ⟨_, rfl⟩
  have hbi : (a : Int) + (n : Int) = (b : Int) := by omega
  have hbs : (b : Int) ≤ (s.size : Int) := by omega
  have hab : (a : Int) ≤ (b : Int) := by omega
  rw [hc] at CL CD h34
  have hlet : lxLet c = false := decide_eq_false (by omega)
  have hdg : lxDig c = false := decide_eq_false (by omega)
  rw [hlet] at CL
  rw [hdg] at CD
  have hc34 : (c.toNat : Int) = 34 := by omega
  have CQ0 := fun u => quotedD_any s a ha hs u
  rw [hc34] at hci
  rw [hc34] at CL CD
  obtain ⟨R, hR⟩ : ∃ R, tokV a (bytT (s.data.toList.drop (a + 1))) = R := ⟨_, rfl⟩
  have HR := hide hR
  rw [hR]
  clear hlet hdg hdr hc hn hb hR h34 hc34
  cases hi : bytV (s.data.toList.drop (a + 1)) with
  | none =>
    have HE : Hid (R = .tuple #[.agg #[.int .i64 0, .string ⟨#[]⟩, .int .i64 0, .int .i64 0], .int .i64 0, .int .i64 163]) := hide (by
      rw [← unhide HR]
      unfold bytT
      rw [hi]
      rfl)
    rw [hi] at CQ0
    have CQ : Hid (∀ u, Calls Tryd.prog 34 #[.string s, .int .i64 (a : Int)] u fun e w' => e = .returned (.tuple #[.string ⟨#[]⟩, .int .i64 0, .bool false]) ∧ Below u.heap.size u w') := hide CQ0
    clear hi CQ0
    go_enter Tryd.func16, Tryd.ntmps16
    go_upto_region 2 with fail
    obtain ⟨w2, hw2⟩ : ∃ w2, w2 = (w.alloc (.cells #[.int .i64 0, .string ⟨#[]⟩, .int .i64 0, .int .i64 0] 29)).alloc (.cells #[.int .i64 0, .string ⟨#[]⟩, .int .i64 0, .int .i64 (a : Int)] 29) := ⟨_, rfl⟩
    rw [← hw2]
    have BX : Hid (Bx w w2 g (.int .i64 0) (.string ⟨#[]⟩) (.int .i64 0) (.int .i64 (a : Int))) := hide (by rw [hw2, ← hg]; exact bx_start w a)
    clear hw2
    go_wp2_with fail
    refine ((unhide CW) _).mono ?_
    rintro e u ⟨rfl, hu⟩
    obtain rfl := hu.symm
    go_wp2_with fail
    refine ((unhide CL) _).mono ?_
    rintro e u ⟨rfl, hu⟩
    obtain rfl := hu.symm
    go_wp2_with fail
    refine ((unhide CD) _).mono ?_
    rintro e u ⟨rfl, hu⟩
    obtain rfl := hu.symm
    go_wp2_with fail
    refine ((unhide CQ) _).mono ?_
    rintro e u ⟨rfl, b3⟩
    have BXQ := hide ((unhide BX).later b3)
    clear b3 CQ BX
    have tok : True := trivial
    go_wp2_with (first | (have _t := tok; refine wpList_put_arr rfl 29 (.tmp 4) (.tmp 89) rfl g _ _ rfl rfl (unhide BXQ).ans rfl size_tok (one_tok _ _ _ _) ?_; clear tok; intro w9 M9))
    exact bodyPost_ret (ret_ctt (p := 4) (u := 5) (v := 6) (T := 29) rfl _ _ g _ _ _ rfl (unhide M9).at' Tryd.underlying29 rfl size_tok) rfl ⟨by rw [unhide HE]; rfl, by first | exact (unhide M9).below g w (unhide BXQ).below (Nat.le_refl _) | (rw [unhide HG]; exact (unhide M9).below g w (unhide BXQ).below (Nat.le_refl _))⟩
  | some x =>
    obtain ⟨bs, m⟩ := x
    rw [hi] at CQ0
    obtain ⟨V, hV⟩ : ∃ V, bA bs = V := ⟨_, rfl⟩
    obtain ⟨q, hq⟩ : ∃ q : Int, ((a + m : Nat) : Int) = q := ⟨_, rfl⟩
    have HE : Hid (R = .tuple #[.agg #[.int .i64 4, .string V, .int .i64 0, .int .i64 (a : Int)], .int .i64 q, .int .i64 0]) := hide (by
      rw [← unhide HR]
      unfold bytT
      rw [hi, ← hV, ← hq]
      rfl)
    have CQ : Hid (∀ u, Calls Tryd.prog 34 #[.string s, .int .i64 (a : Int)] u fun e w' => e = .returned (.tuple #[.string V, .int .i64 q, .bool true]) ∧ Below u.heap.size u w') := hide (by rw [← hV, ← hq]; exact CQ0)
    clear hi hV hq CQ0
    go_enter Tryd.func16, Tryd.ntmps16
    go_upto_region 2 with fail
    obtain ⟨w2, hw2⟩ : ∃ w2, w2 = (w.alloc (.cells #[.int .i64 0, .string ⟨#[]⟩, .int .i64 0, .int .i64 0] 29)).alloc (.cells #[.int .i64 0, .string ⟨#[]⟩, .int .i64 0, .int .i64 (a : Int)] 29) := ⟨_, rfl⟩
    rw [← hw2]
    have BX : Hid (Bx w w2 g (.int .i64 0) (.string ⟨#[]⟩) (.int .i64 0) (.int .i64 (a : Int))) := hide (by rw [hw2, ← hg]; exact bx_start w a)
    clear hw2
    go_wp2_with fail
    refine ((unhide CW) _).mono ?_
    rintro e u ⟨rfl, hu⟩
    obtain rfl := hu.symm
    go_wp2_with fail
    refine ((unhide CL) _).mono ?_
    rintro e u ⟨rfl, hu⟩
    obtain rfl := hu.symm
    go_wp2_with fail
    refine ((unhide CD) _).mono ?_
    rintro e u ⟨rfl, hu⟩
    obtain rfl := hu.symm
    go_wp2_with fail
    refine ((unhide CQ) _).mono ?_
    rintro e u ⟨rfl, b3⟩
    have BXQ := hide ((unhide BX).later b3)
    clear b3 CQ BX
    have f0 := (unhide BXQ).frz 0
    obtain ⟨x0, x1, x2, x3⟩ := (unhide BXQ).cells
    have hl := (unhide BXQ).lt
    go_upto_region 26 with fail
    obtain ⟨w3, hw3⟩ : ∃ w3, w3 = u.setCell ⟨g + 1, 0, none⟩ (.int .i64 4) := ⟨_, rfl⟩
    rw [← hw3]
    have BX3 : Hid (Bx w w3 g (.int .i64 4) (.string ⟨#[]⟩) (.int .i64 0) (.int .i64 (a : Int))) := hide (by rw [hw3]; exact (unhide BXQ).set0 _)
    clear hw3 f0 hl BXQ x0 x1 x2 x3
    have f2 := (unhide BX3).frz 1
    obtain ⟨x0, x1, x2, x3⟩ := (unhide BX3).cells
    have hl := (unhide BX3).lt
    go_upto_region 27 with fail
    obtain ⟨w4, hw4⟩ : ∃ w4, w4 = w3.setCell ⟨g + 1, 1, none⟩ (.string V) := ⟨_, rfl⟩
    rw [← hw4]
    have BX4 : Hid (Bx w w4 g (.int .i64 4) (.string V) (.int .i64 0) (.int .i64 (a : Int))) := hide (by rw [hw4]; exact (unhide BX3).set1 _)
    clear hw4 f2 hl BX3 x0 x1 x2 x3
    obtain ⟨d0, d1, d2, d3⟩ := (unhide BX4).cells
    have hl := (unhide BX4).lt
    have tok : True := trivial
    go_wp2_with (first | (have _t := tok; refine wpList_put_arr rfl 29 (.tmp 4) (.tmp 93) rfl g _ _ rfl rfl (unhide BX4).ans rfl size_tok (one_tok _ _ _ _) ?_; clear tok; intro w9 M9))
    exact bodyPost_ret (ret_ctt (p := 4) (u := 5) (v := 6) (T := 29) rfl _ _ g _ _ _ rfl (unhide M9).at' Tryd.underlying29 rfl size_tok) rfl ⟨by rw [unhide HE]; rfl, by first | exact (unhide M9).below g w (unhide BX4).below (Nat.le_refl _) | (rw [unhide HG]; exact (unhide M9).below g w (unhide BX4).below (Nat.le_refl _))⟩

end Go.Proofs.YtnflbgejjgjpcaaDoor
