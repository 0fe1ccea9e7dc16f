/-
  The walk of did, its Write; conditions: the package's variables, lengths that an int holds.
-/
import Derived.Test.YtfmbaidpeliakaaDoorHDid
import Derived.Deep.QuietTactic
import Derived.BigQuiet
namespace Go.Proofs.YtfmbaidpeliakaaDoor
open Go.RowKit
set_option linter.unusedVariables false
set_option linter.unusedSimpArgs false

theorem write_lent {t0 tK : TypeId} {m : List Int} {g G : Nat} {T : ByteArray} (w : World) (h : Has w g KS m) (hp : Pkg w t0 tK KS) (hg : 1 < g) (hA : Arr8 w G 5 (txt T ++ lentL T.size)) (hne : G ≠ g) (hm : m.length + T.size ≤ 9223372036854775807) :
    Calls Tryd.prog 9 #[.pointer (some ⟨g, 0, none⟩), .slice (some ⟨G, 0, none⟩) T.size (T.size + 70)] w fun e w' => e = .returned (.int .i64 ((m.length + T.size : Nat) : Int)) ∧ Has w' g KS (m ++ txt T) ∧ Keeps w w' g := by
  obtain ⟨st, bf, h1, h2, h3, h4, h5, h6⟩ := h
  have k := write_any g G (some ⟨G, 0, none⟩) (T.size + 70) st bf (txt T) KS m.length w h2 h3 h4 h5 h6 (txt_bounds T) hp.1 hp.2.2 hg (by rw [txt_len]; omega) (fun _ => ⟨0, rfl, hne, arr_lt hA, arr8_bytes hA⟩) (by rw [txt_len]; omega)
  rw [txt_len] at k
  refine k.mono ?_
  rintro e w' ⟨rfl, st', bf', q1, q2, q3, q4, q5, q6, q7⟩
  refine ⟨by rw [show wrap64 ((m.length + T.size : Nat) : Int) = ((m.length + T.size : Nat) : Int) by unfold wrap64; omega], ⟨st', bf', ?_, ?_, q4, q5, q6, q7⟩, q3⟩
  · rw [feed_app, h1, q1, List.length_append, txt_len]
  · rw [List.length_append, txt_len]; exact q2

set_option maxRecDepth 100000 in
set_option maxHeartbeats 1000000 in
theorem did_write {t0 tK : TypeId} (w wr : World) (lv : Value) (ls : List Bk) (c h : Int) (s : ByteArray) (hp : Pkg w t0 tK KS) (hB : Books w wr lv ls) (h1 : 1 ≤ ls.length) (h2 : ls.length ≤ 2000000) (hc : -9223372036854775808 ≤ c ∧ c ≤ 9223372036854775807) (hh : -9223372036854775808 ≤ h ∧ h ≤ 9223372036854775807) (hk : pickI c 4 = 1) (hsz : s.size ≤ 140737488351232) (hlz : ∀ p ∈ ls, p.2.size ≤ 140737488351232) :
    Calls Tryd.prog 8 #[lv, .agg #[.int .i64 c, .int .i64 h, .string s]] wr fun e w' => ResDid w ls s e w' := by
  obtain ⟨b, cap, hlv, hb1, hb2, hcap, _, _, _⟩ := hB.at (by omega)
  obtain ⟨n, hn⟩ : ∃ n, ls.length = n := ⟨_, rfl⟩
  have BX := Box3.mk' wr (.int .i64 c) (.int .i64 h) (.string s)
  obtain ⟨w1, hw1⟩ : ∃ w1, wr.alloc (.cells #[.int .i64 c, .int .i64 h, .string s] 35) = w1 := ⟨_, rfl⟩
  rw [hw1] at BX
  obtain ⟨gB, hgB⟩ : ∃ g, wr.heap.size = g := ⟨_, rfl⟩
  have hrow := BX.row
  rw [hgB] at hrow
  obtain ⟨c0, c1, c2⟩ := row_cell3 hrow
  have C1 := hide (pick_any h (n : Int) w1 hh.1 hh.2 (by omega) (by omega))
  have C2 := hide (pick_any c 4 w1 hc.1 hc.2 (by omega) (by omega))
  rw [hk] at C2
  obtain ⟨k, hK, hkn⟩ : ∃ k : Nat, pickI h (n : Int) = (k : Int) ∧ k < n := by
    have := pick_range h (n : Int) (by omega)
    exact ⟨(pickI h (n : Int)).toNat, by omega, by omega⟩
  rw [hK] at C1
  have H1 := hide (hB.later BX.below)
  have hb2' : b < gB := by omega
  obtain ⟨⟨g, T⟩, hpk⟩ : ∃ p, ls[k]? = some p := ⟨_, List.getElem?_eq_getElem (by omega)⟩
  have hgw : g < gB := by have := (hB.has k _ hpk).1.lt; omega
  have hTs := hlz _ (List.mem_of_getElem? hpk)
  dsimp only at hTs
  have HN := hide (And.intro hn (And.intro h1 (And.intro h2 hpk)))
  have i1 : (k : Int) < (n : Int) := by omega
  have HP := hide hp
  have CL := hide (lent_any s w1 hsz)
  obtain ⟨G, hG⟩ : ∃ G, w1.heap.size = G := ⟨_, rfl⟩
  rw [hG] at CL
  have HROW := hide (And.intro hrow BX.size)
  rw [hn] at hlv hcap
  subst hlv
  clear hB BX h1 h2 hn hrow hlz
  go_enter Tryd.func8, Tryd.ntmps8
  go_wp2_with fail
  refine (unhide C1).mono ?_
  rintro e u ⟨rfl, rfl⟩
  go_wp2_with fail
  refine (unhide C2).mono ?_
  rintro e u ⟨rfl, rfl⟩
  go_wp2_with fail
  refine (unhide CL).mono ?_
  rintro e w2 ⟨rfl, a2, b2⟩
  rw [← hG] at b2
  have H2 := hide ((unhide H1).later b2)
  have hlw : u.heap.size ≤ w2.heap.size := b2.size
  have r2 := (b2.block gB (by have := (unhide HROW).2; omega)).trans (unhide HROW).1
  obtain ⟨_, _, e3, _, _, _, _, _, hcl⟩ := (unhide H2).at (by have := unhide HN; omega)
  rw [(unhide HN).1] at e3
  cases e3
  obtain ⟨d0, d1⟩ := hcl k _ (unhide HN).2.2.2
  dsimp only at d0 d1
  have hgb := (unhide H2).has k _ (unhide HN).2.2.2
  dsimp only at hgb
  have hgu : g < u.heap.size := ((unhide H1).has k _ (unhide HN).2.2.2).1.lt
  have CW := hide (write_lent (T := s) w2 hgb.1 ((unhide HP).later (unhide H2).below (unhide HP).lt) (by have := (unhide HP).lt; have := hgb.2.1; omega) a2 (by omega) (by rw [txt_len]; omega))
  rw [txt_len] at CW
  have A2 := hide (And.intro a2 r2)
  clear a2 b2 CL c0 c1 c2 C1 C2 hcl hgb r2
  go_wp2_with fail
  refine (unhide CW).mono ?_
  rintro e w3 ⟨rfl, a3, k3⟩
  have hGgB : gB < G := by have := (unhide HROW).2; omega
  have hbg : b ≠ g := fun e => ((unhide H2).has k _ (unhide HN).2.2.2).2.2 (by rw [e]; rfl)
  have e1 : w3.cell? ⟨b, k * 2 + 1, none⟩ = some (.string T) := (World.cell?_of_block (k3.other b (World.block_lt_of_cell? _ _ (by rw [d1])) hbg)).trans d1
  have f1 : w3.frozen? ⟨b, k * 2 + 1, none⟩ = false := by
    obtain ⟨_, _, e3, _, _, _, _, hfz, _⟩ := (unhide H2).at (by have := unhide HN; omega)
    rw [(unhide HN).1] at e3
    cases e3
    have := hfz (k * 2 + 1)
    unfold World.frozen? at this ⊢
    dsimp only at this ⊢
    rw [k3.other b (World.block_lt_of_cell? _ _ (by rw [d1])) hbg]
    exact this
  have r3 : w3.heap[gB]? = some (.cells #[.int .i64 c, .int .i64 h, .string s] 35 (0, 0)) := (k3.other gB (by omega) (by omega)).trans (unhide A2).2
  have A3 : Arr8 w3 G 5 (txt s ++ lentL s.size) := (k3.other G (arr_lt (unhide A2).1) (by omega)).trans (unhide A2).1
  obtain ⟨_, _, c3⟩ := row_cell3 r3
  have hz3 : G < w3.heap.size := arr_lt A3
  have HB4 : Hid (Books w (w3.setCell ⟨b, k * 2 + 1, none⟩ (.string (T ++ s))).drew (.slice (some ⟨b, 0, none⟩) n cap) (ls.set k (g, T ++ s))) := hide (by
    have h3 := (unhide H2)
    rw [← (unhide HN).1] at h3
    have h4 := h3.wrote (unhide HN).2.2.2 (T := s) (u' := w3) a3 k3
    have h5 := h4.later (u := (w3.setCell ⟨b, k * 2 + 1, none⟩ (.string (T ++ s))).drew) (Below.refl _ _).drew
    rw [(unhide HN).1] at h5
    exact h5)
  have H3 := hide (And.intro r3 A3)
  obtain ⟨TS, hTS⟩ : ∃ TS, T ++ s = TS := ⟨_, rfl⟩
  have hTsz : TS.size = T.size + s.size := by rw [← hTS, ← txt_len, txt_append, List.length_append, txt_len, txt_len]
  rw [hTS] at HB4
  have HTS := hide hTS
  clear a3 k3 d0 d1 CW r3 A3
  go_upto_region 8 with fail
  go_cut [] from 42 to 54 (fun wx => Hid (Books w wx (.slice (some ⟨b, 0, none⟩) n cap) (ls.set k (g, TS)) ∧ Arr8 wx G 5 (txt s ++ lentL s.size) ∧ wx.heap[gB]? = some (.cells #[.int .i64 c, .int .i64 h, .string s] 35 (0, 0))))
  case first =>
    go_region
    all_goals go_wp2_with fail
    all_goals go_meet
    refine hide ⟨unhide HB4, ?_, ?_⟩
    · exact (heap_setCell_other _ _ _ _ (show G ≠ b by omega)).trans (unhide H3).2
    · exact (heap_setCell_other _ _ _ _ (show gB ≠ b by omega)).trans (unhide H3).1
  case rest =>
    obtain ⟨r4, r5⟩ := (show Books w wc (.slice (some ⟨b, 0, none⟩) n cap) (ls.set k (g, TS)) ∧ (Arr8 wc G 5 (txt s ++ lentL s.size) ∧ wc.heap[gB]? = some (.cells #[.int .i64 c, .int .i64 h, .string s] 35 (0, 0))) from unhide hcut)
    clear HB4 H3 e1 f1 c3
    have c4 := (row_cell3 r5.2).2.2
    have CK := hide (still_any G s wc hsz r5.1)
    have CO := hide (over_any G (s.size + 70) (s.size + 70) 5 ((txt s ++ lentL s.size).map (Value.int .u8)) wc r5.1 (by rw [List.length_map, List.length_append, txt_len, lentL_len]; exact Nat.le_refl _) (by omega))
    have HR := hide (And.intro r4 r5)
    clear r4 r5
    go_wp2_with fail
    refine (unhide CK).mono ?_
    rintro e u5 ⟨rfl, rfl⟩
    go_wp2_with fail
    refine (unhide CO).mono ?_
    rintro e w6 ⟨rfl, k6⟩
    have hkl : k < (ls.set k (g, TS)).length := by rw [List.length_set, (unhide HN).1]; exact hkn
    have B6 : Books w w6 (.slice (some ⟨b, 0, none⟩) n cap) (ls.set k (g, TS)) := by
      refine (unhide HR).1.keeps k6 (by have := (unhide H1).below.size; omega) (fun i p hi => ?_) (fun e => ?_)
      · by_cases hik : i = k
        · subst hik
          rw [List.getElem?_set_self (by rw [(unhide HN).1]; exact hkn)] at hi
          cases hi
          dsimp only
          omega
        · rw [List.getElem?_set_ne (fun e => hik e.symm)] at hi
          have := ((unhide H1).has i p hi).1.lt
          omega
      · have : b = G := Option.some.inj e
        omega
    obtain ⟨_, _, e3, _, _, _, _, _, hcl⟩ := B6.at (by omega)
    rw [List.length_set, (unhide HN).1] at e3
    cases e3
    have d6 := (hcl k (g, TS) (List.getElem?_set_self (by rw [(unhide HN).1]; exact hkn))).2
    dsimp only at d6
    have kz : (((T.size + s.size : Nat) : Int) == (TS.size : Int)) = true := beq_iff_eq.2 (by omega)
    have kz2 : ((T.size + s.size : Nat) : Int) = (TS.size : Int) := by omega
    have H6 := hide B6
    clear k6 CO CK HR B6 hcl c4
    go_upto_region 11 with fail
    go_quiet (fail)
    go_wp2_with fail
    go_ret2
    refine ⟨_, ls.set k (g, TS), ?_, (unhide H6).later (below_drewN (Below.refl _ _) _), by simp, by simp, fun M hM p hp => ?_⟩
    · simp; omega
    · rcases List.mem_or_eq_of_mem_set hp with hp | hp
      · have := hM p hp; omega
      · subst hp
        have := hM _ (List.mem_of_getElem? (unhide HN).2.2.2)
        dsimp only at this ⊢
        omega
end Go.Proofs.YtfmbaidpeliakaaDoor
