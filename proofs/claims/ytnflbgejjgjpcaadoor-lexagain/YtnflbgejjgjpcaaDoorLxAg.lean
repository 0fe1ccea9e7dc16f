/-
  The walk of LexAgain; conditions: what the variables of strconv hold.
-/
import Derived.Test.YtnflbgejjgjpcaaDoorLxAg0
namespace Go.Proofs.YtnflbgejjgjpcaaDoor
open Go.RowKit
set_option linter.unusedVariables false
set_option linter.unusedSimpArgs false

theorem infoInt : (Tryd.prog.info? 3).map (fun i => (i.zero, i.size, i.bytes)) = some (some (.int .i64 0), 1, 8) := by kernel_rfl

def offs (ts : List Tk) (i : Nat) : List Value := (List.range i).map (fun j => .int .i64 (offT ts j : Int))
theorem offs_next (ts : List Tk) (i : Nat) : offs ts (i + 1) = offs ts i ++ [.int .i64 (offT ts i : Int)] := by unfold offs; rw [List.range_succ, List.map_append]; rfl
theorem offs_at (ts : List Tk) (n j : Nat) (h : j < n) : (offs ts n)[j]? = some (.int .i64 (offT ts j : Int)) := by unfold offs; rw [List.getElem?_map, List.getElem?_range h]; rfl

theorem jn_len : ∀ (ts : List Tk), (∀ t ∈ ts, (wrT t).length ≤ 8192) → (jn ts).length ≤ ts.length * 8193
  | [], _ => by simp [jn]
  | [t], h => by have := h t (by simp); simp [jn]; omega
  | t :: u :: ts, h => by
    have h1 := h t (by simp)
    have ih := jn_len (u :: ts) (fun x hx => h x (List.mem_cons_of_mem _ hx))
    rw [jn_two t (u :: ts) (by simp), List.length_append, List.length_cons]
    simp only [List.length_cons] at ih ⊢
    omega

theorem jn_take (ts : List Tk) (i : Nat) (t : Tk) (h : ts[i]? = some t) : jn (ts.take (i + 1)) = if i = 0 then wrT t else jn (ts.take i) ++ 32 :: wrT t := by
  have hi : i < ts.length := (List.getElem?_eq_some_iff.1 h).1
  rw [List.take_add_one, h]
  by_cases h0 : i = 0
  · subst h0
    rw [if_pos rfl]
    rfl
  · rw [if_neg h0]
    exact jn_snoc _ t (by intro e; have := congrArg List.length e; rw [List.length_take, List.length_nil] at this; omega)

set_option maxRecDepth 100000 in
set_option maxHeartbeats 1000000 in
theorem again_bad (s : ByteArray) (w : World) (he : Ev w) (hw6 : 5 < w.heap.size) (q er : Nat) (hE : allT s.data.toList = .error (q, er)) (h1 : 160 ≤ er) :
    Calls Tryd.prog 5 #[.string s] w fun e w' => e = .returned (.bool true) ∧ Below w.heap.size w w' := by
  have CA := hide (all_bad s q er w he hw6 hE)
  have CS := hide (fun u (hu : Below w.heap.size w u) => shown_any u (he.below hu hw6) (Nat.lt_of_lt_of_le hw6 hu.size))
  have k3 : ((er : Int) == 0) = false := beq_eq_false_iff_ne.2 (by omega)
  have k4 : ((er : Int) != 0) = true := by simp; omega
  have k5 : ¬ (er : Int) = 0 := by omega
  clear he hE h1
  go_enter Tryd.func5, Tryd.ntmps5
  go_wp2_with fail
  refine (unhide CA).mono ?_
  rintro e uA ⟨rfl, b1⟩
  have B1 := hide b1
  clear b1
  go_wp2_with fail
  refine ((unhide CS) uA (unhide B1)).mono ?_
  rintro e uB ⟨rfl, b2⟩
  have B2 : Hid (Below w.heap.size w uB) := hide ((unhide B1).trans (b2.mono (unhide B1).size))
  clear b2
  go_wp2_with fail
  go_ret
  exact ⟨rfl, unhide B2⟩

set_option maxRecDepth 100000 in
set_option maxHeartbeats 4000000 in
theorem again_ok (s : ByteArray) (w : World) (he : Ev w) (hw6 : 5 < w.heap.size) (ts : List Tk) (hE : allT s.data.toList = .ok ts) :
    Calls Tryd.prog 5 #[.string s] w fun e w' => e = .returned (.bool true) ∧ Below w.heap.size w w' := by
  obtain ⟨hne, hl, heach, hag⟩ := all_again hE
  obtain ⟨N, htl⟩ : ∃ N, ts.length = N + 1 := ⟨ts.length - 1, by
    cases ts with
    | nil => exact absurd rfl hne
    | cons a b => simp⟩
  have CA := hide (all_toks s ts w he hw6 hE N htl)
  have CS := hide (fun u (hu : Below w.heap.size w u) => shown_any u (he.below hu hw6) (Nat.lt_of_lt_of_le hw6 hu.size))
  have HEA := hide heach
  have HAG := hide hag
  have HT := hide htl
  have HJL : Hid (∀ i, i ≤ N + 1 → (jn (ts.take i)).length ≤ 67133442) := hide (fun i hi => by
    have h1 := jn_len (ts.take i) (fun t ht => (heach t (List.mem_of_mem_take ht)).1)
    rw [List.length_take] at h1
    omega)
  have HEV : Hid (∀ u, Below w.heap.size w u → Ev u ∧ 5 < u.heap.size) := hide (fun u hu => ⟨he.below hu hw6, Nat.lt_of_lt_of_le hw6 hu.size⟩)
  have hN2 : N ≤ 8192 := by omega
  obtain ⟨it, hi, hz0, hzs, hzb⟩ := info_parts infoInt
  have HI := hide (And.intro hi (And.intro hz0 (And.intro hzs hzb)))
  clear he hE heach hag hne htl hl hi hz0 hzs hzb
  go_enter Tryd.func5, Tryd.ntmps5
  go_wp2_with fail
  refine (unhide CA).mono ?_
  rintro e uA ⟨b, c, rfl, hc, hbb, hcm, HK⟩
  have B1 := hide (unhide HK).2.2
  go_wp2_with fail
  refine ((unhide CS) uA (unhide B1)).mono ?_
  rintro e uB ⟨rfl, b2⟩
  have B2 : Hid (Below w.heap.size w uB) := hide ((unhide B1).trans (b2.mono (unhide B1).size))
  have HR2 : Hid (TR uB (some ⟨b, 0, none⟩) ts) := hide ((unhide HK).2.1.later b2)
  clear b2 HK CA CS
  obtain ⟨G, hG⟩ : ∃ G, uB.heap.size = G := ⟨_, rfl⟩
  have HG := hide hG
  go_wp2_with fail
  go_loopw [7, 8, 9] (fun y v x wr => ∃ (i : Nat) (S : ByteArray), y = .string S ∧ x = .int .i64 (i : Int) ∧ i ≤ N + 1 ∧ Hid (S.data.toList = jn (ts.take i) ∧ wr.ownsRow G 3 1 v i (offs ts i) ∧ Below G uB wr)) (fun _ _ x _ => N + 1 - (intOf x).toNat)
  case atStart => exact ⟨0, ⟨#[]⟩, rfl, rfl, by omega, hide ⟨rfl, ⟨rfl, Or.inl ⟨rfl, rfl⟩⟩, Below.refl _ _⟩⟩
  case round =>
    clear hG
    obtain ⟨i, S, rfl, rfl, hi, HX⟩ := hrel
    obtain ⟨q8, p8, rfl, hsl⟩ := slice_form (unhide HX).2.1
    clear hsl
    have HBW : Hid (Below w.heap.size w wr ∧ G ≤ wr.heap.size) := hide (by
      have h1 := unhide B2
      have h2 := (unhide HX).2.2
      have h3 := unhide HG
      exact ⟨h1.trans (h2.mono (by have := h1.size; omega)), by have := h2.size; omega⟩)
    by_cases hlt : i < N + 1
    · have j1 : (i : Int) < (N : Int) + 1 := by omega
      obtain ⟨⟨tk, tt, tn, tp⟩, ht⟩ : ∃ v, ts[i]? = some v := ⟨_, List.getElem?_eq_getElem (by have := unhide HT; omega)⟩
      have hbl : Below uB.heap.size uB wr := by rw [unhide HG]; exact (unhide HX).2.2
      have hea := unhide HEA _ (List.mem_of_getElem? ht)
      simp only at hea
      have HEI := hide hea
      have hSz : S.size ≤ 67133442 := by
        have h1 := unhide HJL i hi
        rw [← (unhide HX).1, len_list] at h1
        exact h1
      have CW := hide (fun u => written_any ⟨tk, tt, tn, tp⟩ u hea.2.1 hea.2.2.2)
      simp only at CW
      obtain ⟨W, hW⟩ : ∃ W, bA (wrT ⟨tk, tt, tn, tp⟩) = W := ⟨_, rfl⟩
      rw [hW] at CW
      have hWs : W.size ≤ 8192 := by rw [← hW, bA_size]; exact hea.1
      have HTA := hide (And.intro ht hW)
      have hn0 : ¬ (tn : Int) < 0 := by omega
      have HLT := hide hlt
      obtain ⟨o, ho⟩ : ∃ o, i * 4 = o := ⟨_, rfl⟩
      have HO := hide ho
      have r1 := add_row b (i * 4)
      rw [ho] at r1
      have hc2 : (N : Int) + 1 ≤ (c : Int) := by omega
      have hsz1 : ¬ 9223372036854775807 < S.size + 1 := by omega
      have hi8 : i + 1 ≤ 8194 := by omega
      -- what stands behind the append: cells of the token
      have HCELL : Hid (∀ u, Below G uB u → b < u.heap.size ∧ u.cell? ⟨b, o, none⟩ = some (.int .i64 (tk : Int)) ∧ u.cell? ⟨b, o + 1, none⟩ = some (.string (bA tt)) ∧ u.cell? ⟨b, o + 2, none⟩ = some (.int .i64 (tn : Int)) ∧ u.cell? ⟨b, o + 3, none⟩ = some (.int .i64 (tp : Int))) := hide (fun u hu => by
        have h1 : Below uB.heap.size uB u := by rw [unhide HG]; exact hu
        have h2 := ((unhide HR2).later h1).at (unhide HTA).1
        rw [unhide HO] at h2
        exact h2)
      obtain ⟨V, hV⟩ : ∃ V, bA tt = V := ⟨_, rfl⟩
      rw [hV] at HCELL CW
      clear hea ht hW hbl hlt hV
      by_cases hi0 : i = 0
      · have g1 : ¬ (0 : Int) < (i : Int) := by omega
        have g2 : ¬ 0 < i := by omega
        have g3 : decide (0 < i) = false := decide_eq_false g2
        have g4 : decide ((0 : Int) < (i : Int)) = false := decide_eq_false g1
        have HOFF : Hid ((S.size : Int) = (offT ts i : Int) ∧ (S ++ W).data.toList = jn (ts.take (i + 1))) := hide (by
          have hS := (unhide HX).1
          have hS0 : S.data.toList = [] := by rw [hS, hi0]; rfl
          refine ⟨?_, ?_⟩
          · unfold offT
            rw [if_pos hi0, ← len_list, hS0]
            rfl
          · rw [ByteArray.data_append, Array.toList_append, hS0, List.nil_append, ← (unhide HTA).2, bA_data, jn_take ts i _ (unhide HTA).1, if_pos hi0])
        have hsz3 : ¬ 9223372036854775807 < S.size + W.size := by omega
        clear hi0
        have tokB : True := trivial
        go_upto_region 13 with (first | (have _t := tokB; at_builtin; refine wpl_oneG rfl (.tmp 43) (.tmp 46) 35 3 it (.int .i64 0) 1 8 Tryd.underlying35 (unhide HI).1 (unhide HI).2.1 (unhide HI).2.2.1 (unhide HI).2.2.2 rfl (by omega) rfl G i (.slice q8 i p8) (offs ts i) [.int .i64 (S.size : Int)] rfl (by simp [Value.oneCell']) rfl (unhide HX).2.1 rfl (by unfold maxLen; omega) (by omega) (unhide HBW).2 ?_; intro v8 w8 H8; clear tokB; obtain ⟨q9, p9, rfl, hsl⟩ := slice_form (unhide H8).1; clear hsl))
        have HU8 : Hid (Below G uB w8 ∧ w8.ownsRow G 3 1 (.slice q9 (i + 1) p9) (i + 1) (offs ts (i + 1)) ∧ Below w.heap.size w w8 ∧ G ≤ w8.heap.size) := hide (by
          obtain ⟨h1, h2, _⟩ := unhide H8
          have hg : Below G wr w8 := (Below.refl _ _).grown h2 (unhide HBW).2 (fun k e => ((unhide HX).2.1.lt k e).1)
          have h3 := (unhide HX).2.2.trans hg
          refine ⟨h3, ?_, (unhide HBW).1.trans (hg.mono (by have := (unhide B2).size; have := unhide HG; omega)), Nat.le_trans (unhide HBW).2 hg.size⟩
          rw [offs_next, ← (unhide HOFF).1]
          exact h1)
        obtain ⟨hbw, a0, a1, a2, a3⟩ := unhide HCELL w8 (unhide HU8).1
        clear H8
        by_cases hk3 : tk = 3
        all_goals
          first
          | (have k1 : ((tk : Int) == 3) = true := beq_iff_eq.2 (by omega))
          | (have k1 : ((tk : Int) == 3) = false := beq_eq_false_iff_ne.2 (by omega))
          first
          | (have k2 : (tk : Int) = 3 := by omega)
          | (have k2 : ¬ (tk : Int) = 3 := by omega)
          have HK2 := hide k2
          clear hk3 k2
          try (have k2 := unhide HK2; have k3 : ¬ (tk : Int) = 3 := k2; clear k2)
          go_wp2_with fail
          refine ((unhide CW) _).mono ?_
          rintro e u9 ⟨rfl, b9⟩
          have HU9 : Hid (Below G uB u9 ∧ u9.ownsRow G 3 1 (.slice q9 (i + 1) p9) (i + 1) (offs ts (i + 1))) := hide ⟨(unhide HU8).1.trans (b9.mono (unhide HU8).2.2.2), own_later (unhide HU8).2.1 (fun k hk _ => b9.block k hk)⟩
          clear b9
          go_wp2_with fail
          go_roundw
          case rel => exact ⟨i + 1, S ++ W, rfl, by go_num, unhide HLT, hide ⟨(unhide HOFF).2, (unhide HU9).2, (unhide HU9).1⟩⟩
          case measure => have := unhide HLT; simp [intOf]; omega
      · have g1 : (0 : Int) < (i : Int) := by omega
        have g2 : 0 < i := by omega
        have g3 : decide (0 < i) = true := decide_eq_true g2
        have g4 : decide ((0 : Int) < (i : Int)) = true := decide_eq_true g1
        obtain ⟨S1, hS1⟩ : ∃ S1, S ++ ⟨#[32]⟩ = S1 := ⟨_, rfl⟩
        have hS1s : S1.size = S.size + 1 := by rw [← hS1, ByteArray.size_append]; rfl
        have HOFF : Hid ((S1.size : Int) = (offT ts i : Int) ∧ (S1 ++ W).data.toList = jn (ts.take (i + 1))) := hide (by
          have hS := (unhide HX).1
          refine ⟨?_, ?_⟩
          · unfold offT
            rw [if_neg hi0, hS1s, ← hS, len_list]
          · rw [ByteArray.data_append, Array.toList_append, ← hS1, ByteArray.data_append, Array.toList_append, hS, ← (unhide HTA).2, bA_data, jn_take ts i _ (unhide HTA).1, if_neg hi0]
            simp)
        have hsz3 : ¬ 9223372036854775807 < S1.size + W.size := by omega
        have HS1 := hide hS1
        clear hi0 hS1s
        have tokB : True := trivial
        go_upto_region 13 with (first | (have _t := tokB; at_builtin; refine wpl_oneG rfl (.tmp 43) (.tmp 46) 35 3 it (.int .i64 0) 1 8 Tryd.underlying35 (unhide HI).1 (unhide HI).2.1 (unhide HI).2.2.1 (unhide HI).2.2.2 rfl (by omega) rfl G i (.slice q8 i p8) (offs ts i) [.int .i64 (S1.size : Int)] rfl (by simp [Value.oneCell']) rfl (unhide HX).2.1 rfl (by unfold maxLen; omega) (by omega) (unhide HBW).2 ?_; intro v8 w8 H8; clear tokB; obtain ⟨q9, p9, rfl, hsl⟩ := slice_form (unhide H8).1; clear hsl))
        have HU8 : Hid (Below G uB w8 ∧ w8.ownsRow G 3 1 (.slice q9 (i + 1) p9) (i + 1) (offs ts (i + 1)) ∧ Below w.heap.size w w8 ∧ G ≤ w8.heap.size) := hide (by
          obtain ⟨h1, h2, _⟩ := unhide H8
          have hg : Below G wr w8 := (Below.refl _ _).grown h2 (unhide HBW).2 (fun k e => ((unhide HX).2.1.lt k e).1)
          have h3 := (unhide HX).2.2.trans hg
          refine ⟨h3, ?_, (unhide HBW).1.trans (hg.mono (by have := (unhide B2).size; have := unhide HG; omega)), Nat.le_trans (unhide HBW).2 hg.size⟩
          rw [offs_next, ← (unhide HOFF).1]
          exact h1)
        obtain ⟨hbw, a0, a1, a2, a3⟩ := unhide HCELL w8 (unhide HU8).1
        clear H8
        by_cases hk3 : tk = 3
        all_goals
          first
          | (have k1 : ((tk : Int) == 3) = true := beq_iff_eq.2 (by omega))
          | (have k1 : ((tk : Int) == 3) = false := beq_eq_false_iff_ne.2 (by omega))
          first
          | (have k2 : (tk : Int) = 3 := by omega)
          | (have k2 : ¬ (tk : Int) = 3 := by omega)
          have HK2 := hide k2
          clear hk3 k2
          try (have k2 := unhide HK2; have k3 : ¬ (tk : Int) = 3 := k2; clear k2)
          go_wp2_with fail
          refine ((unhide CW) _).mono ?_
          rintro e u9 ⟨rfl, b9⟩
          have HU9 : Hid (Below G uB u9 ∧ u9.ownsRow G 3 1 (.slice q9 (i + 1) p9) (i + 1) (offs ts (i + 1))) := hide ⟨(unhide HU8).1.trans (b9.mono (unhide HU8).2.2.2), own_later (unhide HU8).2.1 (fun k hk _ => b9.block k hk)⟩
          clear b9
          go_wp2_with fail
          go_roundw
          case rel => exact ⟨i + 1, S1 ++ W, rfl, by go_num, unhide HLT, hide ⟨(unhide HOFF).2, (unhide HU9).2, (unhide HU9).1⟩⟩
          case measure => have := unhide HLT; simp [intOf]; omega
    · have j1 : ¬ (i : Int) < (N : Int) + 1 := by omega
      have ei : i = N + 1 := by omega
      have HS : Hid (S.data.toList = jn ts) := hide (by
        have h1 := (unhide HX).1
        rwa [ei, List.take_of_length_le (by rw [unhide HT]; exact Nat.le_refl _)] at h1)
      have HP : Hid (wr.ownsRow G 3 1 (.slice q8 i p8) i (offs ts i) ∧ i = N + 1) := hide ⟨(unhide HX).2.1, ei⟩
      have HTR : Hid (TR wr (some ⟨b, 0, none⟩) ts) := hide ((unhide HR2).later (by rw [unhide HG]; exact (unhide HX).2.2))
      have HBA := hide (unhide HBW).1
      have hSz : S.size ≤ 67133442 := by
        have h1 := unhide HJL (N + 1) (Nat.le_refl _)
        rw [List.take_of_length_le (by rw [unhide HT]; exact Nat.le_refl _), ← unhide HS, len_list] at h1
        exact h1
      clear HX HBW HR2 ei
      by_cases hbig : 8192 < S.size
      · have j2 : (8192 : Int) < (S.size : Int) := by omega
        go_wp2_with fail
        go_ret
        exact ⟨rfl, unhide HBA⟩
      · have j2 : ¬ (8192 : Int) < (S.size : Int) := by omega
        have hal : allT S.data.toList = .ok (plc 0 ts) := by
          rw [unhide HS]
          exact unhide HAG (by rw [← unhide HS, len_list]; omega)
        have CK := hide (all_toks S (plc 0 ts) wr (unhide HEV wr (unhide HBA)).1 (unhide HEV wr (unhide HBA)).2 hal N (by rw [plc_len, unhide HT]))
        clear hal hbig
        go_wp2_with fail
        refine (unhide CK).mono ?_
        rintro e u4 ⟨b4, c4, rfl, hc4, hbb4, hcm4, HK4⟩
        have HTR4 : Hid (TR u4 (some ⟨b, 0, none⟩) ts ∧ TR u4 (some ⟨b4, 0, none⟩) (plc 0 ts) ∧ Below w.heap.size w u4 ∧ u4.ownsRow G 3 1 (.slice q8 i p8) i (offs ts i)) := hide ⟨(unhide HTR).later (unhide HK4).2.2, (unhide HK4).2.1, (unhide HBA).trans ((unhide HK4).2.2.mono (unhide HBA).size), own_later (unhide HP).1 (fun k hk _ => (unhide HK4).2.2.block k hk)⟩
        clear HTR HK4 CK HBA
        obtain ⟨bp, cur, hq8, hcells⟩ : ∃ (bp : Nat) (cur : Array Value), q8 = some ⟨bp, 0, none⟩ ∧ bp < u4.heap.size ∧ i ≤ p8 ∧ ∀ j, j < N + 1 → u4.cell? ⟨bp, j, none⟩ = some (.int .i64 (offT ts j : Int)) := by
          have hown := (unhide HTR4).2.2.2
          have hiN := (unhide HP).2
          rcases hown.2 with ⟨_, e⟩ | ⟨g, cap, cur, e, hbb, hcur, h5, h6, _⟩
          · omega
          · injection e with e1 e2 e3
            refine ⟨g, cur, e1, (Array.getElem?_eq_some_iff.1 hcur).1, by rw [e3]; exact h5, fun j hj => ?_⟩
            have := hown.cells (g := g) (by rw [e1]; rfl) j _ (offs_at ts i j (by omega))
            rwa [add_row] at this
        subst hq8
        have HPC := hide hcells
        have hip : N + 1 ≤ p8 := by have := hcells.2.1; have := (unhide HP).2; omega
        have hiN2 : (i : Int) = (N : Int) + 1 := by have := (unhide HP).2; omega
        clear hcells
        have m1 : ((N : Int) + 1 != (N : Int) + 1) = false := by simp
        go_wp2_with fail
        clear m1
        go_loopw [13] (fun x wq => ∃ k : Nat, x = .int .i64 (k : Int) ∧ k ≤ N + 1 ∧ Hid (∃ q, wq = u4.drewN q)) (fun x _ => N + 1 - (intOf x).toNat)
        case atStart => exact ⟨0, rfl, by omega, hide ⟨0, rfl⟩⟩
        case round =>
          obtain ⟨k, rfl, hk, HX⟩ := hrel
          obtain ⟨q, hq⟩ := unhide HX
          have HQ := hide hq
          have hbl : Below u4.heap.size u4 wr := by rw [hq]; exact below_drewN' q u4
          by_cases hlt : k < N + 1
          · have j3 : (k : Int) < (N : Int) + 1 := by omega
            have j4 : (k : Int) < (i : Int) := by omega
            obtain ⟨⟨tk, tt, tn, tp⟩, ht⟩ : ∃ v, ts[k]? = some v := ⟨_, List.getElem?_eq_getElem (by have := unhide HT; omega)⟩
            obtain ⟨hb1, x0, x1, x2, x3⟩ := ((unhide HTR4).1.later hbl).at ht
            obtain ⟨hb2, y0, y1, y2, y3⟩ := ((unhide HTR4).2.1.later hbl).at (plc_at ts 0 k _ ht)
            simp only [Tk.at, Nat.zero_add] at x0 x1 x2 x3 y0 y1 y2 y3
            have hpp : bp < wr.heap.size := Nat.lt_of_lt_of_le (unhide HPC).1 hbl.size
            have z0 := cell_later hbl ((unhide HPC).2.2 k hlt)
            obtain ⟨o, ho⟩ : ∃ o, k * 4 = o := ⟨_, rfl⟩
            have r1 := add_row b (k * 4)
            have r2 := add_row b4 (k * 4)
            have r3 := add_row bp k
            have r4 : (⟨bp, 0, none⟩ : Addr).add (k * 1) = ⟨bp, k, none⟩ := by rw [Nat.mul_one]; exact r3
            rw [ho] at r1 r2 x0 x1 x2 x3 y0 y1 y2 y3
            obtain ⟨V, hV⟩ : ∃ V, bA tt = V := ⟨_, rfl⟩
            rw [hV] at x1 y1
            obtain ⟨f, hf⟩ : ∃ f, offT ts k = f := ⟨_, rfl⟩
            rw [hf] at y3 z0
            have e1 : (V.toList == V.toList) = true := beq_self_eq_true _
            have e2 : (V.toList != V.toList) = false := by simp
            have HNX : Hid (∀ z, ∃ q', wr.drewN z = u4.drewN q') := hide (fun z => ⟨q + z, by rw [unhide HQ, drewN_add]⟩)
            have HLT := hide hlt
            clear hbl hq ht hV hf hlt
            go_upto_region 24 with fail
            go_quiet (fail)
            go_wp2_with fail
            go_roundw
            case rel => exact ⟨k + 1, by go_num, unhide HLT, hide (unhide HNX _)⟩
            case measure => have := unhide HLT; simp [intOf]; omega
          · have j3 : ¬ (k : Int) < (N : Int) + 1 := by omega
            have HBF : Hid (Below w.heap.size w wr) := hide ((unhide HTR4).2.2.1.trans (hbl.mono (unhide HTR4).2.2.1.size))
            clear hbl hq
            go_wp2_with fail
            go_ret
            exact ⟨rfl, unhide HBF⟩

/-- whatever the source -/
theorem again_walk (s : ByteArray) (w : World) (he : Ev w) (hw6 : 5 < w.heap.size) :
    Calls Tryd.prog 5 #[.string s] w fun e w' => e = .returned (.bool true) ∧ Below w.heap.size w w' := by
  cases hE : allT s.data.toList with
  | ok ts => exact again_ok s w he hw6 ts hE
  | error x =>
    obtain ⟨q, er⟩ := x
    rcases all_err hE with ⟨h1, _, _⟩ | ⟨h1, h2, h3, h4, ts, h5⟩
    · exact again_bad s w he hw6 q er hE (by omega)
    · exact again_bad s w he hw6 q er hE (by omega)
end Go.Proofs.YtnflbgejjgjpcaaDoor
