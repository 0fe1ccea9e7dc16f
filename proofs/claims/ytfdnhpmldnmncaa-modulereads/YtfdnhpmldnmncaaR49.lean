/-
  The walk of the document's own Decode of a module (scrupleref09.Decode); conditions: the form's own reach.
-/
import Derived.Test.YtfdnhpmldnmncaaR48
namespace Go.Proofs.Ytfdnhpmldnmncaa
open Go.RowKit
set_option linter.unusedVariables false

theorem RdQ.made {w0 w : World} {gm gr : Nat} {bv : Value} {a f q : Int} {C F X : Value} {m : Md} {V : Nat → List Value} (h : RdQ w0 w gm gr bv a f q C F X m V) (hf : formedB m = true) :
    ∃ a1 c1 a2 c2 a3 c3, C = .slice a1 m.cs.length c1 ∧ F = .slice a2 m.fs.length c2 ∧ X = .slice a3 m.xs.length c3 ∧ IsM w (fun b => gr + 1 ≤ b ∧ b < w.heap.size) m a1 c1 a2 c2 a3 c3 ∧ OwnM w (fun b => gr + 1 ≤ b ∧ b < w.heap.size) m a1 c1 a2 c2 a3 c3 := by
  obtain ⟨p1, p2, p3, p4, p5, p6⟩ := formed_parts hf
  obtain ⟨a1, c1, e1, i1⟩ := isC_of_own h.ownC h.row (by omega) h.el
  have o2 : w.ownsRow (gr + 1) 53 4 F (m.fs.map fnV).length (m.fs.map fnV).flatten := by rw [List.length_map, ← List.flatMap_def]; exact h.ownF
  have o3 : w.ownsRow (gr + 1) 55 2 X (m.xs.map exV).length (m.xs.map exV).flatten := by rw [List.length_map, ← List.flatMap_def]; exact h.ownX
  obtain ⟨a2, c2, e2, i2⟩ := isT_of_own o2 (fun r hr => by obtain ⟨f, _, rfl⟩ := List.mem_map.1 hr; rfl) (by rw [List.length_map]; omega)
  obtain ⟨a3, c3, e3, i3⟩ := isT_of_own o3 (fun r hr => by obtain ⟨f, _, rfl⟩ := List.mem_map.1 hr; rfl) (by rw [List.length_map]; omega)
  rw [List.length_map] at e2 e3
  refine ⟨a1, c1, a2, c2, a3, c3, e1, e2, e3, ⟨i1, i2, i3, fun f hf => ?_, fun x hx => by have := (p6 x hx).1; omega⟩, ⟨_, tyC_of_own h.ownC h.row (by omega) h.el e1⟩, by rw [← e2]; exact rowP_of_own h.ownF, by rw [← e3]; exact rowP_of_own h.ownX⟩
  obtain ⟨p, l, s, t⟩ := f
  have := (fn_parts (p5 _ hf)).2.2.2.2.2.2
  dsimp only
  omega

theorem start_q (w0 : World) (hw : World) (gm : Nat) (h0 : w0.heap.size = gm) (hh : hw = (w0.alloc (.cells #[.slice none 0 0, .slice none 0 0, .slice none 0 0] 28)).alloc (.cells #[.slice none 0 0, .int .i64 4, .int .i64 0, .int .i64 0] 44)) : RdQ w0 hw gm (gm + 1) (.slice none 0 0) (4 : Nat) 0 0 (.slice none 0 0) (.slice none 0 0) (.slice none 0 0) ⟨[], [], []⟩ (fun _ => []) := by
  subst hh
  subst h0
  have b1 : Below w0.heap.size w0 (w0.alloc (.cells #[.slice none 0 0, .slice none 0 0, .slice none 0 0] 28)) := (Below.refl _ _).alloc (Nat.le_refl _) _
  have s1 : (w0.alloc (.cells #[.slice none 0 0, .slice none 0 0, .slice none 0 0] 28)).heap.size = w0.heap.size + 1 := by simp
  have h1 := heap_alloc_new w0 (.cells #[.slice none 0 0, .slice none 0 0, .slice none 0 0] 28)
  generalize w0.alloc (.cells #[.slice none 0 0, .slice none 0 0, .slice none 0 0] 28) = u at *
  have h2 := heap_alloc_new u (.cells #[.slice none 0 0, .int .i64 4, .int .i64 0, .int .i64 0] 44)
  have b2 : Below u.heap.size u (u.alloc (.cells #[.slice none 0 0, .int .i64 4, .int .i64 0, .int .i64 0] 44)) := (Below.refl _ _).alloc (Nat.le_refl _) _
  rw [s1] at h2 b2
  exact ⟨h2, (b2.block _ (by omega)).trans h1, rfl, b1.trans (b2.mono (by omega)), World.ownsRow_nil _ _ _ _, World.ownsRow_nil _ _ _ _, World.ownsRow_nil _ _ _ _, fun c hc => by simp at hc, fun c y hy => by simp at hy⟩

/-- the sections one behind the other -/
theorem all_next {zs : List Int} {k i : Nat} {m : Md} {a : Nat} {R : Except (Int × Int) (Md × Nat)} (h : rdAllM zs (k + 1) i m a = R) : (∀ p, rdS zs i m a = .error p → R = .error p) ∧ ∀ m' a', rdS zs i m a = .ok (m', a') → rdAllM zs k (i + 1) m' a' = R := by
  unfold rdAllM at h
  constructor
  · intro p hp
    rw [hp] at h
    exact h.symm
  · intro m' a' hp
    rw [hp] at h
    exact h

/-- behind the sections: all must be read -/
theorem dec_end {zs : List Int} {len : Nat} {R0 : Except (Int × Int) (Md × Nat)} {m : Md} {a b5 : Nat} {f q f5 q5 : Int} (hl : zs.length = len) (hs : ∀ c ∈ zs, 0 ≤ c ∧ c ≤ 255) (hD : decM zs = match R0 with
        | .error e => .error e
        | .ok (m, a) => if a < zs.length then .error (93, (a : Int)) else .ok m)
    (hF : (f = 0 ∧ q = 0 ∧ R0 = .ok (m, a)) ∨ (¬ f = 0 ∧ R0 = .error (f, q))) (hE : (if a < len then wrQ 93 (a : Int) (a, f, q) else (a, f, q)) = (b5, f5, q5)) : (f5 = 0 ∧ decM zs = .ok m) ∨ (¬ f5 = 0 ∧ decM zs = .error (f5, q5)) := by
  rw [hD]
  rcases hF with ⟨rfl, rfl, rfl⟩ | ⟨hf, rfl⟩
  · dsimp only
    by_cases h : a < len
    · rw [if_pos h] at hE
      unfold wrQ at hE
      rw [if_pos rfl] at hE
      simp only [Prod.mk.injEq] at hE
      obtain ⟨rfl, rfl, rfl⟩ := hE
      exact Or.inr ⟨by decide, by rw [if_pos (by omega)]⟩
    · rw [if_neg h] at hE
      simp only [Prod.mk.injEq] at hE
      obtain ⟨rfl, rfl, rfl⟩ := hE
      exact Or.inl ⟨rfl, by rw [if_neg (by omega)]⟩
  · have h3 : (b5, f5, q5) = (a, f, q) := by
      rw [← hE]
      unfold wrQ
      rw [if_neg hf]
      split <;> rfl
    simp only [Prod.mk.injEq] at h3
    obtain ⟨rfl, rfl, rfl⟩ := h3
    exact Or.inr ⟨hf, rfl⟩

set_option maxRecDepth 100000 in
set_option maxHeartbeats 4000000 in
theorem decodeQ_any (ao : Option Addr) (len cap : Nat) (zs : List Int) (w : World) (hz : Row8 w ao len cap zs) (hm : cap ≤ maxLen) :
    Calls Try.prog 8 #[.slice ao len cap] w fun e w' => ResD w (decM zs) e w' := by
  have hl := hz.length
  have hle := hz.le
  obtain ⟨g, hg⟩ : ∃ g, w.heap.size = g := ⟨_, rfl⟩
  have BX := BoxN.mk' w #[.slice none 0 0, .slice none 0 0, .slice none 0 0] 28
  obtain ⟨w1, hw1⟩ : ∃ w1, w.alloc (.cells #[.slice none 0 0, .slice none 0 0, .slice none 0 0] 28) = w1 := ⟨_, rfl⟩
  rw [hw1] at BX
  have HX : Hid (w1.heap[g]? = some (.cells #[.slice none 0 0, .slice none 0 0, .slice none 0 0] 28 (0, 0)) ∧ w1.heap.size = g + 1 ∧ Below w.heap.size w w1) := hide ⟨by rw [← hg]; exact BX.row, by rw [← hg]; exact BX.size, BX.below⟩
  have HZ1 := hide (hz.later BX.below)
  have HG := hide hg
  have HSM := hide hz.small
  clear BX hz
  by_cases hbig : 65536 < len
  · have hD : decM zs = .error (92, 0) := by unfold decM; rw [if_pos (by omega)]
    rw [hD]
    have i1 : (65536 : Int) < (len : Int) := by omega
    obtain ⟨c0, c1, c2⟩ := row_cell3 (unhide HX).1
    have f0 := frozen_of_row w1 g 0 _ _ (unhide HX).1
    have f1 := frozen_of_row w1 g 1 _ _ (unhide HX).1
    have f2 := frozen_of_row w1 g 2 _ _ (unhide HX).1
    clear hD
    go_enter Try.func8, Try.ntmps8
    go_wp2_with fail
    refine bodyPost_ret (ret_cttM (p := 2) (u := 3) (v := 4) (T := 28) rfl _ _ g _ _ _ rfl (three_set w1 g _ _ _ _ _ _ _ (unhide HX).1) Try.underlying28 rfl size_md) rfl ?_
    exact ⟨rfl, three_below (unhide HX).2.2 (by have := unhide HG; omega) _ _ _⟩
  have i1 : ¬ (65536 : Int) < (len : Int) := by omega
  by_cases h4 : len < 4
  · have hD : decM zs = .error (91, 0) := by
      unfold decM
      rw [if_neg (by omega), if_pos]
      intro e
      have := congrArg List.length e
      simp at this
      omega
    rw [hD]
    have i2 : (len : Int) < 4 := by omega
    obtain ⟨c0, c1, c2⟩ := row_cell3 (unhide HX).1
    have f0 := frozen_of_row w1 g 0 _ _ (unhide HX).1
    have f1 := frozen_of_row w1 g 1 _ _ (unhide HX).1
    have f2 := frozen_of_row w1 g 2 _ _ (unhide HX).1
    clear hD
    go_enter Try.func8, Try.ntmps8
    go_wp2_with fail
    refine bodyPost_ret (ret_cttM (p := 2) (u := 3) (v := 4) (T := 28) rfl _ _ g _ _ _ rfl (three_set w1 g _ _ _ _ _ _ _ (unhide HX).1) Try.underlying28 rfl size_md) rfl ?_
    exact ⟨rfl, three_below (unhide HX).2.2 (by have := unhide HG; omega) _ _ _⟩
  have i2 : ¬ (len : Int) < 4 := by omega
  have i3 : (4 : Int) ≤ (cap : Int) := by omega
  obtain ⟨b, off, rfl, _⟩ := (unhide HZ1).at (by omega)
  have CV : Sem.run Try.prog (convert 22 9 (.slice (some ⟨b, off, none⟩) 4 cap)) w1 = .ok (.string (strOfNums (zs.take 4))) w1 := by
    have hz := unhide HZ1
    obtain ⟨b', off', hb, hc⟩ := hz.at (by omega)
    cases hb
    have := conv_row (w := w1) hz.length hc 0 4 cap (by omega) 0
    rw [Nat.add_zero, List.drop_zero] at this
    exact this
  have hE : ((strOfNums (zs.take 4)).toList == (⟨#[83, 67, 77, 49]⟩ : ByteArray).toList) = decide (zs.take 4 = headM) := beq_str (xs := zs.take 4) (ys := headM) (fun c hc => (unhide HSM) c (List.mem_of_mem_take hc)) headM_small
  obtain ⟨R, hR⟩ : ∃ R, decide (zs.take 4 = headM) = R := ⟨_, rfl⟩
  rw [hR, show (⟨#[83, 67, 77, 49]⟩ : ByteArray).toList = [83, 67, 77, 49] by rw [ByteArray.toList_eq]] at hE
  generalize strOfNums (zs.take 4) = T1 at *
  cases R with
  | false =>
    have hE2 : (!(T1.toList == ([83, 67, 77, 49] : List UInt8))) = true := by rw [hE]; rfl
    have hD : decM zs = .error (91, 0) := by
      unfold decM
      rw [if_neg (by omega), if_pos (show zs.take 4 ≠ [83, 67, 77, 49] from of_decide_eq_false hR)]
    rw [hD]
    obtain ⟨c0, c1, c2⟩ := row_cell3 (unhide HX).1
    have f0 := frozen_of_row w1 g 0 _ _ (unhide HX).1
    have f1 := frozen_of_row w1 g 1 _ _ (unhide HX).1
    have f2 := frozen_of_row w1 g 2 _ _ (unhide HX).1
    clear hD hR
    go_enter Try.func8, Try.ntmps8
    go_wp2_with fail
    refine bodyPost_ret (ret_cttM (p := 2) (u := 3) (v := 4) (T := 28) rfl _ _ g _ _ _ rfl (three_set w1 g _ _ _ _ _ _ _ (unhide HX).1) Try.underlying28 rfl size_md) rfl ?_
    exact ⟨rfl, three_below (unhide HX).2.2 (by have := unhide HG; omega) _ _ _⟩
  | true =>
    have hE2 : (!(T1.toList == ([83, 67, 77, 49] : List UInt8))) = false := by rw [hE]; rfl
    have hDC : decM zs = match rdAllM zs 3 0 ⟨[], [], []⟩ 4 with
        | .error e => .error e
        | .ok (m, a) => if a < zs.length then .error (93, (a : Int)) else .ok m := by
      unfold decM
      rw [if_neg (by omega), if_neg (fun h => h (of_decide_eq_true hR))]
      rfl
    obtain ⟨R0, hR0⟩ : ∃ R0, rdAllM zs 3 0 ⟨[], [], []⟩ 4 = R0 := ⟨_, rfl⟩
    rw [hR0] at hDC
    have HDC := hide hDC
    have HR0 := hide hR0
    obtain ⟨gm, hgm⟩ : ∃ gm, w1.heap.size = gm := ⟨_, rfl⟩
    obtain ⟨w3, hw3⟩ : ∃ w3, (w1.alloc (.cells #[.slice none 0 0, .slice none 0 0, .slice none 0 0] 28)).alloc (.cells #[.slice none 0 0, .int .i64 4, .int .i64 0, .int .i64 0] 44) = w3 := ⟨_, rfl⟩
    have S0 := start_q w1 w3 gm hgm hw3.symm
    obtain ⟨gr, hgr⟩ : ∃ gr, gm + 1 = gr := ⟨_, rfl⟩
    rw [hgr] at S0
    have HS0 := hide S0
    have HGM : Hid (gm = g + 1) := hide (by have := (unhide HX).2.1; omega)
    have HGR : Hid (gr = g + 2) := hide (by have := (unhide HX).2.1; omega)
    have HGM' := hide hgm
    have HW3 := hide hw3
    have HGR' := hide hgr
    clear S0 hgr hDC hR0 hR hgm hw3
    go_enter Try.func8, Try.ntmps8
    go_upto_region 7 with fail
    rw [unhide HW3]
    try simp only [World.size_alloc]
    try rw [unhide HGM']
    try rw [unhide HGR']
    clear CV hE hE2 hw1
    go_wp2_with fail
    go_loopw [7] (fun x wr => ∃ (n : Nat) (bv' : Value) (a' : Nat) (f' q' : Int) (C' F' X' : Value) (m' : Md) (V' : Nat → List Value), x = .int .i64 (n : Int) ∧ Hid (1 ≤ n ∧ n ≤ 4) ∧ Hid (RdQ w1 wr gm gr bv' a' f' q' C' F' X' m' V') ∧ Hid ((f' = 0 ∧ q' = 0 ∧ (a' ≤ len ∧ (n ≤ 3 → Jk (n - 1) 0 m')) ∧ rdAllM zs (4 - n) (n - 1) m' a' = R0) ∨ (¬ f' = 0 ∧ R0 = .error (f', q')))) (fun x _ => 4 - (intOf x).toNat)
    case atStart => exact ⟨1, _, 4, 0, 0, _, _, _, ⟨[], [], []⟩, _, rfl, hide (by omega), HS0, hide (Or.inl ⟨rfl, rfl, ⟨by omega, fun _ => J_start⟩, unhide HR0⟩)⟩
    case round =>
      clear HS0 HW3
      obtain ⟨n, bv', a', f', q', C', F', X', m', V', rfl, HN, HM, HS⟩ := hrel
      obtain ⟨d0, d1, d2, d3, _, _, _, _⟩ := (unhide HM).rd.cells
      by_cases hn3 : n ≤ 3
      · have j1 : (n : Int) ≤ 3 := by omega
        by_cases hf : f' = 0
        · subst hf
          have hN : q' = 0 ∧ (a' ≤ len ∧ Jk (n - 1) 0 m') ∧ rdAllM zs (4 - n) (n - 1) m' a' = R0 := by
            rcases unhide HS with h | h
            · exact ⟨h.2.1, ⟨h.2.2.1.1, h.2.2.1.2 hn3⟩, h.2.2.2⟩
            · exact absurd rfl h.1
          obtain ⟨rfl, ⟨hal, hJ⟩, hNx⟩ := hN
          have hn1 := (unhide HN).1
          have hNx' := all_next (k := 3 - n) (i := n - 1) (m := m') (a := a') (R := R0) (by rw [show 3 - n + 1 = 4 - n by omega]; exact hNx)
          have CS := hide (section_q w1 gm gr bv' (some ⟨b, off, none⟩) len cap a' 0 C' F' X' m' V' zs (n - 1) (n : Int) wr (unhide HM) (unhide HZ1) (by have := unhide HGM; have := (unhide HX).2.1; omega) hm (by omega) hal (by omega) (by omega) hJ)
          have HNX := hide (And.intro hNx' (And.intro hJ hal))
          clear hNx hNx' hJ hal hn1
          go_wp2_with fail
          refine (unhide CS).mono ?_
          rintro y u6 ⟨rfl, hres⟩
          have HN1 : Hid (1 ≤ n + 1 ∧ n + 1 ≤ 4) := hide (by omega)
          cases hrs : rdS zs (n - 1) m' a' with
          | error p =>
            rw [hrs] at hres
            obtain ⟨hp, bv2, a2, C2, F2, X2, m2, V2, R2⟩ := hres
            have HR2 := hide R2
            have HS2 := hide (show (p.1 = 0 ∧ p.2 = 0 ∧ (a2 ≤ len ∧ (n + 1 ≤ 3 → Jk (n + 1 - 1) 0 m2)) ∧ rdAllM zs (4 - (n + 1)) (n + 1 - 1) m2 a2 = R0) ∨ (¬ p.1 = 0 ∧ R0 = .error (p.1, p.2)) from Or.inr ⟨hp, (unhide HNX).1.1 p hrs⟩)
            clear R2 hrs CS hp
            go_wp2_with fail
            go_roundw
            case rel => exact ⟨n + 1, bv2, a2, p.1, p.2, C2, F2, X2, m2, V2, by go_num, HN1, HR2, HS2⟩
            case measure => have := unhide HN1; simp [intOf]; omega
          | ok r =>
            obtain ⟨m2, a2⟩ := r
            rw [hrs] at hres
            obtain ⟨bv2, C2, F2, X2, V2, R2⟩ := hres
            have HR2 := hide R2
            have HS2 := hide (show ((0 : Int) = 0 ∧ (0 : Int) = 0 ∧ (a2 ≤ len ∧ (n + 1 ≤ 3 → Jk (n + 1 - 1) 0 m2)) ∧ rdAllM zs (4 - (n + 1)) (n + 1 - 1) m2 a2 = R0) ∨ (¬ (0 : Int) = 0 ∧ R0 = .error (0, 0)) from Or.inl ⟨rfl, rfl, by
              have hn1 := (unhide HN).1
              obtain ⟨k, h1, h2, h3, h4, h5, h6⟩ := s_ok (unhide HSM) (n - 1) (by omega) m' a' m2 a2 (unhide HNX).2.1 hrs
              refine ⟨by omega, fun h => ?_⟩
              have := J_next h1 h2 (by omega)
              rw [show n + 1 - 1 = n - 1 + 1 by omega]
              exact this, by
              have hn1 := (unhide HN).1
              have := (unhide HNX).1.2 m2 a2 hrs
              rw [show 4 - (n + 1) = 3 - n by omega, show n + 1 - 1 = n - 1 + 1 by omega]
              exact this⟩)
            clear R2 hrs CS
            go_wp2_with fail
            go_roundw
            case rel => exact ⟨n + 1, bv2, a2, 0, 0, C2, F2, X2, m2, V2, by go_num, HN1, HR2, hide (by have := unhide HS2; simpa using this)⟩
            case measure => have := unhide HN1; simp [intOf]; omega
        · have HFin : Hid ((f' = 0 ∧ q' = 0 ∧ R0 = .ok (m', a')) ∨ (¬ f' = 0 ∧ R0 = .error (f', q'))) := hide (by
            rcases unhide HS with h | h
            · exact absurd h.1 hf
            · exact Or.inr h)
          obtain ⟨b5, f5, q5, hE5⟩ : ∃ b f q, (if a' < len then wrQ 93 (a' : Int) (a', f', q') else (a', f', q')) = (b, f, q) := ⟨_, _, _, rfl⟩
          have HE5 := hide hE5
          have HD5 := hide (dec_end hl (unhide HSM) (unhide HDC) (unhide HFin) hE5)
          clear hE5
          obtain ⟨d0, d1, d2, d3, _, _, _, _⟩ := (unhide HM).rd.cells
          go_upto_if 45 with fail
          go_cut [] from 24 to 51 (fun wx => Hid (RdQ w1 wx gm gr bv' b5 f5 q5 C' F' X' m' V'))
          case first =>
            by_cases hal : a' < len
            · have e5 := unhide HE5
              rw [if_pos hal] at e5
              have k5 : (a' : Int) < (len : Int) := by omega
              have CW := hide (wrong_u gr bv' a' f' q' 93 a' _ (unhide HM).rd)
              rw [e5] at CW
              clear e5
              go_wp2_with fail
              refine (unhide CW).mono ?_
              rintro y u10 ⟨rfl, r1, b1⟩
              have HR3 := hide ((unhide HM).beside b1 r1)
              clear r1 b1 CW
              go_wp2_with fail
              go_meet
              exact HR3
            · have e5 := unhide HE5
              rw [if_neg hal] at e5
              simp only [Prod.mk.injEq] at e5
              obtain ⟨rfl, rfl, rfl⟩ := e5
              have k5 : ¬ (a' : Int) < (len : Int) := by omega
              go_wp2_with fail
              go_meet
              exact HM
          case rest =>
            have HM5 := hcut
            clear hcut HM d0 d1 d2 d3
            obtain ⟨u5, hu5⟩ : ∃ u5, wc = u5 := ⟨_, rfl⟩
            rw [hu5] at HM5 ⊢
            clear hu5
            obtain ⟨d0, d1, d2, d3, _, _, _, _⟩ := (unhide HM5).rd.cells
            have hb5 : u5.heap[g]? = some (.cells #[.slice none 0 0, .slice none 0 0, .slice none 0 0] 28 (0, 0)) := ((unhide HM5).old.block g (by have := unhide HGM; omega)).trans (unhide HX).1
            have HB5 := hide hb5
            obtain ⟨c0, c1, c2⟩ := row_cell3 hb5
            have f0 := frozen_of_row u5 g 0 _ _ hb5
            have f1 := frozen_of_row u5 g 1 _ _ hb5
            have f2 := frozen_of_row u5 g 2 _ _ hb5
            have HBel : Hid (Below w.heap.size w u5) := hide ((unhide HX).2.2.trans ((unhide HM5).old.mono (by have := unhide HG; have := unhide HGM; omega)))
            clear hb5
            rcases unhide HD5 with ⟨hf5, hDM⟩ | ⟨hf5, hDM⟩
            · subst hf5
              have HDM := hide hDM
              have hf : formedB m' = true := by
                have := (decM_sound (unhide HSM) hDM).1
                unfold rightM at this
                rw [Bool.and_eq_true] at this
                exact this.1
              obtain ⟨a1, g1, a2, g2, a3, g3, rfl, rfl, rfl, M3, O3⟩ := (unhide HM5).made hf
              have HMM := hide M3
              have HOO := hide O3
              obtain ⟨y0, y1, y2⟩ := row_cell3 (unhide HM5).box
              obtain ⟨n1, hn1⟩ : ∃ n, m'.cs.length = n := ⟨_, rfl⟩
              obtain ⟨n2, hn2⟩ : ∃ n, m'.fs.length = n := ⟨_, rfl⟩
              obtain ⟨n3, hn3⟩ : ∃ n, m'.xs.length = n := ⟨_, rfl⟩
              rw [hn1] at y0
              rw [hn2] at y1
              rw [hn3] at y2
              have HN := hide (And.intro hn1 (And.intro hn2 hn3))
              clear hn1 hn2 hn3 M3 O3 hf hDM
              go_wp2_with fail
              refine bodyPost_ret (ret_cttM (p := 2) (u := 3) (v := 4) (T := 28) rfl _ _ g _ _ _ rfl (three_set u5 g _ _ _ _ _ _ _ (unhide HB5)) Try.underlying28 rfl size_md) rfl ?_
              rw [unhide HDM]
              have hP9 : ∀ b, (gr + 1 ≤ b ∧ b < u5.heap.size) → w.heap.size ≤ b ∧ b < (((u5.setCell ⟨g, 0, none⟩ (.slice a1 n1 g1)).setCell ⟨g, 1, none⟩ (.slice a2 n2 g2)).setCell ⟨g, 2, none⟩ (.slice a3 n3 g3)).heap.size := fun b hb => by
                simp only [World.size_setCell]
                have := unhide HG; have := unhide HGM; have := unhide HGR; omega
              exact ⟨a1, a2, a3, g1, g2, g3, by rw [(unhide HN).1, (unhide HN).2.1, (unhide HN).2.2]; rfl, (unhide HMM).to (fun b hb => three_other u5 g b _ _ _ (by have := unhide HGM; have := unhide HGR; omega)) hP9, (unhide HOO).to (fun b hb => three_other u5 g b _ _ _ (by have := unhide HGM; have := unhide HGR; omega)) hP9, three_below (unhide HBel) (by have := unhide HG; omega) _ _ _⟩
            · have HDM := hide hDM
              clear hDM
              go_upto_region 14 with fail
              have hS9 : (((u5.setCell ⟨g, 0, none⟩ (.slice none 0 0)).setCell ⟨g, 1, none⟩ (.slice none 0 0)).setCell ⟨g, 2, none⟩ (.slice none 0 0)).cell? ⟨gr, 3, none⟩ = some (.int .i64 q5) ∧ (((u5.setCell ⟨g, 0, none⟩ (.slice none 0 0)).setCell ⟨g, 1, none⟩ (.slice none 0 0)).setCell ⟨g, 2, none⟩ (.slice none 0 0)).cell? ⟨gr, 2, none⟩ = some (.int .i64 f5) := ⟨(World.cell?_of_block (three_other u5 g gr _ _ _ (by have := unhide HGM; have := unhide HGR; omega))).trans d3, (World.cell?_of_block (three_other u5 g gr _ _ _ (by have := unhide HGM; have := unhide HGR; omega))).trans d2⟩
              go_region_held3 (fun u => u.cell? ⟨gr, 3, none⟩ = some (.int .i64 q5) ∧ u.cell? ⟨gr, 2, none⟩ = some (.int .i64 f5)) (first | assumption | exact ⟨d3, d2⟩ | exact hS9) (fail)
              go_wp2_with fail
              refine bodyPost_ret (ret_cttM (p := 2) (u := 3) (v := 4) (T := 28) rfl _ _ g _ _ _ rfl (three_set u5 g _ _ _ _ _ _ _ (unhide HB5)) Try.underlying28 rfl size_md) rfl ?_
              have hB := three_below (B := w.heap.size) (g := g) (unhide HBel) (by have := unhide HG; omega) (.slice none 0 0) (.slice none 0 0) (.slice none 0 0)
              rw [unhide HDM]
              exact ⟨rfl, hB.os, hB.tape, hB.output, hB.size, hB.block⟩
      · have j1 : ¬ (n : Int) ≤ 3 := by omega
        have HFin : Hid ((f' = 0 ∧ q' = 0 ∧ R0 = .ok (m', a')) ∨ (¬ f' = 0 ∧ R0 = .error (f', q'))) := hide (by
          rcases unhide HS with h | h
          · refine Or.inl ⟨h.1, h.2.1, ?_⟩
            have h4 : n = 4 := by have := (unhide HN).2; omega
            have h5 := h.2.2.2
            rw [h4] at h5
            exact h5.symm
          · exact Or.inr h)
        obtain ⟨b5, f5, q5, hE5⟩ : ∃ b f q, (if a' < len then wrQ 93 (a' : Int) (a', f', q') else (a', f', q')) = (b, f, q) := ⟨_, _, _, rfl⟩
        have HE5 := hide hE5
        have HD5 := hide (dec_end hl (unhide HSM) (unhide HDC) (unhide HFin) hE5)
        clear hE5
        obtain ⟨d0, d1, d2, d3, _, _, _, _⟩ := (unhide HM).rd.cells
        go_upto_if 45 with fail
        go_cut [] from 24 to 51 (fun wx => Hid (RdQ w1 wx gm gr bv' b5 f5 q5 C' F' X' m' V'))
        case first =>
          by_cases hal : a' < len
          · have e5 := unhide HE5
            rw [if_pos hal] at e5
            have k5 : (a' : Int) < (len : Int) := by omega
            have CW := hide (wrong_u gr bv' a' f' q' 93 a' _ (unhide HM).rd)
            rw [e5] at CW
            clear e5
            go_wp2_with fail
            refine (unhide CW).mono ?_
            rintro y u10 ⟨rfl, r1, b1⟩
            have HR3 := hide ((unhide HM).beside b1 r1)
            clear r1 b1 CW
            go_wp2_with fail
            go_meet
            exact HR3
          · have e5 := unhide HE5
            rw [if_neg hal] at e5
            simp only [Prod.mk.injEq] at e5
            obtain ⟨rfl, rfl, rfl⟩ := e5
            have k5 : ¬ (a' : Int) < (len : Int) := by omega
            go_wp2_with fail
            go_meet
            exact HM
        case rest =>
          have HM5 := hcut
          clear hcut HM d0 d1 d2 d3
          obtain ⟨u5, hu5⟩ : ∃ u5, wc = u5 := ⟨_, rfl⟩
          rw [hu5] at HM5 ⊢
          clear hu5
          obtain ⟨d0, d1, d2, d3, _, _, _, _⟩ := (unhide HM5).rd.cells
          have hb5 : u5.heap[g]? = some (.cells #[.slice none 0 0, .slice none 0 0, .slice none 0 0] 28 (0, 0)) := ((unhide HM5).old.block g (by have := unhide HGM; omega)).trans (unhide HX).1
          have HB5 := hide hb5
          obtain ⟨c0, c1, c2⟩ := row_cell3 hb5
          have f0 := frozen_of_row u5 g 0 _ _ hb5
          have f1 := frozen_of_row u5 g 1 _ _ hb5
          have f2 := frozen_of_row u5 g 2 _ _ hb5
          have HBel : Hid (Below w.heap.size w u5) := hide ((unhide HX).2.2.trans ((unhide HM5).old.mono (by have := unhide HG; have := unhide HGM; omega)))
          clear hb5
          rcases unhide HD5 with ⟨hf5, hDM⟩ | ⟨hf5, hDM⟩
          · subst hf5
            have HDM := hide hDM
            have hf : formedB m' = true := by
              have := (decM_sound (unhide HSM) hDM).1
              unfold rightM at this
              rw [Bool.and_eq_true] at this
              exact this.1
            obtain ⟨a1, g1, a2, g2, a3, g3, rfl, rfl, rfl, M3, O3⟩ := (unhide HM5).made hf
            have HMM := hide M3
            have HOO := hide O3
            obtain ⟨y0, y1, y2⟩ := row_cell3 (unhide HM5).box
            obtain ⟨n1, hn1⟩ : ∃ n, m'.cs.length = n := ⟨_, rfl⟩
            obtain ⟨n2, hn2⟩ : ∃ n, m'.fs.length = n := ⟨_, rfl⟩
            obtain ⟨n3, hn3⟩ : ∃ n, m'.xs.length = n := ⟨_, rfl⟩
            rw [hn1] at y0
            rw [hn2] at y1
            rw [hn3] at y2
            have HN := hide (And.intro hn1 (And.intro hn2 hn3))
            clear hn1 hn2 hn3 M3 O3 hf hDM
            go_wp2_with fail
            refine bodyPost_ret (ret_cttM (p := 2) (u := 3) (v := 4) (T := 28) rfl _ _ g _ _ _ rfl (three_set u5 g _ _ _ _ _ _ _ (unhide HB5)) Try.underlying28 rfl size_md) rfl ?_
            rw [unhide HDM]
            have hP9 : ∀ b, (gr + 1 ≤ b ∧ b < u5.heap.size) → w.heap.size ≤ b ∧ b < (((u5.setCell ⟨g, 0, none⟩ (.slice a1 n1 g1)).setCell ⟨g, 1, none⟩ (.slice a2 n2 g2)).setCell ⟨g, 2, none⟩ (.slice a3 n3 g3)).heap.size := fun b hb => by
              simp only [World.size_setCell]
              have := unhide HG; have := unhide HGM; have := unhide HGR; omega
            exact ⟨a1, a2, a3, g1, g2, g3, by rw [(unhide HN).1, (unhide HN).2.1, (unhide HN).2.2]; rfl, (unhide HMM).to (fun b hb => three_other u5 g b _ _ _ (by have := unhide HGM; have := unhide HGR; omega)) hP9, (unhide HOO).to (fun b hb => three_other u5 g b _ _ _ (by have := unhide HGM; have := unhide HGR; omega)) hP9, three_below (unhide HBel) (by have := unhide HG; omega) _ _ _⟩
          · have HDM := hide hDM
            clear hDM
            go_upto_region 14 with fail
            have hS9 : (((u5.setCell ⟨g, 0, none⟩ (.slice none 0 0)).setCell ⟨g, 1, none⟩ (.slice none 0 0)).setCell ⟨g, 2, none⟩ (.slice none 0 0)).cell? ⟨gr, 3, none⟩ = some (.int .i64 q5) ∧ (((u5.setCell ⟨g, 0, none⟩ (.slice none 0 0)).setCell ⟨g, 1, none⟩ (.slice none 0 0)).setCell ⟨g, 2, none⟩ (.slice none 0 0)).cell? ⟨gr, 2, none⟩ = some (.int .i64 f5) := ⟨(World.cell?_of_block (three_other u5 g gr _ _ _ (by have := unhide HGM; have := unhide HGR; omega))).trans d3, (World.cell?_of_block (three_other u5 g gr _ _ _ (by have := unhide HGM; have := unhide HGR; omega))).trans d2⟩
            go_region_held3 (fun u => u.cell? ⟨gr, 3, none⟩ = some (.int .i64 q5) ∧ u.cell? ⟨gr, 2, none⟩ = some (.int .i64 f5)) (first | assumption | exact ⟨d3, d2⟩ | exact hS9) (fail)
            go_wp2_with fail
            refine bodyPost_ret (ret_cttM (p := 2) (u := 3) (v := 4) (T := 28) rfl _ _ g _ _ _ rfl (three_set u5 g _ _ _ _ _ _ _ (unhide HB5)) Try.underlying28 rfl size_md) rfl ?_
            have hB := three_below (B := w.heap.size) (g := g) (unhide HBel) (by have := unhide HG; omega) (.slice none 0 0) (.slice none 0 0) (.slice none 0 0)
            rw [unhide HDM]
            exact ⟨rfl, hB.os, hB.tape, hB.output, hB.size, hB.block⟩
end Go.Proofs.Ytfdnhpmldnmncaa
