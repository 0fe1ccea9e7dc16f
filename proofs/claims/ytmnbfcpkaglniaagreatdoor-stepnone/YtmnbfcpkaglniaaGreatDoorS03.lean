/-
  The walk of code.Take: the instruction at a place; conditions: the package's variables.
-/
import Derived.Test.YtmnbfcpkaglniaaGreatDoorS02
import Derived.Laws.BitsLemmas
set_option linter.unusedVariables false
set_option linter.unusedSimpArgs false
namespace Go.Proofs.YtmnbfcpkaglniaaGreatDoor
open Go.RowKit
/-- the byte at a place -/
def byt (zs : List Int) (i : Nat) : Int := zs.getD i 0
/-- the operand in so many bytes behind place i -/
def valB (zs : List Int) (i : Nat) : Nat → Int
  | 1 => byt zs (i + 1)
  | 2 => byt zs (i + 1) * 256 + byt zs (i + 2)
  | _ => 0
/-- what Take answers: operation, operand, place, error -/
def takeI (zs : List Int) (p : Int) : Int × Int × Int × Int :=
  if p < 0 ∨ (zs.length : Int) ≤ p then (0, 0, p, 82)
  else if 1 ≤ byt zs p.toNat ∧ byt zs p.toNat ≤ 41 then
    (if zs.length < p.toNat + 1 + siz (srt (byt zs p.toNat)) then (0, 0, p, 82)
     else if faultI (byt zs p.toNat) (valB zs p.toNat (siz (srt (byt zs p.toNat)))) = 0 then (byt zs p.toNat, valB zs p.toNat (siz (srt (byt zs p.toNat))), p + 1 + (siz (srt (byt zs p.toNat)) : Int), 0) else (0, 0, p, 81))
  else (0, 0, p, 80)
theorem ins_info : (Tryz.prog.info? 36).map (fun i => (i.zero, i.size, i.bytes)) = some (some (.agg #[.int .i64 0, .int .i64 0]), 2, 16) := by kernel_rfl
theorem size_ins : (Tryz.prog.info? 36).map (·.size) = some 2 := by kernel_rfl
theorem one_ins (a b : Int) : (#[.int .i64 a, .int .i64 b] : Array Value).all (·.oneCell') = true := by simp [Value.oneCell']
def takeV (t : Int × Int × Int × Int) : Value := .tuple #[.agg #[.int .i64 t.1, .int .i64 t.2.1], .int .i64 t.2.2.1, .int .i64 t.2.2.2]
set_option maxRecDepth 100000 in
set_option maxHeartbeats 400000 in
theorem take_out (ao : Option Addr) (len cap : Nat) (zs : List Int) (p : Int) (w : World) (hz : Row8 w ao len cap zs) (h : p < 0 ∨ (zs.length : Int) ≤ p) :
    Calls Tryz.prog 32 #[.slice ao len cap, .int .i64 p] w fun e w' => e = .returned (takeV (takeI zs p)) ∧ Below w.heap.size w w' := by
  have e : takeI zs p = (0, 0, p, 82) := by unfold takeI; rw [if_pos h]
  rw [e]
  have hl := hz.length
  unfold takeV
  by_cases h0 : p < 0
  · go_enter Tryz.func32, Tryz.ntmps32
    go_wp2_with fail
    exact bodyPost_ret (ret_ctt (p := 4) (u := 5) (v := 6) (T := 36) rfl _ _ w.heap.size _ _ _ rfl (heap_alloc_new w _) Tryz.underlying36 rfl size_ins) rfl ⟨rfl, (Below.refl _ _).alloc (Nat.le_refl _) _⟩
  · have h1 : (len : Int) ≤ p := by omega
    go_enter Tryz.func32, Tryz.ntmps32
    go_wp2_with fail
    exact bodyPost_ret (ret_ctt (p := 4) (u := 5) (v := 6) (T := 36) rfl _ _ w.heap.size _ _ _ rfl (heap_alloc_new w _) Tryz.underlying36 rfl size_ins) rfl ⟨rfl, (Below.refl _ _).alloc (Nat.le_refl _) _⟩
set_option maxRecDepth 100000 in
set_option maxHeartbeats 1000000 in
theorem take_in (ao : Option Addr) (len cap : Nat) (zs : List Int) (i : Nat) (w : World) (h : Tab2 w) (hz : Row8 w ao len cap zs) (hi : i < len) (hcap : cap ≤ 9223372036854775807) :
    Calls Tryz.prog 32 #[.slice ao len cap, .int .i64 (i : Int)] w fun e w' => e = .returned (takeV (takeI zs (i : Int))) ∧ Below w.heap.size w w' := by
  have hl := hz.length
  have hle := hz.le
  obtain ⟨bb, off, rfl, hcl⟩ := hz.at (by omega)
  have hbb : bb < w.heap.size := World.block_lt_of_cell? _ _ (hcl 0 (by omega))
  obtain ⟨c, hc⟩ : ∃ c, byt zs i = c := ⟨_, rfl⟩
  have hc8 : 0 ≤ c ∧ c ≤ 255 := by
    rw [← hc]
    unfold byt
    exact hz.small _ (by rw [List.getD_eq_getElem?_getD, List.getElem?_eq_getElem (by omega)]; exact List.getElem_mem _)
  obtain ⟨T, hT⟩ : ∃ T, takeI zs (i : Int) = T := ⟨_, rfl⟩
  rw [hT]
  unfold takeI at hT
  rw [if_neg (by omega), Int.toNat_natCast, hc] at hT
  obtain ⟨g, hg⟩ : ∃ g, w.heap.size = g := ⟨_, rfl⟩
  obtain ⟨w1, hw1⟩ : ∃ w1, w.alloc (.cells #[.int .i64 0, .int .i64 0] 36) = w1 := ⟨_, rfl⟩
  have B1 : Below w.heap.size w w1 := by rw [← hw1]; exact (Below.refl _ _).alloc (Nat.le_refl _) _
  have A1 : w1.heap[g]? = some (.cells #[.int .i64 0, .int .i64 0] 36 (0, 0)) := by rw [← hw1, ← hg]; exact heap_alloc_new _ _
  have Z1 : w1.heap.size = g + 1 := by rw [← hw1, ← hg]; simp
  obtain ⟨w2, hw2⟩ : ∃ w2, w1.alloc (.cells #[.int .i64 c, .int .i64 0] 36) = w2 := ⟨_, rfl⟩
  have B2 : Below w1.heap.size w1 w2 := by rw [← hw2]; exact (Below.refl _ _).alloc (Nat.le_refl _) _
  have A2 : w2.heap[g + 1]? = some (.cells #[.int .i64 c, .int .i64 0] 36 (0, 0)) := by rw [← hw2, ← Z1]; exact heap_alloc_new _ _
  have Z2 : w2.heap.size = g + 1 + 1 := by rw [← hw2, ← Z1]; simp
  have X2 : Below w.heap.size w w2 := B1.trans (B2.mono B1.size)
  have A2' := (B2.block g (by omega)).trans A1
  have HZ : Hid (Row8 w (some ⟨bb, off, none⟩) len cap zs) := hide hz
  have HT := hide h
  have CI := hide (info_any c w2 (h.below X2).tab)
  have H2 := hide (And.intro X2 (And.intro A2' A2))
  have ct : w1.cell? ⟨bb, off + i, none⟩ = some (.int .u8 c) := by
    rw [← hc]
    exact cell_later B1 (hcl i hi)
  have HCL : Hid (∀ u, Below w.heap.size w u → ∀ j, j < len → u.cell? ⟨bb, off + j, none⟩ = some (.int .u8 (zs.getD j 0))) := hide (fun u hu j hj => cell_later hu (hcl j hj))
  have i1 : (i : Int) < (len : Int) := by omega
  have d0 : w2.cell? ⟨g + 1, 0, none⟩ = some (.int .i64 c) := (ins_cells A2).1
  have HW2 := hide hw2
  clear h hz B1 A1 B2 A2 X2 A2' hcl hw2
  by_cases hin : 1 ≤ c ∧ c ≤ 41
  · rw [if_pos hin] at hT
    have e1 := infoA_in c hin
    have e2 := srt_is c hin
    have e3 := opd_at (srt c) e2.2
    rw [e1] at CI
    obtain ⟨x, hx⟩ : ∃ x, OPS.getD c.toNat blank = x := ⟨_, rfl⟩
    rw [hx] at CI e2
    obtain ⟨xn, xa, xb, xc, xd, xf⟩ := x
    simp only [infV] at CI e2
    obtain ⟨k, hk⟩ : ∃ k, srt c = k := ⟨_, rfl⟩
    rw [hk] at e2 e3 hT
    obtain ⟨rfl, k5⟩ := e2
    obtain ⟨S, hS⟩ : ∃ S, siz k = S := ⟨_, rfl⟩
    rw [hS] at e3 hT
    have HT1 := hide hT
    have HO := hide e3
    have hS2 := e3.2.1
    have k6 : (k : Int) < 6 := by omega
    clear e1 e3 hx hk hS hT
    go_enter Tryz.func32, Tryz.ntmps32
    go_upto_region 4 with fail
    rw [unhide HW2]
    go_wp2_with fail
    refine (unhide CI).mono ?_
    rintro e w3 ⟨rfl, B3⟩
    have H3 := hide B3
    have z3 := B3.size
    clear B3 CI d0 ct
    go_upto_region 7 with fail
    obtain ⟨w4, hw4⟩ : ∃ w4, w4 = w3.alloc (.cells #[.string xn, .int .i64 (k : Int), .int .i64 xb, .int .i64 xc, .int .i64 xd, .int .i64 xf] 98) := ⟨_, rfl⟩
    rw [← hw4]
    have A4 : w4.heap[w3.heap.size]? = some (.cells #[.string xn, .int .i64 (k : Int), .int .i64 xb, .int .i64 xc, .int .i64 xd, .int .i64 xf] 98 (0, 0)) := by rw [hw4]; exact heap_alloc_new w3 _
    have B4 : Below w2.heap.size w2 w4 := by rw [hw4]; exact (unhide H3).alloc (unhide H3).size _
    have z4 := B4.size
    have X4 : Hid (Below w.heap.size w w4) := hide ((unhide H2).1.trans (B4.mono (unhide H2).1.size))
    have d1 : w4.cell? ⟨w3.heap.size, 1, none⟩ = some (.int .i64 (k : Int)) := by rw [cell_of_row w4 _ 1 _ _ (0, 0) A4]; rfl
    have t1 : w4.cell? ⟨0, k * 2, none⟩ = some (.int .i64 (S : Int)) := (((unhide HT).below (unhide X4)).cell k _ (unhide HO).1).1
    have HG : Hid (w4.heap[g]? = some (.cells #[.int .i64 0, .int .i64 0] 36 (0, 0)) ∧ w4.heap[g + 1]? = some (.cells #[.int .i64 c, .int .i64 0] 36 (0, 0))) := hide ⟨(B4.block g (by omega)).trans (unhide H2).2.1, (B4.block (g + 1) (by omega)).trans (unhide H2).2.2⟩
    have hbig : 1 < w.heap.size := (unhide HT).big
    have n1 : (i : Int) + 1 ≤ (len : Int) := by omega
    have n2 : IntKind.i64.wrap ((i : Int) + 1) = (i : Int) + 1 := by rw [IntKind.wrap_i64]; omega
    have n3 : (0 : Int) ≤ (i : Int) + 1 := by omega
    have n4 : (len : Int) ≤ (cap : Int) := by omega
    clear hw4 A4 B4
    have HTAB : Hid (∀ u, Below w.heap.size w u → Tab2 u) := hide (fun u hu => (unhide HT).below hu)
    by_cases hcp : cap = i + 1
    · obtain rfl : len = i + 1 := by omega
      subst hcp
      by_cases hS0 : S = 0
      · have hTT := unhide HT1
        rw [if_neg (by omega)] at hTT
        have HT2 := hide hTT
        clear HT1 hTT
        have HT1 := HT2
        clear HT2
        have s2 : ¬ (0 : Int) < (S : Int) := by omega
        have HS0 := hide hS0
        clear hS0
        go_quiet (fail)
        obtain ⟨w5, hw5⟩ : ∃ w5, w5 = w4.drewN nq := ⟨_, rfl⟩
        rw [← hw5]
        have HW : Hid (w5.heap[g]? = some (.cells #[.int .i64 0, .int .i64 0] 36 (0, 0)) ∧ w5.heap[g + 1]? = some (.cells #[.int .i64 c, .int .i64 (valB zs i 0)] 36 (0, 0)) ∧ w5.heap.size = w4.heap.size ∧ Below w.heap.size w w5) := hide (by rw [hw5]; exact ⟨(unhide HG).1, (unhide HG).2, rfl, below_drewN (unhide X4) _⟩)
        have zw5 : w5.heap.size = w4.heap.size := (unhide HW).2.2.1
        clear hw5 d1 t1
        go_wp2_with fail
        go_loopw [13, 60] (fun _ x wr => ∃ (j : Nat), x = .int .i64 (j : Int) ∧ Hid (j ≤ S) ∧ Hid (wr.heap[g]? = some (.cells #[.int .i64 0, .int .i64 0] 36 (0, 0)) ∧ wr.heap[g + 1]? = some (.cells #[.int .i64 c, .int .i64 (valB zs i j)] 36 (0, 0)) ∧ wr.heap.size = w4.heap.size ∧ Below w.heap.size w wr)) (fun _ x _ => S - (intOf x).toNat)
        case atStart => exact ⟨0, rfl, hide (by omega), HW⟩
        case round =>
          clear HW
          obtain ⟨j, rfl, HJ, HW⟩ := hrel
          obtain ⟨wl, hwl⟩ : ∃ wl, wl = wr := ⟨_, rfl⟩
          subst hwl
          by_cases hj : j < S
          · exact absurd hj (by have := unhide HS0; omega)
          · obtain rfl : j = S := by have := unhide HJ; omega
            have HL : Hid (wl.heap[g]? = some (.cells #[.int .i64 0, .int .i64 0] 36 (0, 0)) ∧ wl.heap[g + 1]? = some (.cells #[.int .i64 c, .int .i64 (valB zs i j)] 36 (0, 0)) ∧ Tab2 wl ∧ g + 1 + 1 ≤ wl.heap.size ∧ Below w.heap.size w wl) := hide ⟨(unhide HW).1, (unhide HW).2.1, unhide HTAB wl (unhide HW).2.2.2, by have := (unhide HW).2.2.1; omega, (unhide HW).2.2.2⟩
            clear HW hj HJ
            obtain ⟨e0, e1⟩ := ins_cells (unhide HL).2.1
            have CF := hide (fault_any c (valB zs i j) wl (unhide HL).2.2.1)
            obtain ⟨A, hA⟩ : ∃ A, valB zs i j = A := ⟨_, rfl⟩
            obtain ⟨F, hF⟩ : ∃ F, faultI c A = F := ⟨_, rfl⟩
            rw [hA, hF] at CF
            rw [hA] at e1 HL HT1
            rw [hF] at HT1
            clear hA
            go_wp2_with fail
            refine (unhide CF).mono ?_
            rintro e w6 ⟨rfl, B6⟩
            have G6 : Hid (w6.heap[g]? = some (.cells #[.int .i64 0, .int .i64 0] 36 (0, 0))) := hide ((B6.block g (by have := (unhide HL).2.2.2.1; omega)).trans (unhide HL).1)
            have G6' := (B6.block (g + 1) (by have := (unhide HL).2.2.2.1; omega)).trans (unhide HL).2.1
            have Y7 : Hid (Below w.heap.size w w6) := hide ((unhide HL).2.2.2.2.trans (B6.mono (unhide HL).2.2.2.2.size))
            clear B6 CF e0 e1
            obtain ⟨e0, e1⟩ := ins_cells G6'
            clear G6'
            by_cases hf0 : F = 0
            · subst hf0
              have hTT := unhide HT1
              rw [if_pos (by rfl)] at hTT
              subst hTT
              clear HT1
              have tok : True := trivial
              go_wp2_with (first | (have _t := tok; refine wpList_put_arr rfl 36 (.tmp 4) (.tmp 79) rfl g _ _ rfl rfl (unhide G6) rfl size_ins (one_ins _ _) ?_; clear tok; intro w7 M7))
              exact bodyPost_ret (ret_ctt (p := 4) (u := 5) (v := 6) (T := 36) rfl _ _ g _ _ _ rfl (unhide M7).at' Tryz.underlying36 rfl size_ins) rfl ⟨rfl, (unhide M7).below w.heap.size w (unhide Y7) (by omega)⟩
            · have hF81 : F = 81 := by
                by_cases h : 0 ≤ A ∧ A ≤ mst (srt c)
                · exfalso
                  apply hf0
                  rw [← hF]
                  unfold faultI
                  rw [if_pos hin, if_pos h]
                · rw [← hF]
                  unfold faultI
                  rw [if_pos hin, if_neg h]
              have hTT := unhide HT1
              rw [if_neg hf0] at hTT
              subst hTT
              subst hF81
              clear HT1
              have tok : True := trivial
              go_wp2_with (first | (have _t := tok; refine wpList_put_arr rfl 36 (.tmp 4) (.tmp 76) rfl g _ _ rfl rfl (unhide G6) rfl size_ins (one_ins _ _) ?_; clear tok; intro w7 M7))
              exact bodyPost_ret (ret_ctt (p := 4) (u := 5) (v := 6) (T := 36) rfl _ _ g _ _ _ rfl (unhide M7).at' Tryz.underlying36 rfl size_ins) rfl ⟨rfl, (unhide M7).below w.heap.size w (unhide Y7) (by omega)⟩
      · have s1 : (0 : Int) < (S : Int) := by omega
        have hTT := unhide HT1
        rw [if_pos (by omega)] at hTT
        subst hTT
        clear HT1
        go_quiet (fail)
        obtain ⟨w5, hw5⟩ : ∃ w5, w5 = w4.drewN nq := ⟨_, rfl⟩
        rw [← hw5]
        have G5 : Hid (w5.heap[g]? = some (.cells #[.int .i64 0, .int .i64 0] 36 (0, 0))) := hide (by rw [hw5]; exact (unhide HG).1)
        have Y7 : Hid (Below w.heap.size w w5) := hide (by rw [hw5]; exact below_drewN (unhide X4) _)
        clear hw5
        have tok : True := trivial
        go_wp2_with (first | (have _t := tok; refine wpList_put_arr rfl 36 (.tmp 4) (.tmp 54) rfl g _ _ rfl rfl (unhide G5) rfl size_ins (one_ins _ _) ?_; clear tok; intro w7 M7))
        exact bodyPost_ret (ret_ctt (p := 4) (u := 5) (v := 6) (T := 36) rfl _ _ g _ _ _ rfl (unhide M7).at' Tryz.underlying36 rfl size_ins) rfl ⟨rfl, (unhide M7).below w.heap.size w (unhide Y7) (by omega)⟩
    · by_cases hS1 : len < i + 1 + S
      · have s1 : ((len - (i + 1) : Nat) : Int) < (S : Int) := by omega
        have hTT := unhide HT1
        rw [if_pos (by omega)] at hTT
        subst hTT
        clear HT1
        go_quiet (fail)
        obtain ⟨w5, hw5⟩ : ∃ w5, w5 = w4.drewN nq := ⟨_, rfl⟩
        rw [← hw5]
        have G5 : Hid (w5.heap[g]? = some (.cells #[.int .i64 0, .int .i64 0] 36 (0, 0))) := hide (by rw [hw5]; exact (unhide HG).1)
        have Y7 : Hid (Below w.heap.size w w5) := hide (by rw [hw5]; exact below_drewN (unhide X4) _)
        clear hw5
        have tok : True := trivial
        go_wp2_with (first | (have _t := tok; refine wpList_put_arr rfl 36 (.tmp 4) (.tmp 54) rfl g _ _ rfl rfl (unhide G5) rfl size_ins (one_ins _ _) ?_; clear tok; intro w7 M7))
        exact bodyPost_ret (ret_ctt (p := 4) (u := 5) (v := 6) (T := 36) rfl _ _ g _ _ _ rfl (unhide M7).at' Tryz.underlying36 rfl size_ins) rfl ⟨rfl, (unhide M7).below w.heap.size w (unhide Y7) (by omega)⟩
      · have hTT := unhide HT1
        rw [if_neg (by omega)] at hTT
        have HT2 := hide hTT
        clear HT1 hTT
        have HT1 := HT2
        clear HT2
        have s2 : ¬ ((len - (i + 1) : Nat) : Int) < (S : Int) := by omega
        go_quiet (fail)
        obtain ⟨w5, hw5⟩ : ∃ w5, w5 = w4.drewN nq := ⟨_, rfl⟩
        rw [← hw5]
        have HW : Hid (w5.heap[g]? = some (.cells #[.int .i64 0, .int .i64 0] 36 (0, 0)) ∧ w5.heap[g + 1]? = some (.cells #[.int .i64 c, .int .i64 (valB zs i 0)] 36 (0, 0)) ∧ w5.heap.size = w4.heap.size ∧ Below w.heap.size w w5) := hide (by rw [hw5]; exact ⟨(unhide HG).1, (unhide HG).2, rfl, below_drewN (unhide X4) _⟩)
        have zw5 : w5.heap.size = w4.heap.size := (unhide HW).2.2.1
        clear hw5 d1 t1
        go_wp2_with fail
        go_loopw [13, 60] (fun _ x wr => ∃ (j : Nat), x = .int .i64 (j : Int) ∧ Hid (j ≤ S) ∧ Hid (wr.heap[g]? = some (.cells #[.int .i64 0, .int .i64 0] 36 (0, 0)) ∧ wr.heap[g + 1]? = some (.cells #[.int .i64 c, .int .i64 (valB zs i j)] 36 (0, 0)) ∧ wr.heap.size = w4.heap.size ∧ Below w.heap.size w wr)) (fun _ x _ => S - (intOf x).toNat)
        case atStart => exact ⟨0, rfl, hide (by omega), HW⟩
        case round =>
          clear HW
          obtain ⟨j, rfl, HJ, HW⟩ := hrel
          obtain ⟨wl, hwl⟩ : ∃ wl, wl = wr := ⟨_, rfl⟩
          subst hwl
          by_cases hj : j < S
          · have j1 : (j : Int) < (S : Int) := by omega
            have HJ1 := hide hj
            obtain ⟨z, hz⟩ : ∃ z, zs.getD (i + 1 + j) 0 = z := ⟨_, rfl⟩
            have ct : wl.cell? ⟨bb, off + (i + 1) + j, none⟩ = some (.int .u8 z) := by
              have h1 := unhide HCL wl (unhide HW).2.2.2 (i + 1 + j) (by omega)
              rw [hz] at h1
              rw [← h1]
              congr 2
              omega
            have hz8 : 0 ≤ z ∧ z ≤ 255 := by rw [← hz]; exact (unhide HZ).small _ (by rw [List.getD_eq_getElem?_getD, List.getElem?_eq_getElem (by omega)]; exact List.getElem_mem _)
            obtain ⟨V, hV⟩ : ∃ V, valB zs i j = V := ⟨_, rfl⟩
            obtain ⟨V', hV'⟩ : ∃ V', valB zs i (j + 1) = V' := ⟨_, rfl⟩
            have hvv : 0 ≤ V ∧ V ≤ 255 ∧ V' = V * 256 + z := by
              match j, hj with
              | 0, _ => rw [← hV, ← hV', ← hz]; simp [valB, byt]
              | 1, _ => rw [← hV, ← hV', ← hz]; simp only [valB, byt]; exact ⟨((unhide HZ).small _ (by rw [List.getD_eq_getElem?_getD, List.getElem?_eq_getElem (by omega)]; exact List.getElem_mem _)).1, ((unhide HZ).small _ (by rw [List.getD_eq_getElem?_getD, List.getElem?_eq_getElem (by omega)]; exact List.getElem_mem _)).2, trivial⟩
              | j + 2, h => omega
            have hsh : IntKind.i64.wrap (V * 256) = V * 256 := by rw [IntKind.wrap_i64]; omega
            have hor : bits .or .i64 (V * 256) z = V' := by
              have e8 : (2 : Int) ^ 8 = 256 := by decide
              have e63 : (2 : Int) ^ 63 = 9223372036854775808 := by decide
              rw [bits_join .i64 63 (by decide) (fun n h0 h1 => by rw [IntKind.wrap_i64]; omega) 8 (V * 256) z (by omega) (by omega) (by omega) (by omega) (by omega) (by omega), hvv.2.2]
            obtain ⟨f0, f1⟩ := ins_cells (unhide HW).2.1
            rw [hV] at f1
            have fz : wl.frozen? ⟨g + 1, 1, none⟩ = false := frozen_of_row wl (g + 1) 1 _ _ (unhide HW).2.1
            have HN : Hid ((wl.setCell ⟨g + 1, 1, none⟩ (.int .i64 V')).heap[g]? = some (.cells #[.int .i64 0, .int .i64 0] 36 (0, 0)) ∧ (wl.setCell ⟨g + 1, 1, none⟩ (.int .i64 V')).heap[g + 1]? = some (.cells #[.int .i64 c, .int .i64 (valB zs i (j + 1))] 36 (0, 0)) ∧ (wl.setCell ⟨g + 1, 1, none⟩ (.int .i64 V')).heap.size = w4.heap.size ∧ Below w.heap.size w (wl.setCell ⟨g + 1, 1, none⟩ (.int .i64 V'))) := hide ⟨(heap_setCell_other wl ⟨g + 1, 1, none⟩ g _ (by simp)).trans (unhide HW).1, by rw [heap_setCell_same wl (g + 1) 1 _ _ _ (unhide HW).2.1, hV']; rfl, by simpa using (unhide HW).2.2.1, (unhide HW).2.2.2.setCell (by simp; omega) _⟩
            clear hz hV hV' hvv HW f0 hj
            go_wp2_with fail
            go_roundw
            case rel => exact ⟨j + 1, by go_num, hide (by have := unhide HJ1; omega), HN⟩
            case measure => have := unhide HJ1; simp [intOf]; omega
          · obtain rfl : j = S := by have := unhide HJ; omega
            have HL : Hid (wl.heap[g]? = some (.cells #[.int .i64 0, .int .i64 0] 36 (0, 0)) ∧ wl.heap[g + 1]? = some (.cells #[.int .i64 c, .int .i64 (valB zs i j)] 36 (0, 0)) ∧ Tab2 wl ∧ g + 1 + 1 ≤ wl.heap.size ∧ Below w.heap.size w wl) := hide ⟨(unhide HW).1, (unhide HW).2.1, unhide HTAB wl (unhide HW).2.2.2, by have := (unhide HW).2.2.1; omega, (unhide HW).2.2.2⟩
            clear HW hj HJ
            obtain ⟨e0, e1⟩ := ins_cells (unhide HL).2.1
            have CF := hide (fault_any c (valB zs i j) wl (unhide HL).2.2.1)
            obtain ⟨A, hA⟩ : ∃ A, valB zs i j = A := ⟨_, rfl⟩
            obtain ⟨F, hF⟩ : ∃ F, faultI c A = F := ⟨_, rfl⟩
            rw [hA, hF] at CF
            rw [hA] at e1 HL HT1
            rw [hF] at HT1
            clear hA
            go_wp2_with fail
            refine (unhide CF).mono ?_
            rintro e w6 ⟨rfl, B6⟩
            have G6 : Hid (w6.heap[g]? = some (.cells #[.int .i64 0, .int .i64 0] 36 (0, 0))) := hide ((B6.block g (by have := (unhide HL).2.2.2.1; omega)).trans (unhide HL).1)
            have G6' := (B6.block (g + 1) (by have := (unhide HL).2.2.2.1; omega)).trans (unhide HL).2.1
            have Y7 : Hid (Below w.heap.size w w6) := hide ((unhide HL).2.2.2.2.trans (B6.mono (unhide HL).2.2.2.2.size))
            clear B6 CF e0 e1
            obtain ⟨e0, e1⟩ := ins_cells G6'
            clear G6'
            by_cases hf0 : F = 0
            · subst hf0
              have hTT := unhide HT1
              rw [if_pos (by rfl)] at hTT
              subst hTT
              clear HT1
              have tok : True := trivial
              go_wp2_with (first | (have _t := tok; refine wpList_put_arr rfl 36 (.tmp 4) (.tmp 79) rfl g _ _ rfl rfl (unhide G6) rfl size_ins (one_ins _ _) ?_; clear tok; intro w7 M7))
              exact bodyPost_ret (ret_ctt (p := 4) (u := 5) (v := 6) (T := 36) rfl _ _ g _ _ _ rfl (unhide M7).at' Tryz.underlying36 rfl size_ins) rfl ⟨rfl, (unhide M7).below w.heap.size w (unhide Y7) (by omega)⟩
            · have hF81 : F = 81 := by
                by_cases h : 0 ≤ A ∧ A ≤ mst (srt c)
                · exfalso
                  apply hf0
                  rw [← hF]
                  unfold faultI
                  rw [if_pos hin, if_pos h]
                · rw [← hF]
                  unfold faultI
                  rw [if_pos hin, if_neg h]
              have hTT := unhide HT1
              rw [if_neg hf0] at hTT
              subst hTT
              subst hF81
              clear HT1
              have tok : True := trivial
              go_wp2_with (first | (have _t := tok; refine wpList_put_arr rfl 36 (.tmp 4) (.tmp 76) rfl g _ _ rfl rfl (unhide G6) rfl size_ins (one_ins _ _) ?_; clear tok; intro w7 M7))
              exact bodyPost_ret (ret_ctt (p := 4) (u := 5) (v := 6) (T := 36) rfl _ _ g _ _ _ rfl (unhide M7).at' Tryz.underlying36 rfl size_ins) rfl ⟨rfl, (unhide M7).below w.heap.size w (unhide Y7) (by omega)⟩
  · rw [if_neg hin] at hT
    subst hT
    have e1 : infoA c = (blank, false) := by unfold infoA; rw [if_neg hin]
    rw [e1] at CI
    simp only [infV, blank] at CI
    clear e1
    go_enter Tryz.func32, Tryz.ntmps32
    go_upto_region 4 with fail
    rw [unhide HW2]
    go_wp2_with fail
    refine (unhide CI).mono ?_
    rintro e w3 ⟨rfl, B3⟩
    have H3 := hide B3
    clear B3 CI d0 ct
    go_upto_region 5 with fail
    obtain ⟨w4, hw4⟩ : ∃ w4, w4 = w3.alloc (.cells #[.string ⟨#[]⟩, .int .i64 0, .int .i64 0, .int .i64 0, .int .i64 0, .int .i64 0] 98) := ⟨_, rfl⟩
    rw [← hw4]
    have B4 : Below w2.heap.size w2 w4 := by rw [hw4]; exact (unhide H3).alloc (unhide H3).size _
    have Y7 : Hid (Below w.heap.size w w4) := hide ((unhide H2).1.trans (B4.mono (unhide H2).1.size))
    have G4 : Hid (w4.heap[g]? = some (.cells #[.int .i64 0, .int .i64 0] 36 (0, 0))) := hide ((B4.block g (by omega)).trans (unhide H2).2.1)
    clear hw4 B4
    have tok : True := trivial
    go_wp2_with (first | (have _t := tok; refine wpList_put_arr rfl 36 (.tmp 4) (.tmp 39) rfl g _ _ rfl rfl (unhide G4) rfl size_ins (one_ins _ _) ?_; clear tok; intro w7 M7))
    exact bodyPost_ret (ret_ctt (p := 4) (u := 5) (v := 6) (T := 36) rfl _ _ g _ _ _ rfl (unhide M7).at' Tryz.underlying36 rfl size_ins) rfl ⟨rfl, (unhide M7).below w.heap.size w (unhide Y7) (by omega)⟩
theorem take_any (ao : Option Addr) (len cap : Nat) (zs : List Int) (p : Int) (w : World) (h : Tab2 w) (hz : Row8 w ao len cap zs) (hcap : cap ≤ 9223372036854775807) :
    Calls Tryz.prog 32 #[.slice ao len cap, .int .i64 p] w fun e w' => e = .returned (takeV (takeI zs p)) ∧ Below w.heap.size w w' := by
  have hl := hz.length
  by_cases hp : p < 0 ∨ (zs.length : Int) ≤ p
  · exact take_out ao len cap zs p w hz hp
  · obtain ⟨i, rfl⟩ : ∃ i : Nat, p = (i : Int) := ⟨p.toNat, by omega⟩
    exact take_in ao len cap zs i w h hz (by omega) hcap
end Go.Proofs.YtmnbfcpkaglniaaGreatDoor
