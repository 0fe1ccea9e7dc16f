/-
  The walk of CodePuts: every Put is the document's, in new memory, and what was handed in stays; conditions: the package's variables, the bytes at most 2^47 - 4096.
-/
import Derived.Test.YtbilcninhhkkpaaDoorCRPut
import Derived.Test.YtbilcninhhkkpaaDoorCShown
import Derived.Test.YtbilcninhhkkpaaDoorCLent
import Derived.Test.YtbilcninhhkkpaaDoorCRows
import Derived.Laws.OwnMore
namespace Go.Proofs.YtbilcninhhkkpaaDoor
open Go.RowKit

theorem row8_to {w w' : World} {ao : Option Addr} {len cap : Nat} {zs : List Int} (h : Row8 w ao len cap zs) (hk : ∀ ad, ao = some ad → 0 < len → w'.heap[ad.block]? = w.heap[ad.block]?) : Row8 w' ao len cap zs :=
  ⟨h.length, h.none, fun ad ha j u hj => by
    have hl : j < zs.length := by
      have := List.getElem?_eq_some_iff.1 hj
      simpa using this.1
    have hz := h.length
    have hblk : (ad.add j).block = ad.block := by unfold Addr.add; split <;> rfl
    have e : w'.cell? (ad.add j) = w.cell? (ad.add j) := World.cell?_of_block (by rw [hblk]; exact hk ad ha (by omega))
    rw [e]
    exact h.cells ad ha j u hj, h.small, h.le⟩

theorem insz_small {F : Int} {zs : List Int} {op a : Int} (hz : ∀ c ∈ zs, 0 ≤ c ∧ c ≤ 255) (hF : faultI op a = F) : ∀ c ∈ (if F = 0 then zs ++ insB op a else []), 0 ≤ c ∧ c ≤ 255 := by
  intro c hc
  split at hc
  · rename_i h
    rcases List.mem_append.1 hc with h1 | h1
    · exact hz c h1
    · exact insB_small op a (hF.trans h) c h1
  · cases hc

theorem insz_len {F : Int} {zs : List Int} {op a : Int} (hF : faultI op a = F) : (if F = 0 then zs ++ insB op a else []).length ≤ zs.length + 3 := by
  split
  · rename_i h
    have h1 := insB_len op a (hF.trans h)
    have h2 := (fault_ok (hF.trans h)).1
    have h3 := (opd_at (srt op) (srt_is op h2).2).2.1
    rw [List.length_append]
    omega
  · simp

set_option maxRecDepth 100000 in
set_option maxHeartbeats 2000000 in
theorem puts_walk (ab : Option Addr) (lb cb : Nat) (zs : List Int) (al : Option Addr) (ll cl : Nat) (ls : List Ins) (w : World) (h : Tab2 w) (hz : Row8 w ab lb cb zs) (hcb : cb ≤ maxLen) (hl : RowN w al ll ls) (hml : ll ≤ 9223372036854775807) (hm : lb ≤ 140737488351232) :
    Calls Tryd.prog 5 #[.slice ab lb cb, .slice al ll cl] w fun e w' => e = .returned (.bool true) ∧ Below w.heap.size w w' := by
  have HALL : Hid (∀ u, Below w.heap.size w u → Tab2 u ∧ Row8 u ab lb cb zs ∧ RowN u al ll ls) := hide (fun u hu => ⟨h.below hu, hz.later hu, hl.later hu⟩)
  have hzl := hz.length
  have HZS := hide hz.small
  have HLL := hide hl.1
  have HCB := hide hcb
  clear h hz hl hcb
  go_enter Tryd.func5, Tryd.ntmps5
  go_wp2_with fail
  go_loopw [5] (fun x wr => ∃ (i : Nat), x = .int .i64 (i : Int) ∧ Hid (i ≤ ll ∧ Below w.heap.size w wr)) (fun x _ => ll - (intOf x).toNat)
  case atStart => exact ⟨0, rfl, hide ⟨by omega, Below.refl _ _⟩⟩
  case round =>
    obtain ⟨i, rfl, HX⟩ := hrel
    obtain ⟨wq, hwq⟩ : ∃ wq, wq = wr := ⟨_, rfl⟩
    subst hwq
    by_cases hlt : i < ll
    · have i1 : (i : Int) < (ll : Int) := by omega
      obtain ⟨⟨op, a⟩, hp⟩ : ∃ p, ls[i]? = some p := ⟨_, List.getElem?_eq_getElem (by rw [unhide HLL]; exact hlt)⟩
      have HQ := hide (unhide HX).2
      obtain ⟨tq, rq, nq⟩ := unhide HALL wq (unhide HQ)
      obtain ⟨ad, b, o, rfl, hadd, cA, cB⟩ := nq.2.2 i _ hp
      simp only [] at cA cB
      have HCC : Hid (∀ u, Below wq.heap.size wq u → u.cell? ⟨b, o, none⟩ = some (.int .i64 op) ∧ u.cell? ⟨b, o + 1, none⟩ = some (.int .i64 a)) := hide (fun u hu => ⟨cell_later hu cA, cell_later hu cB⟩)
      have C1 := hide (lent4 ab lb cb zs wq rq hm)
      obtain ⟨G, hG⟩ : ∃ G, wq.heap.size = G := ⟨_, rfl⟩
      rw [hG] at C1
      obtain ⟨F, hF⟩ : ∃ F, faultI op a = F := ⟨_, rfl⟩
      have C2 : Hid (∀ u, Below G wq u → G ≤ u.heap.size → Bys u G (zs ++ marks lb) → _) := hide (fun u hu hs hB => put_any (some ⟨G, 0, none⟩) lb (lb + 40) zs op a u (tq.later hu (by rw [← hG]; exact tq.big) (by omega)) (by have := hB.row (unhide HZS) (lb + 40) (by omega); rw [hzl] at this; exact this) (by omega))
      have C3 : Hid (∀ u, Below G wq u → _) := hide (fun u hu => rput_any ab lb cb zs op a u (by rw [← hG] at hu; exact rq.later hu) (by omega))
      rw [hF] at C2 C3
      have HSM := hide (insz_small (unhide HZS) hF)
      have HLN := hide (insz_len (zs := zs) hF)
      obtain ⟨R, hR⟩ : ∃ R, (if F = 0 then zs ++ insB op a else []) = R := ⟨_, rfl⟩
      rw [hR] at C2 C3 HSM HLN
      have HL := hide hlt
      clear hp tq rq nq hF hR cA cB hlt
      go_wp2_with fail
      refine (unhide C1).mono ?_
      rintro e w1 ⟨rfl, A1, B1⟩
      have H1 := hide (And.intro A1 B1)
      have z1 := A1.lt
      obtain ⟨cA, cB⟩ := unhide HCC w1 (by rw [hG]; exact B1)
      have C2a := hide (unhide C2 w1 B1 (by omega) A1)
      clear A1 B1 C1
      go_wp2_with fail
      refine (unhide C2a).mono ?_
      rintro e w2 ⟨ao2, n2, c2, rfl, B2, O2⟩
      have X2 : Hid (Below G wq w2) := hide ((unhide H1).2.trans (B2.mono (by omega)))
      have A2 : Hid (Bys w2 G (zs ++ marks lb)) := hide ((B2.block G z1).trans (unhide H1).1)
      have z2 := B2.size
      have P2 := hide (And.intro O2 B2)
      have C2b := hide (unhide C2 w2 (unhide X2) (by omega) (unhide A2))
      clear cA cB B2 O2 C2a C2
      obtain ⟨cA, cB⟩ := unhide HCC w2 (by rw [hG]; exact unhide X2)
      go_wp2_with fail
      refine (unhide C2b).mono ?_
      rintro e w3 ⟨ao3, n3, c3, rfl, B3, O3⟩
      have X3 : Hid (Below G wq w3) := hide ((unhide X2).trans (B3.mono (by omega)))
      have A3 : Hid (Bys w3 G (zs ++ marks lb)) := hide ((B3.block G (by omega)).trans (unhide A2))
      have z3 := B3.size
      have P3 := hide (And.intro O3 B3)
      have C3a := hide (unhide C3 w3 (unhide X3))
      clear cA cB B3 O3 C2b C3
      obtain ⟨cA, cB⟩ := unhide HCC w3 (by rw [hG]; exact unhide X3)
      go_wp2_with fail
      refine (unhide C3a).mono ?_
      rintro e w4 ⟨ao4, n4, c4, rfl, B4, O4⟩
      have X4 : Hid (Below G wq w4) := hide ((unhide X3).trans (B4.mono (by omega)))
      have A4 : Hid (Bys w4 G (zs ++ marks lb)) := hide ((B4.block G (by omega)).trans (unhide A3))
      have z4 := B4.size
      have P4 := hide (And.intro O4 B4)
      clear cA cB B4 O4 C3a
      have Y4 : Hid (Below w.heap.size w w4) := hide ((unhide HQ).trans ((unhide X4).mono (by rw [← hG]; exact (unhide HQ).size)))
      have CS : Hid (∀ u, Below w.heap.size w u → Bys u G (zs ++ marks lb) → _) := hide (fun u hu hB => still4 G ab lb cb zs u (unhide HALL u hu).2.1 (unhide HCB) hm hB)
      have CSa := hide (unhide CS w4 (unhide Y4) (unhide A4))
      go_wp2_with fail
      refine (unhide CSa).mono ?_
      rintro e w5 ⟨rfl, B5⟩
      have z5 := B5.size
      have q2 := own_row (own_below (own_below (own_below (unhide P2).1 (unhide P3).2) (unhide P4).2) B5) (unhide HSM)
      have q3 := own_row (own_below (own_below (unhide P3).1 (unhide P4).2) B5) (unhide HSM)
      have q4 := own_row (own_below (unhide P4).1 B5) (unhide HSM)
      have k2 := conv8 q2.1
      have k4 := conv8 q4.1
      have hn2 : R.length = n2 := q2.1.length
      have Q5 := hide (And.intro q2 (And.intro q3 (And.intro q4 (And.intro (own_below (own_below (own_below (unhide P2).1 (unhide P3).2) (unhide P4).2) B5) B5))))
      have hcap2 : c2 ≤ maxLen := by
        rcases (unhide P2).1.2 with ⟨e, _⟩ | ⟨_, _, _, e, _, _, _, h, _⟩
        · cases e; exact Nat.zero_le _
        · cases e; exact h
      unfold maxLen at hcap2
      have hn22 : n2 ≤ lb + 3 := by have := unhide HLN; omega
      clear q2 q3 q4 B5 CSa
      obtain ⟨S, hS⟩ : ∃ S, strOfNums R = S := ⟨_, rfl⟩
      rw [hS] at k2 k4
      have HS := hide hS
      clear hS
      go_wp2_with fail
      clear k2 k4
      go_loopw [15] (fun x wr => ∃ (k : Nat), x = .int .i64 (k : Int) ∧ Hid (k ≤ n2) ∧ Hid (∃ xs : List Int, wr.ownsRow w1.heap.size 5 1 (.slice ao2 n2 c2) n2 (xs.map (Value.int .u8)) ∧ w5.grownBy wr (Value.slice ao2 n2 c2).ownBlock)) (fun x _ => n2 - (intOf x).toNat)
      case atStart => exact ⟨0, rfl, hide (by omega), hide ⟨R, (unhide Q5).2.2.2.1, World.grownBy.refl _ _⟩⟩
      case round =>
        obtain ⟨k, rfl, HK, HO⟩ := hrel
        obtain ⟨wp, hwp⟩ : ∃ wp, wp = wr := ⟨_, rfl⟩
        subst hwp
        by_cases hk : k < n2
        · have k1 : (k : Int) < (n2 : Int) := by omega
          obtain ⟨xs, ow, gr⟩ := unhide HO
          obtain ⟨gp, cp, hfm⟩ := ow.form (by omega)
          cases hfm.1
          have hxl : xs.length = n2 := by simpa using ow.1
          have ct : wp.cell? ⟨gp, k, none⟩ = some (.int .u8 (xs.getD k 0)) := by
            rw [ow.cellAt k (by omega)]
            simp [List.getD, (by omega : k < xs.length)]
          have fz := ow.frozenAt k
          have st := ow.stored k (.int .u8 200)
          have HN : Hid (∃ xs : List Int, (wp.setCell ⟨gp, k, none⟩ (.int .u8 200)).ownsRow w1.heap.size 5 1 (.slice (some ⟨gp, 0, none⟩) n2 c2) n2 (xs.map (Value.int .u8)) ∧ w5.grownBy (wp.setCell ⟨gp, k, none⟩ (.int .u8 200)) (Value.slice (some ⟨gp, 0, none⟩) n2 c2).ownBlock) := hide (by
            refine ⟨xs.set k 200, by rw [List.map_set]; exact st.1, ?_⟩
            have gr' : w5.grownBy wp (some gp) := gr
            exact ⟨st.2.os.trans gr'.os, st.2.tape.trans gr'.tape, st.2.output.trans gr'.output, Nat.le_trans gr'.size st.2.size, fun j hj hne => (st.2.block j (Nat.lt_of_lt_of_le hj gr'.size) hne).trans (gr'.block j hj hne)⟩)
          have HI1 : Hid (k + 1 ≤ n2) := hide (by omega)
          have HKL := hide hk
          clear st ow gr hk HO hfm
          go_wp2_with fail
          go_roundw
          case rel => exact ⟨k + 1, by go_num, HI1, HN⟩
          case measure => have := unhide HKL; simp [intOf]; omega
        · have hk' : k = n2 := by have := unhide HK; omega
          subst hk'
          clear hk HK
          go_wp2_with fail
          go_loopw [8, 16] (fun v x wr => ∃ (j n : Nat) (xs : List Int), x = .int .i64 (j : Int) ∧ Hid (j ≤ 20 ∧ n ≤ k + j) ∧ Hid (wr.ownsRow w1.heap.size 5 1 v n (xs.map (Value.int .u8)) ∧ Grew wp wr (.slice ao2 k c2) v)) (fun _ x _ => 20 - (intOf x).toNat)
          case atStart =>
            obtain ⟨xs, ow, gr⟩ := unhide HO
            exact ⟨0, k, xs, rfl, hide ⟨by omega, by omega⟩, hide ⟨ow, Grew.refl _ _⟩⟩
          case round =>
            obtain ⟨j, n, xs, rfl, HJ, HY⟩ := hrel
            obtain ⟨wt, hwt⟩ : ∃ wt, wt = wr := ⟨_, rfl⟩
            subst hwt
            have szp : w5.heap.size ≤ wp.heap.size := by obtain ⟨_, _, gr⟩ := unhide HO; exact gr.size
            have szt : wp.heap.size ≤ wt.heap.size := (unhide HY).2.grown.size
            by_cases hj : j < 20
            · have j1 : (j : Int) < 20 := by omega
              obtain ⟨wc, hwc⟩ : ∃ wc, wt.alloc (.cells #[.int .u8 200] 5) = wc := ⟨_, rfl⟩
              have Bc : Hid (Below wt.heap.size wt wc ∧ wc.heap[wt.heap.size]? = some (.cells #[.int .u8 200] 5 (0, 0))) := hide (by rw [← hwc]; exact ⟨(Below.refl _ _).alloc (Nat.le_refl _) _, heap_alloc_new _ _⟩)
              have Zc : wc.heap.size = wt.heap.size + 1 := by rw [← hwc]; simp
              have HJ1 := hide hj
              have hnj := (unhide HJ).2
              have tok : True := trivial
              go_wp2_with (first | (at_builtin; have _t := tok; refine wpl_app rfl (.tmp 90) (.tmp 91) rfl w1.heap.size n u8 xs rfl (own_below (unhide HY).1 (unhide Bc).1) (some ⟨wt.heap.size, 0, none⟩) 1 1 [200] rfl (row_one (unhide Bc).2 (by omega) (by omega)) (by omega) (by omega) ?_; clear tok; intro v3 w9 H9))
              go_roundw
              case rel => exact ⟨j + 1, n + 1, xs ++ [200], by go_num, hide ⟨by have := unhide HJ1; omega, by omega⟩, hide ⟨(unhide H9).1, (unhide HY).2.trans (Grew.behind (unhide Bc).1 (unhide H9).2)⟩⟩
              case measure => have := unhide HJ1; simp [intOf]; omega
            · have hj' : j = 20 := by have := (unhide HJ).1; omega
              subst hj'
              clear hj HJ
              have hfar : ∀ q, q < w5.heap.size → some q ≠ (Value.slice ao2 k c2).ownBlock → wt.heap[q]? = w5.heap[q]? := fun q hq hne => by
                obtain ⟨_, _, gr⟩ := unhide HO
                exact ((unhide HY).2.grown.block q (by omega) hne).trans (gr.block q hq hne)
              have hlt2 : ∀ q, (Value.slice ao2 k c2).ownBlock = some q → w1.heap.size ≤ q ∧ q < w2.heap.size := fun q e => (unhide P2).1.lt q e
              have Bt : Below w1.heap.size w5 wt := by
                obtain ⟨_, ow, gr⟩ := unhide HO
                exact ⟨(unhide HY).2.grown.os.trans gr.os, (unhide HY).2.grown.tape.trans gr.tape, (unhide HY).2.grown.output.trans gr.output, by omega, fun q hq => hfar q (by omega) (fun e => by have := (hlt2 q e.symm).1; omega)⟩
              have X5 : Below G wq w5 := (unhide X4).trans ((unhide Q5).2.2.2.2.mono (by omega))
              have Xt : Below G wq wt := X5.trans (Bt.mono (by omega))
              have Yt : Hid (Below w.heap.size w wt) := hide ((unhide HQ).trans (Xt.mono (by rw [← hG]; exact (unhide HQ).size)))
              have At : Hid (Bys wt G (zs ++ marks lb)) := hide ((Bt.block G (by omega)).trans (((unhide Q5).2.2.2.2.block G (by omega)).trans (unhide A4)))
              have r3 : Hid (Row8 wt ao3 n3 c3 R) := hide (row8_to (unhide Q5).2.1.1 (fun ad hd _ => hfar _ (by
                have := (unhide P3).1.lt ad.block (by rw [hd]; rfl)
                omega) (fun e => by
                have h1 := (hlt2 _ e.symm).2
                have h2 := (unhide Q5).2.1.2.2 ad hd
                omega)))
              have r4 : Hid (Row8 wt ao4 n4 c4 R) := hide (row8_to (unhide Q5).2.2.1.1 (fun ad hd _ => hfar _ (by
                have := (unhide P4).1.lt ad.block (by rw [hd]; rfl)
                omega) (fun e => by
                have h1 := (hlt2 _ e.symm).2
                have h2 := (unhide Q5).2.2.1.2.2 ad hd
                omega)))
              have CSb := hide (unhide CS wt (unhide Yt) (unhide At))
              clear hfar hlt2 Bt X5 Xt HO HY
              go_wp2_with fail
              refine (unhide CSb).mono ?_
              rintro e w10 ⟨rfl, B10⟩
              have k3 := conv8 ((unhide r3).later B10)
              have k4 := conv8 ((unhide r4).later B10)
              rw [unhide HS] at k3 k4
              have Y10 : Hid (Below w.heap.size w w10) := hide ((unhide Yt).trans (B10.mono (unhide Yt).size))
              have HI1 : Hid (i + 1 ≤ ll) := hide (by have := unhide HL; omega)
              clear B10 CSb
              go_wp2_with fail
              go_roundw
              case rel => exact ⟨i + 1, by go_num, hide ⟨unhide HI1, unhide Y10⟩⟩
              case measure => have := unhide HL; simp [intOf]; omega
    · have hi : i = ll := by have := (unhide HX).1; omega
      subst hi
      have C1 := hide (shown_any wq (unhide HALL wq (unhide HX).2).1)
      have HQ := hide (unhide HX).2
      clear HX
      go_wp2_with fail
      refine (unhide C1).mono ?_
      rintro e w2 ⟨rfl, B2⟩
      have H2 := hide ((unhide HQ).trans (B2.mono (unhide HQ).size))
      clear B2
      go_wp2_with fail
      go_ret
      exact ⟨rfl, unhide H2⟩
end Go.Proofs.YtbilcninhhkkpaaDoor
