/-
  The walk of CodeBack: what Bytes lays List tells, instruction by instruction, each of which Take finds at its place; conditions: the package's variables, the instructions at most 2^47 - 4096 bytes.
-/
import Derived.Test.YtbilcninhhkkpaaDoorCBackM
import Derived.Test.YtbilcninhhkkpaaDoorCShown
namespace Go.Proofs.YtbilcninhhkkpaaDoor
open Go.RowKit

set_option maxRecDepth 100000 in
set_option maxHeartbeats 2000000 in
theorem back_walk (al : Option Addr) (ll cl : Nat) (ls : List Ins) (w : World) (h : Tab2 w) (hl : RowN w al ll ls) (hm : ll * 16 ≤ 140737488351232) :
    Calls Tryd.prog 8 #[.slice al ll cl] w fun e w' => e = .returned (.bool true) ∧ Below w.heap.size w w' := by
  have HALL : Hid (∀ u, Below w.heap.size w u → Tab2 u ∧ RowN u al ll ls) := hide (fun u hu => ⟨h.below hu, hl.later hu⟩)
  have HLL := hide hl.1
  have HB6 := hide hl.2.1
  have hbig := h.big
  have CB := hide (bytes_any al ll cl ls w h hl (by omega))
  obtain ⟨E, hE⟩ : ∃ E, bytesF ls = E := ⟨_, rfl⟩
  rw [hE] at CB
  have HE := hide hE
  clear h hl hE
  go_enter Tryd.func8, Tryd.ntmps8
  go_wp2_with fail
  refine (unhide CB).mono ?_
  rintro e w1 ⟨ab, lb, cb, rfl, B1, O1⟩
  have H1 := hide (And.intro B1 O1)
  have CS := hide (shown_any w1 (unhide HALL w1 B1).1)
  clear B1 O1 CB
  go_wp2_with fail
  refine (unhide CS).mono ?_
  rintro e w2 ⟨rfl, B2⟩
  have H2 := hide (And.intro ((unhide H1).1.trans (B2.mono (unhide H1).1.size)) (own_below (unhide H1).2 B2))
  clear B2 CS
  by_cases hE0 : E = 0
  · subst hE0
    have hown := (unhide H2).2
    rw [if_pos rfl] at hown
    have hsm := bytesL_small ls (unhide HE)
    obtain ⟨hr, hlb, _⟩ := own_row hown hsm
    obtain ⟨zs, hzs⟩ : ∃ zs, bytesL ls = zs := ⟨_, rfl⟩
    have hbl := bytesL_len ls
    rw [unhide HLL] at hbl
    have hlst := lst_bytes ls [] zs.length (unhide HE) (by rw [unhide HLL, ← hzs]; exact hbl.1)
    rw [List.nil_append, List.length_nil, hzs] at hlst
    rw [hzs] at hr hbl
    have hcb : cb ≤ 9223372036854775807 := by
      rcases hown.2 with ⟨e, _⟩ | ⟨_, _, _, e, _, _, _, h, _⟩
      · cases e; omega
      · cases e; unfold maxLen at h; omega
    have hzl := hr.length
    rw [hzl] at hlst hbl
    have CL := hide (list_any ab lb cb zs w2 (unhide HALL w2 (unhide H2).1).1 hr hcb (by rw [hlst.2, unhide HLL]; omega))
    rw [hlst.1] at CL
    simp only [plc_len, unhide HLL] at CL
    have HZ := hide hzs
    have HR2 := hide hr
    clear hown hsm hr hzs hlst
    go_wp2_with fail
    refine (unhide CL).mono ?_
    rintro e w3 ⟨am, cm, ap, cp, rfl, L3⟩
    have B3 := L3.below
    have X3 : Hid (Below w.heap.size w w3) := hide ((unhide H2).1.trans (B3.mono (unhide H2).1.size))
    have hM := (own_rowN L3.ins (unhide HB6)).1
    have hP := (own_rowI L3.pls).1
    simp only [plc_len, unhide HLL] at hM hP
    have HK : Hid (∀ u, Below w3.heap.size w3 u → Row8 u ab lb cb zs ∧ RowN u am ll ls ∧ RowI u ap ll (plc 0 ls) ∧ Tab2 u ∧ RowN u al ll ls) := hide (fun u hu => ⟨((unhide HR2).later B3).later hu, hM.later hu, hP.later hu, (unhide HALL u ((unhide X3).trans (hu.mono (unhide X3).size))).1, (unhide HALL u ((unhide X3).trans (hu.mono (unhide X3).size))).2⟩)
    clear L3 B3 hM hP CL
    go_wp2_with fail
    go_loopw [13, 14] (fun y x wr => ∃ (i p : Nat), x = .int .i64 (i : Int) ∧ y = .int .i64 (p : Int) ∧ Hid (i ≤ ll ∧ p = (bytesL (ls.take i)).length ∧ Below w3.heap.size w3 wr)) (fun _ x _ => ll - (intOf x).toNat)
    case atStart => exact ⟨0, 0, rfl, rfl, hide ⟨by omega, by simp [bytesL], Below.refl _ _⟩⟩
    case round =>
      obtain ⟨i, p, rfl, rfl, HX⟩ := hrel
      obtain ⟨wq, hwq⟩ : ∃ wq, wq = wr := ⟨_, rfl⟩
      subst hwq
      by_cases hlt : i < ll
      · have i1 : (i : Int) < (ll : Int) := by omega
        obtain ⟨⟨op, a⟩, hp⟩ : ∃ p, ls[i]? = some p := ⟨_, List.getElem?_eq_getElem (by rw [unhide HLL]; exact hlt)⟩
        have htk : ls.take (i + 1) = ls.take i ++ [(op, a)] := by
          rw [List.take_succ_eq_append_getElem (by rw [unhide HLL]; exact hlt)]
          rw [List.getElem?_eq_getElem (by rw [unhide HLL]; exact hlt)] at hp
          rw [Option.some.inj hp]
        have hdr : ls = ls.take i ++ (op, a) :: ls.drop (i + 1) := by
          conv => lhs; rw [← List.take_append_drop (i + 1) ls, htk]
          simp
        have hf := (bytesF_zero ls).1 (unhide HE) (op, a) (List.mem_of_getElem? hp)
        have hzz : zs = bytesL (ls.take i) ++ insB op a ++ bytesL (ls.drop (i + 1)) := by
          rw [← unhide HZ]
          conv => lhs; rw [hdr]
          simp [bytesL]
        have htm := take_mid (bytesL (ls.take i)) (bytesL (ls.drop (i + 1))) op a hf
        rw [← hzz, ← (unhide HX).2.1] at htm
        obtain ⟨q, hq⟩ : ∃ q, p + (insB op a).length = q := ⟨_, rfl⟩
        rw [hq] at htm
        have CT := hide (take_any ab lb cb zs (p : Int) wq (unhide HK wq (unhide HX).2.2).2.2.2.1 (unhide HK wq (unhide HX).2.2).1 hcb)
        rw [htm] at CT
        simp only [takeV] at CT
        have hpq : p < q := by have := (insB_len3 op a).1; omega
        have HN : Hid (i + 1 ≤ ll ∧ q = (bytesL (ls.take (i + 1))).length) := hide ⟨by omega, by rw [htk, bytesL_app, bytesL_one, List.length_append, ← (unhide HX).2.1, hq]⟩
        have hpl := plc_at ls 0 i (by rw [unhide HLL]; exact hlt)
        rw [Nat.zero_add, ← (unhide HX).2.1] at hpl
        have HP := hide (And.intro hp hpl)
        have HL := hide hlt
        clear hp hpl htk hdr hf hzz htm hlt hq
        go_wp2_with fail
        refine (unhide CT).mono ?_
        rintro e w4 ⟨rfl, B4⟩
        have H4 := hide ((unhide HX).2.2.trans (B4.mono (unhide HX).2.2.size))
        clear B4 CT
        go_upto_region 21 with fail
        obtain ⟨w5, hw5⟩ : ∃ w5, w5 = w4.alloc (.cells #[.int .i64 op, .int .i64 a] 42) := ⟨_, rfl⟩
        rw [← hw5]
        have X5 : Hid (Below w3.heap.size w3 w5) := hide (by rw [hw5]; exact (unhide H4).alloc (unhide H4).size _)
        obtain ⟨e0, e1⟩ := ins_cells (show w5.heap[w4.heap.size]? = some (.cells #[.int .i64 op, .int .i64 a] 42 (0, 0)) by rw [hw5]; exact heap_alloc_new _ _)
        obtain ⟨_, rM, rP, _, rL⟩ := unhide HK w5 (unhide X5)
        obtain ⟨ad1, b1, o1, rfl, hadd1, cA1, cB1⟩ := rM.2.2 i _ (unhide HP).1
        obtain ⟨ad2, b2, o2, rfl, hadd2, cA2, cB2⟩ := rL.2.2 i _ (unhide HP).1
        obtain ⟨b3, o3, rfl, cP⟩ := rP.2 i _ (unhide HP).2
        simp only [] at cA1 cB1 cA2 cB2
        have hqp : ¬ (q : Int) ≤ (p : Int) := by omega
        clear hw5 rM rP rL
        go_quiet (fail)
        go_wp2_with fail
        go_roundw
        case rel => exact ⟨i + 1, q, by go_num, rfl, hide ⟨(unhide HN).1, (unhide HN).2, below_drewN (unhide X5) _⟩⟩
        case measure => have := unhide HL; simp [intOf]; omega
      · have hi : i = ll := by have := (unhide HX).1; omega
        subst hi
        have hpl : p = lb := by
          rw [(unhide HX).2.1, List.take_of_length_le (by rw [unhide HLL]; exact Nat.le_refl _), unhide HZ]
          exact hzl
        subst hpl
        go_wp2_with fail
        go_ret
        exact ⟨rfl, (unhide X3).trans ((unhide HX).2.2.mono (unhide X3).size)⟩
  · have hE2 : (E != 0) = true := by simpa using hE0
    have hown := (unhide H2).2
    rw [if_neg hE0] at hown
    have hlb : lb = 0 := by
      have h1 := (own_row hown (by simp)).1.length
      simpa using h1.symm
    subst hlb
    have X2 := hide (unhide H2).1
    clear hown H2 H1
    go_wp2_with fail
    go_loopw [6] (fun x wr => ∃ (i : Nat), x = .int .i64 (i : Int) ∧ Hid (i ≤ ll ∧ bytesF (ls.take i) = 0 ∧ Below w.heap.size w wr)) (fun x _ => ll - (intOf x).toNat)
    case atStart => exact ⟨0, rfl, hide ⟨by omega, rfl, unhide X2⟩⟩
    case round =>
      obtain ⟨i, rfl, HX⟩ := hrel
      obtain ⟨wq, hwq⟩ : ∃ wq, wq = wr := ⟨_, rfl⟩
      subst hwq
      by_cases hlt : i < ll
      · have i1 : (i : Int) < (ll : Int) := by omega
        obtain ⟨⟨op, a⟩, hp⟩ : ∃ p, ls[i]? = some p := ⟨_, List.getElem?_eq_getElem (by rw [unhide HLL]; exact hlt)⟩
        obtain ⟨tq, nq⟩ := unhide HALL wq (unhide HX).2.2
        obtain ⟨ad, b, o, rfl, hadd, cA, cB⟩ := nq.2.2 i _ hp
        simp only [] at cA cB
        have htk : ls.take (i + 1) = ls.take i ++ [(op, a)] := by
          rw [List.take_succ_eq_append_getElem (by rw [unhide HLL]; exact hlt)]
          rw [List.getElem?_eq_getElem (by rw [unhide HLL]; exact hlt)] at hp
          rw [Option.some.inj hp]
        have hdr : ls = ls.take i ++ (op, a) :: ls.drop (i + 1) := by
          conv => lhs; rw [← List.take_append_drop (i + 1) ls, htk]
          simp
        have CP := hide (put_any none 0 0 [] op a wq tq (nilRow _) (by omega))
        obtain ⟨F, hF⟩ : ∃ F, faultI op a = F := ⟨_, rfl⟩
        rw [hF] at CP
        have hEF : F ≠ 0 → E = F := fun h => by
          rw [← unhide HE, hdr, bytesF_app _ _ (unhide HX).2.1]
          simp only [bytesF]
          rw [hF, if_neg h]
        have hF0 : F = 0 → bytesF (ls.take (i + 1)) = 0 := fun h => by
          rw [htk, bytesF_app _ _ (unhide HX).2.1]
          simp [bytesF, hF, h]
        have HF := hide (And.intro hEF hF0)
        have HL := hide hlt
        clear hp tq nq htk hdr hlt hF hEF hF0
        go_wp2_with fail
        refine (unhide CP).mono ?_
        rintro e w3 ⟨ao, n3, c3, rfl, B3, _⟩
        have X3 : Hid (Below w.heap.size w w3) := hide ((unhide HX).2.2.trans (B3.mono (unhide HX).2.2.size))
        clear B3 CP
        by_cases hf0 : F = 0
        · have HN := hide ((unhide HF).2 hf0)
          subst hf0
          have HI1 : Hid (i + 1 ≤ ll) := hide (by have := unhide HL; omega)
          go_wp2_with fail
          go_roundw
          case rel => exact ⟨i + 1, by go_num, hide ⟨unhide HI1, unhide HN, unhide X3⟩⟩
          case measure => have := unhide HL; simp [intOf]; omega
        · obtain rfl := (unhide HF).1 hf0
          clear HF
          go_wp2_with fail
          go_ret
          exact ⟨rfl, unhide X3⟩
      · exfalso
        have hi : i = ll := by have := (unhide HX).1; omega
        subst hi
        have h1 := (unhide HX).2.1
        rw [List.take_of_length_le (by rw [unhide HLL]; exact Nat.le_refl _), unhide HE] at h1
        exact hE0 h1
end Go.Proofs.YtbilcninhhkkpaaDoor
