/-
  The walk of CodeOne: what List reads Bytes writes as just these bytes; what it refuses Take refuses there, and all ahead of it is read; conditions: the package's variables, at most 2^43 bytes.
-/
import Derived.Test.YtbilcninhhkkpabDoorCOneM
import Derived.Test.YtbilcninhhkkpabDoorCShown
namespace Go.Proofs.YtbilcninhhkkpabDoor
open Go.RowKit

theorem row_take {w : World} {bb off len cap : Nat} {zs : List Int} (h : Row8 w (some ⟨bb, off, none⟩) len cap zs) (q : Nat) (hq : q ≤ len) : Row8 w (some ⟨bb, off, none⟩) q cap (zs.take q) := by
  have hl := h.length
  refine ⟨by rw [List.length_take]; omega, (fun e => by cases e), fun ad ha j u hj => ?_, fun c hc => h.small c (List.mem_of_mem_take hc), Nat.le_trans hq h.le⟩
  refine h.cells ad ha j u ?_
  rw [List.map_take] at hj
  have hjq : j < q := by
    have := (List.getElem?_eq_some_iff.1 hj).1
    simp at this
    omega
  rw [List.getElem?_take_of_lt hjq] at hj
  exact hj

theorem ins_bounds {op a : Int} (h : faultI op a = 0) : i64B op ∧ i64B a := by
  have h1 := fault_ok h
  have h2 := opd_at (srt op) (srt_is op h1.1).2
  unfold i64B
  omega

theorem conv8q {w : World} {ao : Option Addr} {len cap : Nat} {zs : List Int} (h : Row8 w ao len cap zs) : ∀ q, Sem.run Tryd.prog (convert 22 9 (.slice ao len cap)) (w.drewN q) = .ok (.string (strOfNums zs)) (w.drewN q) := fun q => conv8 (h.later (below_drewN (Below.refl _ _) q))

set_option maxRecDepth 100000 in
set_option maxHeartbeats 2000000 in
theorem one_walk (ao : Option Addr) (len cap : Nat) (zs : List Int) (w : World) (h : Tab2 w) (hz : Row8 w ao len cap zs) (hcap : cap ≤ 1048576) :
    Calls Tryd.prog 3 #[.slice ao len cap] w fun e w' => e = .returned (.bool true) ∧ Below w.heap.size w w' := by
  have HALL : Hid (∀ u, Below w.heap.size w u → Tab2 u ∧ Row8 u ao len cap zs) := hide (fun u hu => ⟨h.below hu, hz.later hu⟩)
  have hzl := hz.length
  have hle := hz.le
  have HSM := hide hz.small
  have hcn := cnt_le zs len 0
  have CL := hide (list_any ao len cap zs w h hz (by omega) (by omega))
  have hlb := lst_back zs hz.small len 0 (by omega) (by omega)
  rw [List.drop_zero] at hlb
  obtain ⟨R, hR⟩ : ∃ R, lst zs len 0 = R := ⟨_, rfl⟩
  rw [hR] at CL hlb
  obtain ⟨rl, rp, rat, re⟩ := R
  simp only [] at CL hlb
  have HLB := hide hlb
  have hbig := h.big
  clear h hz hlb hR
  go_enter Tryd.func3, Tryd.ntmps3
  go_wp2_with fail
  refine (unhide CL).mono ?_
  rintro e w1 ⟨al, cl, ap, cp, rfl, L1⟩
  have X1 : Hid (Below w.heap.size w w1) := hide L1.below
  have O1 := hide L1.ins
  have CS := hide (shown_any w1 (unhide HALL w1 L1.below).1)
  clear L1 CL
  go_wp2_with fail
  refine (unhide CS).mono ?_
  rintro e w2 ⟨rfl, B2⟩
  have X2 : Hid (Below w.heap.size w w2) := hide ((unhide X1).trans (B2.mono (unhide X1).size))
  have O2 := hide (own_below (unhide O1) B2)
  clear B2 CS O1
  by_cases he : re = 0
  · subst he
    obtain ⟨h1, h2, h3, h4⟩ := (unhide HLB).1 rfl
    subst h1
    have hrn := (own_rowN (unhide O2) (fun p hp => ins_bounds ((bytesF_zero rl).1 h2 p hp))).1
    have hbl := bytesL_len rl
    rw [h3] at hbl
    have CB := hide (bytes_any al rl.length cl rl w2 (unhide HALL w2 (unhide X2)).1 hrn (by omega))
    rw [h2, if_pos rfl, h3] at CB
    have hpl : rp.length = rl.length := h4
    rw [hpl]
    clear hrn h2 h3 h4 HLB
    go_wp2_with fail
    refine (unhide CB).mono ?_
    rintro e w3 ⟨ab, lb, cb, rfl, B3, O3⟩
    have X3 : Hid (Below w.heap.size w w3) := hide ((unhide X2).trans (B3.mono (unhide X2).size))
    have k1 := conv8 (own_row O3 (unhide HSM)).1
    have k2 := conv8 (unhide HALL w3 (unhide X3)).2
    obtain ⟨S, hS⟩ : ∃ S, strOfNums zs = S := ⟨_, rfl⟩
    rw [hS] at k1 k2
    clear B3 O3 CB hS
    go_wp2_with fail
    go_ret
    exact ⟨rfl, unhide X3⟩
  · obtain ⟨rfl, rfl, q, m, rfl, _, hq, htk, hm1, hm2⟩ := (unhide HLB).2 he
    rw [Nat.sub_zero] at hm2
    have he1 : (re == 0) = false := by simpa using he
    have q0 : ¬ (q : Int) < 0 := by omega
    have q1 : (q : Int) < (len : Int) := by omega
    have q2 : (q : Int) ≤ (len : Int) := by omega
    have q3 : (q : Int) ≤ (cap : Int) := by omega
    have hrow2 := (unhide HALL w2 (unhide X2)).2
    obtain ⟨bb, off, rfl, _⟩ := hrow2.at (by omega)
    have CT := hide (take_any (some ⟨bb, off, none⟩) len cap zs (q : Int) w2 (unhide HALL w2 (unhide X2)).1 hrow2 (by omega))
    have hbd := take_bad zs (q : Int) (by rw [htk]; exact he)
    obtain ⟨t0, t1, t2, t3, hT⟩ : ∃ t0 t1 t2 t3, takeI zs (q : Int) = (t0, t1, t2, t3) := ⟨_, _, _, _, rfl⟩
    rw [hT] at CT htk hbd
    simp only [] at htk hbd
    obtain ⟨rfl, rfl, rfl⟩ := hbd
    subst htk
    simp only [takeV] at CT
    have hml := bytesL_len m
    rw [hm2, List.length_take] at hml
    have hlm := lst_bytes m [] q hm1 (by omega)
    rw [List.nil_append, List.length_nil, hm2] at hlm
    have HM := hide (And.intro hm1 hm2)
    have HLM := hide hlm
    clear hrow2 hT HLB hlm hm1 hm2
    simp only [List.length_nil] at *
    go_wp2_with fail
    refine (unhide CT).mono ?_
    rintro e w3 ⟨rfl, B3⟩
    have X3 : Hid (Below w.heap.size w w3) := hide ((unhide X2).trans (B3.mono (unhide X2).size))
    clear B3 CT
    go_upto_region 11 with fail
    obtain ⟨w4, hw4⟩ : ∃ w4, w4 = w3.alloc (.cells #[.int .i64 0, .int .i64 0] 32) := ⟨_, rfl⟩
    rw [← hw4]
    have A4 : Hid (w4.heap[w3.heap.size]? = some (.cells #[.int .i64 0, .int .i64 0] 32 (0, 0))) := hide (by rw [hw4]; exact heap_alloc_new w3 _)
    have Z4 : w4.heap.size = w3.heap.size + 1 := by rw [hw4]; simp
    have X4 : Hid (Below w.heap.size w w4) := hide (by rw [hw4]; exact (unhide X3).alloc (unhide X3).size _)
    have HRT : Hid (∀ u, Below w.heap.size w u → Row8 u (some ⟨bb, off, none⟩) q cap (zs.take q)) := hide (fun u hu => row_take (unhide HALL u hu).2 q (by omega))
    have CL2 := hide (list_any (some ⟨bb, off, none⟩) q cap (zs.take q) w4 (unhide HALL w4 (unhide X4)).1 (unhide HRT w4 (unhide X4)) (by omega) (by rw [(unhide HLM).2]; omega))
    rw [(unhide HLM).1] at CL2
    simp only [] at CL2
    clear hw4
    go_wp2_with fail
    refine (unhide CL2).mono ?_
    rintro e w5 ⟨am, cm, apm, cpm, rfl, L5⟩
    have B5 := L5.below
    have X5 : Hid (Below w.heap.size w w5) := hide ((unhide X4).trans (B5.mono (unhide X4).size))
    have hrm := (own_rowN L5.ins (fun p hp => ins_bounds ((bytesF_zero m).1 (unhide HM).1 p hp))).1
    have CB := hide (bytes_any am m.length cm m w5 (unhide HALL w5 (unhide X5)).1 hrm (by omega))
    rw [(unhide HM).1, if_pos rfl, (unhide HM).2] at CB
    have A5 : Hid (w5.heap[w3.heap.size]? = some (.cells #[.int .i64 0, .int .i64 0] 32 (0, 0))) := hide ((B5.block _ (by omega)).trans (unhide A4))
    have z5 := B5.size
    clear L5 hrm CL2 B5
    go_wp2_with fail
    refine (unhide CB).mono ?_
    rintro e w6 ⟨ab, lb, cb, rfl, B6, O6⟩
    have X6 : Hid (Below w.heap.size w w6) := hide ((unhide X5).trans (B6.mono (unhide X5).size))
    obtain ⟨c0, c1⟩ := ins_cells ((B6.block _ (by omega)).trans (unhide A5))
    have k1 := conv8q (own_row O6 (fun c hc => unhide HSM c (List.mem_of_mem_take hc))).1
    have k2 := conv8q (unhide HRT w6 (unhide X6))
    obtain ⟨S, hS⟩ : ∃ S, strOfNums (zs.take q) = S := ⟨_, rfl⟩
    rw [hS] at k1 k2
    clear B6 O6 CB hS
    go_upto_region 13 with fail
    go_quiet (fail)
    go_wp2_with fail
    go_ret
    exact ⟨rfl, below_drewN (unhide X6) _⟩
end Go.Proofs.YtbilcninhhkkpabDoor
