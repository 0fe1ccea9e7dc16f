/-
  The walks of the document's own Put and Encode; conditions: the lengths together are below 2^47.
-/
import Derived.Test.YtjgjebohbgbimaaDoorA26
set_option linter.unusedVariables false
set_option linter.unusedSimpArgs false
namespace Go.Proofs.YtjgjebohbgbimaaDoor
open Go.RowKit
set_option linter.unusedVariables false
set_option linter.unusedSimpArgs false

set_option maxRecDepth 100000 in
set_option maxHeartbeats 1000000 in
theorem put_f (ab : Option Addr) (lb cb : Nat) (zs : List Int) (v : Vl) (x : Value) (B : Nat) (w : World) (hz : Row8 w ab lb cb zs) (hv : IsV w B v x) (hBs : B ≤ w.heap.size) (hb : lb + 43018 ≤ 140737489403904) :
    Calls Tryd.prog 19 #[.slice ab lb cb, x] w fun e w' => ∃ (ao : Option Addr) (len cap : Nat), e = .returned (.tuple #[.slice ao len cap, .int .i64 (codeR v)]) ∧ Row8 w' ao len cap (if rightB v = true then zs ++ wenc v else []) ∧ Below w.heap.size w w' ∧ (∀ a, ao = some a → w.heap.size ≤ a.block) ∧ cap ≤ maxLen := by
  have hfit := hv.fit
  obtain ⟨k, n, s, l, ks, al, ak, cl, ck, hvv, hx⟩ := hv.shape
  clear hvv
  obtain ⟨m, hm⟩ : ∃ m, ks.length = m := ⟨_, rfl⟩
  obtain ⟨ln, hln⟩ : ∃ ln, l.length = ln := ⟨_, rfl⟩
  rw [hm, hln] at hx
  subst hx
  obtain ⟨w1, hw1⟩ : ∃ w1, w.alloc (.cells #[.int .i64 k, .int .i64 n, .string s, .slice al ln cl, .slice ak m ck] 37) = w1 := ⟨_, rfl⟩
  have BX := Box.mk' w (.int .i64 k) (.int .i64 n) (.string s) (.slice al ln cl) (.slice ak m ck)
  rw [hw1] at BX
  obtain ⟨g, hg⟩ : ∃ g, w.heap.size = g := ⟨_, rfl⟩
  have z1 := BX.size
  have z1g : w1.heap.size = g + 1 := by omega
  have HRW : Hid (∀ u, Below w1.heap.size w1 u → u.heap[g]? = some (.cells #[.int .i64 k, .int .i64 n, .string s, .slice al ln cl, .slice ak m ck] 37 (0, 0)) ∧ IsV u B v (.agg #[.int .i64 k, .int .i64 n, .string s, .slice al ln cl, .slice ak m ck]) ∧ Row8 u ab lb cb zs ∧ Below w.heap.size w u) := hide (fun u hu => ⟨by rw [← hg]; exact (hu.block _ (by omega)).trans BX.row, hv.mono ((BX.below.mono hBs).trans (hu.mono (by omega))), (hz.later BX.below).later hu, BX.below.trans (hu.mono (by omega))⟩)
  have CR := hide (right_ref v _ B w1 (unhide HRW w1 (Below.refl _ _)).2.1 (by omega))
  obtain ⟨c0, c1, c2, c3, c4⟩ := row_cell (unhide HRW w1 (Below.refl _ _)).1
  clear BX hv hz z1 hm hln
  cases hR : rightB v with
  | false =>
    rw [hR] at CR
    have HC : Hid (codeR v = 40) := hide (by simp [codeR, hR])
    clear hR
    go_enter Tryd.func19, Tryd.ntmps19
    go_wp2_with fail
    refine (unhide CR).mono ?_
    rintro e w2 ⟨rfl, b2⟩
    have H2 := hide b2
    clear b2 CR
    go_wp2_with fail
    go_ret2
    refine ⟨none, 0, 0, by rw [unhide HC]; rfl, by simpa using nilRow _, ?_, (fun a h => by cases h), by unfold maxLen; omega⟩
    have h := (unhide HRW _ (unhide H2)).2.2.2
    first | exact h | (rw [← hg]; exact h)
  | true =>
    rw [hR] at CR
    have hw2 := right_wt hR
    have hlen := wenc_len v
    have hlb : (wenc v).length ≤ 43008 := by omega
    have hpos := wenc_pos v 8 hw2.1
    have hsm := wenc_small v 8 hw2.1 hfit
    have HS := hide (And.intro hsm hw2.1)
    have HC : Hid (codeR v = 0) := hide (by simp [codeR, hR])
    obtain ⟨Z, hZ⟩ : ∃ Z, wenc v = Z := ⟨_, rfl⟩
    have CL : Hid (∀ u sv, Below w1.heap.size w1 u → u.ownsRow w1.heap.size 5 1 sv (0 + lb) (([] ++ zs).map (Value.int .u8)) → Calls Tryd.prog 33 #[sv, .agg #[.int .i64 k, .int .i64 n, .string s, .slice al ln cl, .slice ak m ck]] u fun e w' => Laid w1.heap.size sv lb zs Z u e w') := hide (fun u sv hu ho => by
      rw [Nat.zero_add, List.nil_append] at ho
      have h := put_f_any 8 v _ B w1.heap.size u sv lb zs hw2.1 (unhide HRW u hu).2.1 (by omega) hu.size ho (unhide HRW u hu).2.2.1.small (by omega)
      rw [hZ] at h
      exact h)
    rw [hZ] at hlb hpos HS
    rw [if_pos rfl, hZ]
    clear hR hw2 hlen hsm hZ hfit
    go_enter Tryd.func19, Tryd.ntmps19
    go_wp2_with fail
    refine (unhide CR).mono ?_
    rintro e w2 ⟨rfl, b2⟩
    have H2 := hide b2
    clear b2 CR c0 c1 c2 c3 c4
    obtain ⟨c0, c1, c2, c3, c4⟩ := row_cell (unhide HRW w2 (unhide H2)).1
    go_upto_region 5 with fail
    refine till_begin (S := fun w' => w'.cell? ⟨g, 0, none⟩ = some (.int .i64 k) ∧ w'.cell? ⟨g, 1, none⟩ = some (.int .i64 n) ∧ w'.cell? ⟨g, 2, none⟩ = some (.string s) ∧ w'.cell? ⟨g, 3, none⟩ = some (.slice al ln cl) ∧ w'.cell? ⟨g, 4, none⟩ = some (.slice ak m ck)) 6 (by kernel_rfl) ?_
    obtain ⟨wd, hwd⟩ : ∃ wd, w2.drew = wd := ⟨_, rfl⟩
    have HD : Hid (Below w1.heap.size w1 wd) := hide (by rw [← hwd]; exact (unhide H2).drew)
    have B2d : Below w2.heap.size w2 wd := by rw [← hwd]; exact (Below.refl _ _).drew
    have HS1 := And.intro (cell_later B2d c0) (And.intro (cell_later B2d c1) (And.intro (cell_later B2d c2) (And.intro (cell_later B2d c3) (cell_later B2d c4))))
    rw [hwd]
    clear hwd B2d c0 c1 c2 c3 c4
    refine till_take 0 (v := .slice none 0 0) (some 12) rfl rfl rfl (by kernel_rfl) (by kernel_rfl) (by kernel_rfl) (by kernel_rfl) (fun _ _ _ h => h) (Or.inl ⟨by rfl, fun u hu => by obtain ⟨t0, t1, t2, t3, t4⟩ := hu; go_simp⟩) HS1 ?_
    try simp only [Act.put, List.setIfInBounds_toArray, List.set_cons_zero, List.set_cons_succ]
    refine till_take 1 (v := .slice ab lb cb) (some 13) rfl rfl rfl (by kernel_rfl) (by kernel_rfl) (by kernel_rfl) (by kernel_rfl) (fun _ _ _ h => h) (Or.inl ⟨by rfl, fun u hu => by obtain ⟨t0, t1, t2, t3, t4⟩ := hu; go_simp⟩) HS1 ?_
    try simp only [Act.put, List.setIfInBounds_toArray, List.set_cons_zero, List.set_cons_succ]
    refine till_take 3 (v := .agg #[.int .i64 k, .int .i64 n, .string s, .slice al ln cl, .slice ak m ck]) (some 15) rfl rfl rfl (by kernel_rfl) (by kernel_rfl) (by kernel_rfl) (by kernel_rfl) (fun _ _ _ h => h) (Or.inl ⟨by rfl, fun u hu => by obtain ⟨t0, t1, t2, t3, t4⟩ := hu; go_simp⟩) HS1 ?_
    try simp only [Act.put, List.setIfInBounds_toArray, List.set_cons_zero, List.set_cons_succ]
    refine till_one 2 (by kernel_rfl) rfl (fun K hK => ?_)
    refine step_app (by rfl) _ _ (by rfl) w1.heap.size 0 (.slice none 0 0) [] (by rfl) (World.ownsRow_nil _ _ _ _) ab lb cb zs (by rfl) (unhide HRW wd (unhide HD)).2.2.1 (by omega) (unhide HD).size ?_
    intro v2 wa HA
    change K (Act.put _ (some 14) _) wa
    have Xa : Below wd.heap.size wd wa := ⟨(unhide HA).2.grown.os, (unhide HA).2.grown.tape, (unhide HA).2.grown.output, (unhide HA).2.grown.size, fun q hq => (unhide HA).2.grown.block q hq (by simp [Value.ownBlock])⟩
    have XA := hide ((unhide HD).trans (Xa.mono (unhide HD).size))
    have HSa := And.intro (cell_later Xa HS1.1) (And.intro (cell_later Xa HS1.2.1) (And.intro (cell_later Xa HS1.2.2.1) (And.intro (cell_later Xa HS1.2.2.2.1) (cell_later Xa HS1.2.2.2.2))))
    have CC := hide (unhide CL wa v2 (unhide XA) (unhide HA).1)
    have hov : ∀ q, v2.ownBlock = some q → w1.heap.size ≤ q := fun q e => ((unhide HA).1.lt q e).1
    have HOV := hide hov
    refine hK.out _ _ (Or.inr HSa) ?_
    clear hK K Xa hov
    try simp only [Act.put, List.setIfInBounds_toArray, List.set_cons_zero, List.set_cons_succ]
    refine till_one 4 (by kernel_rfl) rfl (fun K hK => ?_)
    go_simp
    refine (unhide CC).mono ?_
    rintro e we ⟨v6, rfl, own6, gr6⟩
    have Xe : Below w1.heap.size w1 we := (unhide XA).trans (gr6.below (unhide HA).1 (unhide XA).size)
    have hne : some g ≠ v2.ownBlock := fun e => by have := unhide HOV g e.symm; omega
    have kp : ∀ q x, wa.cell? ⟨g, q, none⟩ = some x → we.cell? ⟨g, q, none⟩ = some x := fun q x hx => (World.cell?_of_block (gr6.far (b := g) (by have := (unhide XA).size; omega) hne)).trans hx
    have HSe := And.intro (kp _ _ HSa.1) (And.intro (kp _ _ HSa.2.1) (And.intro (kp _ _ HSa.2.2.1) (And.intro (kp _ _ HSa.2.2.2.1) (kp _ _ HSa.2.2.2.2))))
    have hsz : ∀ c ∈ zs ++ Z, 0 ≤ c ∧ c ≤ 255 := fun c hc => by
      rcases List.mem_append.1 hc with h | h
      · exact (unhide HRW w1 (Below.refl _ _)).2.2.1.small c h
      · exact (unhide HS).1 c h
    obtain ⟨g5, cp5, rfl, hg5, r5, m5⟩ := row_of own6 hsz (by omega)
    have HE := hide (And.intro Xe (And.intro r5 (And.intro hg5 m5)))
    clear own6 gr6 kp hne CC Xe r5 m5 hsz
    go_wp2_with fail
    refine hK.out _ _ (Or.inr HSe) ?_
    clear hK K
    try simp only [Act.put, List.setIfInBounds_toArray, List.set_cons_zero, List.set_cons_succ]
    have FIN : ∀ e', e' = .returned (.tuple #[.slice (some ⟨g5, 0, none⟩) (lb + Z.length) cp5, .int .i64 0]) → ∃ (ao : Option Addr) (len cap : Nat), e' = Ending.returned (.tuple #[.slice ao len cap, .int .i64 (codeR v)]) ∧ Row8 we ao len cap (zs ++ Z) ∧ Below w.heap.size w we ∧ (∀ a, ao = some a → w.heap.size ≤ a.block) ∧ cap ≤ maxLen := fun e' he' => by
      obtain ⟨Xe, r5, hg5, m5⟩ := unhide HE
      refine ⟨_, _, _, by rw [unhide HC]; exact he', r5, ?_, (fun a h => by cases h; show _ ≤ g5; omega), m5⟩
      exact (unhide HRW _ Xe).2.2.2
    have HFIN := hide FIN
    clear FIN
    refine till_one 5 (by kernel_rfl) rfl (fun K hK => ?_)
    go_simp
    refine hK.out _ _ (Or.inr HSe) ?_
    clear hK K
    try simp only [Act.put, List.setIfInBounds_toArray, List.set_cons_zero, List.set_cons_succ]
    refine till_one 6 (by kernel_rfl) rfl (fun K hK => ?_)
    go_simp
    refine hK.out _ _ (Or.inl rfl) ?_
    clear hK K
    try simp only [Act.put, List.setIfInBounds_toArray, List.set_cons_zero, List.set_cons_succ]
    refine till_done (by kernel_rfl) ?_ _
    go_wp2_with fail
    go_ret2
    have h := unhide HFIN _ rfl
    first | exact h | (rw [hg] at h; exact h)

end Go.Proofs.YtjgjebohbgbimaaDoor
