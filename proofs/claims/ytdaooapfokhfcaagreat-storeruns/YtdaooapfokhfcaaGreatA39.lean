/-
  The document's store: weight, copied, Weight, Entries; conditions: the form's own reach.
-/
import Derived.Test.YtdaooapfokhfcaaGreatA36
import Derived.Test.YtdaooapfokhfcaaGreatA38
namespace Go.Proofs.YtdaooapfokhfcaaGreat
open Go.RowKit
set_option linter.unusedVariables false
set_option linter.unusedSimpArgs false

theorem tot_take_next (es : List En) (i : Nat) (p : En) (h : es[i]? = some p) : tot (es.take (i + 1)) = tot (es.take i) + ew p := by
  rw [List.take_add_one, h]
  unfold tot
  rw [List.map_append, List.sum_append]
  simp
theorem tot_take_le (es : List En) (i : Nat) : tot (es.take i) ≤ tot es := by
  have h := List.take_append_drop i es
  have : tot es = tot (es.take i) + tot (es.drop i) := by
    unfold tot
    rw [← List.sum_append, ← List.map_append, h]
  omega

/-- what weight answers: no more than one more than may be -/
def wgE (W : Nat) (es : List En) : Prop := (W ≤ 32768 → W = tot es) ∧ (32768 < W → 32768 < tot es) ∧ W ≤ 40000

set_option maxRecDepth 100000 in
set_option maxHeartbeats 1000000 in
theorem rweight_any (es : List En) (al : Option Addr) (n cl : Nat) (w : World) (hn : es.length = n) (hE : IsE w (fun b => b < w.heap.size) es al cl) (hk : ∀ p ∈ es, p.1.size ≤ 32) :
    Calls Tryz.prog 52 #[.slice al n cl] w fun e w' => ∃ W : Nat, e = .returned (.int .i64 (W : Int)) ∧ wgE W es ∧ Below w.heap.size w w' := by
  have hl := hE.len
  rw [hn] at hl
  obtain ⟨hcl, hnb, haln⟩ := hl
  have HE : Hid (∀ u, Below w.heap.size w u → IsE u (fun b => b < w.heap.size) es al cl) := hide (fun u hu => hE.later hu)
  have HN := hide (And.intro hn hk)
  clear hE hn hk
  go_enter Tryz.func52, Tryz.ntmps52
  go_wp2_with fail
  go_loopw [3, 4] (fun y x wr => ∃ (i W : Nat), y = .int .i64 (W : Int) ∧ x = .int .i64 (i : Int) ∧ i ≤ n ∧ W ≤ 40000 ∧ Hid (W = tot (es.take i) ∧ Below w.heap.size w wr)) (fun _ x _ => n - (intOf x).toNat)
  case atStart => exact ⟨0, 0, rfl, rfl, Nat.zero_le _, by omega, hide ⟨rfl, Below.refl _ _⟩⟩
  case round =>
    obtain ⟨i, W, rfl, rfl, hi, hW, HR⟩ := hrel
    by_cases hlt : i < n
    · have i1 : (i : Int) < (n : Int) := by omega
      have i0 : (0 : Int) ≤ (i : Int) := by omega
      by_cases hWm : W ≤ 32768
      · have g1 : (W : Int) ≤ 32768 := by omega
        obtain ⟨⟨k, v⟩, hp⟩ : ∃ p, es[i]? = some p := ⟨_, List.getElem?_eq_getElem (by have := (unhide HN).1; omega)⟩
        obtain ⟨a, z0, z1, z2, al', ak', ll', m', cl', ck', rfl, hbl, hks, hc, hpv⟩ := (unhide HE wr (unhide HR).2).elem i _ hp
        dsimp only at hc hpv
        have hk32 : k.size ≤ 32 := (unhide HN).2 _ (List.mem_of_getElem? hp)
        have hwt := wt0_le v
        obtain ⟨ks, hkse⟩ : ∃ ks, k.size = ks := ⟨_, rfl⟩
        obtain ⟨vw, hvw⟩ : ∃ vw, wt0 v = vw := ⟨_, rfl⟩
        have HC : Hid (∀ u, Below w.heap.size w u → u.cell? (a.add (i * 6)) = some (.string k) ∧ u.cell? ⟨(a.add (i * 6)).block, (a.add (i * 6)).off + 1, none⟩ = some (.int .i64 z0) ∧ u.cell? ⟨(a.add (i * 6)).block, (a.add (i * 6)).off + 2, none⟩ = some (.int .i64 z1) ∧ u.cell? ⟨(a.add (i * 6)).block, (a.add (i * 6)).off + 3, none⟩ = some (.string z2) ∧ u.cell? ⟨(a.add (i * 6)).block, (a.add (i * 6)).off + 4, none⟩ = some (.slice al' ll' cl') ∧ u.cell? ⟨(a.add (i * 6)).block, (a.add (i * 6)).off + 5, none⟩ = some (.slice ak' m' ck')) := hide (fun u hu => by
          have hq : ∀ j v, [Value.string k, .int .i64 z0, .int .i64 z1, .string z2, .slice al' ll' cl', .slice ak' m' ck'][j]? = some v → u.cell? ((a.add (i * 6)).add j) = some v := fun j v hv => by
            have e : u.cell? ((a.add (i * 6)).add j) = wr.cell? ((a.add (i * 6)).add j) := World.cell?_of_block (by
              rw [block_add, block_add]
              exact (hu.block _ hbl).trans ((unhide HR).2.block _ hbl).symm)
            rw [e]
            exact hc j v hv
          exact ⟨hq 0 _ rfl, hq 1 _ rfl, hq 2 _ rfl, hq 3 _ rfl, hq 4 _ rfl, hq 5 _ rfl⟩)
        have CW : Hid (Calls Tryz.prog 85 #[.agg #[.int .i64 z0, .int .i64 z1, .string z2, .slice al' ll' cl', .slice ak' m' ck']] wr.drew fun e w' => e = .returned (.int .i64 (vw : Int)) ∧ Below wr.drew.heap.size wr.drew w') := hide (by
          have hb0 : Below wr.heap.size wr wr.drew := (Below.refl _ _).drew
          rw [← hvw]
          exact weight_ref v _ w.heap.size wr.drew (IsV.mono (hb0.mono (unhide HR).2.size) hpv) (Nat.le_trans (unhide HR).2.size hb0.size))
        have HT : Hid (W + 1 + ks + vw = tot (es.take (i + 1))) := hide (by
          rw [tot_take_next es i _ hp, ← (unhide HR).1, ← hkse, ← hvw]
          show _ = W + (1 + k.size + wt0 v)
          omega)
        rw [hkse] at hk32
        rw [hvw] at hwt
        have HKS := hide hkse
        clear hc hpv hbl hks hp hkse hvw
        go_upto_region 5 with fail
        have w1 : IntKind.i64.wrap ((W : Int) + 1) = ((W + 1 : Nat) : Int) := by rw [IntKind.wrap_i64]; omega
        have w2 : IntKind.i64.wrap (((W + 1 : Nat) : Int) + (ks : Int)) = ((W + 1 + ks : Nat) : Int) := by rw [IntKind.wrap_i64]; omega
        have w3 : IntKind.i64.wrap (((W + 1 + ks : Nat) : Int) + (vw : Int)) = ((W + 1 + ks + vw : Nat) : Int) := by rw [IntKind.wrap_i64]; omega
        refine wp_region_held_drew (S := fun w' => Below w.heap.size w w') (by kernel_rfl) ((unhide HR).2.drew) (fun hH => ?_)
        refine take_at 0 (v := .int .i64 (W : Int)) (some 15) rfl rfl (by kernel_rfl) (by kernel_rfl) (by kernel_rfl) (fun _ _ _ h => h) (Or.inl ⟨by rfl, fun u hu => by go_simp⟩) hH ?_
        try simp only [Act.put, List.setIfInBounds_toArray, List.set_cons_zero, List.set_cons_succ]
        refine take_at 1 (v := .int .i64 ((W + 1 : Nat) : Int)) (some 16) rfl rfl (by kernel_rfl) (by kernel_rfl) (by kernel_rfl) (fun _ _ _ h => h) (Or.inl ⟨by rfl, fun u hu => by go_simp; first | done | (rw [IntKind.wrap_i64]; omega)⟩) hH ?_
        try simp only [Act.put, List.setIfInBounds_toArray, List.set_cons_zero, List.set_cons_succ]
        refine take_at 2 (v := .slice (some a) n cl) (some 17) rfl rfl (by kernel_rfl) (by kernel_rfl) (by kernel_rfl) (fun _ _ _ h => h) (Or.inl ⟨by rfl, fun u hu => by go_simp⟩) hH ?_
        try simp only [Act.put, List.setIfInBounds_toArray, List.set_cons_zero, List.set_cons_succ]
        refine take_at 3 (v := .int .i64 (i : Int)) (some 18) rfl rfl (by kernel_rfl) (by kernel_rfl) (by kernel_rfl) (fun _ _ _ h => h) (Or.inl ⟨by rfl, fun u hu => by go_simp⟩) hH ?_
        try simp only [Act.put, List.setIfInBounds_toArray, List.set_cons_zero, List.set_cons_succ]
        refine take_at 4 (v := .pointer (some (a.add (i * 6)))) (some 19) rfl rfl (by kernel_rfl) (by kernel_rfl) (by kernel_rfl) (fun _ _ _ h => h) (Or.inl ⟨by rfl, fun u hu => by go_simp⟩) hH ?_
        try simp only [Act.put, List.setIfInBounds_toArray, List.set_cons_zero, List.set_cons_succ]
        refine take_at 5 (v := .pointer (some (a.add (i * 6)))) (some 20) rfl rfl (by kernel_rfl) (by kernel_rfl) (by kernel_rfl) (fun _ _ _ h => h) (Or.inl ⟨by rfl, fun u hu => by go_simp⟩) hH ?_
        try simp only [Act.put, List.setIfInBounds_toArray, List.set_cons_zero, List.set_cons_succ]
        refine take_at 6 (v := .string k) (some 21) rfl rfl (by kernel_rfl) (by kernel_rfl) (by kernel_rfl) (fun _ _ _ h => h) (Or.inl ⟨by rfl, fun u hu => by obtain ⟨q0, q1, q2, q3, q4, q5⟩ := unhide HC u hu; go_simp⟩) hH ?_
        try simp only [Act.put, List.setIfInBounds_toArray, List.set_cons_zero, List.set_cons_succ]
        refine take_at 7 (v := .int .i64 (ks : Int)) (some 22) rfl rfl (by kernel_rfl) (by kernel_rfl) (by kernel_rfl) (fun _ _ _ h => h) (Or.inl ⟨by rfl, fun u hu => by go_simp; try rw [unhide HKS]⟩) hH ?_
        try simp only [Act.put, List.setIfInBounds_toArray, List.set_cons_zero, List.set_cons_succ]
        refine take_at 8 (v := .int .i64 ((W + 1 + ks : Nat) : Int)) (some 23) rfl rfl (by kernel_rfl) (by kernel_rfl) (by kernel_rfl) (fun _ _ _ h => h) (Or.inl ⟨by rfl, fun u hu => by go_simp; first | done | (rw [IntKind.wrap_i64]; omega)⟩) hH ?_
        try simp only [Act.put, List.setIfInBounds_toArray, List.set_cons_zero, List.set_cons_succ]
        refine take_at 9 (v := .slice (some a) n cl) (some 24) rfl rfl (by kernel_rfl) (by kernel_rfl) (by kernel_rfl) (fun _ _ _ h => h) (Or.inl ⟨by rfl, fun u hu => by go_simp⟩) hH ?_
        try simp only [Act.put, List.setIfInBounds_toArray, List.set_cons_zero, List.set_cons_succ]
        refine take_at 10 (v := .int .i64 (i : Int)) (some 25) rfl rfl (by kernel_rfl) (by kernel_rfl) (by kernel_rfl) (fun _ _ _ h => h) (Or.inl ⟨by rfl, fun u hu => by go_simp⟩) hH ?_
        try simp only [Act.put, List.setIfInBounds_toArray, List.set_cons_zero, List.set_cons_succ]
        refine take_at 11 (v := .pointer (some (a.add (i * 6)))) (some 26) rfl rfl (by kernel_rfl) (by kernel_rfl) (by kernel_rfl) (fun _ _ _ h => h) (Or.inl ⟨by rfl, fun u hu => by go_simp⟩) hH ?_
        try simp only [Act.put, List.setIfInBounds_toArray, List.set_cons_zero, List.set_cons_succ]
        refine take_at 12 (v := .pointer (some ⟨(a.add (i * 6)).block, (a.add (i * 6)).off + 1, none⟩)) (some 27) rfl rfl (by kernel_rfl) (by kernel_rfl) (by kernel_rfl) (fun _ _ _ h => h) (Or.inl ⟨by rfl, fun u hu => by go_simp⟩) hH ?_
        try simp only [Act.put, List.setIfInBounds_toArray, List.set_cons_zero, List.set_cons_succ]
        refine take_at 13 (v := .agg #[.int .i64 z0, .int .i64 z1, .string z2, .slice al' ll' cl', .slice ak' m' ck']) (some 28) rfl rfl (by kernel_rfl) (by kernel_rfl) (by kernel_rfl) (fun _ _ _ h => h) (Or.inl ⟨by rfl, fun u hu => by obtain ⟨q0, q1, q2, q3, q4, q5⟩ := unhide HC u hu; go_simp⟩) hH ?_
        try simp only [Act.put, List.setIfInBounds_toArray, List.set_cons_zero, List.set_cons_succ]
        refine wpAnyH_ready (rs := [14]) (by kernel_rfl) (by simp) ?_
        refine AllReadyH.cons rfl (fun KK hKK => ?_) AllReadyH.nil
        go_simp
        refine (unhide CW).mono ?_
        rintro e W3 ⟨rfl, b3⟩
        have S3 : Below w.heap.size w W3 := (unhide HR).2.trans ((below_drew_of' b3).mono (unhide HR).2.size)
        clear b3 CW
        go_wp2_with fail
        refine hKK.out _ _ (S3) (fun hH3 => ?_)
        clear hKK KK S3
        try simp only [Act.put, List.setIfInBounds_toArray, List.set_cons_zero, List.set_cons_succ]
        refine take_at 15 (v := .int .i64 ((W + 1 + ks + vw : Nat) : Int)) (some 30) rfl rfl (by kernel_rfl) (by kernel_rfl) (by kernel_rfl) (fun _ _ _ h => h) (Or.inl ⟨by rfl, fun u hu => by go_simp; first | done | (rw [IntKind.wrap_i64]; omega)⟩) hH3 ?_
        try simp only [Act.put, List.setIfInBounds_toArray, List.set_cons_zero, List.set_cons_succ]
        refine take_at 16 (v := .int .i64 ((W + 1 + ks + vw : Nat) : Int)) (some 3) rfl rfl (by kernel_rfl) (by kernel_rfl) (by kernel_rfl) (fun _ _ _ h => h) (Or.inl ⟨by rfl, fun u hu => by go_simp⟩) hH3 ?_
        try simp only [Act.put, List.setIfInBounds_toArray, List.set_cons_zero, List.set_cons_succ]
        refine wpAnyH_done (by kernel_rfl) ?_ _
        have HS5 := hide hH3
        have HB : Hid (W + 1 + ks + vw ≤ 40000 ∧ i + 1 ≤ n) := hide ⟨by omega, by omega⟩
        clear hH hH3 HC w1 w2 w3
        go_wp2_with fail
        go_roundw
        case rel => exact ⟨i + 1, W + 1 + ks + vw, rfl, by go_num, (unhide HB).2, (unhide HB).1, hide ⟨unhide HT, unhide HS5⟩⟩
        case measure => have := (unhide HB).2; simp [intOf]; omega
      · have g1 : ¬ (W : Int) ≤ 32768 := by omega
        have HF : Hid (wgE W es) := hide ⟨fun h => absurd h hWm, fun h => by have := tot_take_le es i; have := (unhide HR).1; omega, hW⟩
        go_wp2_with fail
        go_ret
        first | exact ⟨W, rfl, unhide HF, (unhide HR).2⟩ | exact ⟨W, by simp, unhide HF, (unhide HR).2⟩
    · have i1 : ¬ (i : Int) < (n : Int) := by omega
      have HF : Hid (wgE W es) := hide (by
        have h1 := (unhide HR).1
        rw [List.take_of_length_le (by have := (unhide HN).1; omega)] at h1
        exact ⟨fun _ => h1, fun h => by omega, hW⟩)
      go_wp2_with fail
      go_ret
      first | exact ⟨W, rfl, unhide HF, (unhide HR).2⟩ | exact ⟨W, by simp, unhide HF, (unhide HR).2⟩

/-- entries that came out, one more, by the document's own copied -/
theorem infoEr : (Tryz.prog.info? 77).map (fun i => (i.zero, i.size, i.bytes)) = some (some (.agg #[.string ⟨#[]⟩, .int .i64 0, .int .i64 0, .string ⟨#[]⟩, .slice none 0 0, .slice none 0 0]), 6, 96) := by kernel_rfl

set_option maxRecDepth 100000 in
set_option maxHeartbeats 1000000 in
theorem rcopied_any (es : List En) (al : Option Addr) (n cl : Nat) (w : World) (hn : es.length = n) (hE : IsE w (fun b => b < w.heap.size) es al cl) (hr : ∀ p ∈ es, rightB p.2 = true) :
    Calls Tryz.prog 53 #[.slice al n cl] w fun e w' => ∃ sv xs, e = .returned sv ∧ mapK Prod.snd xs = es ∧ EnO w' w.heap.size sv xs ∧ Below w.heap.size w w' := by
  have hl := hE.len
  rw [hn] at hl
  obtain ⟨hcl, -, haln⟩ := hl
  have hnb : 96 * n ≤ 140737488351232 := by
    obtain ⟨V, hV⟩ := hE
    have := hV.bl
    omega
  have HE : Hid (∀ u, Below w.heap.size w u → IsE u (fun b => b < w.heap.size) es al cl) := hide (fun u hu => hE.later hu)
  have HN := hide (And.intro hn hr)
  obtain ⟨iv, hiv, hz0, hz1, hz2⟩ := info_parts infoEr
  have HI := hide (And.intro hiv (And.intro hz0 (And.intro hz1 hz2)))
  have H1 : Hid (EnO w w.heap.size (.slice none 0 0) [] ∧ mapK Prod.snd ([] : List (ByteArray × (ThV × Vl))) = es.take 0 ∧ ([] : List (ByteArray × (ThV × Vl))).length = 0 ∧ Below w.heap.size w w) := hide ⟨EnO.nil _ _, rfl, rfl, Below.refl _ _⟩
  clear hE hn hr hiv hz0 hz1 hz2
  go_enter Tryz.func53, Tryz.ntmps53
  go_wp2_with fail
  go_loopw [3, 4] (fun y x wr => ∃ (i : Nat) (so : Option Addr) (sc : Nat) (xs : List (ByteArray × (ThV × Vl))), y = .slice so i sc ∧ x = .int .i64 (i : Int) ∧ i ≤ n ∧ Hid (EnO wr w.heap.size (.slice so i sc) xs ∧ mapK Prod.snd xs = es.take i ∧ xs.length = i ∧ Below w.heap.size w wr)) (fun _ x _ => n - (intOf x).toNat)
  case atStart => exact ⟨0, _, _, [], rfl, rfl, Nat.zero_le _, H1⟩
  case round =>
    obtain ⟨i, so, sc, xs, rfl, rfl, hi, HR⟩ := hrel
    clear H1
    by_cases hlt : i < n
    · have i1 : (i : Int) < (n : Int) := by omega
      have i0 : (0 : Int) ≤ (i : Int) := by omega
      obtain ⟨⟨k, v⟩, hp⟩ : ∃ p, es[i]? = some p := ⟨_, List.getElem?_eq_getElem (by have := (unhide HN).1; omega)⟩
      obtain ⟨a, z0, z1, z2, al', ak', ll', m', cl', ck', rfl, hbl, hks, hc, hpv⟩ := (unhide HE wr (unhide HR).2.2.2).elem i _ hp
      dsimp only at hc hpv
      have HC : Hid (∀ u, Below w.heap.size w u → u.cell? (a.add (i * 6)) = some (.string k) ∧ u.cell? ⟨(a.add (i * 6)).block, (a.add (i * 6)).off + 1, none⟩ = some (.int .i64 z0) ∧ u.cell? ⟨(a.add (i * 6)).block, (a.add (i * 6)).off + 2, none⟩ = some (.int .i64 z1) ∧ u.cell? ⟨(a.add (i * 6)).block, (a.add (i * 6)).off + 3, none⟩ = some (.string z2) ∧ u.cell? ⟨(a.add (i * 6)).block, (a.add (i * 6)).off + 4, none⟩ = some (.slice al' ll' cl') ∧ u.cell? ⟨(a.add (i * 6)).block, (a.add (i * 6)).off + 5, none⟩ = some (.slice ak' m' ck')) := hide (fun u hu => by
        have hq : ∀ j v, [Value.string k, .int .i64 z0, .int .i64 z1, .string z2, .slice al' ll' cl', .slice ak' m' ck'][j]? = some v → u.cell? ((a.add (i * 6)).add j) = some v := fun j v hv => by
          have e : u.cell? ((a.add (i * 6)).add j) = wr.cell? ((a.add (i * 6)).add j) := World.cell?_of_block (by
            rw [block_add, block_add]
            exact (hu.block _ hbl).trans ((unhide HR).2.2.2.block _ hbl).symm)
          rw [e]
          exact hc j v hv
        exact ⟨hq 0 _ rfl, hq 1 _ rfl, hq 2 _ rfl, hq 3 _ rfl, hq 4 _ rfl, hq 5 _ rfl⟩)
      have CC : Hid (Calls Tryz.prog 69 #[.agg #[.int .i64 z0, .int .i64 z1, .string z2, .slice al' ll' cl', .slice ak' m' ck']] wr.drew fun e w' => ∃ d : ThV, e = .returned (.agg (thV d).toArray) ∧ Below wr.heap.size wr w' ∧ IsQ w' (fun b => wr.heap.size ≤ b ∧ b < w'.heap.size) v (.agg (thV d).toArray)) := hide (by
        have hb0 : Below wr.heap.size wr wr.drew := (Below.refl _ _).drew
        have hv0 : IsV wr.drew w.heap.size v (.agg #[.int .i64 z0, .int .i64 z1, .string z2, .slice al' ll' cl', .slice ak' m' ck']) := IsV.mono (hb0.mono (unhide HR).2.2.2.size) hpv
        refine (copyD_any v _ w.heap.size wr.drew hv0 (Nat.le_trans (unhide HR).2.2.2.size hb0.size)).mono ?_
        rintro e w' ⟨x', rfl, b, q, -⟩
        have hq := q ((unhide HN).2 _ (List.mem_of_getElem? hp))
        obtain ⟨d, rfl⟩ := isP_th hq.1
        exact ⟨d, rfl, hb0.trans (b.mono hb0.size), hq⟩)
      obtain ⟨CS, hCS⟩ : ∃ CS, cellsV (mapK Prod.fst xs) = CS := ⟨_, rfl⟩
      have HOW : Hid (∀ u, Below wr.heap.size wr u → u.ownsRow w.heap.size 77 6 (.slice so i sc) i CS) := hide (fun u hu => by
        have := ((unhide HR).1.later hu).row
        rw [(unhide HR).2.2.1, hCS] at this
        exact this)
      have HX := hide (And.intro hp hCS)
      clear hc hpv hbl hks hp hCS
      go_upto_region 5 with fail
      refine wp_region_held_drew (S := fun w' => Below w.heap.size w w') (by kernel_rfl) ((unhide HR).2.2.2.drew) (fun hH => ?_)
      refine take_at 0 (v := .slice so i sc) (some 11) rfl rfl (by kernel_rfl) (by kernel_rfl) (by kernel_rfl) (fun _ _ _ h => h) (Or.inl ⟨by rfl, fun u hu => by go_simp⟩) hH ?_
      try simp only [Act.put, List.setIfInBounds_toArray, List.set_cons_zero, List.set_cons_succ]
      refine take_at 1 (v := .slice (some a) n cl) (some 12) rfl rfl (by kernel_rfl) (by kernel_rfl) (by kernel_rfl) (fun _ _ _ h => h) (Or.inl ⟨by rfl, fun u hu => by go_simp⟩) hH ?_
      try simp only [Act.put, List.setIfInBounds_toArray, List.set_cons_zero, List.set_cons_succ]
      refine take_at 2 (v := .int .i64 (i : Int)) (some 13) rfl rfl (by kernel_rfl) (by kernel_rfl) (by kernel_rfl) (fun _ _ _ h => h) (Or.inl ⟨by rfl, fun u hu => by go_simp⟩) hH ?_
      try simp only [Act.put, List.setIfInBounds_toArray, List.set_cons_zero, List.set_cons_succ]
      refine take_at 3 (v := .pointer (some (a.add (i * 6)))) (some 14) rfl rfl (by kernel_rfl) (by kernel_rfl) (by kernel_rfl) (fun _ _ _ h => h) (Or.inl ⟨by rfl, fun u hu => by go_simp⟩) hH ?_
      try simp only [Act.put, List.setIfInBounds_toArray, List.set_cons_zero, List.set_cons_succ]
      refine take_at 4 (v := .pointer (some (a.add (i * 6)))) (some 15) rfl rfl (by kernel_rfl) (by kernel_rfl) (by kernel_rfl) (fun _ _ _ h => h) (Or.inl ⟨by rfl, fun u hu => by go_simp⟩) hH ?_
      try simp only [Act.put, List.setIfInBounds_toArray, List.set_cons_zero, List.set_cons_succ]
      refine take_at 5 (v := .string k) (some 16) rfl rfl (by kernel_rfl) (by kernel_rfl) (by kernel_rfl) (fun _ _ _ h => h) (Or.inl ⟨by rfl, fun u hu => by obtain ⟨q0, q1, q2, q3, q4, q5⟩ := unhide HC u hu; go_simp⟩) hH ?_
      try simp only [Act.put, List.setIfInBounds_toArray, List.set_cons_zero, List.set_cons_succ]
      refine take_at 6 (v := .slice (some a) n cl) (some 17) rfl rfl (by kernel_rfl) (by kernel_rfl) (by kernel_rfl) (fun _ _ _ h => h) (Or.inl ⟨by rfl, fun u hu => by go_simp⟩) hH ?_
      try simp only [Act.put, List.setIfInBounds_toArray, List.set_cons_zero, List.set_cons_succ]
      refine take_at 7 (v := .int .i64 (i : Int)) (some 18) rfl rfl (by kernel_rfl) (by kernel_rfl) (by kernel_rfl) (fun _ _ _ h => h) (Or.inl ⟨by rfl, fun u hu => by go_simp⟩) hH ?_
      try simp only [Act.put, List.setIfInBounds_toArray, List.set_cons_zero, List.set_cons_succ]
      refine take_at 8 (v := .pointer (some (a.add (i * 6)))) (some 19) rfl rfl (by kernel_rfl) (by kernel_rfl) (by kernel_rfl) (fun _ _ _ h => h) (Or.inl ⟨by rfl, fun u hu => by go_simp⟩) hH ?_
      try simp only [Act.put, List.setIfInBounds_toArray, List.set_cons_zero, List.set_cons_succ]
      refine take_at 9 (v := .pointer (some ⟨(a.add (i * 6)).block, (a.add (i * 6)).off + 1, none⟩)) (some 20) rfl rfl (by kernel_rfl) (by kernel_rfl) (by kernel_rfl) (fun _ _ _ h => h) (Or.inl ⟨by rfl, fun u hu => by go_simp⟩) hH ?_
      try simp only [Act.put, List.setIfInBounds_toArray, List.set_cons_zero, List.set_cons_succ]
      refine take_at 10 (v := .agg #[.int .i64 z0, .int .i64 z1, .string z2, .slice al' ll' cl', .slice ak' m' ck']) (some 21) rfl rfl (by kernel_rfl) (by kernel_rfl) (by kernel_rfl) (fun _ _ _ h => h) (Or.inl ⟨by rfl, fun u hu => by obtain ⟨q0, q1, q2, q3, q4, q5⟩ := unhide HC u hu; go_simp⟩) hH ?_
      try simp only [Act.put, List.setIfInBounds_toArray, List.set_cons_zero, List.set_cons_succ]
      refine wpAnyH_ready (rs := [11]) (by kernel_rfl) (by simp) ?_
      refine AllReadyH.cons rfl (fun KK hKK => ?_) AllReadyH.nil
      go_simp
      refine (unhide CC).mono ?_
      rintro e W3 ⟨⟨d0, d1, d2, d3, d4, d5, d6, d7, d8⟩, rfl, b3, f3⟩
      dsimp only [thV] at f3 ⊢
      have H3 := hide (And.intro b3 f3)
      have S3 : Below w.heap.size w W3 := (unhide HR).2.2.2.trans (b3.mono (unhide HR).2.2.2.size)
      clear b3 f3 CC
      go_wp2_with fail
      refine hKK.out _ _ (S3) (fun hH3 => ?_)
      clear hKK KK S3
      try simp only [Act.put, List.setIfInBounds_toArray, List.set_cons_zero, List.set_cons_succ]
      refine take_at 12 (v := .agg #[.string k, .int .i64 d0, .int .i64 d1, .string d2, .slice d3 d4 d5, .slice d6 d7 d8]) (some 23) rfl rfl (by kernel_rfl) (by kernel_rfl) (by kernel_rfl) (fun _ _ _ h => h) (Or.inl ⟨by rfl, fun u hu => by go_simp⟩) hH3 ?_
      try simp only [Act.put, List.setIfInBounds_toArray, List.set_cons_zero, List.set_cons_succ]
      refine wpAnyH_ready (rs := [13]) (by kernel_rfl) (by simp) ?_
      refine AllReadyH.cons rfl (fun KK hKK => ?_) AllReadyH.nil
      go_simp
      obtain ⟨W4, hW4⟩ : ∃ W4, W3.alloc (.cells #[.string k, .int .i64 d0, .int .i64 d1, .string d2, .slice d3 d4 d5, .slice d6 d7 d8] 77) = W4 := ⟨_, rfl⟩
      have X4 : Below W3.heap.size W3 W4 := by rw [← hW4]; exact (Below.refl _ _).alloc (Nat.le_refl _) _
      have at4 : W4.heap[W3.heap.size]? = some (.cells #[.string k, .int .i64 d0, .int .i64 d1, .string d2, .slice d3 d4 d5, .slice d6 d7 d8] 77 (0, 0)) := by rw [← hW4]; exact heap_alloc_new W3 _
      rw [hW4]
      have H4 : Hid (Below wr.heap.size wr W4 ∧ IsQ W4 (fun b => wr.heap.size ≤ b ∧ b < W4.heap.size) v (.agg #[.int .i64 d0, .int .i64 d1, .string d2, .slice d3 d4 d5, .slice d6 d7 d8])) := hide ⟨(unhide H3).1.trans (X4.mono (unhide H3).1.size), (unhide H3).2.to (fun b hb => X4.block b hb.2) (fun b hb => ⟨hb.1, Nat.lt_of_lt_of_le hb.2 X4.size⟩)⟩
      obtain ⟨h3s, hh3s⟩ : ∃ h3s, W3.heap.size = h3s := ⟨_, rfl⟩
      rw [hh3s] at at4 ⊢
      have S4 : Below w.heap.size w W4 := hH3.trans (X4.mono hH3.size)
      refine hKK.out _ _ (S4) (fun hH4 => ?_)
      clear hKK KK S4 X4 hW4 hh3s H3
      try simp only [Act.put, List.setIfInBounds_toArray, List.set_cons_zero, List.set_cons_succ]
      refine wpAnyH_ready (rs := [14]) (by kernel_rfl) (by simp) ?_
      refine AllReadyH.cons rfl (fun KK hKK => ?_) AllReadyH.nil
      refine step_append_lies _ (by rfl) _ _ 38 (by rfl) w.heap.size 77 iv (.agg #[.string ⟨#[]⟩, .int .i64 0, .int .i64 0, .string ⟨#[]⟩, .slice none 0 0, .slice none 0 0]) 6 96 Tryz.underlying38 (unhide HI).1 (unhide HI).2.1 (unhide HI).2.2.1 (unhide HI).2.2.2 rfl (by omega) (.slice so i sc) i CS (by rfl) (unhide HOW W4 (unhide H4).1) ⟨h3s, 0, none⟩ 1 1 [.string k, .int .i64 d0, .int .i64 d1, .string d2, .slice d3 d4 d5, .slice d6 d7 d8] (by rfl) (by rfl) (World.news_of_block at4) (by simp [Value.oneCell']) (by omega) (by unfold maxLen; omega) (by omega) hH4.size _ rfl ?_
      intro g5 cap5 W5 hown5 hgrow5 hat5 hlt5
      change KK (Act.put _ (some 25) _) W5
      have S5 : Below w.heap.size w W5 := hH4.grown hgrow5 hH4.size (fun q hq => ((unhide HOW W4 (unhide H4).1).lt q hq).1)
      have H5 := hide (And.intro hown5 (And.intro hgrow5 hat5))
      refine hKK.out _ _ (S5) (fun hH5 => ?_)
      clear hKK KK S5 hown5 hgrow5 hat5 hlt5 at4
      try simp only [Act.put, List.setIfInBounds_toArray, List.set_cons_zero, List.set_cons_succ]
      refine take_at 15 (v := .slice (some ⟨g5, 0, none⟩) (i + 1) cap5) (some 3) rfl rfl (by kernel_rfl) (by kernel_rfl) (by kernel_rfl) (fun _ _ _ h => h) (Or.inl ⟨by rfl, fun u hu => by go_simp⟩) hH5 ?_
      try simp only [Act.put, List.setIfInBounds_toArray, List.set_cons_zero, List.set_cons_succ]
      refine wpAnyH_done (by kernel_rfl) ?_ _
      have HS5 := hide hH5
      clear hH hH3 hH4 hH5
      have HN5 : Hid (EnO W5 w.heap.size (.slice (some ⟨g5, 0, none⟩) (i + 1) cap5) (xs ++ [(k, ((d0, d1, d2, d3, d4, d5, d6, d7, d8), v))]) ∧ mapK Prod.snd (xs ++ [(k, ((d0, d1, d2, d3, d4, d5, d6, d7, d8), v))]) = es.take (i + 1) ∧ (xs ++ [(k, ((d0, d1, d2, d3, d4, d5, d6, d7, d8), v))]).length = i + 1 ∧ Below w.heap.size w W5) := hide (by
        obtain ⟨r1, r2, r3, r4⟩ := unhide HR
        obtain ⟨o5, g5', a5⟩ := unhide H5
        obtain ⟨b4, f4⟩ := unhide H4
        refine ⟨r1.push r3 b4 r4.size f4 (by rw [(unhide HX).2]; exact o5) g5' a5, ?_, by simp [r3], unhide HS5⟩
        rw [mapK_snoc, r2, List.take_add_one, (unhide HX).1]
        rfl)
      have HI1 : Hid (i + 1 ≤ n) := hide (by omega)
      clear H5 H4 HOW HC HX HS5
      go_wp2_with fail
      go_roundw
      case rel => exact ⟨i + 1, _, _, _, rfl, by go_num, unhide HI1, HN5⟩
      case measure => have := unhide HI1; simp [intOf]; omega
    · have i1 : ¬ (i : Int) < (n : Int) := by omega
      have HF : Hid (mapK Prod.snd xs = es) := hide (by
        have := (unhide HR).2.1
        rw [List.take_of_length_le (by have := (unhide HN).1; omega)] at this
        exact this)
      go_wp2_with fail
      go_ret
      first | exact ⟨_, xs, rfl, unhide HF, (unhide HR).1, (unhide HR).2.2.2⟩ | exact ⟨_, rfl, xs, unhide HF, (unhide HR).1, (unhide HR).2.2.2⟩

section
variable {w w' : World} {V V' : Nat → Prop} {t t' : Rx}

/-- its entries, as they lie -/
theorem Rto.isE (h : Rto w V t) (hl : t.lx.length ≤ 100000) (hk : ∀ p ∈ t.lx, p.1.size ≤ 140737488351232) : ∃ al cl, t.lv = .slice al t.lx.length cl ∧ IsE w (fun b => b < w.heap.size) t.X al cl := by
  have hlen : t.X.length = t.lx.length := mapK_len _ _
  obtain ⟨ao, cap, hlv, hcap, hmax, hnone, hplain, hsome⟩ := h.shape
  have hget : ∀ (i : Nat) (e : En), t.X[i]? = some e → ∃ p, t.lx[i]? = some p ∧ e = (p.1, p.2.2) := fun i e he => by
    unfold Rx.X mapK at he
    rw [List.getElem?_map] at he
    obtain ⟨p, hp, rfl⟩ := Option.map_eq_some_iff.1 he
    exact ⟨p, hp, rfl⟩
  refine ⟨ao, cap, hlv, fun i => match t.lx[i]? with | some p => thV p.2.1 | none => [], fun e => ⟨by rw [hlen]; exact (hnone e).1, (hnone e).2⟩, by rw [hlen]; exact hcap, by rw [hlen]; omega, ?_, ?_, ?_⟩
  · intro a ha i q hq
    obtain ⟨p, hp, rfl⟩ := hget i q hq
    obtain ⟨b, hb, hbl, hc⟩ := hsome i p hp
    rw [ha] at hb
    cases hb
    refine ⟨hbl, fun j v hv => ?_⟩
    rw [hp] at hv
    have := hc j v hv
    rw [add_offR, add_offR]
    simpa using this
  · intro q hq
    obtain ⟨p, hp, rfl⟩ := List.mem_map.1 hq
    exact hk p hp
  · intro i q hq
    obtain ⟨p, hp, rfl⟩ := hget i q hq
    rw [hp]
    exact ⟨rfl, (h.ok p (List.mem_of_getElem? hp)).isV (fun j hj => (h.vs j hj).1)⟩

set_option maxRecDepth 100000 in
theorem rentries_any (h : Rto w V t) (hl : t.lx.length ≤ 100000) (hk : ∀ p ∈ t.lx, p.1.size ≤ 32) (hr : ∀ p ∈ t.lx, rightB p.2.2 = true) : Calls Tryz.prog 37 #[.pointer (some ⟨t.r, 0, none⟩)] w fun e w' => ∃ sv xs, e = .returned sv ∧ mapK Prod.snd xs = t.X ∧ EnO w' w.heap.size sv xs ∧ Below w.heap.size w w' := by
  have c0 := h.c0
  obtain ⟨al, cl, hlv, hE⟩ := h.isE hl (fun p hp => by have := hk p hp; omega)
  have CC := hide (rcopied_any t.X al t.lx.length cl w (mapK_len _ _) hE (fun q hq => by
    obtain ⟨p, hp, rfl⟩ := List.mem_map.1 hq
    exact hr p hp))
  rw [hlv] at c0
  obtain ⟨X, hX⟩ : ∃ X, t.X = X := ⟨_, rfl⟩
  rw [hX] at CC ⊢
  clear h hlv hE hk hr hX
  obtain ⟨r, lv, lx, uv, us, mv, ms⟩ := t
  dsimp only at c0 CC ⊢
  go_enter Tryz.func37, Tryz.ntmps37
  go_wp2_with fail
  refine (unhide CC).mono ?_
  rintro e u1 ⟨sv, xs, rfl, e1, e2, b⟩
  have H1 := hide (And.intro e1 (And.intro e2 b))
  clear e1 e2 b CC
  go_wp2_with fail
  go_ret
  first | exact ⟨sv, xs, rfl, unhide H1⟩ | exact ⟨sv, rfl, xs, unhide H1⟩

set_option maxRecDepth 100000 in
theorem rweigh_any (h : Rto w V t) (hl : t.lx.length ≤ 100000) (hk : ∀ p ∈ t.lx, p.1.size ≤ 32) (hw : tot t.X ≤ 32768) : Calls Tryz.prog 39 #[.pointer (some ⟨t.r, 0, none⟩)] w fun e w' => e = .returned (.int .i64 (tot t.X : Int)) ∧ Below w.heap.size w w' := by
  have c0 := h.c0
  obtain ⟨al, cl, hlv, hE⟩ := h.isE hl (fun p hp => by have := hk p hp; omega)
  have CC := rweight_any t.X al t.lx.length cl w (mapK_len _ _) hE (fun q hq => by
    obtain ⟨p, hp, rfl⟩ := List.mem_map.1 hq
    exact hk p hp)
  have CC : Hid (Calls Tryz.prog 52 #[.slice al t.lx.length cl] w fun e w' => e = .returned (.int .i64 (tot t.X : Int)) ∧ Below w.heap.size w w') := hide (CC.mono (fun e w' hh => by
    obtain ⟨W, rfl, hg, b⟩ := hh
    refine ⟨?_, b⟩
    rw [hg.1 (Nat.le_of_not_lt (fun e => by have := hg.2.1 e; omega))]))
  rw [hlv] at c0
  clear h hlv hE hk hw
  obtain ⟨T, hT⟩ : ∃ T, tot t.X = T := ⟨_, rfl⟩
  rw [hT] at CC ⊢
  clear hT
  obtain ⟨r, lv, lx, uv, us, mv, ms⟩ := t
  dsimp only at c0 CC ⊢
  go_enter Tryz.func39, Tryz.ntmps39
  go_wp2_with fail
  refine (unhide CC).mono ?_
  rintro e u1 ⟨rfl, b⟩
  have H1 := hide b
  clear b CC
  go_wp2_with fail
  go_ret
  exact ⟨rfl, unhide H1⟩
end
end Go.Proofs.YtdaooapfokhfcaaGreat
