/-
  The walk of copies: entries in new memory; conditions: the form's own reach.
-/
import Derived.Test.YtdaooapfokhfcaaA37
import Derived.Test.YtdaooapfokhfcaaA40
namespace Go.Proofs.Ytdaooapfokhfcaa
open Go.RowKit
set_option linter.unusedVariables false
set_option linter.unusedSimpArgs false

/-- entries in new memory; values of many parts are as they were, below B -/
structure EnC (w : World) (lo B : Nat) (sv : Value) (es : List (ByteArray × (ThV × Vl))) : Prop where
  row : w.ownsRow lo 49 6 sv es.length (cellsV (mapK Prod.fst es))
  few : ∀ p ∈ es, fewB p.2.2 = true → IsQ w (fun b => lo ≤ b ∧ b < w.heap.size ∧ some b ≠ sv.ownBlock) p.2.2 (.agg (thV p.2.1).toArray)
  all : ∀ p ∈ es, IsP w (fun b => b < B ∨ (lo ≤ b ∧ b < w.heap.size ∧ some b ≠ sv.ownBlock)) p.2.2 (.agg (thV p.2.1).toArray)

theorem EnC.later {w w' : World} {lo B : Nat} {sv : Value} {es : List (ByteArray × (ThV × Vl))} (h : EnC w lo B sv es) (hB : B ≤ w.heap.size) (hb : Below w.heap.size w w') : EnC w' lo B sv es :=
  ⟨row_to h.row (fun b hb' => hb.block b (h.row.lt b hb').2), fun p hp hf => (h.few p hp hf).to (fun b hb' => hb.block b hb'.2.1) (fun b hb' => ⟨hb'.1, Nat.lt_of_lt_of_le hb'.2.1 hb.size, hb'.2.2⟩), fun p hp => (h.all p hp).to (fun b hb' => hb.block b (by
    rcases hb' with e | e
    · omega
    · exact e.2.1)) (fun b hb' => by
    rcases hb' with e | e
    · exact .inl e
    · exact .inr ⟨e.1, Nat.lt_of_lt_of_le e.2.1 hb.size, e.2.2⟩)⟩

theorem EnC.push {w w4 w5 : World} {lo B g cap n : Nat} {sv : Value} {es : List (ByteArray × (ThV × Vl))} {k : ByteArray} {c : ThV} {y : Vl} (h : EnC w lo B sv es) (hn : es.length = n) (hb : Below w.heap.size w w4) (hlo : lo ≤ w.heap.size) (hB : B ≤ lo)
    (hf : fewB y = true → IsQ w4 (fun b => w.heap.size ≤ b ∧ b < w4.heap.size) y (.agg (thV c).toArray)) (ha : IsP w4 (fun b => b < B ∨ (w.heap.size ≤ b ∧ b < w4.heap.size)) y (.agg (thV c).toArray))
    (ho : w5.ownsRow lo 49 6 (.slice (some ⟨g, 0, none⟩) (n + 1) cap) (n + 1) (cellsV (mapK Prod.fst es) ++ pcV (k, c))) (hg : w4.grownBy w5 sv.ownBlock) (hat : sv.ownBlock = some g ∨ g = w4.heap.size) :
    EnC w5 lo B (.slice (some ⟨g, 0, none⟩) (n + 1) cap) (es ++ [(k, (c, y))]) := by
  have h4 := h.later (Nat.le_trans hB hlo) hb
  have hl : (es ++ [(k, (c, y))]).length = n + 1 := by simp [hn]
  have hne : ∀ b, b < w4.heap.size → some b ≠ sv.ownBlock → some b ≠ (Value.slice (some ⟨g, 0, none⟩) (n + 1) cap).ownBlock := fun b h1 h2 e => by
    have e2 : b = g := by
      have : (Value.slice (some ⟨g, 0, none⟩) (n + 1) cap).ownBlock = some g := rfl
      rw [this] at e
      exact Option.some.inj e
    rcases hat with hat | hat
    · rw [e2] at h2
      exact h2 hat.symm
    · omega
  have hnb : ∀ b, w.heap.size ≤ b → some b ≠ sv.ownBlock := fun b h1 e => by
    have := (h.row.lt b e.symm).2
    omega
  have hnB : ∀ b, b < B → some b ≠ sv.ownBlock := fun b h1 e => by
    have := (h.row.lt b e.symm).1
    omega
  have hsz := hb.size
  refine ⟨?_, fun p hp => ?_, fun p hp => ?_⟩
  · rw [hl, mapK_snoc, cellsV_app]
    have e : cellsV [((k, (c, y)).1, Prod.fst (k, (c, y)).2)] = pcV (k, c) := by simp [cellsV]
    rw [e]
    exact ho
  · rcases List.mem_append.1 hp with hp | hp
    · exact fun hff => (h4.few p hp hff).to (fun b hb' => hg.block b hb'.2.1 hb'.2.2) (fun b hb' => ⟨hb'.1, Nat.lt_of_lt_of_le hb'.2.1 hg.size, hne b hb'.2.1 hb'.2.2⟩)
    · rw [List.mem_singleton] at hp
      subst hp
      exact fun hff => (hf hff).to (fun b hb' => hg.block b hb'.2 (hnb b hb'.1)) (fun b hb' => ⟨Nat.le_trans hlo hb'.1, Nat.lt_of_lt_of_le hb'.2 hg.size, hne b hb'.2 (hnb b hb'.1)⟩)
  · rcases List.mem_append.1 hp with hp | hp
    · refine (h4.all p hp).to (fun b hb' => ?_) (fun b hb' => ?_)
      · rcases hb' with e | e
        · exact hg.block b (by omega) (hnB b e)
        · exact hg.block b e.2.1 e.2.2
      · rcases hb' with e | e
        · exact .inl e
        · exact .inr ⟨e.1, Nat.lt_of_lt_of_le e.2.1 hg.size, hne b e.2.1 e.2.2⟩
    · rw [List.mem_singleton] at hp
      subst hp
      refine ha.to (fun b hb' => ?_) (fun b hb' => ?_)
      · rcases hb' with e | e
        · exact hg.block b (by omega) (hnB b e)
        · exact hg.block b e.2 (hnb b e.1)
      · rcases hb' with e | e
        · exact .inl e
        · exact .inr ⟨Nat.le_trans hlo e.1, Nat.lt_of_lt_of_le e.2 hg.size, hne b e.2 (hnb b e.1)⟩

/-- as they lie -/
theorem EnC.isE {w : World} {lo B : Nat} {sv : Value} {es : List (ByteArray × (ThV × Vl))} (h : EnC w lo B sv es) (hl : 96 * es.length ≤ 140737488351232) (hk : ∀ p ∈ es, p.1.size ≤ 140737488351232) : ∃ al cl, sv = .slice al es.length cl ∧ IsE w (fun b => b < B ∨ (lo ≤ b ∧ b < w.heap.size)) (mapK Prod.snd es) al cl := by
  have hlen : (mapK Prod.snd es).length = es.length := mapK_len _ _
  have hget : ∀ (i : Nat) (e : En), (mapK Prod.snd es)[i]? = some e → ∃ p, es[i]? = some p ∧ e = (p.1, p.2.2) := fun i e he => by
    unfold mapK at he
    rw [List.getElem?_map] at he
    obtain ⟨p, hp, rfl⟩ := Option.map_eq_some_iff.1 he
    exact ⟨p, hp, rfl⟩
  rcases h.row.2 with ⟨e, e2⟩ | ⟨b, cap, cur, e, hb, hg, hc, hm, hs, ht⟩
  · refine ⟨none, 0, by rw [e, e2], fun i => match es[i]? with | some p => thV p.2.1 | none => [], fun _ => ⟨by rw [hlen]; exact e2, rfl⟩, by rw [hlen, e2]; exact Nat.le_refl _, by rw [hlen]; exact hl, (fun a ha => by cases ha), ?_, fun i q hq => ?_⟩
    · intro q hq
      obtain ⟨p, hp, rfl⟩ := List.mem_map.1 hq
      exact hk p hp
    · obtain ⟨p, hp, rfl⟩ := hget i q hq
      have := (List.getElem?_eq_some_iff.1 hp).1
      omega
  · refine ⟨some ⟨b, 0, none⟩, cap, e, fun i => match es[i]? with | some p => thV p.2.1 | none => [], (fun e => by cases e), by rw [hlen]; exact hc, by rw [hlen]; exact hl, ?_, ?_, ?_⟩
    · intro a ha i q hq
      cases ha
      obtain ⟨p, hp, rfl⟩ := hget i q hq
      refine ⟨.inr ⟨hb, (Array.getElem?_eq_some_iff.1 hg).1⟩, fun j v hv => ?_⟩
      rw [hp] at hv
      have h1 : (mapK Prod.fst es)[i]? = some (p.1, p.2.1) := by unfold mapK; rw [List.getElem?_map, hp]; rfl
      have h2 := cellsV_at (mapK Prod.fst es) i _ h1 j v hv
      have h3 := h.row.cells (show sv.ownBlock = some b by rw [e]; rfl) _ _ h2
      have e4 : ((⟨b, 0, none⟩ : Addr).add (i * 6)).add j = (⟨b, 0, none⟩ : Addr).add (i * 6 + j) := by
        rw [add_offR, add_offR, add_offR]
        simp only [Nat.zero_add]
      rw [e4]
      exact h3
    · intro q hq
      obtain ⟨p, hp, rfl⟩ := List.mem_map.1 hq
      exact hk p hp
    · intro i q hq
      obtain ⟨p, hp, rfl⟩ := hget i q hq
      rw [hp]
      refine ⟨rfl, (h.all p (List.mem_of_getElem? hp)).weak (fun b hb => ?_)⟩
      rcases hb with e | e
      · exact .inl e
      · exact .inr ⟨e.1, e.2.1⟩

set_option maxRecDepth 100000 in
set_option maxHeartbeats 1000000 in
theorem copies_any (es : List En) (al : Option Addr) (n cl : Nat) (w : World) (hn : es.length = n) (hE : IsE w (fun b => b < w.heap.size) es al cl) :
    Calls Try.prog 23 #[.slice al n cl] w fun e w' => ∃ sv xs, e = .returned sv ∧ mapK Prod.snd xs = es ∧ EnC w' w.heap.size w.heap.size sv xs ∧ Below w.heap.size w w' := by
  have hl := hE.len
  rw [hn] at hl
  obtain ⟨hcl, -, haln⟩ := hl
  have hnb : 96 * n ≤ 140737488351232 := by
    obtain ⟨V, hV⟩ := hE
    have := hV.bl
    omega
  have HE : Hid (∀ u, Below w.heap.size w u → IsE u (fun b => b < w.heap.size) es al cl) := hide (fun u hu => hE.later hu)
  have HN := hide hn
  obtain ⟨iv, hiv, hz0, hz1, hz2⟩ := info_parts infoEn
  obtain ⟨w1, hrun, hown1, hgrow1⟩ := run_make_own (P := Try.prog) w w.heap.size 34 49 iv (.agg #[.string ⟨#[]⟩, .int .i64 0, .int .i64 0, .string ⟨#[]⟩, .slice none 0 0, .slice none 0 0]) 6 Try.underlying34 hiv hz0 hz1 .i64 .i64 (n + 3) (by rw [hz2]; omega) (by unfold maxLen; omega) (Nat.le_refl _)
  have HI := hide (And.intro hiv (And.intro hz0 (And.intro hz1 hz2)))
  rw [show (((n + 3 : Nat)) : Int) = (n : Int) + 3 by omega] at hrun
  have hw3 : IntKind.i64.wrap ((n : Int) + 3) = (n : Int) + 3 := by rw [IntKind.wrap_i64]; omega
  have B1 : Below w.heap.size w w1 := ⟨hgrow1.os, hgrow1.tape, hgrow1.output, hgrow1.size, fun j hj => hgrow1.block j hj (by simp)⟩
  have H1 : Hid (EnC w1 w.heap.size w.heap.size (.slice (some ⟨w.heap.size, 0, none⟩) 0 (n + 3)) [] ∧ mapK Prod.snd ([] : List (ByteArray × (ThV × Vl))) = es.take 0 ∧ ([] : List (ByteArray × (ThV × Vl))).length = 0 ∧ Below w.heap.size w w1) := hide ⟨⟨hown1, (fun p hp => by cases hp), (fun p hp => by cases hp)⟩, rfl, rfl, B1⟩
  clear hE hn hiv hz0 hz1 hz2 hown1 hgrow1 B1
  go_enter Try.func23, Try.ntmps23
  go_wp2_with fail
  go_loopw [3, 4] (fun y x wr => ∃ (i : Nat) (so : Option Addr) (sc : Nat) (xs : List (ByteArray × (ThV × Vl))), y = .slice so i sc ∧ x = .int .i64 (i : Int) ∧ i ≤ n ∧ Hid (EnC wr w.heap.size w.heap.size (.slice so i sc) xs ∧ mapK Prod.snd xs = es.take i ∧ xs.length = i ∧ Below w.heap.size w wr)) (fun _ x _ => n - (intOf x).toNat)
  case atStart => exact ⟨0, _, _, [], rfl, rfl, Nat.zero_le _, H1⟩
  case round =>
    obtain ⟨i, so, sc, xs, rfl, rfl, hi, HR⟩ := hrel
    clear H1 hrun
    by_cases hlt : i < n
    · have i1 : (i : Int) < (n : Int) := by omega
      have i0 : (0 : Int) ≤ (i : Int) := by omega
      obtain ⟨⟨k, v⟩, hp⟩ : ∃ p, es[i]? = some p := ⟨_, List.getElem?_eq_getElem (by have := unhide HN; omega)⟩
      obtain ⟨a, z0, z1, z2, al', ak', ll', m', cl', ck', rfl, hbl, hks, hc, hpv⟩ := (unhide HE wr (unhide HR).2.2.2).elem i _ hp
      dsimp only at hc hpv
      have HC : Hid (∀ u, Below w.heap.size w u → u.cell? (a.add (i * 6)) = some (.string k) ∧ u.cell? ⟨(a.add (i * 6)).block, (a.add (i * 6)).off + 1, none⟩ = some (.int .i64 z0) ∧ u.cell? ⟨(a.add (i * 6)).block, (a.add (i * 6)).off + 2, none⟩ = some (.int .i64 z1) ∧ u.cell? ⟨(a.add (i * 6)).block, (a.add (i * 6)).off + 3, none⟩ = some (.string z2) ∧ u.cell? ⟨(a.add (i * 6)).block, (a.add (i * 6)).off + 4, none⟩ = some (.slice al' ll' cl') ∧ u.cell? ⟨(a.add (i * 6)).block, (a.add (i * 6)).off + 5, none⟩ = some (.slice ak' m' ck')) := hide (fun u hu => by
        have hq : ∀ j v, [Value.string k, .int .i64 z0, .int .i64 z1, .string z2, .slice al' ll' cl', .slice ak' m' ck'][j]? = some v → u.cell? ((a.add (i * 6)).add j) = some v := fun j v hv => by
          have e : u.cell? ((a.add (i * 6)).add j) = wr.cell? ((a.add (i * 6)).add j) := World.cell?_of_block (by
            rw [block_add, block_add]
            exact (hu.block _ hbl).trans ((unhide HR).2.2.2.block _ hbl).symm)
          rw [e]
          exact hc j v hv
        exact ⟨hq 0 _ rfl, hq 1 _ rfl, hq 2 _ rfl, hq 3 _ rfl, hq 4 _ rfl, hq 5 _ rfl⟩)
      have CC : Hid (Calls Try.prog 34 #[.agg #[.int .i64 z0, .int .i64 z1, .string z2, .slice al' ll' cl', .slice ak' m' ck']] wr.drew fun e w' => ∃ d : ThV, e = .returned (.agg (thV d).toArray) ∧ Below wr.heap.size wr w' ∧ (fewB v = true → IsQ w' (fun b => wr.heap.size ≤ b ∧ b < w'.heap.size) v (.agg (thV d).toArray)) ∧ IsP w' (fun b => b < w.heap.size ∨ (wr.heap.size ≤ b ∧ b < w'.heap.size)) v (.agg (thV d).toArray)) := hide (by
        have hb0 : Below wr.heap.size wr wr.drew := (Below.refl _ _).drew
        have hv0 : IsV wr.drew w.heap.size v (.agg #[.int .i64 z0, .int .i64 z1, .string z2, .slice al' ll' cl', .slice ak' m' ck']) := IsV.mono (hb0.mono (unhide HR).2.2.2.size) hpv
        refine (copied_two v _ w.heap.size wr.drew hv0 (Nat.le_trans (unhide HR).2.2.2.size hb0.size)).mono ?_
        rintro e w' ⟨x', rfl, j1, b, f1, f2⟩
        have b' : Below wr.heap.size wr w' := hb0.trans (b.mono hb0.size)
        cases hf : fewB v with
        | true =>
          have hq := f1 hf
          obtain ⟨d, rfl⟩ := isP_th hq.1
          exact ⟨d, rfl, b', fun _ => hq, hq.1.weak (fun b hb => .inr hb)⟩
        | false =>
          have hx := f2 hf
          subst hx
          exact ⟨(z0, z1, z2, al', ll', cl', ak', m', ck'), rfl, b', (fun h => by cases h), (IsV.mono (b.mono (Nat.le_trans (unhide HR).2.2.2.size hb0.size)) hv0).weak (fun b hb => .inl hb)⟩)
      obtain ⟨CS, hCS⟩ : ∃ CS, cellsV (mapK Prod.fst xs) = CS := ⟨_, rfl⟩
      have HOW : Hid (∀ u, Below wr.heap.size wr u → u.ownsRow w.heap.size 49 6 (.slice so i sc) i CS) := hide (fun u hu => by
        have := ((unhide HR).1.later (unhide HR).2.2.2.size hu).row
        rw [(unhide HR).2.2.1, hCS] at this
        exact this)
      have HX := hide (And.intro hp hCS)
      clear hc hpv hbl hks hp hCS
      go_upto_region 5 with fail
      refine wp_region_held_drew (S := fun w' => Below w.heap.size w w') (by kernel_rfl) ((unhide HR).2.2.2.drew) (fun hH => ?_)
      refine take_at 0 (v := .slice so i sc) (some 15) rfl rfl (by kernel_rfl) (by kernel_rfl) (by kernel_rfl) (fun _ _ _ h => h) (Or.inl ⟨by rfl, fun u hu => by go_simp⟩) hH ?_
      try simp only [Act.put, List.setIfInBounds_toArray, List.set_cons_zero, List.set_cons_succ]
      refine take_at 1 (v := .slice (some a) n cl) (some 16) rfl rfl (by kernel_rfl) (by kernel_rfl) (by kernel_rfl) (fun _ _ _ h => h) (Or.inl ⟨by rfl, fun u hu => by go_simp⟩) hH ?_
      try simp only [Act.put, List.setIfInBounds_toArray, List.set_cons_zero, List.set_cons_succ]
      refine take_at 2 (v := .int .i64 (i : Int)) (some 17) rfl rfl (by kernel_rfl) (by kernel_rfl) (by kernel_rfl) (fun _ _ _ h => h) (Or.inl ⟨by rfl, fun u hu => by go_simp⟩) hH ?_
      try simp only [Act.put, List.setIfInBounds_toArray, List.set_cons_zero, List.set_cons_succ]
      refine take_at 3 (v := .pointer (some (a.add (i * 6)))) (some 18) rfl rfl (by kernel_rfl) (by kernel_rfl) (by kernel_rfl) (fun _ _ _ h => h) (Or.inl ⟨by rfl, fun u hu => by go_simp⟩) hH ?_
      try simp only [Act.put, List.setIfInBounds_toArray, List.set_cons_zero, List.set_cons_succ]
      refine take_at 4 (v := .pointer (some (a.add (i * 6)))) (some 19) rfl rfl (by kernel_rfl) (by kernel_rfl) (by kernel_rfl) (fun _ _ _ h => h) (Or.inl ⟨by rfl, fun u hu => by go_simp⟩) hH ?_
      try simp only [Act.put, List.setIfInBounds_toArray, List.set_cons_zero, List.set_cons_succ]
      refine take_at 5 (v := .string k) (some 20) rfl rfl (by kernel_rfl) (by kernel_rfl) (by kernel_rfl) (fun _ _ _ h => h) (Or.inl ⟨by rfl, fun u hu => by obtain ⟨q0, q1, q2, q3, q4, q5⟩ := unhide HC u hu; go_simp⟩) hH ?_
      try simp only [Act.put, List.setIfInBounds_toArray, List.set_cons_zero, List.set_cons_succ]
      refine take_at 6 (v := .slice (some a) n cl) (some 21) rfl rfl (by kernel_rfl) (by kernel_rfl) (by kernel_rfl) (fun _ _ _ h => h) (Or.inl ⟨by rfl, fun u hu => by go_simp⟩) hH ?_
      try simp only [Act.put, List.setIfInBounds_toArray, List.set_cons_zero, List.set_cons_succ]
      refine take_at 7 (v := .int .i64 (i : Int)) (some 22) rfl rfl (by kernel_rfl) (by kernel_rfl) (by kernel_rfl) (fun _ _ _ h => h) (Or.inl ⟨by rfl, fun u hu => by go_simp⟩) hH ?_
      try simp only [Act.put, List.setIfInBounds_toArray, List.set_cons_zero, List.set_cons_succ]
      refine take_at 8 (v := .pointer (some (a.add (i * 6)))) (some 23) rfl rfl (by kernel_rfl) (by kernel_rfl) (by kernel_rfl) (fun _ _ _ h => h) (Or.inl ⟨by rfl, fun u hu => by go_simp⟩) hH ?_
      try simp only [Act.put, List.setIfInBounds_toArray, List.set_cons_zero, List.set_cons_succ]
      refine take_at 9 (v := .pointer (some ⟨(a.add (i * 6)).block, (a.add (i * 6)).off + 1, none⟩)) (some 24) rfl rfl (by kernel_rfl) (by kernel_rfl) (by kernel_rfl) (fun _ _ _ h => h) (Or.inl ⟨by rfl, fun u hu => by go_simp⟩) hH ?_
      try simp only [Act.put, List.setIfInBounds_toArray, List.set_cons_zero, List.set_cons_succ]
      refine take_at 10 (v := .agg #[.int .i64 z0, .int .i64 z1, .string z2, .slice al' ll' cl', .slice ak' m' ck']) (some 25) rfl rfl (by kernel_rfl) (by kernel_rfl) (by kernel_rfl) (fun _ _ _ h => h) (Or.inl ⟨by rfl, fun u hu => by obtain ⟨q0, q1, q2, q3, q4, q5⟩ := unhide HC u hu; go_simp⟩) hH ?_
      try simp only [Act.put, List.setIfInBounds_toArray, List.set_cons_zero, List.set_cons_succ]
      refine wpAnyH_ready (rs := [11]) (by kernel_rfl) (by simp) ?_
      refine AllReadyH.cons rfl (fun KK hKK => ?_) AllReadyH.nil
      go_simp
      refine (unhide CC).mono ?_
      rintro e W3 ⟨⟨d0, d1, d2, d3, d4, d5, d6, d7, d8⟩, rfl, b3, f3, p3⟩
      dsimp only [thV] at f3 p3 ⊢
      have H3 := hide (And.intro b3 (And.intro f3 p3))
      have S3 : Below w.heap.size w W3 := (unhide HR).2.2.2.trans (b3.mono (unhide HR).2.2.2.size)
      clear b3 f3 p3 CC
      go_wp2_with fail
      refine hKK.out _ _ (S3) (fun hH3 => ?_)
      clear hKK KK S3
      try simp only [Act.put, List.setIfInBounds_toArray, List.set_cons_zero, List.set_cons_succ]
      refine take_at 12 (v := .agg #[.string k, .int .i64 d0, .int .i64 d1, .string d2, .slice d3 d4 d5, .slice d6 d7 d8]) (some 27) rfl rfl (by kernel_rfl) (by kernel_rfl) (by kernel_rfl) (fun _ _ _ h => h) (Or.inl ⟨by rfl, fun u hu => by go_simp⟩) hH3 ?_
      try simp only [Act.put, List.setIfInBounds_toArray, List.set_cons_zero, List.set_cons_succ]
      refine wpAnyH_ready (rs := [13]) (by kernel_rfl) (by simp) ?_
      refine AllReadyH.cons rfl (fun KK hKK => ?_) AllReadyH.nil
      go_simp
      obtain ⟨W4, hW4⟩ : ∃ W4, W3.alloc (.cells #[.string k, .int .i64 d0, .int .i64 d1, .string d2, .slice d3 d4 d5, .slice d6 d7 d8] 49) = W4 := ⟨_, rfl⟩
      have X4 : Below W3.heap.size W3 W4 := by rw [← hW4]; exact (Below.refl _ _).alloc (Nat.le_refl _) _
      have at4 : W4.heap[W3.heap.size]? = some (.cells #[.string k, .int .i64 d0, .int .i64 d1, .string d2, .slice d3 d4 d5, .slice d6 d7 d8] 49 (0, 0)) := by rw [← hW4]; exact heap_alloc_new W3 _
      rw [hW4]
      have H4 : Hid (Below wr.heap.size wr W4 ∧ (fewB v = true → IsQ W4 (fun b => wr.heap.size ≤ b ∧ b < W4.heap.size) v (.agg #[.int .i64 d0, .int .i64 d1, .string d2, .slice d3 d4 d5, .slice d6 d7 d8])) ∧ IsP W4 (fun b => b < w.heap.size ∨ (wr.heap.size ≤ b ∧ b < W4.heap.size)) v (.agg #[.int .i64 d0, .int .i64 d1, .string d2, .slice d3 d4 d5, .slice d6 d7 d8])) := hide ⟨(unhide H3).1.trans (X4.mono (unhide H3).1.size), (fun hf => ((unhide H3).2.1 hf).to (fun b hb => X4.block b hb.2) (fun b hb => ⟨hb.1, Nat.lt_of_lt_of_le hb.2 X4.size⟩)), (unhide H3).2.2.to (fun b hb => X4.block b (by rcases hb with e | e; exact Nat.lt_of_lt_of_le e hH3.size; exact e.2)) (fun b hb => by rcases hb with e | e; exact .inl e; exact .inr ⟨e.1, Nat.lt_of_lt_of_le e.2 X4.size⟩)⟩
      obtain ⟨h3s, hh3s⟩ : ∃ h3s, W3.heap.size = h3s := ⟨_, rfl⟩
      rw [hh3s] at at4 ⊢
      have S4 : Below w.heap.size w W4 := hH3.trans (X4.mono hH3.size)
      refine hKK.out _ _ (S4) (fun hH4 => ?_)
      clear hKK KK S4 X4 hW4 hh3s H3
      try simp only [Act.put, List.setIfInBounds_toArray, List.set_cons_zero, List.set_cons_succ]
      refine wpAnyH_ready (rs := [14]) (by kernel_rfl) (by simp) ?_
      refine AllReadyH.cons rfl (fun KK hKK => ?_) AllReadyH.nil
      refine step_append_lies _ (by rfl) _ _ 34 (by rfl) w.heap.size 49 iv (.agg #[.string ⟨#[]⟩, .int .i64 0, .int .i64 0, .string ⟨#[]⟩, .slice none 0 0, .slice none 0 0]) 6 96 Try.underlying34 (unhide HI).1 (unhide HI).2.1 (unhide HI).2.2.1 (unhide HI).2.2.2 rfl (by omega) (.slice so i sc) i CS (by rfl) (unhide HOW W4 (unhide H4).1) ⟨h3s, 0, none⟩ 1 1 [.string k, .int .i64 d0, .int .i64 d1, .string d2, .slice d3 d4 d5, .slice d6 d7 d8] (by rfl) (by rfl) (World.news_of_block at4) (by simp [Value.oneCell']) (by omega) (by unfold maxLen; omega) (by omega) hH4.size _ rfl ?_
      intro g5 cap5 W5 hown5 hgrow5 hat5 hlt5
      change KK (Act.put _ (some 29) _) W5
      have S5 : Below w.heap.size w W5 := hH4.grown hgrow5 hH4.size (fun q hq => ((unhide HOW W4 (unhide H4).1).lt q hq).1)
      have H5 := hide (And.intro hown5 (And.intro hgrow5 hat5))
      refine hKK.out _ _ (S5) (fun hH5 => ?_)
      clear hKK KK S5 hown5 hgrow5 hat5 hlt5 at4
      try simp only [Act.put, List.setIfInBounds_toArray, List.set_cons_zero, List.set_cons_succ]
      refine take_at 15 (v := .slice (some ⟨g5, 0, none⟩) (i + 1) cap5) (some 3) rfl rfl (by kernel_rfl) (by kernel_rfl) (by kernel_rfl) (fun _ _ _ h => h) (Or.inl ⟨by rfl, fun u hu => by go_simp⟩) hH5 ?_
      try simp only [Act.put, List.setIfInBounds_toArray, List.set_cons_zero, List.set_cons_succ]
      refine wpAnyH_done (by kernel_rfl) ?_ _
      have HS5 := hide hH5
      clear hH hH3 hH4 hH5
      have HN5 : Hid (EnC W5 w.heap.size w.heap.size (.slice (some ⟨g5, 0, none⟩) (i + 1) cap5) (xs ++ [(k, ((d0, d1, d2, d3, d4, d5, d6, d7, d8), v))]) ∧ mapK Prod.snd (xs ++ [(k, ((d0, d1, d2, d3, d4, d5, d6, d7, d8), v))]) = es.take (i + 1) ∧ (xs ++ [(k, ((d0, d1, d2, d3, d4, d5, d6, d7, d8), v))]).length = i + 1 ∧ Below w.heap.size w W5) := hide (by
        obtain ⟨r1, r2, r3, r4⟩ := unhide HR
        obtain ⟨o5, g5', a5⟩ := unhide H5
        obtain ⟨b4, f4, p4⟩ := unhide H4
        refine ⟨r1.push r3 b4 r4.size (Nat.le_refl _) f4 p4 (by rw [(unhide HX).2]; exact o5) g5' a5, ?_, by simp [r3], unhide HS5⟩
        rw [mapK_snoc, r2, List.take_add_one, (unhide HX).1]
        rfl)
      have HI1 : Hid (i + 1 ≤ n) := hide (by omega)
      clear H5 H4 HOW HC HX HS5
      go_wp2_with fail
      go_roundw
      case rel => exact ⟨i + 1, _, _, _, rfl, by go_num, unhide HI1, HN5⟩
      case measure => have := unhide HI1; simp [intOf]; omega
    · have i1 : ¬ (i : Int) < (n : Int) := by omega
      have him : i = n := by omega
      have HF : Hid (mapK Prod.snd xs = es) := hide (by
        have := (unhide HR).2.1
        rw [List.take_of_length_le (by have := unhide HN; omega)] at this
        exact this)
      clear him
      go_wp2_with fail
      go_ret
      first | exact ⟨_, xs, rfl, unhide HF, (unhide HR).1, (unhide HR).2.2.2⟩ | exact ⟨_, rfl, xs, unhide HF, (unhide HR).1, (unhide HR).2.2.2⟩
end Go.Proofs.Ytdaooapfokhfcaa
