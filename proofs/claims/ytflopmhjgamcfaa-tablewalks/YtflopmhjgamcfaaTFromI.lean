/-
  slices.Clone of a row of pairs; From and All of a table of whole numbers: a function with a row of its own; no conditions but that the keys rise and the row's bytes are within 2^47.
-/
import Derived.Test.YtflopmhjgamcfaaTReadI
set_option linter.unusedSimpArgs false
namespace Go.Proofs.Ytflopmhjgamcfaa
open Go.RowKit
set_option linter.unusedVariables false

/-- append of a row, at a plain region's list -/
theorem wpl_appm {P : Program} {w : World} {ops : Array Oper} {rest : List Oper} {o : Oper} {a : Act} {Q : Exit → Act → World → Prop} (hgd : o.guard = none) (sl x : Operand) (tS E : TypeId) (i0 : TypeInfo) (z : Value) (bytes : Nat)
    (hS : P.underlying tS = some (.slice E)) (hi : P.info? E = some i0) (hz0 : i0.zero = some z) (hz1 : i0.size = 2) (hz2 : i0.bytes = bytes) (hzc : z.cells.size = 2)
    (ho : o.op = .call { callee := .builtin .append, args := #[sl, x], argTypes := #[tS, tS] })
    (base n : Nat) (v : Value) (xs : List Value) (hs : a.eval sl = v) (hown : w.ownsRow base E 2 v n xs)
    (ad : Addr) (m c : Nat) (news : List Value) (hx : a.eval x = .slice (some ad) m c) (hl : news.length = m * 2) (hg : ∀ j u, news[j]? = some u → w.cell? (ad.add j) = some u) (h1 : ∀ u ∈ news, u.oneCell' = true)
    (hm : n + m ≤ maxLen) (hbytes : (n + m) * bytes ≤ 140737488355328) (hbase : base ≤ w.heap.size)
    (h : ∀ v' w', Hid (w'.ownsRow base E 2 v' (n + m) (xs ++ news) ∧ Grew w w' v v') → wpList P ops Q rest (a.put o.dst v') w') :
    wpList P ops Q (o :: rest) a w := by
  refine wpList_plain hgd fun K hK => ?_
  obtain ⟨v', w', hrun, h2, h3, _, h5⟩ := run_append_own_at (P := P) w base tS o.type E i0 z 2 bytes hS hi hz0 hz1 hz2 hzc (by decide) v n _ hown ad m c news hl hg h1 hm hbytes hbase
  unfold Oper.wp
  simp only [execOp, ho, resolve, invoke, builtin, Sem.run_bind, Sem.run_pure, Result.andThen_ok, List.map_toArray, List.map_cons, List.map_nil, hs, hx, hrun]
  refine hK _ _ (h v' w' ⟨h2, h3, fun b hb => ?_⟩)
  rcases h5 with e | e
  · exact Or.inl (by rw [← e]; exact hb)
  · rw [hb] at e
    exact Or.inr (by rw [Option.some.inj e]; exact Nat.le_refl _)

set_option maxRecDepth 100000 in
theorem clone_I (b off c : Nat) (l : Prs) (w : World) (hl : 0 < l.length) (hc : ∀ j u, (cells2 (valsI l))[j]? = some u → w.cell? ((⟨b, off, none⟩ : Addr).add j) = some u) (hb : l.length * 16 ≤ 140737488355328) :
    Calls Try.prog 31 #[.slice (some ⟨b, off, none⟩) l.length c] w fun e w' => ∃ v', e = .returned v' ∧ w'.ownsRow w.heap.size 71 2 v' l.length (cells2 (valsI l)) ∧ Below w.heap.size w w' := by
  obtain ⟨i0, hi0, hz0, hz1, hz2⟩ := info_parts infoI
  have HC := hide hc
  obtain ⟨m, hm⟩ : ∃ m, l.length = m := ⟨_, rfl⟩
  have HM := hide hm
  rw [hm] at hb hl ⊢
  have HO : Hid ((w.alloc (.cells #[] 71)).ownsRow w.heap.size 71 2 (.slice (some ⟨w.heap.size, 0, none⟩) 0 0) 0 []) := hide ⟨rfl, .inr ⟨w.heap.size, 0, #[], rfl, Nat.le_refl _, heap_alloc_new w _, Nat.le_refl _, Nat.zero_le _, rfl, rfl⟩⟩
  have HB : Hid (Below w.heap.size w (w.alloc (.cells #[] 71))) := hide ((Below.refl _ _).alloc (Nat.le_refl _) _)
  have HC2 : Hid (∀ j u, (cells2 (valsI l))[j]? = some u → (w.alloc (.cells #[] 71)).cell? ((⟨b, off, none⟩ : Addr).add j) = some u) := hide (fun j u hj => by
    have h1 := hc j u hj
    have h2 := World.block_lt_of_cell? _ _ (by rw [h1])
    exact ((unhide HB).cell h2).trans h1)
  have he : ∀ u : World, (binOp .eql 68 (.slice (some ⟨b, off, none⟩) m c) (.slice none 0 0)).run Try.prog u = .ok (.bool false) u := fun _ => rfl
  clear hc hm
  go_enter Try.func31, Try.ntmps31
  go_wp2_with (first | (at_builtin; refine wpl_appm rfl (.tmp 5) (.tmp 6) 68 71 i0 _ 16 Try.underlying68 hi0 hz0 hz1 hz2 rfl rfl w.heap.size 0 (.slice (some ⟨w.heap.size, 0, none⟩) 0 0) [] rfl (unhide HO) ⟨b, off, none⟩ m c (cells2 (valsI l)) rfl (by rw [cells2_len, valsI_len, unhide HM]) (unhide HC2) (onesI l) (by unfold maxLen; omega) (by omega) (unhide HB).size ?_; intro v2 w2 H2))
  go_ret
  have h2 := (unhide H2).1
  rw [Nat.zero_add, List.nil_append] at h2
  exact ⟨v2, rfl, h2, (unhide HB).grown (unhide H2).2.grown (unhide HB).size (fun k hk => by cases hk; exact Nat.le_refl _)⟩

/-- a function that goes through pairs -/
structure Seq (w wr : World) (f : Value) (l : Prs) (G : Nat) (v : Value) : Prop where
  fn : f = .func (.func 32) #[] #[.pointer (some ⟨G, 0, none⟩)]
  here : wr.heap[G]? = some (.cells #[v] 68 (0, 0))
  row : wr.ownsRow w.heap.size 71 2 v l.length (cells2 (valsI l))
  low : w.heap.size ≤ G

set_option maxRecDepth 100000 in
theorem from_I {base g : Nat} {v : Value} {l : Prs} {w : World} (h : TabI w base g v l) (hr : RisesI l) (k : Int) (hb : l.length * 16 ≤ 140737488355328) :
    Calls Try.prog 13 #[.pointer (some ⟨g, 0, none⟩), .int .i64 k] w fun e w' => ∃ f G v', e = .returned f ∧ Seq w w' f (l.drop (low l k)) G v' ∧ Below w.heap.size w w' := by
  have gl : g < w.heap.size := (Array.getElem?_eq_some_iff.1 h.here).1
  obtain ⟨G, hG⟩ : ∃ G, w.heap.size = G := ⟨_, rfl⟩
  obtain ⟨w1, hw1⟩ : ∃ w1, w.alloc (.cells #[.slice none 0 0] 68) = w1 := ⟨_, rfl⟩
  have N1 := heap_alloc_new w (.cells #[.slice none 0 0] 68)
  have B1 : Below w.heap.size w w1 := by rw [← hw1]; exact (Below.refl _ _).alloc (Nat.le_refl _) _
  have Z1 : w1.heap.size = G + 1 := by rw [← hw1, ← hG]; simp
  rw [hw1, hG] at N1
  have T1 : TabI w1 base g v l := h.later B1 gl (fun b hb => (h.row.lt b hb).2)
  have CF := hide (find_I T1 hr k)
  have CL : Hid (∀ q, Calls Try.prog 25 #[.pointer (some ⟨g, 0, none⟩)] (w1.drewN q) fun e w' => e = .returned (.int .i64 l.length) ∧ w' = w1.drewN q) := hide (fun q => len_I (base := base) (v := v) ⟨T1.here, T1.row.1, T1.row.2⟩)
  obtain ⟨ao, cap, hv, hmx, hcell⟩ := tab_cellsI T1
  subst hv
  have c0 : w1.cell? ⟨g, 0, none⟩ = some (.slice ao l.length cap) := T1.cell
  have HC := hide hcell
  have HR := hide hr
  have HT := hide T1
  have HZ := hide (And.intro hG (And.intro N1 (And.intro B1 Z1)))
  have hcap : l.length ≤ cap := by
    obtain ⟨ao', cap', he, hle, _⟩ := own_shape h.row
    simp only [Value.slice.injEq] at he
    rw [valsI_len] at hle
    omega
  have W1 := hide hw1
  clear h hcell hr T1 N1 B1 Z1 hw1
  go_enter Try.func13, Try.ntmps13
  go_upto_region 2 with fail
  simp only [hG, unhide W1]
  have HG := hide hG
  clear hG W1
  go_wp2_with fail
  refine (unhide CF).mono ?_
  rintro e w2 ⟨L, rfl, hL, hlow, q, rfl⟩
  have HL : Hid (L = low l k) := hide (low_eq (unhide HR) hL hlow)
  have CL2 := hide (unhide CL q)
  have c0' : (w1.drewN q).cell? ⟨g, 0, none⟩ = some (.slice ao l.length cap) := c0
  obtain ⟨n, hn⟩ : ∃ n, l.length = n := ⟨_, rfl⟩
  rw [hn] at c0' hmx CL2 hb hL hcap
  have HN := hide hn
  clear CF CL hlow c0 hn
  by_cases hlt : L < n
  · have i1 : (L : Int) < (n : Int) := by omega
    have i2 : (0 : Int) ≤ (L : Int) := by omega
    have i3 : (L : Int) ≤ (n : Int) := by omega
    have i4 : (n : Int) ≤ (cap : Int) := by omega
    have i5 : ¬ (cap = L) := by omega
    obtain ⟨p, hp⟩ : ∃ p, l[L]? = some p := ⟨_, List.getElem?_eq_getElem (by have := unhide HN; omega)⟩
    obtain ⟨b, rfl, _, _⟩ := unhide HC L p hp
    have hlen : (l.drop L).length = n - L := by rw [List.length_drop, unhide HN]
    have CC := clone_I b (L * 2) (cap - L) (l.drop L) (w1.drewN q) (by rw [hlen]; omega) (fun j u hj => by
      rw [add_off]
      have hv : valsI (l.drop L) = (valsI l).drop L := by simp [valsI, List.map_drop]
      rw [hv, cells2_drop, List.getElem?_drop] at hj
      have := (unhide HT).row.cells rfl (L * 2 + j) u hj
      rw [add_at] at this
      exact this) (by rw [hlen]; omega)
    rw [hlen] at CC
    have HCC := hide CC
    have HLen := hide hlen
    have e1 : (w1.drewN q).heap[G]? = some (.cells #[.slice none 0 0] 68 (0, 0)) := (unhide HZ).2.1
    clear CC hlen hp
    go_wp2_with fail
    refine (unhide CL2).mono ?_
    rintro e w3 ⟨rfl, rfl⟩
    go_wp2_with fail
    refine (unhide HCC).mono ?_
    rintro e w3 ⟨v3, rfl, o3, b3⟩
    obtain ⟨a3, c3, rfl⟩ := slice_of o3
    have hGs : G < (w1.drewN q).heap.size := (Array.getElem?_eq_some_iff.1 e1).1
    have e3 : w3.heap[G]? = some (.cells #[.slice none 0 0] 68 (0, 0)) := (b3.block G hGs).trans e1
    have d3 : w3.cell? ⟨G, 0, none⟩ = some (.slice none 0 0) := by rw [cell_of_row w3 G 0 _ _ (0, 0) e3]; rfl
    have f3 := frozen_of e3
    have HO := hide (And.intro o3 (And.intro b3 e3))
    clear o3 b3 e3 e1 HCC hGs
    go_wp2_with fail
    go_ret
    obtain ⟨o3, b3, e3⟩ := unhide HO
    obtain ⟨hG, N1, B1, Z1⟩ := unhide HZ
    have hz : (w1.drewN q).heap.size = G + 1 := Z1
    have hlow : w.heap.size ≤ G := by omega
    rw [← unhide HL]
    refine ⟨_, G, .slice a3 (n - L) c3, rfl, ⟨rfl, ?_, ?_, hlow⟩, ?_⟩
    · have := heap_setCell_same w3 G 0 _ _ (.slice a3 (n - L) c3) e3
      exact this
    · rw [unhide HLen]
      refine ⟨o3.1, ?_⟩
      rcases o3.2 with h | ⟨b', cap', cur, hv, hb', hg', rest⟩
      · exact .inl h
      · refine .inr ⟨b', cap', cur, hv, by omega, ?_, rest⟩
        rw [heap_setCell_other _ _ _ _ (by simp; omega)]
        exact hg'
    · have h1 : Below w.heap.size w w3 := B1.trans ((⟨b3.os, b3.tape, b3.output, b3.size, fun k hk => b3.block k (by omega)⟩ : Below w.heap.size w1 w3))
      exact h1.setCell (p := ⟨G, 0, none⟩) hlow _
  · have i1 : ¬ (L : Int) < (n : Int) := by omega
    go_wp2_with fail
    refine (unhide CL2).mono ?_
    rintro e w3 ⟨rfl, rfl⟩
    go_wp2_with fail
    go_ret
    obtain ⟨hG, N1, B1, Z1⟩ := unhide HZ
    rw [← unhide HL, List.drop_of_length_le (by have := unhide HN; omega)]
    exact ⟨_, G, .slice none 0 0, rfl, ⟨rfl, N1, World.ownsRow_nil _ _ _ _, by omega⟩, below_drewN B1 q⟩

theorem low_first {p : Int × Int} {r : Prs} : low (p :: r) p.1 = 0 := low_cons_ge (by omega)

set_option maxRecDepth 100000 in
theorem all_I {base g : Nat} {v : Value} {l : Prs} {w : World} (h : TabI w base g v l) (hr : RisesI l) (hb : l.length * 16 ≤ 140737488355328) :
    Calls Try.prog 10 #[.pointer (some ⟨g, 0, none⟩)] w fun e w' => ∃ f G v' wb, e = .returned f ∧ Seq wb w' f l G v' ∧ Below w.heap.size w wb ∧ Below wb.heap.size wb w' := by
  have gl : g < w.heap.size := (Array.getElem?_eq_some_iff.1 h.here).1
  obtain ⟨k0, x0, b0, hk0, CA⟩ : ∃ (k0 x0 : Int) (b0 : Bool), l.drop (low l k0) = l ∧ Calls Try.prog 21 #[.pointer (some ⟨g, 0, none⟩), .int .i64 0] w fun e w' => e = .returned (.tuple #[.int .i64 k0, .int .i64 x0, .bool b0]) ∧ Below w.heap.size w w' := by
    cases l with
    | nil => exact ⟨0, 0, false, rfl, at_outI h 0 (.inr (by simp))⟩
    | cons p r =>
      refine ⟨p.1, p.2, true, by rw [low_first]; rfl, ?_⟩
      have := at_I h 0 p rfl
      exact this
  have HT : Hid (∀ u, Below w.heap.size w u → TabI u base g v l) := hide (fun u hu => h.later hu gl (fun b hb => (h.row.lt b hb).2))
  have HX := hide (And.intro hk0 (And.intro hr hb))
  have HA := hide CA
  clear h hr hb hk0 CA
  go_enter Try.func10, Try.ntmps10
  go_wp2_with fail
  refine (unhide HA).mono ?_
  rintro e w1 ⟨rfl, b1⟩
  have CF := hide (from_I (unhide HT w1 b1) (unhide HX).2.1 k0 (unhide HX).2.2)
  have B1 := hide b1
  clear HA b1
  go_wp2_with fail
  refine (unhide CF).mono ?_
  rintro e w2 ⟨f, G, v', rfl, hs, b2⟩
  rw [(unhide HX).1] at hs
  have HS := hide (And.intro hs b2)
  obtain ⟨hfn, _, _, _⟩ := hs
  subst hfn
  clear b2
  go_wp2_with fail
  go_ret
  exact ⟨_, G, v', w1, rfl, (unhide HS).1, unhide B1, (unhide HS).2⟩
end Go.Proofs.Ytflopmhjgamcfaa
