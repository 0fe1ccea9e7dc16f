/-
  The document's store: Rollback; conditions: the form's own reach.
-/
import Derived.Test.YtdaooapfokhfcaaGreatA44
namespace Go.Proofs.YtdaooapfokhfcaaGreat
open Go.RowKit
set_option linter.unusedVariables false
set_option linter.unusedSimpArgs false

section
variable {w w' : World} {V V' : Nat → Prop} {t t' : Rx} {X X' B : Xs} {Bs : List Xs} {N m : Nat} {r0 : List Nat}

/-- one that tells what stood where, as it lies -/
theorem Rto.ucell (h : Rto w V t) {i : Nat} {p : ByteArray × (ThV × Option Vl)} (hp : t.us[i]? = some p) : ∃ b uc, t.uv = .slice (some ⟨b, 0, none⟩) t.us.length uc ∧ b < w.heap.size ∧ ∀ j v, (ucs p)[j]? = some v → w.cell? ⟨b, i * 7 + j, none⟩ = some v := by
  have hr := h.und
  rcases hr.2 with ⟨e, e2⟩ | ⟨b, uc, cur, e, hb, hg, hc, hm, hs, ht⟩
  · have := (List.getElem?_eq_some_iff.1 hp).1
    omega
  · refine ⟨b, uc, e, (Array.getElem?_eq_some_iff.1 hg).1, fun j v hv => ?_⟩
    have h2 := cellsN_at t.us i _ hp j v hv
    have h3 := hr.cells (show t.uv.ownBlock = some b by rw [e]; rfl) _ _ h2
    rw [add_offR, Nat.zero_add] at h3
    exact h3

/-- what is told, cut short -/
theorem Rto.cutU (h : Rto w V t) (hm : m ≤ t.us.length) : ∃ ua uc, t.uv = .slice ua t.us.length uc ∧ t.us.length ≤ uc ∧ (ua = none ∧ t.us.length = 0 ∧ uc = 0 ∨ ∃ b, ua = some ⟨b, 0, none⟩) ∧ Rto (w.setCell ⟨t.r, 1, none⟩ (.slice ua m uc)) V { t with uv := .slice ua m uc, us := t.us.take m } ∧ RAdv w (w.setCell ⟨t.r, 1, none⟩ (.slice ua m uc)) V V t { t with uv := .slice ua m uc, us := t.us.take m } := by
  have hr := h.und
  have hl : (t.us.take m).length = m := by rw [List.length_take]; omega
  rcases hr.2 with ⟨e, e2⟩ | ⟨b, uc, cur, e, hb, hg, hc, hm', hs, ht⟩
  · have hm0 : m = 0 := by omega
    refine ⟨none, 0, by rw [e, e2], by omega, .inl ⟨rfl, e2, rfl⟩, h.turnU (Fr.refl _ _) ?_ (fun j hj => by cases hj) (fun p hp y hy => h.uok p (List.mem_of_mem_take hp) y hy)⟩
    rw [hm0]
    exact World.ownsRow_nil _ 0 _ _
  · have hr2 := hr
    rw [e] at hr2
    refine ⟨_, uc, e, hc, .inr ⟨b, rfl⟩, h.turnU (Fr.refl _ _) ?_ (fun j hj => .inl (by rw [e]; exact hj)) (fun p hp y hy => h.uok p (List.mem_of_mem_take hp) y hy)⟩
    rw [hl, cellsN_take _ _ hm]
    exact own_take hr2 hm

/-- a Rollback, half way -/
def Half (w : World) (V : Nat → Prop) (t : Rx) (X : Xs) (j : Nat) (wr : World) : Prop := ∃ tr, Rto wr V tr ∧ RAdv w wr V V t tr ∧ tr.r = t.r ∧ tr.uv = t.uv ∧ tr.us = t.us ∧ tr.mv = t.mv ∧ tr.ms = t.ms ∧ tr.X = bks (t.U.drop j) X

theorem Half.step (h : Rtt w V t X Bs N) {p : Nat} {k : ByteArray} {c : ThV} {o : Option Vl} (hp : t.us[p]? = some (k, (c, o))) {wr : World} (hh : Half w V t X (p + 1) wr) : (∀ y, o = some y → ∀ u, Below wr.heap.size wr u → Calls Tryz.prog 73 #[.pointer (some ⟨t.r, 0, none⟩), .string k, .agg (thV c).toArray] u fun e w' => (∃ r, e = .returned r) ∧ Half w V t X p w') ∧ (o = none → ∀ u, Below wr.heap.size wr u → Calls Tryz.prog 72 #[.pointer (some ⟨t.r, 0, none⟩), .string k] u fun e w' => (∃ r, e = .returned r) ∧ Half w V t X p w') := by
  obtain ⟨tr, h1, h2, e1, e2, e3, e4, e5, e6⟩ := hh
  have hlt := (List.getElem?_eq_some_iff.1 hp).1
  have hU : t.U[p]? = some (k, o) := by unfold Rx.U mapK; rw [List.getElem?_map, hp]; rfl
  have hUl : p < t.U.length := by rw [t.ulen]; exact hlt
  have hd : t.U.drop p = (k, o) :: t.U.drop (p + 1) := by
    rw [List.drop_eq_getElem_cons hUl]
    congr 1
    rw [List.getElem?_eq_getElem hUl] at hU
    exact Option.some.inj hU
  have hfin := h.fin (p + 1) hlt
  have hrk : Rk tr.lx := rk_of_map (f := Prod.snd) (show Rk tr.X by rw [e6]; exact hfin.1)
  have hlen : tr.lx.length ≤ 1000 := by
    have : tr.X.length = tr.lx.length := mapK_len _ _
    rw [e6] at this
    have := hfin.2.1
    omega
  refine ⟨fun y hy u hb => ?_, fun hy u hb => ?_⟩
  · have hu := h1.later hb
    have := lay_ref hu hlen hrk k c y (hu.uok (k, (c, o)) (by rw [e3]; exact List.mem_of_getElem? hp) y hy)
    rw [e1] at this
    refine this.mono ?_
    rintro e w' ⟨he, lv', ra, rb⟩
    refine ⟨he, _, ra, (h2.trans (RAdv.of' hb tr V)).trans rb, by first | exact e1 | rfl, e2, e3, e4, e5, ?_⟩
    show mapK Prod.snd (putK tr.lx k (c, y)) = _
    rw [mapK_put]
    show putK tr.X k y = _
    rw [e6, hd, hy]
    rfl
  · have hu := h1.later hb
    have := off_any hu hlen hrk k
    rw [e1] at this
    refine this.mono ?_
    rintro e w' ⟨he, lv', ra, rb⟩
    refine ⟨he, _, ra, (h2.trans (RAdv.of' hb tr V)).trans rb, by first | exact e1 | rfl, e2, e3, e4, e5, ?_⟩
    show mapK Prod.snd (delK tr.lx k) = _
    rw [mapK_del]
    show delK tr.X k = _
    rw [e6, hd, hy]
    rfl

set_option maxRecDepth 100000 in
set_option maxHeartbeats 3200000 in
theorem rback_some (h : Rtt w V t X (B :: Bs) N) (hN : N ≤ 1353245080318) : Calls Tryz.prog 35 #[.pointer (some ⟨t.r, 0, none⟩)] w fun e w' => e = .returned (.int .i64 0) ∧ ∃ V' t', Rtt w' V' t' B Bs N ∧ RAdv w w' V V' t t' := by
  obtain ⟨r0, m, hms⟩ : ∃ r0 m, t.ms = r0 ++ [m] := by
    rcases List.eq_nil_or_concat t.ms with e | ⟨r0, m, e⟩
    · have := h.bs
      rw [e] at this
      cases this
    · exact ⟨r0, m, by rw [e, List.concat_eq_append]⟩
  obtain ⟨hB, hmn⟩ := h.last hms
  obtain ⟨b, mc, hmv, hmc, hbl, hcell, -, -⟩ := h.rto.popM hms
  obtain ⟨ua, uc, huv, huc, hua, -, -⟩ := h.rto.cutU (m := m) hmn
  have hml := h.ml
  have hul := h.ul
  rw [hms, List.length_append] at hml
  obtain ⟨K, hK⟩ : ∃ K, r0.length = K := ⟨_, rfl⟩
  obtain ⟨n, hn⟩ : ∃ n, t.us.length = n := ⟨_, rfl⟩
  rw [hK] at hmv hmc hml hcell
  rw [hn] at huv huc hua hmn hul
  simp only [List.length_singleton] at hml
  -- the cells, wherever it has come to
  have HCC : Hid (∀ j wr, Half w V t X j wr → ∀ u, Below wr.heap.size wr u → u.cell? ⟨t.r, 1, none⟩ = some (.slice ua n uc) ∧ u.cell? ⟨t.r, 2, none⟩ = some (.slice (some ⟨b, 0, none⟩) (K + 1) mc) ∧ u.cell? ⟨b, K, none⟩ = some (.int .i64 (m : Int))) := hide (fun j wr hh u hu => by
    obtain ⟨tr, h1, h2, e1, e2, e3, e4, e5, e6⟩ := hh
    have h3 := h1.later hu
    have a1 := h3.c1
    have a2 := h3.c2
    rw [e1, e2, huv] at a1
    rw [e1, e4, hmv] at a2
    obtain ⟨b', mc', hmv', -, -, hc', -, -⟩ := h3.popM (e5.trans hms)
    rw [e4, hmv] at hmv'
    cases hmv'
    rw [hK] at hc'
    exact ⟨a1, a2, hc'⟩)
  have HUC : Hid (∀ p, p < n → ∃ k c o, t.us[p]? = some (k, (c, o)) ∧ ∀ wr, Half w V t X (p + 1) wr → ∃ ub, ua = some ⟨ub, 0, none⟩ ∧ ∀ u, Below wr.heap.size wr u → ∀ j v, (ucs (k, (c, o)))[j]? = some v → u.cell? ⟨ub, p * 7 + j, none⟩ = some v) := hide (fun p hp => by
    obtain ⟨⟨k, c, o⟩, hq⟩ : ∃ q, t.us[p]? = some q := ⟨_, List.getElem?_eq_getElem (by omega)⟩
    refine ⟨k, c, o, hq, fun wr hh => ?_⟩
    obtain ⟨tr, h1, h2, e1, e2, e3, e4, e5, e6⟩ := hh
    obtain ⟨b1, uc1, x1, -, -⟩ := h1.ucell (p := (k, (c, o))) (i := p) (by rw [e3]; exact hq)
    rw [e2, huv] at x1
    cases x1
    refine ⟨b1, rfl, fun u hu j v hv => ?_⟩
    obtain ⟨b2, uc2, x2, -, x3⟩ := (h1.later hu).ucell (p := (k, (c, o))) (i := p) (by rw [e3]; exact hq)
    rw [e2, huv] at x2
    cases x2
    exact x3 j v hv)
  have HST : Hid (∀ (p : Nat) (k : ByteArray) (c : ThV) (o : Option Vl), t.us[p]? = some (k, (c, o)) → ∀ wr, Half w V t X (p + 1) wr → (∀ y, o = some y → ∀ u, Below wr.heap.size wr u → Calls Tryz.prog 73 #[.pointer (some ⟨t.r, 0, none⟩), .string k, .agg (thV c).toArray] u fun e w' => (∃ r, e = .returned r) ∧ Half w V t X p w') ∧ (o = none → ∀ u, Below wr.heap.size wr u → Calls Tryz.prog 72 #[.pointer (some ⟨t.r, 0, none⟩), .string k] u fun e w' => (∃ r, e = .returned r) ∧ Half w V t X p w')) := hide (fun p k c o hp wr hh => Half.step h hp hh)
  have HEND : Hid (∀ wr, Half w V t X m wr → wr.drew.cell? ⟨t.r, 1, none⟩ = some (.slice ua n uc) ∧ wr.drew.cell? ⟨t.r, 2, none⟩ = some (.slice (some ⟨b, 0, none⟩) (K + 1) mc) ∧ wr.drew.cell? ⟨b, K, none⟩ = some (.int .i64 (m : Int)) ∧ wr.drew.frozen? ⟨t.r, 1, none⟩ = false ∧ ((wr.drew.setCell ⟨t.r, 1, none⟩ (.slice ua m uc)).cell? ⟨t.r, 2, none⟩ = some (.slice (some ⟨b, 0, none⟩) (K + 1) mc) ∧ (wr.drew.setCell ⟨t.r, 1, none⟩ (.slice ua m uc)).frozen? ⟨t.r, 2, none⟩ = false ∧ ∃ V' t', Rtt ((wr.drew.setCell ⟨t.r, 1, none⟩ (.slice ua m uc)).setCell ⟨t.r, 2, none⟩ (.slice (some ⟨b, 0, none⟩) K mc)) V' t' B Bs N ∧ RAdv w ((wr.drew.setCell ⟨t.r, 1, none⟩ (.slice ua m uc)).setCell ⟨t.r, 2, none⟩ (.slice (some ⟨b, 0, none⟩) K mc)) V V' t t')) := hide (fun wr hh => by
    have hd : Below wr.heap.size wr wr.drew := (Below.refl _ _).drew
    obtain ⟨a1, a2, a3⟩ := unhide HCC m wr hh wr.drew hd
    obtain ⟨tr, h1, h2, e1, e2, e3, e4, e5, e6⟩ := hh
    have h3 := h1.later hd
    have f1 := frozen_of_row wr.drew tr.r 1 _ _ h3.box
    rw [e1] at f1
    obtain ⟨ua', uc', huv', -, -, ra, rb⟩ := h3.cutU (m := m) (by rw [e3, hn]; exact hmn)
    have heq := e2.symm.trans huv'
    rw [huv] at heq
    cases heq
    rw [e1] at ra rb
    obtain ⟨b', mc', hmv', -, -, -, rc, rd⟩ := ra.popM (r0 := r0) (m := m) (e5.trans hms)
    dsimp only at hmv' rc rd
    have heq2 := e4.symm.trans hmv'
    rw [hmv] at heq2
    cases heq2
    rw [hK] at rc rd
    try rw [e1] at rc
    try rw [e1] at rd
    have k2 := ra.c2
    dsimp only at k2
    try rw [e1] at k2
    rw [e4, hmv] at k2
    have f2 := frozen_of_row _ _ 2 _ _ ra.box
    dsimp only at f2
    try rw [e1] at f2
    exact ⟨a1, a2, a3, f1, k2, f2, V, _, h.back hms rc (by
      show tr.X = B
      rw [e6, hB]) rfl (by
      show tr.us.take m = _
      rw [e3]), ((h2.trans (RAdv.of' hd tr V)).trans rb).trans rd⟩)
  have H00 : Hid (Half w V t X n w) := hide ⟨t, h.rto, RAdv.refl _ _ _, rfl, rfl, rfl, rfl, rfl, by rw [List.drop_eq_nil_of_le (by rw [t.ulen]; omega)]; exact h.ent⟩
  obtain ⟨r, hr⟩ : ∃ r, t.r = r := ⟨_, rfl⟩
  rw [hr] at HCC HST HEND ⊢
  clear h hms hB hmv hcell huv hbl hK hn
  obtain ⟨c1, c2, c3⟩ := unhide HCC n w (unhide H00) w (Below.refl _ _)
  have i0 : (((K + 1 : Nat) : Int) == 0) = false := by simp; omega
  have i1 : ¬ ((K + 1 : Nat) : Int) = 0 := by omega
  have wk : IntKind.i64.wrap (((K + 1 : Nat) : Int) - 1) = (K : Int) := by rw [IntKind.wrap_i64]; omega
  have wn : IntKind.i64.wrap ((n : Int) - 1) = (n : Int) - 1 := by rw [IntKind.wrap_i64]; omega
  have wk0 : IntKind.i64.wrap (K : Int) = (K : Int) := by rw [IntKind.wrap_i64]; omega
  have i7 : ¬ ((K : Int) + 1 ≤ (K : Int)) := by omega
  have i2 : (K : Int) ≤ (mc : Int) := by omega
  have i3 : (0 : Int) ≤ (K : Int) := by omega
  have i4 : (K : Int) < ((K + 1 : Nat) : Int) := by omega
  have i5 : (0 : Int) ≤ (m : Int) := by omega
  have i6 : (m : Int) ≤ (uc : Int) := by omega
  go_enter Tryz.func35, Tryz.ntmps35
  go_wp2_with fail
  clear c1 c2 c3
  go_loopw [4] (fun x wr => ∃ j : Nat, x = .int .i64 ((j : Int) - 1) ∧ m ≤ j ∧ j ≤ n ∧ Hid (Half w V t X j wr)) (fun x _ => (intOf x + 1).toNat)
  case atStart => exact ⟨n, rfl, hmn, Nat.le_refl _, H00⟩
  case round =>
    obtain ⟨j, rfl, hj1, hj2, HR⟩ := hrel
    obtain ⟨c1, c2, c3⟩ := unhide HCC j wr (unhide HR) wr (Below.refl _ _)
    by_cases hj : m < j
    · obtain ⟨p, rfl⟩ : ∃ p, j = p + 1 := ⟨j - 1, by omega⟩
      have ep : ((p + 1 : Nat) : Int) - 1 = (p : Int) := by omega
      rw [ep]
      have g1 : (m : Int) ≤ (p : Int) := by omega
      have g0 : (0 : Int) ≤ (p : Int) := by omega
      have g2 : (p : Int) < (n : Int) := by omega
      have wp1 : IntKind.i64.wrap ((p : Int) - 1) = (p : Int) - 1 := by rw [IntKind.wrap_i64]; omega
      obtain ⟨k, ⟨c0, c1', c2', c3', c4, c5, c6, c7, c8⟩, o, hq, hu⟩ := unhide HUC p (by omega)
      obtain ⟨ub, rfl, hv2⟩ := hu wr (unhide HR)
      obtain ⟨s1, s2⟩ := unhide HST p k _ o hq wr (unhide HR)
      have u0 : wr.cell? ⟨ub, p * 7, none⟩ = some (.string k) := hv2 wr (Below.refl _ _) 0 _ rfl
      have u1 : wr.cell? ⟨ub, p * 7 + 1, none⟩ = some (.int .i64 c0) := hv2 wr (Below.refl _ _) 1 _ rfl
      have u2 : wr.cell? ⟨ub, p * 7 + 2, none⟩ = some (.int .i64 c1') := hv2 wr (Below.refl _ _) 2 _ rfl
      have u3 : wr.cell? ⟨ub, p * 7 + 3, none⟩ = some (.string c2') := hv2 wr (Below.refl _ _) 3 _ rfl
      have u4 : wr.cell? ⟨ub, p * 7 + 4, none⟩ = some (.slice c3' c4 c5) := hv2 wr (Below.refl _ _) 4 _ rfl
      have u5 : wr.cell? ⟨ub, p * 7 + 5, none⟩ = some (.slice c6 c7 c8) := hv2 wr (Below.refl _ _) 5 _ rfl
      have u6 : wr.cell? ⟨ub, p * 7 + 6, none⟩ = some (.bool o.isSome) := hv2 wr (Below.refl _ _) 6 _ rfl
      obtain ⟨P, hP⟩ : ∃ P, wr.heap.size = P := ⟨_, rfl⟩
      obtain ⟨W1, hW1⟩ : ∃ W1, wr.alloc (.cells #[.string k, .int .i64 c0, .int .i64 c1', .string c2', .slice c3' c4 c5, .slice c6 c7 c8, .bool o.isSome] 94) = W1 := ⟨_, rfl⟩
      have BW : Below wr.heap.size wr W1 := by rw [← hW1]; exact (Below.refl _ _).alloc (Nat.le_refl _) _
      have NW : W1.heap[P]? = some (.cells #[.string k, .int .i64 c0, .int .i64 c1', .string c2', .slice c3' c4 c5, .slice c6 c7 c8, .bool o.isSome] 94 (0, 0)) := by rw [← hW1, ← hP]; exact heap_alloc_new wr _
      have Nc : ∀ j v, (#[.string k, .int .i64 c0, .int .i64 c1', .string c2', .slice c3' c4 c5, .slice c6 c7 c8, .bool o.isSome] : Array Value)[j]? = some v → W1.cell? ⟨P, j, none⟩ = some v := fun j v hv => by rw [cell_of_row W1 P j _ _ (0, 0) NW]; exact hv
      have q0 : W1.cell? ⟨P, 0, none⟩ = some (.string k) := Nc 0 _ rfl
      have q1 : W1.cell? ⟨P, 1, none⟩ = some (.int .i64 c0) := Nc 1 _ rfl
      have q2 : W1.cell? ⟨P, 2, none⟩ = some (.int .i64 c1') := Nc 2 _ rfl
      have q3 : W1.cell? ⟨P, 3, none⟩ = some (.string c2') := Nc 3 _ rfl
      have q4 : W1.cell? ⟨P, 4, none⟩ = some (.slice c3' c4 c5) := Nc 4 _ rfl
      have q5 : W1.cell? ⟨P, 5, none⟩ = some (.slice c6 c7 c8) := Nc 5 _ rfl
      have q6 : W1.cell? ⟨P, 6, none⟩ = some (.bool o.isSome) := Nc 6 _ rfl
      have HN : Hid (m ≤ p ∧ p ≤ n) := hide ⟨by omega, by omega⟩
      cases o with
      | some y =>
        have CL := hide (s1 y rfl W1 BW)
        clear s1 s2 hu hv2 hq BW NW Nc HR HCC HUC HST HEND
        dsimp only [Option.isSome] at u6 hW1 q6
        go_wp2_with fail
        refine (unhide CL).mono ?_
        rintro e u9 ⟨⟨rv, rfl⟩, hh⟩
        have H9 := hide hh
        clear hh CL u0 u1 u2 u3 u4 u5 u6 q0 q1 q2 q3 q4 q5 q6 c1 c2 c3
        go_wp2_with fail
        go_roundw
        case rel => exact ⟨p, by first | rfl | go_num, (unhide HN).1, (unhide HN).2, H9⟩
        case measure => first | (simp [intOf]; done) | (simp [intOf]; omega)
      | none =>
        have CL := hide (s2 rfl W1 BW)
        clear s1 s2 hu hv2 hq BW NW Nc HR HCC HUC HST HEND
        dsimp only [Option.isSome] at u6 hW1 q6
        have HW1 := hide hW1
        clear hW1
        go_upto_region 8 with fail
        rw [unhide HW1]
        go_wp2_with fail
        refine (unhide CL).mono ?_
        rintro e u9 ⟨⟨rv, rfl⟩, hh⟩
        have H9 := hide hh
        clear hh CL u0 u1 u2 u3 u4 u5 u6 q0 q1 q2 q3 q4 q5 q6 c1 c2 c3
        go_wp2_with fail
        go_roundw
        case rel => exact ⟨p, by first | rfl | go_num, (unhide HN).1, (unhide HN).2, H9⟩
        case measure => first | (simp [intOf]; done) | (simp [intOf]; omega)
    · obtain rfl : m = j := by omega
      have HWC := hide (unhide HEND wr (unhide HR))
      have g1 : ¬ (m : Int) ≤ (m : Int) - 1 := by omega
      have g2 : (m : Int) - 1 < (m : Int) := by omega
      clear HCC HUC HST HEND HR
      go_upto_region 11 with fail
      clear c1 c2 c3
      rcases hua with ⟨rfl, hn0, huc0⟩ | ⟨ub, rfl⟩
      · clear hn0 huc0
        have HS0 : Hid (wr.drew.cell? ⟨r, 1, none⟩ = some (.slice none n uc) ∧ wr.drew.cell? ⟨r, 2, none⟩ = some (.slice (some ⟨b, 0, none⟩) (K + 1) mc) ∧ wr.drew.cell? ⟨b, K, none⟩ = some (.int .i64 (m : Int))) := hide ⟨(unhide HWC).1, (unhide HWC).2.1, (unhide HWC).2.2.1⟩
        refine till_begin (S := fun w' => w'.cell? ⟨r, 1, none⟩ = some (.slice none n uc) ∧ w'.cell? ⟨r, 2, none⟩ = some (.slice (some ⟨b, 0, none⟩) (K + 1) mc) ∧ w'.cell? ⟨b, K, none⟩ = some (.int .i64 (m : Int))) 16 (by kernel_rfl) ?_
        refine till_take 0 (v := .pointer (some ⟨r, 0, none⟩)) (some 50) rfl rfl rfl (by kernel_rfl) (by kernel_rfl) (by kernel_rfl) (by kernel_rfl) (fun _ _ _ h => h) (Or.inl ⟨by rfl, fun u hu => by obtain ⟨b0, b1, b2⟩ := hu; go_simp⟩) (unhide HS0) ?_
        try simp only [Act.put, List.setIfInBounds_toArray, List.set_cons_zero, List.set_cons_succ]
        refine till_take 1 (v := .pointer (some ⟨r, 0, none⟩)) (some 51) rfl rfl rfl (by kernel_rfl) (by kernel_rfl) (by kernel_rfl) (by kernel_rfl) (fun _ _ _ h => h) (Or.inl ⟨by rfl, fun u hu => by obtain ⟨b0, b1, b2⟩ := hu; go_simp⟩) (unhide HS0) ?_
        try simp only [Act.put, List.setIfInBounds_toArray, List.set_cons_zero, List.set_cons_succ]
        refine till_take 2 (v := .pointer (some ⟨r, 0, none⟩)) (some 52) rfl rfl rfl (by kernel_rfl) (by kernel_rfl) (by kernel_rfl) (by kernel_rfl) (fun _ _ _ h => h) (Or.inl ⟨by rfl, fun u hu => by obtain ⟨b0, b1, b2⟩ := hu; go_simp⟩) (unhide HS0) ?_
        try simp only [Act.put, List.setIfInBounds_toArray, List.set_cons_zero, List.set_cons_succ]
        refine till_take 3 (v := .pointer (some ⟨r, 1, none⟩)) (some 53) rfl rfl rfl (by kernel_rfl) (by kernel_rfl) (by kernel_rfl) (by kernel_rfl) (fun _ _ _ h => h) (Or.inl ⟨by rfl, fun u hu => by obtain ⟨b0, b1, b2⟩ := hu; go_simp⟩) (unhide HS0) ?_
        try simp only [Act.put, List.setIfInBounds_toArray, List.set_cons_zero, List.set_cons_succ]
        refine till_take 4 (v := .slice none n uc) (some 54) rfl rfl rfl (by kernel_rfl) (by kernel_rfl) (by kernel_rfl) (by kernel_rfl) (fun _ _ _ h => h) (Or.inl ⟨by rfl, fun u hu => by obtain ⟨b0, b1, b2⟩ := hu; go_simp⟩) (unhide HS0) ?_
        try simp only [Act.put, List.setIfInBounds_toArray, List.set_cons_zero, List.set_cons_succ]
        refine till_take 5 (v := .pointer (some ⟨r, 0, none⟩)) (some 55) rfl rfl rfl (by kernel_rfl) (by kernel_rfl) (by kernel_rfl) (by kernel_rfl) (fun _ _ _ h => h) (Or.inl ⟨by rfl, fun u hu => by obtain ⟨b0, b1, b2⟩ := hu; go_simp⟩) (unhide HS0) ?_
        try simp only [Act.put, List.setIfInBounds_toArray, List.set_cons_zero, List.set_cons_succ]
        refine till_take 6 (v := .pointer (some ⟨r, 0, none⟩)) (some 56) rfl rfl rfl (by kernel_rfl) (by kernel_rfl) (by kernel_rfl) (by kernel_rfl) (fun _ _ _ h => h) (Or.inl ⟨by rfl, fun u hu => by obtain ⟨b0, b1, b2⟩ := hu; go_simp⟩) (unhide HS0) ?_
        try simp only [Act.put, List.setIfInBounds_toArray, List.set_cons_zero, List.set_cons_succ]
        refine till_take 7 (v := .pointer (some ⟨r, 2, none⟩)) (some 57) rfl rfl rfl (by kernel_rfl) (by kernel_rfl) (by kernel_rfl) (by kernel_rfl) (fun _ _ _ h => h) (Or.inl ⟨by rfl, fun u hu => by obtain ⟨b0, b1, b2⟩ := hu; go_simp⟩) (unhide HS0) ?_
        try simp only [Act.put, List.setIfInBounds_toArray, List.set_cons_zero, List.set_cons_succ]
        refine till_take 8 (v := .slice (some ⟨b, 0, none⟩) (K + 1) mc) (some 58) rfl rfl rfl (by kernel_rfl) (by kernel_rfl) (by kernel_rfl) (by kernel_rfl) (fun _ _ _ h => h) (Or.inl ⟨by rfl, fun u hu => by obtain ⟨b0, b1, b2⟩ := hu; go_simp⟩) (unhide HS0) ?_
        try simp only [Act.put, List.setIfInBounds_toArray, List.set_cons_zero, List.set_cons_succ]
        refine till_take 9 (v := .int .i64 ((K + 1 : Nat) : Int)) (some 59) rfl rfl rfl (by kernel_rfl) (by kernel_rfl) (by kernel_rfl) (by kernel_rfl) (fun _ _ _ h => h) (Or.inl ⟨by rfl, fun u hu => by obtain ⟨b0, b1, b2⟩ := hu; go_simp⟩) (unhide HS0) ?_
        try simp only [Act.put, List.setIfInBounds_toArray, List.set_cons_zero, List.set_cons_succ]
        refine till_take 10 (v := .int .i64 (K : Int)) (some 60) rfl rfl rfl (by kernel_rfl) (by kernel_rfl) (by kernel_rfl) (by kernel_rfl) (fun _ _ _ h => h) (Or.inl ⟨by rfl, fun u hu => by obtain ⟨b0, b1, b2⟩ := hu; go_simp⟩) (unhide HS0) ?_
        try simp only [Act.put, List.setIfInBounds_toArray, List.set_cons_zero, List.set_cons_succ]
        refine till_take 11 (v := .pointer (some ⟨b, K, none⟩)) (some 61) rfl rfl rfl (by kernel_rfl) (by kernel_rfl) (by kernel_rfl) (by kernel_rfl) (fun _ _ _ h => h) (Or.inl ⟨by rfl, fun u hu => by obtain ⟨b0, b1, b2⟩ := hu; go_simp⟩) (unhide HS0) ?_
        try simp only [Act.put, List.setIfInBounds_toArray, List.set_cons_zero, List.set_cons_succ]
        refine till_take 12 (v := .int .i64 (m : Int)) (some 62) rfl rfl rfl (by kernel_rfl) (by kernel_rfl) (by kernel_rfl) (by kernel_rfl) (fun _ _ _ h => h) (Or.inl ⟨by rfl, fun u hu => by obtain ⟨b0, b1, b2⟩ := hu; go_simp⟩) (unhide HS0) ?_
        try simp only [Act.put, List.setIfInBounds_toArray, List.set_cons_zero, List.set_cons_succ]
        refine till_take 13 (v := .slice none m uc) (some 63) rfl rfl rfl (by kernel_rfl) (by kernel_rfl) (by kernel_rfl) (by kernel_rfl) (fun _ _ _ h => h) (Or.inl ⟨by rfl, fun u hu => by obtain ⟨b0, b1, b2⟩ := hu; go_simp⟩) (unhide HS0) ?_
        try simp only [Act.put, List.setIfInBounds_toArray, List.set_cons_zero, List.set_cons_succ]
        refine till_one 14 (by kernel_rfl) rfl (fun K hK => ?_)
        obtain ⟨b0, b1, b2⟩ := unhide HS0
        go_simp
        refine hK.out _ _ (Or.inr (unhide HS0)) ?_
        clear hK K b0 b1 b2
        try simp only [Act.put, List.setIfInBounds_toArray, List.set_cons_zero, List.set_cons_succ]
        refine till_one 15 (by kernel_rfl) rfl (fun K hK => ?_)
        obtain ⟨b0, b1, b2⟩ := unhide HS0
        go_simp
        refine hK.out _ _ (Or.inr (unhide HS0)) ?_
        clear hK K b0 b1 b2
        try simp only [Act.put, List.setIfInBounds_toArray, List.set_cons_zero, List.set_cons_succ]
        refine till_one 16 (by kernel_rfl) rfl (fun K hK => ?_)
        obtain ⟨b0, b1, b2⟩ := unhide HS0
        have f1 := (unhide HWC).2.2.2.1
        go_simp
        refine hK.out _ _ (Or.inl (by first | rfl | trivial)) ?_
        clear hK K b0 b1 b2 f1
        try simp only [Act.put, List.setIfInBounds_toArray, List.set_cons_zero, List.set_cons_succ]
        refine till_done (by kernel_rfl) ?_ _
        obtain ⟨w8, hw8⟩ : ∃ w8, wr.drew.setCell ⟨r, 1, none⟩ (.slice none m uc) = w8 := ⟨_, rfl⟩
        have hres := (unhide HWC).2.2.2.2
        have hd8 : (wr.setCell ⟨r, 1, none⟩ (.slice none m uc)).drew = w8 := hw8
        rw [hw8] at hres
        first | rw [hw8] | rw [hd8]
        obtain ⟨k2, f2, hres⟩ := hres
        have HRES := hide hres
        clear hres hw8 hd8 HWC HS0
        go_wp2_with fail
        go_ret
        exact ⟨rfl, unhide HRES⟩
      · have HS0 : Hid (wr.drew.cell? ⟨r, 1, none⟩ = some (.slice (some ⟨ub, 0, none⟩) n uc) ∧ wr.drew.cell? ⟨r, 2, none⟩ = some (.slice (some ⟨b, 0, none⟩) (K + 1) mc) ∧ wr.drew.cell? ⟨b, K, none⟩ = some (.int .i64 (m : Int))) := hide ⟨(unhide HWC).1, (unhide HWC).2.1, (unhide HWC).2.2.1⟩
        refine till_begin (S := fun w' => w'.cell? ⟨r, 1, none⟩ = some (.slice (some ⟨ub, 0, none⟩) n uc) ∧ w'.cell? ⟨r, 2, none⟩ = some (.slice (some ⟨b, 0, none⟩) (K + 1) mc) ∧ w'.cell? ⟨b, K, none⟩ = some (.int .i64 (m : Int))) 16 (by kernel_rfl) ?_
        refine till_take 0 (v := .pointer (some ⟨r, 0, none⟩)) (some 50) rfl rfl rfl (by kernel_rfl) (by kernel_rfl) (by kernel_rfl) (by kernel_rfl) (fun _ _ _ h => h) (Or.inl ⟨by rfl, fun u hu => by obtain ⟨b0, b1, b2⟩ := hu; go_simp⟩) (unhide HS0) ?_
        try simp only [Act.put, List.setIfInBounds_toArray, List.set_cons_zero, List.set_cons_succ]
        refine till_take 1 (v := .pointer (some ⟨r, 0, none⟩)) (some 51) rfl rfl rfl (by kernel_rfl) (by kernel_rfl) (by kernel_rfl) (by kernel_rfl) (fun _ _ _ h => h) (Or.inl ⟨by rfl, fun u hu => by obtain ⟨b0, b1, b2⟩ := hu; go_simp⟩) (unhide HS0) ?_
        try simp only [Act.put, List.setIfInBounds_toArray, List.set_cons_zero, List.set_cons_succ]
        refine till_take 2 (v := .pointer (some ⟨r, 0, none⟩)) (some 52) rfl rfl rfl (by kernel_rfl) (by kernel_rfl) (by kernel_rfl) (by kernel_rfl) (fun _ _ _ h => h) (Or.inl ⟨by rfl, fun u hu => by obtain ⟨b0, b1, b2⟩ := hu; go_simp⟩) (unhide HS0) ?_
        try simp only [Act.put, List.setIfInBounds_toArray, List.set_cons_zero, List.set_cons_succ]
        refine till_take 3 (v := .pointer (some ⟨r, 1, none⟩)) (some 53) rfl rfl rfl (by kernel_rfl) (by kernel_rfl) (by kernel_rfl) (by kernel_rfl) (fun _ _ _ h => h) (Or.inl ⟨by rfl, fun u hu => by obtain ⟨b0, b1, b2⟩ := hu; go_simp⟩) (unhide HS0) ?_
        try simp only [Act.put, List.setIfInBounds_toArray, List.set_cons_zero, List.set_cons_succ]
        refine till_take 4 (v := .slice (some ⟨ub, 0, none⟩) n uc) (some 54) rfl rfl rfl (by kernel_rfl) (by kernel_rfl) (by kernel_rfl) (by kernel_rfl) (fun _ _ _ h => h) (Or.inl ⟨by rfl, fun u hu => by obtain ⟨b0, b1, b2⟩ := hu; go_simp⟩) (unhide HS0) ?_
        try simp only [Act.put, List.setIfInBounds_toArray, List.set_cons_zero, List.set_cons_succ]
        refine till_take 5 (v := .pointer (some ⟨r, 0, none⟩)) (some 55) rfl rfl rfl (by kernel_rfl) (by kernel_rfl) (by kernel_rfl) (by kernel_rfl) (fun _ _ _ h => h) (Or.inl ⟨by rfl, fun u hu => by obtain ⟨b0, b1, b2⟩ := hu; go_simp⟩) (unhide HS0) ?_
        try simp only [Act.put, List.setIfInBounds_toArray, List.set_cons_zero, List.set_cons_succ]
        refine till_take 6 (v := .pointer (some ⟨r, 0, none⟩)) (some 56) rfl rfl rfl (by kernel_rfl) (by kernel_rfl) (by kernel_rfl) (by kernel_rfl) (fun _ _ _ h => h) (Or.inl ⟨by rfl, fun u hu => by obtain ⟨b0, b1, b2⟩ := hu; go_simp⟩) (unhide HS0) ?_
        try simp only [Act.put, List.setIfInBounds_toArray, List.set_cons_zero, List.set_cons_succ]
        refine till_take 7 (v := .pointer (some ⟨r, 2, none⟩)) (some 57) rfl rfl rfl (by kernel_rfl) (by kernel_rfl) (by kernel_rfl) (by kernel_rfl) (fun _ _ _ h => h) (Or.inl ⟨by rfl, fun u hu => by obtain ⟨b0, b1, b2⟩ := hu; go_simp⟩) (unhide HS0) ?_
        try simp only [Act.put, List.setIfInBounds_toArray, List.set_cons_zero, List.set_cons_succ]
        refine till_take 8 (v := .slice (some ⟨b, 0, none⟩) (K + 1) mc) (some 58) rfl rfl rfl (by kernel_rfl) (by kernel_rfl) (by kernel_rfl) (by kernel_rfl) (fun _ _ _ h => h) (Or.inl ⟨by rfl, fun u hu => by obtain ⟨b0, b1, b2⟩ := hu; go_simp⟩) (unhide HS0) ?_
        try simp only [Act.put, List.setIfInBounds_toArray, List.set_cons_zero, List.set_cons_succ]
        refine till_take 9 (v := .int .i64 ((K + 1 : Nat) : Int)) (some 59) rfl rfl rfl (by kernel_rfl) (by kernel_rfl) (by kernel_rfl) (by kernel_rfl) (fun _ _ _ h => h) (Or.inl ⟨by rfl, fun u hu => by obtain ⟨b0, b1, b2⟩ := hu; go_simp⟩) (unhide HS0) ?_
        try simp only [Act.put, List.setIfInBounds_toArray, List.set_cons_zero, List.set_cons_succ]
        refine till_take 10 (v := .int .i64 (K : Int)) (some 60) rfl rfl rfl (by kernel_rfl) (by kernel_rfl) (by kernel_rfl) (by kernel_rfl) (fun _ _ _ h => h) (Or.inl ⟨by rfl, fun u hu => by obtain ⟨b0, b1, b2⟩ := hu; go_simp⟩) (unhide HS0) ?_
        try simp only [Act.put, List.setIfInBounds_toArray, List.set_cons_zero, List.set_cons_succ]
        refine till_take 11 (v := .pointer (some ⟨b, K, none⟩)) (some 61) rfl rfl rfl (by kernel_rfl) (by kernel_rfl) (by kernel_rfl) (by kernel_rfl) (fun _ _ _ h => h) (Or.inl ⟨by rfl, fun u hu => by obtain ⟨b0, b1, b2⟩ := hu; go_simp⟩) (unhide HS0) ?_
        try simp only [Act.put, List.setIfInBounds_toArray, List.set_cons_zero, List.set_cons_succ]
        refine till_take 12 (v := .int .i64 (m : Int)) (some 62) rfl rfl rfl (by kernel_rfl) (by kernel_rfl) (by kernel_rfl) (by kernel_rfl) (fun _ _ _ h => h) (Or.inl ⟨by rfl, fun u hu => by obtain ⟨b0, b1, b2⟩ := hu; go_simp⟩) (unhide HS0) ?_
        try simp only [Act.put, List.setIfInBounds_toArray, List.set_cons_zero, List.set_cons_succ]
        refine till_take 13 (v := .slice (some ⟨ub, 0, none⟩) m uc) (some 63) rfl rfl rfl (by kernel_rfl) (by kernel_rfl) (by kernel_rfl) (by kernel_rfl) (fun _ _ _ h => h) (Or.inl ⟨by rfl, fun u hu => by obtain ⟨b0, b1, b2⟩ := hu; go_simp⟩) (unhide HS0) ?_
        try simp only [Act.put, List.setIfInBounds_toArray, List.set_cons_zero, List.set_cons_succ]
        refine till_one 14 (by kernel_rfl) rfl (fun K hK => ?_)
        obtain ⟨b0, b1, b2⟩ := unhide HS0
        go_simp
        refine hK.out _ _ (Or.inr (unhide HS0)) ?_
        clear hK K b0 b1 b2
        try simp only [Act.put, List.setIfInBounds_toArray, List.set_cons_zero, List.set_cons_succ]
        refine till_one 15 (by kernel_rfl) rfl (fun K hK => ?_)
        obtain ⟨b0, b1, b2⟩ := unhide HS0
        go_simp
        refine hK.out _ _ (Or.inr (unhide HS0)) ?_
        clear hK K b0 b1 b2
        try simp only [Act.put, List.setIfInBounds_toArray, List.set_cons_zero, List.set_cons_succ]
        refine till_one 16 (by kernel_rfl) rfl (fun K hK => ?_)
        obtain ⟨b0, b1, b2⟩ := unhide HS0
        have f1 := (unhide HWC).2.2.2.1
        go_simp
        refine hK.out _ _ (Or.inl (by first | rfl | trivial)) ?_
        clear hK K b0 b1 b2 f1
        try simp only [Act.put, List.setIfInBounds_toArray, List.set_cons_zero, List.set_cons_succ]
        refine till_done (by kernel_rfl) ?_ _
        obtain ⟨w8, hw8⟩ : ∃ w8, wr.drew.setCell ⟨r, 1, none⟩ (.slice (some ⟨ub, 0, none⟩) m uc) = w8 := ⟨_, rfl⟩
        have hres := (unhide HWC).2.2.2.2
        have hd8 : (wr.setCell ⟨r, 1, none⟩ (.slice (some ⟨ub, 0, none⟩) m uc)).drew = w8 := hw8
        rw [hw8] at hres
        first | rw [hw8] | rw [hd8]
        obtain ⟨k2, f2, hres⟩ := hres
        have HRES := hide hres
        clear hres hw8 hd8 HWC HS0
        go_wp2_with fail
        go_ret
        exact ⟨rfl, unhide HRES⟩
end
end Go.Proofs.YtdaooapfokhfcaaGreat
