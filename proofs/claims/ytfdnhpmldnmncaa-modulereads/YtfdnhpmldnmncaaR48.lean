/-
  The walk of the document's own reader of a section (scrupleref09.reader.section); conditions: the form's own reach.
  The walk of the document's own reader of a section (scrupleref09.reader.section); conditions: the form's own reach.
-/
import Derived.Test.YtfdnhpmldnmncaaR38
import Derived.Test.YtfdnhpmldnmncaaR47
namespace Go.Proofs.Ytfdnhpmldnmncaa
open Go.RowKit
set_option linter.unusedVariables false

/-- what a reader of a section leaves -/
def ResS (w0 : World) (gm gr : Nat) (q : Int) (r : Except (Int × Int) (Md × Nat)) (x : Ending) (w' : World) : Prop := x = .returned (.tuple #[]) ∧ match r with
  | .error p => ¬ p.1 = 0 ∧ ∃ (bv : Value) (a : Nat) (C F X : Value) (m : Md) (V : Nat → List Value), RdQ w0 w' gm gr bv a p.1 p.2 C F X m V
  | .ok (m, a) => ∃ (bv C F X : Value) (V : Nat → List Value), RdQ w0 w' gm gr bv a 0 q C F X m V

theorem ResQ.split {w0 : World} {gm gr : Nat} {bv : Value} {q : Int} {r : Except (Int × Int) (Md × Nat)} {x : Ending} {w' : World} (h : ResQ w0 gm gr bv q r x w') : x = .returned (.tuple #[]) ∧ ∃ (a : Nat) (f q' : Int) (C F X : Value) (m : Md) (V : Nat → List Value), RdQ w0 w' gm gr bv a f q' C F X m V ∧ ((f = 0 ∧ q' = q ∧ r = .ok (m, a)) ∨ (¬ f = 0 ∧ r = .error (f, q'))) := by
  obtain ⟨h1, h2⟩ := h
  refine ⟨h1, ?_⟩
  cases r with
  | error p =>
    obtain ⟨k, a, C, F, X, m, V, R⟩ := h2
    exact ⟨a, p.1, p.2, C, F, X, m, V, R, Or.inr ⟨k, rfl⟩⟩
  | ok p =>
    obtain ⟨m, a⟩ := p
    obtain ⟨C, F, X, V, R⟩ := h2
    exact ⟨a, 0, q, C, F, X, m, V, R, Or.inl ⟨rfl, rfl, rfl⟩⟩

theorem rdP_of (bs : List Int) (most : Int) (f : Md → Nat → Except (Int × Int) (Md × Nat)) (m : Md) (a : Nat) : rdP bs most f m a = match rdL bs most f m a with
    | .error e => .error e
    | .ok (m', a') => if a' < bs.length then .error (91, (a' : Int)) else .ok (m', a') := by
  unfold rdP rdL
  cases rdNo bs a most 92 with
  | error c => rfl
  | ok r => rfl

theorem rdL_le {bs : List Int} (hs : ∀ c ∈ bs, 0 ≤ c ∧ c ≤ 255) (i : Nat) (m m' : Md) (a a' : Nat) (hJ : Jk i 0 m) (h : rdL bs (mostM i) (rdOne i bs) m a = .ok (m', a')) : a' ≤ bs.length := by
  unfold rdL at h
  cases h1 : rdNo bs a (mostM i) 92 with
  | error c => rw [h1] at h; cases h
  | ok r =>
    obtain ⟨n, a1⟩ := r
    rw [h1] at h
    have h2 := no_ok hs h1
    obtain ⟨_, L, _, _, _, _, h3, _⟩ := n_ok hs i n.toNat 0 m a1 m' a' hJ (by omega) h
    exact h3

theorem RdQ.set {w0 w : World} {gm gr : Nat} {bv : Value} {p f q : Int} {C F X : Value} {m : Md} {V : Nat → List Value} (h : RdQ w0 w gm gr bv p f q C F X m V) (v : Value) (a : Nat) : RdQ w0 ((w.setCell ⟨gr, 0, none⟩ v).setCell ⟨gr, 1, none⟩ (.int .i64 (a : Int))) gm gr v a f q C F X m V :=
  h.beside (Beside.set (Beside.set (Beside.refl _ _))) (by unfold Qf; rw [heap_setCell_same _ gr 1 _ _ _ (heap_setCell_same w gr 0 _ _ _ h.rd)]; rfl)

/-- behind a section's parts: all must be read -/
theorem sec_end {w0 : World} {gm gr e : Nat} {q : Int} {zs bs : List Int} {i : Nat} {m m2 : Md} {a a2 : Nat} {f2 q2 : Int} {u : World} {b3 : Nat} {f3 q3 : Int} {bv C2 F2 X2 : Value} {V2 : Nat → List Value} (hs : ∀ c ∈ bs, 0 ≤ c ∧ c ≤ 255) (hJ : Jk i 0 m) (he : bs.length = e)
    (hE : (f2 = 0 ∧ q2 = q ∧ rdL bs (mostM i) (rdOne i bs) m a = .ok (m2, a2)) ∨ (¬ f2 = 0 ∧ rdL bs (mostM i) (rdOne i bs) m a = .error (f2, q2))) (hw : (if a2 = e then (a2, f2, q2) else wrQ 91 (a2 : Int) (a2, f2, q2)) = (b3, f3, q3)) (hR : RdQ w0 u gm gr bv b3 f3 q3 C2 F2 X2 m2 V2) :
    ResS w0 gm gr q (rdP bs (mostM i) (rdOne i bs) m a) (.returned (.tuple #[])) u := by
  rw [rdP_of]
  refine ⟨rfl, ?_⟩
  rcases hE with ⟨rfl, rfl, h⟩ | ⟨hf, h⟩
  · have hle := rdL_le hs i m m2 a a2 hJ h
    rw [h]
    dsimp only
    by_cases h1 : a2 = e
    · rw [if_pos h1] at hw
      rw [if_neg (by omega)]
      simp only [Prod.mk.injEq] at hw
      obtain ⟨rfl, rfl, rfl⟩ := hw
      exact ⟨bv, C2, F2, X2, V2, hR⟩
    · rw [if_neg h1] at hw
      rw [if_pos (by omega)]
      unfold wrQ at hw
      rw [if_pos rfl] at hw
      simp only [Prod.mk.injEq] at hw
      obtain ⟨rfl, rfl, rfl⟩ := hw
      exact ⟨by show ¬ (91 : Int) = 0; decide, bv, _, C2, F2, X2, m2, V2, hR⟩
  · rw [h]
    dsimp only
    have h3 : (b3, f3, q3) = (a2, f2, q2) := by
      rw [← hw]
      unfold wrQ
      rw [if_neg hf]
      split <;> rfl
    simp only [Prod.mk.injEq] at h3
    obtain ⟨rfl, rfl, rfl⟩ := h3
    exact ⟨hf, bv, _, C2, F2, X2, m2, V2, hR⟩
end Go.Proofs.Ytfdnhpmldnmncaa

namespace Go.Proofs.Ytfdnhpmldnmncaa
open Go.RowKit
set_option linter.unusedVariables false

set_option maxRecDepth 100000 in
set_option maxHeartbeats 4000000 in
theorem section_q (w0 : World) (gm gr : Nat) (bv : Value) (ao : Option Addr) (len cap : Nat) (a : Nat) (q : Int) (C F X : Value) (m : Md) (V : Nat → List Value) (zs : List Int) (i : Nat) (no : Int) (w : World) (h : RdQ w0 w gm gr bv a 0 q C F X m V) (hz : Row8 w0 ao len cap zs) (hg : w0.heap.size ≤ gm) (hm : cap ≤ maxLen) (hlen : len ≤ 65536) (ha : a ≤ len) (hi : i = 0 ∨ i = 1 ∨ i = 2) (hno : no = (i : Int) + 1) (hJ : Jk i 0 m) :
    Calls Try.prog 14 #[.pointer (some ⟨gr, 0, none⟩), .slice ao len cap, .int .i64 no, .pointer (some ⟨gm, 0, none⟩)] w fun x w' => ResS w0 gm gr q (rdS zs i m a) x w' := by
  obtain ⟨c0, c1, c2, c3, z0, z1, z2, z3⟩ := h.rd.cells
  have HH := hide h
  have hl := hz.length
  have hle := hz.le
  have hw : Row8 w ao len cap zs := (h.src hz hg hm).row
  have HZ := hide hz
  have hsm := hz.small
  have HJ := hide hJ
  have hS : rdS zs i m a = match rdO zs no a with
      | .error p => .error (91, p)
      | .ok (b, e) => rdP (zs.take e) (mostM i) (rdOne i (zs.take e)) m b := by rw [hno]; rfl
  have HI := hide (And.intro hi hno)
  clear hi hno hJ
  by_cases hend : a = len
  · have hO : rdO zs no a = .error (a : Int) := by unfold rdO; rw [if_pos]; rw [List.getElem?_eq_none (by omega)]; simp
    rw [hS, hO]
    dsimp only
    have k1 : (len : Int) ≤ (a : Int) := by omega
    have CW := hide (wrong_u gr bv a 0 q 91 a w h.rd)
    clear hS hO h hz hw hend
    go_enter Try.func14, Try.ntmps14
    go_wp2_with fail
    refine (unhide CW).mono ?_
    rintro x u ⟨rfl, r1, b1⟩
    have HR := hide ((unhide HH).beside b1 r1)
    clear r1 b1 CW
    go_wp2_with fail
    go_end0
    exact ⟨rfl, by show ¬ (91 : Int) = 0; decide, _, _, _, _, _, _, _, unhide HR⟩
  have hlt : a < len := by omega
  have k1 : ¬ (len : Int) ≤ (a : Int) := by omega
  have i1 : (a : Int) < (len : Int) := by omega
  obtain ⟨b, off, rfl, hc⟩ := hw.at (by omega)
  have ca := hc a hlt
  obtain ⟨x, hx⟩ : ∃ x, zs[a]? = some x := ⟨_, List.getElem?_eq_getElem (by omega)⟩
  have hgd : zs.getD a 0 = x := by rw [List.getD_eq_getElem?_getD, hx]; rfl
  rw [hgd] at ca
  have hx0 := hsm x (List.mem_of_getElem? hx)
  have wx : IntKind.i64.wrap x = x := by rw [IntKind.wrap_i64]; omega
  clear hgd hc hw
  by_cases hnx : x = no
  case neg =>
    have hO : rdO zs no a = .error (a : Int) := by unfold rdO; rw [if_pos]; rw [hx]; simpa using hnx
    rw [hS, hO]
    dsimp only
    have k3 : (x == no) = false := beq_eq_false_iff_ne.2 hnx
    have CW := hide (wrong_u gr bv a 0 q 91 a w h.rd)
    clear hS hO h hz
    go_enter Try.func14, Try.ntmps14
    go_wp2_with fail
    refine (unhide CW).mono ?_
    rintro x u ⟨rfl, r1, b1⟩
    have HR := hide ((unhide HH).beside b1 r1)
    clear r1 b1 CW
    go_wp2_with fail
    go_end0
    exact ⟨rfl, by show ¬ (91 : Int) = 0; decide, _, _, _, _, _, _, _, unhide HR⟩
  subst hnx
  have wa : IntKind.i64.wrap ((a : Int) + 1) = (a : Int) + 1 := by rw [IntKind.wrap_i64]; omega
  have CI := hide (refUint_any (some ⟨b, off, none⟩) len cap ((a : Int) + 1) zs w (h.src hz hg hm).row hm)
  have hform : (uintAt zs ((a : Int) + 1)).2.2 = 0 → 0 ≤ (uintAt zs ((a : Int) + 1)).1 ∧ 0 ≤ (uintAt zs ((a : Int) + 1)).2.1 ∧ (uintAt zs ((a : Int) + 1)).2.1 ≤ (len : Int) := fun h0 => by
    obtain ⟨q, k, h1, h2, h3, h4, h5, h6, h7⟩ := uint_form zs ((a : Int) + 1) hsm h0
    have e0 : uintAt zs ((a : Int) + 1) = ((uintAt zs ((a : Int) + 1)).1, (uintAt zs ((a : Int) + 1)).2.1, 0) := by rw [← h0]
    have h8 := uint_nat hsm e0
    refine ⟨h8.1, h8.2, ?_⟩
    omega
  have hx2 := uint_max zs ((a : Int) + 1) hsm
  have hO : rdO zs x a = if (uintAt zs ((a : Int) + 1)).2.2 ≠ 0 ∨ (zs.length : Int) - (uintAt zs ((a : Int) + 1)).2.1 < (uintAt zs ((a : Int) + 1)).1 then .error ((a : Int) + 1)
    else .ok ((uintAt zs ((a : Int) + 1)).2.1.toNat, ((uintAt zs ((a : Int) + 1)).2.1 + (uintAt zs ((a : Int) + 1)).1).toNat) := by
    unfold rdO
    rw [if_neg (by rw [hx]; simp)]
  rw [hS, hO, hl]
  have CW := hide (wrong_u gr bv a 0 q 91 ((a : Int) + 1) w h.rd)
  clear hO h hz hx hS
  generalize uintAt zs ((a : Int) + 1) = r at *
  obtain ⟨sz, nx, er⟩ := r
  dsimp only at *
  by_cases he : er ≠ 0
  · have k4 : ¬ er = 0 := he
    rw [if_pos (Or.inl he)]
    dsimp only
    go_enter Try.func14, Try.ntmps14
    go_wp2_with fail
    refine (unhide CI).mono ?_
    rintro y u ⟨rfl, rfl⟩
    go_wp2_with fail
    refine (unhide CW).mono ?_
    rintro y u ⟨rfl, r1, b1⟩
    have HR := hide ((unhide HH).beside b1 r1)
    clear r1 b1 CW
    go_wp2_with fail
    go_end0
    exact ⟨rfl, by show ¬ (91 : Int) = 0; decide, _, _, _, _, _, _, _, unhide HR⟩
  · have e0 : er = 0 := by simpa using he
    subst e0
    obtain ⟨f1, f2, f3⟩ := hform rfl
    have w1 : IntKind.i64.wrap ((len : Int) - nx) = (len : Int) - nx := by rw [IntKind.wrap_i64]; omega
    have w2 : IntKind.u64.wrap ((len : Int) - nx) = (len : Int) - nx := by rw [IntKind.wrap_u64]; omega
    clear he hform
    by_cases hbig : (len : Int) - nx < sz
    · rw [if_pos (Or.inr hbig)]
      dsimp only
      go_enter Try.func14, Try.ntmps14
      go_wp2_with fail
      refine (unhide CI).mono ?_
      rintro y u ⟨rfl, rfl⟩
      go_wp2_with fail
      refine (unhide CW).mono ?_
      rintro y u ⟨rfl, r1, b1⟩
      have HR := hide ((unhide HH).beside b1 r1)
      clear r1 b1 CW
      go_wp2_with fail
      go_end0
      exact ⟨rfl, by show ¬ (91 : Int) = 0; decide, _, _, _, _, _, _, _, unhide HR⟩
    · rw [if_neg (by omega)]
      obtain ⟨N, rfl⟩ : ∃ N : Nat, nx = (N : Int) := ⟨nx.toNat, by omega⟩
      obtain ⟨S, rfl⟩ : ∃ S : Nat, sz = (S : Int) := ⟨sz.toNat, by omega⟩
      have w3 : IntKind.i64.wrap (S : Int) = (S : Int) := by rw [IntKind.wrap_i64]; omega
      have w4 : IntKind.i64.wrap ((N : Int) + (S : Int)) = (N : Int) + (S : Int) := by rw [IntKind.wrap_i64]; omega
      have w5 : (N : Int) + (S : Int) ≤ (cap : Int) := by omega
      have w6 : 0 ≤ (N : Int) + (S : Int) := by omega
      have hNS : ((N : Int) + (S : Int)).toNat = N + S := by omega
      rw [Int.toNat_natCast, hNS]
      dsimp only
      have hEl : N + S ≤ len := by omega
      have HNS := hide hNS
      have HB : Hid (Row8 w0 (some ⟨b, off, none⟩) (N + S) cap (zs.take (N + S)) ∧ (zs.take (N + S)).length = N + S) := hide ⟨(unhide HZ).take (N + S) hEl, by rw [List.length_take]; omega⟩
      clear CW hNS
      go_enter Try.func14, Try.ntmps14
      go_wp2_with fail
      refine (unhide CI).mono ?_
      rintro y u ⟨rfl, rfl⟩
      go_upto_region 8 with fail
      have hR := (unhide HH).set (.slice (some ⟨b, off, none⟩) (N + S) cap) N
      obtain ⟨E, hE⟩ : ∃ E, N + S = E := ⟨_, rfl⟩
      rw [hE] at hR HB ⊢
      obtain ⟨u8, hu8⟩ : ∃ u8, (u.setCell ⟨gr, 0, none⟩ (.slice (some ⟨b, off, none⟩) E cap)).setCell ⟨gr, 1, none⟩ (.int .i64 (N : Int)) = u8 := ⟨_, rfl⟩
      rw [hu8] at hR ⊢
      have HR := hide hR
      have HEE := hide hE
      have hJJ := unhide HJ
      clear hR hu8 HNS c0 c1 c2 c3 z0 z1 z2 z3 ca
      clear hE w1 w2 w3 w4 w5 w6 f1 f2 f3 hbig hx2 wx wa hx0 hEl
      rcases (unhide HI).1 with rfl | rfl | rfl
      · have hx1 : x = 1 := by have := (unhide HI).2; simpa using this
        subst hx1
        have CQ := hide (consts_q w0 gm gr (some ⟨b, off, none⟩) E cap N q C F X m V (zs.take E) u8 (unhide HR) (unhide HB).1 hg hm (by have := hJJ.2; omega))
        clear HI
        go_wp2_with fail
        refine (unhide CQ).mono ?_
        rintro y u9 hres
        obtain ⟨rfl, a2, f2', q2, C2, F2, X2, m2, V2, R2, hE2⟩ := hres.split
        have HR2 := hide R2
        have HE2 := hide hE2
        clear hres R2 hE2 CQ
        obtain ⟨b3, f3', q3, hE3⟩ : ∃ b f q, (if a2 = E then (a2, f2', q2) else wrQ 91 (a2 : Int) (a2, f2', q2)) = (b, f, q) := ⟨_, _, _, rfl⟩
        have HE3 := hide hE3
        clear hE3
        go_upto_region 15 with fail
        obtain ⟨d0, d1, d2, d3, _, _, _, _⟩ := (unhide HR2).rd.cells
        by_cases haE : a2 = E
        · have e3 := unhide HE3
          rw [if_pos haE] at e3
          simp only [Prod.mk.injEq] at e3
          obtain ⟨rfl, rfl, rfl⟩ := e3
          have k8 : ((a2 : Int) == (E : Int)) = true := beq_iff_eq.2 (by omega)
          have k9 : (a2 : Int) = (E : Int) := by omega
          have k10 : (a2 != E) = false := by simp [haE]
          have HF := fun nq => hide (sec_end (w0 := w0) (gm := gm) (gr := gr) (q := q) (zs := zs) (u := u9.drewN nq) (unhide HB).1.small (unhide HJ) (unhide HB).2 (unhide HE2) (unhide HE3) ((unhide HR2).drew nq))
          clear haE
          go_quiet (fail)
          go_wp2_with fail
          go_end0
          have hh := unhide (HF nq)
          rw [← unhide HEE] at hh
          exact hh
        · have e3 := unhide HE3
          rw [if_neg haE] at e3
          have k8 : ((a2 : Int) == (E : Int)) = false := beq_eq_false_iff_ne.2 (by omega)
          have k9 : ¬ (a2 : Int) = (E : Int) := by omega
          have k10 : (a2 != E) = true := by simp [haE]
          have CW := fun nq => hide (wrong_u gr (.slice (some ⟨b, off, none⟩) E cap) a2 f2' q2 91 a2 (u9.drewN nq) ((unhide HR2).drew nq).rd)
          rw [e3] at CW
          have k11 := fun nq => ((unhide HR2).drew nq).rd.cells.2.1
          clear haE e3
          go_quiet (fail)
          have k12 := k11 nq
          clear k11
          go_wp2_with fail
          refine (unhide (CW _)).mono ?_
          rintro y u10 ⟨rfl, r1, b1⟩
          have HR3 := hide (((unhide HR2).drew _).beside b1 r1)
          clear r1 b1 CW
          go_wp2_with fail
          go_end0
          have hh := sec_end (zs := zs) (unhide HB).1.small (unhide HJ) (unhide HB).2 (unhide HE2) (unhide HE3) (unhide HR3)
          rw [← unhide HEE] at hh
          exact hh
      · have hx1 : x = 2 := by have := (unhide HI).2; simpa using this
        subst hx1
        have CQ := hide (funcs_q w0 gm gr (some ⟨b, off, none⟩) E cap N q C F X m V (zs.take E) u8 (unhide HR) (unhide HB).1 hg hm (by have := hJJ.2; omega))
        clear HI
        go_wp2_with fail
        refine (unhide CQ).mono ?_
        rintro y u9 hres
        obtain ⟨rfl, a2, f2', q2, C2, F2, X2, m2, V2, R2, hE2⟩ := hres.split
        have HR2 := hide R2
        have HE2 := hide hE2
        clear hres R2 hE2 CQ
        obtain ⟨b3, f3', q3, hE3⟩ : ∃ b f q, (if a2 = E then (a2, f2', q2) else wrQ 91 (a2 : Int) (a2, f2', q2)) = (b, f, q) := ⟨_, _, _, rfl⟩
        have HE3 := hide hE3
        clear hE3
        go_upto_region 15 with fail
        obtain ⟨d0, d1, d2, d3, _, _, _, _⟩ := (unhide HR2).rd.cells
        by_cases haE : a2 = E
        · have e3 := unhide HE3
          rw [if_pos haE] at e3
          simp only [Prod.mk.injEq] at e3
          obtain ⟨rfl, rfl, rfl⟩ := e3
          have k8 : ((a2 : Int) == (E : Int)) = true := beq_iff_eq.2 (by omega)
          have k9 : (a2 : Int) = (E : Int) := by omega
          have k10 : (a2 != E) = false := by simp [haE]
          have HF := fun nq => hide (sec_end (w0 := w0) (gm := gm) (gr := gr) (q := q) (zs := zs) (u := u9.drewN nq) (unhide HB).1.small (unhide HJ) (unhide HB).2 (unhide HE2) (unhide HE3) ((unhide HR2).drew nq))
          clear haE
          go_quiet (fail)
          go_wp2_with fail
          go_end0
          have hh := unhide (HF nq)
          rw [← unhide HEE] at hh
          exact hh
        · have e3 := unhide HE3
          rw [if_neg haE] at e3
          have k8 : ((a2 : Int) == (E : Int)) = false := beq_eq_false_iff_ne.2 (by omega)
          have k9 : ¬ (a2 : Int) = (E : Int) := by omega
          have k10 : (a2 != E) = true := by simp [haE]
          have CW := fun nq => hide (wrong_u gr (.slice (some ⟨b, off, none⟩) E cap) a2 f2' q2 91 a2 (u9.drewN nq) ((unhide HR2).drew nq).rd)
          rw [e3] at CW
          have k11 := fun nq => ((unhide HR2).drew nq).rd.cells.2.1
          clear haE e3
          go_quiet (fail)
          have k12 := k11 nq
          clear k11
          go_wp2_with fail
          refine (unhide (CW _)).mono ?_
          rintro y u10 ⟨rfl, r1, b1⟩
          have HR3 := hide (((unhide HR2).drew _).beside b1 r1)
          clear r1 b1 CW
          go_wp2_with fail
          go_end0
          have hh := sec_end (zs := zs) (unhide HB).1.small (unhide HJ) (unhide HB).2 (unhide HE2) (unhide HE3) (unhide HR3)
          rw [← unhide HEE] at hh
          exact hh
      · have hx1 : x = 3 := by have := (unhide HI).2; simpa using this
        subst hx1
        have CQ := hide (exports_q w0 gm gr (some ⟨b, off, none⟩) E cap N q C F X m V (zs.take E) u8 (unhide HR) (unhide HB).1 hg hm (by have := hJJ.2; omega) (List.length_eq_zero_iff.1 (by have := hJJ.2; omega)))
        clear HI
        go_wp2_with fail
        refine (unhide CQ).mono ?_
        rintro y u9 hres
        obtain ⟨rfl, a2, f2', q2, C2, F2, X2, m2, V2, R2, hE2⟩ := hres.split
        have HR2 := hide R2
        have HE2 := hide hE2
        clear hres R2 hE2 CQ
        obtain ⟨b3, f3', q3, hE3⟩ : ∃ b f q, (if a2 = E then (a2, f2', q2) else wrQ 91 (a2 : Int) (a2, f2', q2)) = (b, f, q) := ⟨_, _, _, rfl⟩
        have HE3 := hide hE3
        clear hE3
        go_upto_region 15 with fail
        obtain ⟨d0, d1, d2, d3, _, _, _, _⟩ := (unhide HR2).rd.cells
        by_cases haE : a2 = E
        · have e3 := unhide HE3
          rw [if_pos haE] at e3
          simp only [Prod.mk.injEq] at e3
          obtain ⟨rfl, rfl, rfl⟩ := e3
          have k8 : ((a2 : Int) == (E : Int)) = true := beq_iff_eq.2 (by omega)
          have k9 : (a2 : Int) = (E : Int) := by omega
          have k10 : (a2 != E) = false := by simp [haE]
          have HF := fun nq => hide (sec_end (w0 := w0) (gm := gm) (gr := gr) (q := q) (zs := zs) (u := u9.drewN nq) (unhide HB).1.small (unhide HJ) (unhide HB).2 (unhide HE2) (unhide HE3) ((unhide HR2).drew nq))
          clear haE
          go_quiet (fail)
          go_wp2_with fail
          go_end0
          have hh := unhide (HF nq)
          rw [← unhide HEE] at hh
          exact hh
        · have e3 := unhide HE3
          rw [if_neg haE] at e3
          have k8 : ((a2 : Int) == (E : Int)) = false := beq_eq_false_iff_ne.2 (by omega)
          have k9 : ¬ (a2 : Int) = (E : Int) := by omega
          have k10 : (a2 != E) = true := by simp [haE]
          have CW := fun nq => hide (wrong_u gr (.slice (some ⟨b, off, none⟩) E cap) a2 f2' q2 91 a2 (u9.drewN nq) ((unhide HR2).drew nq).rd)
          rw [e3] at CW
          have k11 := fun nq => ((unhide HR2).drew nq).rd.cells.2.1
          clear haE e3
          go_quiet (fail)
          have k12 := k11 nq
          clear k11
          go_wp2_with fail
          refine (unhide (CW _)).mono ?_
          rintro y u10 ⟨rfl, r1, b1⟩
          have HR3 := hide (((unhide HR2).drew _).beside b1 r1)
          clear r1 b1 CW
          go_wp2_with fail
          go_end0
          have hh := sec_end (zs := zs) (unhide HB).1.small (unhide HJ) (unhide HB).2 (unhide HE2) (unhide HE3) (unhide HR3)
          rw [← unhide HEE] at hh
          exact hh
end Go.Proofs.Ytfdnhpmldnmncaa
