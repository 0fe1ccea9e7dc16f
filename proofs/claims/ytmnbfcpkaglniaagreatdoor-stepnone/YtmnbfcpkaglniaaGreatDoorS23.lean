/-
  Layer 12 (verify): is a constant of the kind that an operation asks for? no conditions but the form's own reach.
  Layer 12 (verify): a function's body as it lies in memory, its heights in a map; no conditions.
-/
import Derived.Test.YtmnbfcpkaglniaaGreatDoorS22
import Derived.Test.YtmnbfcpkaglniaaGreatDoorS21
import Derived.Maps.OwnSet
import Derived.Maps.OwnOps
set_option linter.unusedVariables false
set_option linter.unusedSimpArgs false
namespace Go.Proofs.YtmnbfcpkaglniaaGreatDoor
open Go.RowKit
set_option linter.unusedVariables false
set_option linter.unusedSimpArgs false
/-- can a value be a key? -/
def keyB (v : Vl) : Bool := decide (v.kind = 3)
/-- a row of values in memory -/
def ArV (w : World) (B : Nat) (vs : List Vl) (al : Option Addr) (n cl : Nat) : Prop := vs.length = n ∧ IsV w B (.mk 4 0 ⟨#[]⟩ vs []) (.agg #[.int .i64 4, .int .i64 0, .string ⟨#[]⟩, .slice al n cl, .slice none 0 0])
theorem ArV.later {w w' : World} {B : Nat} {vs : List Vl} {al : Option Addr} {n cl : Nat} (h : ArV w B vs al n cl) (hb : Below B w w') : ArV w' B vs al n cl := ⟨h.1, IsV.mono hb h.2⟩
theorem ArV.lift {w : World} {B C : Nat} {vs : List Vl} {al : Option Addr} {n cl : Nat} (h : ArV w B vs al n cl) (hb : B ≤ C) : ArV w C vs al n cl := ⟨h.1, IsV.lift hb h.2⟩
/-- the cells of a value of the row -/
theorem ArV.elem {w : World} {B : Nat} {vs : List Vl} {al : Option Addr} {n cl : Nat} (h : ArV w B vs al n cl) (i : Nat) (y : Vl) (hy : vs[i]? = some y) :
    ∃ (a : Addr) (al' ak' : Option Addr) (cl' ck' : Nat), al = some a ∧ a.block < B ∧ (∀ j v, [Value.int .i64 y.kind, .int .i64 y.n, .string y.s, .slice al' y.l.length cl', .slice ak' y.ks.length ck'][j]? = some v → w.cell? ((a.add (i * 5)).add j) = some v) ∧ IsV w B y (.agg #[.int .i64 y.kind, .int .i64 y.n, .string y.s, .slice al' y.l.length cl', .slice ak' y.ks.length ck']) := by
  obtain ⟨hn, al2, ak2, cl2, ck2, V, hx, hf, hl⟩ := h
  have hxx : al2 = al := by
    have h1 := congrArg Array.toList (Value.agg.inj hx)
    simp at h1
    exact h1.1.1.symm
  subst hxx
  have hel := (IsPL_iff w _ vs V).1 hl i y hy
  have hi : i < vs.length := (List.getElem?_eq_some_iff.1 hy).1
  obtain ⟨a3, k3, c3, d3, V3, hx3, hf3, hl3⟩ := hel
  have hVi : V i = [.int .i64 y.kind, .int .i64 y.n, .string y.s, .slice a3 y.l.length c3, .slice k3 y.ks.length d3] := by
    have h1 := congrArg Array.toList (Value.agg.inj hx3)
    simpa using h1
  cases al2 with
  | none => exact absurd (hf.nl rfl).1 (by show vs.length ≠ 0; omega)
  | some a =>
    obtain ⟨q1, q2⟩ := hf.hl a rfl i hi
    rw [hVi] at q2
    exact ⟨a, a3, k3, c3, d3, rfl, q1, q2, a3, k3, c3, d3, V3, rfl, hf3, hl3⟩
theorem other_any (v : Vl) (x : Value) (B : Nat) (w : World) (hv : IsV w B v x) (hBs : B ≤ w.heap.size) :
    Calls Tryz.prog 202 #[x] w fun e w' => e = .returned (.bool (!keyB v)) ∧ Below w.heap.size w w' := by
  obtain ⟨kd, n, s, l, ks, al, ak, cl, ck, rfl, rfl⟩ := hv.shape
  have HB : Hid (Below w.heap.size w (w.alloc (.cells #[.int .i64 kd, .int .i64 n, .string s, .slice al l.length cl, .slice ak ks.length ck] 29))) := hide ((Below.refl _ _).alloc (Nat.le_refl _) _)
  unfold keyB
  simp only []
  clear hv
  by_cases hk : kd = 3
  · subst hk
    go_enter Tryz.func202, Tryz.ntmps202
    go_wp2_with fail
    go_ret
    exact ⟨rfl, unhide HB⟩
  · have hb : (kd == 3) = false := by simpa using hk
    go_enter Tryz.func202, Tryz.ntmps202
    go_wp2_with fail
    go_ret
    exact ⟨by simp [hk], unhide HB⟩
set_option maxRecDepth 100000 in
set_option maxHeartbeats 1000000 in
theorem indexF_any (vs : List Vl) (al : Option Addr) (n cl B : Nat) (w : World) (h : ArV w B vs al n cl) (hBs : B ≤ w.heap.size) :
    Calls Tryz.prog 50 #[.slice al n cl, .func (.func 202) #[] #[]] w fun e w' => ∃ r : Int, e = .returned (.int .i64 r) ∧ (decide (0 ≤ r) = !(vs.all keyB)) ∧ Below w.heap.size w w' := by
  have hn := h.1
  have hnb : n ≤ 140737488351232 := by obtain ⟨_, _, _, _, V, _, hf, _⟩ := h.2; have := hf.bl; simp only [hn] at this; exact this
  have HN := hide hn
  have HV : Hid (∀ u, Below w.heap.size w u → ArV u B vs al n cl) := hide (fun u hu => h.later (hu.mono hBs))
  have HB := hide hBs
  clear h hn hBs
  go_enter Tryz.func50, Tryz.ntmps50
  go_wp2_with fail
  go_loopw [8] (fun x wr => ∃ i : Nat, x = .int .i64 (i : Int) ∧ Hid (i ≤ n) ∧ Hid ((vs.take i).all keyB = true ∧ Below w.heap.size w wr)) (fun x _ => n - (intOf x).toNat)
  case atStart => exact ⟨0, rfl, hide (by omega), hide ⟨rfl, Below.refl _ _⟩⟩
  case round =>
    obtain ⟨i, rfl, HI1, HX⟩ := hrel
    by_cases hlt : i < n
    · have j1 : (i : Int) < (n : Int) := by omega
      have HI2 : Hid (i + 1 ≤ n) := hide (by omega)
      obtain ⟨y, hy⟩ : ∃ y, vs[i]? = some y := ⟨_, List.getElem?_eq_getElem (by have := unhide HN; omega)⟩
      obtain ⟨a, al', ak', cl', ck', rfl, hab, hc, hp⟩ := (unhide HV wr (unhide HX).2).elem i y hy
      have c0 : wr.cell? (a.add (i * 5)) = some (.int .i64 y.kind) := hc 0 _ rfl
      have c1 : wr.cell? ⟨(a.add (i * 5)).block, (a.add (i * 5)).off + 1, none⟩ = some (.int .i64 y.n) := hc 1 _ rfl
      have c2 : wr.cell? ⟨(a.add (i * 5)).block, (a.add (i * 5)).off + 2, none⟩ = some (.string y.s) := hc 2 _ rfl
      have c3 : wr.cell? ⟨(a.add (i * 5)).block, (a.add (i * 5)).off + 3, none⟩ = some (.slice al' y.l.length cl') := hc 3 _ rfl
      have c4 : wr.cell? ⟨(a.add (i * 5)).block, (a.add (i * 5)).off + 4, none⟩ = some (.slice ak' y.ks.length ck') := hc 4 _ rfl
      have CW := hide (other_any y _ B wr hp (Nat.le_trans (unhide HB) (unhide HX).2.size))
      obtain ⟨R, hR⟩ : ∃ R, keyB y = R := ⟨_, rfl⟩
      have HY : Hid (vs[i]? = some y ∧ keyB y = R) := hide ⟨hy, hR⟩
      rw [hR] at CW
      clear hc hp hy hR
      cases R with
      | true =>
        go_wp2_with fail
        refine (unhide CW).mono ?_
        rintro e u ⟨rfl, b2⟩
        have H2 : Hid ((vs.take (i + 1)).all keyB = true ∧ Below w.heap.size w u) := hide ⟨by rw [List.take_add_one, (unhide HY).1]; simp only [Option.toList_some, List.all_append, (unhide HX).1, List.all_cons, (unhide HY).2]; rfl, (unhide HX).2.trans (b2.mono (unhide HX).2.size)⟩
        clear b2 CW c0 c1 c2 c3 c4
        go_wp2_with fail
        go_roundw
        case rel => exact ⟨i + 1, by go_num, HI2, H2⟩
        case measure => simp [intOf]; omega
      | false =>
        go_wp2_with fail
        refine (unhide CW).mono ?_
        rintro e u ⟨rfl, b2⟩
        have H2 : Hid (Below w.heap.size w u) := hide ((unhide HX).2.trans (b2.mono (unhide HX).2.size))
        clear b2 CW c0 c1 c2 c3 c4
        go_wp2_with fail
        go_ret
        exact ⟨_, rfl, by
          have : vs.all keyB = false := by
            rw [List.all_eq_false]
            exact ⟨y, List.mem_of_getElem? (unhide HY).1, by rw [(unhide HY).2]; decide⟩
          rw [this]
          simp, unhide H2⟩
    · have j1 : ¬ (i : Int) < (n : Int) := by omega
      have HE : Hid (vs.all keyB = true) := hide (by
        have h1 := (unhide HX).1
        rw [List.take_of_length_le (by have := unhide HN; omega)] at h1
        exact h1)
      go_wp2_with fail
      go_ret
      exact ⟨-1, rfl, by rw [unhide HE]; rfl, (unhide HX).2⟩
theorem contains_any (vs : List Vl) (al : Option Addr) (n cl B : Nat) (w : World) (h : ArV w B vs al n cl) (hBs : B ≤ w.heap.size) :
    Calls Tryz.prog 28 #[.slice al n cl, .func (.func 202) #[] #[]] w fun e w' => e = .returned (.bool (!(vs.all keyB))) ∧ Below w.heap.size w w' := by
  have CC := hide (indexF_any vs al n cl B w h hBs)
  clear h hBs
  go_enter Tryz.func28, Tryz.ntmps28
  go_wp2_with fail
  refine (unhide CC).mono ?_
  rintro e u ⟨r, rfl, hr, b⟩
  have HR := hide (And.intro hr b)
  clear hr b CC
  go_wp2_with fail
  go_ret
  exact ⟨by rw [← (unhide HR).1]; rfl, (unhide HR).2⟩
set_option maxRecDepth 100000 in
set_option maxHeartbeats 400000 in
theorem serves_any (op : Int) (v : Vl) (x : Value) (B : Nat) (w : World) (hv : IsV w B v x) (hBs : B ≤ w.heap.size) :
    Calls Tryz.prog 170 #[.int .i64 op, x] w fun e w' => e = .returned (.bool (servesB op v)) ∧ Below w.heap.size w w' := by
  obtain ⟨kd, n, s, l, ks, al, ak, cl, ck, V, rfl, rfl, hf, el⟩ := hv.inv
  have HL : ArV w B l al l.length cl := ⟨rfl, IsP.of (V := V) ⟨by omega, by omega, by decide, hf.nl, fun _ => ⟨rfl, rfl⟩, hf.ll, Nat.le_refl _, hf.bl, by simp, by simp, hf.hl, hf.hv, (fun a h => by cases h), by simp⟩ el⟩
  obtain ⟨gb, hgb⟩ : ∃ gb, w.heap.size = gb := ⟨_, rfl⟩
  obtain ⟨w1, hw1⟩ : ∃ w1, w.alloc (.cells #[.int .i64 kd, .int .i64 n, .string s, .slice al l.length cl, .slice ak ks.length ck] 29) = w1 := ⟨_, rfl⟩
  have n1 : w1.heap[gb]? = some (.cells #[.int .i64 kd, .int .i64 n, .string s, .slice al l.length cl, .slice ak ks.length ck] 29 (0, 0)) := by rw [← hw1, ← hgb]; exact heap_alloc_new w _
  have b1 : Below w.heap.size w w1 := by rw [← hw1]; exact (Below.refl _ _).alloc (Nat.le_refl _) _
  obtain ⟨c0, c1, c2, c3, c4⟩ := row_cell n1
  have B1 := hide b1
  have CC := hide (contains_any l al l.length cl B w1 (HL.later (b1.mono hBs)) (Nat.le_trans hBs b1.size))
  obtain ⟨K, hK⟩ : ∃ K, l.all keyB = K := ⟨_, rfl⟩
  obtain ⟨R, hR⟩ : ∃ R, servesB op (.mk kd n s l ks) = R := ⟨_, rfl⟩
  have HR : Hid ((op = 24 → kd = 4 → R = K) ∧ (op = 24 → ¬ kd = 4 → R = false) ∧ (op = 26 → R = decide (kd = 3)) ∧ (¬ op = 24 → ¬ op = 26 → R = true)) := hide (by
    have hk : (l.all fun y => decide (y.kind = 3)) = K := hK
    rw [← hR, ← hk]
    unfold servesB
    refine ⟨fun h1 h2 => ?_, fun h1 h2 => ?_, fun h1 => ?_, fun h1 h2 => ?_⟩
    · rw [if_pos h1]; simp [h2]
    · rw [if_pos h1]; simp [h2]
    · rw [if_neg (by omega), if_pos h1]
    · rw [if_neg h1, if_neg h2])
  rw [hK] at CC
  rw [hR]
  clear n1 b1 hv hf el HL hK hR
  generalize l.length = ln at *
  generalize ks.length = kn at *
  by_cases h24 : op = 24
  · subst h24
    by_cases hk : kd = 4
    · subst hk
      have hRe := (unhide HR).1 rfl rfl
      subst hRe
      go_enter Tryz.func170, Tryz.ntmps170
      go_wp2_with fail
      refine (unhide CC).mono ?_
      rintro e u ⟨rfl, b2⟩
      have B2 := hide ((unhide B1).trans (b2.mono (unhide B1).size))
      clear b2 CC
      go_wp2_with fail
      go_ret
      exact ⟨by simp, by first | exact unhide B2 | (rw [← hgb]; exact unhide B2)⟩
    · have hb : (kd == 4) = false := by simpa using hk
      have hRe := (unhide HR).2.1 rfl hk
      subst hRe
      go_enter Tryz.func170, Tryz.ntmps170
      go_wp2_with fail
      go_ret
      exact ⟨rfl, by first | exact unhide B1 | (rw [← hgb]; exact unhide B1)⟩
  · have n24 : (op == 24) = false := by simpa using h24
    by_cases h26 : op = 26
    · subst h26
      have HE := hide ((unhide HR).2.2.1 rfl)
      clear HR
      by_cases hk : kd = 3
      · subst hk
        go_enter Tryz.func170, Tryz.ntmps170
        go_wp2_with fail
        go_ret
        exact ⟨by rw [unhide HE]; rfl, by first | exact unhide B1 | (rw [← hgb]; exact unhide B1)⟩
      · have hb : (kd == 3) = false := by simpa using hk
        go_enter Tryz.func170, Tryz.ntmps170
        go_wp2_with fail
        go_ret
        exact ⟨by rw [unhide HE]; simp [hk], by first | exact unhide B1 | (rw [← hgb]; exact unhide B1)⟩
    · have n26 : (op == 26) = false := by simpa using h26
      have hRe := (unhide HR).2.2.2 h24 h26
      subst hRe
      go_enter Tryz.func170, Tryz.ntmps170
      go_wp2_with fail
      go_ret
      exact ⟨rfl, by first | exact unhide B1 | (rw [← hgb]; exact unhide B1)⟩
theorem keyedI : Maps.Keyed Tryz.prog 3 := Maps.int_keyed Tryz.underlying3
theorem wf64 {k : Int} (h : i64B k) : (Lit.int .i64 k).wf = true := by
  unfold i64B at h
  have h1 : IntKind.i64.min = -9223372036854775808 := by decide
  have h2 : IntKind.i64.max = 9223372036854775807 := by decide
  simp [Lit.wf, h1, h2]
  omega
theorem keyI {k : Int} (h : i64B k) : keyOf Tryz.prog 3 (.int .i64 k) = some (.int .i64 k) := Maps.keyOf_int_mk Tryz.underlying3 (wf64 h)
theorem zeroI (w : World) : (zeroValue 3).run Tryz.prog w = .ok (.int .i64 0) w := by
  obtain ⟨i0, hi, hz0, hz1, hz2⟩ := info_parts infoInt
  simp [zeroValue, typeInfo, hi, hz0]
/-- heights in a map -/
def Hts (w : World) (b : Nat) (H : List (Int × Int)) : Prop :=
  ∃ D : DataW Unit, w.ownsMap Tryz.prog 3 (plainElem Tryz.prog 3) b H.length D ∧ ∀ k, i64B k → Maps.has D (.int .i64 k) = (H.lookup k).isSome ∧ ∀ h, H.lookup k = some h → D.atKey (.int .i64 k) (.lit (.int .i64 0)) = .lit (.int .i64 h)
theorem Hts.later {w w' : World} {b : Nat} {H : List (Int × Int)} (h : Hts w b H) (hb : w'.heap[b]? = w.heap[b]?) : Hts w' b H := by
  obtain ⟨D, ⟨es, ck, h1, h2⟩, h3⟩ := h
  exact ⟨D, ⟨es, ck, hb.trans h1, h2⟩, h3⟩
theorem Hts.isMap {w : World} {b : Nat} {H : List (Int × Int)} (h : Hts w b H) : ∃ es ck, w.heap[b]? = some (.map es ck) := by
  obtain ⟨D, ⟨es, ck, h1, h2⟩, h3⟩ := h
  exact ⟨es, ck, h1⟩
theorem Hts.made (w : World) : Hts (w.alloc (.map #[] 0)) w.heap.size [] := ⟨.map [], World.ownsMap_made w _ _ _, fun k hk => ⟨rfl, fun h hh => by cases hh⟩⟩
/-- 'm[k]' -/
theorem Hts.get {w : World} {b : Nat} {H : List (Int × Int)} (h : Hts w b H) {k : Int} (hk : i64B k) (t : TypeId) (ht : Tryz.prog.underlying t = some (.map 3 3)) :
    (Instr.lookup t (.map (some b)) (.int .i64 k) false).run Tryz.prog w = .ok (.int .i64 ((H.lookup k).getD 0)) w := by
  obtain ⟨D, h1, h2⟩ := h
  obtain ⟨c, hrun, hat, _⟩ := h1.lookup_int keyedI ht Tryz.underlying3 (zeroI w) (keyI hk)
  rw [hrun]
  obtain ⟨h3, h4⟩ := h2 k hk
  cases e : H.lookup k with
  | none =>
    rw [e] at h3
    rw [Maps.atKey_of_not_has h3] at hat
    cases hat
    rfl
  | some x =>
    rw [h4 x e] at hat
    cases hat
    rfl
/-- 'x, ok := m[k]' -/
theorem Hts.ask {w : World} {b : Nat} {H : List (Int × Int)} (h : Hts w b H) {k : Int} (hk : i64B k) (t : TypeId) (ht : Tryz.prog.underlying t = some (.map 3 3)) :
    (Instr.lookup t (.map (some b)) (.int .i64 k) true).run Tryz.prog w = .ok (.tuple #[.int .i64 ((H.lookup k).getD 0), .bool (H.lookup k).isSome]) w := by
  obtain ⟨D, h1, h2⟩ := h
  obtain ⟨v, ps, hrun, hv⟩ := h1.look_ok keyedI ht (zeroI w) (plainElem_int Tryz.underlying3 (a := 0) (by decide)) (keyI hk)
  obtain ⟨c, rfl, hc, _⟩ := plainElem_int_inv Tryz.underlying3 hv
  have hat := congrArg Prod.fst hc
  simp only [] at hat
  rw [hrun]
  obtain ⟨h3, h4⟩ := h2 k hk
  cases e : H.lookup k with
  | none =>
    rw [e] at h3
    rw [Maps.atKey_of_not_has h3] at hat
    cases hat
    rw [h3]
    rfl
  | some x =>
    rw [h4 x e] at hat
    cases hat
    rw [h3, e]
    rfl
/-- 'm[k] = x' -/
theorem Hts.put {w : World} {b : Nat} {H : List (Int × Int)} (h : Hts w b H) {k x : Int} (hk : i64B k) (hx : i64B x) (hl : H.length < maxLen) (t : TypeId) (ht : Tryz.prog.underlying t = some (.map 3 3)) :
    ∃ w', (Instr.mapUpdate t (.map (some b)) (.int .i64 k) (.int .i64 x)).run Tryz.prog w = .ok () w' ∧ Hts w' b ((k, x) :: H) ∧ w.grownBy w' (some b) := by
  obtain ⟨D, h1, h2⟩ := h
  obtain ⟨w', hrun, ho, hg⟩ := h1.update keyedI ht hl (keyI hk) (plainElem_int Tryz.underlying3 (wf64 hx))
  refine ⟨w', hrun, ⟨_, ho, fun k' hk' => ?_⟩, hg⟩
  have hm := h1.isMap
  have hkl : WideAt.IsKeyLit (.int .i64 k) := by first | trivial | exact ⟨_, _, rfl⟩ | simp [WideAt.IsKeyLit]
  rw [lookup_cons']
  by_cases e : k' = k
  · subst e
    rw [if_pos rfl]
    exact ⟨Maps.has_put_same hm hkl _, fun h hh => by cases hh; exact Maps.atKey_put_same hm hkl _ _⟩
  · rw [if_neg e]
    have hne : (Lit.int .i64 k') ≠ .int .i64 k := fun hc => e (by cases hc; rfl)
    rw [Maps.has_put_other hne]
    exact ⟨(h2 k' hk').1, fun h hh => by rw [Maps.atKey_put_other hne]; exact (h2 k' hk').2 h hh⟩
end Go.Proofs.YtmnbfcpkaglniaaGreatDoor
