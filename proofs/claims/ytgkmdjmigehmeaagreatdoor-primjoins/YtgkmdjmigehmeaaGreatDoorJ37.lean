/-
  How many values an operation takes, whether all are right, and how Do goes (prim); conditions: the package's variables.
-/
import Derived.Test.YtgkmdjmigehmeaaGreatDoorJ36
set_option linter.unusedVariables false
set_option linter.unusedSimpArgs false
namespace Go.Proofs.YtgkmdjmigehmeaaGreatDoor
open Go.RowKit
set_option linter.unusedVariables false
set_option linter.unusedSimpArgs false

set_option maxRecDepth 100000 in
theorem contains_any (vs : List Vl) (al : Option Addr) (n cl B : Nat) (w : World) (h : ArV w B vs al n cl) (hBs : B ≤ w.heap.size) :
    Calls Tryz.prog 46 #[.slice al n cl, .func (.func 47) #[] #[]] w fun e w' => e = .returned (.bool (!(vs.all rightB))) ∧ Below w.heap.size w w' := by
  have CC := hide (indexF_any vs al n cl B w h hBs)
  clear h hBs
  go_enter Tryz.func46, Tryz.ntmps46
  go_wp2_with fail
  refine (unhide CC).mono ?_
  rintro e u ⟨r, rfl, hr, b⟩
  have HR := hide (And.intro hr b)
  clear hr b CC
  go_wp2_with fail
  go_ret
  exact ⟨by rw [← (unhide HR).1]; rfl, (unhide HR).2⟩

theorem block6 {w : World} {gb : Nat} {x0 x1 x2 x3 x4 x5 : Value} {T : TypeId} (h : w.heap[gb]? = some (.cells #[x0, x1, x2, x3, x4, x5] T (0, 0))) : w.cell? ⟨gb, 0, none⟩ = some x0 ∧ w.cell? ⟨gb, 1, none⟩ = some x1 ∧ w.cell? ⟨gb, 2, none⟩ = some x2 ∧ w.cell? ⟨gb, 3, none⟩ = some x3 ∧ w.cell? ⟨gb, 4, none⟩ = some x4 ∧ w.cell? ⟨gb, 5, none⟩ = some x5 :=
  ⟨by rw [cell_of_row w gb 0 _ _ (0, 0) h]; rfl, by rw [cell_of_row w gb 1 _ _ (0, 0) h]; rfl, by rw [cell_of_row w gb 2 _ _ (0, 0) h]; rfl, by rw [cell_of_row w gb 3 _ _ (0, 0) h]; rfl, by rw [cell_of_row w gb 4 _ _ (0, 0) h]; rfl, by rw [cell_of_row w gb 5 _ _ (0, 0) h]; rfl⟩

set_option maxRecDepth 100000 in
set_option maxHeartbeats 1000000 in
theorem tright_any (ex : Vl) (e0 e1 : Int) (e2 : ByteArray) (e3 : Option Addr) (e4 e5 : Nat) (e6 : Option Addr) (e7 e8 : Nat) (vs : List Vl) (al : Option Addr) (n cl B : Nat) (w : World) (hx : IsV w B ex (.agg #[.int .i64 e0, .int .i64 e1, .string e2, .slice e3 e4 e5, .slice e6 e7 e8])) (h : ArV w B vs al n cl) (hBs : B ≤ w.heap.size) :
    Calls Tryz.prog 28 #[.agg #[.int .i64 e0, .int .i64 e1, .string e2, .slice e3 e4 e5, .slice e6 e7 e8, .slice al n cl]] w fun e w' => e = .returned (.bool (rightB ex && vs.all rightB)) ∧ Below w.heap.size w w' := by
  obtain ⟨gb, hgb⟩ : ∃ gb, w.heap.size = gb := ⟨_, rfl⟩
  obtain ⟨w1, hw1⟩ : ∃ w1, w.alloc (.cells #[.int .i64 e0, .int .i64 e1, .string e2, .slice e3 e4 e5, .slice e6 e7 e8, .slice al n cl] 50) = w1 := ⟨_, rfl⟩
  have n1 : w1.heap[gb]? = some (.cells #[.int .i64 e0, .int .i64 e1, .string e2, .slice e3 e4 e5, .slice e6 e7 e8, .slice al n cl] 50 (0, 0)) := by rw [← hw1, ← hgb]; exact heap_alloc_new w _
  have b1 : Below w.heap.size w w1 := by rw [← hw1]; exact (Below.refl _ _).alloc (Nat.le_refl _) _
  obtain ⟨c0, c1, c2, c3, c4, c5⟩ := block6 n1
  have CR := hide (right_code ex _ B w1 (IsV.mono (b1.mono hBs) hx) (Nat.le_trans hBs b1.size))
  have HB := hide (And.intro b1 n1)
  have HA : Hid (∀ u, Below w1.heap.size w1 u → Calls Tryz.prog 46 #[.slice al n cl, .func (.func 47) #[] #[]] u fun e w' => e = .returned (.bool (!(vs.all rightB))) ∧ Below u.heap.size u w') := hide (fun u hu => contains_any vs al n cl B u (h.later ((b1.trans (hu.mono b1.size)).mono hBs)) (Nat.le_trans hBs (b1.trans (hu.mono b1.size)).size))
  obtain ⟨R, hR⟩ : ∃ R, rightB ex = R := ⟨_, rfl⟩
  obtain ⟨A, hA⟩ : ∃ A, vs.all rightB = A := ⟨_, rfl⟩
  rw [hR] at CR ⊢
  rw [hA] at HA ⊢
  clear n1 b1 hx h hR hA
  cases R with
  | false =>
    go_enter Tryz.func28, Tryz.ntmps28
    go_wp2_with fail
    refine (unhide CR).mono ?_
    rintro e u ⟨rfl, b2⟩
    have B2 := hide ((unhide HB).1.trans (b2.mono (unhide HB).1.size))
    clear b2 CR
    go_wp2_with fail
    go_ret
    exact ⟨rfl, by first | exact unhide B2 | (rw [← hgb]; exact unhide B2)⟩
  | true =>
    go_enter Tryz.func28, Tryz.ntmps28
    go_wp2_with fail
    refine (unhide CR).mono ?_
    rintro e u ⟨rfl, b2⟩
    have B2 := hide ((unhide HB).1.trans (b2.mono (unhide HB).1.size))
    have C2 := hide (unhide HA u b2)
    obtain ⟨z0, z1, z2, z3, z4, z5⟩ := block6 ((b2.block gb (Array.getElem?_eq_some_iff.1 (unhide HB).2).1).trans (unhide HB).2)
    clear b2 CR c0 c1 c2 c3 c4 c5
    go_wp2_with fail
    refine (unhide C2).mono ?_
    rintro e u2 ⟨rfl, b3⟩
    have B3 := hide ((unhide B2).trans (b3.mono (unhide B2).size))
    clear b3 C2
    go_wp2_with fail
    go_ret
    exact ⟨by simp, by first | exact unhide B3 | (rw [← hgb]; exact unhide B3)⟩

/-- how many values an operation takes -/
def takesA (op n : Int) (ex : Vl) : Int := if 10 ≤ op ∧ op ≤ 37 then (if op = 23 then cntA n else if op = 24 then (if ex.kind = 4 ∧ rightB ex = true then cntA ex.l.length else 0) else (infoA op).1.2.2.1) else 0

set_option maxRecDepth 100000 in
set_option maxHeartbeats 1000000 in
theorem takes_any (op k : Int) (ex : Vl) (e0 e1 : Int) (e2 : ByteArray) (e3 : Option Addr) (e4 e5 : Nat) (e6 : Option Addr) (e7 e8 : Nat) (B : Nat) (w : World) (ht : Tab w) (hx : IsV w B ex (.agg #[.int .i64 e0, .int .i64 e1, .string e2, .slice e3 e4 e5, .slice e6 e7 e8])) (hBs : B ≤ w.heap.size) :
    Calls Tryz.prog 19 #[.int .i64 op, .int .i64 k, .agg #[.int .i64 e0, .int .i64 e1, .string e2, .slice e3 e4 e5, .slice e6 e7 e8]] w fun e w' => e = .returned (.int .i64 (takesA op k ex)) ∧ Below w.heap.size w w' := by
  obtain ⟨kd, kn, s, l, ks, hal, hak, hcl, hck, rfl, hxe⟩ := hx.shape
  have hxe' := congrArg Array.toList (Value.agg.inj hxe)
  simp only [List.cons.injEq, Value.int.injEq, Value.string.injEq, Value.slice.injEq, true_and, and_true] at hxe'
  obtain ⟨rfl, rfl, rfl, ⟨rfl, rfl, rfl⟩, ⟨rfl, rfl, rfl⟩⟩ := hxe'
  clear hxe
  obtain ⟨gb, hgb⟩ : ∃ gb, w.heap.size = gb := ⟨_, rfl⟩
  obtain ⟨w1, hw1⟩ : ∃ w1, w.alloc (.cells #[.int .i64 e0, .int .i64 e1, .string e2, .slice e3 l.length e5, .slice e6 ks.length e8] 25) = w1 := ⟨_, rfl⟩
  have n1 : w1.heap[gb]? = some (.cells #[.int .i64 e0, .int .i64 e1, .string e2, .slice e3 l.length e5, .slice e6 ks.length e8] 25 (0, 0)) := by rw [← hw1, ← hgb]; exact heap_alloc_new w _
  have b1 : Below w.heap.size w w1 := by rw [← hw1]; exact (Below.refl _ _).alloc (Nat.le_refl _) _
  obtain ⟨c0, c1, c2, c3, c4⟩ := block5 n1
  have CP := hide (pure_any op w1)
  have HB := hide (And.intro b1 n1)
  have HT : Hid (∀ u, Below w1.heap.size w1 u → Tab u) := hide (fun u hu => ht.later (b1.trans (hu.mono b1.size)) ht.big (b1.trans (hu.mono b1.size)).size)
  have HX : Hid (∀ u, Below w1.heap.size w1 u → Calls Tryz.prog 22 #[.agg #[.int .i64 e0, .int .i64 e1, .string e2, .slice e3 l.length e5, .slice e6 ks.length e8]] u fun e w' => e = .returned (.bool (rightB (.mk e0 e1 e2 l ks))) ∧ Below u.heap.size u w') := hide (fun u hu => right_code _ _ B u (IsV.mono ((b1.trans (hu.mono b1.size)).mono hBs) hx) (Nat.le_trans hBs (b1.trans (hu.mono b1.size)).size))
  obtain ⟨A, hA⟩ : ∃ A, takesA op k (.mk e0 e1 e2 l ks) = A := ⟨_, rfl⟩
  rw [hA]
  have HA := hide hA
  clear n1 b1 hx ht hA
  by_cases hp : 10 ≤ op ∧ op ≤ 37
  · rw [decide_eq_true hp] at CP
    by_cases h23 : op = 23
    · subst h23
      have HA2 : Hid (cntA k = A) := hide (by have := unhide HA; unfold takesA at this; rw [if_pos hp, if_pos rfl] at this; exact this)
      clear hp
      go_enter Tryz.func19, Tryz.ntmps19
      go_wp2_with fail
      refine (unhide CP).mono ?_
      rintro e u ⟨rfl, b2⟩
      have B2 := hide ((unhide HB).1.trans (b2.mono (unhide HB).1.size))
      have C2 := hide (counted_any k u)
      clear b2 CP
      go_wp2_with fail
      refine (unhide C2).mono ?_
      rintro e u2 ⟨rfl, b3⟩
      have B3 := hide ((unhide B2).trans (b3.mono (unhide B2).size))
      clear b3 C2
      go_wp2_with fail
      go_ret
      exact ⟨by rw [← unhide HA2]; rfl, by first | exact unhide B3 | (rw [← hgb]; exact unhide B3)⟩
    · have h23b : (op == 23) = false := beq_eq_false_iff_ne.2 h23
      by_cases h24 : op = 24
      · subst h24
        have HA2 : Hid ((if e0 = 4 ∧ rightB (.mk e0 e1 e2 l ks) = true then cntA l.length else 0) = A) := hide (by have := unhide HA; unfold takesA at this; rw [if_pos hp, if_neg h23, if_pos rfl] at this; exact this)
        clear hp h23
        by_cases h4 : e0 = 4
        · subst h4
          obtain ⟨R, hR⟩ : ∃ R, rightB (.mk 4 e1 e2 l ks) = R := ⟨_, rfl⟩
          rw [hR] at HX HA2
          clear hR HA
          go_enter Tryz.func19, Tryz.ntmps19
          go_wp2_with fail
          refine (unhide CP).mono ?_
          rintro e u ⟨rfl, b2⟩
          have B2 := hide ((unhide HB).1.trans (b2.mono (unhide HB).1.size))
          have CX := hide (unhide HX u b2)
          obtain ⟨z0, z1, z2, z3, z4⟩ := block5 ((b2.block gb (Array.getElem?_eq_some_iff.1 (unhide HB).2).1).trans (unhide HB).2)
          have HZ := hide ((b2.block gb (Array.getElem?_eq_some_iff.1 (unhide HB).2).1).trans (unhide HB).2)
          clear b2 CP c0 c1 c2 c3 c4 HX
          cases R with
          | false =>
            go_wp2_with fail
            refine (unhide CX).mono ?_
            rintro e u2 ⟨rfl, b3⟩
            have B3 := hide ((unhide B2).trans (b3.mono (unhide B2).size))
            clear b3 CX
            go_wp2_with fail
            go_ret
            exact ⟨by rw [← unhide HA2]; rfl, by first | exact unhide B3 | (rw [← hgb]; exact unhide B3)⟩
          | true =>
            go_wp2_with fail
            refine (unhide CX).mono ?_
            rintro e u2 ⟨rfl, b3⟩
            have B3 := hide ((unhide B2).trans (b3.mono (unhide B2).size))
            obtain ⟨y0, y1, y2, y3, y4⟩ := block5 ((b3.block gb (Array.getElem?_eq_some_iff.1 (unhide HZ)).1).trans (unhide HZ))
            have C3 := hide (counted_any l.length u2)
            clear b3 CX z0 z1 z2 z3 z4
            go_wp2_with fail
            refine (unhide C3).mono ?_
            rintro e u3 ⟨rfl, b4⟩
            have B4 := hide ((unhide B3).trans (b4.mono (unhide B3).size))
            clear b4 C3
            go_wp2_with fail
            go_ret
            exact ⟨by rw [← unhide HA2]; rfl, by first | exact unhide B4 | (rw [← hgb]; exact unhide B4)⟩
        · have h4b : (e0 == 4) = false := beq_eq_false_iff_ne.2 h4
          have HA3 : Hid (0 = A) := hide (by rw [← unhide HA2, if_neg (fun h => h4 h.1)])
          go_enter Tryz.func19, Tryz.ntmps19
          go_wp2_with fail
          refine (unhide CP).mono ?_
          rintro e u ⟨rfl, b2⟩
          have B2 := hide ((unhide HB).1.trans (b2.mono (unhide HB).1.size))
          obtain ⟨z0, z1, z2, z3, z4⟩ := block5 ((b2.block gb (Array.getElem?_eq_some_iff.1 (unhide HB).2).1).trans (unhide HB).2)
          clear b2 CP c0 c1 c2 c3 c4
          go_wp2_with fail
          go_ret
          exact ⟨by rw [← unhide HA3]; rfl, by first | exact unhide B2 | (rw [← hgb]; exact unhide B2)⟩
      · have h24b : (op == 24) = false := beq_eq_false_iff_ne.2 h24
        obtain ⟨⟨is, i1, i2, i3, i4, i5⟩, hI⟩ : ∃ x, (infoA op).1 = x := ⟨_, rfl⟩
        have HA2 : Hid (i2 = A) := hide (by have := unhide HA; unfold takesA at this; rw [if_pos hp, if_neg h23, if_neg h24, hI] at this; exact this)
        have hI2 : (infoA op).2 = true := by unfold infoA; rw [if_pos (by omega)]
        have HII : Hid (∀ u, Below w1.heap.size w1 u → Calls Tryz.prog 42 #[.int .i64 op] u fun e w' => e = .returned (.tuple #[.agg #[.string is, .int .i64 i1, .int .i64 i2, .int .i64 i3, .int .i64 i4, .int .i64 i5], .bool true]) ∧ Below u.heap.size u w') := hide (fun u hu => by
          have := info_any op u (unhide HT u hu)
          rw [hI, hI2] at this
          exact this)
        clear hp hI hI2
        go_enter Tryz.func19, Tryz.ntmps19
        go_wp2_with fail
        refine (unhide CP).mono ?_
        rintro e u ⟨rfl, b2⟩
        have B2 := hide ((unhide HB).1.trans (b2.mono (unhide HB).1.size))
        have CI := hide (unhide HII u b2)
        clear b2 CP c0 c1 c2 c3 c4
        go_wp2_with fail
        refine (unhide CI).mono ?_
        rintro e u2 ⟨rfl, b3⟩
        have B3 := hide ((unhide B2).trans (b3.mono (unhide B2).size))
        clear b3 CI
        go_wp2_with fail
        go_ret
        exact ⟨by rw [← unhide HA2]; rfl, by first | exact (unhide B3).alloc (unhide B3).size _ | (rw [← hgb]; exact (unhide B3).alloc (unhide B3).size _)⟩
  · rw [decide_eq_false hp] at CP
    have HA2 : Hid (0 = A) := hide (by have := unhide HA; unfold takesA at this; rw [if_neg hp] at this; exact this)
    clear hp
    go_enter Tryz.func19, Tryz.ntmps19
    go_wp2_with fail
    refine (unhide CP).mono ?_
    rintro e u ⟨rfl, b2⟩
    have B2 := hide ((unhide HB).1.trans (b2.mono (unhide HB).1.size))
    clear b2 CP
    go_wp2_with fail
    go_ret
    exact ⟨by rw [← unhide HA2]; rfl, by first | exact unhide B2 | (rw [← hgb]; exact unhide B2)⟩
end Go.Proofs.YtgkmdjmigehmeaaGreatDoor
