/-
  What every program tells of operations; how many values an operation takes, by the document (prim); conditions: the package's variables.
-/
import Derived.Test.YtgkmdjmigehmeaaGreatDoorJ41
import Derived.Test.YtgkmdjmigehmeaaGreatDoorJ11
set_option linter.unusedVariables false
set_option linter.unusedSimpArgs false
namespace Go.Proofs.YtgkmdjmigehmeaaGreatDoor
open Go.RowKit
set_option linter.unusedVariables false
set_option linter.unusedSimpArgs false

/-- one result, which lies in memory -/
theorem ret_c {P : Program} {fn : Func} {p : Tmp} {T : TypeId} (h : fn.results = #[.cell p T]) (tmps : Array Value) (w : World) (g : Nat) (c : Array Value) (d : TypeDesc) (t : TypeId)
    (hp : tmps.getD p undef = .pointer (some ⟨g, 0, none⟩)) (hb : w.heap[g]? = some (.cells c t (0, 0))) (hu : P.underlying T = some d) (hd : (match d with | .struct _ | .array _ _ => true | _ => false) = true) (hi : (P.info? T).map (·.size) = some c.size) :
    (results fn tmps).run P w = .ok (.agg c) w := by
  have hl := run_loadVar_row (P := P) w g t T c (0, 0) _ hb hu hd hi
  have hp' : tmps[p]?.getD undef = .pointer (some ⟨g, 0, none⟩) := by simpa using hp
  simp [results, h, hp', asAddr, Result.andThen, hl]

set_option maxRecDepth 100000 in
theorem lawnum_any (n : Int) (w : World) : Calls Tryz.prog 25 #[.int .i64 n] w fun e w' => e = .returned (.agg #[.int .i64 2, .int .i64 n, .string ⟨#[]⟩, .slice none 0 0, .slice none 0 0]) ∧ Below w.heap.size w w' := by
  go_enter Tryz.func25, Tryz.ntmps25
  go_wp2_with fail
  (try simp only [Exit.inBlock, Exit.then])
  refine bodyPost_ret (ret_c rfl _ _ w.heap.size #[.int .i64 2, .int .i64 n, .string ⟨#[]⟩, .slice none 0 0, .slice none 0 0] _ _ rfl (heap_alloc_new w _) Tryz.underlying25 rfl size_vl) rfl ?_
  exact ⟨rfl, (Below.refl _ _).alloc (Nat.le_refl _) _⟩

set_option maxRecDepth 100000 in
theorem rpure_any (op : Int) (w : World) : Calls Tryz.prog 20 #[.int .i64 op] w fun e w' => e = .returned (.bool (decide (10 ≤ op ∧ op ≤ 37))) ∧ Below w.heap.size w w' := by
  by_cases h1 : 10 ≤ op
  · by_cases h2 : op ≤ 37
    · rw [decide_eq_true ⟨h1, h2⟩]
      go_enter Tryz.func20, Tryz.ntmps20
      go_wp2_with fail
      go_ret
      exact ⟨rfl, Below.refl _ _⟩
    · rw [decide_eq_false (fun h => h2 h.2)]
      go_enter Tryz.func20, Tryz.ntmps20
      go_wp2_with fail
      go_ret
      exact ⟨rfl, Below.refl _ _⟩
  · rw [decide_eq_false (fun h => h1 h.1)]
    go_enter Tryz.func20, Tryz.ntmps20
    go_wp2_with fail
    go_ret
    exact ⟨rfl, Below.refl _ _⟩


set_option maxRecDepth 100000 in
set_option maxHeartbeats 1000000 in
theorem shown_any (w : World) (ht : Tab w) : Calls Tryz.prog 9 #[] w fun e w' => e = .returned (.bool true) ∧ Below w.heap.size w w' := by
  have CN := hide (lawnum_any 2 w)
  have HT : Hid (∀ u, Below w.heap.size w u → Tab u) := hide (fun u hu => ht.later hu ht.big hu.size)
  clear ht
  go_enter Tryz.func9, Tryz.ntmps9
  go_wp2_with fail
  refine (unhide CN).mono ?_
  rintro e u1 ⟨rfl, d1⟩
  have D1 := hide d1
  have C2 := hide (lawnum_any 3 u1)
  clear d1 CN
  go_wp2_with fail
  refine (unhide C2).mono ?_
  rintro e u2 ⟨rfl, d2⟩
  have D2 := hide ((unhide D1).trans (d2.mono (unhide D1).size))
  obtain ⟨g, hg⟩ : ∃ g, u2.heap.size = g := ⟨_, rfl⟩
  obtain ⟨u3, hu3⟩ : ∃ u3, u2.alloc (.cells #[.int .i64 2, .int .i64 2, .string ⟨#[]⟩, .slice none 0 0, .slice none 0 0, .int .i64 2, .int .i64 3, .string ⟨#[]⟩, .slice none 0 0, .slice none 0 0] 25) = u3 := ⟨_, rfl⟩
  have n3 : u3.heap[g]? = some (.cells #[.int .i64 2, .int .i64 2, .string ⟨#[]⟩, .slice none 0 0, .slice none 0 0, .int .i64 2, .int .i64 3, .string ⟨#[]⟩, .slice none 0 0, .slice none 0 0] 25 (0, 0)) := by rw [← hu3, ← hg]; exact heap_alloc_new u2 _
  have d3 : Below u2.heap.size u2 u3 := by rw [← hu3]; exact (Below.refl _ _).alloc (Nat.le_refl _) _
  have D3 : Hid (Below w.heap.size w u3) := hide ((unhide D2).trans (d3.mono (unhide D2).size))
  have C3 := hide (do_add 2 3 g 0 25 u3 (unhide HT u3 (unhide D3)) n3 ⟨by omega, by omega⟩)
  rw [show wrap64 (2 + 3) = 5 by simp only [wrap64]; omega] at C3
  clear d2 C2 n3 d3 D1 D2
  go_wp2_with fail
  refine (unhide C3).mono ?_
  rintro e u4 ⟨rfl, d4⟩
  have D4 := hide ((unhide D3).trans (d4.mono (unhide D3).size))
  clear d4 C3
  go_wp2_with fail
  go_ret
  exact ⟨by simp, by first | exact (unhide D4).alloc (unhide D4).size _ | (rw [← hg]; exact (unhide D4).alloc (unhide D4).size _)⟩

/-- how many values an operation takes, by the document -/
def onesB (op : Int) : Bool := op == 15 || op == 16 || op == 26 || op == 27 || op == 33 || op == 35 || op == 36 || op == 37
def threesB (op : Int) : Bool := op == 29 || op == 30 || op == 31
def takesR (op k : Int) (ex : Vl) : Int := if onesB op then 1 else if threesB op then 3 else if op = 23 then cntA k else if op = 24 then (if ex.kind = 4 ∧ rightB ex = true then cntA ex.l.length else 0) else if 10 ≤ op ∧ op ≤ 37 then 2 else 0

theorem takes_same (op k : Int) (ex : Vl) : takesA op k ex = takesR op k ex := by
  unfold takesA takesR
  by_cases hp : 10 ≤ op ∧ op ≤ 37
  · rw [if_pos hp]
    by_cases h23 : op = 23
    · subst h23; rfl
    · by_cases h24 : op = 24
      · subst h24; rfl
      · rw [if_neg h23, if_neg h24, if_neg h23, if_neg h24, if_pos hp]
        rcases (show op = 10 ∨ op = 11 ∨ op = 12 ∨ op = 13 ∨ op = 14 ∨ op = 15 ∨ op = 16 ∨ op = 17 ∨ op = 18 ∨ op = 19 ∨ op = 20 ∨ op = 21 ∨ op = 22 ∨ op = 25 ∨ op = 26 ∨ op = 27 ∨ op = 28 ∨ op = 29 ∨ op = 30 ∨ op = 31 ∨ op = 32 ∨ op = 33 ∨ op = 34 ∨ op = 35 ∨ op = 36 ∨ op = 37 by omega) with rfl | rfl | rfl | rfl | rfl | rfl | rfl | rfl | rfl | rfl | rfl | rfl | rfl | rfl | rfl | rfl | rfl | rfl | rfl | rfl | rfl | rfl | rfl | rfl | rfl | rfl <;> kernel_rfl
  · rw [if_neg hp, if_neg (show ¬ onesB op = true by unfold onesB; simp; omega), if_neg (show ¬ threesB op = true by unfold threesB; simp; omega), if_neg (by omega), if_neg (by omega), if_neg hp]

set_option maxRecDepth 100000 in
set_option maxHeartbeats 4000000 in
theorem rtakes_any (op k : Int) (ex : Vl) (e0 e1 : Int) (e2 : ByteArray) (e3 : Option Addr) (e4 e5 : Nat) (e6 : Option Addr) (e7 e8 : Nat) (B : Nat) (w : World) (hx : IsV w B ex (.agg #[.int .i64 e0, .int .i64 e1, .string e2, .slice e3 e4 e5, .slice e6 e7 e8])) (hBs : B ≤ w.heap.size) :
    Calls Tryz.prog 21 #[.int .i64 op, .int .i64 k, .agg #[.int .i64 e0, .int .i64 e1, .string e2, .slice e3 e4 e5, .slice e6 e7 e8]] w fun e w' => e = .returned (.int .i64 (takesR op k ex)) ∧ Below w.heap.size w w' := by
  obtain ⟨kd, kn, s, l, ks, hal, hak, hcl, hck, rfl, hxe⟩ := hx.shape
  have hxe' := congrArg Array.toList (Value.agg.inj hxe)
  simp only [List.cons.injEq, Value.int.injEq, Value.string.injEq, Value.slice.injEq, true_and, and_true] at hxe'
  obtain ⟨rfl, rfl, rfl, ⟨rfl, rfl, rfl⟩, ⟨rfl, rfl, rfl⟩⟩ := hxe'
  clear hxe
  obtain ⟨gb, hgb⟩ : ∃ gb, w.heap.size = gb := ⟨_, rfl⟩
  obtain ⟨w1, hw1⟩ : ∃ w1, w.alloc (.cells #[.int .i64 e0, .int .i64 e1, .string e2, .slice e3 l.length e5, .slice e6 ks.length e8] 25) = w1 := ⟨_, rfl⟩
  have n1 : w1.heap[gb]? = some (.cells #[.int .i64 e0, .int .i64 e1, .string e2, .slice e3 l.length e5, .slice e6 ks.length e8] 25 (0, 0)) := by rw [← hw1, ← hgb]; exact heap_alloc_new w _
  have b1 : Below w.heap.size w w1 := by rw [← hw1]; exact (Below.refl _ _).alloc (Nat.le_refl _) _
  obtain ⟨c0, c1, c2, c3, c4⟩ := block5 n1
  have HB := hide (And.intro b1 n1)
  have CX := hide (right_ref _ _ B w1 (IsV.mono (b1.mono hBs) hx) (Nat.le_trans hBs b1.size))
  have CP := hide (rpure_any op w1)
  obtain ⟨A, hA⟩ : ∃ A, takesR op k (.mk e0 e1 e2 l ks) = A := ⟨_, rfl⟩
  have HA := hide hA
  rw [hA]
  clear n1 b1 hx hA
  by_cases h1 : onesB op = true
  · have HA1 : Hid (1 = A) := hide (by rw [← unhide HA]; unfold takesR; rw [if_pos h1])
    have h1' : op = 15 ∨ op = 16 ∨ op = 26 ∨ op = 27 ∨ op = 33 ∨ op = 35 ∨ op = 36 ∨ op = 37 := by unfold onesB at h1; simp at h1; omega
    clear h1 CX HA
    rcases h1' with rfl | rfl | rfl | rfl | rfl | rfl | rfl | rfl
    · go_enter Tryz.func21, Tryz.ntmps21
      go_wp2_with fail
      go_ret
      exact ⟨by rw [← unhide HA1]; rfl, by first | exact (unhide HB).1 | (rw [← hgb]; exact (unhide HB).1)⟩
    · go_enter Tryz.func21, Tryz.ntmps21
      go_wp2_with fail
      go_ret
      exact ⟨by rw [← unhide HA1]; rfl, by first | exact (unhide HB).1 | (rw [← hgb]; exact (unhide HB).1)⟩
    · go_enter Tryz.func21, Tryz.ntmps21
      go_wp2_with fail
      go_ret
      exact ⟨by rw [← unhide HA1]; rfl, by first | exact (unhide HB).1 | (rw [← hgb]; exact (unhide HB).1)⟩
    · go_enter Tryz.func21, Tryz.ntmps21
      go_wp2_with fail
      go_ret
      exact ⟨by rw [← unhide HA1]; rfl, by first | exact (unhide HB).1 | (rw [← hgb]; exact (unhide HB).1)⟩
    · go_enter Tryz.func21, Tryz.ntmps21
      go_wp2_with fail
      go_ret
      exact ⟨by rw [← unhide HA1]; rfl, by first | exact (unhide HB).1 | (rw [← hgb]; exact (unhide HB).1)⟩
    · go_enter Tryz.func21, Tryz.ntmps21
      go_wp2_with fail
      go_ret
      exact ⟨by rw [← unhide HA1]; rfl, by first | exact (unhide HB).1 | (rw [← hgb]; exact (unhide HB).1)⟩
    · go_enter Tryz.func21, Tryz.ntmps21
      go_wp2_with fail
      go_ret
      exact ⟨by rw [← unhide HA1]; rfl, by first | exact (unhide HB).1 | (rw [← hgb]; exact (unhide HB).1)⟩
    · go_enter Tryz.func21, Tryz.ntmps21
      go_wp2_with fail
      go_ret
      exact ⟨by rw [← unhide HA1]; rfl, by first | exact (unhide HB).1 | (rw [← hgb]; exact (unhide HB).1)⟩
  have m15 : ¬ op = 15 := by unfold onesB at h1; simp at h1; omega
  have n15 : (op == 15) = false := beq_eq_false_iff_ne.2 m15
  have m16 : ¬ op = 16 := by unfold onesB at h1; simp at h1; omega
  have n16 : (op == 16) = false := beq_eq_false_iff_ne.2 m16
  have m26 : ¬ op = 26 := by unfold onesB at h1; simp at h1; omega
  have n26 : (op == 26) = false := beq_eq_false_iff_ne.2 m26
  have m27 : ¬ op = 27 := by unfold onesB at h1; simp at h1; omega
  have n27 : (op == 27) = false := beq_eq_false_iff_ne.2 m27
  have m33 : ¬ op = 33 := by unfold onesB at h1; simp at h1; omega
  have n33 : (op == 33) = false := beq_eq_false_iff_ne.2 m33
  have m35 : ¬ op = 35 := by unfold onesB at h1; simp at h1; omega
  have n35 : (op == 35) = false := beq_eq_false_iff_ne.2 m35
  have m36 : ¬ op = 36 := by unfold onesB at h1; simp at h1; omega
  have n36 : (op == 36) = false := beq_eq_false_iff_ne.2 m36
  have m37 : ¬ op = 37 := by unfold onesB at h1; simp at h1; omega
  have n37 : (op == 37) = false := beq_eq_false_iff_ne.2 m37
  have HO := hide h1
  clear h1
  by_cases h3 : threesB op = true
  · have HA1 : Hid (3 = A) := hide (by rw [← unhide HA]; unfold takesR; rw [if_neg (unhide HO), if_pos h3])
    have h3' : op = 29 ∨ op = 30 ∨ op = 31 := by unfold threesB at h3; simp at h3; omega
    clear h3 CX HA m15 n15 m16 n16 m26 n26 m27 n27 m33 n33 m35 n35 m36 n36 m37 n37
    rcases h3' with rfl | rfl | rfl
    · go_enter Tryz.func21, Tryz.ntmps21
      go_wp2_with fail
      go_ret
      exact ⟨by rw [← unhide HA1]; rfl, by first | exact (unhide HB).1 | (rw [← hgb]; exact (unhide HB).1)⟩
    · go_enter Tryz.func21, Tryz.ntmps21
      go_wp2_with fail
      go_ret
      exact ⟨by rw [← unhide HA1]; rfl, by first | exact (unhide HB).1 | (rw [← hgb]; exact (unhide HB).1)⟩
    · go_enter Tryz.func21, Tryz.ntmps21
      go_wp2_with fail
      go_ret
      exact ⟨by rw [← unhide HA1]; rfl, by first | exact (unhide HB).1 | (rw [← hgb]; exact (unhide HB).1)⟩
  have m29 : ¬ op = 29 := by unfold threesB at h3; simp at h3; omega
  have n29 : (op == 29) = false := beq_eq_false_iff_ne.2 m29
  have m30 : ¬ op = 30 := by unfold threesB at h3; simp at h3; omega
  have n30 : (op == 30) = false := beq_eq_false_iff_ne.2 m30
  have m31 : ¬ op = 31 := by unfold threesB at h3; simp at h3; omega
  have n31 : (op == 31) = false := beq_eq_false_iff_ne.2 m31
  have HO3 := hide h3
  clear h3
  by_cases h23 : op = 23
  · subst h23
    have HA1 : Hid (cntA k = A) := hide (by rw [← unhide HA]; unfold takesR; rw [if_neg (unhide HO), if_neg (unhide HO3), if_pos rfl])
    clear CX CP HA m15 n15 m16 n16 m26 n26 m27 n27 m33 n33 m35 n35 m36 n36 m37 n37 m29 n29 m30 n30 m31 n31
    by_cases q1 : k < 0
    · have HA2 : Hid (0 = A) := hide (by rw [← unhide HA1]; unfold cntA; rw [if_pos (Or.inl q1)])
      go_enter Tryz.func21, Tryz.ntmps21
      go_wp2_with fail
      go_ret
      exact ⟨by rw [← unhide HA2]; rfl, by first | exact (unhide HB).1 | (rw [← hgb]; exact (unhide HB).1)⟩
    · by_cases q2 : 40 < k
      · have HA2 : Hid (0 = A) := hide (by rw [← unhide HA1]; unfold cntA; rw [if_pos (Or.inr q2)])
        go_enter Tryz.func21, Tryz.ntmps21
        go_wp2_with fail
        go_ret
        exact ⟨by rw [← unhide HA2]; rfl, by first | exact (unhide HB).1 | (rw [← hgb]; exact (unhide HB).1)⟩
      · have HA2 : Hid (k = A) := hide (by rw [← unhide HA1]; unfold cntA; rw [if_neg (by omega)])
        go_enter Tryz.func21, Tryz.ntmps21
        go_wp2_with fail
        go_ret
        exact ⟨by rw [← unhide HA2]; rfl, by first | exact (unhide HB).1 | (rw [← hgb]; exact (unhide HB).1)⟩
  · have n23 : (op == 23) = false := beq_eq_false_iff_ne.2 h23
    by_cases h24 : op = 24
    · subst h24
      have HA1 : Hid ((if e0 = 4 ∧ rightB (.mk e0 e1 e2 l ks) = true then cntA l.length else 0) = A) := hide (by rw [← unhide HA]; unfold takesR; rw [if_neg (unhide HO), if_neg (unhide HO3), if_neg h23, if_pos rfl])
      obtain ⟨R, hR⟩ : ∃ R, rightB (.mk e0 e1 e2 l ks) = R := ⟨_, rfl⟩
      rw [hR] at CX HA1
      clear CP HA hR h23 n23 m15 n15 m16 n16 m26 n26 m27 n27 m33 n33 m35 n35 m36 n36 m37 n37 m29 n29 m30 n30 m31 n31
      cases R with
      | false =>
        have HA2 : Hid (0 = A) := hide (by rw [← unhide HA1, if_neg (fun h => by cases h.2)])
        go_enter Tryz.func21, Tryz.ntmps21
        go_wp2_with fail
        refine (unhide CX).mono ?_
        rintro e u ⟨rfl, d1⟩
        have D1 := hide ((unhide HB).1.trans (d1.mono (unhide HB).1.size))
        clear d1 CX
        go_wp2_with fail
        go_ret
        exact ⟨by rw [← unhide HA2]; rfl, by first | exact unhide D1 | (rw [← hgb]; exact unhide D1)⟩
      | true =>
        by_cases h4 : e0 = 4
        · subst h4
          have HA2 : Hid (cntA l.length = A) := hide (by rw [← unhide HA1, if_pos ⟨rfl, rfl⟩])
          by_cases q2 : (40 : Int) < (l.length : Int)
          · have HA3 : Hid (0 = A) := hide (by rw [← unhide HA2]; unfold cntA; rw [if_pos (Or.inr q2)])
            go_enter Tryz.func21, Tryz.ntmps21
            go_wp2_with fail
            refine (unhide CX).mono ?_
            rintro e u ⟨rfl, d1⟩
            have D1 := hide ((unhide HB).1.trans (d1.mono (unhide HB).1.size))
            obtain ⟨z0, z1, z2, z3, z4⟩ := block5 ((d1.block gb (Array.getElem?_eq_some_iff.1 (unhide HB).2).1).trans (unhide HB).2)
            clear d1 CX c0 c1 c2 c3 c4
            go_wp2_with fail
            go_ret
            exact ⟨by rw [← unhide HA3]; rfl, by first | exact unhide D1 | (rw [← hgb]; exact unhide D1)⟩
          · have HA3 : Hid ((l.length : Int) = A) := hide (by rw [← unhide HA2]; unfold cntA; rw [if_neg (by omega)])
            go_enter Tryz.func21, Tryz.ntmps21
            go_wp2_with fail
            refine (unhide CX).mono ?_
            rintro e u ⟨rfl, d1⟩
            have D1 := hide ((unhide HB).1.trans (d1.mono (unhide HB).1.size))
            obtain ⟨z0, z1, z2, z3, z4⟩ := block5 ((d1.block gb (Array.getElem?_eq_some_iff.1 (unhide HB).2).1).trans (unhide HB).2)
            clear d1 CX c0 c1 c2 c3 c4
            go_wp2_with fail
            go_ret
            exact ⟨by rw [← unhide HA3]; rfl, by first | exact unhide D1 | (rw [← hgb]; exact unhide D1)⟩
        · have n4 : (e0 == 4) = false := beq_eq_false_iff_ne.2 h4
          have HA2 : Hid (0 = A) := hide (by rw [← unhide HA1, if_neg (fun h => h4 h.1)])
          go_enter Tryz.func21, Tryz.ntmps21
          go_wp2_with fail
          refine (unhide CX).mono ?_
          rintro e u ⟨rfl, d1⟩
          have D1 := hide ((unhide HB).1.trans (d1.mono (unhide HB).1.size))
          obtain ⟨z0, z1, z2, z3, z4⟩ := block5 ((d1.block gb (Array.getElem?_eq_some_iff.1 (unhide HB).2).1).trans (unhide HB).2)
          clear d1 CX c0 c1 c2 c3 c4
          go_wp2_with fail
          go_ret
          exact ⟨by rw [← unhide HA2]; rfl, by first | exact unhide D1 | (rw [← hgb]; exact unhide D1)⟩
    · have n24 : (op == 24) = false := beq_eq_false_iff_ne.2 h24
      obtain ⟨R, hR⟩ : ∃ R, decide (10 ≤ op ∧ op ≤ 37) = R := ⟨_, rfl⟩
      have HA1 : Hid ((if R = true then 2 else 0) = A) := hide (by
        rw [← unhide HA, ← hR]
        unfold takesR
        rw [if_neg (unhide HO), if_neg (unhide HO3), if_neg h23, if_neg h24]
        simp only [decide_eq_true_eq])
      rw [hR] at CP
      clear CX HA hR
      cases R with
      | false =>
        go_enter Tryz.func21, Tryz.ntmps21
        go_wp2_with fail
        refine (unhide CP).mono ?_
        rintro e u ⟨rfl, d1⟩
        have D1 := hide ((unhide HB).1.trans (d1.mono (unhide HB).1.size))
        clear d1 CP
        go_wp2_with fail
        go_ret
        exact ⟨by rw [← unhide HA1]; rfl, by first | exact unhide D1 | (rw [← hgb]; exact unhide D1)⟩
      | true =>
        go_enter Tryz.func21, Tryz.ntmps21
        go_wp2_with fail
        refine (unhide CP).mono ?_
        rintro e u ⟨rfl, d1⟩
        have D1 := hide ((unhide HB).1.trans (d1.mono (unhide HB).1.size))
        clear d1 CP
        go_wp2_with fail
        go_ret
        exact ⟨by rw [← unhide HA1]; rfl, by first | exact unhide D1 | (rw [← hgb]; exact unhide D1)⟩
end Go.Proofs.YtgkmdjmigehmeaaGreatDoor
