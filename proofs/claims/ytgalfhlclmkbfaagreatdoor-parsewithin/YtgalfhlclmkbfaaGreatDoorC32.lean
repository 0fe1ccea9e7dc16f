/-
  Layer 17 (parse): signs that bind; conditions: the reader's state.
-/
import Derived.Test.YtgalfhlclmkbfaaGreatDoorC27
import Derived.Deep.LoopGhost
set_option linter.unusedVariables false
set_option linter.unusedSimpArgs false
namespace Go.Proofs.YtgalfhlclmkbfaaGreatDoor
open Go.RowKit
set_option linter.unusedVariables false
set_option linter.unusedSimpArgs false
theorem tl_0 : (bA [124, 124]).toList = [124, 124] := bA_list _
theorem tl_1 : (bA [38, 38]).toList = [38, 38] := bA_list _
theorem tl_2 : (bA [61, 61]).toList = [61, 61] := bA_list _
theorem tl_3 : (bA [33, 61]).toList = [33, 61] := bA_list _
theorem tl_4 : (bA [60]).toList = [60] := bA_list _
theorem tl_5 : (bA [60, 61]).toList = [60, 61] := bA_list _
theorem tl_6 : (bA [62]).toList = [62] := bA_list _
theorem tl_7 : (bA [62, 61]).toList = [62, 61] := bA_list _
theorem tl_8 : (bA [43]).toList = [43] := bA_list _
theorem tl_9 : (bA [45]).toList = [45] := bA_list _
theorem tl_10 : (bA [42]).toList = [42] := bA_list _
theorem tl_11 : (bA [47]).toList = [47] := bA_list _
theorem tl_12 : (bA [37]).toList = [37] := bA_list _

set_option maxRecDepth 100000 in
set_option maxHeartbeats 4000000 in
theorem row_any {c : Cx} {l : List Tk} {d : Nat} {w : World} (h : Rd w c l d) :
    Calls Tryz.prog 67 #[.pointer (some ⟨c.g, 0, none⟩)] w fun e w' => e = .returned (.int .i64 (rowT l : Int)) ∧ Below w.heap.size w w' := by
  have CT := hide (token_any h)
  obtain ⟨R, hR⟩ : ∃ R, rowT l = R := ⟨_, rfl⟩
  have HR := hide hR
  rw [hR]
  clear hR
  obtain ⟨⟨k, t, n, p⟩, ht⟩ : ∃ t, hdT l = t := ⟨_, rfl⟩
  have HT := hide ht
  rw [ht] at CT
  simp only [tkA] at CT
  clear h ht
  go_enter Tryz.func67, Tryz.ntmps67
  go_wp2_with fail
  refine (unhide CT).mono ?_
  rintro e w1 ⟨rfl, b1⟩
  go_upto_region 2 with fail
  obtain ⟨w2, hw2⟩ : ∃ w2, w1.alloc (.cells #[.int .i64 (k : Int), .string (bA t), .int .i64 (n : Int), .int .i64 (p : Int)] 52) = w2 := ⟨_, rfl⟩
  have A2 : w2.heap[w1.heap.size]? = some (.cells #[.int .i64 (k : Int), .string (bA t), .int .i64 (n : Int), .int .i64 (p : Int)] 52 (0, 0)) := by rw [← hw2]; exact heap_alloc_new _ _
  have B2 : Below w1.heap.size w1 w2 := by rw [← hw2]; exact (Below.refl _ _).alloc (Nat.le_refl _) _
  have HX : Hid (Below w.heap.size w w2) := hide (b1.trans (B2.mono b1.size))
  obtain ⟨a0, a1, a2, a3⟩ := row_cell4 A2
  rw [hw2]
  clear hw2 A2 B2 b1 CT
  by_cases hk : k = 5
  · subst hk
    by_cases ht : t = [124, 124]
    · have HV := hide (show R = 1 by rw [← unhide HR]; unfold rowT; rw [unhide HT, ht]; rfl)
      have p0 : (bA t).toList = [124, 124] := by rw [ht]; exact tl_0
      clear ht
      go_wp2_with fail
      go_ret
      exact ⟨by rw [unhide HV]; rfl, unhide HX⟩
    · have m0 : ¬ t = [124, 124] := ht
      have n0 : ((bA t).toList == [124, 124]) = false := by rw [beq_eq_false_iff_ne]; exact fun e => ht (bA_inj.1 (bytes_inj.1 (e.trans tl_0.symm)))
      clear ht
      by_cases ht : t = [38, 38]
      · have HV := hide (show R = 2 by rw [← unhide HR]; unfold rowT; rw [unhide HT, ht]; rfl)
        clear m0
        have p1 : (bA t).toList = [38, 38] := by rw [ht]; exact tl_1
        clear ht
        clear n0
        go_wp2_with fail
        go_ret
        exact ⟨by rw [unhide HV]; rfl, unhide HX⟩
      · have m1 : ¬ t = [38, 38] := ht
        have n1 : ((bA t).toList == [38, 38]) = false := by rw [beq_eq_false_iff_ne]; exact fun e => ht (bA_inj.1 (bytes_inj.1 (e.trans tl_1.symm)))
        clear ht
        by_cases ht : t = [61, 61]
        · have HV := hide (show R = 3 by rw [← unhide HR]; unfold rowT; rw [unhide HT, ht]; rfl)
          clear m0 m1
          have p2 : (bA t).toList = [61, 61] := by rw [ht]; exact tl_2
          clear ht
          clear n0 n1
          go_wp2_with fail
          go_ret
          exact ⟨by rw [unhide HV]; rfl, unhide HX⟩
        · have m2 : ¬ t = [61, 61] := ht
          have n2 : ((bA t).toList == [61, 61]) = false := by rw [beq_eq_false_iff_ne]; exact fun e => ht (bA_inj.1 (bytes_inj.1 (e.trans tl_2.symm)))
          clear ht
          by_cases ht : t = [33, 61]
          · have HV := hide (show R = 3 by rw [← unhide HR]; unfold rowT; rw [unhide HT, ht]; rfl)
            clear m0 m1 m2
            have p3 : (bA t).toList = [33, 61] := by rw [ht]; exact tl_3
            clear ht
            clear n0 n1 n2
            go_wp2_with fail
            go_ret
            exact ⟨by rw [unhide HV]; rfl, unhide HX⟩
          · have m3 : ¬ t = [33, 61] := ht
            have n3 : ((bA t).toList == [33, 61]) = false := by rw [beq_eq_false_iff_ne]; exact fun e => ht (bA_inj.1 (bytes_inj.1 (e.trans tl_3.symm)))
            clear ht
            by_cases ht : t = [60]
            · have HV := hide (show R = 3 by rw [← unhide HR]; unfold rowT; rw [unhide HT, ht]; rfl)
              clear m0 m1 m2 m3
              have p4 : (bA t).toList = [60] := by rw [ht]; exact tl_4
              clear ht
              clear n0 n1 n2 n3
              go_wp2_with fail
              go_ret
              exact ⟨by rw [unhide HV]; rfl, unhide HX⟩
            · have m4 : ¬ t = [60] := ht
              have n4 : ((bA t).toList == [60]) = false := by rw [beq_eq_false_iff_ne]; exact fun e => ht (bA_inj.1 (bytes_inj.1 (e.trans tl_4.symm)))
              clear ht
              by_cases ht : t = [60, 61]
              · have HV := hide (show R = 3 by rw [← unhide HR]; unfold rowT; rw [unhide HT, ht]; rfl)
                clear m0 m1 m2 m3 m4
                have p5 : (bA t).toList = [60, 61] := by rw [ht]; exact tl_5
                clear ht
                clear n0 n1 n2 n3 n4
                go_wp2_with fail
                go_ret
                exact ⟨by rw [unhide HV]; rfl, unhide HX⟩
              · have m5 : ¬ t = [60, 61] := ht
                have n5 : ((bA t).toList == [60, 61]) = false := by rw [beq_eq_false_iff_ne]; exact fun e => ht (bA_inj.1 (bytes_inj.1 (e.trans tl_5.symm)))
                clear ht
                by_cases ht : t = [62]
                · have HV := hide (show R = 3 by rw [← unhide HR]; unfold rowT; rw [unhide HT, ht]; rfl)
                  clear m0 m1 m2 m3 m4 m5
                  have p6 : (bA t).toList = [62] := by rw [ht]; exact tl_6
                  clear ht
                  clear n0 n1 n2 n3 n4 n5
                  go_wp2_with fail
                  go_ret
                  exact ⟨by rw [unhide HV]; rfl, unhide HX⟩
                · have m6 : ¬ t = [62] := ht
                  have n6 : ((bA t).toList == [62]) = false := by rw [beq_eq_false_iff_ne]; exact fun e => ht (bA_inj.1 (bytes_inj.1 (e.trans tl_6.symm)))
                  clear ht
                  by_cases ht : t = [62, 61]
                  · have HV := hide (show R = 3 by rw [← unhide HR]; unfold rowT; rw [unhide HT, ht]; rfl)
                    clear m0 m1 m2 m3 m4 m5 m6
                    have p7 : (bA t).toList = [62, 61] := by rw [ht]; exact tl_7
                    clear ht
                    clear n0 n1 n2 n3 n4 n5 n6
                    go_wp2_with fail
                    go_ret
                    exact ⟨by rw [unhide HV]; rfl, unhide HX⟩
                  · have m7 : ¬ t = [62, 61] := ht
                    have n7 : ((bA t).toList == [62, 61]) = false := by rw [beq_eq_false_iff_ne]; exact fun e => ht (bA_inj.1 (bytes_inj.1 (e.trans tl_7.symm)))
                    clear ht
                    by_cases ht : t = [43]
                    · have HV := hide (show R = 4 by rw [← unhide HR]; unfold rowT; rw [unhide HT, ht]; rfl)
                      clear m0 m1 m2 m3 m4 m5 m6 m7
                      have p8 : (bA t).toList = [43] := by rw [ht]; exact tl_8
                      clear ht
                      clear n0 n1 n2 n3 n4 n5 n6 n7
                      go_wp2_with fail
                      go_ret
                      exact ⟨by rw [unhide HV]; rfl, unhide HX⟩
                    · have m8 : ¬ t = [43] := ht
                      have n8 : ((bA t).toList == [43]) = false := by rw [beq_eq_false_iff_ne]; exact fun e => ht (bA_inj.1 (bytes_inj.1 (e.trans tl_8.symm)))
                      clear ht
                      by_cases ht : t = [45]
                      · have HV := hide (show R = 4 by rw [← unhide HR]; unfold rowT; rw [unhide HT, ht]; rfl)
                        clear m0 m1 m2 m3 m4 m5 m6 m7 m8
                        have p9 : (bA t).toList = [45] := by rw [ht]; exact tl_9
                        clear ht
                        clear n0 n1 n2 n3 n4 n5 n6 n7 n8
                        go_wp2_with fail
                        go_ret
                        exact ⟨by rw [unhide HV]; rfl, unhide HX⟩
                      · have m9 : ¬ t = [45] := ht
                        have n9 : ((bA t).toList == [45]) = false := by rw [beq_eq_false_iff_ne]; exact fun e => ht (bA_inj.1 (bytes_inj.1 (e.trans tl_9.symm)))
                        clear ht
                        by_cases ht : t = [42]
                        · have HV := hide (show R = 5 by rw [← unhide HR]; unfold rowT; rw [unhide HT, ht]; rfl)
                          clear m0 m1 m2 m3 m4 m5 m6 m7 m8 m9
                          have p10 : (bA t).toList = [42] := by rw [ht]; exact tl_10
                          clear ht
                          clear n0 n1 n2 n3 n4 n5 n6 n7 n8 n9
                          go_wp2_with fail
                          go_ret
                          exact ⟨by rw [unhide HV]; rfl, unhide HX⟩
                        · have m10 : ¬ t = [42] := ht
                          have n10 : ((bA t).toList == [42]) = false := by rw [beq_eq_false_iff_ne]; exact fun e => ht (bA_inj.1 (bytes_inj.1 (e.trans tl_10.symm)))
                          clear ht
                          by_cases ht : t = [47]
                          · have HV := hide (show R = 5 by rw [← unhide HR]; unfold rowT; rw [unhide HT, ht]; rfl)
                            clear m0 m1 m2 m3 m4 m5 m6 m7 m8 m9 m10
                            have p11 : (bA t).toList = [47] := by rw [ht]; exact tl_11
                            clear ht
                            clear n0 n1 n2 n3 n4 n5 n6 n7 n8 n9 n10
                            go_wp2_with fail
                            go_ret
                            exact ⟨by rw [unhide HV]; rfl, unhide HX⟩
                          · have m11 : ¬ t = [47] := ht
                            have n11 : ((bA t).toList == [47]) = false := by rw [beq_eq_false_iff_ne]; exact fun e => ht (bA_inj.1 (bytes_inj.1 (e.trans tl_11.symm)))
                            clear ht
                            by_cases ht : t = [37]
                            · have HV := hide (show R = 5 by rw [← unhide HR]; unfold rowT; rw [unhide HT, ht]; rfl)
                              clear m0 m1 m2 m3 m4 m5 m6 m7 m8 m9 m10 m11
                              have p12 : (bA t).toList = [37] := by rw [ht]; exact tl_12
                              clear ht
                              clear n0 n1 n2 n3 n4 n5 n6 n7 n8 n9 n10 n11
                              go_wp2_with fail
                              go_ret
                              exact ⟨by rw [unhide HV]; rfl, unhide HX⟩
                            · have m12 : ¬ t = [37] := ht
                              have n12 : ((bA t).toList == [37]) = false := by rw [beq_eq_false_iff_ne]; exact fun e => ht (bA_inj.1 (bytes_inj.1 (e.trans tl_12.symm)))
                              clear ht
                              have HV := hide (show R = 0 by rw [← unhide HR]; unfold rowT; rw [unhide HT]; show rowS t = 0; unfold rowS; simp only [m0, m1, m2, m3, m4, m5, m6, m7, m8, m9, m10, m11, m12, or_self, if_false, reduceIte])
                              clear m0 m1 m2 m3 m4 m5 m6 m7 m8 m9 m10 m11 m12
                              go_wp2_with fail
                              go_ret
                              exact ⟨by rw [unhide HV]; rfl, unhide HX⟩
  · have hk1 : ¬ (k : Int) = 5 := by omega
    have hk2 : ((k : Int) == 5) = false := by simpa using hk1
    have HV := hide (show R = 0 by rw [← unhide HR]; unfold rowT; rw [unhide HT]; exact if_neg hk)
    go_wp2_with fail
    go_ret
    exact ⟨by rw [unhide HV]; rfl, unhide HX⟩
end Go.Proofs.YtgalfhlclmkbfaaGreatDoor
