/-
  The walks of lex's isLetter, isDigit, isKeyword, word, IsName; conditions: a text of at most 2^47 bytes.
-/
import Derived.Test.YtgalfhlclmkbfaaDoorRows
import Derived.Test.YtgalfhlclmkbfaaDoorB08
import Derived.Test.YtgalfhlclmkbfaaDoorB00
import Derived.WalkSpells
import Derived.WalkSmall
import Derived.BigQuiet
import Derived.Below
import Derived.Laws.RangeAny
import Derived.Lib.OthersKept
set_option linter.unusedVariables false
set_option linter.unusedSimpArgs false
namespace Go.Proofs.YtgalfhlclmkbfaaDoor
open Go.RowKit
set_option linter.unusedVariables false
set_option linter.unusedSimpArgs false

def rDig (c : Int) : Bool := decide (48 ≤ c ∧ c ≤ 57)
def rLet (c : Int) : Bool := decide (97 ≤ c ∧ c ≤ 122 ∨ 65 ≤ c ∧ c ≤ 90 ∨ c = 95)
def bA (l : List UInt8) : ByteArray := ⟨l.toArray⟩

theorem bA_data (l : List UInt8) : (bA l).data.toList = l := by simp [bA]
theorem bA_list (l : List UInt8) : (bA l).toList = l := by rw [ByteArray.toList_eq]; exact bA_data l
theorem bA_size (l : List UInt8) : (bA l).size = l.length := by simp [bA, ByteArray.size]
theorem bA_eq (s : ByteArray) (l : List UInt8) (h : s.data.toList = l) : s = bA l := by
  apply ByteArray.ext
  rw [← h]
  simp [bA]
theorem bA_self (s : ByteArray) : bA s.data.toList = s := (bA_eq s _ rfl).symm

theorem ext_data (s : ByteArray) (a b : Nat) : (s.extract a b).data.toList = (s.data.toList.take b).drop a := by
  rw [ByteArray.data_extract, Array.toList_extract, List.extract_eq_take_drop, List.drop_take]
theorem ext_take (s : ByteArray) (b : Nat) : s.extract 0 b = bA (s.data.toList.take b) := bA_eq _ _ (by rw [ext_data]; rfl)
theorem ext_drop (s : ByteArray) (a : Nat) : s.extract a s.size = bA (s.data.toList.drop a) := bA_eq _ _ (by rw [ext_data, show s.data.toList.take s.size = s.data.toList from List.take_of_length_le (Nat.le_refl _)])

theorem rLet_cases (c : Int) : (rLet c = false ∧ ¬ 97 ≤ c ∧ ¬ 65 ≤ c ∧ (c == 95) = false) ∨ (rLet c = true ∧ ¬ 97 ≤ c ∧ 65 ≤ c ∧ c ≤ 90) ∨ (rLet c = true ∧ ¬ 97 ≤ c ∧ 65 ≤ c ∧ ¬ c ≤ 90 ∧ (c == 95) = true) ∨ (rLet c = false ∧ ¬ 97 ≤ c ∧ 65 ≤ c ∧ ¬ c ≤ 90 ∧ (c == 95) = false) ∨ (rLet c = true ∧ 97 ≤ c ∧ c ≤ 122) ∨ (rLet c = false ∧ 97 ≤ c ∧ ¬ c ≤ 122 ∧ 65 ≤ c ∧ ¬ c ≤ 90 ∧ (c == 95) = false) := by
  simp only [rLet, decide_eq_true_eq, decide_eq_false_iff_not, beq_iff_eq, beq_eq_false_iff_ne, ne_eq]
  omega

theorem isLetter_any (c : Int) (w : World) :
    Calls Tryd.prog 17 #[.int .i32 c] w fun e w' => e = .returned (.bool (rLet c)) ∧ w' = w := by
  rcases rLet_cases c with ⟨hR, h1, h2, h3⟩ | ⟨hR, h1, h2, h3⟩ | ⟨hR, h1, h2, h3, h4⟩ | ⟨hR, h1, h2, h3, h4⟩ | ⟨hR, h1, h2⟩ | ⟨hR, h1, h2, h3, h4, h5⟩
  all_goals
    rw [hR]
    clear hR
    go_enter Tryd.func17, Tryd.ntmps17
    go_wp2_with fail
    go_ret
    exact ⟨rfl, rfl⟩

theorem isDigit_any (c : Int) (w : World) :
    Calls Tryd.prog 19 #[.int .i32 c] w fun e w' => e = .returned (.bool (rDig c)) ∧ w' = w := by
  by_cases h1 : 48 ≤ c <;> by_cases h2 : c ≤ 57
  all_goals
    have hR : rDig c = decide (48 ≤ c ∧ c ≤ 57) := rfl
    simp only [h1, h2, decide_true, decide_false, and_self, and_true, and_false, true_and] at hR
    rw [hR]
    clear hR
    go_enter Tryd.func19, Tryd.ntmps19
    go_wp2_with fail
    go_ret
    exact ⟨rfl, rfl⟩

theorem lxDig_r (c : UInt8) : rDig (c.toNat : Int) = lxDig c := by unfold rDig lxDig; rw [Bool.eq_iff_iff]; simp only [decide_eq_true_eq]; omega
theorem lxLet_r (c : UInt8) : rLet (c.toNat : Int) = lxLet c := by unfold rLet lxLet; rw [Bool.eq_iff_iff]; simp only [decide_eq_true_eq]; omega

theorem lxW_low {c : UInt8} (h : lxW c = true) : c.toNat < 128 := by
  unfold lxW lxLet lxDig at h
  simp only [Bool.or_eq_true, decide_eq_true_eq] at h
  omega

theorem rBig {r : Int} (h : 128 ≤ r) : rLet r = false ∧ rDig r = false := by
  unfold rLet rDig
  simp only [decide_eq_false_iff_not]
  omega

theorem keyB_or (l : List UInt8) : keyB l = ((l == [102, 110]) || (l == [101, 120, 112, 111, 114, 116]) || (l == [108, 101, 116]) || (l == [105, 102]) || (l == [101, 108, 115, 101]) || (l == [119, 104, 105, 108, 101]) || (l == [114, 101, 116, 117, 114, 110]) || (l == [98, 114, 101, 97, 107]) || (l == [99, 111, 110, 116, 105, 110, 117, 101]) || (l == [116, 114, 117, 101]) || (l == [102, 97, 108, 115, 101]) || (l == [117, 110, 105, 116])) := by
  unfold keyB keyL
  simp only [List.contains_cons, List.contains_nil, Bool.or_false, Bool.or_assoc]

set_option maxRecDepth 100000 in
set_option maxHeartbeats 1000000 in
theorem isKey_any (s : ByteArray) (w : World) :
    Calls Tryd.prog 30 #[.string s] w fun e w' => e = .returned (.bool (keyB s.data.toList)) ∧ w' = w := by
  rw [← ByteArray.toList_eq]
  obtain ⟨R, hR⟩ : ∃ R, keyB s.toList = R := ⟨_, rfl⟩
  rw [keyB_or] at hR
  rw [keyB_or, hR]
  cases h0 : s.toList == [102, 110] with
  | true =>
    have hT : R = true := by rw [← hR]; simp [h0]
    rw [hT]
    clear hR hT
    go_enter Tryd.func30, Tryd.ntmps30
    go_wp2_with fail
    go_ret
    exact ⟨rfl, rfl⟩
  | false =>
    cases h1 : s.toList == [101, 120, 112, 111, 114, 116] with
    | true =>
      have hT : R = true := by rw [← hR]; simp [h0, h1]
      rw [hT]
      clear hR hT
      go_enter Tryd.func30, Tryd.ntmps30
      go_wp2_with fail
      go_ret
      exact ⟨rfl, rfl⟩
    | false =>
      cases h2 : s.toList == [108, 101, 116] with
      | true =>
        have hT : R = true := by rw [← hR]; simp [h0, h1, h2]
        rw [hT]
        clear hR hT
        go_enter Tryd.func30, Tryd.ntmps30
        go_wp2_with fail
        go_ret
        exact ⟨rfl, rfl⟩
      | false =>
        cases h3 : s.toList == [105, 102] with
        | true =>
          have hT : R = true := by rw [← hR]; simp [h0, h1, h2, h3]
          rw [hT]
          clear hR hT
          go_enter Tryd.func30, Tryd.ntmps30
          go_wp2_with fail
          go_ret
          exact ⟨rfl, rfl⟩
        | false =>
          cases h4 : s.toList == [101, 108, 115, 101] with
          | true =>
            have hT : R = true := by rw [← hR]; simp [h0, h1, h2, h3, h4]
            rw [hT]
            clear hR hT
            go_enter Tryd.func30, Tryd.ntmps30
            go_wp2_with fail
            go_ret
            exact ⟨rfl, rfl⟩
          | false =>
            cases h5 : s.toList == [119, 104, 105, 108, 101] with
            | true =>
              have hT : R = true := by rw [← hR]; simp [h0, h1, h2, h3, h4, h5]
              rw [hT]
              clear hR hT
              go_enter Tryd.func30, Tryd.ntmps30
              go_wp2_with fail
              go_ret
              exact ⟨rfl, rfl⟩
            | false =>
              cases h6 : s.toList == [114, 101, 116, 117, 114, 110] with
              | true =>
                have hT : R = true := by rw [← hR]; simp [h0, h1, h2, h3, h4, h5, h6]
                rw [hT]
                clear hR hT
                go_enter Tryd.func30, Tryd.ntmps30
                go_wp2_with fail
                go_ret
                exact ⟨rfl, rfl⟩
              | false =>
                cases h7 : s.toList == [98, 114, 101, 97, 107] with
                | true =>
                  have hT : R = true := by rw [← hR]; simp [h0, h1, h2, h3, h4, h5, h6, h7]
                  rw [hT]
                  clear hR hT
                  go_enter Tryd.func30, Tryd.ntmps30
                  go_wp2_with fail
                  go_ret
                  exact ⟨rfl, rfl⟩
                | false =>
                  cases h8 : s.toList == [99, 111, 110, 116, 105, 110, 117, 101] with
                  | true =>
                    have hT : R = true := by rw [← hR]; simp [h0, h1, h2, h3, h4, h5, h6, h7, h8]
                    rw [hT]
                    clear hR hT
                    go_enter Tryd.func30, Tryd.ntmps30
                    go_wp2_with fail
                    go_ret
                    exact ⟨rfl, rfl⟩
                  | false =>
                    cases h9 : s.toList == [116, 114, 117, 101] with
                    | true =>
                      have hT : R = true := by rw [← hR]; simp [h0, h1, h2, h3, h4, h5, h6, h7, h8, h9]
                      rw [hT]
                      clear hR hT
                      go_enter Tryd.func30, Tryd.ntmps30
                      go_wp2_with fail
                      go_ret
                      exact ⟨rfl, rfl⟩
                    | false =>
                      cases h10 : s.toList == [102, 97, 108, 115, 101] with
                      | true =>
                        have hT : R = true := by rw [← hR]; simp [h0, h1, h2, h3, h4, h5, h6, h7, h8, h9, h10]
                        rw [hT]
                        clear hR hT
                        go_enter Tryd.func30, Tryd.ntmps30
                        go_wp2_with fail
                        go_ret
                        exact ⟨rfl, rfl⟩
                      | false =>
                        cases h11 : s.toList == [117, 110, 105, 116] with
                        | true =>
                          have hT : R = true := by rw [← hR]; simp [h0, h1, h2, h3, h4, h5, h6, h7, h8, h9, h10, h11]
                          rw [hT]
                          clear hR hT
                          go_enter Tryd.func30, Tryd.ntmps30
                          go_wp2_with fail
                          go_ret
                          exact ⟨rfl, rfl⟩
                        | false =>
                          have hT : R = false := by rw [← hR]; simp [h0, h1, h2, h3, h4, h5, h6, h7, h8, h9, h10, h11]
                          rw [hT]
                          clear hR hT
                          go_enter Tryd.func30, Tryd.ntmps30
                          go_wp2_with fail
                          go_ret
                          exact ⟨rfl, rfl⟩

/-- the rune that stands at a place, against the byte -/
theorem rune_w (s : ByteArray) (pos : Nat) (h : pos < s.size) :
    (lxW (s[pos]'h) = true ∧ Utf8.decode s pos = ((s[pos]'h).toNat, 1)) ∨
    (lxW (s[pos]'h) = false ∧ rLet ((Utf8.decode s pos).1 : Int) = false ∧ rDig ((Utf8.decode s pos).1 : Int) = false) := by
  by_cases ha : (s[pos]'h).toNat < 128
  · have hd := decode_ascii s pos h ha
    cases hw : lxW (s[pos]'h) with
    | true => exact .inl ⟨rfl, hd⟩
    | false =>
      right
      rw [hd]
      unfold lxW at hw
      rw [Bool.or_eq_false_iff] at hw
      exact ⟨rfl, by rw [lxLet_r]; exact hw.1, by rw [lxDig_r]; exact hw.2⟩
  · right
    have hb := (decode_high s pos h (by omega)).1
    have hr := rBig (r := ((Utf8.decode s pos).1 : Int)) (by omega)
    refine ⟨?_, hr.1, hr.2⟩
    rw [Bool.eq_false_iff]
    intro e
    exact ha (lxW_low e)

theorem tw_stop (p : UInt8 → Bool) (s : ByteArray) (n : Nat) (hn : n ≤ s.size) (h1 : ∀ j c, j < n → s.data.toList[j]? = some c → p c = true) (h2 : ∀ c, s.data.toList[n]? = some c → p c = false) : s.data.toList.takeWhile p = s.data.toList.take n := by
  have hl : s.data.toList.length = s.size := rfl
  rw [← hl] at hn
  clear hl
  revert n
  generalize s.data.toList = l
  induction l with
  | nil => intro n hn _ _; simp
  | cons c r ih =>
    intro n hn h1 h2
    cases n with
    | zero => rw [List.takeWhile_cons, if_neg (by rw [h2 c rfl]; simp)]; rfl
    | succ n =>
      rw [List.takeWhile_cons, if_pos (h1 0 c (by omega) rfl), List.take_succ_cons, ih n (by simpa using hn) (fun j d hj hd => h1 (j + 1) d (by omega) (by simpa using hd)) (fun d hd => h2 d (by simpa using hd))]

theorem at_list (s : ByteArray) (j : Nat) (h : j < s.size) : s.data.toList[j]? = some (s[j]'h) := by
  rw [Array.getElem?_toList]
  exact Array.getElem?_eq_getElem h

set_option maxRecDepth 100000 in
set_option maxHeartbeats 1000000 in
theorem word_any (s : ByteArray) (hs : s.size ≤ 140737488355328) (w : World) :
    Calls Tryd.prog 29 #[.string s] w fun e w' => e = .returned (.string (bA (s.data.toList.takeWhile lxW))) ∧ Below w.heap.size w w' := by
  obtain ⟨R, hR⟩ : ∃ R, bA (s.data.toList.takeWhile lxW) = R := ⟨_, rfl⟩
  have HR := hide hR
  rw [hR]
  clear hR
  obtain ⟨k, hk⟩ : ∃ k, w.heap.size = k := ⟨_, rfl⟩
  have HK := hide hk
  go_enter Tryd.func29, Tryd.ntmps29
  go_wp2_with fail
  go_step3
  go_wp2_with fail
  go_step3
  go_wp2_with fail
  have HS : Hid (Below w.heap.size w (w.iter s 0) ∧ (w.iter s 0).heap[k]? = some (.stringIter s 0)) := hide (by
    refine ⟨(Below.refl _ _).alloc (Nat.le_refl _) _, ?_⟩
    rw [← unhide HK]
    exact World.iter_heap w s 0)
  clear hk
  go_loopw [3] (fun x wr => ∃ (pos : Nat), x = .int .i64 (s.size : Int) ∧ pos ≤ s.size ∧ Hid ((∀ j c, j < pos → s.data.toList[j]? = some c → lxW c = true) ∧ Below w.heap.size w wr ∧ wr.heap[k]? = some (.stringIter s pos))) (fun _ wr => s.size - wr.iterPos k)
  case atStart => exact ⟨0, rfl, Nat.zero_le _, hide ⟨fun j c h => by omega, (unhide HS).1, (unhide HS).2⟩⟩
  case round =>
    clear HS
    obtain ⟨pos, rfl, hps, HX⟩ := hrel
    by_cases hp : pos < s.size
    · have hnx : ∀ ty, (Instr.next (.pointer (some ⟨k, 0, none⟩)) true ty).run Tryd.prog wr = _ := fun ty => Lib.run_next_any_at wr k s pos ty (unhide HX).2.2 hp
      have hru := rune_w s pos hp
      obtain ⟨r, hr⟩ : ∃ r, (Utf8.decode s pos).1 = r := ⟨_, rfl⟩
      obtain ⟨n, hn⟩ : ∃ n, (Utf8.decode s pos).2 = n := ⟨_, rfl⟩
      rw [hr, hn] at hnx
      have hWn := Lib.below_iterAt (unhide HX).2.1 (show w.heap.size ≤ k by have := unhide HK; omega) s (pos + n)
      have hin := Lib.iterAt_heap wr k s pos (pos + n) (unhide HX).2.2
      obtain ⟨wn, hwn⟩ : ∃ wn, wr.iterAt k s (pos + n) = wn := ⟨_, rfl⟩
      rw [hwn] at hnx hWn hin
      have HIP : Hid (wr.iterPos k = pos) := hide (by unfold World.iterPos; rw [(unhide HX).2.2])
      have CL := hide (isLetter_any (r : Int) wn)
      have CD := hide (isDigit_any (r : Int) wn)
      have HP := hide hp
      have hrle : (r : Int) ≤ 2147483647 := by have := decode_le s pos; omega
      rcases hru with ⟨h1, h2⟩ | ⟨h1, h2, h3⟩
      · have hrn : r = (s[pos]'hp).toNat := by rw [← hr, h2]
        obtain rfl : n = 1 := by rw [← hn, h2]
        have HN : Hid ((∀ j c, j < pos + 1 → s.data.toList[j]? = some c → lxW c = true) ∧ Below w.heap.size w wn ∧ wn.heap[k]? = some (.stringIter s (pos + 1))) := hide ⟨fun j c hj hc => by
          rcases Nat.lt_or_ge j pos with g | g
          · exact (unhide HX).1 j c g hc
          · obtain rfl : j = pos := by omega
            rw [at_list s j hp] at hc
            cases hc
            exact h1, hWn, hin⟩
        have hmeas : Hid (s.size - wn.iterPos k < s.size - wr.iterPos k) := hide (by
          rw [unhide HIP, show wn.iterPos k = pos + 1 from by unfold World.iterPos; rw [hin]]
          omega)
        cases hL : rLet (r : Int) with
        | true =>
          rw [hL] at CL
          clear hL CD hr hn hwn hWn hin h1 h2 hrn HX
          go_wp2_with fail
          refine (unhide CL).mono ?_
          rintro e u ⟨rfl, rfl⟩
          go_wp2_with fail
          go_roundw
          case rel => exact ⟨pos + 1, rfl, unhide HP, HN⟩
          case measure => exact unhide hmeas
        | false =>
          have hD : rDig (r : Int) = true := by
            rw [hrn, lxDig_r]
            rw [hrn, lxLet_r] at hL
            unfold lxW at h1
            rw [hL] at h1
            simpa using h1
          rw [hL] at CL
          rw [hD] at CD
          clear hL hD hr hn hwn hWn hin h1 h2 hrn HX
          go_wp2_with fail
          refine (unhide CL).mono ?_
          rintro e u ⟨rfl, rfl⟩
          go_wp2_with fail
          refine (unhide CD).mono ?_
          rintro e u ⟨rfl, rfl⟩
          go_wp2_with fail
          go_roundw
          case rel => exact ⟨pos + 1, rfl, unhide HP, HN⟩
          case measure => exact unhide hmeas
      · have HE : Hid (s.extract 0 pos = R ∧ Below w.heap.size w wn) := hide (by
          refine ⟨?_, hWn⟩
          rw [← unhide HR, ext_take, tw_stop lxW s pos hps (unhide HX).1 (fun c hc => by
            rw [at_list s pos hp] at hc
            cases hc
            exact h1)])
        rw [hr] at h2 h3
        rw [h2] at CL
        rw [h3] at CD
        clear hr hn hwn hWn hin h1 h2 h3 HX
        go_wp2_with fail
        refine (unhide CL).mono ?_
        rintro e u ⟨rfl, rfl⟩
        go_wp2_with fail
        refine (unhide CD).mono ?_
        rintro e u ⟨rfl, rfl⟩
        go_wp2_with fail
        try rw [Exit.noGoto_ret]
        go_ret
        exact ⟨by rw [(unhide HE).1]; rfl, (unhide HE).2⟩
    · have e : pos = s.size := by omega
      have hnx : ∀ ty, (Instr.next (.pointer (some ⟨k, 0, none⟩)) true ty).run Tryd.prog wr = _ := fun ty => Lib.run_next_end_at wr k s pos ty (unhide HX).2.2 hp
      have HE : Hid (s = R ∧ Below w.heap.size w wr) := hide (by
        refine ⟨?_, (unhide HX).2.1⟩
        refine (bA_self s).symm.trans ?_
        rw [← unhide HR, tw_stop lxW s s.size (Nat.le_refl _) (fun j c hj hc => (unhide HX).1 j c (by omega) hc) (fun c hc => by
          rw [List.getElem?_eq_none (show s.data.toList.length ≤ s.size from Nat.le_refl _)] at hc
          cases hc), show s.data.toList.take s.size = s.data.toList from List.take_of_length_le (Nat.le_refl _)])
      clear e HX hp hps
      go_wp2_with fail
      try rw [Exit.noGoto_ret]
      go_ret
      exact ⟨by rw [← (unhide HE).1]; rfl, (unhide HE).2⟩

theorem head_list (s : ByteArray) (h : 0 < s.size) : ∃ r, s.data.toList = (s[0]'h) :: r := by
  have := at_list s 0 h
  cases hl : s.data.toList with
  | nil => rw [hl] at this; cases this
  | cons c r =>
    rw [hl] at this
    simp at this
    exact ⟨r, by rw [this]⟩

theorem len_list (s : ByteArray) : s.data.toList.length = s.size := rfl

end Go.Proofs.YtgalfhlclmkbfaaDoor
