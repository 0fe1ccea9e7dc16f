/-
  The walks of lex's firstWord, firstInt, firstSign; conditions: a text of at most 8192 bytes; what the variables of strconv hold.
-/
import Derived.Test.YtgalfhlclmkbfaaDoorB13
import Derived.Test.YtgalfhlclmkbfaaDoorB04
import Derived.Lib.AppendIntMem
set_option linter.unusedVariables false
set_option linter.unusedSimpArgs false
namespace Go.Proofs.YtgalfhlclmkbfaaDoor
open Go.RowKit
set_option linter.unusedVariables false
set_option linter.unusedSimpArgs false

/-- three results, the first of which lies in memory -/
theorem ret_ctt {P : Program} {fn : Func} {p u v : Tmp} {T : TypeId} (h : fn.results = #[.cell p T, .tmp u, .tmp v]) (tmps : Array Value) (w : World) (g : Nat) (c : Array Value) (d : TypeDesc) (t : TypeId)
    (hp : tmps.getD p undef = .pointer (some ⟨g, 0, none⟩)) (hb : w.heap[g]? = some (.cells c t (0, 0))) (hu : P.underlying T = some d) (hd : (match d with | .struct _ | .array _ _ => true | _ => false) = true) (hi : (P.info? T).map (·.size) = some c.size) :
    (results fn tmps).run P w = .ok (.tuple #[.agg c, tmps.getD u undef, tmps.getD v undef]) w := by
  have hl := run_loadVar_row (P := P) w g t T c (0, 0) _ hb hu hd hi
  have hp' : tmps[p]?.getD undef = .pointer (some ⟨g, 0, none⟩) := by simpa using hp
  simp [results, h, hp', asAddr, Result.andThen, hl]

theorem size_tok : (Tryd.prog.info? 37).map (·.size) = some 4 := by kernel_rfl
theorem one_tok (a : Int) (s : ByteArray) (b c : Int) : (#[.int .i64 a, .string s, .int .i64 b, .int .i64 c] : Array Value).all (·.oneCell') = true := by simp [Value.oneCell']

/-- what first answers -/
def fstV : Except Nat (Tk × Nat) → Value
  | .error e => .tuple #[.agg #[.int .i64 0, .string ⟨#[]⟩, .int .i64 0, .int .i64 0], .int .i64 0, .int .i64 (e : Int)]
  | .ok (t, n) => .tuple #[.agg #[.int .i64 (t.k : Int), .string (bA t.t), .int .i64 (t.n : Int), .int .i64 (t.p : Int)], .int .i64 (n : Int), .int .i64 0]

/-- a token's box, laid first -/
theorem tok_box (w : World) : ∃ w1, w.alloc (.cells #[.int .i64 0, .string ⟨#[]⟩, .int .i64 0, .int .i64 0] 37) = w1 ∧ Below w.heap.size w w1 ∧ w1.heap.size = w.heap.size + 1 ∧ ∀ u, Below w1.heap.size w1 u → u.heap[w.heap.size]? = some (.cells #[.int .i64 0, .string ⟨#[]⟩, .int .i64 0, .int .i64 0] 37 (0, 0)) ∧ Below w.heap.size w u := by
  refine ⟨_, rfl, (Below.refl _ _).alloc (Nat.le_refl _) _, by simp, fun u hu => ?_⟩
  have h1 : Below w.heap.size w (w.alloc (.cells #[.int .i64 0, .string ⟨#[]⟩, .int .i64 0, .int .i64 0] 37)) := (Below.refl _ _).alloc (Nat.le_refl _) _
  exact ⟨(hu.block w.heap.size (by simp)).trans (heap_alloc_new w _), h1.trans (hu.mono h1.size)⟩

set_option maxRecDepth 100000 in
set_option maxHeartbeats 1000000 in
theorem fWord_any (s : ByteArray) (hs : s.size ≤ 8192) (w : World) :
    Calls Tryd.prog 18 #[.string s] w fun e w' => e = .returned (fstV (wrdT (s.data.toList.takeWhile lxW))) ∧ Below w.heap.size w w' := by
  obtain ⟨w1, hw1, hb1, hz1, hbx⟩ := tok_box w
  obtain ⟨g, hg⟩ : ∃ g, w.heap.size = g := ⟨_, rfl⟩
  have HG := hide hg
  rw [hg] at hbx
  have HBX := hide hbx
  obtain ⟨W, hW⟩ : ∃ W, s.data.toList.takeWhile lxW = W := ⟨_, rfl⟩
  have hWl : W.length ≤ 8192 := by
    have := tw_le lxW s.data.toList
    rw [hW, len_list] at this
    omega
  have CW := hide (word_any s (by omega) w1)
  rw [hW] at CW ⊢
  have hsz := bA_size W
  have hwi : (W.length : Int) ≤ 8192 := by omega
  have hK := fun u => isKey_any (bA W) u
  rw [bA_data] at hK
  have CC := hide (fun u => str_clone (bA W) u (by omega))
  cases hk : keyB W with
  | true =>
    have hE : fstV (wrdT W) = .tuple #[.agg #[.int .i64 2, .string (bA W), .int .i64 0, .int .i64 0], .int .i64 (W.length : Int), .int .i64 0] := by
      unfold wrdT
      rw [if_pos hk]
      rfl
    rw [hE]
    rw [hk] at hK
    have CK := hide hK
    obtain ⟨V, hV⟩ : ∃ V, bA W = V := ⟨_, rfl⟩
    rw [hV] at CW CK CC hsz ⊢
    clear hE hk hK hbx hV hb1 hW
    go_enter Tryd.func18, Tryd.ntmps18
    go_wp2_with fail
    refine (unhide CW).mono ?_
    rintro e u ⟨rfl, b1⟩
    have HU := hide b1
    clear b1 CW
    go_wp2_with fail
    refine ((unhide CK) _).mono ?_
    rintro e u' ⟨rfl, rfl⟩
    go_wp2_with fail
    refine ((unhide CC) _).mono ?_
    rintro e u2 ⟨rfl, b2⟩
    have HU2 : Hid (Below w1.heap.size w1 u2) := hide ((unhide HU).trans (b2.mono (unhide HU).size))
    clear b2 CC
    have tok : True := trivial
    go_wp2_with (first | (have _t := tok; refine wpList_put_arr rfl 37 (.tmp 2) (.tmp 20) rfl g _ _ rfl rfl (unhide HBX u2 (unhide HU2)).1 rfl size_tok (one_tok _ _ _ _) ?_; clear tok; intro w7 M7))
    exact bodyPost_ret (ret_ctt (p := 2) (u := 3) (v := 4) (T := 37) rfl _ _ g _ _ _ rfl (unhide M7).at' Tryd.underlying37 rfl size_tok) rfl ⟨by rw [← hsz]; rfl, by first | exact (unhide M7).below w.heap.size w (by rw [unhide HG]; exact (unhide HBX u2 (unhide HU2)).2) (by have := unhide HG; omega) | exact (unhide M7).below g w (unhide HBX u2 (unhide HU2)).2 (Nat.le_refl _)⟩
  | false =>
    rw [hk] at hK
    have CK := hide hK
    by_cases h20 : 20 < W.length
    · have hE : fstV (wrdT W) = .tuple #[.agg #[.int .i64 0, .string ⟨#[]⟩, .int .i64 0, .int .i64 0], .int .i64 0, .int .i64 164] := by
        unfold wrdT
        rw [if_neg (by rw [hk]; simp), if_pos h20]
        rfl
      rw [hE]
      obtain ⟨V, hV⟩ : ∃ V, bA W = V := ⟨_, rfl⟩
      rw [hV] at CW CK CC hsz
      have hvi : (20 : Int) < (V.size : Int) := by omega
      clear hE hk hK hbx hV hb1 hW hsz
      go_enter Tryd.func18, Tryd.ntmps18
      go_wp2_with fail
      refine (unhide CW).mono ?_
      rintro e u ⟨rfl, b1⟩
      have HU := hide b1
      clear b1 CW
      go_wp2_with fail
      refine ((unhide CK) _).mono ?_
      rintro e u' ⟨rfl, rfl⟩
      have tok : True := trivial
      go_wp2_with (first | (have _t := tok; refine wpList_put_arr rfl 37 (.tmp 2) (.tmp 16) rfl g _ _ rfl rfl (unhide HBX _ (unhide HU)).1 rfl size_tok (one_tok _ _ _ _) ?_; clear tok; intro w7 M7))
      exact bodyPost_ret (ret_ctt (p := 2) (u := 3) (v := 4) (T := 37) rfl _ _ g _ _ _ rfl (unhide M7).at' Tryd.underlying37 rfl size_tok) rfl ⟨rfl, by first | exact (unhide M7).below w.heap.size w (by rw [unhide HG]; exact (unhide HBX _ (unhide HU)).2) (by have := unhide HG; omega) | exact (unhide M7).below g w (unhide HBX _ (unhide HU)).2 (Nat.le_refl _)⟩
    · have hE : fstV (wrdT W) = .tuple #[.agg #[.int .i64 1, .string (bA W), .int .i64 0, .int .i64 0], .int .i64 (W.length : Int), .int .i64 0] := by
        unfold wrdT
        rw [if_neg (by rw [hk]; simp), if_neg h20]
        rfl
      rw [hE]
      obtain ⟨V, hV⟩ : ∃ V, bA W = V := ⟨_, rfl⟩
      rw [hV] at CW CK CC hsz ⊢
      have hvi : ¬ (20 : Int) < (V.size : Int) := by omega
      clear hE hk hK hbx hV hb1 hW
      go_enter Tryd.func18, Tryd.ntmps18
      go_wp2_with fail
      refine (unhide CW).mono ?_
      rintro e u ⟨rfl, b1⟩
      have HU := hide b1
      clear b1 CW
      go_wp2_with fail
      refine ((unhide CK) _).mono ?_
      rintro e u' ⟨rfl, rfl⟩
      go_wp2_with fail
      refine ((unhide CC) _).mono ?_
      rintro e u2 ⟨rfl, b2⟩
      have HU2 : Hid (Below w1.heap.size w1 u2) := hide ((unhide HU).trans (b2.mono (unhide HU).size))
      clear b2 CC
      have tok : True := trivial
      go_wp2_with (first | (have _t := tok; refine wpList_put_arr rfl 37 (.tmp 2) (.tmp 20) rfl g _ _ rfl rfl (unhide HBX u2 (unhide HU2)).1 rfl size_tok (one_tok _ _ _ _) ?_; clear tok; intro w7 M7))
      exact bodyPost_ret (ret_ctt (p := 2) (u := 3) (v := 4) (T := 37) rfl _ _ g _ _ _ rfl (unhide M7).at' Tryd.underlying37 rfl size_tok) rfl ⟨by rw [← hsz]; rfl, by first | exact (unhide M7).below w.heap.size w (by rw [unhide HG]; exact (unhide HBX u2 (unhide HU2)).2) (by have := unhide HG; omega) | exact (unhide M7).below g w (unhide HBX u2 (unhide HU2)).2 (Nat.le_refl _)⟩

theorem below_bytes (w : World) (e : TypeId) (t : ByteArray) : Below w.heap.size w (Lib.bytesWorld w e t) := by
  unfold Lib.bytesWorld
  exact Lib.below_freeze (((Below.refl _ w).drew).alloc (Nat.le_refl _) _) (p := ⟨w.heap.size, _, none⟩) (Nat.le_refl _) _

theorem tw_head (s : ByteArray) (h : 0 < s.size) (hd : lxDig (s[0]'h) = true) : ∃ r, s.data.toList.takeWhile lxW = (s[0]'h) :: r := by
  obtain ⟨r, hr⟩ := head_list s h
  refine ⟨r.takeWhile lxW, ?_⟩
  rw [hr, List.takeWhile_cons, if_pos (by unfold lxW; rw [hd]; simp)]

set_option maxRecDepth 100000 in
set_option maxHeartbeats 1000000 in
theorem fInt_any (s : ByteArray) (h0 : 0 < s.size) (hd : lxDig (s[0]'h0) = true) (hs : s.size ≤ 8192) (w : World) (he : Ev w) (hw6 : 5 < w.heap.size) :
    Calls Tryd.prog 20 #[.string s] w fun e w' => e = .returned (fstV (numT (s.data.toList.takeWhile lxW))) ∧ Below w.heap.size w w' := by
  obtain ⟨w1, hw1, hb1, hz1, hbx⟩ := tok_box w
  obtain ⟨g, hg⟩ : ∃ g, w.heap.size = g := ⟨_, rfl⟩
  have HG := hide hg
  have HEV : Hid (∀ u, Below w1.heap.size w1 u → Ev u) := hide (fun u hu => he.below (hbx u hu).2 hw6)
  rw [hg] at hbx
  have HBX := hide hbx
  obtain ⟨r, hWr⟩ := tw_head s h0 hd
  obtain ⟨c, hc⟩ : ∃ c, s[0]'h0 = c := ⟨_, rfl⟩
  rw [hc] at hWr hd
  have CW := hide (word_any s (by omega) w1)
  have hWl : (c :: r).length ≤ 8192 := by
    have := tw_le lxW s.data.toList
    rw [hWr, len_list] at this
    omega
  rw [hWr] at CW ⊢
  obtain ⟨W, hW⟩ : ∃ W, c :: r = W := ⟨_, rfl⟩
  have hsz := bA_size W
  have hdat := bA_data W
  have hlst := bA_list W
  cases hp : Lib.parseIntB 64 (c :: r) with
  | ok v =>
    obtain ⟨v0, v1, y1, y2⟩ := int_ok hd hp
    obtain ⟨n, rfl⟩ : ∃ n : Nat, v = (n : Int) := ⟨v.toNat, by omega⟩
    rw [hW] at hp CW hWl y1 y2 ⊢
    have CP := hide (fun u => Tryd.strconv_ParseInt_10_at64_ok (bA W) (by omega) (n : Int) (by rw [hdat]; exact hp) u)
    have CF := hide (fun u (hu : Ev u) => Tryd.strconv_FormatInt_10 (n : Int) (by omega) v1 u hu.tab)
    have hcmp : ((⟨(Lib.itoa (n : Int)).toArray⟩ : ByteArray).toList == (bA W).toList) = decide (Lib.itoa (n : Int) = W) := by
      rw [hlst, show (⟨(Lib.itoa (n : Int)).toArray⟩ : ByteArray) = bA (Lib.itoa (n : Int)) from rfl, bA_list, Bool.eq_iff_iff, beq_iff_eq, decide_eq_true_eq]
    obtain ⟨I, hI⟩ : ∃ I, (⟨(Lib.itoa (n : Int)).toArray⟩ : ByteArray) = I := ⟨_, rfl⟩
    rw [hI] at CF hcmp
    obtain ⟨V, hV⟩ : ∃ V, bA W = V := ⟨_, rfl⟩
    rw [hV] at CW CP hsz hcmp
    by_cases hq : Lib.itoa (n : Int) = W
    · have hE : fstV (numT W) = .tuple #[.agg #[.int .i64 3, .string ⟨#[]⟩, .int .i64 (n : Int), .int .i64 0], .int .i64 (W.length : Int), .int .i64 0] := by
        unfold numT
        rw [y1 hq]
        rfl
      rw [hE]
      rw [decide_eq_true hq] at hcmp
      have hne : (I.toList != V.toList) = false := by rw [bne, hcmp]; rfl
      clear hE hp hbx hV hI hb1 hWr hW hdat hlst y1 y2 hq he hc
      go_enter Tryd.func20, Tryd.ntmps20
      go_wp2_with fail
      refine (unhide CW).mono ?_
      rintro e u ⟨rfl, b1⟩
      have HU := hide b1
      clear b1 CW
      go_wp2_with fail
      refine ((unhide CP) _).mono ?_
      rintro e u2 ⟨rfl, b2⟩
      have HU2 : Hid (Below w1.heap.size w1 u2) := hide (by
        rcases b2 with rfl | ⟨t, rfl⟩
        · exact unhide HU
        · exact (unhide HU).trans ((below_bytes u _ t).mono (unhide HU).size))
      clear b2 CP
      go_wp2_with fail
      refine ((unhide CF) u2 (unhide HEV u2 (unhide HU2))).mono ?_
      rintro e u3 ⟨rfl, q, os, hu3⟩
      have HU3 : Hid (Below w1.heap.size w1 u3) := hide ((unhide HU2).trans (show Below w1.heap.size u2 u3 by rw [hu3]; exact Lib.below_grow _ _ (unhide HU2).size q os))
      clear hu3 CF
      have tok : True := trivial
      go_wp2_with (first | (have _t := tok; refine wpList_put_arr rfl 37 (.tmp 2) (.tmp 25) rfl g _ _ rfl rfl (unhide HBX u3 (unhide HU3)).1 rfl size_tok (one_tok _ _ _ _) ?_; clear tok; intro w7 M7))
      exact bodyPost_ret (ret_ctt (p := 2) (u := 3) (v := 4) (T := 37) rfl _ _ g _ _ _ rfl (unhide M7).at' Tryd.underlying37 rfl size_tok) rfl ⟨by rw [← hsz]; rfl, by first | exact (unhide M7).below w.heap.size w (by rw [unhide HG]; exact (unhide HBX u3 (unhide HU3)).2) (by have := unhide HG; omega) | exact (unhide M7).below g w (unhide HBX u3 (unhide HU3)).2 (Nat.le_refl _)⟩
    · have hE : fstV (numT W) = .tuple #[.agg #[.int .i64 0, .string ⟨#[]⟩, .int .i64 0, .int .i64 0], .int .i64 0, .int .i64 162] := by
        unfold numT
        rw [y2 hq]
        rfl
      rw [hE]
      rw [decide_eq_false hq] at hcmp
      have hne : (I.toList != V.toList) = true := by rw [bne, hcmp]; rfl
      clear hE hp hbx hV hI hb1 hWr hW hdat hlst y1 y2 hq he hc
      go_enter Tryd.func20, Tryd.ntmps20
      go_wp2_with fail
      refine (unhide CW).mono ?_
      rintro e u ⟨rfl, b1⟩
      have HU := hide b1
      clear b1 CW
      go_wp2_with fail
      refine ((unhide CP) _).mono ?_
      rintro e u2 ⟨rfl, b2⟩
      have HU2 : Hid (Below w1.heap.size w1 u2) := hide (by
        rcases b2 with rfl | ⟨t, rfl⟩
        · exact unhide HU
        · exact (unhide HU).trans ((below_bytes u _ t).mono (unhide HU).size))
      clear b2 CP
      go_wp2_with fail
      refine ((unhide CF) u2 (unhide HEV u2 (unhide HU2))).mono ?_
      rintro e u3 ⟨rfl, q, os, hu3⟩
      have HU3 : Hid (Below w1.heap.size w1 u3) := hide ((unhide HU2).trans (show Below w1.heap.size u2 u3 by rw [hu3]; exact Lib.below_grow _ _ (unhide HU2).size q os))
      clear hu3 CF
      have tok : True := trivial
      go_wp2_with (first | (have _t := tok; refine wpList_put_arr rfl 37 (.tmp 2) (.tmp 23) rfl g _ _ rfl rfl (unhide HBX u3 (unhide HU3)).1 rfl size_tok (one_tok _ _ _ _) ?_; clear tok; intro w7 M7))
      exact bodyPost_ret (ret_ctt (p := 2) (u := 3) (v := 4) (T := 37) rfl _ _ g _ _ _ rfl (unhide M7).at' Tryd.underlying37 rfl size_tok) rfl ⟨rfl, by first | exact (unhide M7).below w.heap.size w (by rw [unhide HG]; exact (unhide HBX u3 (unhide HU3)).2) (by have := unhide HG; omega) | exact (unhide M7).below g w (unhide HBX u3 (unhide HU3)).2 (Nat.le_refl _)⟩
  | «syntax» =>
    have hE : fstV (numT (c :: r)) = .tuple #[.agg #[.int .i64 0, .string ⟨#[]⟩, .int .i64 0, .int .i64 0], .int .i64 0, .int .i64 162] := by
      unfold numT
      rw [int_bad hd (fun v => by rw [hp]; simp)]
      rfl
    rw [hE]
    rw [hW] at hp CW hWl
    obtain ⟨V, hV⟩ : ∃ V, bA W = V := ⟨_, rfl⟩
    have CP2 : Hid (∀ u, Ev u → Calls Tryd.prog 32 #[.string V, .int .i64 10, .int .i64 64] u fun e u' => ∃ N : Nat, e = .returned (.tuple #[.int .i64 0, .iface 84 (.pointer (some ⟨N, 0, none⟩))]) ∧ Below u.heap.size u u') := hide (fun u hu => by
      rw [← hV]
      obtain ⟨ev, h1, h2⟩ := hu.syn
      refine (Tryd.strconv_ParseInt_10_at64_syntax (bA W) (by omega) (by rw [hdat]; exact hp) ev u h1 h2).mono ?_
      rintro e u' ⟨N, rfl, _, _, hb⟩
      exact ⟨N, rfl, hb⟩)
    rw [hV] at CW
    clear hE hp hbx hV hb1 hWr hW hdat hlst hsz he hc
    go_enter Tryd.func20, Tryd.ntmps20
    go_wp2_with fail
    refine (unhide CW).mono ?_
    rintro e u ⟨rfl, b1⟩
    have HU := hide b1
    clear b1 CW
    go_wp2_with fail
    refine ((unhide CP2) u (unhide HEV u (unhide HU))).mono ?_
    rintro e u3 ⟨N, rfl, b3⟩
    have HU3 : Hid (Below w1.heap.size w1 u3) := hide ((unhide HU).trans (b3.mono (unhide HU).size))
    clear b3 CP2
    have tok : True := trivial
    go_wp2_with (first | (have _t := tok; refine wpList_put_arr rfl 37 (.tmp 2) (.tmp 23) rfl g _ _ rfl rfl (unhide HBX u3 (unhide HU3)).1 rfl size_tok (one_tok _ _ _ _) ?_; clear tok; intro w7 M7))
    exact bodyPost_ret (ret_ctt (p := 2) (u := 3) (v := 4) (T := 37) rfl _ _ g _ _ _ rfl (unhide M7).at' Tryd.underlying37 rfl size_tok) rfl ⟨rfl, by first | exact (unhide M7).below w.heap.size w (by rw [unhide HG]; exact (unhide HBX u3 (unhide HU3)).2) (by have := unhide HG; omega) | exact (unhide M7).below g w (unhide HBX u3 (unhide HU3)).2 (Nat.le_refl _)⟩
  | range =>
    have hE : fstV (numT (c :: r)) = .tuple #[.agg #[.int .i64 0, .string ⟨#[]⟩, .int .i64 0, .int .i64 0], .int .i64 0, .int .i64 162] := by
      unfold numT
      rw [int_bad hd (fun v => by rw [hp]; simp)]
      rfl
    rw [hE]
    rw [hW] at hp CW hWl
    obtain ⟨V, hV⟩ : ∃ V, bA W = V := ⟨_, rfl⟩
    have CP2 : Hid (∀ u, Ev u → Calls Tryd.prog 32 #[.string V, .int .i64 10, .int .i64 64] u fun e u' => ∃ N : Nat, e = .returned (.tuple #[.int .i64 (Lib.intSat 64 (bA W).data.toList), .iface 84 (.pointer (some ⟨N, 0, none⟩))]) ∧ Below u.heap.size u u') := hide (fun u hu => by
      rw [← hV]
      obtain ⟨ev, h1, h2⟩ := hu.rng
      refine (Tryd.strconv_ParseInt_10_at64_range (bA W) (by omega) (by rw [hdat]; exact hp) ev u h1 h2).mono ?_
      rintro e u' ⟨N, rfl, _, _, hb⟩
      exact ⟨N, rfl, hb⟩)
    rw [hV] at CW
    clear hE hp hbx hV hb1 hWr hW hdat hlst hsz he hc
    go_enter Tryd.func20, Tryd.ntmps20
    go_wp2_with fail
    refine (unhide CW).mono ?_
    rintro e u ⟨rfl, b1⟩
    have HU := hide b1
    clear b1 CW
    go_wp2_with fail
    refine ((unhide CP2) u (unhide HEV u (unhide HU))).mono ?_
    rintro e u3 ⟨N, rfl, b3⟩
    have HU3 : Hid (Below w1.heap.size w1 u3) := hide ((unhide HU).trans (b3.mono (unhide HU).size))
    clear b3 CP2
    have tok : True := trivial
    go_wp2_with (first | (have _t := tok; refine wpList_put_arr rfl 37 (.tmp 2) (.tmp 23) rfl g _ _ rfl rfl (unhide HBX u3 (unhide HU3)).1 rfl size_tok (one_tok _ _ _ _) ?_; clear tok; intro w7 M7))
    exact bodyPost_ret (ret_ctt (p := 2) (u := 3) (v := 4) (T := 37) rfl _ _ g _ _ _ rfl (unhide M7).at' Tryd.underlying37 rfl size_tok) rfl ⟨rfl, by first | exact (unhide M7).below w.heap.size w (by rw [unhide HG]; exact (unhide HBX u3 (unhide HU3)).2) (by have := unhide HG; omega) | exact (unhide M7).below g w (unhide HBX u3 (unhide HU3)).2 (Nat.le_refl _)⟩
end Go.Proofs.YtgalfhlclmkbfaaDoor
