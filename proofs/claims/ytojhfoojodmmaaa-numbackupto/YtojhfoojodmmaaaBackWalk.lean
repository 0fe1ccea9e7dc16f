/-
  The walk of the law NumBack: what is laid behind bytes is read from there, whatever stands behind; condition: the lengths together are at most 2^21.
-/
import Derived.Test.YtojhfoojodmmaaaPuts2
import Derived.Test.YtojhfoojodmmaaaReads2
namespace Go.Proofs.Ytojhfoojodmmaaa
open Go.RowKit

theorem own_below {w w' : World} {base B g n cap : Nat} {xs : List Value} (h : w.ownsRow base 5 1 (.slice (some ⟨g, 0, none⟩) n cap) n xs) (hb : Below B w w') (hg : g < B) : w'.ownsRow base 5 1 (.slice (some ⟨g, 0, none⟩) n cap) n xs := by
  refine ⟨h.1, ?_⟩
  rcases h.2 with ⟨e, _⟩ | ⟨g', cap', cur, e, h1, h2, h3⟩
  · cases e
  · cases e
    exact Or.inr ⟨g, cap, cur, rfl, h1, by rw [hb.block g hg]; exact h2, h3⟩

theorem own_small {w : World} {base g n cap : Nat} {xs : List Value} (h : w.ownsRow base 5 1 (.slice (some ⟨g, 0, none⟩) n cap) n xs) : g < w.heap.size := (h.lt g rfl).2

theorem own_cap {w : World} {base g n cap : Nat} {xs : List Value} (h : w.ownsRow base 5 1 (.slice (some ⟨g, 0, none⟩) n cap) n xs) : cap ≤ maxLen := by
  rcases h.2 with ⟨e, _⟩ | ⟨g', cap', cur, e, _, _, _, hm, _⟩
  · cases e
  · cases e; exact hm

theorem small_app {a b : List Int} (ha : ∀ n ∈ a, 0 ≤ n ∧ n ≤ 255) (hb : ∀ n ∈ b, 0 ≤ n ∧ n ≤ 255) : ∀ n ∈ a ++ b, 0 ≤ n ∧ n ≤ 255 := by
  intro n hn
  rcases List.mem_append.1 hn with h | h
  · exact ha n h
  · exact hb n h

/-- a text that was laid behind bytes is read from there -/
theorem text_back (zs rest : List Int) (s : ByteArray) (hs : s.size ≤ 9223372036854775807) :
    textOfU (zs ++ encF 9 s.size ++ nums s ++ rest) s.size (uintAt (zs ++ encF 9 s.size ++ nums s ++ rest) zs.length) = (s, ((zs.length + (encF 9 s.size).length + s.size : Nat) : Int), 0) := by
  have hu := uint_back zs (nums s ++ rest) (s.size : Int) (by omega) (by omega)
  rw [← List.append_assoc] at hu
  rw [hu]
  have hn := nums_len s
  have hl : (zs ++ encF 9 (s.size : Int) ++ nums s ++ rest).length = zs.length + (encF 9 (s.size : Int)).length + s.size + rest.length := by simp [hn]; omega
  unfold textOfU
  simp only [ne_eq, not_true_eq_false, if_false]
  rw [if_neg (by omega), hl, if_neg (by omega)]
  have hd : ((zs ++ encF 9 (s.size : Int) ++ nums s ++ rest).drop (((zs.length + (encF 9 (s.size : Int)).length : Nat) : Int)).toNat).take ((s.size : Int)).toNat = nums s := by
    rw [Int.toNat_natCast, Int.toNat_natCast, List.append_assoc, ← List.length_append, List.drop_left, ← hn, List.take_left]
  rw [hd, nums_str]
  simp

set_option maxRecDepth 100000 in
set_option maxHeartbeats 2000000 in
theorem back_any (a0 : Option Addr) (len0 cap0 : Nat) (z0 : List Int) (n : Int) (s : ByteArray) (a3 : Option Addr) (len3 cap3 : Nat) (z3 : List Int) (w : World) (w0 : Row8 w a0 len0 cap0 z0) (w3 : Row8 w a3 len3 cap3 z3)
    (n0 : 0 ≤ n) (n1 : n ≤ 18446744073709551615) (hsum : len0 + s.size + len3 ≤ 2097152) :
    Calls Try.prog 5 #[.slice a0 len0 cap0, .int .u64 n, .string s, .slice a3 len3 cap3] w fun e w' => e = .returned (.bool true) ∧ Below w.heap.size w w' := by
  have hz := w0.length
  go_enter Try.func5, Try.ntmps5
  go_wp2_with fail
  refine (shown_any _).mono ?_
  rintro e v1 ⟨rfl, hb1⟩
  have r1 := w0.later hb1
  go_wp2_with fail
  refine (putUint_any a0 len0 cap0 n z0 v1 r1 (by omega) n0 n1).mono ?_
  rintro e v2 ⟨rfl, ox2, hb2⟩
  have r2 := r1.later hb2
  go_wp2_with fail
  refine (putInt_any a0 len0 cap0 (wrap64 n) z0 v2 r2 (by omega) (bounds_i64 (wrap64_wf n)).1 (bounds_i64 (wrap64_wf n)).2).mono ?_
  rintro e v3 ⟨rfl, oy3, hb3⟩
  have r3 := r2.later hb3
  go_wp2_with fail
  refine (putText_any a0 len0 cap0 s z0 v3 r3 (by omega)).mono ?_
  rintro e v4 ⟨gz, cz, hgz, rfl, oz4, hb4⟩
  have f0 : 0 ≤ foldI (wrap64 n) := by have := bounds_i64 (wrap64_wf n); unfold foldI; split <;> omega
  have f1 : foldI (wrap64 n) ≤ 18446744073709551615 := by have := bounds_i64 (wrap64_wf n); unfold foldI; split <;> omega
  have l1 := encF_len 9 n
  have l2 := encF_len 9 (foldI (wrap64 n))
  have l3 := encF_len 9 (s.size : Int)
  have g1 := own_small ox2
  have g2 := own_small oy3
  have ox4 := own_below (own_below ox2 hb3 g1) hb4 (by have := hb3.size; omega)
  have oy4 := own_below oy3 hb4 g2
  have b12 := hb1.trans (hb2.mono hb1.size)
  have b13 := b12.trans (hb3.mono b12.size)
  have b14 := b13.trans (hb4.mono b13.size)
  have t4 := w3.later b14
  have s3 := hb1.size
  have s4 := b14.size
  have d1 : v1.heap.size < v4.heap.size := by have := hb3.size; have := hb4.size; omega
  have d2 : v2.heap.size < v4.heap.size := by have := hb4.size; omega
  have d3 : v1.heap.size < v2.heap.size := g1
  have d4 : v2.heap.size < gz := by have := hb4.size; omega
  have d5 := hb4.size
  have e1 : v1.heap.size ≠ v2.heap.size := by omega
  have e2 : v1.heap.size ≠ gz := by omega
  have e3 : v2.heap.size ≠ gz := by omega
  have zs0 := w0.small
  have zs3 := w3.small
  have U1 := uint_back z0 z3 n n0 n1
  have U2 := uint_back z0 z3 (foldI (wrap64 n)) f0 f1
  have U3 := text_back z0 z3 s (by omega)
  rw [hz] at U1 U2 U3
  have HU1 := hide U1
  have HU2 := hide U2
  have HU3 := hide U3
  have Hf := hide (And.intro f0 f1)
  have T := hide w3
  clear ox2 oy3 hb1 hb2 hb3 hb4 b12 b13 r1 r2 r3 w0 w3 U1 U2 U3 f0 f1
  go_wp2_with (first | (at_builtin; refine app_row rfl (.tmp 34) (.tmp 35) rfl v1.heap.size v1.heap.size _ _ _ rfl ox4 (by omega) a3 len3 cap3 z3 rfl t4 (by omega) (by omega) ?_; intro g5 c5 v5 hg5 ox5 gr5))
  have b15 := b14.grown gr5 s4 (by intro k hk; cases hk; exact s3)
  have oz5 := oz4.kept gr5 (Or.inr (by simp [Value.ownBlock]; omega))
  have oy5 := oy4.kept gr5 (Or.inr (by simp [Value.ownBlock]; omega))
  have t5 := (unhide T).later b15
  have s5 := b15.size
  have s5' := gr5.size
  rw [← List.map_append] at ox5
  have C1 := uint_any _ _ _ (len0 : Int) (z0 ++ encF 9 n ++ z3) v5 (Row8.own ox5 (small_app (small_app zs0 (encF9_bytes n n0 n1)) zs3)) (own_cap ox5)
  rw [unhide HU1] at C1
  have C1 := hide C1
  clear ox4 oy4 oz4 t4 gr5 b14 ox5 s4
  refine (unhide C1).mono ?_
  rintro e v6 ⟨rfl, rfl⟩
  clear C1
  go_wp2_with (first | (at_builtin; refine app_row rfl (.tmp 44) (.tmp 45) rfl v2.heap.size v2.heap.size _ _ _ rfl oy5 (by omega) a3 len3 cap3 z3 rfl t5 (by omega) (by omega) ?_; intro g7 c7 v7 hg7 oy7 gr7))
  have b17 := b15.grown gr7 s5 (by intro k hk; cases hk; omega)
  have oz7 := oz5.kept gr7 (Or.inr (by simp [Value.ownBlock]; omega))
  have t7 := (unhide T).later b17
  have s7 := b17.size
  have s7' := gr7.size
  rw [← List.map_append] at oy7
  have C2 := int_any _ _ _ (len0 : Int) (z0 ++ encF 9 (foldI (wrap64 n)) ++ z3) v7 (Row8.own oy7 (small_app (small_app zs0 (encF9_bytes _ (unhide Hf).1 (unhide Hf).2)) zs3)) (own_cap oy7)
  rw [unhide HU2] at C2
  have hI : intOfU (foldI (wrap64 n), ((len0 + (encF 9 (foldI (wrap64 n))).length : Nat) : Int), 0) = (wrap64 n, ((len0 + (encF 9 (foldI (wrap64 n))).length : Nat) : Int), 0) := by
    unfold intOfU; rw [if_pos rfl, unfold_fold]
  rw [hI] at C2
  have C2 := hide C2
  clear oy5 oz5 t5 gr7 b15 oy7 s5 hI
  refine (unhide C2).mono ?_
  rintro e v8 ⟨rfl, rfl⟩
  clear C2
  go_wp2_with (first | (at_builtin; refine app_row rfl (.tmp 54) (.tmp 55) rfl v3.heap.size gz _ _ _ rfl oz7 (by omega) a3 len3 cap3 z3 rfl t7 (by omega) (by omega) ?_; intro g9 c9 v9 hg9 oz9 gr9))
  have b19 := b17.grown gr9 s7 (by intro k hk; cases hk; omega)
  rw [← List.map_append] at oz9
  have C3 := text_any _ _ _ (len0 : Int) (s.size : Int) (z0 ++ encF 9 (s.size : Int) ++ nums s ++ z3) v9 (Row8.own oz9 (small_app (small_app (small_app zs0 (encF9_bytes _ (by omega) (by omega))) (nums_small s)) zs3)) (own_cap oz9) (by omega)
  rw [unhide HU3] at C3
  have C3 := hide C3
  have HB := hide b19
  clear oz7 t7 gr9 b17 oz9 s7 b19
  refine (unhide C3).mono ?_
  rintro e v10 ⟨rfl, rfl⟩
  clear C3
  go_wp2_with fail
  go_ret
  exact ⟨by simp, unhide HB⟩
end Go.Proofs.Ytojhfoojodmmaaa
