/-
  The walk of the law NumPuts: what num lays is what the document lays, in new memory; condition: the lengths together are at most 2^21.
-/
import Derived.Test.YtojhfoojodmmaaaRefPuts
import Derived.Test.YtojhfoojodmmaaaMem
import Derived.Deep.RegionHeld
import Derived.Deep.DrawnRows
namespace Go.Proofs.Ytojhfoojodmmaaa
open Go.RowKit
attribute [local go_sem ↓] Go.wp_at_zero Go.wp_at_succ

theorem own_pos {w : World} {base g n cap : Nat} {zs : List Int} (h : w.ownsRow base 5 1 (.slice (some ⟨g, 0, none⟩) n cap) n (zs.map (Value.int .u8))) (hs : ∀ c ∈ zs, 0 ≤ c ∧ c ≤ 255) (hp : 0 < n) (w' : World) (hb : Below w.heap.size w w') :
    Sem.run Try.prog (convert 22 9 (.slice (some ⟨g, 0, none⟩) n cap)) w' = .ok (.string (strOfNums zs)) w' := by
  have r := (Row8.own h hs).later hb
  obtain ⟨b, o, e, hc⟩ := r.at hp
  cases e
  have := conv_row (w := w') r.length hc 0 n cap (by omega) 0
  rw [List.drop_zero, List.take_of_length_le (by rw [r.length]; exact Nat.le_refl _)] at this
  exact this

theorem keep3 {v w1 w2 : World} {P : World → Prop} (H : Hid (∀ w', Below v.heap.size v w' → P w')) (h : Below v.heap.size v w1) (hb : Below w1.heap.size w1 w2) : Below v.heap.size v w2 ∧ P w2 :=
  ⟨h.trans (hb.mono h.size), unhide H _ (h.trans (hb.mono h.size))⟩

theorem small2 {a b : List Int} (ha : ∀ n ∈ a, 0 ≤ n ∧ n ≤ 255) (hb : ∀ n ∈ b, 0 ≤ n ∧ n ≤ 255) : ∀ n ∈ a ++ b, 0 ≤ n ∧ n ≤ 255 := by
  intro n hn
  rcases List.mem_append.1 hn with h | h
  · exact ha n h
  · exact hb n h

/-- a text out of what a call has laid -/
theorem texted {f : Nat} {args : Array Value} {w : World} {len : Nat} {zs : List Int} {T : ByteArray} (hT : strOfNums zs = T) (hs : ∀ c ∈ zs, 0 ≤ c ∧ c ≤ 255) (hp : 0 < len)
    (h : Calls Try.prog f args w fun e w' => ∃ g c : Nat, w.heap.size ≤ g ∧ e = .returned (.slice (some ⟨g, 0, none⟩) len c) ∧ w'.ownsRow w.heap.size 5 1 (.slice (some ⟨g, 0, none⟩) len c) len (zs.map (Value.int .u8)) ∧ Below w.heap.size w w') :
    Calls Try.prog f args w fun e w' => ∃ g l c : Nat, e = .returned (.slice (some ⟨g, 0, none⟩) l c) ∧ Sem.run Try.prog (convert 22 9 (.slice (some ⟨g, 0, none⟩) l c)) w' = .ok (.string T) w' ∧ Below w.heap.size w w' := by
  refine h.mono ?_
  rintro e w' ⟨g, c, _, rfl, hown, hb⟩
  refine ⟨g, len, c, rfl, ?_, hb⟩
  rw [← hT]
  exact own_pos hown hs hp w' (Below.refl _ _)

theorem wrapEq (n : Int) : IntKind.i64.wrap n = wrap64 n := by simp only [IntKind.wrap_i64, wrap64]

theorem four_row (w : World) : Row8 (w.alloc (.cells #[.int .u8 9, .int .u8 9, .int .u8 9, .int .u8 9] 5)) (some ⟨w.heap.size, 0, none⟩) 4 4 [9, 9, 9, 9] := by
  refine ⟨rfl, (fun e => by cases e), ?_, by decide, Nat.le_refl _⟩
  intro ad ha j u hj
  cases ha
  match j, hj with
  | 0, hj => cases hj; rw [show ((⟨w.heap.size, 0, none⟩ : Addr).add 0) = ⟨w.heap.size, 0, none⟩ from rfl, World.cell?_alloc_at _ _ _ _ rfl]; rfl
  | 1, hj => cases hj; rw [show ((⟨w.heap.size, 0, none⟩ : Addr).add 1) = ⟨w.heap.size, 1, none⟩ from rfl, World.cell?_alloc_at _ _ _ _ rfl]; rfl
  | 2, hj => cases hj; rw [show ((⟨w.heap.size, 0, none⟩ : Addr).add 2) = ⟨w.heap.size, 2, none⟩ from rfl, World.cell?_alloc_at _ _ _ _ rfl]; rfl
  | 3, hj => cases hj; rw [show ((⟨w.heap.size, 0, none⟩ : Addr).add 3) = ⟨w.heap.size, 3, none⟩ from rfl, World.cell?_alloc_at _ _ _ _ rfl]; rfl
  | j + 4, hj => simp at hj

set_option maxRecDepth 100000 in
set_option maxHeartbeats 1500000 in
theorem puts_any (a0 : Option Addr) (len0 cap0 : Nat) (z0 : List Int) (n : Int) (s : ByteArray) (w : World) (w0 : Row8 w a0 len0 cap0 z0)
    (n0 : 0 ≤ n) (n1 : n ≤ 18446744073709551615) (hsum : len0 + s.size ≤ 2097152) :
    Calls Try.prog 3 #[.slice a0 len0 cap0, .int .u64 n, .string s] w fun e w' => e = .returned (.bool true) ∧ Below w.heap.size w w' := by
  have hz := w0.length
  have hle := w0.le
  go_enter Try.func3, Try.ntmps3
  go_wp2_with fail
  refine (shown_any _).mono ?_
  rintro e v1 ⟨rfl, hb1⟩
  have r1 := w0.later hb1
  go_wp2_with fail
  refine (lent_any a0 len0 cap0 z0 v1 r1 (by omega)).mono ?_
  rintro e v2 ⟨rfl, ho2, hb2⟩
  have l2 := Row8.own ho2 (small2 w0.small (by intro n hn; have := List.eq_of_mem_replicate hn; omega))
  have q2 : Row8 v2 (some ⟨v1.heap.size, 0, none⟩) len0 (len0 + 8) z0 := by
    refine ⟨hz, (fun e => by cases e), ?_, w0.small, by omega⟩
    intro ad ha j u hj
    refine l2.cells ad ha j u ?_
    rw [List.map_append, List.getElem?_append_left (by
      have := (List.getElem?_eq_some_iff.1 hj).1
      exact this)]
    exact hj
  have i1 : (len0 : Int) ≤ (len0 : Int) + 8 := by omega
  have W0 := hide w0
  have b12 := hb1.trans (hb2.mono hb1.size)
  clear r1 ho2 w0 hb1 hb2
  go_wp2_with fail
  refine (putUint_any _ len0 _ n z0 v2 q2 (by omega) n0 n1).mono ?_
  rintro e v3 ⟨rfl, ox3, hb3⟩
  have q3 := q2.later hb3
  go_wp2_with fail
  refine (putInt_any _ len0 _ (wrap64 n) z0 v3 q3 (by omega) (bounds_i64 (wrap64_wf n)).1 (bounds_i64 (wrap64_wf n)).2).mono ?_
  rintro e v4 ⟨rfl, oy4, hb4⟩
  have q4 := q3.later hb4
  go_wp2_with fail
  refine (putText_any _ len0 _ s z0 v4 q4 (by omega)).mono ?_
  rintro e v5 ⟨gz, cz, hgz, rfl, oz5, hb5⟩
  have q5 := q4.later hb5
  go_wp2_with fail
  refine (putUint_any _ len0 _ n z0 v5 q5 (by omega) n0 n1).mono ?_
  rintro e v6 ⟨rfl, oa6, hb6⟩
  go_wp2_with fail
  have f0 : 0 ≤ foldI (wrap64 n) := by have := bounds_i64 (wrap64_wf n); unfold foldI; split <;> omega
  have f1 : foldI (wrap64 n) ≤ 18446744073709551615 := by have := bounds_i64 (wrap64_wf n); unfold foldI; split <;> omega
  have l1 := encF_len 9 n
  have l2' := encF_len 9 (foldI (wrap64 n))
  have l3 := encF_len 9 (s.size : Int)
  have zs0 := (unhide W0).small
  have s1 := small2 zs0 (encF9_bytes n n0 n1)
  have s2 := small2 zs0 (encF9_bytes _ f0 f1)
  have s3 := small2 (small2 zs0 (encF9_bytes (s.size : Int) (by omega) (by omega))) (nums_small s)
  have b45 := hb4.trans (hb5.mono hb4.size)
  have b35 := hb3.trans (b45.mono hb3.size)
  have b15 := b12.trans (b35.mono b12.size)
  obtain ⟨T1, hT1⟩ : ∃ T, strOfNums (z0 ++ encF 9 n) = T := ⟨_, rfl⟩
  obtain ⟨T2, hT2⟩ : ∃ T, strOfNums (z0 ++ encF 9 (foldI (wrap64 n))) = T := ⟨_, rfl⟩
  obtain ⟨T3, hT3⟩ : ∃ T, strOfNums (z0 ++ encF 9 (s.size : Int) ++ nums s) = T := ⟨_, rfl⟩
  have FX : Hid (∀ w', Below v5.heap.size v5 w' →
      Sem.run Try.prog (convert 22 9 (.slice (some ⟨v2.heap.size, 0, none⟩) (len0 + (encF 9 n).length) (len0 + 10))) w' = .ok (.string T1) w' ∧
      Sem.run Try.prog (convert 22 9 (.slice (some ⟨v3.heap.size, 0, none⟩) (len0 + (encF 9 (foldI (wrap64 n))).length) (len0 + 10))) w' = .ok (.string T2) w' ∧
      Sem.run Try.prog (convert 22 9 (.slice (some ⟨gz, 0, none⟩) (len0 + (encF 9 (s.size : Int)).length + s.size) cz)) w' = .ok (.string T3) w') := hide (by
    intro w' hb
    refine ⟨?_, ?_, ?_⟩
    · rw [← hT1]; exact own_pos ox3 s1 (by omega) w' (b45.trans (hb.mono b45.size))
    · rw [← hT2]; exact own_pos oy4 s2 (by omega) w' (hb5.trans (hb.mono hb5.size))
    · rw [← hT3]; exact own_pos oz5 s3 (by omega) w' hb)
  have FL : Hid (∀ w', Below v5.heap.size v5 w' → Row8 w' (some ⟨v1.heap.size, 0, none⟩) (len0 + 8) (len0 + 8) (z0 ++ List.replicate 8 77) ∧ Row8 w' a0 len0 cap0 z0 ∧ Below w.heap.size w w') := hide (by
    intro w' hb
    exact ⟨l2.later (b35.trans (hb.mono b35.size)), (unhide W0).later (b15.trans (hb.mono b15.size)), b15.trans (hb.mono b15.size)⟩)
  have D1 : ∀ w', Below v5.heap.size v5 w' → Hid _ := fun w' hb => hide (texted hT1 s1 (by omega) (refPutUint_any a0 len0 cap0 n z0 w' (unhide FL w' hb).2.1 (by omega) n0 n1))
  have D2 : ∀ (N : Int), Hid (N = wrap64 n) → ∀ w', Below v5.heap.size v5 w' → Hid (Calls Try.prog 16 #[.slice a0 len0 cap0, .int .i64 N] w' fun e w'' => ∃ g l c : Nat, e = .returned (.slice (some ⟨g, 0, none⟩) l c) ∧ Sem.run Try.prog (convert 22 9 (.slice (some ⟨g, 0, none⟩) l c)) w'' = .ok (.string T2) w'' ∧ Below w'.heap.size w' w'') := by
    intro N hN w' hb
    have e := unhide hN
    subst e
    exact hide (texted hT2 s2 (by omega) (refPutInt_any a0 len0 cap0 (wrap64 n) z0 w' (unhide FL w' hb).2.1 (by omega) (bounds_i64 (wrap64_wf n)).1 (bounds_i64 (wrap64_wf n)).2))
  have D3 : ∀ w', Below v5.heap.size v5 w' → Hid _ := fun w' hb => hide (texted hT3 s3 (by omega) (refPutText_any a0 len0 cap0 s z0 w' (unhide FL w' hb).2.1 (by omega)))
  have s56 := hb6.size
  clear q2 q3 q4 q5 l2 ox3 oy4 oz5 hb3 hb4 hb5 b12 b45 b35 b15 s1 s2 s3 zs0 hT1 hT2 hT3 f0 f1 W0
  generalize (encF 9 n).length = L at *
  go_loopw [13] (fun x wr => ∃ (k : Nat) (xs : List Value), k ≤ len0 + L ∧ x = .int .i64 k ∧ wr.ownsRow v5.heap.size 5 1 (.slice (some ⟨v5.heap.size, 0, none⟩) (len0 + L) (len0 + 10)) (len0 + L) xs ∧ Below v5.heap.size v5 wr) (fun x _ => len0 + L - (intOf x).toNat)
  case atStart => exact ⟨0, _, by omega, rfl, oa6, hb6⟩
  case round =>
    clear oa6 hb6
    obtain ⟨k, xs, hk, rfl, hown, hbel⟩ := hrel
    have hsz := hbel.size
    by_cases hlt : k < len0 + L
    · have hx : xs.length = len0 + L := by simpa using hown.1
      have hcell := hown.cellAt k (by omega)
      obtain ⟨v, hv⟩ : ∃ v, xs[k]? = some v := ⟨_, List.getElem?_eq_getElem (by omega)⟩
      rw [hv] at hcell
      have hfz := hown.frozenAt k
      have hi1 : (k : Int) < (len0 : Int) + (L : Int) := by omega
      obtain ⟨hown', hgrow'⟩ := hown.stored k (.int .u8 9)
      have HO := hide hown'
      have HB := hide (hbel.grown hgrow' hbel.size (by simp))
      clear hx hown hown' hgrow' hv hbel
      go_wp2
      go_roundw
      case rel => exact ⟨k + 1, _, by omega, by go_num, unhide HO, unhide HB⟩
      case measure => simp [intOf]; omega
    · have r4 := four_row wr
      have hk' : k = len0 + L := by omega
      subst hk'
      go_wp2_with (first | (at_builtin; refine app_row rfl (.tmp 52) (.tmp 53) rfl v5.heap.size v5.heap.size (len0 + L) (len0 + 10) _ rfl (hown.alloc _) (by omega) _ 4 4 [9, 9, 9, 9] rfl r4 (by omega) (by simp; omega) ?_; intro g8 c8 v8 hg8 oa8 gr8))
      have b8 := (hbel.alloc hsz _).grown gr8 (by simp; omega) (by intro k hk; cases hk; exact Nat.le_refl _)
      have F8 := unhide FL v8 b8
      have C7 := hide (still_any v1.heap.size a0 len0 cap0 z0 v8 F8.1 F8.2.1 (by omega))
      clear oa8 gr8 hown hbel r4 F8
      refine (unhide C7).mono ?_
      rintro e v9 ⟨rfl, q, rfl⟩
      have B9 := hide (below_drewN b8 q)
      clear C7 b8
      go_wp2_with fail
      go_region_held (fun w' => Below v5.heap.size v5 w' ∧
          Sem.run Try.prog (convert 22 9 (.slice (some ⟨v2.heap.size, 0, none⟩) (len0 + L) (len0 + 10))) w' = .ok (.string T1) w' ∧
          Sem.run Try.prog (convert 22 9 (.slice (some ⟨v3.heap.size, 0, none⟩) (len0 + (encF 9 (foldI (wrap64 n))).length) (len0 + 10))) w' = .ok (.string T2) w' ∧
          Sem.run Try.prog (convert 22 9 (.slice (some ⟨gz, 0, none⟩) (len0 + (encF 9 (s.size : Int)).length + s.size) cz)) w' = .ok (.string T3) w')
        (first | assumption | exact ⟨(unhide B9).drew, unhide FX _ (unhide B9).drew⟩ | (refine keep3 FX (And.left (by assumption)) (by assumption); done) | (refine keep3 FX ?_ ?_ <;> assumption))
        (first | (go_at_call 15; refine (unhide (D1 _ (And.left (by assumption)))).mono ?_; rintro e w2 ⟨g2, l2, c2, rfl, k2, hb2⟩) | (go_at_call 16; refine (unhide (D2 _ (by first | exact hide rfl | exact hide (wrapEq _)) _ (by exact And.left (by assumption)))).mono ?_; rintro e w3 ⟨g3, l3, c3, rfl, k3, hb3⟩) | (go_at_call 17; refine (unhide (D3 _ (And.left (by assumption)))).mono ?_; rintro e w4 ⟨g4, l4, c4, rfl, k4, hb4⟩))
      have c2 := (unhide B9).drew.trans (hb2.mono (unhide B9).drew.size)
      have c3 := c2.trans (hb3.mono c2.size)
      have c4 := c3.trans (hb4.mono c3.size)
      have HB := hide (unhide FL _ c4).2.2
      clear c2 c3 c4 hb2 hb3 hb4 k2 k3 k4
      go_wp2_with fail
      go_ret
      exact ⟨rfl, unhide HB⟩
end Go.Proofs.Ytojhfoojodmmaaa
