/-
  The walks of Put and Encode, of copied and same; conditions: the lengths together are below 2^47.
  The reader of wire: a key that stands; conditions: the weight so far is at most 2048, the form's own reach.
  The reader of wire: an array, by what a value within it is; conditions: the weight so far is at most 2048, the form's own reach.
-/
import Derived.Test.YtfdnhpmldnmncaaR15
import Derived.Test.YtfdnhpmldnmncaaR09
import Derived.Test.YtfdnhpmldnmncaaR17
import Derived.Test.YtfdnhpmldnmncaaR10
import Derived.Test.YtfdnhpmldnmncaaR12
import Derived.Deep.RegionHeld3
namespace Go.Proofs.Ytfdnhpmldnmncaa
open Go.RowKit

/-- what a value's bytes are, if it is right -/
def wenc0R (v : Vl) : List Int := if rightB v = true then wenc v else []
def codeR (v : Vl) : Int := if rightB v = true then 0 else 40

theorem right_wt {v : Vl} (h : rightB v = true) : okB 8 v = true ∧ wt v ≤ 2048 := by
  unfold rightB at h
  rw [Bool.and_eq_true, decide_eq_true_eq] at h
  exact h

theorem row_of {w : World} {base n : Nat} {v : Value} {zs : List Int} (h : w.ownsRow base 5 1 v n (zs.map (Value.int .u8))) (hs : ∀ c ∈ zs, 0 ≤ c ∧ c ≤ 255) (hn : 0 < n) : ∃ g cap, v = .slice (some ⟨g, 0, none⟩) n cap ∧ base ≤ g ∧ Row8 w (some ⟨g, 0, none⟩) n cap zs ∧ cap ≤ maxLen := by
  obtain ⟨g, cap, rfl, hb⟩ := own_form h hn
  refine ⟨g, cap, rfl, hb, Row8.own h hs, ?_⟩
  obtain ⟨_, c2, e, _, _, h2, _⟩ := slice_form h
  cases e
  exact h2

theorem own_low {w : World} {base lo : Nat} {e : TypeId} {size : Nat} {v : Value} {n : Nat} {xs : List Value} (h : w.ownsRow base e size v n xs) (hb : lo ≤ base) : w.ownsRow lo e size v n xs := by
  refine ⟨h.1, ?_⟩
  rcases h.2 with hn | ⟨g, cap, cur, e, hbs, rest⟩
  · exact .inl hn
  · exact .inr ⟨g, cap, cur, e, Nat.le_trans hb hbs, rest⟩

set_option maxRecDepth 100000 in
set_option maxHeartbeats 800000 in
theorem put_any (ab : Option Addr) (lb cb : Nat) (zs : List Int) (v : Vl) (x : Value) (B : Nat) (w : World) (hz : Row8 w ab lb cb zs) (hv : IsV w B v x) (hBs : B ≤ w.heap.size) (hb : lb + 43008 ≤ 140737489403904) :
    Calls Try.prog 64 #[.slice ab lb cb, x] w fun e w' => ∃ (ao : Option Addr) (len cap : Nat), e = .returned (.tuple #[.slice ao len cap, .int .i64 (codeR v)]) ∧ Row8 w' ao len cap (if rightB v = true then zs ++ wenc v else []) ∧ Below w.heap.size w w' ∧ (∀ a, ao = some a → w.heap.size ≤ a.block) ∧ cap ≤ maxLen ∧ (rightB v = true → w'.ownsRow w.heap.size 5 1 (.slice ao len cap) len ((zs ++ wenc v).map (Value.int .u8))) := by
  have hfit := hv.fit
  obtain ⟨k, n, s, l, ks, al, ak, cl, ck, hvv, hx⟩ := hv.shape
  clear hvv
  obtain ⟨m, hm⟩ : ∃ m, ks.length = m := ⟨_, rfl⟩
  obtain ⟨ln, hln⟩ : ∃ ln, l.length = ln := ⟨_, rfl⟩
  rw [hm, hln] at hx
  subst hx
  obtain ⟨w1, hw1⟩ : ∃ w1, w.alloc (.cells #[.int .i64 k, .int .i64 n, .string s, .slice al ln cl, .slice ak m ck] 51) = w1 := ⟨_, rfl⟩
  have BX := Box.mk' w (.int .i64 k) (.int .i64 n) (.string s) (.slice al ln cl) (.slice ak m ck)
  rw [hw1] at BX
  obtain ⟨g, hg⟩ : ∃ g, w.heap.size = g := ⟨_, rfl⟩
  have z1 := BX.size
  have z1g : w1.heap.size = g + 1 := by omega
  have HRW : Hid (∀ u, Below w1.heap.size w1 u → u.heap[g]? = some (.cells #[.int .i64 k, .int .i64 n, .string s, .slice al ln cl, .slice ak m ck] 51 (0, 0)) ∧ IsV u B v (.agg #[.int .i64 k, .int .i64 n, .string s, .slice al ln cl, .slice ak m ck]) ∧ Row8 u ab lb cb zs ∧ Below w.heap.size w u) := hide (fun u hu => ⟨by rw [← hg]; exact (hu.block _ (by omega)).trans BX.row, hv.mono ((BX.below.mono hBs).trans (hu.mono (by omega))), (hz.later BX.below).later hu, BX.below.trans (hu.mono (by omega))⟩)
  have CR := hide (right_code v _ B w1 (unhide HRW w1 (Below.refl _ _)).2.1 (by omega))
  obtain ⟨c0, c1, c2, c3, c4⟩ := row_cell (unhide HRW w1 (Below.refl _ _)).1
  clear BX hv hz z1 hm hln
  cases hR : rightB v with
  | false =>
    rw [hR] at CR
    have HC : Hid (codeR v = 40) := hide (by simp [codeR, hR])
    clear hR
    go_enter Try.func64, Try.ntmps64
    go_wp2_with fail
    refine (unhide CR).mono ?_
    rintro e w2 ⟨rfl, b2⟩
    have H2 := hide b2
    clear b2 CR
    go_wp2_with fail
    go_ret2
    refine ⟨none, 0, 0, by rw [unhide HC]; rfl, by simpa using nilRow _, ?_, (fun a h => by cases h), by unfold maxLen; omega⟩
    have h := (unhide HRW _ (unhide H2)).2.2.2
    first | exact h | (rw [← hg]; exact h)
  | true =>
    rw [hR] at CR
    have hw2 := right_wt hR
    have hlen := wenc_len v
    have hlb : (wenc v).length ≤ 43008 := by omega
    have hpos := wenc_pos v 8 hw2.1
    have hsm := wenc_small v 8 hw2.1 hfit
    have HS := hide (And.intro hsm hw2.1)
    have HC : Hid (codeR v = 0) := hide (by simp [codeR, hR])
    obtain ⟨Z, hZ⟩ : ∃ Z, wenc v = Z := ⟨_, rfl⟩
    have CL : Hid (∀ u, Below w1.heap.size w1 u → Calls Try.prog 76 #[.slice none 0 0, .agg #[.int .i64 k, .int .i64 n, .string s, .slice al ln cl, .slice ak m ck]] u fun e w' => ∃ sv', e = .returned sv' ∧ w'.ownsRow u.heap.size 5 1 sv' (0 + Z.length) (([] ++ Z).map (Value.int .u8)) ∧ Grew u w' (.slice none 0 0) sv') := hide (fun u hu => by
      have h := lay_any 8 v _ B u.heap.size u (.slice none 0 0) 0 [] hw2.1 (unhide HRW u hu).2.1 (by have := hu.size; omega) (Nat.le_refl _) (World.ownsRow_nil _ _ _ _) (by omega)
      rw [hZ] at h
      exact h)
    rw [hZ] at hlb hpos HS
    rw [if_pos rfl, hZ]
    clear hR hw2 hlen hsm hZ hfit
    go_enter Try.func64, Try.ntmps64
    go_wp2_with fail
    refine (unhide CR).mono ?_
    rintro e w2 ⟨rfl, b2⟩
    have H2 := hide b2
    clear b2 CR c0 c1 c2 c3 c4
    obtain ⟨c0, c1, c2, c3, c4⟩ := row_cell (unhide HRW w2 (unhide H2)).1
    go_wp2_with fail
    refine (unhide CL w2 (unhide H2)).mono ?_
    rintro e w3 ⟨sv3, rfl, own3, gr3⟩
    rw [Nat.zero_add, List.nil_append] at own3
    obtain ⟨g3, cp3, rfl, hg3, r3, _⟩ := row_of own3 (unhide HS).1 (by omega)
    have b3 : Below w2.heap.size w2 w3 := ⟨gr3.grown.os, gr3.grown.tape, gr3.grown.output, gr3.grown.size, fun q hq => gr3.grown.block q hq (by simp [Value.ownBlock])⟩
    have X3 : Below w1.heap.size w1 w3 := (unhide H2).trans (b3.mono (unhide H2).size)
    obtain ⟨h3, hh3⟩ : ∃ h3, w3.heap.size = h3 := ⟨_, rfl⟩
    obtain ⟨w4, hw4⟩ : ∃ w4, w3.alloc (.cells #[.slice ab lb cb, .slice (some ⟨g3, 0, none⟩) Z.length cp3] 22) = w4 := ⟨_, rfl⟩
    have b4 : Below w3.heap.size w3 w4 := by rw [← hw4]; exact (Below.refl _ _).alloc (Nat.le_refl _) _
    have at4 : w4.heap[h3]? = some (.cells #[.slice ab lb cb, .slice (some ⟨g3, 0, none⟩) Z.length cp3] 22 (0, 0)) := by rw [← hw4, ← hh3]; exact heap_alloc_new _ _
    have CCt := hide (concat_two h3 22 ab (some ⟨g3, 0, none⟩) lb cb Z.length cp3 zs Z w4 at4 (((unhide HRW w3 X3).2.2.1).later b4) (r3.later b4) (by omega))
    have X4 := hide (X3.trans (b4.mono X3.size))
    clear own3 gr3 r3 b3 X3 b4 at4 c0 c1 c2 c3 c4 CL
    go_wp2_with fail
    refine (unhide CCt).mono ?_
    rintro e w5 ⟨sv5, rfl, own5, b5⟩
    have hsz : ∀ c ∈ zs ++ Z, 0 ≤ c ∧ c ≤ 255 := fun c hc => by
      rcases List.mem_append.1 hc with h | h
      · exact (unhide HRW w1 (Below.refl _ _)).2.2.1.small c h
      · exact (unhide HS).1 c h
    obtain ⟨g5, cp5, rfl, hg5, r5, m5⟩ := row_of own5 hsz (by omega)
    have X5 := hide ((unhide X4).trans (b5.mono (unhide X4).size))
    have H5 := hide r5
    have M5 := hide (And.intro m5 own5)
    have hz4 := (unhide X4).size
    clear own5 b5 r5 m5 hsz CCt
    go_wp2_with fail
    go_ret2
    refine ⟨_, _, _, by rw [unhide HC]; rfl, unhide H5, ?_, (fun a h => by cases h; show _ ≤ g5; omega), (unhide M5).1, fun _ => own_low (unhide M5).2 (by omega)⟩
    have h := (unhide HRW _ (unhide X5)).2.2.2
    first | exact h | (rw [← hg]; exact h)

set_option maxRecDepth 100000 in
set_option maxHeartbeats 400000 in
theorem encode_any (v : Vl) (x : Value) (B : Nat) (w : World) (hv : IsV w B v x) (hBs : B ≤ w.heap.size) :
    Calls Try.prog 53 #[x] w fun e w' => ∃ (ao : Option Addr) (len cap : Nat), e = .returned (.tuple #[.slice ao len cap, .int .i64 (codeR v)]) ∧ Row8 w' ao len cap (wenc0R v) ∧ Below w.heap.size w w' ∧ (∀ a, ao = some a → w.heap.size ≤ a.block) ∧ cap ≤ maxLen := by
  obtain ⟨k, n, s, l, ks, al, ak, cl, ck, hvv, hx⟩ := hv.shape
  clear hvv
  obtain ⟨m, hm⟩ : ∃ m, ks.length = m := ⟨_, rfl⟩
  obtain ⟨ln, hln⟩ : ∃ ln, l.length = ln := ⟨_, rfl⟩
  rw [hm, hln] at hx
  subst hx
  obtain ⟨w1, hw1⟩ : ∃ w1, w.alloc (.cells #[.int .i64 k, .int .i64 n, .string s, .slice al ln cl, .slice ak m ck] 51) = w1 := ⟨_, rfl⟩
  have BX := Box.mk' w (.int .i64 k) (.int .i64 n) (.string s) (.slice al ln cl) (.slice ak m ck)
  rw [hw1] at BX
  obtain ⟨c0, c1, c2, c3, c4⟩ := row_cell BX.row
  have z1 := BX.size
  have CP := hide (put_any none 0 0 [] v _ B w1 (nilRow _) (hv.mono (BX.below.mono hBs)) (by omega) (by omega))
  rw [List.nil_append] at CP
  have HW : Hid ((if rightB v = true then wenc v else []) = wenc0R v) := hide rfl
  obtain ⟨Z, hZ⟩ : ∃ Z, wenc0R v = Z := ⟨_, rfl⟩
  rw [unhide HW, hZ] at CP
  obtain ⟨C, hC⟩ : ∃ C, codeR v = C := ⟨_, rfl⟩
  rw [hC] at CP
  rw [hZ, hC]
  have HB := hide BX.below
  clear BX hv hm hln hZ hC HW
  go_enter Try.func53, Try.ntmps53
  go_wp2_with fail
  refine (unhide CP).mono ?_
  rintro e w2 ⟨ao, len, cap, rfl, r2, b2, n2⟩
  have H2 := hide (And.intro r2 (And.intro b2 n2))
  clear r2 b2 n2 CP
  go_wp2_with fail
  go_ret2
  exact ⟨ao, len, cap, rfl, (unhide H2).1, (unhide HB).trans ((unhide H2).2.1.mono (by omega)), (fun a h => by have := (unhide H2).2.2.1 a h; omega), (unhide H2).2.2.2.1⟩

end Go.Proofs.Ytfdnhpmldnmncaa

namespace Go.Proofs.Ytfdnhpmldnmncaa
open Go.RowKit

theorem key_heavy0 (gr : Nat) (ao : Option Addr) (len cap : Nat) (p t : Int) (zs : List Int) (ak : Option Addr) (ck : Nat) (w : World) (h : Rdr w gr (.slice ao len cap) p t) (hS : Src w gr ao len cap zs) (ht : 0 ≤ t ∧ t ≤ 2048) (s : ByteArray) (nx : Int) (hr : textOfU zs 32 (uintAt zs p) = (s, nx, 0)) (hs : s.size ≤ 32) (hh : 2048 < t + (1 + (s.size : Int))) :
    Calls Try.prog 92 #[.pointer (some ⟨gr, 0, none⟩), .slice ak 0 ck] w fun e w' => e = fault 42 p ∧ Beside gr w w' := by
  obtain ⟨c0, c1, c2, f1, f2⟩ := h.cells
  have CI := hide (text_any ao len cap p 32 zs w hS.row hS.cap (by omega))
  rw [hr] at CI
  dsimp only at CI
  have hw2 : IntKind.i64.wrap (1 + (s.size : Int)) = 1 + (s.size : Int) := by rw [IntKind.wrap_i64]; omega
  have CW := hide (weigh_bad gr _ p t (1 + s.size) p w h ht (by omega) hh)
  clear h hr hS
  go_enter Try.func92, Try.ntmps92
  go_wp2_with fail
  refine (unhide CI).mono ?_
  rintro e' w1 ⟨rfl, rfl⟩
  go_wp2_with fail
  refine (unhide CW).mono ?_
  rintro e w2 ⟨rfl, b2⟩
  unfold fault
  go_wp2_with fail
  exact ⟨rfl, rfl, b2⟩

theorem key_ok0 (gr : Nat) (ao : Option Addr) (len cap : Nat) (p t : Int) (zs : List Int) (ak : Option Addr) (ck : Nat) (w : World) (h : Rdr w gr (.slice ao len cap) p t) (hS : Src w gr ao len cap zs) (ht : 0 ≤ t ∧ t ≤ 2048) (s : ByteArray) (nx : Int) (hr : textOfU zs 32 (uintAt zs p) = (s, nx, 0)) (hs : s.size ≤ 32) (hh : ¬ 2048 < t + (1 + (s.size : Int))) :
    Calls Try.prog 92 #[.pointer (some ⟨gr, 0, none⟩), .slice ak 0 ck] w fun e w' => e = .returned (.string s) ∧ Rdr w' gr (.slice ao len cap) nx (t + (1 + s.size)) ∧ Beside gr w w' := by
  obtain ⟨c0, c1, c2, f1, f2⟩ := h.cells
  have CI := hide (text_any ao len cap p 32 zs w hS.row hS.cap (by omega))
  rw [hr] at CI
  dsimp only at CI
  have hw2 : IntKind.i64.wrap (1 + (s.size : Int)) = 1 + (s.size : Int) := by rw [IntKind.wrap_i64]; omega
  have CW := hide (weigh_ok gr _ p t (1 + s.size) p w h ht (by omega) hh)
  clear h hr hS
  go_enter Try.func92, Try.ntmps92
  go_wp2_with fail
  refine (unhide CI).mono ?_
  rintro e' w1 ⟨rfl, rfl⟩
  go_wp2_with fail
  refine (unhide CW).mono ?_
  rintro e w2 ⟨rfl, r2, b2⟩
  clear c0 c1 c2 f1 f2
  obtain ⟨c0, c1, c2, f1, f2⟩ := r2.cells
  have HR := hide r2
  clear r2
  go_wp2_with fail
  go_ret
  exact ⟨rfl, (unhide HR).setAt _, b2.set⟩

theorem key_heavy1 (gr : Nat) (ao : Option Addr) (len cap : Nat) (p t : Int) (zs : List Int) (m ck : Nat) (l : ByteArray) (ab of : Nat) (w : World) (h : Rdr w gr (.slice ao len cap) p t) (hS : Src w gr ao len cap zs) (ht : 0 ≤ t ∧ t ≤ 2048) (s : ByteArray) (nx : Int) (hr : textOfU zs 32 (uintAt zs p) = (s, nx, 0)) (hs : s.size ≤ 32) (hm : m + 1 ≤ ck ∧ ck ≤ maxLen) (hl : w.cell? ⟨ab, of + m, none⟩ = some (.string l)) (hle : (Op.bytesLess s.toList l.toList || s.toList == l.toList) = false) (hh : 2048 < t + (1 + (s.size : Int))) :
    Calls Try.prog 92 #[.pointer (some ⟨gr, 0, none⟩), .slice (some ⟨ab, of, none⟩) (m + 1) ck] w fun e w' => e = fault 42 p ∧ Beside gr w w' := by
  obtain ⟨c0, c1, c2, f1, f2⟩ := h.cells
  have CI := hide (text_any ao len cap p 32 zs w hS.row hS.cap (by omega))
  rw [hr] at CI
  dsimp only at CI
  have hm2 : m + 1 ≤ 9223372036854775807 := by have := hm.2; unfold maxLen at this; omega
  have i0 : (0 : Int) < ((m + 1 : Nat) : Int) := by omega
  have hw : IntKind.i64.wrap (((m + 1 : Nat) : Int) - 1) = (m : Int) := by rw [IntKind.wrap_i64]; omega
  have hw2 : IntKind.i64.wrap (1 + (s.size : Int)) = 1 + (s.size : Int) := by rw [IntKind.wrap_i64]; omega
  have CW := hide (weigh_bad gr _ p t (1 + s.size) p w h ht (by omega) hh)
  clear h hr hS
  go_enter Try.func92, Try.ntmps92
  go_wp2_with fail
  refine (unhide CI).mono ?_
  rintro e' w1 ⟨rfl, rfl⟩
  go_wp2_with fail
  refine (unhide CW).mono ?_
  rintro e w2 ⟨rfl, b2⟩
  unfold fault
  go_wp2_with fail
  exact ⟨rfl, rfl, b2⟩

theorem key_ok1 (gr : Nat) (ao : Option Addr) (len cap : Nat) (p t : Int) (zs : List Int) (m ck : Nat) (l : ByteArray) (ab of : Nat) (w : World) (h : Rdr w gr (.slice ao len cap) p t) (hS : Src w gr ao len cap zs) (ht : 0 ≤ t ∧ t ≤ 2048) (s : ByteArray) (nx : Int) (hr : textOfU zs 32 (uintAt zs p) = (s, nx, 0)) (hs : s.size ≤ 32) (hm : m + 1 ≤ ck ∧ ck ≤ maxLen) (hl : w.cell? ⟨ab, of + m, none⟩ = some (.string l)) (hle : (Op.bytesLess s.toList l.toList || s.toList == l.toList) = false) (hh : ¬ 2048 < t + (1 + (s.size : Int))) :
    Calls Try.prog 92 #[.pointer (some ⟨gr, 0, none⟩), .slice (some ⟨ab, of, none⟩) (m + 1) ck] w fun e w' => e = .returned (.string s) ∧ Rdr w' gr (.slice ao len cap) nx (t + (1 + s.size)) ∧ Beside gr w w' := by
  obtain ⟨c0, c1, c2, f1, f2⟩ := h.cells
  have CI := hide (text_any ao len cap p 32 zs w hS.row hS.cap (by omega))
  rw [hr] at CI
  dsimp only at CI
  have hm2 : m + 1 ≤ 9223372036854775807 := by have := hm.2; unfold maxLen at this; omega
  have i0 : (0 : Int) < ((m + 1 : Nat) : Int) := by omega
  have hw : IntKind.i64.wrap (((m + 1 : Nat) : Int) - 1) = (m : Int) := by rw [IntKind.wrap_i64]; omega
  have hw2 : IntKind.i64.wrap (1 + (s.size : Int)) = 1 + (s.size : Int) := by rw [IntKind.wrap_i64]; omega
  have CW := hide (weigh_ok gr _ p t (1 + s.size) p w h ht (by omega) hh)
  clear h hr hS
  go_enter Try.func92, Try.ntmps92
  go_wp2_with fail
  refine (unhide CI).mono ?_
  rintro e' w1 ⟨rfl, rfl⟩
  go_wp2_with fail
  refine (unhide CW).mono ?_
  rintro e w2 ⟨rfl, r2, b2⟩
  clear c0 c1 c2 f1 f2
  obtain ⟨c0, c1, c2, f1, f2⟩ := r2.cells
  have HR := hide r2
  clear r2
  go_wp2_with fail
  go_ret
  exact ⟨rfl, (unhide HR).setAt _, b2.set⟩
end Go.Proofs.Ytfdnhpmldnmncaa

namespace Go.Proofs.Ytfdnhpmldnmncaa
open Go.RowKit

theorem infoVv : (Try.prog.info? 51).map (fun i => (i.zero, i.size, i.bytes)) = some (some (.agg #[.int .i64 0, .int .i64 0, .string ⟨#[]⟩, .slice none 0 0, .slice none 0 0]), 5, 80) := by kernel_rfl

theorem Mid.beside {w w' : World} {base gb gr : Nat} {k n : Int} {s : ByteArray} {l : List Vl} {ks : List ByteArray} {Lv Kv : Value} {i j : Nat} {V : Nat → List Value} (h : Mid w base gb k n s l ks Lv Kv i j V) (hb : Beside gr w w') (hg : gr ≠ gb) (hr : gr < base) : Mid w' base gb k n s l ks Lv Kv i j V where
  box := (hb.block gb (Nat.lt_of_lt_of_le h.below h.size) (Ne.symm hg)).trans h.box
  below := h.below
  size := Nat.le_trans h.size hb.size
  ownL := own_later h.ownL (fun b hl e => hb.block b hl (by have := (h.ownL.lt b e).1; omega))
  ownK := own_later h.ownK (fun b hl e => hb.block b hl (by have := (h.ownK.lt b e).1; omega))
  apart := h.apart
  row := h.row
  el := fun c y hc hy => ((h.el c y hc hy).move (fun b hP => hb.block b hP.2.1 (by have := hP.1; omega))).weak (fun _ hP => ⟨hP.1, Nat.lt_of_lt_of_le hP.2.1 hb.size, hP.2.2⟩)

theorem Mid.moreL {w : World} {base gb : Nat} {k n : Int} {s : ByteArray} {l : List Vl} {ks : List ByteArray} {Lv Kv : Value} {i j : Nat} {V : Nat → List Value} (h : Mid w base gb k n s l ks Lv Kv i j V) (hl : l.length = i) (r : List Vl) : Mid w base gb k n s (l ++ r) ks Lv Kv i j V :=
  { h with el := fun c y hc hy => h.el c y hc (by rw [List.getElem?_append_left (by omega)] at hy; exact hy) }

theorem Mid.moreK {w : World} {base gb : Nat} {k n : Int} {s : ByteArray} {l : List Vl} {ks : List ByteArray} {Lv Kv : Value} {i j : Nat} {V : Nat → List Value} (h : Mid w base gb k n s l ks Lv Kv i j V) (hk : ks.length = j) (r : List ByteArray) : Mid w base gb k n s l (ks ++ r) Lv Kv i j V :=
  { h with ownK := by rw [List.take_append_of_le_length (by omega)]; exact h.ownK }

/-- how a reader's call ends -/
def Res (gr : Nat) (bv : Value) (w : World) (r : Except (Int × Int) (Vl × Nat × Nat)) (e : Ending) (w' : World) : Prop :=
  match r with
  | .error p => e = fault p.1 p.2 ∧ Beside gr w w'
  | .ok (v, a', t') => ∃ x, e = .returned x ∧ IsQ w' (fun b => w.heap.size ≤ b ∧ b < w'.heap.size) v x ∧ Rdr w' gr bv a' t' ∧ Beside gr w w'

def ValAt (zs : List Int) (d : Nat) : Prop := ∀ (gr : Nat) (ao : Option Addr) (len cap a t : Nat) (w : World), Rdr w gr (.slice ao len cap) a t → Src w gr ao len cap zs → a ≤ len → t ≤ 2048 → d ≤ 8 →
    Calls Try.prog 78 #[.pointer (some ⟨gr, 0, none⟩), .int .i64 (8 - (d : Int))] w fun e w' => Res gr (.slice ao len cap) w (rdV zs d a t) e w'

/-- what is kept beside the value that is made -/
structure Ar (w u : World) (gr g : Nat) (Z : Array Value) : Prop where
  at0 : u.heap[g]? = some (.cells Z 51 (0, 0))
  size : g + 2 ≤ u.heap.size
  beside : Beside gr w u
  top : w.heap.size = g
  low : gr < g

theorem Ar.later {w u u1 : World} {gr g : Nat} {Z : Array Value} (h : Ar w u gr g Z) (hu : Beside gr u u1) : Ar w u1 gr g Z := by
  have hs := h.size
  have hl := h.low
  exact ⟨(hu.block g (by omega) (by omega)).trans h.at0, Nat.le_trans h.size hu.size, h.beside.trans hu, h.top, h.low⟩

theorem Ar.push {w u w6 : World} {gr g f : Nat} {Z : Array Value} {row : Option Nat} {v : Value} (h : Ar w u gr g Z) (hgrow : u.grownBy w6 row) (hrow : ∀ b, row = some b → g + 2 ≤ b) : Ar w (w6.setCell ⟨g + 1, f, none⟩ v) gr g Z := by
  have hs := h.size
  have hl := h.low
  have ht := h.top
  have hg := hgrow.size
  have bb := ((Below.refl g u).grown hgrow (by omega) (fun b hb => by have := hrow b hb; omega)).setCell (p := ⟨g + 1, f, none⟩) (by simp) v
  refine ⟨?_, by simp; omega, ⟨bb.os.trans h.beside.os, bb.tape.trans h.beside.tape, bb.output.trans h.beside.output, Nat.le_trans h.beside.size bb.size, fun k hk hn => (bb.block k (by omega)).trans (h.beside.block k hk hn)⟩, h.top, h.low⟩
  rw [heap_setCell_other _ _ _ _ (by simp), hgrow.block g (by omega) (fun e => by have := hrow g e.symm; omega)]
  exact h.at0

theorem ar_start (w : World) (Z : Array Value) (k : Int) (l : List Vl) (ks : List ByteArray) (gr g : Nat) (hg : w.heap.size = g) (hr : gr < g) :
    Ar w ((w.alloc (.cells Z 51)).alloc (.cells #[.int .i64 k, .int .i64 0, .string ⟨#[]⟩, .slice none 0 0, .slice none 0 0] 51)) gr g Z ∧
    Mid ((w.alloc (.cells Z 51)).alloc (.cells #[.int .i64 k, .int .i64 0, .string ⟨#[]⟩, .slice none 0 0, .slice none 0 0] 51)) (g + 2) (g + 1) k 0 ⟨#[]⟩ l ks (.slice none 0 0) (.slice none 0 0) 0 0 (fun _ => []) := by
  subst hg
  have h1 := heap_alloc_new (w.alloc (.cells Z 51)) (.cells #[.int .i64 k, .int .i64 0, .string ⟨#[]⟩, .slice none 0 0, .slice none 0 0] 51)
  have h0 := heap_alloc_new w (.cells Z 51)
  have b1 := (Below.refl (w.alloc (.cells Z 51)).heap.size (w.alloc (.cells Z 51))).alloc (Nat.le_refl _) (.cells #[.int .i64 k, .int .i64 0, .string ⟨#[]⟩, .slice none 0 0, .slice none 0 0] 51)
  refine ⟨⟨?_, by simp, Beside.of_below (((Below.refl _ _).alloc (Nat.le_refl _) _).alloc (by simp) _), rfl, hr⟩, ?_, by omega, by simp, World.ownsRow_nil _ _ _ _, World.ownsRow_nil _ _ _ _, Or.inl rfl, fun c h => by omega, fun c y h => by omega⟩
  · rw [b1.block w.heap.size (by simp)]; exact h0
  · simpa using h1

theorem Beside.at_drew {gr : Nat} {w w' : World} (h : Beside gr w.drew w') : Beside gr w w' := ⟨h.os, h.tape, h.output, h.size, h.block⟩
theorem Rdr.beside {w w' : World} {gr g : Nat} {bv : Value} {p t : Int} (h : Rdr w g bv p t) (hb : Beside gr w w') (hn : g ≠ gr) : Rdr w' g bv p t := (hb.block g h.lt hn).trans h
theorem Beside.cell {gr : Nat} {w w' : World} (h : Beside gr w w') {p : Addr} {x : Value} (hn : p.block ≠ gr) (hc : w.cell? p = some x) : w'.cell? p = some x := by
  rw [World.cell?_of_block (h.block p.block (World.block_lt_of_cell? _ _ (by rw [hc])) hn)]; exact hc
end Go.Proofs.Ytfdnhpmldnmncaa
