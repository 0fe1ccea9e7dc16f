/-
  The walk of ValueLaws where With refuses; conditions: the form's own reach.
-/
import Derived.Test.YtcopkhmmpamboaaL39
import Derived.Test.YtcopkhmmpamboaaL45
import Derived.Test.YtcopkhmmpamboaaL46
import Derived.Test.YtcopkhmmpamboaaL47
import Derived.Test.YtcopkhmmpamboaaL48
namespace Go.Proofs.Ytcopkhmmpamboaa
open Go.RowKit
set_option linter.unusedVariables false
set_option linter.unusedSimpArgs false

/-- what ValueLaws keeps: its two values -/
structure Wl (w u : World) (g : Nat) (A X : Array Value) : Prop where
  at0 : u.heap[g]? = some (.cells A 27 (0, 0))
  at1 : u.heap[g + 1]? = some (.cells X 27 (0, 0))
  size : g + 2 ≤ u.heap.size
  below : Below g w u

theorem Wl.later {w u u1 : World} {g : Nat} {A X : Array Value} (h : Wl w u g A X) (hu : Below u.heap.size u u1) : Wl w u1 g A X := by
  have hs := h.size
  exact ⟨(hu.block g (by omega)).trans h.at0, (hu.block (g + 1) (by omega)).trans h.at1, Nat.le_trans h.size hu.size, h.below.trans (hu.mono (by omega))⟩

set_option maxRecDepth 100000 in
set_option maxHeartbeats 2000000 in
theorem laws_no (v x : Vl) (vv xx : Value) (B : Nat) (key other : ByteArray) (w : World) (hv : IsV w B v vv) (hx : IsV w B x xx) (hBs : B ≤ w.heap.size) (hne : withE v key x ≠ 0) :
    Calls Try.prog 5 #[vv, .string key, xx, .string other] w fun e w' => e = .returned (.bool true) ∧ Below w.heap.size w w' := by
  obtain ⟨k, n, s, l, ks, al, ak, cl, ck, hv1, rfl⟩ := hv.shape
  obtain ⟨xk, xn, xs, xl, xks, xal, xak, xcl, xck, hv2, rfl⟩ := hx.shape
  clear hv1 hv2
  obtain ⟨m, hm⟩ : ∃ m, ks.length = m := ⟨_, rfl⟩
  obtain ⟨ln, hln⟩ : ∃ ln, l.length = ln := ⟨_, rfl⟩
  obtain ⟨xm, hxm⟩ : ∃ xm, xks.length = xm := ⟨_, rfl⟩
  obtain ⟨xln, hxln⟩ : ∃ xln, xl.length = xln := ⟨_, rfl⟩
  rw [hm, hln] at hv
  rw [hxm, hxln] at hx
  rw [hm, hln, hxm, hxln]
  obtain ⟨g, hg⟩ : ∃ g, w.heap.size = g := ⟨_, rfl⟩
  have TW := Two.mk' w 27 #[.int .i64 k, .int .i64 n, .string s, .slice al ln cl, .slice ak m ck] #[.int .i64 xk, .int .i64 xn, .string xs, .slice xal xln xcl, .slice xak xm xck]
  obtain ⟨w2, hw2⟩ : ∃ w2, (w.alloc (.cells #[.int .i64 k, .int .i64 n, .string s, .slice al ln cl, .slice ak m ck] 27)).alloc (.cells #[.int .i64 xk, .int .i64 xn, .string xs, .slice xal xln xcl, .slice xak xm xck] 27) = w2 := ⟨_, rfl⟩
  rw [hw2, hg] at TW
  have hz : Wl w w2 g #[.int .i64 k, .int .i64 n, .string s, .slice al ln cl, .slice ak m ck] #[.int .i64 xk, .int .i64 xn, .string xs, .slice xal xln xcl, .slice xak xm xck] := by
    have h1 := TW.later (Below.refl _ _)
    have h2 := TW.size
    have h3 := TW.below
    rw [hg] at h3
    exact ⟨h1.1, h1.2, by omega, h3⟩
  have HVV : Hid (∀ u, Below g w u → IsV u B v (.agg #[.int .i64 k, .int .i64 n, .string s, .slice al ln cl, .slice ak m ck]) ∧ IsV u B x (.agg #[.int .i64 xk, .int .i64 xn, .string xs, .slice xal xln xcl, .slice xak xm xck]) ∧ B ≤ u.heap.size) := hide (fun u hu => ⟨hv.mono (hu.mono (by omega)), hx.mono (hu.mono (by omega)), by have := hu.size; omega⟩)
  have HZ := hide hz
  have HG := hide hg
  obtain ⟨E, hE⟩ : ∃ E, withE v key x = E := ⟨_, rfl⟩
  have HE := hide hE
  rw [hE] at hne
  have hE1 : (E == 0) = false := by simpa using hne
  clear hz hv hx hm hln hxm hxln TW hE
  go_enter Try.func5, Try.ntmps5
  go_wp2_with fail
  refine (shown_any w2).mono ?_
  rintro e u3 ⟨rfl, b3⟩
  have HZ3 := hide ((unhide HZ).later b3)
  clear b3 hw2
  obtain ⟨c0, c1, c2, c3, c4⟩ := row_cell (unhide HZ3).at0
  obtain ⟨d0, d1, d2, d3, d4⟩ := row_cell (unhide HZ3).at1
  have CW := hide (with_any v x _ _ B key u3 (unhide HVV u3 (unhide HZ3).below).1 (unhide HVV u3 (unhide HZ3).below).2.1 (unhide HVV u3 (unhide HZ3).below).2.2)
  rw [unhide HE] at CW
  go_wp2_with fail
  refine (unhide CW).mono ?_
  rintro e u4 ⟨x', rfl, b4, q1, q2⟩
  have hx' := q2 hne
  subst hx'
  have HB4 : Hid (Below g w u4 ∧ g ≤ u4.heap.size) := hide (by have h1 := (unhide HZ3).size; exact ⟨(unhide HZ3).below.trans (b4.mono (by omega)), by have := b4.size; omega⟩)
  clear q1 q2 b4 c0 c1 c2 c3 c4 d0 d1 d2 d3 d4 CW
  go_wp2_with fail
  go_ret
  exact ⟨rfl, by rw [unhide HG]; exact (unhide HB4).1.alloc (unhide HB4).2 _⟩
end Go.Proofs.Ytcopkhmmpamboaa
