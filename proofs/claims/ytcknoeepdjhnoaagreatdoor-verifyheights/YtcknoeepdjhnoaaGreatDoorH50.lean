/-
  Layer 12, the statements' own same: of one value, wherever it lies; no conditions but the form's own reach.
  Layer 12, the statements' own sameModule: of one module, wherever it lies; no conditions but the form's own reach.
-/
import Derived.Test.YtcknoeepdjhnoaaGreatDoorH49
import Derived.Test.YtcknoeepdjhnoaaGreatDoorH10
import Derived.Test.YtcknoeepdjhnoaaGreatDoorH35
import Derived.BigQuiet
import Derived.Deep.QuietTactic
set_option linter.unusedVariables false
set_option linter.unusedSimpArgs false
namespace Go.Proofs.YtcknoeepdjhnoaaGreatDoor
open Go.RowKit
set_option linter.unusedVariables false
set_option linter.unusedSimpArgs false

set_option maxRecDepth 100000 in
set_option maxHeartbeats 2000000 in
theorem sameV_any (v : Vl) (x y : Value) (B : Nat) (w : World) (hx : IsV w B v x) (hy : IsV w B v y) (hBs : B ≤ w.heap.size) :
    Calls Tryz.prog 17 #[x, y] w fun e w' => e = .returned (.bool true) ∧ Below w.heap.size w w' := by
  have hx' := hx
  have hy' := hy
  obtain ⟨k, n, s, l, ks, al, ak, cl, ck, hv, hxe⟩ := hx.shape
  obtain ⟨k2, n2, s2, l2, ks2, al2, ak2, cl2, ck2, hv2, hye⟩ := hy.shape
  obtain ⟨ll, hll⟩ : ∃ ll, l.length = ll := ⟨_, rfl⟩
  obtain ⟨m, hm⟩ : ∃ m, ks.length = m := ⟨_, rfl⟩
  obtain ⟨ll2, hll2⟩ : ∃ ll2, l2.length = ll2 := ⟨_, rfl⟩
  obtain ⟨m2, hm2⟩ : ∃ m2, ks2.length = m2 := ⟨_, rfl⟩
  rw [hll, hm] at hxe
  rw [hll2, hm2] at hye
  subst hxe
  subst hye
  obtain ⟨G, hG⟩ : ∃ G, w.heap.size = G := ⟨_, rfl⟩
  obtain ⟨w1, hw1⟩ : ∃ w1, w.alloc (.cells #[.int .i64 k, .int .i64 n, .string s, .slice al ll cl, .slice ak m ck] 42) = w1 := ⟨_, rfl⟩
  have z1 : w1.heap.size = G + 1 := by rw [← hw1, ← hG]; simp
  have A1 : w1.heap[G]? = some (.cells #[.int .i64 k, .int .i64 n, .string s, .slice al ll cl, .slice ak m ck] 42 (0, 0)) := by rw [← hw1, ← hG]; exact heap_alloc_new _ _
  have B1 : Below w.heap.size w w1 := by rw [← hw1]; exact (Below.refl _ _).alloc (Nat.le_refl _) _
  obtain ⟨w2, hw2⟩ : ∃ w2, w1.alloc (.cells #[.int .i64 k2, .int .i64 n2, .string s2, .slice al2 ll2 cl2, .slice ak2 m2 ck2] 42) = w2 := ⟨_, rfl⟩
  have A2 : w2.heap[G + 1]? = some (.cells #[.int .i64 k2, .int .i64 n2, .string s2, .slice al2 ll2 cl2, .slice ak2 m2 ck2] 42 (0, 0)) := by rw [← hw2, ← z1]; exact heap_alloc_new _ _
  have B2 : Below w1.heap.size w1 w2 := by rw [← hw2]; exact (Below.refl _ _).alloc (Nat.le_refl _) _
  have BW : Below w.heap.size w w2 := B1.trans (B2.mono B1.size)
  have KEEP : Hid (∀ u, Below w2.heap.size w2 u → u.heap[G]? = some (.cells #[.int .i64 k, .int .i64 n, .string s, .slice al ll cl, .slice ak m ck] 42 (0, 0)) ∧ u.heap[G + 1]? = some (.cells #[.int .i64 k2, .int .i64 n2, .string s2, .slice al2 ll2 cl2, .slice ak2 m2 ck2] 42 (0, 0)) ∧ IsV u B v (.agg #[.int .i64 k, .int .i64 n, .string s, .slice al ll cl, .slice ak m ck]) ∧ IsV u B v (.agg #[.int .i64 k2, .int .i64 n2, .string s2, .slice al2 ll2 cl2, .slice ak2 m2 ck2]) ∧ Below w.heap.size w u) := hide (fun u hu => by
    have bu := BW.trans (hu.mono BW.size)
    have z2 : w2.heap.size = G + 2 := by rw [← hw2]; simp; omega
    exact ⟨((hu.block G (by omega)).trans (B2.block G (by omega))).trans A1, (hu.block (G + 1) (by omega)).trans A2, hx'.mono (bu.mono hBs), hy'.mono (bu.mono hBs), bu⟩)
  obtain ⟨c0, c1, c2, c3, c4⟩ := row_cell (unhide KEEP w2 (Below.refl _ _)).2.1
  have CF := hide (few_any v _ B w2 (unhide KEEP w2 (Below.refl _ _)).2.2.2.1 (Nat.le_trans hBs BW.size))
  have HS := hide (Nat.le_trans hBs BW.size)
  clear hx hy hx' hy' hv hv2 A1 B1 A2 B2 BW hll hm hll2 hm2
  cases hF : fewB v with
  | false =>
    rw [hF] at CF
    go_enter Tryz.func17, Tryz.ntmps17
    go_wp2_with fail
    refine (unhide CF).mono ?_
    rintro e w3 ⟨rfl, b3⟩
    have H3 := hide (unhide KEEP w3 b3).2.2.2.2
    clear b3 CF
    go_wp2_with fail
    go_ret
    exact ⟨rfl, by first | exact unhide H3 | (rw [← hG]; exact unhide H3)⟩
  | true =>
    rw [hF] at CF
    go_enter Tryz.func17, Tryz.ntmps17
    go_wp2_with fail
    refine (unhide CF).mono ?_
    rintro e w3 ⟨rfl, b3⟩
    have H3 := hide b3
    obtain ⟨d0, d1, d2, d3, d4⟩ := row_cell (unhide KEEP w3 b3).1
    obtain ⟨e0, e1, e2, e3, e4⟩ := row_cell (unhide KEEP w3 b3).2.1
    have CA := hide (alike_any (dep v) v v _ _ B w3 (Nat.le_refl _) (unhide KEEP w3 b3).2.2.1 (unhide KEEP w3 b3).2.2.2.1 (Nat.le_trans (unhide HS) b3.size))
    rw [show sameB v v = true from (sameB_iff v v).2 rfl] at CA
    clear b3 CF c0 c1 c2 c3 c4
    go_wp2_with fail
    refine (unhide CA).mono ?_
    rintro e w4 ⟨rfl, b4⟩
    have H4 := hide (unhide KEEP w4 ((unhide H3).trans (b4.mono (unhide H3).size))).2.2.2.2
    clear b4 CA
    go_wp2_with fail
    go_ret
    exact ⟨rfl, by first | exact unhide H4 | (rw [← hG]; exact unhide H4)⟩
end Go.Proofs.YtcknoeepdjhnoaaGreatDoor

namespace Go.Proofs.YtcknoeepdjhnoaaGreatDoor
open Go.RowKit
set_option linter.unusedVariables false
set_option linter.unusedSimpArgs false

theorem exp_at {w : World} {P : Nat → Prop} {m : Md} {a1 a2 a3 : Option Addr} {c1 c2 c3 : Nat} (h : IsM w P m a1 c1 a2 c2 a3 c3) (i : Nat) (t : ByteArray) (p : Int) (hy : m.xs[i]? = some (t, p)) :
    ∃ x : Addr, a3 = some x ∧ w.cell? (x.add (i * 2)) = some (.string t) ∧ w.cell? ⟨(x.add (i * 2)).block, (x.add (i * 2)).off + 1, none⟩ = some (.int .i64 p) := by
  have hm : (m.xs.map exV)[i]? = some (exV (t, p)) := by rw [List.getElem?_map, hy]; rfl
  cases a3 with
  | none =>
    have h1 := (h.hx.nl rfl).1
    have h2 := (List.getElem?_eq_some_iff.1 hm).1
    omega
  | some x =>
    have h1 := (h.hx.hl x rfl i _ hm).2
    exact ⟨x, rfl, h1 0 _ rfl, h1 1 _ rfl⟩

set_option maxRecDepth 100000 in
set_option maxHeartbeats 8000000 in
theorem sameM_any (m : Md) (a1 : Option Addr) (n1 c1 : Nat) (a2 : Option Addr) (n2 c2 : Nat) (a3 : Option Addr) (n3 c3 : Nat) (b1 : Option Addr) (d1 : Nat) (b2 : Option Addr) (d2 : Nat) (b3 : Option Addr) (d3 : Nat) (B : Nat) (w : World)
    (hA : IsM w (fun b => b < B) m a1 c1 a2 c2 a3 c3) (hC : IsM w (fun b => b < B) m b1 d1 b2 d2 b3 d3) (hB : B ≤ w.heap.size) (hn1 : m.cs.length = n1) (hn2 : m.fs.length = n2) (hn3 : m.xs.length = n3) (hb1 : n1 ≤ 140737488351232) (hb2 : n2 ≤ 140737488351232) (hb3 : n3 ≤ 140737488351232) :
    Calls Tryz.prog 8 #[.agg #[.slice a1 n1 c1, .slice a2 n2 c2, .slice a3 n3 c3], .agg #[.slice b1 n1 d1, .slice b2 n2 d2, .slice b3 n3 d3]] w fun e w' => e = .returned (.bool true) ∧ Below w.heap.size w w' := by
  obtain ⟨G, hG⟩ : ∃ G, w.heap.size = G := ⟨_, rfl⟩
  obtain ⟨w1, hw1⟩ : ∃ w1, w.alloc (.cells #[.slice a1 n1 c1, .slice a2 n2 c2, .slice a3 n3 c3] 27) = w1 := ⟨_, rfl⟩
  have z1 : w1.heap.size = G + 1 := by rw [← hw1, ← hG]; simp
  have A1 : w1.heap[G]? = some (.cells #[.slice a1 n1 c1, .slice a2 n2 c2, .slice a3 n3 c3] 27 (0, 0)) := by rw [← hw1, ← hG]; exact heap_alloc_new _ _
  have B1 : Below w.heap.size w w1 := by rw [← hw1]; exact (Below.refl _ _).alloc (Nat.le_refl _) _
  obtain ⟨w2, hw2⟩ : ∃ w2, w1.alloc (.cells #[.slice b1 n1 d1, .slice b2 n2 d2, .slice b3 n3 d3] 27) = w2 := ⟨_, rfl⟩
  have z2 : w2.heap.size = G + 2 := by rw [← hw2]; simp; omega
  have A2 : w2.heap[G + 1]? = some (.cells #[.slice b1 n1 d1, .slice b2 n2 d2, .slice b3 n3 d3] 27 (0, 0)) := by rw [← hw2, ← z1]; exact heap_alloc_new _ _
  have B2 : Below w1.heap.size w1 w2 := by rw [← hw2]; exact (Below.refl _ _).alloc (Nat.le_refl _) _
  have BW : Below w.heap.size w w2 := B1.trans (B2.mono B1.size)
  have KEEP : Hid (∀ u, Below w2.heap.size w2 u → u.heap[G]? = some (.cells #[.slice a1 n1 c1, .slice a2 n2 c2, .slice a3 n3 c3] 27 (0, 0)) ∧ u.heap[G + 1]? = some (.cells #[.slice b1 n1 d1, .slice b2 n2 d2, .slice b3 n3 d3] 27 (0, 0)) ∧ IsM u (fun b => b < B) m a1 c1 a2 c2 a3 c3 ∧ IsM u (fun b => b < B) m b1 d1 b2 d2 b3 d3 ∧ Below w.heap.size w u ∧ B ≤ u.heap.size) := hide (fun u hu => by
    have bu := BW.trans (hu.mono BW.size)
    exact ⟨((hu.block G (by omega)).trans (B2.block G (by omega))).trans A1, (hu.block (G + 1) (by omega)).trans A2, hA.later (bu.mono hB), hC.later (bu.mono hB), bu, Nat.le_trans hB bu.size⟩)
  have HN := hide (And.intro hn1 (And.intro hn2 hn3))
  obtain ⟨p0, p1, p2⟩ := row_cell3 (unhide KEEP w2 (Below.refl _ _)).1
  obtain ⟨q0, q1, q2⟩ := row_cell3 (unhide KEEP w2 (Below.refl _ _)).2.1
  clear hA hC A1 A2 B1 B2 BW hn1 hn2 hn3
  go_enter Tryz.func8, Tryz.ntmps8
  go_wp2_with fail
  clear p0 p1 p2 q0 q1 q2
  go_loopw [5] (fun v wr => ∃ i : Nat, v = .int .i64 (i : Int) ∧ Hid (i ≤ n1) ∧ Hid (Below w2.heap.size w2 wr)) (fun v _ => n1 - (intOf v).toNat)
  case atStart => exact ⟨0, rfl, hide (Nat.zero_le _), hide (by first | exact Below.refl _ _ | (rw [hw2]; exact Below.refl _ _))⟩
  case round =>
    obtain ⟨i, rfl, HI, HX⟩ := hrel
    have KR := unhide KEEP wr (unhide HX)
    obtain ⟨g0, g1, g2⟩ := row_cell3 KR.1
    obtain ⟨h0, h1, h2⟩ := row_cell3 KR.2.1
    by_cases hi : i < n1
    · have i1 : (i : Int) < (n1 : Int) := by omega
      have i0 : (0 : Int) ≤ (i : Int) := by omega
      obtain ⟨y, hy⟩ : ∃ y, m.cs[i]? = some y := ⟨_, List.getElem?_eq_getElem (by have := (unhide HN).1; omega)⟩
      obtain ⟨x, y0, y1, y2, aly, aky, lly, my, cly, cky, hxe, hxb, hxc, hxv⟩ := KR.2.2.1.const i y hy
      obtain ⟨z, u0, u1, u2, alu, aku, llu, mu, clu, cku, hze, hzb, hzc, hzv⟩ := KR.2.2.2.1.const i y hy
      rw [hxe] at g0
      rw [hze] at h0
      have e0 : wr.cell? (x.add (i * 5)) = some (.int .i64 y0) := hxc 0 _ rfl
      have e1 : wr.cell? ⟨(x.add (i * 5)).block, (x.add (i * 5)).off + 1, none⟩ = some (.int .i64 y1) := hxc 1 _ rfl
      have e2 : wr.cell? ⟨(x.add (i * 5)).block, (x.add (i * 5)).off + 2, none⟩ = some (.string y2) := hxc 2 _ rfl
      have e3 : wr.cell? ⟨(x.add (i * 5)).block, (x.add (i * 5)).off + 3, none⟩ = some (.slice aly lly cly) := hxc 3 _ rfl
      have e4 : wr.cell? ⟨(x.add (i * 5)).block, (x.add (i * 5)).off + 4, none⟩ = some (.slice aky my cky) := hxc 4 _ rfl
      have f0 : wr.cell? (z.add (i * 5)) = some (.int .i64 u0) := hzc 0 _ rfl
      have f1 : wr.cell? ⟨(z.add (i * 5)).block, (z.add (i * 5)).off + 1, none⟩ = some (.int .i64 u1) := hzc 1 _ rfl
      have f2 : wr.cell? ⟨(z.add (i * 5)).block, (z.add (i * 5)).off + 2, none⟩ = some (.string u2) := hzc 2 _ rfl
      have f3 : wr.cell? ⟨(z.add (i * 5)).block, (z.add (i * 5)).off + 3, none⟩ = some (.slice alu llu clu) := hzc 3 _ rfl
      have f4 : wr.cell? ⟨(z.add (i * 5)).block, (z.add (i * 5)).off + 4, none⟩ = some (.slice aku mu cku) := hzc 4 _ rfl
      have hdr : Below wr.heap.size wr wr.drew := (Below.refl _ _).drew
      have CV := hide (sameV_any y _ _ B wr.drew (hxv.mono (hdr.mono KR.2.2.2.2.2)) (hzv.mono (hdr.mono KR.2.2.2.2.2)) (by have := hdr.size; have := KR.2.2.2.2.2; omega))
      clear KR hy hxb hxc hxv hzb hzc hzv hdr hxe hze g1 g2 h1 h2
      go_upto_region 6 with fail
      refine till_begin (S := fun w' => w'.cell? ⟨G, 0, none⟩ = some (.slice (some x) n1 c1) ∧ w'.cell? ⟨G + 1, 0, none⟩ = some (.slice (some z) n1 d1) ∧ w'.cell? (x.add (i * 5)) = some (.int .i64 y0) ∧ w'.cell? ⟨(x.add (i * 5)).block, (x.add (i * 5)).off + 1, none⟩ = some (.int .i64 y1) ∧ w'.cell? ⟨(x.add (i * 5)).block, (x.add (i * 5)).off + 2, none⟩ = some (.string y2) ∧ w'.cell? ⟨(x.add (i * 5)).block, (x.add (i * 5)).off + 3, none⟩ = some (.slice aly lly cly) ∧ w'.cell? ⟨(x.add (i * 5)).block, (x.add (i * 5)).off + 4, none⟩ = some (.slice aky my cky) ∧ w'.cell? (z.add (i * 5)) = some (.int .i64 u0) ∧ w'.cell? ⟨(z.add (i * 5)).block, (z.add (i * 5)).off + 1, none⟩ = some (.int .i64 u1) ∧ w'.cell? ⟨(z.add (i * 5)).block, (z.add (i * 5)).off + 2, none⟩ = some (.string u2) ∧ w'.cell? ⟨(z.add (i * 5)).block, (z.add (i * 5)).off + 3, none⟩ = some (.slice alu llu clu) ∧ w'.cell? ⟨(z.add (i * 5)).block, (z.add (i * 5)).off + 4, none⟩ = some (.slice aku mu cku)) 11 (by kernel_rfl) ?_
      have HS0 := And.intro g0 (And.intro h0 (And.intro e0 (And.intro e1 (And.intro e2 (And.intro e3 (And.intro e4 (And.intro f0 (And.intro f1 (And.intro f2 (And.intro f3 f4))))))))))
      refine till_take 0 (v := .pointer (some ⟨G, 0, none⟩)) (some 41) rfl rfl rfl (by kernel_rfl) (by kernel_rfl) (by kernel_rfl) (by kernel_rfl) (fun _ _ _ h => h) (Or.inl ⟨by rfl, fun u hu => by obtain ⟨s0, s1, s2, s3, s4, s5, s6, s7, s8, s9, s10, s11⟩ := hu; go_simp⟩) HS0 ?_
      try simp only [Act.put, List.setIfInBounds_toArray, List.set_cons_zero, List.set_cons_succ]
      refine till_take 1 (v := .slice (some x) n1 c1) (some 42) rfl rfl rfl (by kernel_rfl) (by kernel_rfl) (by kernel_rfl) (by kernel_rfl) (fun _ _ _ h => h) (Or.inl ⟨by rfl, fun u hu => by obtain ⟨s0, s1, s2, s3, s4, s5, s6, s7, s8, s9, s10, s11⟩ := hu; go_simp⟩) HS0 ?_
      try simp only [Act.put, List.setIfInBounds_toArray, List.set_cons_zero, List.set_cons_succ]
      refine till_take 2 (v := .int .i64 (i : Int)) (some 43) rfl rfl rfl (by kernel_rfl) (by kernel_rfl) (by kernel_rfl) (by kernel_rfl) (fun _ _ _ h => h) (Or.inl ⟨by rfl, fun u hu => by obtain ⟨s0, s1, s2, s3, s4, s5, s6, s7, s8, s9, s10, s11⟩ := hu; go_simp⟩) HS0 ?_
      try simp only [Act.put, List.setIfInBounds_toArray, List.set_cons_zero, List.set_cons_succ]
      refine till_take 3 (v := .pointer (some (x.add (i * 5)))) (some 44) rfl rfl rfl (by kernel_rfl) (by kernel_rfl) (by kernel_rfl) (by kernel_rfl) (fun _ _ _ h => h) (Or.inl ⟨by rfl, fun u hu => by obtain ⟨s0, s1, s2, s3, s4, s5, s6, s7, s8, s9, s10, s11⟩ := hu; go_simp⟩) HS0 ?_
      try simp only [Act.put, List.setIfInBounds_toArray, List.set_cons_zero, List.set_cons_succ]
      refine till_take 4 (v := .agg #[.int .i64 y0, .int .i64 y1, .string y2, .slice aly lly cly, .slice aky my cky]) (some 45) rfl rfl rfl (by kernel_rfl) (by kernel_rfl) (by kernel_rfl) (by kernel_rfl) (fun _ _ _ h => h) (Or.inl ⟨by rfl, fun u hu => by obtain ⟨s0, s1, s2, s3, s4, s5, s6, s7, s8, s9, s10, s11⟩ := hu; go_simp⟩) HS0 ?_
      try simp only [Act.put, List.setIfInBounds_toArray, List.set_cons_zero, List.set_cons_succ]
      refine till_take 5 (v := .pointer (some ⟨G + 1, 0, none⟩)) (some 46) rfl rfl rfl (by kernel_rfl) (by kernel_rfl) (by kernel_rfl) (by kernel_rfl) (fun _ _ _ h => h) (Or.inl ⟨by rfl, fun u hu => by obtain ⟨s0, s1, s2, s3, s4, s5, s6, s7, s8, s9, s10, s11⟩ := hu; go_simp⟩) HS0 ?_
      try simp only [Act.put, List.setIfInBounds_toArray, List.set_cons_zero, List.set_cons_succ]
      refine till_take 6 (v := .slice (some z) n1 d1) (some 47) rfl rfl rfl (by kernel_rfl) (by kernel_rfl) (by kernel_rfl) (by kernel_rfl) (fun _ _ _ h => h) (Or.inl ⟨by rfl, fun u hu => by obtain ⟨s0, s1, s2, s3, s4, s5, s6, s7, s8, s9, s10, s11⟩ := hu; go_simp⟩) HS0 ?_
      try simp only [Act.put, List.setIfInBounds_toArray, List.set_cons_zero, List.set_cons_succ]
      refine till_take 7 (v := .int .i64 (i : Int)) (some 48) rfl rfl rfl (by kernel_rfl) (by kernel_rfl) (by kernel_rfl) (by kernel_rfl) (fun _ _ _ h => h) (Or.inl ⟨by rfl, fun u hu => by obtain ⟨s0, s1, s2, s3, s4, s5, s6, s7, s8, s9, s10, s11⟩ := hu; go_simp⟩) HS0 ?_
      try simp only [Act.put, List.setIfInBounds_toArray, List.set_cons_zero, List.set_cons_succ]
      refine till_take 8 (v := .pointer (some (z.add (i * 5)))) (some 49) rfl rfl rfl (by kernel_rfl) (by kernel_rfl) (by kernel_rfl) (by kernel_rfl) (fun _ _ _ h => h) (Or.inl ⟨by rfl, fun u hu => by obtain ⟨s0, s1, s2, s3, s4, s5, s6, s7, s8, s9, s10, s11⟩ := hu; go_simp⟩) HS0 ?_
      try simp only [Act.put, List.setIfInBounds_toArray, List.set_cons_zero, List.set_cons_succ]
      refine till_take 9 (v := .agg #[.int .i64 u0, .int .i64 u1, .string u2, .slice alu llu clu, .slice aku mu cku]) (some 50) rfl rfl rfl (by kernel_rfl) (by kernel_rfl) (by kernel_rfl) (by kernel_rfl) (fun _ _ _ h => h) (Or.inl ⟨by rfl, fun u hu => by obtain ⟨s0, s1, s2, s3, s4, s5, s6, s7, s8, s9, s10, s11⟩ := hu; go_simp⟩) HS0 ?_
      try simp only [Act.put, List.setIfInBounds_toArray, List.set_cons_zero, List.set_cons_succ]
      refine till_one 10 (by kernel_rfl) rfl (fun K hK => ?_)
      go_simp
      refine (unhide CV).mono ?_
      rintro e w5 ⟨rfl, b5⟩
      have b6 := below_drew_of' b5
      have HX5 : Hid (Below w2.heap.size w2 w5) := hide ((unhide HX).trans (b6.mono (unhide HX).size))
      have HS5 := And.intro (cell_later b6 g0) (And.intro (cell_later b6 h0) (And.intro (cell_later b6 e0) (And.intro (cell_later b6 e1) (And.intro (cell_later b6 e2) (And.intro (cell_later b6 e3) (And.intro (cell_later b6 e4) (And.intro (cell_later b6 f0) (And.intro (cell_later b6 f1) (And.intro (cell_later b6 f2) (And.intro (cell_later b6 f3) (cell_later b6 f4)))))))))))
      clear b5 b6 CV
      go_wp2_with fail
      refine hK.out _ _ (Or.inr HS5) ?_
      clear hK K HS0 g0 h0 e0 e1 e2 e3 e4 f0 f1 f2 f3 f4
      try simp only [Act.put, List.setIfInBounds_toArray, List.set_cons_zero, List.set_cons_succ]
      refine till_one 11 (by kernel_rfl) rfl (fun K hK => ?_)
      go_simp
      refine hK.out _ _ (Or.inl rfl) ?_
      clear hK K HS5
      try simp only [Act.put, List.setIfInBounds_toArray, List.set_cons_zero, List.set_cons_succ]
      refine till_done (by kernel_rfl) ?_ _
      go_wp2_with fail
      go_roundw
      case rel => exact ⟨i + 1, by go_num, hide (by omega), HX5⟩
      case measure => simp [intOf]; omega
    · have i1 : ¬ (i : Int) < (n1 : Int) := by omega
      clear KR
      go_wp2_with fail
      clear g0 g1 g2 h0 h1 h2
      go_loopw [7] (fun v wr => ∃ i : Nat, v = .int .i64 (i : Int) ∧ Hid (i ≤ n2) ∧ Hid (Below w2.heap.size w2 wr)) (fun v _ => n2 - (intOf v).toNat)
      case atStart => exact ⟨0, rfl, hide (Nat.zero_le _), HX⟩
      case round =>
        clear HX HI i1 hi
        obtain ⟨i, rfl, HI, HX⟩ := hrel
        have KR := unhide KEEP wr (unhide HX)
        obtain ⟨g0, g1, g2⟩ := row_cell3 KR.1
        obtain ⟨h0, h1, h2⟩ := row_cell3 KR.2.1
        by_cases hi : i < n2
        · have i1 : (i : Int) < (n2 : Int) := by omega
          have i0 : (0 : Int) ≤ (i : Int) := by omega
          obtain ⟨⟨p, l, s, tt⟩, hy⟩ : ∃ y, m.fs[i]? = some y := ⟨_, List.getElem?_eq_getElem (by have := (unhide HN).2.1; omega)⟩
          obtain ⟨x, hxe, _, _, e0, e1, e2, e3⟩ := KR.2.2.1.func i p l s tt hy
          obtain ⟨z, hze, _, _, f0, f1, f2, f3⟩ := KR.2.2.2.1.func i p l s tt hy
          rw [hxe] at g1
          rw [hze] at h1
          have HX2 : Hid (∀ q, Below w2.heap.size w2 (wr.drewN q)) := hide (fun q => below_drewN (unhide HX) q)
          clear KR hy hxe hze
          go_upto_region 12 with fail
          go_quiet (fail)
          go_wp2_with fail
          go_roundw
          case rel => exact ⟨i + 1, by go_num, hide (by omega), hide (unhide HX2 _)⟩
          case measure => simp [intOf]; omega
        · have i1 : ¬ (i : Int) < (n2 : Int) := by omega
          clear KR
          go_wp2_with fail
          clear g0 g1 g2 h0 h1 h2
          go_loopw [8] (fun v wr => ∃ i : Nat, v = .int .i64 (i : Int) ∧ Hid (i ≤ n3) ∧ Hid (Below w2.heap.size w2 wr)) (fun v _ => n3 - (intOf v).toNat)
          case atStart => exact ⟨0, rfl, hide (Nat.zero_le _), HX⟩
          case round =>
            clear HX HI i1 hi
            obtain ⟨i, rfl, HI, HX⟩ := hrel
            have KR := unhide KEEP wr (unhide HX)
            obtain ⟨g0, g1, g2⟩ := row_cell3 KR.1
            obtain ⟨h0, h1, h2⟩ := row_cell3 KR.2.1
            by_cases hi : i < n3
            · have i1 : (i : Int) < (n3 : Int) := by omega
              have i0 : (0 : Int) ≤ (i : Int) := by omega
              obtain ⟨⟨t, p⟩, hy⟩ : ∃ y, m.xs[i]? = some y := ⟨_, List.getElem?_eq_getElem (by have := (unhide HN).2.2; omega)⟩
              obtain ⟨x, hxe, e0, e1⟩ : ∃ x : Addr, a3 = some x ∧ wr.cell? (x.add (i * 2)) = some (.string t) ∧ wr.cell? ⟨(x.add (i * 2)).block, (x.add (i * 2)).off + 1, none⟩ = some (.int .i64 p) := exp_at KR.2.2.1 i t p hy
              obtain ⟨z, hze, f0, f1⟩ : ∃ x : Addr, b3 = some x ∧ wr.cell? (x.add (i * 2)) = some (.string t) ∧ wr.cell? ⟨(x.add (i * 2)).block, (x.add (i * 2)).off + 1, none⟩ = some (.int .i64 p) := exp_at KR.2.2.2.1 i t p hy
              rw [hxe] at g2
              rw [hze] at h2
              have HX2 : Hid (∀ q, Below w2.heap.size w2 (wr.drewN q)) := hide (fun q => below_drewN (unhide HX) q)
              clear KR hy hxe hze
              go_upto_region 17 with fail
              go_quiet (fail)
              go_wp2_with fail
              go_roundw
              case rel => exact ⟨i + 1, by go_num, hide (by omega), hide (unhide HX2 _)⟩
              case measure => simp [intOf]; omega
            · have i1 : ¬ (i : Int) < (n3 : Int) := by omega
              have HZ := hide KR.2.2.2.2.1
              clear KR
              go_wp2_with fail
              go_ret
              exact ⟨rfl, by first | exact unhide HZ | (rw [← hG]; exact unhide HZ)⟩
end Go.Proofs.YtcknoeepdjhnoaaGreatDoor
