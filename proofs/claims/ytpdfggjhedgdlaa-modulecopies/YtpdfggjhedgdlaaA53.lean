/-
  The walk of ModuleCopies (layer 9); conditions: the form's own reach.
-/
import Derived.Test.YtpdfggjhedgdlaaA35
import Derived.Test.YtpdfggjhedgdlaaA37
import Derived.Test.YtpdfggjhedgdlaaA51
import Derived.Test.YtpdfggjhedgdlaaA52
namespace Go.Proofs.Ytpdfggjhedgdlaa
open Go.RowKit
set_option linter.unusedVariables false
set_option linter.unusedSimpArgs false

/-- what ModuleCopies keeps: the module, the lent one in its box -/
structure Smc (w u : World) (B g gl lo hi : Nat) (m : Md) (V : Nat → List Value) (bc bf bx : Nat) (R : List (List Value)) (A L : Array Value) (a1 : Option Addr) (c1 : Nat) (a2 : Option Addr) (c2 : Nat) (a3 : Option Addr) (c3 : Nat) : Prop where
  bm : u.heap[g]? = some (.cells A 26 (0, 0))
  bl : u.heap[gl]? = some (.cells L 26 (0, 0))
  mod : IsM u (fun b => b < B) m a1 c1 a2 c2 a3 c3
  cs : CsV u B m.cs a1 V
  low : B ≤ u.heap.size
  len : LentM u lo hi m V bc bf bx R
  below : Below w.heap.size w u

theorem Smc.later {w u u' : World} {B g gl lo hi : Nat} {m : Md} {V : Nat → List Value} {bc bf bx : Nat} {R : List (List Value)} {A L : Array Value} {a1 a2 a3 : Option Addr} {c1 c2 c3 : Nat} (h : Smc w u B g gl lo hi m V bc bf bx R A L a1 c1 a2 c2 a3 c3) (hb : Below u.heap.size u u') : Smc w u' B g gl lo hi m V bc bf bx R A L a1 c1 a2 c2 a3 c3 :=
  ⟨(hb.block g (lt_of_row h.bm)).trans h.bm, (hb.block gl (lt_of_row h.bl)).trans h.bl, h.mod.later (hb.mono h.low), h.cs.later (hb.mono h.low), Nat.le_trans h.low hb.size, h.len.later hb, h.below.trans (hb.mono h.below.size)⟩

theorem Smc.sp {w u u' : World} {B g gl lo hi : Nat} {m : Md} {V : Nat → List Value} {bc bf bx : Nat} {R : List (List Value)} {A L : Array Value} {a1 a2 a3 : Option Addr} {c1 c2 c3 : Nat} {Q : Nat → Prop} (h : Smc w u B g gl lo hi m V bc bf bx R A L a1 c1 a2 c2 a3 c3) (hb : Sp Q u u') (hg : ¬ Q g) (hgl : ¬ Q gl) (hB : ∀ b, b < B → ¬ Q b) (hL : ∀ b, lo ≤ b → b < hi → ¬ Q b) (hw : ∀ b, Q b → w.heap.size ≤ b) : Smc w u' B g gl lo hi m V bc bf bx R A L a1 c1 a2 c2 a3 c3 := by
  have hBB : Below B u u' := ⟨hb.os, hb.tape, hb.output, hb.size, fun k hk => hb.block k (Nat.lt_of_lt_of_le hk h.low) (hB k hk)⟩
  refine ⟨(hb.block g (lt_of_row h.bm) hg).trans h.bm, (hb.block gl (lt_of_row h.bl) hgl).trans h.bl, h.mod.later hBB, h.cs.later hBB, Nat.le_trans h.low hb.size, h.len.to (fun b h1 h2 => hb.block b (Nat.lt_of_lt_of_le h2 h.len.top) (hL b h1 h2)) (Nat.le_trans h.len.top hb.size), ?_⟩
  exact h.below.trans ⟨hb.os, hb.tape, hb.output, hb.size, fun k hk => hb.block k (Nat.lt_of_lt_of_le hk h.below.size) (fun hq => by have := hw k hq; omega)⟩

theorem cpOf_small (m : Md) : (cpOf m).fs.length ≤ 24 ∧ (cpOf m).xs.length ≤ 24 := by
  unfold cpOf
  split
  · rename_i hr
    unfold rightM at hr
    rw [Bool.and_eq_true] at hr
    obtain ⟨_, h2, h3, _⟩ := formed_parts hr.1
    exact ⟨h2, h3⟩
  · exact ⟨Nat.zero_le _, Nat.zero_le _⟩

set_option maxRecDepth 100000 in
set_option maxHeartbeats 8000000 in
theorem copies_walk (m : Md) (a1 a2 a3 : Option Addr) (n1 c1 n2 c2 n3 c3 B : Nat) (s : ByteArray) (w : World) (hn1 : m.cs.length = n1) (hn2 : m.fs.length = n2) (hn3 : m.xs.length = n3) (h : IsM w (fun b => b < B) m a1 c1 a2 c2 a3 c3) (hB : B ≤ w.heap.size) (hb1 : 80 * n1 ≤ 140737488351232) (hb2 : 40 * n2 ≤ 140737488351232) (hb3 : 24 * n3 ≤ 140737488351232) :
    Calls Try.prog 3 #[.agg #[.slice a1 n1 c1, .slice a2 n2 c2, .slice a3 n3 c3], .string s] w fun e w' => e = .returned (.bool true) ∧ Below w.heap.size w w' := by
  obtain ⟨V, hV⟩ := h.hc.csV
  obtain ⟨g, hg⟩ : ∃ g, w.heap.size = g := ⟨_, rfl⟩
  have BX := BoxN.mk' w #[.slice a1 n1 c1, .slice a2 n2 c2, .slice a3 n3 c3] 26
  obtain ⟨w1, hw1⟩ : ∃ w1, w.alloc (.cells #[.slice a1 n1 c1, .slice a2 n2 c2, .slice a3 n3 c3] 26) = w1 := ⟨_, rfl⟩
  rw [hw1] at BX
  have HZ1 : Hid (w1.heap.size = g + 1) := hide (by have := BX.size; omega)
  have HS : Hid (∀ u, Below w1.heap.size w1 u → SeeM u B g m (.slice a1 n1 c1) (.slice a2 n2 c2) (.slice a3 n3 c3) a1 c1 a2 c2 a3 c3 ∧ CsV u B m.cs a1 V ∧ Below w.heap.size w u) := hide (fun u hu => by
    have S1 : SeeM w1 B g m (.slice a1 n1 c1) (.slice a2 n2 c2) (.slice a3 n3 c3) a1 c1 a2 c2 a3 c3 := ⟨by rw [← hg]; exact BX.row, h.later (BX.below.mono hB), by have := BX.size; omega⟩
    have hb : Below w.heap.size w u := BX.below.trans (hu.mono (by have := BX.size; omega))
    exact ⟨S1.later hu, hV.later (hb.mono hB), hb⟩)
  have HM := hide h
  have HBg : Hid (B ≤ g ∧ w.heap.size = g) := hide (by omega)
  clear h hV BX
  go_enter Try.func3, Try.ntmps3
  go_wp2_with fail
  refine (shown_any w1).mono ?_
  rintro e u1 ⟨rfl, b1⟩
  have B1 := hide b1
  obtain ⟨m0, m1, m2⟩ := row_cell3 (unhide HS u1 b1).1.box
  have CL := hide (lentM_any m V a1 a2 a3 n1 c1 n2 c2 n3 c3 B u1 hn1 hn2 hn3 (unhide HS u1 b1).1.mod (unhide HS u1 b1).2.1 (unhide HS u1 b1).1.low hb1 hb2 hb3)
  clear b1
  go_wp2_with fail
  refine (unhide CL).mono ?_
  rintro e u2 ⟨bc, bf, bx, rfl, hR, b2⟩
  obtain ⟨R, hR⟩ := hR
  have H2 := hide (And.intro hR b2)
  clear hR b2 CL m0 m1 m2
  obtain ⟨gl, hgl⟩ : ∃ gl, u2.heap.size = gl := ⟨_, rfl⟩
  go_upto_region 3 with fail
  obtain ⟨u3, hu3⟩ : ∃ u3, u2.alloc (.cells #[.slice (some ⟨bc, 0, none⟩) n1 (n1 + 2), .slice (some ⟨bf, 0, none⟩) n2 (n2 + 2), .slice (some ⟨bx, 0, none⟩) n3 (n3 + 2)] 26) = u3 := ⟨_, rfl⟩
  have H3 : Hid (Smc w u3 B g gl u1.heap.size u2.heap.size m V bc bf bx R #[.slice a1 n1 c1, .slice a2 n2 c2, .slice a3 n3 c3] #[.slice (some ⟨bc, 0, none⟩) n1 (n1 + 2), .slice (some ⟨bf, 0, none⟩) n2 (n2 + 2), .slice (some ⟨bx, 0, none⟩) n3 (n3 + 2)] a1 c1 a2 c2 a3 c3) := hide (by
    have b3 : Below u2.heap.size u2 u3 := by rw [← hu3]; exact (Below.refl _ _).alloc (Nat.le_refl _) _
    have bb : Below w1.heap.size w1 u3 := (unhide B1).trans (((unhide H2).2.trans (b3.mono (unhide H2).2.size)).mono (unhide B1).size)
    obtain ⟨q1, q2, q3⟩ := unhide HS u3 bb
    exact ⟨q1.box, by rw [← hgl, ← hu3]; exact heap_alloc_new _ _, q1.mod, q2, q1.low, (unhide H2).1.later b3, q3⟩)
  have HSZ : Hid (g < u1.heap.size ∧ u1.heap.size ≤ u2.heap.size ∧ u2.heap.size = gl ∧ gl < u3.heap.size) := hide (by
    have := (unhide B1).size
    have := unhide HZ1
    have := (unhide H2).2.size
    have : u3.heap.size = u2.heap.size + 1 := by rw [← hu3]; simp
    omega)
  rw [hu3]
  clear hu3
  have HC : Hid (∀ u, Smc w u B g gl u1.heap.size u2.heap.size m V bc bf bx R #[.slice a1 n1 c1, .slice a2 n2 c2, .slice a3 n3 c3] #[.slice (some ⟨bc, 0, none⟩) n1 (n1 + 2), .slice (some ⟨bf, 0, none⟩) n2 (n2 + 2), .slice (some ⟨bx, 0, none⟩) n3 (n3 + 2)] a1 c1 a2 c2 a3 c3 → IsM u (fun b => b < u.heap.size) m (some ⟨bc, 0, none⟩) (n1 + 2) (some ⟨bf, 0, none⟩) (n2 + 2) (some ⟨bx, 0, none⟩) (n3 + 2)) := hide (fun u hu => by
    have := hu.len.isM (C := u.heap.size) hu.cs (unhide HM) hu.len.top hu.low
    rw [hn1, hn2, hn3] at this
    exact this)
  clear hgl
  obtain ⟨E, hE⟩ : ∃ E, expOf m s = E := ⟨_, rfl⟩
  have K1 := hide (export_any m _ _ _ n1 (n1 + 2) n2 (n2 + 2) n3 (n3 + 2) u3.heap.size s u3 hn1 hn2 hn3 (unhide HC u3 (unhide H3)) (Nat.le_refl _))
  rw [hE] at K1
  obtain ⟨l0, l1, l2⟩ := row_cell3 (unhide H3).bl
  go_wp2_with fail
  refine (unhide K1).mono ?_
  rintro e u4 ⟨rfl, b4⟩
  have H4 := hide ((unhide H3).later b4)
  have HZ4 : Hid (u3.heap.size ≤ u4.heap.size) := hide b4.size
  clear b4 K1 l0 l1 l2
  have K2 := hide (exportR_any m a1 a2 a3 n1 c1 n2 c2 n3 c3 B s u4 hn1 hn2 hn3 (unhide H4).mod (unhide H4).low)
  rw [hE] at K2
  obtain ⟨m0, m1, m2⟩ := row_cell3 (unhide H4).bm
  go_wp2_with fail
  refine (unhide K2).mono ?_
  rintro e u5 ⟨rfl, b5⟩
  have H5 := hide ((unhide H4).later b5)
  have HZ5 : Hid (u3.heap.size ≤ u5.heap.size) := hide (Nat.le_trans (unhide HZ4) b5.size)
  clear b5 K2 m0 m1 m2 hE
  obtain ⟨M, hM⟩ : ∃ M, cpOf m = M := ⟨_, rfl⟩
  have HSM : Hid (M.fs.length ≤ 24 ∧ M.xs.length ≤ 24) := hide (by rw [← hM]; exact cpOf_small m)
  have K3 := hide (copyM_any m _ _ _ n1 (n1 + 2) n2 (n2 + 2) n3 (n3 + 2) u5.heap.size u5 hn1 hn2 hn3 (unhide HC u5 (unhide H5)) (Nat.le_refl _))
  have hMr := hide hM
  rw [hM] at K3
  clear hM
  obtain ⟨k1, hk1⟩ : ∃ k, M.cs.length = k := ⟨_, rfl⟩
  obtain ⟨k2, hk2⟩ : ∃ k, M.fs.length = k := ⟨_, rfl⟩
  obtain ⟨k3, hk3⟩ : ∃ k, M.xs.length = k := ⟨_, rfl⟩
  have HK := hide (And.intro hk1 (And.intro hk2 hk3))
  have KR : Hid (∀ u, Smc w u B g gl u1.heap.size u2.heap.size m V bc bf bx R #[.slice a1 n1 c1, .slice a2 n2 c2, .slice a3 n3 c3] #[.slice (some ⟨bc, 0, none⟩) n1 (n1 + 2), .slice (some ⟨bf, 0, none⟩) n2 (n2 + 2), .slice (some ⟨bx, 0, none⟩) n3 (n3 + 2)] a1 c1 a2 c2 a3 c3 → Calls Try.prog 10 #[.agg #[.slice a1 n1 c1, .slice a2 n2 c2, .slice a3 n3 c3]] u fun e w' => ∃ (d1 d2 d3 : Option Addr) (g1 g2 g3 : Nat), e = .returned (.agg #[.slice d1 k1 g1, .slice d2 k2 g2, .slice d3 k3 g3]) ∧ IsM w' (fun b => b < w'.heap.size) M d1 g1 d2 g2 d3 g3 ∧ Below u.heap.size u w') := hide (fun u hu => by
    have := copyR_any m a1 a2 a3 n1 c1 n2 c2 n3 c3 B u hn1 hn2 hn3 hu.mod hu.low
    rw [unhide hMr] at this
    refine this.mono ?_
    rintro e w' ⟨d1, d2, d3, g1, g2, g3, rfl, i8, _, b8⟩
    rw [hk1, hk2, hk3]
    exact ⟨d1, d2, d3, g1, g2, g3, rfl, i8.weak (fun b h => h.2), b8⟩)
  obtain ⟨l0, l1, l2⟩ := row_cell3 (unhide H5).bl
  go_wp2_with fail
  refine (unhide K3).mono ?_
  rintro e u6 ⟨b1, b2, b3, f1, f2, f3, rfl, i6, o6, bb6⟩
  rw [hk1, hk2, hk3]
  have H6 := hide ((unhide H5).later bb6)
  have C6 := hide (And.intro i6 (And.intro o6 bb6.size))
  clear bb6 K3 l0 l1 l2 i6 o6 hk1 hk2 hk3
  obtain ⟨gx, hgx⟩ : ∃ gx, u6.heap.size = gx := ⟨_, rfl⟩
  go_upto_region 6 with fail
  obtain ⟨u7, hu7⟩ : ∃ u7, u6.alloc (.cells #[.slice b1 k1 f1, .slice b2 k2 f2, .slice b3 k3 f3] 26) = u7 := ⟨_, rfl⟩
  have B7 : Hid (Below u6.heap.size u6 u7 ∧ u7.heap[gx]? = some (.cells #[.slice b1 k1 f1, .slice b2 k2 f2, .slice b3 k3 f3] 26 (0, 0)) ∧ u6.heap.size = gx) := hide (by
    rw [← hu7, ← hgx]
    exact ⟨(Below.refl _ _).alloc (Nat.le_refl _) _, heap_alloc_new _ _, rfl⟩)
  rw [hu7]
  clear hu7 hgx
  have H7 := hide ((unhide H6).later (unhide B7).1)
  have C7 : Hid (∀ u, Below u7.heap.size u7 u → IsM u (fun b => u5.heap.size ≤ b ∧ b < u6.heap.size) M b1 f1 b2 f2 b3 f3 ∧ OwnM u (fun b => u5.heap.size ≤ b ∧ b < u6.heap.size) M b1 f1 b2 f2 b3 f3) := hide (fun u hu => by
    obtain ⟨q1, q2, q3⟩ := unhide C6
    have hb : Below u6.heap.size u6 u := (unhide B7).1.trans (hu.mono (unhide B7).1.size)
    exact ⟨q1.to (fun b hb' => hb.block b hb'.2) (fun _ h => h), q2.to (fun b hb' => hb.block b hb'.2) (fun _ h => h)⟩)
  obtain ⟨m0, m1, m2⟩ := row_cell3 (unhide H7).bm
  obtain ⟨x0, x1, x2⟩ := row_cell3 (unhide B7).2.1
  have K4 := hide (unhide KR u7.drew ((unhide H7).later (Below.refl _ _).drew))
  go_cut [12] from 13 to 54 (fun r wx => r = .bool true ∧ Hid (Below u7.heap.size u7 wx))
  case first =>
    go_region_held3 (fun w' => w'.cell? ⟨g, 0, none⟩ = some (.slice a1 n1 c1) ∧ w'.cell? ⟨g, 1, none⟩ = some (.slice a2 n2 c2) ∧ w'.cell? ⟨g, 2, none⟩ = some (.slice a3 n3 c3) ∧ w'.cell? ⟨gx, 0, none⟩ = some (.slice b1 k1 f1) ∧ w'.cell? ⟨gx, 1, none⟩ = some (.slice b2 k2 f2) ∧ w'.cell? ⟨gx, 2, none⟩ = some (.slice b3 k3 f3))
      (first | go_keep | (have hb6 := below_drew_of' b8; exact ⟨cell_later hb6 m0, cell_later hb6 m1, cell_later hb6 m2, cell_later hb6 x0, cell_later hb6 x1, cell_later hb6 x2⟩) | (have hb6 := (below_drew_of' b8).trans (b9.mono (below_drew_of' b8).size); exact ⟨cell_later hb6 m0, cell_later hb6 m1, cell_later hb6 m2, cell_later hb6 x0, cell_later hb6 x1, cell_later hb6 x2⟩))
      (first | (go_at_call 10; refine (unhide K4).mono ?_; rintro e u8 ⟨d1, d2, d3, g1, g2, g3, rfl, i8, b8⟩)
             | (go_at_call 9; refine (sameM_any M M b1 b2 b3 d1 d2 d3 k1 f1 k2 f2 k3 f3 k1 g1 k2 g2 k3 g3 u8.heap.size u8 (unhide HK).1 (unhide HK).2.1 (unhide HK).2.2 (unhide HK).1 (unhide HK).2.1 (unhide HK).2.2 ((unhide C7 u8 (below_drew_of' b8)).1.weak (fun b hb => by have h1 := (unhide B7).1.size; have h2 := (below_drew_of' b8).size; omega)) i8 (Nat.le_refl _)).mono ?_; rintro e u9 ⟨r9, rfl, h9, b9⟩; obtain rfl : r9 = true := h9.2 rfl))
    have HX9 : Hid (Below u7.heap.size u7 u9) := hide ((below_drew_of' b8).trans (b9.mono (below_drew_of' b8).size))
    clear b8 b9 i8 h9 K4
    go_wp2_with fail
    go_meet
    exact ⟨rfl, HX9⟩
  case rest =>
    obtain ⟨rfl, HX9⟩ := hcut
    obtain ⟨u9, hu9⟩ : ∃ u9, wc = u9 := ⟨_, rfl⟩
    rw [hu9] at HX9 ⊢
    clear hu9 m0 m1 m2 x0 x1 x2 K4
    have H9 := hide ((unhide H7).later (unhide HX9))
    have R9 : Hid (u9.heap[gx]? = some (.cells #[.slice b1 k1 f1, .slice b2 k2 f2, .slice b3 k3 f3] 26 (0, 0))) := hide (((unhide HX9).block gx (lt_of_row (unhide B7).2.1)).trans (unhide B7).2.1)
    obtain ⟨x0, x1, x2⟩ := row_cell3 (unhide R9)
    have KS : Hid (Calls Try.prog 11 #[.agg #[.slice b1 k1 f1, .slice b2 k2 f2, .slice b3 k3 f3]] u9 fun e w' => e = .returned (.tuple #[]) ∧ Sp (fun b => u5.heap.size ≤ b ∧ b < u6.heap.size) u9 w') := hide (by
      obtain ⟨⟨r, t1⟩, t2, t3⟩ := (unhide C7 u9 (unhide HX9)).2
      obtain ⟨e1, e2, e3⟩ := unhide HK
      obtain ⟨z1, z2⟩ := unhide HSM
      rw [e1] at t1
      rw [e2] at t2 z1
      rw [e3] at t3 z2
      exact spoilM_any r _ u9 b1 b2 b3 k1 f1 k2 f2 k3 f3 t1 t2.row t3.row (fun b hb => by have h1 := (unhide B7).1.size; have h2 := (unhide HX9).size; omega) (by omega) (by omega))
    go_wp2_with fail
    refine (unhide KS).mono ?_
    rintro e v1 ⟨rfl, sp1⟩
    have S1 : Hid (Smc w v1 B g gl u1.heap.size u2.heap.size m V bc bf bx R #[.slice a1 n1 c1, .slice a2 n2 c2, .slice a3 n3 c3] #[.slice (some ⟨bc, 0, none⟩) n1 (n1 + 2), .slice (some ⟨bf, 0, none⟩) n2 (n2 + 2), .slice (some ⟨bx, 0, none⟩) n3 (n3 + 2)] a1 c1 a2 c2 a3 c3) := hide (by
      obtain ⟨y1, y2, y3, y4⟩ := unhide HSZ
      have y5 := unhide HZ5
      obtain ⟨y6, y7⟩ := unhide HBg
      exact (unhide H9).sp sp1 (by omega) (by omega) (fun b hb => by omega) (fun b h1 h2 => by omega) (fun b hb => by omega))
    clear sp1 KS x0 x1 x2
    obtain ⟨m0, m1, m2⟩ := row_cell3 (unhide S1).bm
    obtain ⟨l0, l1, l2⟩ := row_cell3 (unhide S1).bl
    have K6 := hide (stillM_any m V a1 a2 a3 n1 c1 n2 c2 n3 c3 B u1.heap.size u2.heap.size bc bf bx R v1 hn1 hn2 hn3 (unhide S1).mod (unhide S1).cs (unhide S1).low (unhide S1).len)
    go_wp2_with fail
    refine (unhide K6).mono ?_
    rintro e v4 ⟨rfl, b4⟩
    have S12 : Hid (Below w.heap.size w v4) := hide ((unhide S1).later b4).below
    clear b4 K6 m0 m1 m2 l0 l1 l2
    have kc0 : (E.1 == E.1) = true := by simp
    have kr : (E.2 == E.2) = true := by simp
    go_wp2_with fail
    go_ret
    exact ⟨by simp, by first | exact unhide S12 | (rw [← hg]; exact unhide S12)⟩
end Go.Proofs.Ytpdfggjhedgdlaa
