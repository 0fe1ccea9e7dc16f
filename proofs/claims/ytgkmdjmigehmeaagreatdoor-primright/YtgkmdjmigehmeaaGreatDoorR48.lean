/-
  record (prim); no conditions but the form's own reach.
-/
import Derived.Test.YtgkmdjmigehmeaaGreatDoorR47
import Derived.Test.YtgkmdjmigehmeaaGreatDoorR42
import Derived.Test.YtgkmdjmigehmeaaGreatDoorR41
import Derived.Test.YtgkmdjmigehmeaaGreatDoorR24
namespace Go.Proofs.YtgkmdjmigehmeaaGreatDoor
set_option linter.unusedVariables false
set_option linter.unusedSimpArgs false
set_option maxRecDepth 100000
set_option maxHeartbeats 16000000
open Go.RowKit Go.Shelf
def keyL (ex : Vl) : List ByteArray := ex.l.map (·.s)
def entsV (ex : Vl) (vs : List Vl) : List En := (keyL ex).zip vs
def recordV (ex : Vl) (vs : List Vl) : Vl × Int := if (ex.kind = 4 ∧ ex.l.length = vs.length) ∧ ex.l.all (fun k => k.kind == 3) = true then (if docC (entsV ex vs) = 32 then (vlz, 3) else toldV (rcV (entsV ex vs)) (docC (entsV ex vs))) else (vlz, 3)
def ecL (ks : List ByteArray) (C : List (List Value)) : List (List Value) := List.zipWith (fun k c => Value.string k :: c) ks C
theorem ecL_next (ks : List ByteArray) (C : List (List Value)) (i : Nat) (k : ByteArray) (c : List Value) (h : ks[i]? = some k) (h' : C[i]? = some c) : (ecL (ks.take i) (C.take i)).flatten ++ (.string k :: c) = (ecL (ks.take (i + 1)) (C.take (i + 1))).flatten := by
 have h1 := (List.getElem?_eq_some_iff.1 h).1
 have h2 := (List.getElem?_eq_some_iff.1 h').1
 unfold ecL
 rw [List.take_add_one, List.take_add_one, h, h', Option.toList_some, Option.toList_some, List.zipWith_append (by rw [List.length_take, List.length_take]; omega), List.flatten_append]
 simp
theorem infoEnR : (Tryz.prog.info? 65).map (fun i => (i.zero, i.size, i.bytes)) = some (some (.agg #[.string ⟨#[]⟩, .int .i64 0, .int .i64 0, .string ⟨#[]⟩, .slice none 0 0, .slice none 0 0]), 6, 96) := by kernel_rfl
theorem own_ents {u : World} {base n B : Nat} {v : Value} {ks : List ByteArray} {vs : List Vl} {C : List (List Value)} (h : u.ownsRow base 65 6 v n (ecL ks C).flatten) (hE : ElsV u B vs C) (hk : ks.length = n) (hn : vs.length = n) (hB : B ≤ u.heap.size) (hn2 : n ≤ 100000) (hb : ∀ t ∈ ks, t.size ≤ 140737488351232) : ∃ al cl, v = .slice al n cl ∧ IsE u (fun b => b < u.heap.size) (ks.zip vs) al cl := by
 have hCl : C.length = n := hE.1.trans hn
 have hzl : (ks.zip vs).length = n := by rw [List.length_zip]; omega
 have hget : ∀ (i : Nat) (e : En), (ks.zip vs)[i]? = some e → ∃ c : List Value, C[i]? = some c ∧ c.length = 5 ∧ ks[i]? = some e.1 ∧ IsV u B e.2 (.agg c.toArray) ∧ (ecL ks C)[i]? = some (.string e.1 :: c) := fun i e he => by
  obtain ⟨h1, h2⟩ := List.getElem?_zip_eq_some.1 he
  obtain ⟨c, c1, c2, c3⟩ := hE.2 i _ h2
  exact ⟨c, c1, c2, h1, c3, by unfold ecL; rw [List.getElem?_zipWith, h1, c1]⟩
 have h6 : ∀ c ∈ ecL ks C, c.length = 6 := by
  intro c hc
  obtain ⟨i, hi⟩ := List.getElem?_of_mem hc
  have hil : i < n := by have := (List.getElem?_eq_some_iff.1 hi).1; unfold ecL at this; rw [List.length_zipWith] at this; omega
  obtain ⟨c', c1, c2, _, _, c5⟩ := hget i _ (List.getElem?_eq_getElem (by omega))
  rw [hi] at c5
  cases c5
  simp [c2]
 have fl6 : ∀ (D : List (List Value)), (∀ c ∈ D, c.length = 6) → ∀ (i : Nat) (c : List Value) (j : Nat) (x : Value), D[i]? = some c → c[j]? = some x → D.flatten[i * 6 + j]? = some x := by
  intro D
  induction D with
  | nil => intro _ i c j x h; simp at h
  | cons a r ih =>
   intro h i c j x hi hx
   have ha := h a List.mem_cons_self
   cases i with
   | zero =>
    simp at hi
    subst hi
    rw [List.flatten_cons, Nat.zero_mul, Nat.zero_add, List.getElem?_append_left (List.getElem?_eq_some_iff.1 hx).1]
    exact hx
   | succ i =>
    rw [List.flatten_cons, List.getElem?_append_right (by rw [ha]; omega), ha, show (i + 1) * 6 + j - 6 = i * 6 + j by omega]
    exact ih (fun y hy => h y (List.mem_cons_of_mem _ hy)) i c j x (by simpa using hi) hx
 rcases h.2 with ⟨e, e2⟩ | ⟨g, cap, cur, e, hlo, hg, hcap, hmax, hsz, hcur⟩
 ·have hz : ks.zip vs = [] := List.eq_nil_of_length_eq_zero (by omega)
  rw [hz, e2]
  exact ⟨none, 0, e, fun _ => [], (fun _ => ⟨rfl, rfl⟩), Nat.le_refl _, by simp, (fun a ha => by cases ha), (fun x hx => by cases hx), fun i x hx => by simp at hx⟩
 ·refine ⟨some ⟨g, 0, none⟩, cap, e, fun i => (C[i]?.getD []), (fun e => by cases e), by omega, by omega, ?_, ?_, ?_⟩
  ·intro a ha i x hx
   cases ha
   obtain ⟨c, c1, c2, c3, c4, c5⟩ := hget i x hx
   refine ⟨(Array.getElem?_eq_some_iff.1 hg).1, fun j y hy => ?_⟩
   rw [c1] at hy
   have := h.cells (g := g) (by rw [e]; rfl) _ _ (fl6 _ h6 i _ j y c5 hy)
   rw [addKs]
   exact this
  ·intro x hx
   obtain ⟨i, hi⟩ := List.getElem?_of_mem hx
   obtain ⟨c, _, _, c3, _⟩ := hget i x hi
   exact hb _ (List.mem_of_getElem? c3)
  ·intro i x hx
   obtain ⟨c, c1, c2, c3, c4, c5⟩ := hget i x hx
   rw [c1]
   exact ⟨c2, IsV.lift hB c4⟩
structure RcI (v2 W : World) (lo : Nat) (ks : List ByteArray) (C : List (List Value)) (so : Option Addr) (sc i : Nat) : Prop where
 row : W.ownsRow lo 65 6 (.slice so i sc) i (ecL (ks.take i) (C.take i)).flatten
 below : Below v2.heap.size v2 W
theorem record_op (e0 e1 : Int) (e2 : ByteArray) (e3 : Option Addr) (e4 e5 : Nat) (e6 : Option Addr) (e7 e8 : Nat) (vs : List Vl) (al : Option Addr) (n cl B : Nat) (ex : Vl) (w : World) (h : ArV w B vs al n cl) (hx : IsV w B ex (.agg #[.int .i64 e0, .int .i64 e1, .string e2, .slice e3 e4 e5, .slice e6 e7 e8])) (hBs : B ≤ w.heap.size) (hrx : rightB ex = true) :
  Calls Tryz.prog 62 #[.agg #[.int .i64 e0, .int .i64 e1, .string e2, .slice e3 e4 e5, .slice e6 e7 e8, .slice al n cl]] w fun e w' => OpPost w (recordV ex vs) e w' := by
 obtain ⟨gb, hgb⟩ : ∃ gb, w.heap.size = gb := ⟨_, rfl⟩
 obtain ⟨v1, hv1⟩ : ∃ v1, w.alloc (.cells #[.int .i64 e0, .int .i64 e1, .string e2, .slice e3 e4 e5, .slice e6 e7 e8, .slice al n cl] 50) = v1 := ⟨_, rfl⟩
 obtain ⟨gr, hgr⟩ : ∃ gr, v1.heap.size = gr := ⟨_, rfl⟩
 obtain ⟨v2, hv2⟩ : ∃ v2, v1.alloc (.cells #[.int .i64 0, .int .i64 0, .string ⟨#[]⟩, .slice none 0 0, .slice none 0 0] 25) = v2 := ⟨_, rfl⟩
 have n1 : v1.heap[gb]? = some (.cells #[.int .i64 e0, .int .i64 e1, .string e2, .slice e3 e4 e5, .slice e6 e7 e8, .slice al n cl] 50 (0, 0)) := by rw [← hv1, ← hgb]; exact heap_alloc_new w _
 have n2 : v2.heap[gr]? = some (.cells #[.int .i64 0, .int .i64 0, .string ⟨#[]⟩, .slice none 0 0, .slice none 0 0] 25 (0, 0)) := by rw [← hv2, ← hgr]; exact heap_alloc_new v1 _
 have b1 : Below w.heap.size w v1 := by rw [← hv1]; exact (Below.refl _ _).alloc (Nat.le_refl _) _
 have b2 : Below v1.heap.size v1 v2 := by rw [← hv2]; exact (Below.refl _ _).alloc (Nat.le_refl _) _
 have s1 : v1.heap.size = w.heap.size + 1 := by rw [← hv1]; simp
 have HM : Hid (Below w.heap.size w v2 ∧ v2.heap[gb]? = some (.cells #[.int .i64 e0, .int .i64 e1, .string e2, .slice e3 e4 e5, .slice e6 e7 e8, .slice al n cl] 50 (0, 0)) ∧ v2.heap[gr]? = some (.cells #[.int .i64 0, .int .i64 0, .string ⟨#[]⟩, .slice none 0 0, .slice none 0 0] 25 (0, 0)) ∧ w.heap.size ≤ gr ∧ gr < v2.heap.size) := hide ⟨b1.trans (b2.mono b1.size), (b2.block gb (by omega)).trans n1, n2, by omega, (Array.getElem?_eq_some_iff.1 n2).1⟩
 obtain ⟨t0, t1, t2, t3, t4, t5⟩ := block6 (uh HM).2.1
 obtain ⟨R, hR⟩ : ∃ R, recordV ex vs = R := ⟨_, rfl⟩
 rw [hR]
 have hex : e0 = ex.kind ∧ e4 = ex.l.length ∧ e4 ≤ 2048 := by
  have h1 := (right_sz hrx).2.1
  obtain ⟨k1, n1, s1, l1, ks1⟩ := ex
  obtain ⟨r1, _, _, r4, _⟩ := IsP.at hx
  exact ⟨r1, r4, by rw [r4]; exact h1⟩
 obtain ⟨g4, hg4⟩ : ∃ g, v2.heap.size = g := ⟨_, rfl⟩
 obtain ⟨v3, hv3⟩ : ∃ u, v2.alloc (.cells #[.int .i64 e0, .int .i64 e1, .string e2, .slice e3 e4 e5, .slice e6 e7 e8] 25) = u := ⟨_, rfl⟩
 have N3 : v3.heap[g4]? = some (.cells #[.int .i64 e0, .int .i64 e1, .string e2, .slice e3 e4 e5, .slice e6 e7 e8] 25 (0, 0)) := by rw [← hv3, ← hg4]; exact heap_alloc_new v2 _
 have X3 : Below v2.heap.size v2 v3 := by rw [← hv3]; exact (Below.refl _ _).alloc (Nat.le_refl _) _
 have H3 : Hid (Below v2.heap.size v2 v3 ∧ v3.heap[g4]? = some (.cells #[.int .i64 e0, .int .i64 e1, .string e2, .slice e3 e4 e5, .slice e6 e7 e8] 25 (0, 0))) := hide ⟨X3, N3⟩
 have hlt0 : gb < v2.heap.size := (Array.getElem?_eq_some_iff.1 (uh HM).2.1).1
 have m5 : v3.cell? ⟨gb, 5, none⟩ = some (.slice al n cl) := (X3.cell (p := ⟨gb, 5, none⟩) hlt0).trans t5
 obtain ⟨m0, m1, m2, m3, m4⟩ := block5 N3
 have HX := hide (And.intro h hx)
 have HBs := hide hBs
 have HEX := hide hex
 have hn : vs.length = n := h.1
 have HVN := hide hn
 clear n1 n2 b1 b2 s1 N3 X3
 by_cases hc1 : e0 = 4 ∧ e4 = n
 ·obtain ⟨hk4, hen⟩ := hc1
  subst hk4
  subst hen
  obtain ⟨hCn, C, hEC, hSC⟩ := els_of h.2
  have HEL := hide (And.intro hEC hSC)
  have hCl : C.length = e4 := hEC.1.trans hn
  have HCL := hide hCl
  have hp4 : e4 ≤ 2048 := hex.2.2
  have HRY : Hid (ex.l.all (fun k => k.kind == 3) = true → R = if docC (entsV ex vs) = 32 then (vlz, 3) else toldV (rcV (entsV ex vs)) (docC (entsV ex vs))) := hide (fun e => by rw [← hR]; unfold recordV; rw [if_pos ⟨⟨by rw [← (uh HEX).1], by rw [← (uh HEX).2.1, hn]⟩, e⟩])
  have HRNO : Hid (ex.l.all (fun k => k.kind == 3) = false → R = (vlz, 3)) := hide (fun e => by rw [← hR]; unfold recordV; rw [if_neg (fun hh => by rw [e] at hh; exact absurd hh.2 (by simp))])
  have HWB : Hid (∀ u, Below v2.heap.size v2 u → Below w.heap.size w u) := hide (fun u hu => (uh HM).1.trans (hu.mono (uh HM).1.size))
  obtain ⟨lo, hlo⟩ : ∃ lo, v3.heap.size = lo := ⟨_, rfl⟩
  have HLO : Hid (v2.heap.size ≤ lo) := hide (by rw [← hlo]; exact (uh H3).1.size)
  have HI0 : Hid (RcI v2 v3 lo (keyL ex) C none 0 0) := hide ⟨World.ownsRow_nil _ _ _ _, (uh H3).1⟩
  have HLOX : Hid (lo ≤ v3.heap.size) := hide (by omega)
  have HKL : Hid ((keyL ex).length = e4 ∧ ∀ t ∈ keyL ex, t.size ≤ 140737488351232) := hide ⟨by unfold keyL; rw [List.length_map]; exact (uh HEX).2.1.symm, fun t ht => by
   unfold keyL at ht
   obtain ⟨k, hk, rfl⟩ := List.mem_map.1 ht
   obtain ⟨k1, n1, s1, l1, ks1⟩ := ex
   obtain ⟨_, _, _, _, _, V, hf, el⟩ := IsP.at hx
   obtain ⟨j, hj⟩ := List.getElem?_of_mem hk
   obtain ⟨kk, kn, ss, kl, kks, _, _, _, _, _, hke, _, hf2, _⟩ := (el j k hj).inv
   show k.s.size ≤ 140737488351232
   rw [hke]
   exact hf2.bs⟩
  obtain ⟨iv, hiv, hz0, hz1, hz2⟩ := info_parts infoEnR
  have HIV := hide (And.intro hiv (And.intro hz0 (And.intro hz1 hz2)))
  clear h hx hR hn hBs hrx hex hCn hEC hSC hCl hlo hiv hz0 hz1 hz2
  go_enter Tryz.func62, Tryz.ntmps62
  go_wp2_with fail
  go_loopw [5, 30] (fun y9 x9 wr => ∃ (i : Nat) (so : Option Addr) (sc : Nat), x9 = .int .i64 (i : Int) ∧ y9 = .slice so i sc ∧ Hid (i ≤ e4) ∧ Hid ((ex.l.take i).all (fun k => k.kind == 3) = true ∧ lo ≤ wr.heap.size) ∧ Hid (RcI v2 wr lo (keyL ex) C so sc i)) (fun _ x9 _ => e4 - (intOf x9).toNat)
  case atStart => exact ⟨0, none, 0, rfl, rfl, hide (by omega), hide ⟨by simp, uh HLOX⟩, HI0⟩
  case round =>
   clear HI0 m0 m1 m2 m3 m4 m5 HLOX H3
   obtain ⟨i, so, sc, rfl, rfl, HIl, HKD, HRC⟩ := hrel
   have HWr : Hid (Below w.heap.size w wr) := hide (uh HWB wr (uh HRC).below)
   by_cases hlt : i < e4
   ·have j1 : (i : Int) < (e4 : Int) := by omega
    have HI1 : Hid (i + 1 ≤ e4) := hide (by omega)
    obtain ⟨kv, hkv⟩ : ∃ kv, ex.l[i]? = some kv := ⟨_, List.getElem?_eq_getElem (by have := (uh HEX).2.1; omega)⟩
    obtain ⟨a9, g0, g1, g2, g3, g4', g5', g6, g7, g8, rfl, ⟨k0, k1, k2, k3, k4⟩, hv9⟩ := elem_of (IsV.mono ((uh HWr).mono (uh HBs)) (uh HX).2) i kv hkv
    have hg0 : g0 = kv.kind ∧ g2 = kv.s := by
     obtain ⟨q1, q2, q3, q4, q5⟩ := kv
     exact ⟨(IsP.at hv9).1, (IsP.at hv9).2.2.1⟩
    obtain ⟨b7, hb7⟩ : ∃ g, wr.heap.size = g := ⟨_, rfl⟩
    obtain ⟨W, hW⟩ : ∃ u, wr.alloc (.cells #[.int .i64 g0, .int .i64 g1, .string g2, .slice g3 g4' g5', .slice g6 g7 g8] 25) = u := ⟨_, rfl⟩
    have N7 : W.heap[b7]? = some (.cells #[.int .i64 g0, .int .i64 g1, .string g2, .slice g3 g4' g5', .slice g6 g7 g8] 25 (0, 0)) := by rw [← hW, ← hb7]; exact heap_alloc_new wr _
    have XW : Below wr.heap.size wr W := by rw [← hW]; exact (Below.refl _ _).alloc (Nat.le_refl _) _
    have HXW : Hid (Below v2.heap.size v2 W) := hide ((uh HRC).below.trans (XW.mono (uh HRC).below.size))
    have HVW := hide (And.intro hW hb7)
    have HNX := hide (And.intro N7 (And.intro XW (And.intro hkv hg0)))
    clear hW hb7 N7 XW hkv hg0 hv9
    go_upto_region 8 with fail
    have hW := (uh HVW).1
    have hb7 := (uh HVW).2
    try rw [hW]
    try rw [hb7]
    clear hW HVW
    obtain ⟨z0, z1, z2, z3, z4⟩ := block5 (uh HNX).1
    by_cases h3 : g0 = 3
    ·have HKD2 : Hid ((ex.l.take (i + 1)).all (fun k => k.kind == 3) = true) := hide (by
      rw [List.take_add_one, (uh HNX).2.2.1, List.all_append, (uh HKD).1]
      simp [← (uh HNX).2.2.2.1, h3])
     subst h3
     obtain ⟨vi, hvi⟩ : ∃ vi, vs[i]? = some vi := ⟨_, List.getElem?_eq_getElem (by have := uh HVN; omega)⟩
     obtain ⟨c, hc1, hc5, hcv⟩ := (uh HEL).1.2 i vi hvi
     obtain ⟨c0, c1, c2, c3, c4, c5, c6, c7, c8, hcx⟩ := shape9P hcv
     have hce : c = [.int .i64 c0, .int .i64 c1, .string c2, .slice c3 c4 c5, .slice c6 c7 c8] := by
      have h4 := congrArg Array.toList (Value.agg.inj hcx)
      simpa using h4
     subst hce
     obtain ⟨a, rfl⟩ : ∃ a, al = some a := by
      cases al with
      | none => have := (uh HEL).2.none rfl; omega
      | some a => exact ⟨a, rfl⟩
     have hwW : Below w.heap.size w W := uh HWB W (uh HXW)
     have hcc : ∀ (j : Nat) (v : Value), ([.int .i64 c0, .int .i64 c1, .string c2, .slice c3 c4 c5, .slice c6 c7 c8] : List Value)[j]? = some v → W.cell? ((a.add (i * 5)).add j) = some v := fun j v hv => by
      have h1 := (uh HEL).2.cells a rfl _ v (flat5_at C (uh HEL).1.len5 i _ j v hc1 hv)
      rw [addKs]
      exact cell_later hwW h1
     have habl : a.block < w.heap.size := by
      have h1 := (uh HEL).2.cells a rfl _ _ (flat5_at C (uh HEL).1.len5 i _ 0 _ hc1 rfl)
      have h2 := World.block_lt_of_cell? w _ (by rw [h1])
      rwa [block_add] at h2
     have gw5 : W.cell? ⟨gb, 5, none⟩ = some (.slice (some a) e4 cl) := ((uh HXW).cell (p := ⟨gb, 5, none⟩) hlt0).trans t5
     have HSA : Hid (W.drew.cell? ⟨b7, 2, none⟩ = some (.string g2) ∧ W.drew.cell? ⟨gb, 5, none⟩ = some (.slice (some a) e4 cl) ∧ W.drew.cell? (a.add (i * 5)) = some (.int .i64 c0) ∧ W.drew.cell? ⟨(a.add (i * 5)).block, (a.add (i * 5)).off + 1, none⟩ = some (.int .i64 c1) ∧ W.drew.cell? ⟨(a.add (i * 5)).block, (a.add (i * 5)).off + 2, none⟩ = some (.string c2) ∧ W.drew.cell? ⟨(a.add (i * 5)).block, (a.add (i * 5)).off + 3, none⟩ = some (.slice c3 c4 c5) ∧ W.drew.cell? ⟨(a.add (i * 5)).block, (a.add (i * 5)).off + 4, none⟩ = some (.slice c6 c7 c8)) := hide ⟨z2, gw5, hcc 0 _ rfl, hcc 1 _ rfl, hcc 2 _ rfl, hcc 3 _ rfl, hcc 4 _ rfl⟩
     have hown : ∀ b, (Value.slice so i sc).ownBlock = some b → lo ≤ b ∧ b < wr.heap.size := fun b hb => (uh HRC).row.lt b hb
     have hvs := (uh HM).1.size
     have hlo2 := uh HLO
     have HFAR : Hid ((b7 < W.heap.size ∧ some b7 ≠ (Value.slice so i sc).ownBlock) ∧ (gb < W.heap.size ∧ some gb ≠ (Value.slice so i sc).ownBlock) ∧ ((a.add (i * 5)).block < W.heap.size ∧ some (a.add (i * 5)).block ≠ (Value.slice so i sc).ownBlock)) := hide ⟨⟨(Array.getElem?_eq_some_iff.1 (uh HNX).1).1, fun e => by have := hown b7 e.symm; omega⟩, ⟨Nat.lt_of_lt_of_le hlt0 (uh HXW).size, fun e => by have := hown gb e.symm; omega⟩, ⟨by rw [block_add]; exact Nat.lt_of_lt_of_le habl hwW.size, fun e => by rw [block_add] at e; have := hown a.block e.symm; omega⟩⟩
     obtain ⟨CS, hCS⟩ : ∃ CS, (ecL ((keyL ex).take i) (C.take i)).flatten = CS := ⟨_, rfl⟩
     have HOW : Hid (∀ u, Below W.heap.size W u → u.ownsRow lo 65 6 (.slice so i sc) i CS) := hide (fun u hu => by
      have hr := (uh HRC).row
      rw [hCS] at hr
      exact row_toP hr (fun b hb => (hu.block b (Nat.lt_of_lt_of_le (hown b hb).2 (uh HNX).2.1.size)).trans ((uh HNX).2.1.block b (hown b hb).2)))
     have hloW : lo ≤ W.heap.size := Nat.le_trans (uh HKD).2 (uh HNX).2.1.size
     have HEND : Hid (∀ (W1 W5 : World) (g5 cap5 : Nat), Below W.heap.size W W1 → W5.ownsRow lo 65 6 (.slice (some ⟨g5, 0, none⟩) (i + 1) cap5) (i + 1) (CS ++ [.string g2, .int .i64 c0, .int .i64 c1, .string c2, .slice c3 c4 c5, .slice c6 c7 c8]) → W1.grownBy W5 (Value.slice so i sc).ownBlock → ((ex.l.take (i + 1)).all (fun k => k.kind == 3) = true ∧ lo ≤ W5.heap.size) ∧ RcI v2 W5 lo (keyL ex) C (some ⟨g5, 0, none⟩) cap5 (i + 1)) := hide (by
      intro W1 W5 g5 cap5 b1 o5 gr5
      rw [← hCS] at o5
      have hk : (keyL ex)[i]? = some g2 := by unfold keyL; rw [List.getElem?_map, (uh HNX).2.2.1, (uh HNX).2.2.2.2]; rfl
      refine ⟨⟨uh HKD2, Nat.le_trans (Nat.le_trans hloW b1.size) gr5.size⟩, ?_, ?_⟩
      ·rw [← ecL_next _ _ i g2 _ hk hc1]
       exact o5
      ·have h1 := (uh HXW).trans (b1.mono (uh HXW).size)
       exact h1.trans ((Below.refl _ _).grown gr5 h1.size (fun b hb => by have := (hown b hb).1; omega)))
     clear hc1 hc5 hcv hcx hvi hwW hcc habl gw5 hown hvs hlo2 hCS hb7 k0 k1 k2 k3 k4
     go_upto_region 10 with fail
     have HS0 : Hid (W.drew.cell? ⟨b7, 2, none⟩ = some (.string g2) ∧ W.drew.cell? ⟨gb, 5, none⟩ = some (.slice (some a) e4 cl) ∧ W.drew.cell? (a.add (i * 5)) = some (.int .i64 c0) ∧ W.drew.cell? ⟨(a.add (i * 5)).block, (a.add (i * 5)).off + 1, none⟩ = some (.int .i64 c1) ∧ W.drew.cell? ⟨(a.add (i * 5)).block, (a.add (i * 5)).off + 2, none⟩ = some (.string c2) ∧ W.drew.cell? ⟨(a.add (i * 5)).block, (a.add (i * 5)).off + 3, none⟩ = some (.slice c3 c4 c5) ∧ W.drew.cell? ⟨(a.add (i * 5)).block, (a.add (i * 5)).off + 4, none⟩ = some (.slice c6 c7 c8)) := HSA
     refine till_begin (S := fun w' => w'.cell? ⟨b7, 2, none⟩ = some (.string g2) ∧ w'.cell? ⟨gb, 5, none⟩ = some (.slice (some a) e4 cl) ∧ w'.cell? (a.add (i * 5)) = some (.int .i64 c0) ∧ w'.cell? ⟨(a.add (i * 5)).block, (a.add (i * 5)).off + 1, none⟩ = some (.int .i64 c1) ∧ w'.cell? ⟨(a.add (i * 5)).block, (a.add (i * 5)).off + 2, none⟩ = some (.string c2) ∧ w'.cell? ⟨(a.add (i * 5)).block, (a.add (i * 5)).off + 3, none⟩ = some (.slice c3 c4 c5) ∧ w'.cell? ⟨(a.add (i * 5)).block, (a.add (i * 5)).off + 4, none⟩ = some (.slice c6 c7 c8)) 11 (by kernel_rfl) ?_
     refine till_take 0 (v := .slice so i sc) (some 41) rfl rfl rfl (by kernel_rfl) (by kernel_rfl) (by kernel_rfl) (by kernel_rfl) (fun _ _ _ h => h) (Or.inl ⟨by rfl, fun u hu => by obtain ⟨b0, b1, b2, b3, b4, b5, b6⟩ := hu; go_simp⟩) (uh HS0) ?_
     try simp only [Act.put, setX]
     refine till_take 1 (v := .pointer (some ⟨b7, 2, none⟩)) (some 42) rfl rfl rfl (by kernel_rfl) (by kernel_rfl) (by kernel_rfl) (by kernel_rfl) (fun _ _ _ h => h) (Or.inl ⟨by rfl, fun u hu => by obtain ⟨b0, b1, b2, b3, b4, b5, b6⟩ := hu; go_simp⟩) (uh HS0) ?_
     try simp only [Act.put, setX]
     refine till_take 2 (v := .string g2) (some 43) rfl rfl rfl (by kernel_rfl) (by kernel_rfl) (by kernel_rfl) (by kernel_rfl) (fun _ _ _ h => h) (Or.inl ⟨by rfl, fun u hu => by obtain ⟨b0, b1, b2, b3, b4, b5, b6⟩ := hu; go_simp⟩) (uh HS0) ?_
     try simp only [Act.put, setX]
     refine till_take 3 (v := .pointer (some ⟨gb, 5, none⟩)) (some 44) rfl rfl rfl (by kernel_rfl) (by kernel_rfl) (by kernel_rfl) (by kernel_rfl) (fun _ _ _ h => h) (Or.inl ⟨by rfl, fun u hu => by obtain ⟨b0, b1, b2, b3, b4, b5, b6⟩ := hu; go_simp⟩) (uh HS0) ?_
     try simp only [Act.put, setX]
     refine till_take 4 (v := .slice (some a) e4 cl) (some 45) rfl rfl rfl (by kernel_rfl) (by kernel_rfl) (by kernel_rfl) (by kernel_rfl) (fun _ _ _ h => h) (Or.inl ⟨by rfl, fun u hu => by obtain ⟨b0, b1, b2, b3, b4, b5, b6⟩ := hu; go_simp⟩) (uh HS0) ?_
     try simp only [Act.put, setX]
     refine till_take 5 (v := .int .i64 (i : Int)) (some 46) rfl rfl rfl (by kernel_rfl) (by kernel_rfl) (by kernel_rfl) (by kernel_rfl) (fun _ _ _ h => h) (Or.inl ⟨by rfl, fun u hu => by obtain ⟨b0, b1, b2, b3, b4, b5, b6⟩ := hu; go_simp⟩) (uh HS0) ?_
     try simp only [Act.put, setX]
     refine till_take 6 (v := .pointer (some (a.add (i * 5)))) (some 47) rfl rfl rfl (by kernel_rfl) (by kernel_rfl) (by kernel_rfl) (by kernel_rfl) (fun _ _ _ h => h) (Or.inl ⟨by rfl, fun u hu => by obtain ⟨b0, b1, b2, b3, b4, b5, b6⟩ := hu; go_simp⟩) (uh HS0) ?_
     try simp only [Act.put, setX]
     refine till_take 7 (v := .agg #[.int .i64 c0, .int .i64 c1, .string c2, .slice c3 c4 c5, .slice c6 c7 c8]) (some 48) rfl rfl rfl (by kernel_rfl) (by kernel_rfl) (by kernel_rfl) (by kernel_rfl) (fun _ _ _ h => h) (Or.inl ⟨by rfl, fun u hu => by obtain ⟨b0, b1, b2, b3, b4, b5, b6⟩ := hu; go_simp⟩) (uh HS0) ?_
     try simp only [Act.put, setX]
     refine till_take 8 (v := .agg #[.string g2, .int .i64 c0, .int .i64 c1, .string c2, .slice c3 c4 c5, .slice c6 c7 c8]) (some 49) rfl rfl rfl (by kernel_rfl) (by kernel_rfl) (by kernel_rfl) (by kernel_rfl) (fun _ _ _ h => h) (Or.inl ⟨by rfl, fun u hu => by obtain ⟨b0, b1, b2, b3, b4, b5, b6⟩ := hu; go_simp⟩) (uh HS0) ?_
     try simp only [Act.put, setX]
     obtain ⟨W0, hW0⟩ : ∃ W0, W.drew = W0 := ⟨_, rfl⟩
     have HY0 : Hid (Below W.heap.size W W0) := hide (by rw [← hW0]; exact below_drew_of' (Below.refl _ _))
     try rw [hW0]
     rw [hW0] at HS0
     clear hW0
     refine till_one 9 (by kernel_rfl) rfl (fun K hK => ?_)
     go_simp
     obtain ⟨W1, hW1⟩ : ∃ W1, W0.alloc (.cells #[.string g2, .int .i64 c0, .int .i64 c1, .string c2, .slice c3 c4 c5, .slice c6 c7 c8] 65) = W1 := ⟨_, rfl⟩
     obtain ⟨h3s, hh3s⟩ : ∃ g, W0.heap.size = g := ⟨_, rfl⟩
     have dd : Below W0.heap.size W0 W1 := by rw [← hW1]; exact (Below.refl _ _).alloc (Nat.le_refl _) _
     have at4 : W1.heap[h3s]? = some (.cells #[.string g2, .int .i64 c0, .int .i64 c1, .string c2, .slice c3 c4 c5, .slice c6 c7 c8] 65 (0, 0)) := by rw [← hW1, ← hh3s]; exact heap_alloc_new W0 _
     try rw [hW1]
     try rw [hh3s]
     have HY1 : Hid (Below W.heap.size W W1) := hide ((uh HY0).trans (dd.mono (uh HY0).size))
     have HS1 : Hid (W1.cell? ⟨b7, 2, none⟩ = some (.string g2) ∧ W1.cell? ⟨gb, 5, none⟩ = some (.slice (some a) e4 cl) ∧ W1.cell? (a.add (i * 5)) = some (.int .i64 c0) ∧ W1.cell? ⟨(a.add (i * 5)).block, (a.add (i * 5)).off + 1, none⟩ = some (.int .i64 c1) ∧ W1.cell? ⟨(a.add (i * 5)).block, (a.add (i * 5)).off + 2, none⟩ = some (.string c2) ∧ W1.cell? ⟨(a.add (i * 5)).block, (a.add (i * 5)).off + 3, none⟩ = some (.slice c3 c4 c5) ∧ W1.cell? ⟨(a.add (i * 5)).block, (a.add (i * 5)).off + 4, none⟩ = some (.slice c6 c7 c8)) := hide ⟨cell_later dd ((uh HS0).1), cell_later dd ((uh HS0).2.1), cell_later dd ((uh HS0).2.2.1), cell_later dd ((uh HS0).2.2.2.1), cell_later dd ((uh HS0).2.2.2.2.1), cell_later dd ((uh HS0).2.2.2.2.2.1), cell_later dd ((uh HS0).2.2.2.2.2.2)⟩
     refine hK.out _ _ (Or.inr (uh HS1)) ?_
     clear hK K HS0 HY0 dd hW1 hh3s
     try simp only [Act.put, setX]
     refine till_one 10 (by kernel_rfl) rfl (fun K hK => ?_)
     refine step_append_lies _ (by rfl) _ _ 63 (by rfl) lo 65 iv (.agg #[.string ⟨#[]⟩, .int .i64 0, .int .i64 0, .string ⟨#[]⟩, .slice none 0 0, .slice none 0 0]) 6 96 Tryz.underlying63 (uh HIV).1 (uh HIV).2.1 (uh HIV).2.2.1 (uh HIV).2.2.2 rfl (by omega) (.slice so i sc) i CS (by rfl) (uh HOW W1 (uh HY1)) ⟨h3s, 0, none⟩ 1 1 [.string g2, .int .i64 c0, .int .i64 c1, .string c2, .slice c3 c4 c5, .slice c6 c7 c8] (by rfl) (by rfl) (World.news_of_block at4) (by simp [Value.oneCell']) (by omega) (by unfold maxLen; omega) (by omega) (Nat.le_trans hloW (uh HY1).size) _ rfl ?_
     intro g5 cap5 W5 hown5 hgrow5 hat5 hlt5
     change K (Act.put _ (some 51) _) W5
     have HS5 : Hid (W5.cell? ⟨b7, 2, none⟩ = some (.string g2) ∧ W5.cell? ⟨gb, 5, none⟩ = some (.slice (some a) e4 cl) ∧ W5.cell? (a.add (i * 5)) = some (.int .i64 c0) ∧ W5.cell? ⟨(a.add (i * 5)).block, (a.add (i * 5)).off + 1, none⟩ = some (.int .i64 c1) ∧ W5.cell? ⟨(a.add (i * 5)).block, (a.add (i * 5)).off + 2, none⟩ = some (.string c2) ∧ W5.cell? ⟨(a.add (i * 5)).block, (a.add (i * 5)).off + 3, none⟩ = some (.slice c3 c4 c5) ∧ W5.cell? ⟨(a.add (i * 5)).block, (a.add (i * 5)).off + 4, none⟩ = some (.slice c6 c7 c8)) := hide ⟨(hgrow5.cell_far ⟨b7, 2, none⟩ (Nat.lt_of_lt_of_le (uh HFAR).1.1 (uh HY1).size) (uh HFAR).1.2).trans ((uh HS1).1), (hgrow5.cell_far ⟨gb, 5, none⟩ (Nat.lt_of_lt_of_le (uh HFAR).2.1.1 (uh HY1).size) (uh HFAR).2.1.2).trans ((uh HS1).2.1), (hgrow5.cell_far (a.add (i * 5)) (Nat.lt_of_lt_of_le (uh HFAR).2.2.1 (uh HY1).size) (uh HFAR).2.2.2).trans ((uh HS1).2.2.1), (hgrow5.cell_far ⟨(a.add (i * 5)).block, (a.add (i * 5)).off + 1, none⟩ (Nat.lt_of_lt_of_le (uh HFAR).2.2.1 (uh HY1).size) (uh HFAR).2.2.2).trans ((uh HS1).2.2.2.1), (hgrow5.cell_far ⟨(a.add (i * 5)).block, (a.add (i * 5)).off + 2, none⟩ (Nat.lt_of_lt_of_le (uh HFAR).2.2.1 (uh HY1).size) (uh HFAR).2.2.2).trans ((uh HS1).2.2.2.2.1), (hgrow5.cell_far ⟨(a.add (i * 5)).block, (a.add (i * 5)).off + 3, none⟩ (Nat.lt_of_lt_of_le (uh HFAR).2.2.1 (uh HY1).size) (uh HFAR).2.2.2).trans ((uh HS1).2.2.2.2.2.1), (hgrow5.cell_far ⟨(a.add (i * 5)).block, (a.add (i * 5)).off + 4, none⟩ (Nat.lt_of_lt_of_le (uh HFAR).2.2.1 (uh HY1).size) (uh HFAR).2.2.2).trans ((uh HS1).2.2.2.2.2.2)⟩
     have H5 := hide (uh HEND W1 W5 g5 cap5 (uh HY1) hown5 hgrow5)
     refine hK.out _ _ (Or.inr (uh HS5)) ?_
     clear hK K hown5 hgrow5 hat5 hlt5 HS1
     try simp only [Act.put, setX]
     refine till_one 11 (by kernel_rfl) rfl (fun K hK => ?_)
     go_simp
     refine hK.out _ _ (Or.inl (by first | rfl | trivial)) ?_
     clear hK K HS5
     try simp only [Act.put, setX]
     refine till_done (by kernel_rfl) ?_ _
     go_wp2_with fail
     go_roundw
     case rel => exact ⟨i + 1, _, _, by go_num, rfl, HI1, hide (uh H5).1, hide (uh H5).2⟩
     case measure => have := uh HI1; simp [intOf]; omega
    ·have h3b : (g0 == 3) = false := beq_eq_false_iff_ne.2 h3
     have HRN : Hid (R = (vlz, 3)) := hide (uh HRNO (by
      rw [List.all_eq_false]
      exact ⟨kv, List.mem_of_getElem? (uh HNX).2.2.1, by rw [← (uh HNX).2.2.2.1]; simpa using h3⟩))
     have CN : Hid (Calls Tryz.prog 101 #[.int .i64 3] W fun e w' => OpPost W R e w') := hide (by rw [uh HRN]; exact trap_op 3 W)
     go_wp2_with fail
     refine (uh CN).mono ?_
     rintro e W9 ⟨y0, y1, y2, y3, y4, y5, y6, y7, y8, t, rfl, ⟨ht, q5⟩, d5⟩
     have X5 : Below v2.heap.size v2 W9 := (uh HXW).trans (d5.mono (uh HXW).size)
     have ER : Hid (W9.heap[gr]? = some (.cells #[.int .i64 0, .int .i64 0, .string ⟨#[]⟩, .slice none 0 0, .slice none 0 0] 25 (0, 0))) := hide ((X5.block gr (uh HM).2.2.2.2).trans (uh HM).2.2.1)
     obtain ⟨r0z, r1z, r2z, r3z, r4z⟩ := block5 (uh ER)
     obtain ⟨f0, f1, f2, f3, f4⟩ := fr5 (uh ER)
     have HF9 : Hid (IsQ W9 (fun b => v2.heap.size ≤ b ∧ b < W9.heap.size) R.1 (.agg #[.int .i64 y0, .int .i64 y1, .string y2, .slice y3 y4 y5, .slice y6 y7 y8]) ∧ t = R.2 ∧ Below v2.heap.size v2 W9) := hide ⟨q5.weak (fun b hb => ⟨Nat.le_trans (uh HXW).size hb.1, hb.2⟩), ht, X5⟩
     clear q5 d5 X5 ht CN 
     go_wp2_with fail
     (try simp only [Exit.inBlock, Exit.then])
     refine bodyPost_ret (ret_ct rfl _ _ gr #[.int .i64 y0, .int .i64 y1, .string y2, .slice y3 y4 y5, .slice y6 y7 y8] _ _ rfl (set5P (uh ER) _ _ _ _ _) Tryz.underlying25 rfl size_vl) rfl ?_
     exact op_fin (uh HM).1 (uh HM).2.2.2.1 (uh HM).2.2.2.2 (uh HF9).2.2 (uh HF9).1 (uh HF9).2.1
   ·have j1 : ¬ (i : Int) < (e4 : Int) := by omega
    obtain rfl : i = e4 := by have := uh HIl; omega
    have hall : ex.l.all (fun k => k.kind == 3) = true := by
     have h1 := (uh HKD).1
     rwa [List.take_of_length_le (by have := (uh HEX).2.1; omega)] at h1
    have hrz := uh HRY hall
    obtain ⟨es, hes⟩ : ∃ es, entsV ex vs = es := ⟨_, rfl⟩
    rw [hes] at hrz
    obtain ⟨ec, hec⟩ : ∃ ec, docC es = ec := ⟨_, rfl⟩
    rw [hec] at hrz
    obtain ⟨rv, hrv⟩ : ∃ rv, rcV es = rv := ⟨_, rfl⟩
    rw [hrv] at hrz
    have HRZ := hide hrz
    have hrow := (uh HRC).row
    rw [List.take_of_length_le (by have := (uh HKL).1; omega), List.take_of_length_le (by have := uh HCL; omega)] at hrow
    obtain ⟨al9, cl9, hsv, hIE⟩ := own_ents hrow ((uh HEL).1.later ((uh HWr).mono (uh HBs))) (uh HKL).1 (uh HVN) (Nat.le_trans (uh HBs) (uh HWr).size) (by omega) (uh HKL).2
    simp only [Value.slice.injEq] at hsv
    obtain ⟨rfl, -, rfl⟩ := hsv
    have hel : es.length = i := by rw [← hes]; unfold entsV; rw [List.length_zip, (uh HKL).1, uh HVN, Nat.min_self]
    have CR : Hid (Calls Tryz.prog 104 #[.slice so i sc] wr fun e w' => ∃ x', e = .returned (.tuple #[x', .int .i64 ec]) ∧ Below wr.heap.size wr w' ∧ IsQ w' (fun b => wr.heap.size ≤ b ∧ b < w'.heap.size) rv x') := hide (by
     have hh : IsE wr (fun b => b < wr.heap.size) es so sc := by rw [← hes]; exact hIE
     have := recQ_any es so sc wr.heap.size wr hh (Nat.le_refl _)
     rw [hel, hec, hrv] at this
     exact this)
    have HXr := hide (uh HRC).below
    clear hall hrz hes hec hrv hrow hIE hel
    go_wp2_with fail
    refine (uh CR).mono ?_
    rintro e u2 ⟨x', rfl, d2, q2⟩
    obtain ⟨s0, s1, s2, s3, s4, s5, s6, s7, s8, rfl⟩ := shape9P q2.1
    have HY2 : Hid (Below v2.heap.size v2 u2 ∧ IsQ u2 (fun b => v2.heap.size ≤ b ∧ b < u2.heap.size) rv (.agg #[.int .i64 s0, .int .i64 s1, .string s2, .slice s3 s4 s5, .slice s6 s7 s8])) := hide ⟨(uh HXr).trans (d2.mono (uh HXr).size), q2.weak (fun b hb => ⟨Nat.le_trans (uh HXr).size hb.1, hb.2⟩)⟩
    clear d2 q2 CR
    go_upto_region 13 with fail
    obtain ⟨g8b, hg8b⟩ : ∃ g, u2.heap.size = g := ⟨_, rfl⟩
    obtain ⟨u3, hu3⟩ : ∃ u, u2.alloc (.cells #[.int .i64 s0, .int .i64 s1, .string s2, .slice s3 s4 s5, .slice s6 s7 s8] 25) = u := ⟨_, rfl⟩
    try rw [hu3]
    try rw [hg8b]
    have HY3 : Hid (Below v2.heap.size v2 u3 ∧ IsQ u3 (fun b => v2.heap.size ≤ b ∧ b < u2.heap.size) rv (.agg #[.int .i64 s0, .int .i64 s1, .string s2, .slice s3 s4 s5, .slice s6 s7 s8]) ∧ u3.heap[g8b]? = some (.cells #[.int .i64 s0, .int .i64 s1, .string s2, .slice s3 s4 s5, .slice s6 s7 s8] 25 (0, 0)) ∧ u2.heap.size ≤ u3.heap.size) := hide (by
     have hb : Below u2.heap.size u2 u3 := by rw [← hu3]; exact (Below.refl _ _).alloc (Nat.le_refl _) _
     exact ⟨(uh HY2).1.trans (hb.mono (uh HY2).1.size), (uh HY2).2.move (fun b hb' => hb.block b hb'.2), by rw [← hu3, ← hg8b]; exact heap_alloc_new u2 _, hb.size⟩)
    clear hu3 hg8b HY2
    obtain ⟨z0, z1, z2, z3, z4⟩ := block5 (uh HY3).2.2.1
    by_cases h32 : ec = 32
    ·have hrz : R = (vlz, 3) := by rw [uh HRZ, if_pos h32]
     have CN : Hid (Calls Tryz.prog 101 #[.int .i64 3] u3 fun e w' => OpPost u3 R e w') := hide (by rw [hrz]; exact trap_op 3 u3)
     subst h32
     clear hrz
     go_wp2_with fail
     refine (uh CN).mono ?_
     rintro e W9 ⟨y0, y1, y2, y3, y4, y5, y6, y7, y8, t, rfl, ⟨ht, q5⟩, d5⟩
     have X5 : Below v2.heap.size v2 W9 := (uh HY3).1.trans (d5.mono (uh HY3).1.size)
     have ER : Hid (W9.heap[gr]? = some (.cells #[.int .i64 0, .int .i64 0, .string ⟨#[]⟩, .slice none 0 0, .slice none 0 0] 25 (0, 0))) := hide ((X5.block gr (uh HM).2.2.2.2).trans (uh HM).2.2.1)
     obtain ⟨r0z, r1z, r2z, r3z, r4z⟩ := block5 (uh ER)
     obtain ⟨f0, f1, f2, f3, f4⟩ := fr5 (uh ER)
     have HF9 : Hid (IsQ W9 (fun b => v2.heap.size ≤ b ∧ b < W9.heap.size) R.1 (.agg #[.int .i64 y0, .int .i64 y1, .string y2, .slice y3 y4 y5, .slice y6 y7 y8]) ∧ t = R.2 ∧ Below v2.heap.size v2 W9) := hide ⟨q5.weak (fun b hb => ⟨Nat.le_trans (uh HY3).1.size hb.1, hb.2⟩), ht, X5⟩
     clear q5 d5 X5 ht CN z0 z1 z2 z3 z4
     go_wp2_with fail
     (try simp only [Exit.inBlock, Exit.then])
     refine bodyPost_ret (ret_ct rfl _ _ gr #[.int .i64 y0, .int .i64 y1, .string y2, .slice y3 y4 y5, .slice y6 y7 y8] _ _ rfl (set5P (uh ER) _ _ _ _ _) Tryz.underlying25 rfl size_vl) rfl ?_
     exact op_fin (uh HM).1 (uh HM).2.2.2.1 (uh HM).2.2.2.2 (uh HF9).2.2 (uh HF9).1 (uh HF9).2.1
    ·have h32b : (ec == 32) = false := beq_eq_false_iff_ne.2 h32
     have HRQ : Hid (R = toldV rv ec) := hide (by rw [uh HRZ, if_neg h32])
     have CN := hide (told_any rv s0 s1 s2 s3 s4 s5 s6 s7 s8 ec u3 (fun b => v2.heap.size ≤ b ∧ b < u2.heap.size) (uh HY3).2.1 (fun b hb => Nat.lt_of_lt_of_le hb.2 (uh HY3).2.2.2))
     go_wp2_with fail
     refine (uh CN).mono ?_
     rintro e W9 ⟨y0, y1, y2, y3, y4, y5, y6, y7, y8, t, rfl, ⟨ht, q5⟩, d5⟩
     have X5 : Below v2.heap.size v2 W9 := (uh HY3).1.trans (d5.mono (uh HY3).1.size)
     have ER : Hid (W9.heap[gr]? = some (.cells #[.int .i64 0, .int .i64 0, .string ⟨#[]⟩, .slice none 0 0, .slice none 0 0] 25 (0, 0))) := hide ((X5.block gr (uh HM).2.2.2.2).trans (uh HM).2.2.1)
     obtain ⟨r0z, r1z, r2z, r3z, r4z⟩ := block5 (uh ER)
     obtain ⟨f0, f1, f2, f3, f4⟩ := fr5 (uh ER)
     have HF9 : Hid (IsQ W9 (fun b => v2.heap.size ≤ b ∧ b < W9.heap.size) R.1 (.agg #[.int .i64 y0, .int .i64 y1, .string y2, .slice y3 y4 y5, .slice y6 y7 y8]) ∧ t = R.2 ∧ Below v2.heap.size v2 W9) := hide ⟨by rw [uh HRQ]; exact q5.weak (fun b hb => ⟨hb.1.1, Nat.lt_of_lt_of_le hb.2 d5.size⟩), by rw [uh HRQ]; exact ht, X5⟩
     clear q5 d5 X5 ht CN z0 z1 z2 z3 z4
     go_wp2_with fail
     (try simp only [Exit.inBlock, Exit.then])
     refine bodyPost_ret (ret_ct rfl _ _ gr #[.int .i64 y0, .int .i64 y1, .string y2, .slice y3 y4 y5, .slice y6 y7 y8] _ _ rfl (set5P (uh ER) _ _ _ _ _) Tryz.underlying25 rfl size_vl) rfl ?_
     exact op_fin (uh HM).1 (uh HM).2.2.2.1 (uh HM).2.2.2.2 (uh HF9).2.2 (uh HF9).1 (uh HF9).2.1
 ·have HRN : Hid (R = (vlz, 3)) := hide (by rw [← hR]; unfold recordV; rw [if_neg (fun hh => hc1 ⟨by rw [(uh HEX).1]; exact hh.1.1, by rw [(uh HEX).2.1, ← hn]; exact hh.1.2⟩)])
  have hs3 := (uh H3).1.size
  have CN : Hid (Calls Tryz.prog 101 #[.int .i64 3] v3 fun e w' => OpPost v3 R e w') := hide (by rw [uh HRN]; exact trap_op 3 v3)
  clear h hx hR hn hBs hrx hex
  by_cases hk4 : e0 = 4
  ·have hne : ¬ (e4 : Int) = (n : Int) := fun e => hc1 ⟨hk4, by omega⟩
   have hneb : ((e4 : Int) == (n : Int)) = false := beq_eq_false_iff_ne.2 hne
   have hnn : ¬ e4 = n := by omega
   subst hk4
   clear hc1
   go_enter Tryz.func62, Tryz.ntmps62
   go_wp2_with fail
   refine (uh CN).mono ?_
   rintro e W9 ⟨y0, y1, y2, y3, y4, y5, y6, y7, y8, t, rfl, ⟨ht, q5⟩, d5⟩
   have X5 : Below v2.heap.size v2 W9 := (uh H3).1.trans (d5.mono (uh H3).1.size)
   have ER : Hid (W9.heap[gr]? = some (.cells #[.int .i64 0, .int .i64 0, .string ⟨#[]⟩, .slice none 0 0, .slice none 0 0] 25 (0, 0))) := hide ((X5.block gr (uh HM).2.2.2.2).trans (uh HM).2.2.1)
   obtain ⟨r0z, r1z, r2z, r3z, r4z⟩ := block5 (uh ER)
   obtain ⟨f0, f1, f2, f3, f4⟩ := fr5 (uh ER)
   have HF9 : Hid (IsQ W9 (fun b => v2.heap.size ≤ b ∧ b < W9.heap.size) R.1 (.agg #[.int .i64 y0, .int .i64 y1, .string y2, .slice y3 y4 y5, .slice y6 y7 y8]) ∧ t = R.2 ∧ Below v2.heap.size v2 W9) := hide ⟨q5.weak (fun b hb => ⟨Nat.le_trans (uh H3).1.size hb.1, hb.2⟩), ht, X5⟩
   clear q5 d5 X5 ht CN 
   go_wp2_with fail
   (try simp only [Exit.inBlock, Exit.then])
   refine bodyPost_ret (ret_ct rfl _ _ gr #[.int .i64 y0, .int .i64 y1, .string y2, .slice y3 y4 y5, .slice y6 y7 y8] _ _ rfl (set5P (uh ER) _ _ _ _ _) Tryz.underlying25 rfl size_vl) rfl ?_
   exact op_fin (uh HM).1 (uh HM).2.2.2.1 (uh HM).2.2.2.2 (uh HF9).2.2 (uh HF9).1 (uh HF9).2.1
  ·have hk4b : (e0 == 4) = false := beq_eq_false_iff_ne.2 hk4
   clear hc1
   go_enter Tryz.func62, Tryz.ntmps62
   go_wp2_with fail
   refine (uh CN).mono ?_
   rintro e W9 ⟨y0, y1, y2, y3, y4, y5, y6, y7, y8, t, rfl, ⟨ht, q5⟩, d5⟩
   have X5 : Below v2.heap.size v2 W9 := (uh H3).1.trans (d5.mono (uh H3).1.size)
   have ER : Hid (W9.heap[gr]? = some (.cells #[.int .i64 0, .int .i64 0, .string ⟨#[]⟩, .slice none 0 0, .slice none 0 0] 25 (0, 0))) := hide ((X5.block gr (uh HM).2.2.2.2).trans (uh HM).2.2.1)
   obtain ⟨r0z, r1z, r2z, r3z, r4z⟩ := block5 (uh ER)
   obtain ⟨f0, f1, f2, f3, f4⟩ := fr5 (uh ER)
   have HF9 : Hid (IsQ W9 (fun b => v2.heap.size ≤ b ∧ b < W9.heap.size) R.1 (.agg #[.int .i64 y0, .int .i64 y1, .string y2, .slice y3 y4 y5, .slice y6 y7 y8]) ∧ t = R.2 ∧ Below v2.heap.size v2 W9) := hide ⟨q5.weak (fun b hb => ⟨Nat.le_trans (uh H3).1.size hb.1, hb.2⟩), ht, X5⟩
   clear q5 d5 X5 ht CN 
   go_wp2_with fail
   (try simp only [Exit.inBlock, Exit.then])
   refine bodyPost_ret (ret_ct rfl _ _ gr #[.int .i64 y0, .int .i64 y1, .string y2, .slice y3 y4 y5, .slice y6 y7 y8] _ _ rfl (set5P (uh ER) _ _ _ _ _) Tryz.underlying25 rfl size_vl) rfl ?_
   exact op_fin (uh HM).1 (uh HM).2.2.2.1 (uh HM).2.2.2.2 (uh HF9).2.2 (uh HF9).1 (uh HF9).2.1
end Go.Proofs.YtgkmdjmigehmeaaGreatDoor
