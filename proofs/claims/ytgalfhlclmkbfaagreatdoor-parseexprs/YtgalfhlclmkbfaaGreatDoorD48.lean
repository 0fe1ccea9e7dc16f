/-
  Layer 17 (parse): the walks of the laws' Same, of values without parts and of trees; no conditions.
-/
import Derived.Test.YtgalfhlclmkbfaaGreatDoorD47
import Derived.Deep.RegionHeld3
set_option linter.unusedVariables false
set_option linter.unusedSimpArgs false
namespace Go.Proofs.YtgalfhlclmkbfaaGreatDoor
open Go.RowKit
set_option linter.unusedVariables false
set_option linter.unusedSimpArgs false
theorem row_cell5v {w : World} {g : Nat} {v0 v1 v2 v3 v4 : Value} {T : TypeId} (h : w.heap[g]? = some (.cells #[v0, v1, v2, v3, v4] T (0, 0))) :
  w.cell? ⟨g, 0, none⟩ = some v0 ∧ w.cell? ⟨g, 1, none⟩ = some v1 ∧ w.cell? ⟨g, 2, none⟩ = some v2 ∧ w.cell? ⟨g, 3, none⟩ = some v3 ∧ w.cell? ⟨g, 4, none⟩ = some v4 :=
 ⟨by rw [cell_of_row w g 0 _ _ (0, 0) h]; rfl, by rw [cell_of_row w g 1 _ _ (0, 0) h]; rfl, by rw [cell_of_row w g 2 _ _ (0, 0) h]; rfl, by rw [cell_of_row w g 3 _ _ (0, 0) h]; rfl, by rw [cell_of_row w g 4 _ _ (0, 0) h]; rfl⟩
theorem below_drew_of' {w w' : World} (h : Below w.drew.heap.size w.drew w') : Below w.heap.size w w' := ⟨h.os, h.tape, h.output, h.size, h.block⟩
theorem cell_latr {w u : World} {b i : Nat} {v : Value} (hb : Below w.heap.size w u) (h : w.cell? ⟨b, i, none⟩ = some v) : u.cell? ⟨b, i, none⟩ = some v := by
 have hlt : b < w.heap.size := by
  unfold World.cell? at h
  cases hh : w.heap[b]? with
  |none => simp [hh] at h
  |some o => exact (Array.getElem?_eq_some_iff.1 hh).1
 unfold World.cell? at h ⊢
 rw [show u.heap[b]? = w.heap[b]? from hb.block b hlt]
 exact h
structure TwoB (w w2 : World) (g : Nat) (T : TypeId) (x y : Array Value) : Prop where
 at0 : w2.heap[g]? = some (.cells x T (0, 0))
 at1 : w2.heap[g + 1]? = some (.cells y T (0, 0))
 size : w2.heap.size = g + 2
 below : Below w.heap.size w w2
theorem TwoB.mk' (w : World) (T : TypeId) (x y : Array Value) : TwoB w ((w.alloc (.cells x T)).alloc (.cells y T)) w.heap.size T x y := by
 have h1 : Below w.heap.size w ((w.alloc (.cells x T)).alloc (.cells y T)) := ((Below.refl _ _).alloc (Nat.le_refl _) _).alloc (by simp) _
 refine ⟨?_, ?_, by simp, h1⟩
 ·have := ((Below.refl (w.alloc (.cells x T)).heap.size (w.alloc (.cells x T))).alloc (Nat.le_refl _) (.cells y T)).block w.heap.size (by simp)
  rw [this]
  exact heap_alloc_new w _
 ·have := heap_alloc_new (w.alloc (.cells x T)) (.cells y T)
  simpa using this
theorem TwoB.later {w w2 u : World} {g : Nat} {T : TypeId} {x y : Array Value} (h : TwoB w w2 g T x y) (hb : Below w2.heap.size w2 u) : u.heap[g]? = some (.cells x T (0, 0)) ∧ u.heap[g + 1]? = some (.cells y T (0, 0)) := by
 have := h.size
 exact ⟨(hb.block g (by omega)).trans h.at0, (hb.block (g + 1) (by omega)).trans h.at1⟩
set_option maxRecDepth 100000 in
set_option maxHeartbeats 1000000 in
theorem sameV_any (k n : Int) (s : ByteArray) (w : World) :
  Calls Tryz.prog 21 #[.agg #[.int .i64 k, .int .i64 n, .string s, .slice none 0 0, .slice none 0 0], .agg #[.int .i64 k, .int .i64 n, .string s, .slice none 0 0, .slice none 0 0]] w fun e w' => e = .returned (.bool true) ∧ Below w.heap.size w w' := by
 have TW := TwoB.mk' w 26 #[.int .i64 k, .int .i64 n, .string s, .slice none 0 0, .slice none 0 0] #[.int .i64 k, .int .i64 n, .string s, .slice none 0 0, .slice none 0 0]
 obtain ⟨w2, hw2⟩ : ∃ w2, (w.alloc (.cells #[.int .i64 k, .int .i64 n, .string s, .slice none 0 0, .slice none 0 0] 26)).alloc (.cells #[.int .i64 k, .int .i64 n, .string s, .slice none 0 0, .slice none 0 0] 26) = w2 := ⟨_, rfl⟩
 rw [hw2] at TW
 obtain ⟨g, hg⟩ : ∃ g, w.heap.size = g := ⟨_, rfl⟩
 rw [hg] at TW
 have HB : Hid (Below w.heap.size w w2) := hide TW.below
 obtain ⟨c0, c1, c2, c3, c4⟩ := row_cell5v TW.at0
 obtain ⟨d0, d1, d2, d3, d4⟩ := row_cell5v TW.at1
 have hs1 : (!(s.toList == s.toList)) = false := by simp
 clear TW
 go_enter Tryz.func21, Tryz.ntmps21
 go_wp2_with fail
 go_loopw [5] (fun x wr => x = .int .i64 0 ∧ wr = w2) (fun _ _ => 0)
 case atStart => exact ⟨rfl, rfl⟩
 case round =>
  obtain ⟨rfl, hwr⟩ := hrel
  rw [hwr]
  clear hwr
  go_wp2_with fail
  go_loopw [6] (fun x wr => x = .int .i64 0 ∧ wr = w2) (fun _ _ => 0)
  case atStart => exact ⟨rfl, rfl⟩
  case round =>
   obtain ⟨rfl, hwr⟩ := hrel
   rw [hwr]
   clear hwr
   go_wp2_with fail
   go_ret
   exact ⟨rfl, by first | exact unhide HB | (rw [← hg]; exact unhide HB)⟩
def eqN (pl : Bool) (x y : Nd) : Prop := npL [x] = npL [y] ∧ (pl = true → x = y)
theorem eqN_kid {pl : Bool} {x y : Nd} (h : eqN pl x y) (i : Nat) (a b : Nd) (ha : x.ks[i]? = some a) (hb : y.ks[i]? = some b) : eqN pl a b := by
 refine ⟨?_, fun e => ?_⟩
 ·obtain ⟨k, t, vk, vn, vs, f, ks, p⟩ := x
  obtain ⟨k', t', vk', vn', vs', f', ks', p'⟩ := y
  have := h.1
  simp only [npL, List.cons.injEq, Nd.mk.injEq, and_true] at this
  exact npL_at ks ks' this.2.2.2.2.2.2 i a b ha hb
 ·have := h.2 e
  subst this
  rw [ha] at hb
  exact Option.some.inj hb
def SameAt (m : Nat) : Prop := ∀ (x y : Nd) (pl : Bool) (ax ay : Option Addr) (cx cy : Nat) (Sx Sy : List Nat) (w : World), szL [x] ≤ m → NdS w [x] (cN x ax cx) Sx → NdS w [y] (cN y ay cy) Sy → eqN pl x y →
  Calls Tryz.prog 10 #[.agg (cN x ax cx).toArray, .agg (cN y ay cy).toArray, .bool pl] w fun e w' => e = .returned (.bool true) ∧ Below w.heap.size w w'
theorem same_zero : SameAt 0 := by
 intro x y pl ax ay cx cy Sx Sy w h
 obtain ⟨k, t, vk, vn, vs, f, ks, p⟩ := x
 simp only [szL] at h
 omega
set_option maxRecDepth 100000 in
set_option maxHeartbeats 4000000 in
theorem same_false (b : Nat) (ih : SameAt b) (k : Nat) (t : List UInt8) (vk vn : Nat) (vs : List UInt8) (f : Bool) (ks ks' : List Nd) (p q : Nat) (ax ay : Option Addr) (cx cy : Nat) (Sx Sy : List Nat) (w : World) (hb : szL ks ≤ b) (hx : NdS w [⟨k, t, vk, vn, vs, f, ks, p⟩] (cN ⟨k, t, vk, vn, vs, f, ks, p⟩ ax cx) Sx) (hy : NdS w [⟨k, t, vk, vn, vs, f, ks', q⟩] (cN ⟨k, t, vk, vn, vs, f, ks', q⟩ ay cy) Sy)
  (hl : ks.length = ks'.length) (he : ∀ (i : Nat) (a b : Nd), ks[i]? = some a → ks'[i]? = some b → eqN false a b) :
  Calls Tryz.prog 10 #[.agg (cN ⟨k, t, vk, vn, vs, f, ks, p⟩ ax cx).toArray, .agg (cN ⟨k, t, vk, vn, vs, f, ks', q⟩ ay cy).toArray, .bool false] w fun e w' => e = .returned (.bool true) ∧ Below w.heap.size w w' := by
 obtain ⟨m, hm⟩ : ∃ m, ks.length = m := ⟨_, rfl⟩
 have hm' : ks'.length = m := by omega
 have e1 : (cN ⟨k, t, vk, vn, vs, f, ks, p⟩ ax cx).toArray = #[.int .i64 (k : Int), .string (bA t), .int .i64 (vk : Int), .int .i64 (vn : Int), .string (bA vs), .slice none 0 0, .slice none 0 0, .bool f, .slice ax m cx, .int .i64 (p : Int)] := by rw [← hm]; rfl
 have e2 : (cN ⟨k, t, vk, vn, vs, f, ks', q⟩ ay cy).toArray = #[.int .i64 (k : Int), .string (bA t), .int .i64 (vk : Int), .int .i64 (vn : Int), .string (bA vs), .slice none 0 0, .slice none 0 0, .bool f, .slice ay m cy, .int .i64 (q : Int)] := by rw [← hm']; rfl
 rw [e1, e2]
 clear e1 e2
 have hmm : m ≤ 9223372036854775807 := by have hm9 := nd_len hx; rw [← hm]; unfold maxLen at hm9; simpa using hm9
 have TW := TwoB.mk' w 29 #[.int .i64 (k : Int), .string (bA t), .int .i64 (vk : Int), .int .i64 (vn : Int), .string (bA vs), .slice none 0 0, .slice none 0 0, .bool f, .slice ax m cx, .int .i64 (p : Int)] #[.int .i64 (k : Int), .string (bA t), .int .i64 (vk : Int), .int .i64 (vn : Int), .string (bA vs), .slice none 0 0, .slice none 0 0, .bool f, .slice ay m cy, .int .i64 (q : Int)]
 obtain ⟨w2, hw2⟩ : ∃ w2, (w.alloc (.cells #[.int .i64 (k : Int), .string (bA t), .int .i64 (vk : Int), .int .i64 (vn : Int), .string (bA vs), .slice none 0 0, .slice none 0 0, .bool f, .slice ax m cx, .int .i64 (p : Int)] 29)).alloc (.cells #[.int .i64 (k : Int), .string (bA t), .int .i64 (vk : Int), .int .i64 (vn : Int), .string (bA vs), .slice none 0 0, .slice none 0 0, .bool f, .slice ay m cy, .int .i64 (q : Int)] 29) = w2 := ⟨_, rfl⟩
 rw [hw2] at TW
 obtain ⟨g, hg⟩ : ∃ g, w.heap.size = g := ⟨_, rfl⟩
 rw [hg] at TW
 have HT := hide TW
 have HB : Hid (Below w.heap.size w w2) := hide TW.below
 have HV : Hid (∀ u, Below w2.heap.size w2 u → NdS u [⟨k, t, vk, vn, vs, f, ks, p⟩] (cN ⟨k, t, vk, vn, vs, f, ks, p⟩ ax cx) Sx ∧ NdS u [⟨k, t, vk, vn, vs, f, ks', q⟩] (cN ⟨k, t, vk, vn, vs, f, ks', q⟩ ay cy) Sy) := hide (fun u hu => by
  have h1 : Below w.heap.size w u := TW.below.trans (hu.mono (by have := TW.below.size; omega))
  exact ⟨hx.later h1, hy.later h1⟩)
 obtain ⟨c0, c1, c2, c3, c4, c5, c6, c7, c8, c9⟩ := row_cell10 TW.at0
 obtain ⟨d0, d1, d2, d3, d4, d5, d6, d7, d8, d9⟩ := row_cell10 TW.at1
 have CV := hide (sameV_any (vk : Int) (vn : Int) (bA vs) w2)
 have hs1 : (!((bA t).toList == (bA t).toList)) = false := by simp
 have HW := hide hw2
 have HL := hide (And.intro hm (And.intro hm' (And.intro hb he)))
 clear TW hx hy hm hm' hb he hl hw2
 go_enter Tryz.func10, Tryz.ntmps10
 go_upto_region 1 with fail
 rw [unhide HW]
 clear HW
 go_wp2_with fail
 refine (unhide CV).mono ?_
 rintro e u3 ⟨rfl, b3⟩
 have H3 := hide b3
 obtain ⟨r0, r1⟩ := (unhide HT).later b3
 clear c0 c1 c2 c3 c4 c5 c6 c7 c8 c9 d0 d1 d2 d3 d4 d5 d6 d7 d8 d9 b3 CV
 obtain ⟨c0, c1, c2, c3, c4, c5, c6, c7, c8, c9⟩ := row_cell10 r0
 obtain ⟨d0, d1, d2, d3, d4, d5, d6, d7, d8, d9⟩ := row_cell10 r1
 clear r0 r1
 go_wp2_with fail
 clear c0 c1 c2 c3 c4 c5 c6 c7 c8 c9 d0 d1 d2 d3 d4 d5 d6 d7 d8 d9 hs1
 go_loopw [8] (fun x wr => ∃ i : Nat, i ≤ m ∧ x = .int .i64 (i : Int) ∧ Hid (Below w2.heap.size w2 wr)) (fun x _ => m - (intOf x).toNat)
 case atStart => exact ⟨0, Nat.zero_le _, rfl, H3⟩
 case round =>
  clear H3
  obtain ⟨i, hi, rfl, HX⟩ := hrel
  obtain ⟨wq, hwq⟩ : ∃ wq, wq = wr := ⟨_, rfl⟩
  subst hwq
  obtain ⟨r0, r1⟩ := (unhide HT).later (unhide HX)
  obtain ⟨_, _, _, _, _, _, _, _, c8, _⟩ := row_cell10 r0
  obtain ⟨_, _, _, _, _, _, _, _, d8, _⟩ := row_cell10 r1
  clear r0 r1
  by_cases hlt : i < m
  ·have i2 : (i : Int) < (m : Int) := by omega
   obtain ⟨v1, v2⟩ := unhide HV wq (unhide HX)
   obtain ⟨h1, h2, h3, h4⟩ := unhide HL
   obtain ⟨a, ha⟩ : ∃ a, ks[i]? = some a := ⟨_, List.getElem?_eq_getElem (by omega)⟩
   obtain ⟨b', hb'⟩ : ∃ b, ks'[i]? = some b := ⟨_, List.getElem?_eq_getElem (by omega)⟩
   obtain ⟨bx, ua, uc, US, rfl, hbx, hn1, hn2, s1, cu, _⟩ := nd_kid v1 i a ha
   obtain ⟨bz, va, vc, VS, rfl, hbz, hn3, hn4, s2, cv, _⟩ := nd_kid v2 i b' hb'
   have hen := h4 i a b' ha hb'
   have hsz := szL_at ks i a ha
   have CR : Hid (∀ u, Below wq.heap.size wq u → Calls Tryz.prog 10 #[.agg (cN a ua uc).toArray, .agg (cN b' va vc).toArray, .bool false] u fun e w' => e = .returned (.bool true) ∧ Below u.heap.size u w') := hide (fun u hu => ih a b' false ua va uc vc US VS u (by omega) (s1.later hu) (s2.later hu) hen)
   obtain ⟨uk, ut, uvk, uvn, uvs, uf, uks, up⟩ := a
   obtain ⟨vvk, vt, vvk2, vvn, vvs, vf, vks, vp⟩ := b'
   obtain ⟨un, hun⟩ : ∃ n, uks.length = n := ⟨_, rfl⟩
   obtain ⟨vn2, hvn⟩ : ∃ n, vks.length = n := ⟨_, rfl⟩
   simp only [cN, ndC, hun, hvn] at cu cv CR
   obtain ⟨o, ho⟩ : ∃ o, i * 10 = o := ⟨_, rfl⟩
   have r1 := add_row bx (i * 10)
   have r2 := add_row bz (i * 10)
   rw [ho] at r1 r2 cu cv
   have x0 : wq.cell? ⟨bx, o, none⟩ = some (.int .i64 (uk : Int)) := cu 0 _ rfl
   have x1 := cu 1 _ rfl
   have x2 := cu 2 _ rfl
   have x3 := cu 3 _ rfl
   have x4 := cu 4 _ rfl
   have x5 := cu 5 _ rfl
   have x6 := cu 6 _ rfl
   have x7 := cu 7 _ rfl
   have x8 := cu 8 _ rfl
   have x9 := cu 9 _ rfl
   have y0 : wq.cell? ⟨bz, o, none⟩ = some (.int .i64 (vvk : Int)) := cv 0 _ rfl
   have y1 := cv 1 _ rfl
   have y2 := cv 2 _ rfl
   have y3 := cv 3 _ rfl
   have y4 := cv 4 _ rfl
   have y5 := cv 5 _ rfl
   have y6 := cv 6 _ rfl
   have y7 := cv 7 _ rfl
   have y8 := cv 8 _ rfl
   have y9 := cv 9 _ rfl
   have CR1 := hide ((unhide CR) wq.drew (Below.refl _ _).drew)
   have HI := hide hlt
   clear cu cv CR s1 s2 hen hsz h1 h2 h3 h4 v1 v2 ha hb' hun hvn hlt
   go_upto_region 7 with fail
   go_cut [9] from 64 to 77 (fun r wx => r = .bool true ∧ Hid (Below w2.heap.size w2 wx))
   case first =>
    go_region_held3 (fun w' => w'.cell? ⟨g, 8, none⟩ = some (.slice (some ⟨bx, 0, none⟩) m cx) ∧ w'.cell? ⟨g + 1, 8, none⟩ = some (.slice (some ⟨bz, 0, none⟩) m cy) ∧ w'.cell? ⟨bx, o, none⟩ = some (.int .i64 (uk : Int)) ∧ w'.cell? ⟨bx, o + 1, none⟩ = some (.string (bA ut)) ∧ w'.cell? ⟨bx, o + 2, none⟩ = some (.int .i64 (uvk : Int)) ∧ w'.cell? ⟨bx, o + 3, none⟩ = some (.int .i64 (uvn : Int)) ∧ w'.cell? ⟨bx, o + 4, none⟩ = some (.string (bA uvs)) ∧ w'.cell? ⟨bx, o + 5, none⟩ = some (.slice none 0 0) ∧ w'.cell? ⟨bx, o + 6, none⟩ = some (.slice none 0 0) ∧ w'.cell? ⟨bx, o + 7, none⟩ = some (.bool uf) ∧ w'.cell? ⟨bx, o + 8, none⟩ = some (.slice ua un uc) ∧ w'.cell? ⟨bx, o + 9, none⟩ = some (.int .i64 (up : Int)) ∧ w'.cell? ⟨bz, o, none⟩ = some (.int .i64 (vvk : Int)) ∧ w'.cell? ⟨bz, o + 1, none⟩ = some (.string (bA vt)) ∧ w'.cell? ⟨bz, o + 2, none⟩ = some (.int .i64 (vvk2 : Int)) ∧ w'.cell? ⟨bz, o + 3, none⟩ = some (.int .i64 (vvn : Int)) ∧ w'.cell? ⟨bz, o + 4, none⟩ = some (.string (bA vvs)) ∧ w'.cell? ⟨bz, o + 5, none⟩ = some (.slice none 0 0) ∧ w'.cell? ⟨bz, o + 6, none⟩ = some (.slice none 0 0) ∧ w'.cell? ⟨bz, o + 7, none⟩ = some (.bool vf) ∧ w'.cell? ⟨bz, o + 8, none⟩ = some (.slice va vn2 vc) ∧ w'.cell? ⟨bz, o + 9, none⟩ = some (.int .i64 (vp : Int)))
     (first | go_keep | (have hb6 := below_drew_of' b5; exact ⟨cell_latr hb6 c8, cell_latr hb6 d8, cell_latr hb6 x0, cell_latr hb6 x1, cell_latr hb6 x2, cell_latr hb6 x3, cell_latr hb6 x4, cell_latr hb6 x5, cell_latr hb6 x6, cell_latr hb6 x7, cell_latr hb6 x8, cell_latr hb6 x9, cell_latr hb6 y0, cell_latr hb6 y1, cell_latr hb6 y2, cell_latr hb6 y3, cell_latr hb6 y4, cell_latr hb6 y5, cell_latr hb6 y6, cell_latr hb6 y7, cell_latr hb6 y8, cell_latr hb6 y9⟩))
     (first | (go_at_call 10; refine (unhide CR1).mono ?_; rintro e w5 ⟨rfl, b5⟩))
    have HX5 : Hid (Below w2.heap.size w2 w5) := hide ((unhide HX).trans ((below_drew_of' b5).mono (unhide HX).size))
    clear b5 CR1
    go_wp2_with fail
    go_meet
    exact ⟨rfl, HX5⟩
   case rest =>
    obtain ⟨rfl, HX5⟩ := hcut
    clear x0 x1 x2 x3 x4 x5 x6 x7 x8 x9 y0 y1 y2 y3 y4 y5 y6 y7 y8 y9 c8 d8 CR1 HX
    go_wp2_with fail
    go_roundw
    case rel => exact ⟨i + 1, unhide HI, by go_num, HX5⟩
    case measure => have := unhide HI; simp [intOf]; omega
  ·have i2 : ¬ (i : Int) < (m : Int) := by omega
   go_wp2_with fail
   go_ret
   exact ⟨rfl, by first | exact (unhide HB).trans ((unhide HX).mono (by have := (unhide HT).size; omega)) | (rw [← hg]; exact (unhide HB).trans ((unhide HX).mono (by have := (unhide HT).size; omega)))⟩
set_option maxRecDepth 100000 in
set_option maxHeartbeats 4000000 in
theorem same_true (b : Nat) (ih : SameAt b) (k : Nat) (t : List UInt8) (vk vn : Nat) (vs : List UInt8) (f : Bool) (ks ks' : List Nd) (p q : Nat) (hpq : p = q) (ax ay : Option Addr) (cx cy : Nat) (Sx Sy : List Nat) (w : World) (hb : szL ks ≤ b) (hx : NdS w [⟨k, t, vk, vn, vs, f, ks, p⟩] (cN ⟨k, t, vk, vn, vs, f, ks, p⟩ ax cx) Sx) (hy : NdS w [⟨k, t, vk, vn, vs, f, ks', q⟩] (cN ⟨k, t, vk, vn, vs, f, ks', q⟩ ay cy) Sy)
  (hl : ks.length = ks'.length) (he : ∀ (i : Nat) (a b : Nd), ks[i]? = some a → ks'[i]? = some b → eqN true a b) :
  Calls Tryz.prog 10 #[.agg (cN ⟨k, t, vk, vn, vs, f, ks, p⟩ ax cx).toArray, .agg (cN ⟨k, t, vk, vn, vs, f, ks', q⟩ ay cy).toArray, .bool true] w fun e w' => e = .returned (.bool true) ∧ Below w.heap.size w w' := by
 subst hpq
 obtain ⟨m, hm⟩ : ∃ m, ks.length = m := ⟨_, rfl⟩
 have hm' : ks'.length = m := by omega
 have e1 : (cN ⟨k, t, vk, vn, vs, f, ks, p⟩ ax cx).toArray = #[.int .i64 (k : Int), .string (bA t), .int .i64 (vk : Int), .int .i64 (vn : Int), .string (bA vs), .slice none 0 0, .slice none 0 0, .bool f, .slice ax m cx, .int .i64 (p : Int)] := by rw [← hm]; rfl
 have e2 : (cN ⟨k, t, vk, vn, vs, f, ks', p⟩ ay cy).toArray = #[.int .i64 (k : Int), .string (bA t), .int .i64 (vk : Int), .int .i64 (vn : Int), .string (bA vs), .slice none 0 0, .slice none 0 0, .bool f, .slice ay m cy, .int .i64 (p : Int)] := by rw [← hm']; rfl
 rw [e1, e2]
 clear e1 e2
 have hmm : m ≤ 9223372036854775807 := by have hm9 := nd_len hx; rw [← hm]; unfold maxLen at hm9; simpa using hm9
 have TW := TwoB.mk' w 29 #[.int .i64 (k : Int), .string (bA t), .int .i64 (vk : Int), .int .i64 (vn : Int), .string (bA vs), .slice none 0 0, .slice none 0 0, .bool f, .slice ax m cx, .int .i64 (p : Int)] #[.int .i64 (k : Int), .string (bA t), .int .i64 (vk : Int), .int .i64 (vn : Int), .string (bA vs), .slice none 0 0, .slice none 0 0, .bool f, .slice ay m cy, .int .i64 (p : Int)]
 obtain ⟨w2, hw2⟩ : ∃ w2, (w.alloc (.cells #[.int .i64 (k : Int), .string (bA t), .int .i64 (vk : Int), .int .i64 (vn : Int), .string (bA vs), .slice none 0 0, .slice none 0 0, .bool f, .slice ax m cx, .int .i64 (p : Int)] 29)).alloc (.cells #[.int .i64 (k : Int), .string (bA t), .int .i64 (vk : Int), .int .i64 (vn : Int), .string (bA vs), .slice none 0 0, .slice none 0 0, .bool f, .slice ay m cy, .int .i64 (p : Int)] 29) = w2 := ⟨_, rfl⟩
 rw [hw2] at TW
 obtain ⟨g, hg⟩ : ∃ g, w.heap.size = g := ⟨_, rfl⟩
 rw [hg] at TW
 have HT := hide TW
 have HB : Hid (Below w.heap.size w w2) := hide TW.below
 have HV : Hid (∀ u, Below w2.heap.size w2 u → NdS u [⟨k, t, vk, vn, vs, f, ks, p⟩] (cN ⟨k, t, vk, vn, vs, f, ks, p⟩ ax cx) Sx ∧ NdS u [⟨k, t, vk, vn, vs, f, ks', p⟩] (cN ⟨k, t, vk, vn, vs, f, ks', p⟩ ay cy) Sy) := hide (fun u hu => by
  have h1 : Below w.heap.size w u := TW.below.trans (hu.mono (by have := TW.below.size; omega))
  exact ⟨hx.later h1, hy.later h1⟩)
 obtain ⟨c0, c1, c2, c3, c4, c5, c6, c7, c8, c9⟩ := row_cell10 TW.at0
 obtain ⟨d0, d1, d2, d3, d4, d5, d6, d7, d8, d9⟩ := row_cell10 TW.at1
 have CV := hide (sameV_any (vk : Int) (vn : Int) (bA vs) w2)
 have hs1 : (!((bA t).toList == (bA t).toList)) = false := by simp
 have HW := hide hw2
 have HL := hide (And.intro hm (And.intro hm' (And.intro hb he)))
 clear TW hx hy hm hm' hb he hl hw2
 go_enter Tryz.func10, Tryz.ntmps10
 go_upto_region 1 with fail
 rw [unhide HW]
 clear HW
 go_wp2_with fail
 refine (unhide CV).mono ?_
 rintro e u3 ⟨rfl, b3⟩
 have H3 := hide b3
 obtain ⟨r0, r1⟩ := (unhide HT).later b3
 clear c0 c1 c2 c3 c4 c5 c6 c7 c8 c9 d0 d1 d2 d3 d4 d5 d6 d7 d8 d9 b3 CV
 obtain ⟨c0, c1, c2, c3, c4, c5, c6, c7, c8, c9⟩ := row_cell10 r0
 obtain ⟨d0, d1, d2, d3, d4, d5, d6, d7, d8, d9⟩ := row_cell10 r1
 clear r0 r1
 go_wp2_with fail
 clear c0 c1 c2 c3 c4 c5 c6 c7 c8 c9 d0 d1 d2 d3 d4 d5 d6 d7 d8 d9 hs1
 go_loopw [8] (fun x wr => ∃ i : Nat, i ≤ m ∧ x = .int .i64 (i : Int) ∧ Hid (Below w2.heap.size w2 wr)) (fun x _ => m - (intOf x).toNat)
 case atStart => exact ⟨0, Nat.zero_le _, rfl, H3⟩
 case round =>
  clear H3
  obtain ⟨i, hi, rfl, HX⟩ := hrel
  obtain ⟨wq, hwq⟩ : ∃ wq, wq = wr := ⟨_, rfl⟩
  subst hwq
  obtain ⟨r0, r1⟩ := (unhide HT).later (unhide HX)
  obtain ⟨_, _, _, _, _, _, _, _, c8, _⟩ := row_cell10 r0
  obtain ⟨_, _, _, _, _, _, _, _, d8, _⟩ := row_cell10 r1
  clear r0 r1
  by_cases hlt : i < m
  ·have i2 : (i : Int) < (m : Int) := by omega
   obtain ⟨v1, v2⟩ := unhide HV wq (unhide HX)
   obtain ⟨h1, h2, h3, h4⟩ := unhide HL
   obtain ⟨a, ha⟩ : ∃ a, ks[i]? = some a := ⟨_, List.getElem?_eq_getElem (by omega)⟩
   obtain ⟨b', hb'⟩ : ∃ b, ks'[i]? = some b := ⟨_, List.getElem?_eq_getElem (by omega)⟩
   obtain ⟨bx, ua, uc, US, rfl, hbx, hn1, hn2, s1, cu, _⟩ := nd_kid v1 i a ha
   obtain ⟨bz, va, vc, VS, rfl, hbz, hn3, hn4, s2, cv, _⟩ := nd_kid v2 i b' hb'
   have hen := h4 i a b' ha hb'
   have hsz := szL_at ks i a ha
   have CR : Hid (∀ u, Below wq.heap.size wq u → Calls Tryz.prog 10 #[.agg (cN a ua uc).toArray, .agg (cN b' va vc).toArray, .bool true] u fun e w' => e = .returned (.bool true) ∧ Below u.heap.size u w') := hide (fun u hu => ih a b' true ua va uc vc US VS u (by omega) (s1.later hu) (s2.later hu) hen)
   obtain ⟨uk, ut, uvk, uvn, uvs, uf, uks, up⟩ := a
   obtain ⟨vvk, vt, vvk2, vvn, vvs, vf, vks, vp⟩ := b'
   obtain ⟨un, hun⟩ : ∃ n, uks.length = n := ⟨_, rfl⟩
   obtain ⟨vn2, hvn⟩ : ∃ n, vks.length = n := ⟨_, rfl⟩
   simp only [cN, ndC, hun, hvn] at cu cv CR
   obtain ⟨o, ho⟩ : ∃ o, i * 10 = o := ⟨_, rfl⟩
   have r1 := add_row bx (i * 10)
   have r2 := add_row bz (i * 10)
   rw [ho] at r1 r2 cu cv
   have x0 : wq.cell? ⟨bx, o, none⟩ = some (.int .i64 (uk : Int)) := cu 0 _ rfl
   have x1 := cu 1 _ rfl
   have x2 := cu 2 _ rfl
   have x3 := cu 3 _ rfl
   have x4 := cu 4 _ rfl
   have x5 := cu 5 _ rfl
   have x6 := cu 6 _ rfl
   have x7 := cu 7 _ rfl
   have x8 := cu 8 _ rfl
   have x9 := cu 9 _ rfl
   have y0 : wq.cell? ⟨bz, o, none⟩ = some (.int .i64 (vvk : Int)) := cv 0 _ rfl
   have y1 := cv 1 _ rfl
   have y2 := cv 2 _ rfl
   have y3 := cv 3 _ rfl
   have y4 := cv 4 _ rfl
   have y5 := cv 5 _ rfl
   have y6 := cv 6 _ rfl
   have y7 := cv 7 _ rfl
   have y8 := cv 8 _ rfl
   have y9 := cv 9 _ rfl
   have CR1 := hide ((unhide CR) wq.drew (Below.refl _ _).drew)
   have HI := hide hlt
   clear cu cv CR s1 s2 hen hsz h1 h2 h3 h4 v1 v2 ha hb' hun hvn hlt
   go_upto_region 7 with fail
   go_cut [9] from 64 to 77 (fun r wx => r = .bool true ∧ Hid (Below w2.heap.size w2 wx))
   case first =>
    go_region_held3 (fun w' => w'.cell? ⟨g, 8, none⟩ = some (.slice (some ⟨bx, 0, none⟩) m cx) ∧ w'.cell? ⟨g + 1, 8, none⟩ = some (.slice (some ⟨bz, 0, none⟩) m cy) ∧ w'.cell? ⟨bx, o, none⟩ = some (.int .i64 (uk : Int)) ∧ w'.cell? ⟨bx, o + 1, none⟩ = some (.string (bA ut)) ∧ w'.cell? ⟨bx, o + 2, none⟩ = some (.int .i64 (uvk : Int)) ∧ w'.cell? ⟨bx, o + 3, none⟩ = some (.int .i64 (uvn : Int)) ∧ w'.cell? ⟨bx, o + 4, none⟩ = some (.string (bA uvs)) ∧ w'.cell? ⟨bx, o + 5, none⟩ = some (.slice none 0 0) ∧ w'.cell? ⟨bx, o + 6, none⟩ = some (.slice none 0 0) ∧ w'.cell? ⟨bx, o + 7, none⟩ = some (.bool uf) ∧ w'.cell? ⟨bx, o + 8, none⟩ = some (.slice ua un uc) ∧ w'.cell? ⟨bx, o + 9, none⟩ = some (.int .i64 (up : Int)) ∧ w'.cell? ⟨bz, o, none⟩ = some (.int .i64 (vvk : Int)) ∧ w'.cell? ⟨bz, o + 1, none⟩ = some (.string (bA vt)) ∧ w'.cell? ⟨bz, o + 2, none⟩ = some (.int .i64 (vvk2 : Int)) ∧ w'.cell? ⟨bz, o + 3, none⟩ = some (.int .i64 (vvn : Int)) ∧ w'.cell? ⟨bz, o + 4, none⟩ = some (.string (bA vvs)) ∧ w'.cell? ⟨bz, o + 5, none⟩ = some (.slice none 0 0) ∧ w'.cell? ⟨bz, o + 6, none⟩ = some (.slice none 0 0) ∧ w'.cell? ⟨bz, o + 7, none⟩ = some (.bool vf) ∧ w'.cell? ⟨bz, o + 8, none⟩ = some (.slice va vn2 vc) ∧ w'.cell? ⟨bz, o + 9, none⟩ = some (.int .i64 (vp : Int)))
     (first | go_keep | (have hb6 := below_drew_of' b5; exact ⟨cell_latr hb6 c8, cell_latr hb6 d8, cell_latr hb6 x0, cell_latr hb6 x1, cell_latr hb6 x2, cell_latr hb6 x3, cell_latr hb6 x4, cell_latr hb6 x5, cell_latr hb6 x6, cell_latr hb6 x7, cell_latr hb6 x8, cell_latr hb6 x9, cell_latr hb6 y0, cell_latr hb6 y1, cell_latr hb6 y2, cell_latr hb6 y3, cell_latr hb6 y4, cell_latr hb6 y5, cell_latr hb6 y6, cell_latr hb6 y7, cell_latr hb6 y8, cell_latr hb6 y9⟩))
     (first | (go_at_call 10; refine (unhide CR1).mono ?_; rintro e w5 ⟨rfl, b5⟩))
    have HX5 : Hid (Below w2.heap.size w2 w5) := hide ((unhide HX).trans ((below_drew_of' b5).mono (unhide HX).size))
    clear b5 CR1
    go_wp2_with fail
    go_meet
    exact ⟨rfl, HX5⟩
   case rest =>
    obtain ⟨rfl, HX5⟩ := hcut
    clear x0 x1 x2 x3 x4 x5 x6 x7 x8 x9 y0 y1 y2 y3 y4 y5 y6 y7 y8 y9 c8 d8 CR1 HX
    go_wp2_with fail
    go_roundw
    case rel => exact ⟨i + 1, unhide HI, by go_num, HX5⟩
    case measure => have := unhide HI; simp [intOf]; omega
  ·have i2 : ¬ (i : Int) < (m : Int) := by omega
   go_wp2_with fail
   go_ret
   exact ⟨rfl, by first | exact (unhide HB).trans ((unhide HX).mono (by have := (unhide HT).size; omega)) | (rw [← hg]; exact (unhide HB).trans ((unhide HX).mono (by have := (unhide HT).size; omega)))⟩
theorem same_any : ∀ m, SameAt m
 |0 => same_zero
 |b + 1 => by
  intro x y pl ax ay cx cy Sx Sy w hsz hx hy he
  obtain ⟨k, t, vk, vn, vs, f, ks, p⟩ := x
  obtain ⟨k', t', vk', vn', vs', f', ks', p'⟩ := y
  have h1 := he.1
  simp only [npL, List.cons.injEq, Nd.mk.injEq, and_true] at h1
  obtain ⟨rfl, rfl, rfl, rfl, rfl, rfl, h1⟩ := h1
  simp only [szL] at hsz
  cases pl with
  |false => exact same_false b (same_any b) k t vk vn vs f ks ks' p p' ax ay cx cy Sx Sy w (by omega) hx hy (npL_len _ _ h1) (fun i a b ha hb => eqN_kid he i a b ha hb)
  |true =>
   have h2 := he.2 rfl
   injection h2 with _ _ _ _ _ _ _ h3
   exact same_true b (same_any b) k t vk vn vs f ks ks' p p' h3 ax ay cx cy Sx Sy w (by omega) hx hy (npL_len _ _ h1) (fun i a b ha hb => eqN_kid he i a b ha hb)
end Go.Proofs.YtgalfhlclmkbfaaGreatDoor
