/-
  Layer 12, the walk of VerifyModules; conditions: the package's variables, the form's own reach.
  How a module among the arguments is opened; no conditions.
  How a row of modules among the arguments is opened; no conditions.
-/
import Derived.Test.YtcknoeepdjhnoaaGreatDoorC20
import Derived.Test.YtcknoeepdjhnoaaGreatDoorC47
import Derived.Test.YtcknoeepdjhnoaaGreatDoorC48
import Derived.Test.YtcknoeepdjhnoaaGreatDoorC49
import Derived.Test.YtcknoeepdjhnoaaGreatDoorC51
import Derived.Deep.RegionHeld3
import Derived.Test.YtcknoeepdjhnoaaGreatDoorC19
set_option linter.unusedVariables false
set_option linter.unusedSimpArgs false
namespace Go.Proofs.YtcknoeepdjhnoaaGreatDoor
open Go.RowKit
set_option linter.unusedVariables false
set_option linter.unusedSimpArgs false

set_option maxRecDepth 100000 in
set_option maxHeartbeats 8000000 in
theorem modules_any (ms : List Md) (al : Option Addr) (n cl : Nat) (w : World) (hI : MsI w w.heap.size ms al) (hT : Tab2 w) (hn : ms.length = n) (hnb : n ≤ 140737488351232) :
    Calls Tryz.prog 3 #[.slice al n cl] w fun e w' => e = .returned (.bool true) ∧ Below w.heap.size w w' := by
  have hbig := hT.big
  have HI := hide (And.intro hI (And.intro hT hn))
  clear hI hT hn
  go_enter Tryz.func3, Tryz.ntmps3
  go_wp2_with fail
  go_loopw [3] (fun v wr => ∃ i : Nat, v = .int .i64 (i : Int) ∧ Hid (i ≤ n) ∧ Hid (Below w.heap.size w wr)) (fun v _ => n - (intOf v).toNat)
  case atStart => exact ⟨0, rfl, hide (Nat.zero_le _), hide (Below.refl _ _)⟩
  case round =>
    obtain ⟨i, rfl, Hi, HX⟩ := hrel
    by_cases hlt : i < n
    · have j1 : (i : Int) < (n : Int) := by omega
      have j0 : (0 : Int) ≤ (i : Int) := by omega
      obtain ⟨m, hm⟩ : ∃ m, ms[i]? = some m := ⟨_, List.getElem?_eq_getElem (by have := (unhide HI).2.2; omega)⟩
      obtain ⟨a, a1, c1, a2, c2, a3, c3, rfl, hab, x0, x1, x2, hM, z1, z2, z3⟩ := ((unhide HI).1.later (unhide HX)) i m hm
      obtain ⟨n1, hn1⟩ : ∃ n1, m.cs.length = n1 := ⟨_, rfl⟩
      obtain ⟨n2, hn2⟩ : ∃ n2, m.fs.length = n2 := ⟨_, rfl⟩
      obtain ⟨n3, hn3⟩ : ∃ n3, m.xs.length = n3 := ⟨_, rfl⟩
      rw [hn1] at x0 z1
      rw [hn2] at x1 z2
      rw [hn3] at x2 z3
      have hsz : w.heap.size ≤ wr.heap.size := (unhide HX).size
      have CM := hide (moduleOf_any m a1 n1 c1 a2 n2 c2 a3 n3 c3 w.heap.size wr hM hsz hn1 hn2 hn3 z1 z2 z3)
      have HN := hide (And.intro hn1 (And.intro hn2 (And.intro hn3 (And.intro (show n1 ≤ 140737488351232 by omega) (And.intro (show n2 ≤ 140737488351232 by omega) (show n3 ≤ 140737488351232 by omega))))))
      have HMM := hide hM
      have HXS := hide (And.intro x0 (And.intro x1 x2))
      clear hM hn1 hn2 hn3 z1 z2 z3 hm
      go_wp2_with fail
      refine (unhide CM).mono ?_
      rintro e w3 ⟨e1, d1, e2, d2, e3, d3, rfl, hM3, b3⟩
      have HM3 := hide hM3
      have H3 := hide b3
      clear hM3 b3 CM x0 x1 x2
      go_upto_region 5 with fail
      obtain ⟨w4, hw4⟩ : ∃ w4, w3.alloc (.cells #[.slice e1 n1 d1, .slice e2 n2 d2, .slice e3 n3 d3] 27) = w4 := ⟨_, rfl⟩
      have A4 : w4.heap[w3.heap.size]? = some (.cells #[.slice e1 n1 d1, .slice e2 n2 d2, .slice e3 n3 d3] 27 (0, 0)) := by rw [← hw4]; exact heap_alloc_new _ _
      have B4 : Below w3.heap.size w3 w4 := by rw [← hw4]; exact (Below.refl _ _).alloc (Nat.le_refl _) _
      have Z4 : w4.heap.size = w3.heap.size + 1 := by rw [← hw4]; simp
      rw [hw4]
      obtain ⟨R, hR⟩ : ∃ R, w3.heap.size = R := ⟨_, rfl⟩
      rw [hR]
      have hXR : w.heap.size ≤ R := by have := (unhide H3).size; omega
      have H4 : Hid (Below wr.heap.size wr w4) := hide ((unhide H3).trans (B4.mono (unhide H3).size))
      have H4w : Hid (Below w.heap.size w w4) := hide ((unhide HX).trans ((unhide H4).mono (unhide HX).size))
      have KK : Hid (∀ u, Below w4.heap.size w4 u → IsM u (fun b => b < w4.heap.size) m e1 d1 e2 d2 e3 d3 ∧ IsM u (fun b => b < w4.heap.size) m a1 c1 a2 c2 a3 c3 ∧ Tab2 u ∧ w4.heap.size ≤ u.heap.size) := hide (fun u hu => by
        have hu3 : Below w3.heap.size w3 u := B4.trans (hu.mono B4.size)
        have huw : Below w.heap.size w u := (unhide H4w).trans (hu.mono (unhide H4w).size)
        have hur : Below wr.heap.size wr u := (unhide H4).trans (hu.mono (unhide H4).size)
        exact ⟨((unhide HM3).later hu3).weak (fun b hb => by omega), ((unhide HMM).later (hur.mono hsz)).weak (fun b hb => by have := (unhide H4).size; omega), (unhide HI).2.1.below huw, hu.size⟩)
      obtain ⟨⟨fa, fb, fc⟩, hfl⟩ : ∃ fl, modF m = fl := ⟨_, rfl⟩
      have C1 : Hid (∀ u, Below w4.heap.size w4 u → Calls Tryz.prog 6 #[.agg #[.slice e1 n1 d1, .slice e2 n2 d2, .slice e3 n3 d3]] u fun e w' => e = .returned (.agg #[.int .i64 fa, .int .i64 fb, .int .i64 fc]) ∧ Below u.heap.size u w') := hide (fun u hu => by
        obtain ⟨k1, k2, k3, k4⟩ := unhide KK u hu
        have := module_any m e1 n1 d1 e2 n2 d2 e3 n3 d3 w4.heap.size u k1 k4 (by omega) k3 (unhide HN).1 (unhide HN).2.1 (unhide HN).2.2.1
        rw [hfl] at this
        exact this)
      have C2 : Hid (∀ u, Below w4.heap.size w4 u → Calls Tryz.prog 7 #[.agg #[.slice a1 n1 c1, .slice a2 n2 c2, .slice a3 n3 c3]] u fun e w' => e = .returned (.agg #[.int .i64 fa, .int .i64 fb, .int .i64 fc]) ∧ Below u.heap.size u w') := hide (fun u hu => by
        obtain ⟨k1, k2, k3, k4⟩ := unhide KK u hu
        have := moduleK_any m a1 n1 c1 a2 n2 c2 a3 n3 c3 w4.heap.size u k2 k4 (unhide HN).1 (unhide HN).2.1 (unhide HN).2.2.1
        rw [hfl] at this
        exact this)
      have C3 : Hid (∀ u, Below w4.heap.size w4 u → Calls Tryz.prog 8 #[.agg #[.slice e1 n1 d1, .slice e2 n2 d2, .slice e3 n3 d3], .agg #[.slice a1 n1 c1, .slice a2 n2 c2, .slice a3 n3 c3]] u fun e w' => e = .returned (.bool true) ∧ Below u.heap.size u w') := hide (fun u hu => by
        obtain ⟨k1, k2, k3, k4⟩ := unhide KK u hu
        exact sameM_any m e1 n1 d1 e2 n2 d2 e3 n3 d3 a1 c1 a2 c2 a3 c3 w4.heap.size u k1 k2 k4 (unhide HN).1 (unhide HN).2.1 (unhide HN).2.2.1 (unhide HN).2.2.2.1 (unhide HN).2.2.2.2.1 (unhide HN).2.2.2.2.2)
      have HS : Hid (∀ u, Below w4.heap.size w4 u → u.cell? ⟨R, 0, none⟩ = some (.slice e1 n1 d1) ∧ u.cell? ⟨R, 1, none⟩ = some (.slice e2 n2 d2) ∧ u.cell? ⟨R, 2, none⟩ = some (.slice e3 n3 d3) ∧ u.cell? (a.add (i * 3)) = some (.slice a1 n1 c1) ∧ u.cell? ⟨(a.add (i * 3)).block, (a.add (i * 3)).off + 1, none⟩ = some (.slice a2 n2 c2) ∧ u.cell? ⟨(a.add (i * 3)).block, (a.add (i * 3)).off + 2, none⟩ = some (.slice a3 n3 c3)) := hide (fun u hu => by
        have hur : Below wr.heap.size wr u := (unhide H4).trans (hu.mono (unhide H4).size)
        have hk := hur.block (a.add (i * 3)).block (by rw [block_add]; omega)
        have hA : u.heap[R]? = some (.cells #[.slice e1 n1 d1, .slice e2 n2 d2, .slice e3 n3 d3] 27 (0, 0)) := by
          rw [← hR]
          exact (hu.block _ (by omega)).trans A4
        obtain ⟨m0, m1, m2⟩ := row_cell3 hA
        obtain ⟨x0, x1, x2⟩ := unhide HXS
        exact ⟨m0, m1, m2, cell_of_block x0 hk, cell_of_block x1 hk, cell_of_block x2 hk⟩)
      obtain ⟨m0, m1, m2, x0, x1, x2⟩ := unhide HS w4 (Below.refl _ _)
      clear hw4 A4 B4 hfl KK Z4 HMM HM3 HXS
      go_cut [32] from 16 to 32 (fun r wx => r = .bool false ∧ Hid (Below w4.heap.size w4 wx))
      case first =>
        go_region_held3 (fun u => Below w4.heap.size w4 u ∧ u.cell? ⟨R, 0, none⟩ = some (.slice e1 n1 d1) ∧ u.cell? ⟨R, 1, none⟩ = some (.slice e2 n2 d2) ∧ u.cell? ⟨R, 2, none⟩ = some (.slice e3 n3 d3) ∧ u.cell? (a.add (i * 3)) = some (.slice a1 n1 c1) ∧ u.cell? ⟨(a.add (i * 3)).block, (a.add (i * 3)).off + 1, none⟩ = some (.slice a2 n2 c2) ∧ u.cell? ⟨(a.add (i * 3)).block, (a.add (i * 3)).off + 2, none⟩ = some (.slice a3 n3 c3))
          (first | assumption | exact ⟨(Below.refl _ _).drew, unhide HS _ (Below.refl _ _).drew⟩ | (refine keepB HS (And.left (by assumption)) (by assumption); done) | (refine keepB HS ?_ ?_ <;> assumption))
          (first | (go_at_call 6; refine ((unhide C1) _ (And.left (by assumption))).mono ?_; rintro e w5 ⟨rfl, b5⟩) | (go_at_call 7; refine ((unhide C2) _ (And.left (by assumption))).mono ?_; rintro e w5 ⟨rfl, b5⟩) | (go_at_call 8; refine ((unhide C3) _ (And.left (by assumption))).mono ?_; rintro e w5 ⟨rfl, b5⟩))
        have hbb5 : Below w4.heap.size w4 w5 := And.left (by assumption)
        have HX5 := hide hbb5
        clear b5 hbb5
        go_wp2_with fail
        go_meet
        exact ⟨rfl, HX5⟩
      case rest =>
        obtain ⟨rfl, HX5⟩ := hcut
        have HU6 : Hid (Below w.heap.size w wc) := hide ((unhide H4w).trans ((unhide HX5).mono (unhide H4w).size))
        go_wp2_with fail
        go_roundw
        case rel => exact ⟨i + 1, by go_num, hide (by omega), HU6⟩
        case measure => simp [intOf]; omega
    · have j1 : ¬ (i : Int) < (n : Int) := by omega
      have CS := hide (shown_any wr ((unhide HI).2.1.below (unhide HX)))
      go_wp2_with fail
      refine (unhide CS).mono ?_
      rintro e w5 ⟨rfl, b5⟩
      have H5 : Hid (Below w.heap.size w w5) := hide ((unhide HX).trans (b5.mono (unhide HX).size))
      clear b5
      go_wp2_with fail
      go_ret
      exact ⟨rfl, unhide H5⟩
end Go.Proofs.YtcknoeepdjhnoaaGreatDoor

namespace Go.Proofs.YtcknoeepdjhnoaaGreatDoor
open Go.ChangeShapes Go.WideShapes Go.ChangeAt Go.RowKit

theorem cells3m : Tryz.prog.cellsOf 27 = 3 := by kernel_rfl
theorem cells4f : Tryz.prog.cellsOf 50 = 4 := by kernel_rfl
theorem cells2x : Tryz.prog.cellsOf 52 = 2 := by kernel_rfl
theorem cells1f : Tryz.prog.cellsOf 24 = 1 := by kernel_rfl
theorem cells1x : Tryz.prog.cellsOf 25 = 1 := by kernel_rfl

section
variable {H : Type} {enc : TypeId × Value → H} {W : World}

set_option maxRecDepth 100000 in
theorem open_vals {fuel : Nat} {c3 : Value} {x : DataW H × List MemPlace} (h3 : DataW.trod enc Tryz.prog W 0 (fun _ => true) true fuel 23 [c3] = some x) (r3 : Go.Proofs.YtcknoeepdjhnoaaGreatDoor.Reach Tryz.prog 23 x.1) :
    ∃ (l : List Vl) (al : Option Addr) (cl : Nat), c3 = .slice al l.length cl ∧ IsC W (fun b => b < W.heap.size) l al cl ∧ 80 * l.length ≤ 140737488351232 := by
  rcases DataW.trod_slice Tryz.underlying23 h3 with ⟨hcs, _⟩ | ⟨a, len, cap, elems, rest, n', hn', hcs, hx3, _, hlc, hcm, hlen, hel, hsp, _⟩
  · simp only [List.cons.injEq, and_true] at hcs
    exact ⟨[], none, 0, hcs, IsP.of (V := fun _ => []) ⟨by omega, by omega, by decide, fun _ => ⟨rfl, rfl⟩, fun _ => ⟨rfl, rfl⟩, Nat.le_refl _, Nat.le_refl _, by simp, by simp, by simp, (fun a h => by cases h), (fun i h => by simp at h), (fun a h => by cases h), (fun t h => by cases h)⟩ (fun i y h => by simp at h), by simp⟩
  · simp only [List.cons.injEq, and_true] at hcs
    rw [hx3] at r3
    rw [cells5v] at hel
    have hall : ∀ i, i < len → ∃ p : List Value × Vl, p.1.length = 5 ∧ (a.block < W.heap.size ∧ ∀ j v, p.1[j]? = some v → W.cell? ((a.add (i * 5)).add j) = some v) ∧ IsV W W.heap.size p.2 (.agg p.1.toArray) := by
      intro i hi
      have he := hel i hi
      rw [List.getElem?_eq_getElem (by omega)] at he
      obtain ⟨cs', hc1, hc2⟩ := Option.bind_eq_some_iff.1 he
      obtain ⟨_, hl5, hcell⟩ := World.cells?_some hc1
      obtain ⟨v, hv⟩ := open_value n' cs' _ hc2 (r3.elem Tryz.underlying23 (List.mem_map.2 ⟨_, List.getElem_mem _, rfl⟩))
      refine ⟨(cs', v), hl5, ⟨?_, fun j u hu => ?_⟩, hv⟩
      · have h0 := hcell 0 (by omega)
        have := World.block_lt_of_cell? W ((a.add (i * 5)).add 0) (by rw [h0, List.getElem?_eq_getElem (by omega)])
        rw [block_add, block_add] at this
        exact this
      · have hj : j < 5 := by
          have h5 : j < cs'.length := (List.getElem?_eq_some_iff.1 hu).1
          omega
        rw [hcell j hj]
        exact hu
    haveI : Inhabited (List Value × Vl) := ⟨([], .mk 0 0 ⟨#[]⟩ [] [])⟩
    obtain ⟨f, hf⟩ := Go.Deep.choose_lt hall
    have hl : ((List.range len).map (fun i => (f i).2)).length = len := by simp
    have hb := r3.slice Tryz.underlying23
    rw [show Tryz.prog.bytesOf 42 = 80 by kernel_rfl] at hb
    have hs := (hsp rfl).1
    unfold reachBytes at hb
    simp at hb
    refine ⟨(List.range len).map (fun i => (f i).2), some a, cap, by rw [hl]; exact hcs, IsP.of (V := fun i => (f i).1) ⟨by omega, by omega, by decide, (fun e => by cases e), fun _ => ⟨rfl, rfl⟩, by rw [hl]; exact hlc, Nat.le_refl _, by rw [hl]; omega, by simp, by simp, ?_, ?_, (fun a h => by cases h), (fun t h => by cases h)⟩ ?_, by rw [hl]; omega⟩
    · intro b hb i hi
      cases hb
      exact (hf i (by simpa using hi)).2.1
    · intro i hi
      exact (hf i (by simpa using hi)).1
    · intro i x hx
      have hi : i < len := by
        have := (List.getElem?_eq_some_iff.1 hx).1
        simpa using this
      rw [List.getElem?_map, List.getElem?_range hi] at hx
      simp only [Option.map_some, Option.some.injEq] at hx
      subst hx
      exact (hf i hi).2.2

set_option maxRecDepth 100000 in
theorem open_func {fuel : Nat} {cs : List Value} {x : DataW H × List MemPlace} (h : DataW.trod enc Tryz.prog W 0 (fun _ => true) true fuel 50 cs = some x) (hre : Go.Proofs.YtcknoeepdjhnoaaGreatDoor.Reach Tryz.prog 50 x.1) :
    ∃ f : Fn, cs = fnV f ∧ f.2.2.2.size ≤ 140737488351232 := by
  obtain ⟨xs, n, rfl, hx, hl, hlen, hf⟩ := DataW.trod_struct Tryz.underlying50 h
  rw [cells4f] at hl
  have hlen' : xs.length = 4 := hlen
  match cs, hl, xs, hlen', hx, hf with
  | [c0, c1, c2, c3], _, [y0, y1, y2, y3], _, hx, hf =>
    have h0 : DataW.trod enc Tryz.prog W 0 (fun _ => true) true n 3 (([c0, c1, c2, c3].drop 0).take (Tryz.prog.cellsOf 3)) = some y0 := hf 0 _ rfl
    rw [cells1i] at h0
    have h1 : DataW.trod enc Tryz.prog W 0 (fun _ => true) true n 3 (([c0, c1, c2, c3].drop 1).take (Tryz.prog.cellsOf 3)) = some y1 := hf 1 _ rfl
    rw [cells1i] at h1
    have h2 : DataW.trod enc Tryz.prog W 0 (fun _ => true) true n 3 (([c0, c1, c2, c3].drop 2).take (Tryz.prog.cellsOf 3)) = some y2 := hf 2 _ rfl
    rw [cells1i] at h2
    have h3 : DataW.trod enc Tryz.prog W 0 (fun _ => true) true n 9 (([c0, c1, c2, c3].drop 3).take (Tryz.prog.cellsOf 9)) = some y3 := hf 3 _ rfl
    rw [cells1s] at h3
    have hx' : x.1 = .agg [y0.1, y1.1, y2.1, y3.1] := by rw [hx]; rfl
    rw [hx'] at hre
    obtain ⟨p, e0, _, _⟩ := DataW.trod_int Tryz.underlying3 h0
    obtain ⟨l, e1, _, _⟩ := DataW.trod_int Tryz.underlying3 h1
    obtain ⟨k, e2, _, _⟩ := DataW.trod_int Tryz.underlying3 h2
    obtain ⟨s, e3, hy3, _⟩ := DataW.trod_string Tryz.underlying9 h3
    simp only [List.drop_zero, List.drop_succ_cons, List.take_succ_cons, List.take_zero, List.cons.injEq, and_true] at e0 e1 e2 e3
    have r3 : s.size ≤ 140737488351232 := by
      have := hre.field (j := 3) (u := 9) (d := y3.1) Tryz.underlying50 rfl rfl
      rw [hy3] at this
      exact reach_size this
    exact ⟨(p, l, k, s), by rw [e0, e1, e2, e3]; rfl, r3⟩

set_option maxRecDepth 100000 in
theorem open_exp {fuel : Nat} {cs : List Value} {x : DataW H × List MemPlace} (h : DataW.trod enc Tryz.prog W 0 (fun _ => true) true fuel 52 cs = some x) (hre : Go.Proofs.YtcknoeepdjhnoaaGreatDoor.Reach Tryz.prog 52 x.1) :
    ∃ f : Ex, cs = exV f ∧ f.1.size ≤ 140737488351232 := by
  obtain ⟨xs, n, rfl, hx, hl, hlen, hf⟩ := DataW.trod_struct Tryz.underlying52 h
  rw [cells2x] at hl
  have hlen' : xs.length = 2 := hlen
  match cs, hl, xs, hlen', hx, hf with
  | [c0, c1], _, [y0, y1], _, hx, hf =>
    have h0 : DataW.trod enc Tryz.prog W 0 (fun _ => true) true n 9 (([c0, c1].drop 0).take (Tryz.prog.cellsOf 9)) = some y0 := hf 0 _ rfl
    rw [cells1s] at h0
    have h1 : DataW.trod enc Tryz.prog W 0 (fun _ => true) true n 3 (([c0, c1].drop 1).take (Tryz.prog.cellsOf 3)) = some y1 := hf 1 _ rfl
    rw [cells1i] at h1
    have hx' : x.1 = .agg [y0.1, y1.1] := by rw [hx]; rfl
    rw [hx'] at hre
    obtain ⟨s, e0, hy0, _⟩ := DataW.trod_string Tryz.underlying9 h0
    obtain ⟨p, e1, _, _⟩ := DataW.trod_int Tryz.underlying3 h1
    simp only [List.drop_zero, List.drop_succ_cons, List.take_succ_cons, List.take_zero, List.cons.injEq, and_true] at e0 e1
    have r0 : s.size ≤ 140737488351232 := by
      have := hre.field (j := 0) (u := 9) (d := y0.1) Tryz.underlying52 rfl rfl
      rw [hy0] at this
      exact reach_size this
    exact ⟨(s, p), by rw [e0, e1]; rfl, r0⟩

/-- rows of k cells among the arguments -/
theorem open_rows {α : Type} [Inhabited α] (f : α → List Value) (k : Nat) (hk0 : 0 < k) (hk : ∀ x, (f x).length = k) (Pb : α → Prop) {len cap : Nat} {a : Addr} (hlc : len ≤ cap) (hb : len ≤ 140737488351232)
    (hall : ∀ i, i < len → ∃ (cs : List Value) (x : α), W.cells? 0 (a.add (i * k)) k = some cs ∧ cs = f x ∧ Pb x) :
    ∃ l : List α, l.length = len ∧ IsT W (fun b => b < W.heap.size) k (l.map f) (some a) cap ∧ ∀ x ∈ l, Pb x := by
  have hall' : ∀ i, i < len → ∃ x : α, W.cells? 0 (a.add (i * k)) k = some (f x) ∧ Pb x := fun i hi => by
    obtain ⟨cs, x, h1, rfl, h3⟩ := hall i hi
    exact ⟨x, h1, h3⟩
  obtain ⟨g, hg⟩ := Go.Deep.choose_lt hall'
  refine ⟨(List.range len).map g, by simp, ⟨(fun e => by cases e), by simpa using hlc, by simpa using hb, ?_⟩, ?_⟩
  · intro b hb i r hr
    cases hb
    have hi : i < len := by
      have := (List.getElem?_eq_some_iff.1 hr).1
      simpa using this
    rw [List.map_map, List.getElem?_map, List.getElem?_range hi] at hr
    simp only [Option.map_some, Option.some.injEq, Function.comp_def] at hr
    subst hr
    obtain ⟨_, hl5, hcell⟩ := World.cells?_some (hg i hi).1
    refine ⟨?_, fun j u hu => ?_⟩
    · have h0 := hcell 0 (by have := hk (g i); omega)
      have := World.block_lt_of_cell? W ((a.add (i * k)).add 0) (by rw [h0, List.getElem?_eq_getElem (by have := hk (g i); omega)])
      rw [block_add, block_add] at this
      exact this
    · have hj : j < k := by
        have h5 := (List.getElem?_eq_some_iff.1 hu).1
        rw [hk] at h5
        exact h5
      rw [hcell j hj]
      exact hu
  · intro x hx
    obtain ⟨i, hi, rfl⟩ := List.mem_map.1 hx
    exact (hg i (List.mem_range.1 hi)).2

set_option maxRecDepth 100000 in
theorem open_funcs {fuel : Nat} {c3 : Value} {x : DataW H × List MemPlace} (h3 : DataW.trod enc Tryz.prog W 0 (fun _ => true) true fuel 24 [c3] = some x) (r3 : Go.Proofs.YtcknoeepdjhnoaaGreatDoor.Reach Tryz.prog 24 x.1) :
    ∃ (l : List Fn) (al : Option Addr) (cl : Nat), c3 = .slice al l.length cl ∧ IsT W (fun b => b < W.heap.size) 4 (l.map fnV) al cl ∧ (∀ f ∈ l, f.2.2.2.size ≤ 140737488351232) ∧ 40 * l.length ≤ 140737488351232 := by
  rcases DataW.trod_slice Tryz.underlying24 h3 with ⟨hcs, _⟩ | ⟨a, len, cap, elems, rest, n', hn', hcs, hx3, _, hlc, hcm, hlen, hel, hsp, _⟩
  · simp only [List.cons.injEq, and_true] at hcs
    exact ⟨[], none, 0, hcs, ⟨fun _ => ⟨rfl, rfl⟩, Nat.le_refl _, by simp, (fun a h => by cases h)⟩, (fun f h => by cases h), by simp⟩
  · simp only [List.cons.injEq, and_true] at hcs
    rw [hx3] at r3
    rw [cells4f] at hel
    have hb := r3.slice Tryz.underlying24
    rw [show Tryz.prog.bytesOf 50 = 40 by kernel_rfl] at hb
    have hs := (hsp rfl).1
    unfold reachBytes at hb
    simp at hb
    haveI : Inhabited Fn := ⟨(0, 0, 0, ⟨#[]⟩)⟩
    obtain ⟨l, hl, hT, hP⟩ := open_rows (W := W) fnV 4 (by omega) (fun _ => rfl) (fun f => f.2.2.2.size ≤ 140737488351232) (a := a) hlc (by omega) (fun i hi => by
      have he := hel i hi
      rw [List.getElem?_eq_getElem (by omega)] at he
      obtain ⟨cs', hc1, hc2⟩ := Option.bind_eq_some_iff.1 he
      obtain ⟨f, hf, hs⟩ := open_func hc2 (r3.elem Tryz.underlying24 (List.mem_map.2 ⟨_, List.getElem_mem _, rfl⟩))
      exact ⟨cs', f, hc1, hf, hs⟩)
    exact ⟨l, some a, cap, by rw [hl]; exact hcs, hT, hP, by rw [hl]; omega⟩

set_option maxRecDepth 100000 in
theorem open_exps {fuel : Nat} {c3 : Value} {x : DataW H × List MemPlace} (h3 : DataW.trod enc Tryz.prog W 0 (fun _ => true) true fuel 25 [c3] = some x) (r3 : Go.Proofs.YtcknoeepdjhnoaaGreatDoor.Reach Tryz.prog 25 x.1) :
    ∃ (l : List Ex) (al : Option Addr) (cl : Nat), c3 = .slice al l.length cl ∧ IsT W (fun b => b < W.heap.size) 2 (l.map exV) al cl ∧ (∀ f ∈ l, f.1.size ≤ 140737488351232) ∧ 24 * l.length ≤ 140737488351232 := by
  rcases DataW.trod_slice Tryz.underlying25 h3 with ⟨hcs, _⟩ | ⟨a, len, cap, elems, rest, n', hn', hcs, hx3, _, hlc, hcm, hlen, hel, hsp, _⟩
  · simp only [List.cons.injEq, and_true] at hcs
    exact ⟨[], none, 0, hcs, ⟨fun _ => ⟨rfl, rfl⟩, Nat.le_refl _, by simp, (fun a h => by cases h)⟩, (fun f h => by cases h), by simp⟩
  · simp only [List.cons.injEq, and_true] at hcs
    rw [hx3] at r3
    rw [cells2x] at hel
    have hb := r3.slice Tryz.underlying25
    rw [show Tryz.prog.bytesOf 52 = 24 by kernel_rfl] at hb
    have hs := (hsp rfl).1
    unfold reachBytes at hb
    simp at hb
    haveI : Inhabited Ex := ⟨(⟨#[]⟩, 0)⟩
    obtain ⟨l, hl, hT, hP⟩ := open_rows (W := W) exV 2 (by omega) (fun _ => rfl) (fun f => f.1.size ≤ 140737488351232) (a := a) hlc (by omega) (fun i hi => by
      have he := hel i hi
      rw [List.getElem?_eq_getElem (by omega)] at he
      obtain ⟨cs', hc1, hc2⟩ := Option.bind_eq_some_iff.1 he
      obtain ⟨f, hf, hs⟩ := open_exp hc2 (r3.elem Tryz.underlying25 (List.mem_map.2 ⟨_, List.getElem_mem _, rfl⟩))
      exact ⟨cs', f, hc1, hf, hs⟩)
    exact ⟨l, some a, cap, by rw [hl]; exact hcs, hT, hP, by rw [hl]; omega⟩

set_option maxRecDepth 100000 in
theorem open_module {fuel : Nat} {cs : List Value} {x : DataW H × List MemPlace} (h : DataW.trod enc Tryz.prog W 0 (fun _ => true) true fuel 27 cs = some x) (hre : Go.Proofs.YtcknoeepdjhnoaaGreatDoor.Reach Tryz.prog 27 x.1) :
    ∃ (m : Md) (a1 a2 a3 : Option Addr) (c1 c2 c3 : Nat), cs = [.slice a1 m.cs.length c1, .slice a2 m.fs.length c2, .slice a3 m.xs.length c3] ∧ IsM W (fun b => b < W.heap.size) m a1 c1 a2 c2 a3 c3 ∧ 80 * m.cs.length ≤ 140737488351232 ∧ 40 * m.fs.length ≤ 140737488351232 ∧ 24 * m.xs.length ≤ 140737488351232 := by
  obtain ⟨xs, n, rfl, hx, hl, hlen, hf⟩ := DataW.trod_struct Tryz.underlying27 h
  rw [cells3m] at hl
  have hlen' : xs.length = 3 := hlen
  match cs, hl, xs, hlen', hx, hf with
  | [v0, v1, v2], _, [y0, y1, y2], _, hx, hf =>
    have h0 : DataW.trod enc Tryz.prog W 0 (fun _ => true) true n 23 (([v0, v1, v2].drop 0).take (Tryz.prog.cellsOf 23)) = some y0 := hf 0 _ rfl
    rw [cells1l] at h0
    have h1 : DataW.trod enc Tryz.prog W 0 (fun _ => true) true n 24 (([v0, v1, v2].drop 1).take (Tryz.prog.cellsOf 24)) = some y1 := hf 1 _ rfl
    rw [cells1f] at h1
    have h2 : DataW.trod enc Tryz.prog W 0 (fun _ => true) true n 25 (([v0, v1, v2].drop 2).take (Tryz.prog.cellsOf 25)) = some y2 := hf 2 _ rfl
    rw [cells1x] at h2
    have hx' : x.1 = .agg [y0.1, y1.1, y2.1] := by rw [hx]; rfl
    rw [hx'] at hre
    obtain ⟨l1, a1, c1, e1, i1, z1⟩ := open_vals h0 (hre.field (j := 0) (u := 23) (d := y0.1) Tryz.underlying27 rfl rfl)
    obtain ⟨l2, a2, c2, e2, i2, b2, z2⟩ := open_funcs h1 (hre.field (j := 1) (u := 24) (d := y1.1) Tryz.underlying27 rfl rfl)
    obtain ⟨l3, a3, c3, e3, i3, b3, z3⟩ := open_exps h2 (hre.field (j := 2) (u := 25) (d := y2.1) Tryz.underlying27 rfl rfl)
    exact ⟨⟨l1, l2, l3⟩, a1, a2, a3, c1, c2, c3, by rw [e1, e2, e3], ⟨i1, i2, i3, b2, b3⟩, z1, z2, z3⟩

end
end Go.Proofs.YtcknoeepdjhnoaaGreatDoor

namespace Go.Proofs.YtcknoeepdjhnoaaGreatDoor
open Go.ChangeShapes Go.WideShapes Go.ChangeAt Go.RowKit
set_option linter.unusedVariables false

section
variable {H : Type} {enc : TypeId × Value → H} {W : World}

set_option maxRecDepth 100000 in
theorem open_modules {fuel : Nat} {c3 : Value} {x : DataW H × List MemPlace} (h3 : DataW.trod enc Tryz.prog W 0 (fun _ => true) true fuel 22 [c3] = some x) (r3 : Go.Proofs.YtcknoeepdjhnoaaGreatDoor.Reach Tryz.prog 22 x.1) :
    ∃ (ms : List Md) (al : Option Addr) (cl : Nat), c3 = .slice al ms.length cl ∧ MsI W W.heap.size ms al ∧ ms.length ≤ 140737488351232 := by
  rcases DataW.trod_slice Tryz.underlying22 h3 with ⟨hcs, _⟩ | ⟨a, len, cap, elems, rest, n', hn', hcs, hx3, _, hlc, hcm, hlen, hel, hsp, _⟩
  · simp only [List.cons.injEq, and_true] at hcs
    exact ⟨[], none, 0, hcs, (fun i m h => by simp at h), by simp⟩
  · simp only [List.cons.injEq, and_true] at hcs
    rw [hx3] at r3
    rw [cells3m] at hel
    have hall : ∀ i, i < len → ∃ p : Md × Option Addr × Nat × Option Addr × Nat × Option Addr × Nat, (a.block < W.heap.size ∧ ∀ j v, [Value.slice p.2.1 p.1.cs.length p.2.2.1, .slice p.2.2.2.1 p.1.fs.length p.2.2.2.2.1, .slice p.2.2.2.2.2.1 p.1.xs.length p.2.2.2.2.2.2][j]? = some v → W.cell? ((a.add (i * 3)).add j) = some v) ∧ IsM W (fun b => b < W.heap.size) p.1 p.2.1 p.2.2.1 p.2.2.2.1 p.2.2.2.2.1 p.2.2.2.2.2.1 p.2.2.2.2.2.2 ∧ 80 * p.1.cs.length ≤ 140737488351232 ∧ 40 * p.1.fs.length ≤ 140737488351232 ∧ 24 * p.1.xs.length ≤ 140737488351232 := by
      intro i hi
      have he := hel i hi
      rw [List.getElem?_eq_getElem (by omega)] at he
      obtain ⟨cs', hc1, hc2⟩ := Option.bind_eq_some_iff.1 he
      obtain ⟨_, hl3, hcell⟩ := World.cells?_some hc1
      obtain ⟨m, a1, a2, a3, c1, c2, c3, hcs', hm⟩ := open_module hc2 (r3.elem Tryz.underlying22 (List.mem_map.2 ⟨_, List.getElem_mem _, rfl⟩))
      refine ⟨(m, a1, c1, a2, c2, a3, c3), ⟨?_, fun j u hu => ?_⟩, hm⟩
      · have h0 := hcell 0 (by omega)
        have := World.block_lt_of_cell? W ((a.add (i * 3)).add 0) (by rw [h0, List.getElem?_eq_getElem (by omega)])
        rw [block_add, block_add] at this
        exact this
      · dsimp only at hu
        rw [← hcs'] at hu
        have hj : j < 3 := by
          have h5 : j < cs'.length := (List.getElem?_eq_some_iff.1 hu).1
          omega
        rw [hcell j hj]
        exact hu
    haveI : Inhabited (Md × Option Addr × Nat × Option Addr × Nat × Option Addr × Nat) := ⟨(⟨[], [], []⟩, none, 0, none, 0, none, 0)⟩
    obtain ⟨f, hf⟩ := Go.Deep.choose_lt hall
    have hl : ((List.range len).map (fun i => (f i).1)).length = len := by simp
    have hb := r3.slice Tryz.underlying22
    rw [show Tryz.prog.bytesOf 27 = 72 by kernel_rfl] at hb
    have hs := (hsp rfl).1
    unfold reachBytes at hb
    simp at hb
    refine ⟨(List.range len).map (fun i => (f i).1), some a, cap, by rw [hl]; exact hcs, ?_, by rw [hl]; omega⟩
    intro i m hm
    have hi : i < len := by
      have := (List.getElem?_eq_some_iff.1 hm).1
      simpa using this
    rw [List.getElem?_map, List.getElem?_range hi] at hm
    simp only [Option.map_some, Option.some.injEq] at hm
    subst hm
    obtain ⟨⟨h1, h2⟩, h3, h4⟩ := hf i hi
    exact ⟨a, _, _, _, _, _, _, rfl, h1, h2 0 _ rfl, h2 1 _ rfl, h2 2 _ rfl, h3, h4⟩
end
end Go.Proofs.YtcknoeepdjhnoaaGreatDoor
