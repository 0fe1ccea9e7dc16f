/-
  The walk of the statement WireTakes: every Take answers what the document's own does, and what it answers is its owner's; conditions: the bytes and their room fit, the form's own reach.
-/
import Derived.Test.YtocklblkopmjgaaXTake
import Derived.Test.YtocklblkopmjgaaXRfT
import Derived.Test.YtocklblkopmjgaaXWipeW
import Derived.Test.YtocklblkopmjgaaXLent
import Derived.Test.YtocklblkopmjgaaWSame
namespace Go.Proofs.Ytocklblkopmjgaa
open Go.RowKit
set_option linter.unusedVariables false
set_option linter.unusedSimpArgs false

theorem sm_self' (v : Vl) : smB v v = true := by
  have := (sameB_iff v v).2 rfl
  simp [smB, this]

/-- a value without lists lies in any memory -/
theorem plain_q (w : World) (P : Nat → Prop) : IsQ w P (.mk 0 0 ⟨#[]⟩ [] []) (.agg #[.int .i64 0, .int .i64 0, .string ⟨#[]⟩, .slice none 0 0, .slice none 0 0]) := by
  have h := heap_alloc_new w (.cells #[.int .i64 0, .int .i64 0, .string ⟨#[]⟩, .slice none 0 0, .slice none 0 0] 27)
  have hs : (w.alloc (.cells #[.int .i64 0, .int .i64 0, .string ⟨#[]⟩, .slice none 0 0, .slice none 0 0] 27)).heap.size = w.heap.size + 1 := by simp
  generalize w.alloc (.cells #[.int .i64 0, .int .i64 0, .string ⟨#[]⟩, .slice none 0 0, .slice none 0 0] 27) = u at h hs
  have M : Mid u (w.heap.size + 1) w.heap.size 0 0 ⟨#[]⟩ [] [] (.slice none 0 0) (.slice none 0 0) 0 0 (fun _ => []) := ⟨h, by omega, by omega, World.ownsRow_nil _ _ _ _, World.ownsRow_nil _ _ _ _, Or.inl rfl, fun c h => by omega, fun c y h => by omega⟩
  exact (M.made rfl rfl (by omega) (by omega) (by rw [e0s]; omega) (by simp) (by simp) (by simp)).to (fun b hb => by omega) (fun b hb => by omega)

def tVal : Except (Int × Int) (Vl × Nat) → Vl
  | .error _ => .mk 0 0 ⟨#[]⟩ [] []
  | .ok (v, _) => v
def tPos : Except (Int × Int) (Vl × Nat) → Int
  | .error p => p.2
  | .ok (_, n) => n
def tErr : Except (Int × Int) (Vl × Nat) → Int
  | .error p => p.1
  | .ok _ => 0

/-- Take, told in one way -/
def TakeU (w : World) (r : Except (Int × Int) (Vl × Nat)) (e : Ending) (w' : World) : Prop :=
  ∃ k n s al ll cl ak m ck, e = .returned (.tuple #[.agg #[.int .i64 k, .int .i64 n, .string s, .slice al ll cl, .slice ak m ck], .int .i64 (tPos r), .int .i64 (tErr r)]) ∧ IsQ w' (fun b => w.heap.size ≤ b ∧ b < w'.heap.size) (tVal r) (.agg #[.int .i64 k, .int .i64 n, .string s, .slice al ll cl, .slice ak m ck]) ∧ Below w.heap.size w w'

theorem takeU {w : World} {r : Except (Int × Int) (Vl × Nat)} {e : Ending} {w' : World} (h : ResTk w r e w') : TakeU w r e w' := by
  cases r with
  | error p =>
    obtain ⟨rfl, b⟩ := h
    exact ⟨_, _, _, _, _, _, _, _, _, rfl, plain_q w' _, b⟩
  | ok y =>
    obtain ⟨v, n⟩ := y
    obtain ⟨x, rfl, p, b⟩ := h
    obtain ⟨k, n, s, l, ks, al, ak, cl, ck, _, rfl⟩ := p.shape
    exact ⟨_, _, _, _, _, _, _, _, _, rfl, p, b⟩

theorem new_q (u : World) (A : Array Value) (G : Nat) (hG : u.heap.size = G) :
    (u.alloc (.cells A 27)).heap[G]? = some (.cells A 27 (0, 0)) ∧ Below G u (u.alloc (.cells A 27)) ∧ (u.alloc (.cells A 27)).heap.size = G + 1 := by
  subst hG
  exact ⟨heap_alloc_new u _, (Below.refl _ _).alloc (Nat.le_refl _) _, by simp⟩

/-- the places, in memory -/
structure Row64 (w : World) (ao : Option Addr) (len cap : Nat) (ps : List Int) : Prop where
  length : ps.length = len
  cells : ∀ i, i < len → ∃ a, ao = some a ∧ a.block < w.heap.size ∧ w.cell? (a.add i) = some (.int .i64 (ps.getD i 0))
  le : len ≤ cap
  cap : cap ≤ maxLen
  few : len ≤ 140737488351232
  fit : ∀ p ∈ ps, -9223372036854775808 ≤ p ∧ p ≤ 9223372036854775807

set_option maxRecDepth 100000 in
set_option maxHeartbeats 4000000 in
theorem takes_walk (ab : Option Addr) (lb cb : Nat) (zs : List Int) (ap : Option Addr) (np cp : Nat) (ps : List Int) (w : World) (hz : Row8 w ab lb cb zs) (hcb : cb ≤ maxLen) (hlb : lb ≤ 140737488351232) (hp : Row64 w ap np cp ps) :
    Calls Try.prog 7 #[.slice ab lb cb, .slice ap np cp] w fun e w' => e = .returned (.bool true) ∧ Below w.heap.size w w' := by
  have hnp : np ≤ 140737488351232 := hp.few
  have hcp : cp ≤ 9223372036854775807 := by have := hp.cap; unfold maxLen at this; omega
  have HZ : Hid (∀ u, Below w.heap.size w u → Row8 u ab lb cb zs) := hide (fun u hu => hz.later hu)
  have HP : Hid (∀ i, i < np → ∃ a, ap = some a ∧ (-9223372036854775808 ≤ ps.getD i 0 ∧ ps.getD i 0 ≤ 9223372036854775807) ∧ ∀ u, Below w.heap.size w u → u.cell? (a.add i) = some (.int .i64 (ps.getD i 0))) := hide (fun i hi => by
    obtain ⟨a, e, hb, hc⟩ := hp.cells i hi
    refine ⟨a, e, ?_, fun u hu => ?_⟩
    · have hi' : i < ps.length := by rw [hp.length]; exact hi
      rw [List.getD_eq_getElem?_getD, List.getElem?_eq_getElem hi']
      exact hp.fit _ (List.getElem_mem _)
    · rw [World.cell?_of_block (hu.block _ (by rw [block_add]; exact hb))]
      exact hc)
  have HSM := hide (And.intro hz.small hz.length)
  have CL : Hid (∀ u, Below w.heap.size w u → Calls Try.prog 23 #[.slice ab lb cb] u fun e w' => e = .returned (.tuple #[.slice (some ⟨u.heap.size, 0, none⟩) lb (lb + 40), .slice (some ⟨u.heap.size, 0, none⟩) (lb + 40) (lb + 40)]) ∧ Bys w' u.heap.size (zs ++ marks lb) ∧ Below u.heap.size u w') := hide (fun u hu => lent4 ab lb cb zs u (hz.later hu) hlb)
  have CT : Hid (∀ (u : World) (G : Nat) (p : Int), Bys u G (zs ++ marks lb) → Calls Try.prog 32 #[.slice (some ⟨G, 0, none⟩) lb (lb + 40), .int .i64 p] u fun e w' => TakeU u (takeR zs p) e w') := hide (fun u G p h => by
    have hr : Row8 u (some ⟨G, 0, none⟩) zs.length (lb + 40) zs := h.row hz.small (lb + 40) (by have := hz.length; omega)
    rw [hz.length] at hr
    exact (take_any (some ⟨G, 0, none⟩) lb (lb + 40) zs p u hr (by unfold maxLen; omega)).mono fun e w' h => takeU h)
  have CR : Hid (∀ (u : World) (p : Int), Below w.heap.size w u → Calls Try.prog 33 #[.slice ab lb cb, .int .i64 p] u fun e w' => TakeU u (takeR zs p) e w') := hide (fun u p hu => (take_f ab lb cb zs p u (hz.later hu) hcb).mono fun e w' h => takeU h)
  have CS : Hid (∀ (u : World) (q : Vl) (y y' : Value), IsV u u.heap.size q y → IsV u u.heap.size q y' → Calls Try.prog 26 #[y, y'] u fun e w' => e = .returned (.bool true) ∧ Below u.heap.size u w') := hide (fun u q y y' h h' => by
    have := same_any q q y y' _ u h h' (Nat.le_refl _)
    rw [sm_self'] at this
    exact this)
  have CK : Hid (∀ (u : World) (G : Nat), Below w.heap.size w u → Bys u G (zs ++ marks lb) → Calls Try.prog 27 #[.slice (some ⟨G, 0, none⟩) (lb + 40) (lb + 40), .slice ab lb cb] u fun e w' => e = .returned (.bool true) ∧ Below u.heap.size u w') := hide (fun u G hu h => still4 G ab lb cb zs u (hz.later hu) hcb hlb h)
  clear hz hp
  go_enter Try.func7, Try.ntmps7
  go_wp2_with fail
  go_loopw [5] (fun x wr => ∃ i : Nat, i ≤ np + 1 ∧ x = .int .i64 i ∧ Hid (Below w.heap.size w wr)) (fun x _ => np + 1 - (intOf x).toNat)
  case atStart => exact ⟨0, by omega, rfl, hide (Below.refl _ _)⟩
  case round =>
    obtain ⟨i, hi, rfl, HB⟩ := hrel
    by_cases hle : i ≤ np
    · have i1 : (i : Int) ≤ (np : Int) := by omega
      have iw : IntKind.i64.wrap ((i : Int) + 1) = (i : Int) + 1 := by rw [IntKind.wrap_i64]; omega
      by_cases hlt : i < np
      · obtain ⟨a, rfl, hpb, hpc⟩ := unhide HP i hlt
        have cP := hpc wr (unhide HB)
        obtain ⟨p, hpp⟩ : ∃ p, ps.getD i 0 = p := ⟨_, rfl⟩
        rw [hpp] at cP hpb
        have i2 : (i : Int) < (np : Int) := by omega
        have i0 : (0 : Int) ≤ (i : Int) := by omega
        clear hpc hpp
        go_upto_region 7 with fail
        clear cP
        obtain ⟨G1, hG1⟩ : ∃ G1, wr.heap.size = G1 := ⟨_, rfl⟩
        have C1 := hide (unhide CL wr (unhide HB))
        rw [hG1] at C1
        obtain ⟨D, hD⟩ : ∃ D, takeR zs p = D := ⟨_, rfl⟩
        go_wp2_with fail
        refine (unhide C1).mono ?_
        rintro e u1 ⟨rfl, y1, b1⟩
        have Z1 := hide (And.intro y1 (And.intro b1 y1.lt))
        have C2 := hide (unhide CT u1 G1 p y1)
        rw [hD] at C2
        clear y1 b1 C1
        go_wp2_with fail
        refine (unhide C2).mono ?_
        rintro e u2 ⟨k2, n2, s2, al2, ll2, cl2, ak2, m2, ck2, rfl, q2, b2⟩
        have Z2 := hide (And.intro q2 b2)
        clear q2 b2 C2
        go_upto_region 9 with fail
        obtain ⟨A2, hA2⟩ : ∃ A, u2.heap.size = A := ⟨_, rfl⟩
        have N2 := new_q u2 #[.int .i64 k2, .int .i64 n2, .string s2, .slice al2 ll2 cl2, .slice ak2 m2 ck2] A2 hA2
        simp only [hA2]
        obtain ⟨w2, hw2⟩ : ∃ w2, u2.alloc (.cells #[.int .i64 k2, .int .i64 n2, .string s2, .slice al2 ll2 cl2, .slice ak2 m2 ck2] 27) = w2 := ⟨_, rfl⟩
        rw [hw2] at N2 ⊢
        have B12 : Hid (Below u1.heap.size u1 w2) := hide ((unhide Z2).2.trans (N2.2.1.mono (by rw [← hA2]; exact (unhide Z2).2.size)))
        have Y2 : Bys w2 G1 (zs ++ marks lb) := ((unhide B12).block G1 (unhide Z1).2.2).trans (unhide Z1).1
        have HN2 := hide (And.intro N2 hA2)
        have C3 := hide (unhide CT w2 G1 p Y2)
        rw [hD] at C3
        clear hw2 N2 Y2 hA2
        go_wp2_with fail
        refine (unhide C3).mono ?_
        rintro e u3 ⟨k3, n3, s3, al3, ll3, cl3, ak3, m3, ck3, rfl, q3, b3⟩
        have Z3 := hide (And.intro q3 b3)
        clear q3 b3 C3
        go_upto_region 10 with fail
        obtain ⟨A3, hA3⟩ : ∃ A, u3.heap.size = A := ⟨_, rfl⟩
        have N3 := new_q u3 #[.int .i64 k3, .int .i64 n3, .string s3, .slice al3 ll3 cl3, .slice ak3 m3 ck3] A3 hA3
        simp only [hA3]
        obtain ⟨w3, hw3⟩ : ∃ w3, u3.alloc (.cells #[.int .i64 k3, .int .i64 n3, .string s3, .slice al3 ll3 cl3, .slice ak3 m3 ck3] 27) = w3 := ⟨_, rfl⟩
        rw [hw3] at N3 ⊢
        have B23 : Hid (Below w2.heap.size w2 w3) := hide ((unhide Z3).2.trans (N3.2.1.mono (by rw [← hA3]; exact (unhide Z3).2.size)))
        have HN3 := hide (And.intro N3 hA3)
        have X3 : Hid (Below w.heap.size w w3) := hide (((unhide HB).trans ((unhide Z1).2.1.mono (by rw [← hG1]; exact (unhide HB).size))).trans (((unhide B12).mono (by have h1 := (unhide Z1).2.1.size; have h2 := (unhide HB).size; omega)).trans ((unhide B23).mono (by have h1 := (unhide Z1).2.1.size; have h2 := (unhide HB).size; have h3 := (unhide B12).size; omega))))
        have C4 := hide (unhide CR w3 p (unhide X3))
        rw [hD] at C4
        clear hw3 N3 hA3
        go_wp2_with fail
        refine (unhide C4).mono ?_
        rintro e u4 ⟨k4, n4, s4, al4, ll4, cl4, ak4, m4, ck4, rfl, q4, b4⟩
        have Z4 := hide (And.intro q4 b4)
        clear q4 b4 C4
        go_upto_region 11 with fail
        obtain ⟨A4, hA4⟩ : ∃ A, u4.heap.size = A := ⟨_, rfl⟩
        have N4 := new_q u4 #[.int .i64 k4, .int .i64 n4, .string s4, .slice al4 ll4 cl4, .slice ak4 m4 ck4] A4 hA4
        simp only [hA4]
        obtain ⟨w4, hw4⟩ : ∃ w4, u4.alloc (.cells #[.int .i64 k4, .int .i64 n4, .string s4, .slice al4 ll4 cl4, .slice ak4 m4 ck4] 27) = w4 := ⟨_, rfl⟩
        rw [hw4] at N4 ⊢
        have B34 : Hid (Below w3.heap.size w3 w4) := hide ((unhide Z4).2.trans (N4.2.1.mono (by rw [← hA4]; exact (unhide Z4).2.size)))
        have HN4 := hide (And.intro N4 hA4)
        have SZ : Hid (w.heap.size ≤ G1 ∧ G1 < u1.heap.size ∧ u1.heap.size ≤ A2 ∧ w2.heap.size = A2 + 1 ∧ A2 + 1 ≤ A3 ∧ w3.heap.size = A3 + 1 ∧ A3 + 1 ≤ A4 ∧ w4.heap.size = A4 + 1) := hide (by
          have h1 := (unhide HB).size
          have h2 := (unhide Z1).2.2
          have h3 := (unhide Z2).2.size
          have h4 := (unhide Z3).2.size
          have h5 := (unhide Z4).2.size
          have a2 := unhide HN2
          have a3 := unhide HN3
          have a4 := unhide HN4
          have e2 := a2.1.2.2
          have e3 := a3.1.2.2
          have e4 := a4.1.2.2
          have f2 := a2.2
          have f3 := a3.2
          have f4 := a4.2
          omega)
        clear hw4 N4 hA4
        have ALL : Hid (∀ u, Below w4.heap.size w4 u → u.heap[A2]? = some (.cells #[.int .i64 k2, .int .i64 n2, .string s2, .slice al2 ll2 cl2, .slice ak2 m2 ck2] 27 (0, 0)) ∧ u.heap[A3]? = some (.cells #[.int .i64 k3, .int .i64 n3, .string s3, .slice al3 ll3 cl3, .slice ak3 m3 ck3] 27 (0, 0)) ∧ u.heap[A4]? = some (.cells #[.int .i64 k4, .int .i64 n4, .string s4, .slice al4 ll4 cl4, .slice ak4 m4 ck4] 27 (0, 0)) ∧ Bys u G1 (zs ++ marks lb) ∧ Below w.heap.size w u ∧ IsQ u (fun b => u1.heap.size ≤ b ∧ b < A2) (tVal D) (.agg #[.int .i64 k2, .int .i64 n2, .string s2, .slice al2 ll2 cl2, .slice ak2 m2 ck2]) ∧ IsQ u (fun b => A2 + 1 ≤ b ∧ b < A3) (tVal D) (.agg #[.int .i64 k3, .int .i64 n3, .string s3, .slice al3 ll3 cl3, .slice ak3 m3 ck3]) ∧ IsQ u (fun b => A3 + 1 ≤ b ∧ b < A4) (tVal D) (.agg #[.int .i64 k4, .int .i64 n4, .string s4, .slice al4 ll4 cl4, .slice ak4 m4 ck4])) := hide (fun u hu => by
          obtain ⟨s0, s1, s2, s3, s4, s5, s6, s7⟩ := unhide SZ
          have a2 := unhide HN2
          have a3 := unhide HN3
          have a4 := unhide HN4
          have bu4 : Below A4 u4 u := a4.1.2.1.trans (hu.mono (by omega))
          have b3u : Below w3.heap.size w3 u := (unhide B34).trans (hu.mono (by omega))
          have bu3 : Below A3 u3 u := a3.1.2.1.trans (b3u.mono (by omega))
          have b2u : Below w2.heap.size w2 u := (unhide B23).trans (b3u.mono (by omega))
          have bu2 : Below A2 u2 u := a2.1.2.1.trans (b2u.mono (by omega))
          have b1u : Below u1.heap.size u1 u := (unhide B12).trans (b2u.mono (by omega))
          have f2 := a2.2
          have f3 := a3.2
          have f4 := a4.2
          refine ⟨(b2u.block A2 (by omega)).trans a2.1.1, (b3u.block A3 (by omega)).trans a3.1.1, (hu.block A4 (by omega)).trans a4.1.1, (b1u.block G1 (unhide Z1).2.2).trans (unhide Z1).1, (unhide X3).trans (b3u.mono (unhide X3).size), ?_, ?_, ?_⟩
          · exact ((unhide Z2).1.move (fun c hc => bu2.block c (by have := hc.2; omega))).weak (fun c hc => ⟨hc.1, by have := hc.2; omega⟩)
          · exact ((unhide Z3).1.move (fun c hc => bu3.block c (by have := hc.2; omega))).weak (fun c hc => ⟨by have := hc.1; omega, by have := hc.2; omega⟩)
          · exact ((unhide Z4).1.move (fun c hc => bu4.block c (by have := hc.2; omega))).weak (fun c hc => ⟨by have := hc.1; omega, by have := hc.2; omega⟩))
        clear Z2 Z3 Z4 HN2 HN3 HN4 B12 B23 B34 X3
        have R4 := unhide ALL w4 (Below.refl _ _)
        have s7 := (unhide SZ).2.2.2.2.2.2.2
        have C5 := hide (unhide CS w4 (tVal D) _ _ (R4.2.2.2.2.2.1.isV (fun b hb => by have := hb.2; have := unhide SZ; omega)) (R4.2.2.2.2.2.2.2.isV (fun b hb => by have := hb.2; omega)))
        obtain ⟨c0, c1, c2, c3, c4⟩ := row_cell R4.1
        obtain ⟨d0, d1, d2, d3, d4⟩ := row_cell R4.2.2.1
        clear R4
        go_wp2_with fail
        refine (unhide C5).mono ?_
        rintro e u5 ⟨rfl, b5⟩
        have X5 := hide b5
        have C6 := hide (unhide CK u5 G1 (unhide ALL u5 b5).2.2.2.2.1 (unhide ALL u5 b5).2.2.2.1)
        clear b5 C5 c0 c1 c2 c3 c4 d0 d1 d2 d3 d4
        go_wp2_with fail
        refine (unhide C6).mono ?_
        rintro e u6 ⟨rfl, b6⟩
        have X6 := hide ((unhide X5).trans (b6.mono (unhide X5).size))
        have R6 := unhide ALL u6 (unhide X6)
        obtain ⟨c0, c1, c2, c3, c4⟩ := row_cell R6.1
        have C7 := hide (over_any (tVal D) _ ⟨#[121]⟩ (fun b => u1.heap.size ≤ b ∧ b < A2) u6 R6.2.2.2.2.2.1 (fun b hb => by have := hb.2; have := unhide SZ; have := (unhide X6).size; omega))
        clear b6 C6 R6
        go_wp2_with fail
        refine (unhide C7).mono ?_
        rintro e u7 ⟨rfl, h7⟩
        have H7 := hide h7
        have Y7 : Hid (Bys u7 G1 (zs ++ marks lb)) := hide ((h7.far (by have := unhide SZ; have := (unhide X6).size; omega) (fun hq => by have := hq.1; have := unhide SZ; omega)).trans (unhide ALL u6 (unhide X6)).2.2.2.1)
        have LN : Hid ((zs ++ marks lb).length = lb + 40) := hide (by rw [List.length_append, marks_len, (unhide HSM).2])
        clear h7 C7 c0 c1 c2 c3 c4
        go_wp2_with fail
        go_loopw [18] (fun x wx => ∃ (k : Nat) (xs : List Int), k ≤ lb + 40 ∧ x = .int .i64 k ∧ Hid (Bys wx G1 xs ∧ xs.length = lb + 40 ∧ wx.heap.size = u7.heap.size ∧ (∀ b, b ≠ G1 → wx.heap[b]? = u7.heap[b]?) ∧ Below G1 u7 wx)) (fun x _ => lb + 40 - (intOf x).toNat)
        case atStart => exact ⟨0, _, by omega, rfl, hide ⟨unhide Y7, unhide LN, rfl, fun _ _ => rfl, Below.refl _ _⟩⟩
        case round =>
          clear Y7 LN
          obtain ⟨k, xs, hk, rfl, HX⟩ := hrel
          by_cases hkl : k < lb + 40
          · have cx := (unhide HX).1.cell k (by have := (unhide HX).2.1; omega)
            have fx := (unhide HX).1.free k
            have k1 : (k : Int) < (lb : Int) + 40 := by omega
            have k0 : (0 : Int) ≤ (k : Int) := by omega
            have HX2 : Hid (Bys (wr.setCell ⟨G1, k, none⟩ (.int .u8 9)) G1 (xs.set k 9) ∧ (xs.set k 9).length = lb + 40 ∧ (wr.setCell ⟨G1, k, none⟩ (.int .u8 9)).heap.size = u7.heap.size ∧ (∀ b, b ≠ G1 → (wr.setCell ⟨G1, k, none⟩ (.int .u8 9)).heap[b]? = u7.heap[b]?) ∧ Below G1 u7 (wr.setCell ⟨G1, k, none⟩ (.int .u8 9))) := hide (by
              obtain ⟨x1, x2, x3, x4, x5⟩ := unhide HX
              refine ⟨x1.set k 9, by simpa using x2, by simpa using x3, fun b hb => ?_, x5.setCell (p := ⟨G1, k, none⟩) (Nat.le_refl _) _⟩
              rw [heap_setCell_other _ _ _ _ hb]
              exact x4 b hb)
            generalize xs.getD k 0 = y0 at *
            go_wp2_with fail
            go_roundw
            case rel => exact ⟨k + 1, _, by omega, by go_num, HX2⟩
            case measure => simp [intOf]; omega
          · have k1 : ¬ (k : Int) < (lb : Int) + 40 := by omega
            have S6 := (unhide X6).size
            obtain ⟨s0, s1, s2', s3', s4', s5, s6, s7'⟩ := unhide SZ
            obtain ⟨x1, x2, x3, x4, x5⟩ := unhide HX
            have S7 := (unhide H7).size
            have R6 := unhide ALL u6 (unhide X6)
            have keep : ∀ b, b < u6.heap.size → A2 ≤ b → wr.heap[b]? = u6.heap[b]? := fun b hb hA => (x4 b (by omega)).trans ((unhide H7).far hb (fun hq => by have := hq.2; omega))
            have at3 := (keep A3 (by omega) (by omega)).trans R6.2.1
            have at4 := (keep A4 (by omega) (by omega)).trans R6.2.2.1
            have V3 : IsV wr wr.heap.size (tVal D) (.agg #[.int .i64 k3, .int .i64 n3, .string s3, .slice al3 ll3 cl3, .slice ak3 m3 ck3]) := (R6.2.2.2.2.2.2.1.move (fun b hb => keep b (by have := hb.2; omega) (by have := hb.1; omega))).isV (fun b hb => by have := hb.2; omega)
            have V4 : IsV wr wr.heap.size (tVal D) (.agg #[.int .i64 k4, .int .i64 n4, .string s4, .slice al4 ll4 cl4, .slice ak4 m4 ck4]) := (R6.2.2.2.2.2.2.2.move (fun b hb => keep b (by have := hb.2; omega) (by have := hb.1; omega))).isV (fun b hb => by have := hb.2; omega)
            have C8 := hide (unhide CS wr (tVal D) _ _ V3 V4)
            have HBn : Hid (Below w.heap.size w wr) := hide (R6.2.2.2.2.1.trans ((((unhide H7).below (B := w.heap.size) (by have := R6.2.2.2.2.1.size; omega) (fun b hb => by have := hb.1; omega))).trans (x5.mono (by omega))))
            obtain ⟨c0, c1, c2, c3, c4⟩ := row_cell at3
            obtain ⟨d0, d1, d2, d3, d4⟩ := row_cell at4
            clear at3 at4 V3 V4 keep R6 x1 x2 x3 x4 x5 S6 S7 s0 s1 s2' s3' s4' s5 s6 s7'
            go_wp2_with fail
            refine (unhide C8).mono ?_
            rintro e u9 ⟨rfl, b9⟩
            have HB9 := hide ((unhide HBn).trans (b9.mono (unhide HBn).size))
            clear b9 C8 c0 c1 c2 c3 c4 d0 d1 d2 d3 d4
            go_wp2_with fail
            go_roundw
            case rel => exact ⟨i + 1, by omega, by go_num, HB9⟩
            case measure => simp [intOf]; omega
      · have i2 : ¬ (i : Int) < (np : Int) := by omega
        obtain ⟨p, hp0⟩ : ∃ p : Int, p = 0 := ⟨0, rfl⟩
        have hpb : -9223372036854775808 ≤ p ∧ p ≤ 9223372036854775807 := by omega
        go_upto_region 7 with fail
        rw [← hp0]
        clear hp0
        obtain ⟨G1, hG1⟩ : ∃ G1, wr.heap.size = G1 := ⟨_, rfl⟩
        have C1 := hide (unhide CL wr (unhide HB))
        rw [hG1] at C1
        obtain ⟨D, hD⟩ : ∃ D, takeR zs p = D := ⟨_, rfl⟩
        go_wp2_with fail
        refine (unhide C1).mono ?_
        rintro e u1 ⟨rfl, y1, b1⟩
        have Z1 := hide (And.intro y1 (And.intro b1 y1.lt))
        have C2 := hide (unhide CT u1 G1 p y1)
        rw [hD] at C2
        clear y1 b1 C1
        go_wp2_with fail
        refine (unhide C2).mono ?_
        rintro e u2 ⟨k2, n2, s2, al2, ll2, cl2, ak2, m2, ck2, rfl, q2, b2⟩
        have Z2 := hide (And.intro q2 b2)
        clear q2 b2 C2
        go_upto_region 9 with fail
        obtain ⟨A2, hA2⟩ : ∃ A, u2.heap.size = A := ⟨_, rfl⟩
        have N2 := new_q u2 #[.int .i64 k2, .int .i64 n2, .string s2, .slice al2 ll2 cl2, .slice ak2 m2 ck2] A2 hA2
        simp only [hA2]
        obtain ⟨w2, hw2⟩ : ∃ w2, u2.alloc (.cells #[.int .i64 k2, .int .i64 n2, .string s2, .slice al2 ll2 cl2, .slice ak2 m2 ck2] 27) = w2 := ⟨_, rfl⟩
        rw [hw2] at N2 ⊢
        have B12 : Hid (Below u1.heap.size u1 w2) := hide ((unhide Z2).2.trans (N2.2.1.mono (by rw [← hA2]; exact (unhide Z2).2.size)))
        have Y2 : Bys w2 G1 (zs ++ marks lb) := ((unhide B12).block G1 (unhide Z1).2.2).trans (unhide Z1).1
        have HN2 := hide (And.intro N2 hA2)
        have C3 := hide (unhide CT w2 G1 p Y2)
        rw [hD] at C3
        clear hw2 N2 Y2 hA2
        go_wp2_with fail
        refine (unhide C3).mono ?_
        rintro e u3 ⟨k3, n3, s3, al3, ll3, cl3, ak3, m3, ck3, rfl, q3, b3⟩
        have Z3 := hide (And.intro q3 b3)
        clear q3 b3 C3
        go_upto_region 10 with fail
        obtain ⟨A3, hA3⟩ : ∃ A, u3.heap.size = A := ⟨_, rfl⟩
        have N3 := new_q u3 #[.int .i64 k3, .int .i64 n3, .string s3, .slice al3 ll3 cl3, .slice ak3 m3 ck3] A3 hA3
        simp only [hA3]
        obtain ⟨w3, hw3⟩ : ∃ w3, u3.alloc (.cells #[.int .i64 k3, .int .i64 n3, .string s3, .slice al3 ll3 cl3, .slice ak3 m3 ck3] 27) = w3 := ⟨_, rfl⟩
        rw [hw3] at N3 ⊢
        have B23 : Hid (Below w2.heap.size w2 w3) := hide ((unhide Z3).2.trans (N3.2.1.mono (by rw [← hA3]; exact (unhide Z3).2.size)))
        have HN3 := hide (And.intro N3 hA3)
        have X3 : Hid (Below w.heap.size w w3) := hide (((unhide HB).trans ((unhide Z1).2.1.mono (by rw [← hG1]; exact (unhide HB).size))).trans (((unhide B12).mono (by have h1 := (unhide Z1).2.1.size; have h2 := (unhide HB).size; omega)).trans ((unhide B23).mono (by have h1 := (unhide Z1).2.1.size; have h2 := (unhide HB).size; have h3 := (unhide B12).size; omega))))
        have C4 := hide (unhide CR w3 p (unhide X3))
        rw [hD] at C4
        clear hw3 N3 hA3
        go_wp2_with fail
        refine (unhide C4).mono ?_
        rintro e u4 ⟨k4, n4, s4, al4, ll4, cl4, ak4, m4, ck4, rfl, q4, b4⟩
        have Z4 := hide (And.intro q4 b4)
        clear q4 b4 C4
        go_upto_region 11 with fail
        obtain ⟨A4, hA4⟩ : ∃ A, u4.heap.size = A := ⟨_, rfl⟩
        have N4 := new_q u4 #[.int .i64 k4, .int .i64 n4, .string s4, .slice al4 ll4 cl4, .slice ak4 m4 ck4] A4 hA4
        simp only [hA4]
        obtain ⟨w4, hw4⟩ : ∃ w4, u4.alloc (.cells #[.int .i64 k4, .int .i64 n4, .string s4, .slice al4 ll4 cl4, .slice ak4 m4 ck4] 27) = w4 := ⟨_, rfl⟩
        rw [hw4] at N4 ⊢
        have B34 : Hid (Below w3.heap.size w3 w4) := hide ((unhide Z4).2.trans (N4.2.1.mono (by rw [← hA4]; exact (unhide Z4).2.size)))
        have HN4 := hide (And.intro N4 hA4)
        have SZ : Hid (w.heap.size ≤ G1 ∧ G1 < u1.heap.size ∧ u1.heap.size ≤ A2 ∧ w2.heap.size = A2 + 1 ∧ A2 + 1 ≤ A3 ∧ w3.heap.size = A3 + 1 ∧ A3 + 1 ≤ A4 ∧ w4.heap.size = A4 + 1) := hide (by
          have h1 := (unhide HB).size
          have h2 := (unhide Z1).2.2
          have h3 := (unhide Z2).2.size
          have h4 := (unhide Z3).2.size
          have h5 := (unhide Z4).2.size
          have a2 := unhide HN2
          have a3 := unhide HN3
          have a4 := unhide HN4
          have e2 := a2.1.2.2
          have e3 := a3.1.2.2
          have e4 := a4.1.2.2
          have f2 := a2.2
          have f3 := a3.2
          have f4 := a4.2
          omega)
        clear hw4 N4 hA4
        have ALL : Hid (∀ u, Below w4.heap.size w4 u → u.heap[A2]? = some (.cells #[.int .i64 k2, .int .i64 n2, .string s2, .slice al2 ll2 cl2, .slice ak2 m2 ck2] 27 (0, 0)) ∧ u.heap[A3]? = some (.cells #[.int .i64 k3, .int .i64 n3, .string s3, .slice al3 ll3 cl3, .slice ak3 m3 ck3] 27 (0, 0)) ∧ u.heap[A4]? = some (.cells #[.int .i64 k4, .int .i64 n4, .string s4, .slice al4 ll4 cl4, .slice ak4 m4 ck4] 27 (0, 0)) ∧ Bys u G1 (zs ++ marks lb) ∧ Below w.heap.size w u ∧ IsQ u (fun b => u1.heap.size ≤ b ∧ b < A2) (tVal D) (.agg #[.int .i64 k2, .int .i64 n2, .string s2, .slice al2 ll2 cl2, .slice ak2 m2 ck2]) ∧ IsQ u (fun b => A2 + 1 ≤ b ∧ b < A3) (tVal D) (.agg #[.int .i64 k3, .int .i64 n3, .string s3, .slice al3 ll3 cl3, .slice ak3 m3 ck3]) ∧ IsQ u (fun b => A3 + 1 ≤ b ∧ b < A4) (tVal D) (.agg #[.int .i64 k4, .int .i64 n4, .string s4, .slice al4 ll4 cl4, .slice ak4 m4 ck4])) := hide (fun u hu => by
          obtain ⟨s0, s1, s2, s3, s4, s5, s6, s7⟩ := unhide SZ
          have a2 := unhide HN2
          have a3 := unhide HN3
          have a4 := unhide HN4
          have bu4 : Below A4 u4 u := a4.1.2.1.trans (hu.mono (by omega))
          have b3u : Below w3.heap.size w3 u := (unhide B34).trans (hu.mono (by omega))
          have bu3 : Below A3 u3 u := a3.1.2.1.trans (b3u.mono (by omega))
          have b2u : Below w2.heap.size w2 u := (unhide B23).trans (b3u.mono (by omega))
          have bu2 : Below A2 u2 u := a2.1.2.1.trans (b2u.mono (by omega))
          have b1u : Below u1.heap.size u1 u := (unhide B12).trans (b2u.mono (by omega))
          have f2 := a2.2
          have f3 := a3.2
          have f4 := a4.2
          refine ⟨(b2u.block A2 (by omega)).trans a2.1.1, (b3u.block A3 (by omega)).trans a3.1.1, (hu.block A4 (by omega)).trans a4.1.1, (b1u.block G1 (unhide Z1).2.2).trans (unhide Z1).1, (unhide X3).trans (b3u.mono (unhide X3).size), ?_, ?_, ?_⟩
          · exact ((unhide Z2).1.move (fun c hc => bu2.block c (by have := hc.2; omega))).weak (fun c hc => ⟨hc.1, by have := hc.2; omega⟩)
          · exact ((unhide Z3).1.move (fun c hc => bu3.block c (by have := hc.2; omega))).weak (fun c hc => ⟨by have := hc.1; omega, by have := hc.2; omega⟩)
          · exact ((unhide Z4).1.move (fun c hc => bu4.block c (by have := hc.2; omega))).weak (fun c hc => ⟨by have := hc.1; omega, by have := hc.2; omega⟩))
        clear Z2 Z3 Z4 HN2 HN3 HN4 B12 B23 B34 X3
        have R4 := unhide ALL w4 (Below.refl _ _)
        have s7 := (unhide SZ).2.2.2.2.2.2.2
        have C5 := hide (unhide CS w4 (tVal D) _ _ (R4.2.2.2.2.2.1.isV (fun b hb => by have := hb.2; have := unhide SZ; omega)) (R4.2.2.2.2.2.2.2.isV (fun b hb => by have := hb.2; omega)))
        obtain ⟨c0, c1, c2, c3, c4⟩ := row_cell R4.1
        obtain ⟨d0, d1, d2, d3, d4⟩ := row_cell R4.2.2.1
        clear R4
        go_wp2_with fail
        refine (unhide C5).mono ?_
        rintro e u5 ⟨rfl, b5⟩
        have X5 := hide b5
        have C6 := hide (unhide CK u5 G1 (unhide ALL u5 b5).2.2.2.2.1 (unhide ALL u5 b5).2.2.2.1)
        clear b5 C5 c0 c1 c2 c3 c4 d0 d1 d2 d3 d4
        go_wp2_with fail
        refine (unhide C6).mono ?_
        rintro e u6 ⟨rfl, b6⟩
        have X6 := hide ((unhide X5).trans (b6.mono (unhide X5).size))
        have R6 := unhide ALL u6 (unhide X6)
        obtain ⟨c0, c1, c2, c3, c4⟩ := row_cell R6.1
        have C7 := hide (over_any (tVal D) _ ⟨#[121]⟩ (fun b => u1.heap.size ≤ b ∧ b < A2) u6 R6.2.2.2.2.2.1 (fun b hb => by have := hb.2; have := unhide SZ; have := (unhide X6).size; omega))
        clear b6 C6 R6
        go_wp2_with fail
        refine (unhide C7).mono ?_
        rintro e u7 ⟨rfl, h7⟩
        have H7 := hide h7
        have Y7 : Hid (Bys u7 G1 (zs ++ marks lb)) := hide ((h7.far (by have := unhide SZ; have := (unhide X6).size; omega) (fun hq => by have := hq.1; have := unhide SZ; omega)).trans (unhide ALL u6 (unhide X6)).2.2.2.1)
        have LN : Hid ((zs ++ marks lb).length = lb + 40) := hide (by rw [List.length_append, marks_len, (unhide HSM).2])
        clear h7 C7 c0 c1 c2 c3 c4
        go_wp2_with fail
        go_loopw [18] (fun x wx => ∃ (k : Nat) (xs : List Int), k ≤ lb + 40 ∧ x = .int .i64 k ∧ Hid (Bys wx G1 xs ∧ xs.length = lb + 40 ∧ wx.heap.size = u7.heap.size ∧ (∀ b, b ≠ G1 → wx.heap[b]? = u7.heap[b]?) ∧ Below G1 u7 wx)) (fun x _ => lb + 40 - (intOf x).toNat)
        case atStart => exact ⟨0, _, by omega, rfl, hide ⟨unhide Y7, unhide LN, rfl, fun _ _ => rfl, Below.refl _ _⟩⟩
        case round =>
          clear Y7 LN
          obtain ⟨k, xs, hk, rfl, HX⟩ := hrel
          by_cases hkl : k < lb + 40
          · have cx := (unhide HX).1.cell k (by have := (unhide HX).2.1; omega)
            have fx := (unhide HX).1.free k
            have k1 : (k : Int) < (lb : Int) + 40 := by omega
            have k0 : (0 : Int) ≤ (k : Int) := by omega
            have HX2 : Hid (Bys (wr.setCell ⟨G1, k, none⟩ (.int .u8 9)) G1 (xs.set k 9) ∧ (xs.set k 9).length = lb + 40 ∧ (wr.setCell ⟨G1, k, none⟩ (.int .u8 9)).heap.size = u7.heap.size ∧ (∀ b, b ≠ G1 → (wr.setCell ⟨G1, k, none⟩ (.int .u8 9)).heap[b]? = u7.heap[b]?) ∧ Below G1 u7 (wr.setCell ⟨G1, k, none⟩ (.int .u8 9))) := hide (by
              obtain ⟨x1, x2, x3, x4, x5⟩ := unhide HX
              refine ⟨x1.set k 9, by simpa using x2, by simpa using x3, fun b hb => ?_, x5.setCell (p := ⟨G1, k, none⟩) (Nat.le_refl _) _⟩
              rw [heap_setCell_other _ _ _ _ hb]
              exact x4 b hb)
            generalize xs.getD k 0 = y0 at *
            go_wp2_with fail
            go_roundw
            case rel => exact ⟨k + 1, _, by omega, by go_num, HX2⟩
            case measure => simp [intOf]; omega
          · have k1 : ¬ (k : Int) < (lb : Int) + 40 := by omega
            have S6 := (unhide X6).size
            obtain ⟨s0, s1, s2', s3', s4', s5, s6, s7'⟩ := unhide SZ
            obtain ⟨x1, x2, x3, x4, x5⟩ := unhide HX
            have S7 := (unhide H7).size
            have R6 := unhide ALL u6 (unhide X6)
            have keep : ∀ b, b < u6.heap.size → A2 ≤ b → wr.heap[b]? = u6.heap[b]? := fun b hb hA => (x4 b (by omega)).trans ((unhide H7).far hb (fun hq => by have := hq.2; omega))
            have at3 := (keep A3 (by omega) (by omega)).trans R6.2.1
            have at4 := (keep A4 (by omega) (by omega)).trans R6.2.2.1
            have V3 : IsV wr wr.heap.size (tVal D) (.agg #[.int .i64 k3, .int .i64 n3, .string s3, .slice al3 ll3 cl3, .slice ak3 m3 ck3]) := (R6.2.2.2.2.2.2.1.move (fun b hb => keep b (by have := hb.2; omega) (by have := hb.1; omega))).isV (fun b hb => by have := hb.2; omega)
            have V4 : IsV wr wr.heap.size (tVal D) (.agg #[.int .i64 k4, .int .i64 n4, .string s4, .slice al4 ll4 cl4, .slice ak4 m4 ck4]) := (R6.2.2.2.2.2.2.2.move (fun b hb => keep b (by have := hb.2; omega) (by have := hb.1; omega))).isV (fun b hb => by have := hb.2; omega)
            have C8 := hide (unhide CS wr (tVal D) _ _ V3 V4)
            have HBn : Hid (Below w.heap.size w wr) := hide (R6.2.2.2.2.1.trans ((((unhide H7).below (B := w.heap.size) (by have := R6.2.2.2.2.1.size; omega) (fun b hb => by have := hb.1; omega))).trans (x5.mono (by omega))))
            obtain ⟨c0, c1, c2, c3, c4⟩ := row_cell at3
            obtain ⟨d0, d1, d2, d3, d4⟩ := row_cell at4
            clear at3 at4 V3 V4 keep R6 x1 x2 x3 x4 x5 S6 S7 s0 s1 s2' s3' s4' s5 s6 s7'
            go_wp2_with fail
            refine (unhide C8).mono ?_
            rintro e u9 ⟨rfl, b9⟩
            have HB9 := hide ((unhide HBn).trans (b9.mono (unhide HBn).size))
            clear b9 C8 c0 c1 c2 c3 c4 d0 d1 d2 d3 d4
            go_wp2_with fail
            go_roundw
            case rel => exact ⟨i + 1, by omega, by go_num, HB9⟩
            case measure => simp [intOf]; omega
    · have i1 : ¬ (i : Int) ≤ (np : Int) := by omega
      go_wp2_with fail
      go_ret
      exact ⟨rfl, unhide HB⟩
end Go.Proofs.Ytocklblkopmjgaa
