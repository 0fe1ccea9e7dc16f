/-
  The walk of StateReads; conditions: the bytes and eight more fit, the form's own reach.
-/
import Derived.Test.YtjkladljhbcelaaSRf
import Derived.Test.YtjkladljhbcelaaSSp
namespace Go.Proofs.Ytjkladljhbcelaa
open Go.RowKit
set_option linter.unusedVariables false
set_option linter.unusedSimpArgs false

def sOf : Except (Int × Int) (List En) → List En
  | .error _ => []
  | .ok es => es
def pOf : Except (Int × Int) (List En) → Int
  | .error p => p.2
  | .ok _ => 0
def eOf : Except (Int × Int) (List En) → Int
  | .error p => p.1
  | .ok _ => 0

theorem none_is (w : World) (P : Nat → Prop) : IsE w P [] none 0 :=
  ⟨fun _ => [], fun _ => ⟨rfl, rfl⟩, Nat.le_refl _, by simp, (fun a h => by cases h), (fun e h => by cases h), (fun i e h => by simp at h)⟩

/-- what Decode answers, in one form -/
theorem ResDS.one {w w' : World} {r : Except (Int × Int) (List En)} {e : Ending} (h : ResDS w r e w') : ∃ (al : Option Addr) (cl : Nat), e = .returned (.tuple #[.slice al (sOf r).length cl, .int .i64 (pOf r), .int .i64 (eOf r)]) ∧ IsE w' (fun b => w.heap.size ≤ b ∧ b < w'.heap.size) (sOf r) al cl ∧ OwnE w' (fun b => w.heap.size ≤ b ∧ b < w'.heap.size) (sOf r).length al cl ∧ Below w.heap.size w w' := by
  cases r with
  | error p =>
    obtain ⟨h1, h2⟩ := h
    exact ⟨none, 0, h1, none_is _ _, Or.inl ⟨rfl, rfl, rfl⟩, h2⟩
  | ok es =>
    obtain ⟨al, cl, h1, h2, h3, h4⟩ := h
    exact ⟨al, cl, h1, h2, h3, h4⟩

/-- what StateReads keeps: its copy of the bytes, the document's entries -/
structure Sr (w u : World) (G : Nat) (xs : List Int) (P2 : Nat → Prop) (M : List En) (b1 : Option Addr) (f1 : Nat) : Prop where
  below : Below w.heap.size w u
  bys : Bys u G xs
  isY : IsE u P2 M b1 f1
  lt2 : ∀ b, P2 b → b < u.heap.size

theorem Sr.later {w u u1 : World} {G : Nat} {xs : List Int} {P2 : Nat → Prop} {M : List En} {b1 : Option Addr} {f1 : Nat} (h : Sr w u G xs P2 M b1 f1) (hb : Below u.heap.size u u1) : Sr w u1 G xs P2 M b1 f1 :=
  ⟨h.below.trans (hb.mono h.below.size), (hb.block G h.bys.lt).trans h.bys, h.isY.to (fun b hP => hb.block b (h.lt2 b hP)) (fun _ h => h), fun b hP => Nat.lt_of_lt_of_le (h.lt2 b hP) hb.size⟩

theorem Sr.sp {w u u1 : World} {G : Nat} {xs : List Int} {P1 P2 : Nat → Prop} {M : List En} {b1 : Option Addr} {f1 : Nat} (h : Sr w u G xs P2 M b1 f1) (hb : Sp P1 u u1) (h1 : ∀ b, P1 b → w.heap.size ≤ b) (hG : ¬ P1 G) (h2 : ∀ b, P2 b → ¬ P1 b) : Sr w u1 G xs P2 M b1 f1 where
  below := ⟨hb.os.trans h.below.os, hb.tape.trans h.below.tape, hb.output.trans h.below.output, Nat.le_trans h.below.size hb.size, fun k hk => (hb.block k (Nat.lt_of_lt_of_le hk h.below.size) (fun hP => by have := h1 k hP; omega)).trans (h.below.block k hk)⟩
  bys := (hb.block G h.bys.lt hG).trans h.bys
  isY := h.isY.to (fun b hP => hb.block b (h.lt2 b hP) (h2 b hP)) (fun _ h => h)
  lt2 := fun b hP => Nat.lt_of_lt_of_le (h.lt2 b hP) hb.size

theorem info8 : (Try.prog.info? 5).map (fun i => (i.zero, i.size, i.bytes)) = some (some (.int .u8 0), 1, 1) := by kernel_rfl
theorem drewN_belowS {B : Nat} {a w : World} (h : Below B a w) (q : Nat) : Below B a (w.drewN q) := ⟨h.os, h.tape, h.output, h.size, h.block⟩

set_option maxRecDepth 100000 in
set_option maxHeartbeats 4000000 in
theorem reads_any (ao : Option Addr) (n cap : Nat) (zs : List Int) (w : World) (hz : Row8 w ao n cap zs) (hm : cap ≤ maxLen) (hn : n ≤ 140737488351232) :
    Calls Try.prog 3 #[.slice ao n cap] w fun e w' => e = .returned (.bool true) ∧ Below w.heap.size w w' := by
  obtain ⟨i0, hi, hz0, hz1, hz2⟩ := info_parts info8
  have hlen := hz.length
  have hle := hz.le
  have n1 : IntKind.i64.wrap ((n : Int) + 8) = (n : Int) + 8 := by rw [IntKind.wrap_i64]; omega
  have HZ := hide hz
  have HLT := hide hlen
  have HSM := hide hz.small
  clear hz hlen
  go_enter Try.func3, Try.ntmps3
  go_wp2_with fail
  refine (shown_any w).mono ?_
  rintro e u1 ⟨rfl, b1⟩
  have HZ1 := hide ((unhide HZ).later b1)
  have HB1 := hide b1
  obtain ⟨G, hG⟩ : ∃ G, u1.heap.size = G := ⟨_, rfl⟩
  have tokA : True := trivial
  clear b1
  go_upto_region 4 with (first
    | (at_make; refine wpList_make_full _ rfl _ _ 22 rfl G 5 i0 (.int .u8 0) 1 Try.underlying22 hi hz0 hz1 _ _ _ _ (n + 8) rfl rfl (by omega) (by omega) (by rw [hz2]; omega) (by unfold maxLen; omega) (by omega) ?_; intro w1 hown1 hgrow1; rw [hG] at hown1 ⊢; rw [made0] at hown1; have A1 := hide (own_bys hown1); have G1 : Hid (Below u1.heap.size u1 w1) := hide ⟨hgrow1.os, hgrow1.tape, hgrow1.output, hgrow1.size, fun k hk => hgrow1.block k hk (by simp)⟩; clear hown1 hgrow1)
    | (have _t := tokA; refine wpl_copy8 rfl (.tmp 21) (.tmp 22) rfl G (n + 8) ao n cap zs (List.replicate (n + 8) 0) rfl rfl ((unhide HZ1).later (unhide G1)) (unhide A1) (by omega) (by simp) ?_; intro w2 P2; clear tokA))
  obtain ⟨N8, hN8⟩ : ∃ N8, n + 8 = N8 := ⟨_, rfl⟩
  have hxs : zs ++ (List.replicate (n + 8) (0 : Int)).drop n = zs ++ List.replicate 8 0 := by rw [List.drop_replicate]; congr 2; omega
  have hP2 := unhide P2
  rw [hxs] at hP2
  have HB2 : Hid (Below w.heap.size w w2 ∧ w.heap.size ≤ G ∧ Bys w2 G (zs ++ List.replicate 8 0)) := hide ⟨hP2.2.2 w.heap.size w ((unhide HB1).trans ((unhide G1).mono (unhide HB1).size)) (by have := (unhide HB1).size; omega), by have := (unhide HB1).size; omega, hP2.1⟩
  have hN8l : (n : Int) ≤ (N8 : Int) := by omega
  have hN8m : N8 ≤ maxLen := by unfold maxLen; omega
  have HN8 := hide hN8
  obtain ⟨M, hM⟩ : ∃ M, sOf (decS zs) = M := ⟨_, rfl⟩
  obtain ⟨p0, hp0⟩ : ∃ p, pOf (decS zs) = p := ⟨_, rfl⟩
  obtain ⟨e0, he0⟩ : ∃ p, eOf (decS zs) = p := ⟨_, rfl⟩
  have HC1 : Hid (∀ u, Bys u G (zs ++ List.replicate 8 0) → Calls Try.prog 5 #[.slice (some ⟨G, 0, none⟩) n N8] u fun e u' => ∃ (al : Option Addr) (cl : Nat), e = .returned (.tuple #[.slice al M.length cl, .int .i64 p0, .int .i64 e0]) ∧ IsE u' (fun b => u.heap.size ≤ b ∧ b < u'.heap.size) M al cl ∧ OwnE u' (fun b => u.heap.size ≤ b ∧ b < u'.heap.size) M.length al cl ∧ Below u.heap.size u u') := hide (fun u hu => by
    have h1 := hu.row (unhide HSM) N8 (by rw [unhide HLT]; have := unhide HN8; omega)
    rw [unhide HLT] at h1
    refine (decodeS_any (some ⟨G, 0, none⟩) n N8 zs u h1 hN8m).mono fun e u' h => ?_
    have := ResDS.one h
    rw [hM, hp0, he0] at this
    exact this)
  have HC2 : Hid (∀ u, Row8 u ao n cap zs → Calls Try.prog 6 #[.slice ao n cap] u fun e u' => ∃ (al : Option Addr) (cl : Nat), e = .returned (.tuple #[.slice al M.length cl, .int .i64 p0, .int .i64 e0]) ∧ IsE u' (fun b => u.heap.size ≤ b ∧ b < u'.heap.size) M al cl ∧ Below u.heap.size u u') := hide (fun u hu => by
    refine (decodeR_any ao n cap zs u hu hm).mono fun e u' h => ?_
    obtain ⟨al, cl, h1, h2, h3, h4⟩ := ResDS.one h
    rw [hM] at h1 h2
    rw [hp0, he0] at h1
    exact ⟨al, cl, h1, h2, h4⟩)
  obtain ⟨k1, hk1⟩ : ∃ k, M.length = k := ⟨_, rfl⟩
  rw [hk1] at HC1 HC2
  have HK := hide hk1
  rw [hN8]
  clear hk1 hM hp0 he0 hP2 hxs P2 A1 G1 n1 hN8
  have C4 := hide (unhide HC1 w2 (unhide HB2).2.2)
  go_wp2_with fail
  refine (unhide C4).mono ?_
  rintro e u3 ⟨a1, c1, rfl, i3, o3, b3⟩
  have H3 := hide (And.intro i3 (And.intro o3 b3))
  clear C4 i3 o3 b3
  have HW4 : Hid (Below w.heap.size w u3) := hide ((unhide HB2).1.trans ((unhide H3).2.2.mono (unhide HB2).1.size))
  have C5 := hide (unhide HC2 u3 ((unhide HZ).later (unhide HW4)))
  go_wp2_with fail
  refine (unhide C5).mono ?_
  rintro e u5 ⟨b1, f1, rfl, i5, b5⟩
  have HS6 : Hid (Sr w u5 G (zs ++ List.replicate 8 0) (fun b => u3.heap.size ≤ b ∧ b < u5.heap.size) M b1 f1) := hide (by
    obtain ⟨x1, x2, x3⟩ := unhide HB2
    obtain ⟨y1, y2, y3⟩ := unhide H3
    refine ⟨(unhide HW4).trans (b5.mono (unhide HW4).size), ?_, i5, fun b hb => hb.2⟩
    have h1 := (y3.block G x3.lt).trans x3
    exact (b5.block G (lt_of_row h1)).trans h1)
  have HX6 : Hid (IsE u5 (fun b => w2.heap.size ≤ b ∧ b < u3.heap.size) M a1 c1 ∧ OwnE u5 (fun b => w2.heap.size ≤ b ∧ b < u3.heap.size) k1 a1 c1) := hide ⟨(unhide H3).1.to (fun b hb => b5.block b hb.2) (fun _ h => h), (unhide H3).2.1.to (fun b hb => b5.block b hb.2) (fun _ h => h)⟩
  have HSZ5 : Hid (u3.heap.size ≤ u5.heap.size) := hide b5.size
  clear C5 i5 b5
  have C6 := hide (entries_any M M a1 b1 k1 k1 c1 f1 u5.heap.size u5 (unhide HK) (unhide HK) ((unhide HX6).1.weak (fun b hb => by have := unhide HSZ5; omega)) ((unhide HS6).isY.weak (fun b hb => (unhide HS6).lt2 b hb)) (Nat.le_refl _))
  go_wp2_with fail
  refine (unhide C6).mono ?_
  rintro e u7 ⟨r6, rfl, hr6, b7⟩
  obtain rfl : r6 = true := hr6.2 rfl
  have HS7 := hide ((unhide HS6).later b7)
  have HO7 : Hid (OwnE u7 (fun b => w2.heap.size ≤ b ∧ b < u3.heap.size) k1 a1 c1) := hide ((unhide HX6).2.to (fun b hb => b7.block b (by have := unhide HSZ5; omega)) (fun _ h => h))
  have HSZ : Hid (w2.heap.size ≤ u3.heap.size ∧ u3.heap.size ≤ u5.heap.size ∧ u5.heap.size ≤ u7.heap.size ∧ G < w2.heap.size ∧ w.heap.size ≤ w2.heap.size) := hide ⟨(unhide H3).2.2.size, unhide HSZ5, b7.size, (unhide HB2).2.2.lt, (unhide HB2).1.size⟩
  clear C6 hr6 b7 HS6 HX6 H3 HW4
  have C7 := hide (spoilS_any (fun b => w2.heap.size ≤ b ∧ b < u3.heap.size) u7 a1 k1 c1 (unhide HO7) (fun b hb => by have := unhide HSZ; omega))
  clear HO7
  go_wp2_with fail
  refine (unhide C7).mono ?_
  rintro e u8 ⟨rfl, s8⟩
  have HS8 := hide ((unhide HS7).sp s8 (fun b hb => by have := unhide HSZ; omega) (fun h => by have := unhide HSZ; omega) (fun b h2 h1 => by have := unhide HSZ; omega))
  clear s8 C7 HS7
  have C8 := hide (unhide HC1 u8 (unhide HS8).bys)
  go_wp2_with fail
  refine (unhide C8).mono ?_
  rintro e u10 ⟨d1, g1, rfl, i9, o9, b9⟩
  have HS10 := hide ((unhide HS8).later b9)
  have HI10 : Hid (IsE u10 (fun b => b < u10.heap.size) M d1 g1) := hide (i9.weak (fun b hb => hb.2))
  clear C8 i9 o9 b9 HS8 HC1 HC2
  go_wp2_with fail
  go_loopw [15] (fun x wr => ∃ i : Nat, i ≤ N8 ∧ x = .int .i64 (i : Int) ∧ Hid (Below u10.heap.size u10 wr)) (fun x _ => N8 - (intOf x).toNat)
  case atStart => exact ⟨0, by omega, rfl, hide (Below.refl _ _)⟩
  case round =>
    obtain ⟨i, hi8, rfl, HBR⟩ := hrel
    have hS := (unhide HS10).later (unhide HBR)
    have HSr := hide hS
    clear hS
    by_cases hlt : i < N8
    · have j1 : (i : Int) < (N8 : Int) := by omega
      have cI := (unhide HSr).bys.cell i (by rw [List.length_append, List.length_replicate, unhide HLT]; have := unhide HN8; omega)
      have hcp : N8 ≤ 9223372036854775807 := by unfold maxLen at hN8m; omega
      by_cases hin : i < n
      · have j2 : (i : Int) < (n : Int) := by omega
        have hz9 := (unhide HZ).later (unhide HSr).below
        obtain ⟨bb, off, rfl, hc⟩ := hz9.at (by omega)
        have cB := hc i hin
        have hcm : cap ≤ 9223372036854775807 := by unfold maxLen at hm; omega
        have hgd : (zs ++ List.replicate 8 (0 : Int)).getD i 0 = zs.getD i 0 := by
          rw [List.getD_eq_getElem?_getD, List.getD_eq_getElem?_getD, List.getElem?_append_left (by rw [unhide HLT]; exact hin)]
        rw [hgd] at cI
        obtain ⟨yy, hyy⟩ : ∃ yy, zs.getD i 0 = yy := ⟨_, rfl⟩
        rw [hyy] at cI cB
        have k4 : (yy == yy) = true := by simp
        have k5 : (yy != yy) = false := by simp
        have k6 : decide (n ≤ i) = false := decide_eq_false (by omega)
        have k7 : decide (i < n) = true := decide_eq_true hin
        have k8 : ¬ (n : Int) ≤ (i : Int) := by omega
        clear hc hz9 hgd hyy
        go_upto_region 12 with fail
        go_quiet (fail)
        go_wp2_with fail
        go_roundw
        case rel => exact ⟨i + 1, by omega, by go_num, hide (drewN_belowS (unhide HBR) _)⟩
        case measure => simp [intOf]; omega
      · have j2 : ¬ (i : Int) < (n : Int) := by omega
        have hgd : (zs ++ List.replicate 8 (0 : Int)).getD i 0 = 0 := by
          rw [List.getD_eq_getElem?_getD, List.getElem?_append_right (by rw [unhide HLT]; omega), List.getElem?_replicate]
          split <;> rfl
        rw [hgd] at cI
        have k6 : decide (n ≤ i) = true := decide_eq_true (by omega)
        have k7 : decide (i < n) = false := decide_eq_false hin
        have k8 : (n : Int) ≤ (i : Int) := by omega
        clear hgd
        go_upto_region 12 with fail
        go_quiet (fail)
        go_wp2_with fail
        go_roundw
        case rel => exact ⟨i + 1, by omega, by go_num, hide (drewN_belowS (unhide HBR) _)⟩
        case measure => simp [intOf]; omega
    · have j1 : ¬ (i : Int) < (N8 : Int) := by omega
      have hI := (unhide HI10).later (unhide HBR)
      have C14 := hide (entries_any M M d1 b1 k1 k1 g1 f1 wr.heap.size wr (unhide HK) (unhide HK) (hI.weak (fun b hb => Nat.lt_of_lt_of_le hb (unhide HBR).size)) ((unhide HSr).isY.weak (fun b hb => (unhide HSr).lt2 b hb)) (Nat.le_refl _))
      have k4 : (p0 == p0) = true := by simp
      have k5 : (e0 == e0) = true := by simp
      clear hI
      go_wp2_with fail
      refine (unhide C14).mono ?_
      rintro e u15 ⟨r6, rfl, hr6, b15⟩
      obtain rfl : r6 = true := hr6.2 rfl
      have HF := hide ((unhide HSr).later b15).below
      clear hr6 b15 C14
      go_wp2_with fail
      go_ret
      exact ⟨by simp, unhide HF⟩
end Go.Proofs.Ytjkladljhbcelaa
