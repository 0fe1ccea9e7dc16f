/-
  The walk of ModuleReads; conditions: the bytes and eight more fit, the form's own reach.
-/
import Derived.Test.YtfdnhpmldnmncaaR49
import Derived.Test.YtfdnhpmldnmncaaR52
import Derived.Test.YtfdnhpmldnmncaaR53
import Derived.Test.YtfdnhpmldnmncaaR29
namespace Go.Proofs.Ytfdnhpmldnmncaa
open Go.RowKit
set_option linter.unusedVariables false
set_option linter.unusedSimpArgs false

def mOf : Except (Int × Int) Md → Md
  | .error _ => md0
  | .ok m => m
def pOf : Except (Int × Int) Md → Int
  | .error p => p.2
  | .ok _ => 0
def eOf : Except (Int × Int) Md → Int
  | .error p => p.1
  | .ok _ => 0

/-- what Decode answers, in one form -/
theorem ResD.one {w w' : World} {r : Except (Int × Int) Md} {e : Ending} (h : ResD w r e w') : ∃ (a1 a2 a3 : Option Addr) (c1 c2 c3 : Nat), e = .returned (.tuple #[.agg #[.slice a1 (mOf r).cs.length c1, .slice a2 (mOf r).fs.length c2, .slice a3 (mOf r).xs.length c3], .int .i64 (pOf r), .int .i64 (eOf r)]) ∧ IsM w' (fun b => w.heap.size ≤ b ∧ b < w'.heap.size) (mOf r) a1 c1 a2 c2 a3 c3 ∧ OwnM w' (fun b => w.heap.size ≤ b ∧ b < w'.heap.size) (mOf r) a1 c1 a2 c2 a3 c3 ∧ Below w.heap.size w w' := by
  cases r with
  | error p =>
    obtain ⟨h1, h2⟩ := h
    exact ⟨none, none, none, 0, 0, 0, h1, md0_is _ _, ⟨⟨0, 4, 0, ⟨#[]⟩, rfl⟩, Or.inl ⟨rfl, rfl⟩, Or.inl ⟨rfl, rfl⟩⟩, h2⟩
  | ok m =>
    obtain ⟨a1, a2, a3, c1, c2, c3, h1, h2, h3, h4⟩ := h
    exact ⟨a1, a2, a3, c1, c2, c3, h1, h2, h3, h4⟩

/-- what ModuleReads keeps: its copy of the bytes, two modules in boxes, the second as it was read -/
structure Sr (w u : World) (G gx gy : Nat) (xs : List Int) (P2 : Nat → Prop) (M : Md) (X Y : Array Value) (b1 : Option Addr) (f1 : Nat) (b2 : Option Addr) (f2 : Nat) (b3 : Option Addr) (f3 : Nat) : Prop where
  below : Below w.heap.size w u
  bys : Bys u G xs
  bx : u.heap[gx]? = some (.cells X 28 (0, 0))
  by' : u.heap[gy]? = some (.cells Y 28 (0, 0))
  isY : IsM u P2 M b1 f1 b2 f2 b3 f3
  lt2 : ∀ b, P2 b → b < u.heap.size

theorem Sr.later {w u u1 : World} {G gx gy : Nat} {xs : List Int} {P2 : Nat → Prop} {M : Md} {X Y : Array Value} {b1 b2 b3 : Option Addr} {f1 f2 f3 : Nat} (h : Sr w u G gx gy xs P2 M X Y b1 f1 b2 f2 b3 f3) (hb : Below u.heap.size u u1) : Sr w u1 G gx gy xs P2 M X Y b1 f1 b2 f2 b3 f3 :=
  ⟨h.below.trans (hb.mono h.below.size), (hb.block G h.bys.lt).trans h.bys, (hb.block gx (lt_of_row h.bx)).trans h.bx, (hb.block gy (lt_of_row h.by')).trans h.by', h.isY.to (fun b hP => hb.block b (h.lt2 b hP)) (fun _ h => h), fun b hP => Nat.lt_of_lt_of_le (h.lt2 b hP) hb.size⟩

theorem Sr.sp {w u u1 : World} {G gx gy : Nat} {xs : List Int} {P1 P2 : Nat → Prop} {M : Md} {X Y : Array Value} {b1 b2 b3 : Option Addr} {f1 f2 f3 : Nat} (h : Sr w u G gx gy xs P2 M X Y b1 f1 b2 f2 b3 f3) (hb : Sp P1 u u1) (h1 : ∀ b, P1 b → w.heap.size ≤ b) (hG : ¬ P1 G) (hx : ¬ P1 gx) (hy : ¬ P1 gy) (h2 : ∀ b, P2 b → ¬ P1 b) : Sr w u1 G gx gy xs P2 M X Y b1 f1 b2 f2 b3 f3 where
  below := ⟨hb.os.trans h.below.os, hb.tape.trans h.below.tape, hb.output.trans h.below.output, Nat.le_trans h.below.size hb.size, fun k hk => (hb.block k (Nat.lt_of_lt_of_le hk h.below.size) (fun hP => by have := h1 k hP; omega)).trans (h.below.block k hk)⟩
  bys := (hb.block G h.bys.lt hG).trans h.bys
  bx := (hb.block gx (lt_of_row h.bx) hx).trans h.bx
  by' := (hb.block gy (lt_of_row h.by') hy).trans h.by'
  isY := h.isY.to (fun b hP => hb.block b (h.lt2 b hP) (h2 b hP)) (fun _ h => h)
  lt2 := fun b hP => Nat.lt_of_lt_of_le (h.lt2 b hP) hb.size

theorem info8 : (Try.prog.info? 5).map (fun i => (i.zero, i.size, i.bytes)) = some (some (.int .u8 0), 1, 1) := by kernel_rfl

set_option maxRecDepth 100000 in
set_option maxHeartbeats 4000000 in
theorem reads_any (ao : Option Addr) (n cap : Nat) (zs : List Int) (w : World) (hz : Row8 w ao n cap zs) (hm : cap ≤ maxLen) (hn : n ≤ 140737488351232) :
    Calls Try.prog 3 #[.slice ao n cap] w fun e w' => e = .returned (.bool true) ∧ Below w.heap.size w w' := by
  obtain ⟨i0, hi, hz0, hz1, hz2⟩ := info_parts info8
  have hlen := hz.length
  have hle := hz.le
  have n1 : IntKind.i64.wrap ((n : Int) + 8) = (n : Int) + 8 := by rw [IntKind.wrap_i64]; omega
  have HZ := hide hz
  have HLT := hide hlen
  have HSM := hide hz.small
  clear hz hlen
  go_enter Try.func3, Try.ntmps3
  go_wp2_with fail
  refine (shown_any w).mono ?_
  rintro e u1 ⟨rfl, b1⟩
  have HZ1 := hide ((unhide HZ).later b1)
  have HB1 := hide b1
  obtain ⟨G, hG⟩ : ∃ G, u1.heap.size = G := ⟨_, rfl⟩
  have tokA : True := trivial
  clear b1
  go_upto_region 4 with (first
    | (at_make; refine wpList_make_full _ rfl _ _ 22 rfl G 5 i0 (.int .u8 0) 1 Try.underlying22 hi hz0 hz1 _ _ _ _ (n + 8) rfl rfl (by omega) (by omega) (by rw [hz2]; omega) (by unfold maxLen; omega) (by omega) ?_; intro w1 hown1 hgrow1; rw [hG] at hown1 ⊢; rw [made0] at hown1; have A1 := hide (own_bys hown1); have G1 : Hid (Below u1.heap.size u1 w1) := hide ⟨hgrow1.os, hgrow1.tape, hgrow1.output, hgrow1.size, fun k hk => hgrow1.block k hk (by simp)⟩; clear hown1 hgrow1)
    | (have _t := tokA; refine wpl_copy8 rfl (.tmp 21) (.tmp 22) rfl G (n + 8) ao n cap zs (List.replicate (n + 8) 0) rfl rfl ((unhide HZ1).later (unhide G1)) (unhide A1) (by omega) (by simp) ?_; intro w2 P2; clear tokA))
  obtain ⟨N8, hN8⟩ : ∃ N8, n + 8 = N8 := ⟨_, rfl⟩
  have hxs : zs ++ (List.replicate (n + 8) (0 : Int)).drop n = zs ++ List.replicate 8 0 := by rw [List.drop_replicate]; congr 2; omega
  have hP2 := unhide P2
  rw [hxs] at hP2
  have HB2 : Hid (Below w.heap.size w w2 ∧ w.heap.size ≤ G ∧ Bys w2 G (zs ++ List.replicate 8 0)) := hide ⟨hP2.2.2 w.heap.size w ((unhide HB1).trans ((unhide G1).mono (unhide HB1).size)) (by have := (unhide HB1).size; omega), by have := (unhide HB1).size; omega, hP2.1⟩
  have hN8l : (n : Int) ≤ (N8 : Int) := by omega
  have hN8m : N8 ≤ maxLen := by unfold maxLen; omega
  have HN8 := hide hN8
  obtain ⟨M, hM⟩ : ∃ M, mOf (decM zs) = M := ⟨_, rfl⟩
  obtain ⟨p0, hp0⟩ : ∃ p, pOf (decM zs) = p := ⟨_, rfl⟩
  obtain ⟨e0, he0⟩ : ∃ p, eOf (decM zs) = p := ⟨_, rfl⟩
  have hk : M.fs.length ≤ 24 ∧ M.xs.length ≤ 24 := by
    rw [← hM]
    cases hD : decM zs with
    | error q => exact ⟨Nat.zero_le _, Nat.zero_le _⟩
    | ok m =>
      have h1 := (decM_sound (unhide HSM) hD).1
      unfold rightM at h1
      rw [Bool.and_eq_true] at h1
      obtain ⟨_, h2, h3, _⟩ := formed_parts h1.1
      exact ⟨h2, h3⟩
  have HC1 : Hid (∀ u, Bys u G (zs ++ List.replicate 8 0) → Calls Try.prog 7 #[.slice (some ⟨G, 0, none⟩) n N8] u fun e u' => ∃ (a1 a2 a3 : Option Addr) (c1 c2 c3 : Nat), e = .returned (.tuple #[.agg #[.slice a1 M.cs.length c1, .slice a2 M.fs.length c2, .slice a3 M.xs.length c3], .int .i64 p0, .int .i64 e0]) ∧ IsM u' (fun b => u.heap.size ≤ b ∧ b < u'.heap.size) M a1 c1 a2 c2 a3 c3 ∧ OwnM u' (fun b => u.heap.size ≤ b ∧ b < u'.heap.size) M a1 c1 a2 c2 a3 c3 ∧ Below u.heap.size u u') := hide (fun u hu => by
    have h1 := hu.row (unhide HSM) N8 (by rw [unhide HLT]; have := unhide HN8; omega)
    rw [unhide HLT] at h1
    refine (decodeM_any (some ⟨G, 0, none⟩) n N8 zs u h1 hN8m).mono fun e u' h => ?_
    have := ResD.one h
    rw [hM, hp0, he0] at this
    exact this)
  have HC2 : Hid (∀ u, Row8 u ao n cap zs → Calls Try.prog 8 #[.slice ao n cap] u fun e u' => ∃ (a1 a2 a3 : Option Addr) (c1 c2 c3 : Nat), e = .returned (.tuple #[.agg #[.slice a1 M.cs.length c1, .slice a2 M.fs.length c2, .slice a3 M.xs.length c3], .int .i64 p0, .int .i64 e0]) ∧ IsM u' (fun b => u.heap.size ≤ b ∧ b < u'.heap.size) M a1 c1 a2 c2 a3 c3 ∧ Below u.heap.size u u') := hide (fun u hu => by
    refine (decodeQ_any ao n cap zs u hu hm).mono fun e u' h => ?_
    obtain ⟨a1, a2, a3, c1, c2, c3, h1, h2, h3, h4⟩ := ResD.one h
    rw [hM] at h1 h2
    rw [hp0, he0] at h1
    exact ⟨a1, a2, a3, c1, c2, c3, h1, h2, h4⟩)
  obtain ⟨k1, hk1⟩ : ∃ k, M.cs.length = k := ⟨_, rfl⟩
  obtain ⟨k2, hk2⟩ : ∃ k, M.fs.length = k := ⟨_, rfl⟩
  obtain ⟨k3, hk3⟩ : ∃ k, M.xs.length = k := ⟨_, rfl⟩
  rw [hk1, hk2, hk3] at HC1 HC2
  have HK := hide (And.intro hk1 (And.intro hk2 (And.intro hk3 hk)))
  rw [hN8]
  clear hk1 hk2 hk3 hk hM hp0 he0 hP2 hxs P2 A1 G1 n1 hN8
  have C4 := hide (unhide HC1 w2 (unhide HB2).2.2)
  go_wp2_with fail
  refine (unhide C4).mono ?_
  rintro e u3 ⟨a1, a2, a3, c1, c2, c3, rfl, i3, o3, b3⟩
  have H3 := hide (And.intro i3 (And.intro o3 b3))
  clear C4 i3 o3 b3
  obtain ⟨gx, hgx⟩ : ∃ gx, u3.heap.size = gx := ⟨_, rfl⟩
  have HGX := hide hgx
  go_upto_region 5 with fail
  obtain ⟨u4, hu4⟩ : ∃ u4, u3.alloc (.cells #[.slice a1 k1 c1, .slice a2 k2 c2, .slice a3 k3 c3] 28) = u4 := ⟨_, rfl⟩
  have B4 : Hid (Below u3.heap.size u3 u4 ∧ u4.heap[gx]? = some (.cells #[.slice a1 k1 c1, .slice a2 k2 c2, .slice a3 k3 c3] 28 (0, 0)) ∧ u4.heap.size = gx + 1) := hide (by
    rw [← hu4, ← hgx]
    exact ⟨(Below.refl _ _).alloc (Nat.le_refl _) _, heap_alloc_new _ _, by simp⟩)
  rw [hu4]
  clear hu4 hgx
  have HW4 : Hid (Below w.heap.size w u4) := hide ((unhide HB2).1.trans (((unhide H3).2.2.mono (unhide HB2).1.size).trans ((unhide B4).1.mono (by have := (unhide HB2).1.size; have := (unhide H3).2.2.size; omega))))
  have C5 := hide (unhide HC2 u4 ((unhide HZ).later (unhide HW4)))
  go_wp2_with fail
  refine (unhide C5).mono ?_
  rintro e u5 ⟨b1, b2, b3, f1, f2, f3, rfl, i5, b5⟩
  have H5 := hide (And.intro i5 b5)
  clear C5 i5 b5
  obtain ⟨gy, hgy⟩ : ∃ gy, u5.heap.size = gy := ⟨_, rfl⟩
  have HGY := hide hgy
  go_upto_region 6 with fail
  obtain ⟨u6, hu6⟩ : ∃ u6, u5.alloc (.cells #[.slice b1 k1 f1, .slice b2 k2 f2, .slice b3 k3 f3] 28) = u6 := ⟨_, rfl⟩
  have B6 : Hid (Below u5.heap.size u5 u6 ∧ u6.heap[gy]? = some (.cells #[.slice b1 k1 f1, .slice b2 k2 f2, .slice b3 k3 f3] 28 (0, 0)) ∧ u6.heap.size = gy + 1) := hide (by
    rw [← hu6, ← hgy]
    exact ⟨(Below.refl _ _).alloc (Nat.le_refl _) _, heap_alloc_new _ _, by simp⟩)
  rw [hu6]
  clear hu6 hgy
  have B46 : Hid (Below u4.heap.size u4 u6) := hide ((unhide H5).2.trans ((unhide B6).1.mono (unhide H5).2.size))
  have B36 : Hid (Below u3.heap.size u3 u6) := hide ((unhide B4).1.trans ((unhide B46).mono (unhide B4).1.size))
  have HS6 : Hid (Sr w u6 G gx gy (zs ++ List.replicate 8 0) (fun b => u4.heap.size ≤ b ∧ b < u5.heap.size) M #[.slice a1 k1 c1, .slice a2 k2 c2, .slice a3 k3 c3] #[.slice b1 k1 f1, .slice b2 k2 f2, .slice b3 k3 f3] b1 f1 b2 f2 b3 f3) := hide (by
    obtain ⟨x1, x2, x3⟩ := unhide HB2
    obtain ⟨y1, y2, y3⟩ := unhide H3
    refine ⟨(unhide HW4).trans ((unhide B46).mono (unhide HW4).size), ?_, ?_, (unhide B6).2.1, (unhide H5).1.to (fun b hb => (unhide B6).1.block b hb.2) (fun _ h => h), fun b hb => Nat.lt_of_lt_of_le hb.2 (unhide B6).1.size⟩
    · have h1 := (y3.block G x3.lt).trans x3
      exact ((unhide B36).block G (lt_of_row h1)).trans h1
    · exact ((unhide B46).block gx (lt_of_row (unhide B4).2.1)).trans (unhide B4).2.1)
  have HX6 : Hid (IsM u6 (fun b => w2.heap.size ≤ b ∧ b < u3.heap.size) M a1 c1 a2 c2 a3 c3 ∧ OwnM u6 (fun b => w2.heap.size ≤ b ∧ b < u3.heap.size) M a1 c1 a2 c2 a3 c3) := hide ⟨(unhide H3).1.to (fun b hb => (unhide B36).block b hb.2) (fun _ h => h), (unhide H3).2.1.to (fun b hb => (unhide B36).block b hb.2) (fun _ h => h)⟩
  have C6 := hide (sameM_any M M a1 a2 a3 b1 b2 b3 k1 c1 k2 c2 k3 c3 k1 f1 k2 f2 k3 f3 u6.heap.size u6 (unhide HK).1 (unhide HK).2.1 (unhide HK).2.2.1 (unhide HK).1 (unhide HK).2.1 (unhide HK).2.2.1 ((unhide HX6).1.weak (fun b hb => by have := (unhide B36).size; omega)) ((unhide HS6).isY.weak (fun b hb => (unhide HS6).lt2 b hb)) (Nat.le_refl _))
  obtain ⟨x0, x1, x2⟩ := row_cell3 (unhide HS6).bx
  obtain ⟨y0, y1, y2⟩ := row_cell3 (unhide HS6).by'
  go_wp2_with fail
  refine (unhide C6).mono ?_
  rintro e u7 ⟨r6, rfl, hr6, b7⟩
  obtain rfl : r6 = true := hr6.2 rfl
  have HS7 := hide ((unhide HS6).later b7)
  have HO7 : Hid (OwnM u7 (fun b => w2.heap.size ≤ b ∧ b < u3.heap.size) M a1 c1 a2 c2 a3 c3) := hide ((unhide HX6).2.to (fun b hb => b7.block b (by have := (unhide B36).size; omega)) (fun _ h => h))
  have HSZ : Hid (w2.heap.size ≤ u3.heap.size ∧ gx = u3.heap.size ∧ u4.heap.size = gx + 1 ∧ u4.heap.size ≤ u5.heap.size ∧ gy = u5.heap.size ∧ u6.heap.size ≤ u7.heap.size ∧ u6.heap.size = gy + 1 ∧ G < w2.heap.size ∧ w.heap.size ≤ w2.heap.size) := hide ⟨(unhide H3).2.2.size, (unhide HGX).symm, (unhide B4).2.2, (unhide H5).2.size, (unhide HGY).symm, b7.size, (unhide B6).2.2, (unhide HB2).2.2.lt, (unhide HB2).1.size⟩
  clear x0 x1 x2 y0 y1 y2 C6 hr6 b7 HS6 HX6 H3 H5 B4 B6 B46 B36 HW4
  obtain ⟨x0, x1, x2⟩ := row_cell3 (unhide HS7).bx
  obtain ⟨⟨rk, hty⟩, hrf, hrx⟩ := unhide HO7
  rw [(unhide HK).1] at hty
  rw [(unhide HK).2.1] at hrf
  rw [(unhide HK).2.2.1] at hrx
  have C7 := hide (spoilM_any rk (fun b => w2.heap.size ≤ b ∧ b < u3.heap.size) u7 a1 a2 a3 k1 c1 k2 c2 k3 c3 hty hrf.row hrx.row (fun b hb => by have := unhide HSZ; omega) (by have := (unhide HK).2.2.2; have := (unhide HK).2.1; omega) (by have := (unhide HK).2.2.2; have := (unhide HK).2.2.1; omega))
  clear hty hrf hrx HO7
  go_wp2_with fail
  refine (unhide C7).mono ?_
  rintro e u8 ⟨rfl, s8⟩
  have HS8 := hide ((unhide HS7).sp s8 (fun b hb => by have := unhide HSZ; omega) (fun h => by have := unhide HSZ; omega) (fun h => by have := unhide HSZ; omega) (fun h => by have := unhide HSZ; omega) (fun b h2 h1 => by have := unhide HSZ; omega))
  clear s8 C7 x0 x1 x2 HS7
  have C8 := hide (unhide HC1 u8 (unhide HS8).bys)
  go_wp2_with fail
  refine (unhide C8).mono ?_
  rintro e u9 ⟨d1, d2, d3, g1, g2, g3, rfl, i9, o9, b9⟩
  have HS9 := hide ((unhide HS8).later b9)
  have HI9 := hide i9
  clear C8 i9 o9 b9 HS8 HC1 HC2
  obtain ⟨gz, hgz⟩ : ∃ gz, u9.heap.size = gz := ⟨_, rfl⟩
  have HGZ := hide hgz
  go_upto_region 9 with fail
  obtain ⟨u10, hu10⟩ : ∃ u10, u9.alloc (.cells #[.slice d1 k1 g1, .slice d2 k2 g2, .slice d3 k3 g3] 28) = u10 := ⟨_, rfl⟩
  have B10 : Hid (Below u9.heap.size u9 u10 ∧ u10.heap[gz]? = some (.cells #[.slice d1 k1 g1, .slice d2 k2 g2, .slice d3 k3 g3] 28 (0, 0))) := hide (by
    rw [← hu10, ← hgz]
    exact ⟨(Below.refl _ _).alloc (Nat.le_refl _) _, heap_alloc_new _ _⟩)
  rw [hu10]
  clear hu10 hgz
  have HS10 := hide ((unhide HS9).later (unhide B10).1)
  have HI10 : Hid (IsM u10 (fun b => b < u10.heap.size) M d1 g1 d2 g2 d3 g3) := hide ((unhide HI9).to (fun b hb => (unhide B10).1.block b hb.2) (fun b hb => Nat.lt_of_lt_of_le hb.2 (unhide B10).1.size))
  clear HS9 HI9
  go_wp2_with fail
  go_loopw [15] (fun x wr => ∃ i : Nat, i ≤ N8 ∧ x = .int .i64 (i : Int) ∧ Hid (Below u10.heap.size u10 wr)) (fun x _ => N8 - (intOf x).toNat)
  case atStart => exact ⟨0, by omega, rfl, hide (Below.refl _ _)⟩
  case round =>
    obtain ⟨i, hi8, rfl, HBR⟩ := hrel
    have hS := (unhide HS10).later (unhide HBR)
    have HSr := hide hS
    clear hS
    by_cases hlt : i < N8
    · have j1 : (i : Int) < (N8 : Int) := by omega
      have cI := (unhide HSr).bys.cell i (by rw [List.length_append, List.length_replicate, unhide HLT]; have := unhide HN8; omega)
      have hcp : N8 ≤ 9223372036854775807 := by unfold maxLen at hN8m; omega
      by_cases hin : i < n
      · have j2 : (i : Int) < (n : Int) := by omega
        have hz9 := (unhide HZ).later (unhide HSr).below
        obtain ⟨bb, off, rfl, hc⟩ := hz9.at (by omega)
        have cB := hc i hin
        have hcm : cap ≤ 9223372036854775807 := by unfold maxLen at hm; omega
        have hgd : (zs ++ List.replicate 8 (0 : Int)).getD i 0 = zs.getD i 0 := by
          rw [List.getD_eq_getElem?_getD, List.getD_eq_getElem?_getD, List.getElem?_append_left (by rw [unhide HLT]; exact hin)]
        rw [hgd] at cI
        obtain ⟨yy, hyy⟩ : ∃ yy, zs.getD i 0 = yy := ⟨_, rfl⟩
        rw [hyy] at cI cB
        have k4 : (yy == yy) = true := by simp
        have k5 : (yy != yy) = false := by simp
        have k6 : decide (n ≤ i) = false := decide_eq_false (by omega)
        have k7 : decide (i < n) = true := decide_eq_true hin
        have k8 : ¬ (n : Int) ≤ (i : Int) := by omega
        clear hc hz9 hgd hyy
        go_upto_region 12 with fail
        go_quiet (fail)
        go_wp2_with fail
        go_roundw
        case rel => exact ⟨i + 1, by omega, by go_num, hide (drewN_below (unhide HBR) _)⟩
        case measure => simp [intOf]; omega
      · have j2 : ¬ (i : Int) < (n : Int) := by omega
        have hgd : (zs ++ List.replicate 8 (0 : Int)).getD i 0 = 0 := by
          rw [List.getD_eq_getElem?_getD, List.getElem?_append_right (by rw [unhide HLT]; omega), List.getElem?_replicate]
          split <;> rfl
        rw [hgd] at cI
        have k6 : decide (n ≤ i) = true := decide_eq_true (by omega)
        have k7 : decide (i < n) = false := decide_eq_false hin
        have k8 : (n : Int) ≤ (i : Int) := by omega
        clear hgd
        go_upto_region 12 with fail
        go_quiet (fail)
        go_wp2_with fail
        go_roundw
        case rel => exact ⟨i + 1, by omega, by go_num, hide (drewN_below (unhide HBR) _)⟩
        case measure => simp [intOf]; omega
    · have j1 : ¬ (i : Int) < (N8 : Int) := by omega
      have hI := (unhide HI10).later (unhide HBR)
      have C14 := hide (sameM_any M M d1 d2 d3 b1 b2 b3 k1 g1 k2 g2 k3 g3 k1 f1 k2 f2 k3 f3 wr.heap.size wr (unhide HK).1 (unhide HK).2.1 (unhide HK).2.2.1 (unhide HK).1 (unhide HK).2.1 (unhide HK).2.2.1 (hI.weak (fun b hb => Nat.lt_of_lt_of_le hb (unhide HBR).size)) ((unhide HSr).isY.weak (fun b hb => (unhide HSr).lt2 b hb)) (Nat.le_refl _))
      have hz14 := ((unhide HBR).block gz (lt_of_row (unhide B10).2)).trans (unhide B10).2
      obtain ⟨x0, x1, x2⟩ := row_cell3 hz14
      obtain ⟨y0, y1, y2⟩ := row_cell3 (unhide HSr).by'
      have k4 : (p0 == p0) = true := by simp
      have k5 : (e0 == e0) = true := by simp
      clear hI hz14
      go_wp2_with fail
      refine (unhide C14).mono ?_
      rintro e u15 ⟨r6, rfl, hr6, b15⟩
      obtain rfl : r6 = true := hr6.2 rfl
      have HF := hide ((unhide HSr).later b15).below
      clear hr6 b15 C14 x0 x1 x2 y0 y1 y2
      go_wp2_with fail
      go_ret
      exact ⟨by simp, unhide HF⟩
end Go.Proofs.Ytfdnhpmldnmncaa
