/-
  The walk of Still of a module that was lent and is as it was (layer 9); conditions: the form's own reach.
-/
import Derived.Test.YtpdfggjhedgdlaaA34
import Derived.Test.YtpdfggjhedgdlaaA36
namespace Go.Proofs.Ytpdfggjhedgdlaa
open Go.RowKit
set_option linter.unusedVariables false
set_option linter.unusedSimpArgs false

/-- what Still sees -/
structure Sst (w u : World) (g B lo hi : Nat) (m : Md) (V : Nat → List Value) (bc bf bx : Nat) (R : List (List Value)) (A C : Array Value) (a1 : Option Addr) (c1 : Nat) (a2 : Option Addr) (c2 : Nat) (a3 : Option Addr) (c3 : Nat) : Prop where
  bl : u.heap[g]? = some (.cells A 26 (0, 0))
  bm : u.heap[g + 1]? = some (.cells C 26 (0, 0))
  mod : IsM u (fun b => b < B) m a1 c1 a2 c2 a3 c3
  cs : CsV u B m.cs a1 V
  low : B ≤ u.heap.size
  len : LentM u lo hi m V bc bf bx R
  below : Below g w u

theorem Sst.later {w u u' : World} {g B lo hi : Nat} {m : Md} {V : Nat → List Value} {bc bf bx : Nat} {R : List (List Value)} {A C : Array Value} {a1 a2 a3 : Option Addr} {c1 c2 c3 : Nat} (h : Sst w u g B lo hi m V bc bf bx R A C a1 c1 a2 c2 a3 c3) (hb : Below u.heap.size u u') : Sst w u' g B lo hi m V bc bf bx R A C a1 c1 a2 c2 a3 c3 :=
  ⟨(hb.block g (lt_of_row h.bl)).trans h.bl, (hb.block (g + 1) (lt_of_row h.bm)).trans h.bm, h.mod.later (hb.mono h.low), h.cs.later (hb.mono h.low), Nat.le_trans h.low hb.size, h.len.later hb, h.below.trans (hb.mono (by have := lt_of_row h.bl; omega))⟩

theorem Sst.drewN {w u : World} {g B lo hi : Nat} {m : Md} {V : Nat → List Value} {bc bf bx : Nat} {R : List (List Value)} {A C : Array Value} {a1 a2 a3 : Option Addr} {c1 c2 c3 : Nat} (h : Sst w u g B lo hi m V bc bf bx R A C a1 c1 a2 c2 a3 c3) (q : Nat) : Sst w (u.drewN q) g B lo hi m V bc bf bx R A C a1 c1 a2 c2 a3 c3 := h.later (below_drewM (Below.refl _ _) q)

theorem Sst.drew {w u : World} {g B lo hi : Nat} {m : Md} {V : Nat → List Value} {bc bf bx : Nat} {R : List (List Value)} {A C : Array Value} {a1 a2 a3 : Option Addr} {c1 c2 c3 : Nat} (h : Sst w u g B lo hi m V bc bf bx R A C a1 c1 a2 c2 a3 c3) : Sst w u.drew g B lo hi m V bc bf bx R A C a1 c1 a2 c2 a3 c3 := h.later ((Below.refl _ _).drew)

set_option maxRecDepth 100000 in
set_option maxHeartbeats 16000000 in
theorem stillM_any (m : Md) (V : Nat → List Value) (a1 a2 a3 : Option Addr) (n1 c1 n2 c2 n3 c3 B lo hi bc bf bx : Nat) (R : List (List Value)) (w : World) (hn1 : m.cs.length = n1) (hn2 : m.fs.length = n2) (hn3 : m.xs.length = n3) (h : IsM w (fun b => b < B) m a1 c1 a2 c2 a3 c3) (hV : CsV w B m.cs a1 V) (hB : B ≤ w.heap.size) (hL : LentM w lo hi m V bc bf bx R) :
    Calls Try.prog 12 #[.agg #[.slice (some ⟨bc, 0, none⟩) n1 (n1 + 2), .slice (some ⟨bf, 0, none⟩) n2 (n2 + 2), .slice (some ⟨bx, 0, none⟩) n3 (n3 + 2)], .agg #[.slice a1 n1 c1, .slice a2 n2 c2, .slice a3 n3 c3]] w fun e w' => e = .returned (.bool true) ∧ Below w.heap.size w w' := by
  have hl := h.len
  rw [hn1, hn2, hn3] at hl
  obtain ⟨l1, l2, l3⟩ := hl
  obtain ⟨g, hg⟩ : ∃ g, w.heap.size = g := ⟨_, rfl⟩
  have TW := Two.mk' w 26 #[.slice (some ⟨bc, 0, none⟩) n1 (n1 + 2), .slice (some ⟨bf, 0, none⟩) n2 (n2 + 2), .slice (some ⟨bx, 0, none⟩) n3 (n3 + 2)] #[.slice a1 n1 c1, .slice a2 n2 c2, .slice a3 n3 c3]
  obtain ⟨w2, hw2⟩ : ∃ w2, (w.alloc (.cells #[.slice (some ⟨bc, 0, none⟩) n1 (n1 + 2), .slice (some ⟨bf, 0, none⟩) n2 (n2 + 2), .slice (some ⟨bx, 0, none⟩) n3 (n3 + 2)] 26)).alloc (.cells #[.slice a1 n1 c1, .slice a2 n2 c2, .slice a3 n3 c3] 26) = w2 := ⟨_, rfl⟩
  rw [hw2, hg] at TW
  have HS2 : Hid (Sst w w2 g B lo hi m V bc bf bx R #[.slice (some ⟨bc, 0, none⟩) n1 (n1 + 2), .slice (some ⟨bf, 0, none⟩) n2 (n2 + 2), .slice (some ⟨bx, 0, none⟩) n3 (n3 + 2)] #[.slice a1 n1 c1, .slice a2 n2 c2, .slice a3 n3 c3] a1 c1 a2 c2 a3 c3) := hide (by
    have hb : Below w.heap.size w w2 := TW.below
    exact ⟨TW.at0, TW.at1, h.later (hb.mono hB), hV.later (hb.mono hB), Nat.le_trans hB hb.size, hL.later hb, by rw [← hg]; exact hb⟩)
  have HN := hide (And.intro hn1 (And.intro hn2 hn3))
  have e1 : IntKind.i64.wrap ((n1 : Int) + 2) = (n1 : Int) + 2 := by rw [IntKind.wrap_i64]; omega
  have e2 : IntKind.i64.wrap ((n2 : Int) + 2) = (n2 : Int) + 2 := by rw [IntKind.wrap_i64]; omega
  have e3 : IntKind.i64.wrap ((n3 : Int) + 2) = (n3 : Int) + 2 := by rw [IntKind.wrap_i64]; omega
  obtain ⟨m0, m1, m2⟩ := row_cell3 (unhide HS2).bl
  obtain ⟨m3, m4, m5⟩ := row_cell3 (unhide HS2).bm
  clear h hV hB hL hn1 hn2 hn3 TW
  go_enter Try.func12, Try.ntmps12
  go_upto_region 1 with fail
  try rw [hw2]
  clear hw2
  go_wp2_with fail
  go_loopw [6, 7] (fun x y wr => ∃ (i : Nat) (b : Bool), x = .int .i64 (i : Int) ∧ (y = .bool b ∨ y = undef) ∧ Hid (i ≤ n1 + 2) ∧ Hid (Sst w wr g B lo hi m V bc bf bx R #[.slice (some ⟨bc, 0, none⟩) n1 (n1 + 2), .slice (some ⟨bf, 0, none⟩) n2 (n2 + 2), .slice (some ⟨bx, 0, none⟩) n3 (n3 + 2)] #[.slice a1 n1 c1, .slice a2 n2 c2, .slice a3 n3 c3] a1 c1 a2 c2 a3 c3)) (fun x _ _ => n1 + 2 - (intOf x).toNat)
  case atStart => exact ⟨0, true, rfl, Or.inr rfl, hide (by omega), HS2⟩
  case round =>
    clear HS2 m0 m1 m2 m3 m4 m5
    obtain ⟨i, bb, rfl, hyy, HI, HS⟩ := hrel
    clear hyy
    obtain ⟨m0, m1, m2⟩ := row_cell3 (unhide HS).bl
    obtain ⟨m3, m4, m5⟩ := row_cell3 (unhide HS).bm
    by_cases hlt : i < n1 + 2
    · have i1 : (i : Int) < (n1 : Int) + 2 := by omega
      have HI1 : Hid (i + 1 ≤ n1 + 2) := hide (by omega)
      by_cases hil : i < n1
      · have j1 : (i : Int) < (n1 : Int) := by omega
        obtain ⟨y, hy⟩ : ∃ y, m.cs[i]? = some y := ⟨_, List.getElem?_eq_getElem (by have := (unhide HN).1; omega)⟩
        obtain ⟨av, q0, q1, q2, al', ak', ll', m', cl', ck', rfl, hab, hVi, hce, hve⟩ := (unhide HS).cs i y hy
        obtain ⟨r, hr, hk⟩ := (unhide HS).len.el i y hy
        rw [hVi] at hce hve hk
        have d0 : wr.cell? (av.add (i * 5)) = some (.int .i64 q0) := hce 0 _ rfl
        have d1 : wr.cell? ⟨(av.add (i * 5)).block, (av.add (i * 5)).off + 1, none⟩ = some (.int .i64 q1) := hce 1 _ rfl
        have d2 : wr.cell? ⟨(av.add (i * 5)).block, (av.add (i * 5)).off + 2, none⟩ = some (.string q2) := hce 2 _ rfl
        have d3 : wr.cell? ⟨(av.add (i * 5)).block, (av.add (i * 5)).off + 3, none⟩ = some (.slice al' ll' cl') := hce 3 _ rfl
        have d4 : wr.cell? ⟨(av.add (i * 5)).block, (av.add (i * 5)).off + 4, none⟩ = some (.slice ak' m' ck') := hce 4 _ rfl
        obtain ⟨k5, n5, s5, a5, a6, p5, q5, p6, q6, hrv⟩ := hk.shape
        have hre : r = [.int .i64 k5, .int .i64 n5, .string s5, .slice a5 p5 q5, .slice a6 p6 q6] := by
          have h1 := Value.agg.inj hrv
          have h2 := congrArg Array.toList h1
          simpa using h2
        subst hre
        have hRR : (R ++ [markV, markV])[i]? = some [.int .i64 k5, .int .i64 n5, .string s5, .slice a5 p5 q5, .slice a6 p6 q6] := by rw [List.getElem?_append_left (List.getElem?_eq_some_iff.1 hr).1]; exact hr
        have y0 : wr.cell? ⟨bc, i * 5, none⟩ = some (.int .i64 k5) := (unhide HS).len.rc.cell i _ hRR 0 _ rfl
        have y1 : wr.cell? ⟨bc, i * 5 + 1, none⟩ = some (.int .i64 n5) := (unhide HS).len.rc.cell i _ hRR 1 _ rfl
        have y2 : wr.cell? ⟨bc, i * 5 + 2, none⟩ = some (.string s5) := (unhide HS).len.rc.cell i _ hRR 2 _ rfl
        have y3 : wr.cell? ⟨bc, i * 5 + 3, none⟩ = some (.slice a5 p5 q5) := (unhide HS).len.rc.cell i _ hRR 3 _ rfl
        have y4 : wr.cell? ⟨bc, i * 5 + 4, none⟩ = some (.slice a6 p6 q6) := (unhide HS).len.rc.cell i _ hRR 4 _ rfl
        have CS := hide (still_both y _ _ lo hi B wr.drew (by
          have := hk.to (u1 := wr.drew) (fun b _ _ => rfl)
          exact this) (hve.mono ((Below.refl _ _).drew)) (unhide HS).low (unhide HS).len.top)
        clear hce hve hk hr hRR hy hVi hrv
        go_upto_region 5 with fail
        go_cut [7] from 19 to 55 (fun z wx => ∃ b : Bool, z = .bool b ∧ Hid (wx = wr))
        case first =>
          by_cases hk2 : k5 = 2
          · have kb : (k5 == 2) = true := by rw [hk2]; rfl
            by_cases hn7 : n5 = 77
            · have nb : (n5 == 77) = true := by rw [hn7]; rfl
              have HK2 := hide hk2
              have HN7 := hide hn7
              clear hk2 hn7
              go_wp2_with fail
              go_meet
              exact ⟨_, rfl, hide rfl⟩
            · have nb : (n5 == 77) = false := beq_eq_false_iff_ne.2 hn7
              have HK2 := hide hk2
              clear hk2
              go_wp2_with fail
              go_meet
              exact ⟨_, rfl, hide rfl⟩
          · have kb : (k5 == 2) = false := beq_eq_false_iff_ne.2 hk2
            go_wp2_with fail
            go_meet
            exact ⟨_, rfl, hide rfl⟩
        case rest =>
          obtain ⟨b, rfl, HW⟩ := hcut
          obtain rfl := unhide HW
          clear HW
          go_upto_region 7 with fail
          go_cut [7] from 19 to 55 (fun z wx => z = .bool true ∧ Hid (Below wc.heap.size wc wx))
          case first =>
            go_region_held3 (fun w' => w'.cell? ⟨g + 1, 0, none⟩ = some (.slice (some av) n1 c1) ∧ w'.cell? ⟨bc, i * 5, none⟩ = some (.int .i64 k5) ∧ w'.cell? ⟨bc, i * 5 + 1, none⟩ = some (.int .i64 n5) ∧ w'.cell? ⟨bc, i * 5 + 2, none⟩ = some (.string s5) ∧ w'.cell? ⟨bc, i * 5 + 3, none⟩ = some (.slice a5 p5 q5) ∧ w'.cell? ⟨bc, i * 5 + 4, none⟩ = some (.slice a6 p6 q6) ∧ w'.cell? (av.add (i * 5)) = some (.int .i64 q0) ∧ w'.cell? ⟨(av.add (i * 5)).block, (av.add (i * 5)).off + 1, none⟩ = some (.int .i64 q1) ∧ w'.cell? ⟨(av.add (i * 5)).block, (av.add (i * 5)).off + 2, none⟩ = some (.string q2) ∧ w'.cell? ⟨(av.add (i * 5)).block, (av.add (i * 5)).off + 3, none⟩ = some (.slice al' ll' cl') ∧ w'.cell? ⟨(av.add (i * 5)).block, (av.add (i * 5)).off + 4, none⟩ = some (.slice ak' m' ck'))
              (first | go_keep | (have hb6 := below_drew_of' b5; exact ⟨cell_later hb6 m3, cell_later hb6 y0, cell_later hb6 y1, cell_later hb6 y2, cell_later hb6 y3, cell_later hb6 y4, cell_later hb6 d0, cell_later hb6 d1, cell_later hb6 d2, cell_later hb6 d3, cell_later hb6 d4⟩))
              (first | (go_at_call 22; refine (unhide CS).mono ?_; rintro e w5 ⟨rfl, b5⟩))
            have HX5 : Hid (Below wc.heap.size wc w5) := hide (below_drew_of' b5)
            clear b5 CS
            go_wp2_with fail
            go_meet
            exact ⟨rfl, HX5⟩
          case rest =>
            obtain ⟨rfl, HX5⟩ := hcut
            rename_i wx
            have HS5 := hide ((unhide HS).later (unhide HX5))
            clear m0 m1 m2 m3 m4 m5 y0 y1 y2 y3 y4 d0 d1 d2 d3 d4 CS
            go_wp2_with fail
            go_roundw
            case rel => exact ⟨i + 1, true, by go_num, Or.inl rfl, HI1, HS5⟩
            case measure => have := unhide HI1; simp [intOf]; omega
      · have j1 : ¬ (i : Int) < (n1 : Int) := by omega
        have hRR : (R ++ [markV, markV])[i]? = some markV := by
          have hrl := (unhide HS).len.rl
          have := (unhide HN).1
          rw [List.getElem?_append_right (by omega)]
          rcases (show i = R.length ∨ i = R.length + 1 by omega) with e | e
          · rw [e, Nat.sub_self]; rfl
          · rw [e, show R.length + 1 - R.length = 1 by omega]; rfl
        have y0 : wr.cell? ⟨bc, i * 5, none⟩ = some (.int .i64 2) := (unhide HS).len.rc.cell i _ hRR 0 _ rfl
        have y1 : wr.cell? ⟨bc, i * 5 + 1, none⟩ = some (.int .i64 77) := (unhide HS).len.rc.cell i _ hRR 1 _ rfl
        clear hRR
        go_wp2_with fail
        go_roundw
        case rel => exact ⟨i + 1, true, by go_num, Or.inl rfl, HI1, HS⟩
        case measure => have := unhide HI1; simp [intOf]; omega
    · have i1 : ¬ (i : Int) < (n1 : Int) + 2 := by omega
      obtain ⟨i0, hi0⟩ : ∃ i0, (i : Int) = i0 := ⟨_, rfl⟩
      rw [hi0] at i1 ⊢
      clear hi0 hlt HI
      go_wp2_with fail
      go_loopw [9] (fun x wr => ∃ (i : Nat), x = .int .i64 (i : Int) ∧ Hid (i ≤ n2 + 2) ∧ Hid (Sst w wr g B lo hi m V bc bf bx R #[.slice (some ⟨bc, 0, none⟩) n1 (n1 + 2), .slice (some ⟨bf, 0, none⟩) n2 (n2 + 2), .slice (some ⟨bx, 0, none⟩) n3 (n3 + 2)] #[.slice a1 n1 c1, .slice a2 n2 c2, .slice a3 n3 c3] a1 c1 a2 c2 a3 c3)) (fun x _ => n2 + 2 - (intOf x).toNat)
      case atStart => exact ⟨0, rfl, hide (by omega), HS⟩
      case round =>
        clear HS m0 m1 m2 m3 m4 m5
        obtain ⟨i, rfl, HI, HS⟩ := hrel
        obtain ⟨m0, m1, m2⟩ := row_cell3 (unhide HS).bl
        obtain ⟨m3, m4, m5⟩ := row_cell3 (unhide HS).bm
        by_cases hlt : i < n2 + 2
        · have i2 : (i : Int) < (n2 : Int) + 2 := by omega
          have HI1 : Hid (i + 1 ≤ n2 + 2) := hide (by omega)
          by_cases hil : i < n2
          · have j1 : (i : Int) < (n2 : Int) := by omega
            have k7 : decide (i < n2) = true := decide_eq_true hil
            have k6 : decide (n2 ≤ i) = false := decide_eq_false (by omega)
            have k8 : ¬ (n2 : Int) ≤ (i : Int) := by omega
            obtain ⟨⟨p, l, s, t⟩, hv⟩ : ∃ v, m.fs[i]? = some v := ⟨_, List.getElem?_eq_getElem (by have := (unhide HN).2.1; omega)⟩
            obtain ⟨a, rfl, _, _, q0, q1, q2, q3⟩ := (unhide HS).mod.func i p l s t hv
            have hRR : (m.fs.map fnV ++ [markF, markF])[i]? = some (fnV (p, l, s, t)) := by rw [List.getElem?_append_left (by have := (unhide HN).2.1; simp; omega), List.getElem?_map, hv]; rfl
            have y0 : wr.cell? ⟨bf, i * 4, none⟩ = some (.int .i64 p) := (unhide HS).len.rf.cell i _ hRR 0 _ rfl
            have y1 : wr.cell? ⟨bf, i * 4 + 1, none⟩ = some (.int .i64 l) := (unhide HS).len.rf.cell i _ hRR 1 _ rfl
            have y2 : wr.cell? ⟨bf, i * 4 + 2, none⟩ = some (.int .i64 s) := (unhide HS).len.rf.cell i _ hRR 2 _ rfl
            have y3 : wr.cell? ⟨bf, i * 4 + 3, none⟩ = some (.string t) := (unhide HS).len.rf.cell i _ hRR 3 _ rfl
            have nq := neq_fn p l s p l s t t true (by simp)
            have ng := fun (w : World) (x y : Operand) => run_eqGuard_agg (P := Try.prog) w .neq 43 x y #[.int .i64 p, .int .i64 l, .int .i64 s, .string t] #[.int .i64 p, .int .i64 l, .int .i64 s, .string t] guard_fn
            clear hRR hv
            go_upto_region 14 with fail
            go_quiet (fail)
            go_wp2_with fail
            go_roundw
            case rel => exact ⟨i + 1, by go_num, HI1, hide ((unhide HS).drewN _)⟩
            case measure => have := unhide HI1; simp [intOf]; omega
          · have j1 : ¬ (i : Int) < (n2 : Int) := by omega
            have k7 : decide (i < n2) = false := decide_eq_false hil
            have k6 : decide (n2 ≤ i) = true := decide_eq_true (by omega)
            have k8 : (n2 : Int) ≤ (i : Int) := by omega
            have hRR : (m.fs.map fnV ++ [markF, markF])[i]? = some markF := by
              have := (unhide HN).2.1
              rw [List.getElem?_append_right (by simp; omega), List.length_map]
              rcases (show i = m.fs.length ∨ i = m.fs.length + 1 by omega) with e | e
              · rw [e, Nat.sub_self]; rfl
              · rw [e, show m.fs.length + 1 - m.fs.length = 1 by omega]; rfl
            have y0 : wr.cell? ⟨bf, i * 4, none⟩ = some (.int .i64 77) := (unhide HS).len.rf.cell i _ hRR 0 _ rfl
            clear hRR
            go_upto_region 14 with fail
            go_quiet (fail)
            go_wp2_with fail
            go_roundw
            case rel => exact ⟨i + 1, by go_num, HI1, hide ((unhide HS).drewN _)⟩
            case measure => have := unhide HI1; simp [intOf]; omega
        · have i2 : ¬ (i : Int) < (n2 : Int) + 2 := by omega
          obtain ⟨i0, hi0⟩ : ∃ i0, (i : Int) = i0 := ⟨_, rfl⟩
          rw [hi0] at i2 ⊢
          clear hi0 hlt HI
          go_wp2_with fail
          go_loopw [11] (fun x wr => ∃ (i : Nat), x = .int .i64 (i : Int) ∧ Hid (i ≤ n3 + 2) ∧ Hid (Sst w wr g B lo hi m V bc bf bx R #[.slice (some ⟨bc, 0, none⟩) n1 (n1 + 2), .slice (some ⟨bf, 0, none⟩) n2 (n2 + 2), .slice (some ⟨bx, 0, none⟩) n3 (n3 + 2)] #[.slice a1 n1 c1, .slice a2 n2 c2, .slice a3 n3 c3] a1 c1 a2 c2 a3 c3)) (fun x _ => n3 + 2 - (intOf x).toNat)
          case atStart => exact ⟨0, rfl, hide (by omega), HS⟩
          case round =>
            clear HS m0 m1 m2 m3 m4 m5
            obtain ⟨i, rfl, HI, HS⟩ := hrel
            obtain ⟨m0, m1, m2⟩ := row_cell3 (unhide HS).bl
            obtain ⟨m3, m4, m5⟩ := row_cell3 (unhide HS).bm
            by_cases hlt : i < n3 + 2
            · have i3 : (i : Int) < (n3 : Int) + 2 := by omega
              have HI1 : Hid (i + 1 ≤ n3 + 2) := hide (by omega)
              by_cases hil : i < n3
              · have j1 : (i : Int) < (n3 : Int) := by omega
                have k7 : decide (i < n3) = true := decide_eq_true hil
                have k6 : decide (n3 ≤ i) = false := decide_eq_false (by omega)
                have k8 : ¬ (n3 : Int) ≤ (i : Int) := by omega
                obtain ⟨⟨t, p⟩, hv⟩ : ∃ v, m.xs[i]? = some v := ⟨_, List.getElem?_eq_getElem (by have := (unhide HN).2.2; omega)⟩
                obtain ⟨a, rfl, _, _, q0, q1⟩ := (unhide HS).mod.exp i t p hv
                have hRR : (m.xs.map exV ++ [markX, markX])[i]? = some (exV (t, p)) := by rw [List.getElem?_append_left (by have := (unhide HN).2.2; simp; omega), List.getElem?_map, hv]; rfl
                have y0 : wr.cell? ⟨bx, i * 2, none⟩ = some (.string t) := (unhide HS).len.rx.cell i _ hRR 0 _ rfl
                have y1 : wr.cell? ⟨bx, i * 2 + 1, none⟩ = some (.int .i64 p) := (unhide HS).len.rx.cell i _ hRR 1 _ rfl
                have nq := neq_ex p p t t true (by simp)
                have ng := fun (w : World) (x y : Operand) => run_eqGuard_agg (P := Try.prog) w .neq 45 x y #[.string t, .int .i64 p] #[.string t, .int .i64 p] guard_ex
                clear hRR hv
                go_upto_region 20 with fail
                go_quiet (fail)
                go_wp2_with fail
                go_roundw
                case rel => exact ⟨i + 1, by go_num, HI1, hide ((unhide HS).drewN _)⟩
                case measure => have := unhide HI1; simp [intOf]; omega
              · have j1 : ¬ (i : Int) < (n3 : Int) := by omega
                have k7 : decide (i < n3) = false := decide_eq_false hil
                have k6 : decide (n3 ≤ i) = true := decide_eq_true (by omega)
                have k8 : (n3 : Int) ≤ (i : Int) := by omega
                have hRR : (m.xs.map exV ++ [markX, markX])[i]? = some markX := by
                  have := (unhide HN).2.2
                  rw [List.getElem?_append_right (by simp; omega), List.length_map]
                  rcases (show i = m.xs.length ∨ i = m.xs.length + 1 by omega) with e | e
                  · rw [e, Nat.sub_self]; rfl
                  · rw [e, show m.xs.length + 1 - m.xs.length = 1 by omega]; rfl
                have y1 : wr.cell? ⟨bx, i * 2 + 1, none⟩ = some (.int .i64 77) := (unhide HS).len.rx.cell i _ hRR 1 _ rfl
                clear hRR
                go_upto_region 20 with fail
                go_quiet (fail)
                go_wp2_with fail
                go_roundw
                case rel => exact ⟨i + 1, by go_num, HI1, hide ((unhide HS).drewN _)⟩
                case measure => have := unhide HI1; simp [intOf]; omega
            · have i3 : ¬ (i : Int) < (n3 : Int) + 2 := by omega
              have HBZ := hide (unhide HS).below
              go_wp2_with fail
              go_ret
              exact ⟨rfl, by first | exact unhide HBZ | (rw [hg]; exact unhide HBZ)⟩
end Go.Proofs.Ytpdfggjhedgdlaa
