/-
  The walk of still of entries that were lent and are as they were (layer 7); conditions: the form's own reach.
-/
import Derived.Test.YtjhnbopejnpbeaaA46
import Derived.Deep.RegionHeld3
import Derived.BigQuiet
import Derived.Deep.QuietTactic
set_option linter.unusedVariables false
set_option linter.unusedSimpArgs false
namespace Go.Proofs.Ytjhnbopejnpbeaa
open Go.RowKit
set_option linter.unusedVariables false
set_option linter.unusedSimpArgs false

theorem below_drewS {B : Nat} {w w' : World} (h : Below B w w') (q : Nat) : Below B w (w'.drewN q) := ⟨h.os, h.tape, h.output, h.size, h.block⟩

/-- what still sees -/
structure Sse (w u : World) (B lo hi : Nat) (es : List En) (V : Nat → List Value) (be : Nat) (R : List (List Value)) (al : Option Addr) : Prop where
  cs : CsE u B es al V
  low : B ≤ u.heap.size
  len : LentE u lo hi es V be R
  below : Below w.heap.size w u

theorem Sse.later {w u u' : World} {B lo hi : Nat} {es : List En} {V : Nat → List Value} {be : Nat} {R : List (List Value)} {al : Option Addr} (h : Sse w u B lo hi es V be R al) (hb : Below u.heap.size u u') : Sse w u' B lo hi es V be R al :=
  ⟨h.cs.later (hb.mono h.low), Nat.le_trans h.low hb.size, h.len.later hb, h.below.trans (hb.mono h.below.size)⟩

set_option maxRecDepth 100000 in
set_option maxHeartbeats 8000000 in
theorem stillE_any (es : List En) (V : Nat → List Value) (al : Option Addr) (n cl B lo hi be : Nat) (R : List (List Value)) (w : World) (hn : es.length = n) (hnb : n ≤ 140737488351232) (hV : CsE w B es al V) (hB : B ≤ w.heap.size) (hL : LentE w lo hi es V be R) :
    Calls Try.prog 12 #[.slice (some ⟨be, 0, none⟩) n (n + 2), .slice al n cl] w fun e w' => e = .returned (.bool true) ∧ Below w.heap.size w w' := by
  have HS0 : Hid (Sse w w B lo hi es V be R al) := hide ⟨hV, hB, hL, Below.refl _ _⟩
  have HN := hide hn
  have e1 : IntKind.i64.wrap ((n : Int) + 2) = (n : Int) + 2 := by rw [IntKind.wrap_i64]; omega
  clear hV hB hL hn
  go_enter Try.func12, Try.ntmps12
  go_wp2_with fail
  go_loopw [6] (fun x wr => ∃ (i : Nat), x = .int .i64 (i : Int) ∧ Hid (i ≤ n + 2) ∧ Hid (Sse w wr B lo hi es V be R al)) (fun x _ => n + 2 - (intOf x).toNat)
  case atStart => exact ⟨0, rfl, hide (by omega), HS0⟩
  case round =>
    clear HS0
    obtain ⟨i, rfl, HI, HS⟩ := hrel
    by_cases hlt : i < n + 2
    · have i1 : (i : Int) < (n : Int) + 2 := by omega
      have HI1 : Hid (i + 1 ≤ n + 2) := hide (by omega)
      by_cases hil : i < n
      · have j1 : (i : Int) < (n : Int) := by omega
        have j2 : ¬ (n : Int) ≤ (i : Int) := by omega
        obtain ⟨⟨ky, yv⟩, hy⟩ : ∃ y, es[i]? = some y := ⟨_, List.getElem?_eq_getElem (by have := unhide HN; omega)⟩
        obtain ⟨a, x0, x1, x2, al', ak', ll', m', cl', ck', rfl, hab, hVi, hce, hve⟩ := (unhide HS).cs i (ky, yv) hy
        obtain ⟨r, hr, hk⟩ := (unhide HS).len.el i (ky, yv) hy
        rw [hVi] at hce hve hk
        dsimp only at hce hve hk hr
        obtain ⟨k5, n5, s5, a5, a6, p5, q5, p6, q6, hrv⟩ := hk.shape
        have hre : r = [.int .i64 k5, .int .i64 n5, .string s5, .slice a5 p5 q5, .slice a6 p6 q6] := by
          have h1 := Value.agg.inj hrv
          have h2 := congrArg Array.toList h1
          simpa using h2
        subst hre
        have hRR : (R ++ [markE, markE])[i]? = some [.string ky, .int .i64 k5, .int .i64 n5, .string s5, .slice a5 p5 q5, .slice a6 p6 q6] := by rw [List.getElem?_append_left (List.getElem?_eq_some_iff.1 hr).1]; exact hr
        have hic := fun j v hv => (unhide HS).len.rc.cell i _ hRR j v hv
        have CS := hide (still_both yv _ _ lo hi B wr.drew (by
          have := hk.to (u1 := wr.drew) (fun b _ _ => rfl)
          exact this) (hve.mono ((Below.refl _ _).drew)) (unhide HS).low (unhide HS).len.top)
        obtain ⟨e0, e1', e2, e3, e4, e5⟩ : wr.cell? (a.add (i * 6)) = some (.string ky) ∧ wr.cell? ⟨(a.add (i * 6)).block, (a.add (i * 6)).off + 1, none⟩ = some (.int .i64 x0) ∧ wr.cell? ⟨(a.add (i * 6)).block, (a.add (i * 6)).off + 2, none⟩ = some (.int .i64 x1) ∧ wr.cell? ⟨(a.add (i * 6)).block, (a.add (i * 6)).off + 3, none⟩ = some (.string x2) ∧ wr.cell? ⟨(a.add (i * 6)).block, (a.add (i * 6)).off + 4, none⟩ = some ((.slice al' ll' cl')) ∧ wr.cell? ⟨(a.add (i * 6)).block, (a.add (i * 6)).off + 5, none⟩ = some ((.slice ak' m' ck')) := ⟨hce 0 _ rfl, hce 1 _ rfl, hce 2 _ rfl, hce 3 _ rfl, hce 4 _ rfl, hce 5 _ rfl⟩
        obtain ⟨f0, f1, f2, f3, f4, f5⟩ : wr.cell? ⟨be, i * 6, none⟩ = some (.string ky) ∧ wr.cell? ⟨be, i * 6 + 1, none⟩ = some (.int .i64 k5) ∧ wr.cell? ⟨be, i * 6 + 2, none⟩ = some (.int .i64 n5) ∧ wr.cell? ⟨be, i * 6 + 3, none⟩ = some (.string s5) ∧ wr.cell? ⟨be, i * 6 + 4, none⟩ = some (.slice a5 p5 q5) ∧ wr.cell? ⟨be, i * 6 + 5, none⟩ = some (.slice a6 p6 q6) := ⟨hic 0 _ rfl, hic 1 _ rfl, hic 2 _ rfl, hic 3 _ rfl, hic 4 _ rfl, hic 5 _ rfl⟩
        have k6 : (!(ky.toList == ky.toList)) = false := by simp
        clear hce hve hk hr hRR hy hVi hrv hic
        go_upto_region 8 with fail
        go_cut [7] from 13 to 54 (fun z wx => z = .bool true ∧ Hid (Below wr.heap.size wr wx))
        case first =>
          go_region_held3 (fun w' => w'.cell? (a.add (i * 6)) = some (.string ky) ∧ w'.cell? ⟨(a.add (i * 6)).block, (a.add (i * 6)).off + 1, none⟩ = some (.int .i64 x0) ∧ w'.cell? ⟨(a.add (i * 6)).block, (a.add (i * 6)).off + 2, none⟩ = some (.int .i64 x1) ∧ w'.cell? ⟨(a.add (i * 6)).block, (a.add (i * 6)).off + 3, none⟩ = some (.string x2) ∧ w'.cell? ⟨(a.add (i * 6)).block, (a.add (i * 6)).off + 4, none⟩ = some ((.slice al' ll' cl')) ∧ w'.cell? ⟨(a.add (i * 6)).block, (a.add (i * 6)).off + 5, none⟩ = some ((.slice ak' m' ck')) ∧ w'.cell? ⟨be, i * 6, none⟩ = some (.string ky) ∧ w'.cell? ⟨be, i * 6 + 1, none⟩ = some (.int .i64 k5) ∧ w'.cell? ⟨be, i * 6 + 2, none⟩ = some (.int .i64 n5) ∧ w'.cell? ⟨be, i * 6 + 3, none⟩ = some (.string s5) ∧ w'.cell? ⟨be, i * 6 + 4, none⟩ = some (.slice a5 p5 q5) ∧ w'.cell? ⟨be, i * 6 + 5, none⟩ = some (.slice a6 p6 q6))
            (first | go_keep | (have hb6 := below_drew_of' b5; exact ⟨cell_later hb6 e0, cell_later hb6 e1', cell_later hb6 e2, cell_later hb6 e3, cell_later hb6 e4, cell_later hb6 e5, cell_later hb6 f0, cell_later hb6 f1, cell_later hb6 f2, cell_later hb6 f3, cell_later hb6 f4, cell_later hb6 f5⟩))
            (first | (go_at_call 18; refine (unhide CS).mono ?_; rintro e w5 ⟨rfl, b5⟩))
          have HX5 : Hid (Below wr.heap.size wr w5) := hide (below_drew_of' b5)
          clear b5 CS
          go_wp2_with fail
          go_meet
          exact ⟨rfl, HX5⟩
        case rest =>
          obtain ⟨rfl, HX5⟩ := hcut
          obtain ⟨u9, hu9⟩ : ∃ u9, wc = u9 := ⟨_, rfl⟩
          rw [hu9] at HX5 ⊢
          clear hu9
          have HS5 := hide ((unhide HS).later (unhide HX5))
          have g0 := cell_later (unhide HX5) e0
          have g1 := cell_later (unhide HX5) f0
          clear e0 e1' e2 e3 e4 e5 f0 f1 f2 f3 f4 f5 CS
          go_upto_region 9 with fail
          go_quiet (fail)
          go_wp2_with fail
          go_roundw
          case rel => exact ⟨i + 1, by go_num, HI1, hide ((unhide HS5).later (below_drewS (Below.refl _ _) _))⟩
          case measure => have := unhide HI1; simp [intOf]; omega
      · have j1 : ¬ (i : Int) < (n : Int) := by omega
        have j2 : (n : Int) ≤ (i : Int) := by omega
        have hRR : (R ++ [markE, markE])[i]? = some markE := by
          have hrl := (unhide HS).len.rl
          have := unhide HN
          rw [List.getElem?_append_right (by omega)]
          rcases (show i = R.length ∨ i = R.length + 1 by omega) with e | e
          · rw [e, Nat.sub_self]; rfl
          · rw [e, show R.length + 1 - R.length = 1 by omega]; rfl
        have y0 : wr.cell? ⟨be, i * 6, none⟩ = some (.string ⟨#[109, 97, 114, 107]⟩) := (unhide HS).len.rc.cell i _ hRR 0 _ rfl
        clear hRR
        go_wp2_with fail
        go_roundw
        case rel => exact ⟨i + 1, by go_num, HI1, HS⟩
        case measure => have := unhide HI1; simp [intOf]; omega
    · have i1 : ¬ (i : Int) < (n : Int) + 2 := by omega
      have HBZ := hide (unhide HS).below
      go_wp2_with fail
      go_ret
      exact ⟨rfl, unhide HBZ⟩
end Go.Proofs.Ytjhnbopejnpbeaa
