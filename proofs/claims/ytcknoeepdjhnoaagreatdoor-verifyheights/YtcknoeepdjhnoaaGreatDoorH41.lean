/-
  Layer 12, the document's own look: its rows while they are written; no conditions.
  Layer 12, the document's own look: walk; conditions: the form's own reach.
  The document's own Bytes and List (layer 8); conditions: at most 2^43 instructions.
  Layer 12 (verify): a module's fault is that of the first function that has one, and it lies within that function's code; plain lists, no conditions.
-/
import Derived.Test.YtcknoeepdjhnoaaGreatDoorH40
import Derived.Deep.LoopGhost
import Derived.Test.YtcknoeepdjhnoaaGreatDoorH39
import Derived.Test.YtcknoeepdjhnoaaGreatDoorH20
import Derived.Test.YtcknoeepdjhnoaaGreatDoorH33
set_option linter.unusedVariables false
set_option linter.unusedSimpArgs false
namespace Go.Proofs.YtcknoeepdjhnoaaGreatDoor
open Go.RowKit
set_option linter.unusedVariables false
set_option linter.unusedSimpArgs false

/-- a look's rows, cell by cell -/
structure RwK (w : World) (B g : Nat) (x : Kv) (m : Md) (fn : Fn) (ps : List Int) (L qh ch qw cw : Nat) (hs ws : List Value) (lw : Int) : Prop where
  see : SeeK w B g x m fn ps (.slice (some ⟨qh, 0, none⟩) L ch) (.slice (some ⟨qw, 0, none⟩) L cw) lw
  oh : w.ownsRow (g + 1) 3 1 (.slice (some ⟨qh, 0, none⟩) L ch) L hs
  ow : w.ownsRow (g + 1) 4 1 (.slice (some ⟨qw, 0, none⟩) L cw) L ws
  bg : B ≤ g
  pg : ∀ a, x.ap = some a → a.block < g

theorem StK.raw {w : World} {B g : Nat} {x : Kv} {m : Md} {fn : Fn} {ps : List Int} {L qh ch qw cw : Nat} {s : Sv} {lw : Int} (h : StK w B g x m fn ps L qh ch qw cw s lw) : RwK w B g x m fn ps L qh ch qw cw (HV s L) (WV s L) lw := ⟨h.see, h.oh, h.ow, h.bg, h.pg⟩

theorem RwK.st {w : World} {B g : Nat} {x : Kv} {m : Md} {fn : Fn} {ps : List Int} {L qh ch qw cw : Nat} {s : Sv} {lw : Int} (h : RwK w B g x m fn ps L qh ch qw cw (HV s L) (WV s L) lw) (hl : ∀ a ∈ s.2, lw ≤ a) : StK w B g x m fn ps L qh ch qw cw s lw := ⟨h.see, h.oh, h.ow, hl, h.bg, h.pg⟩

section
variable {w : World} {B g : Nat} {x : Kv} {m : Md} {fn : Fn} {ps : List Int} {L qh ch qw cw : Nat} {hs ws : List Value} {lw : Int}

theorem RwK.ne (h : RwK w B g x m fn ps L qh ch qw cw hs ws lw) : qh ≠ qw := fun e => apart_at h.oh h.ow (by decide) qh rfl (by rw [e]; rfl)

theorem RwK.gt (h : RwK w B g x m fn ps L qh ch qw cw hs ws lw) : g < qh ∧ qh < w.heap.size ∧ g < qw ∧ qw < w.heap.size := by
  have h1 := h.oh.lt qh rfl
  have h2 := h.ow.lt qw rfl
  omega

theorem RwK.setH (h : RwK w B g x m fn ps L qh ch qw cw hs ws lw) (j : Nat) (v : Value) : RwK (w.setCell ⟨qh, j, none⟩ v) B g x m fn ps L qh ch qw cw (hs.set j v) ws lw := by
  have hq := h.gt
  have b1 : Below g w (w.setCell ⟨qh, j, none⟩ v) := (Below.refl _ _).setCell (p := ⟨qh, j, none⟩) (by show g ≤ qh; omega) _
  exact ⟨h.see.keep b1 h.bg h.pg (by rw [heap_setCell_other _ _ _ _ (show g ≠ qh by omega)]; exact h.see.box), own_put h.oh _, own_later h.ow (fun b _ hb => heap_setCell_other _ _ _ _ (fun e => h.ne (by have e1 : qw = b := Option.some.inj hb; have e2 : b = qh := e; omega))), h.bg, h.pg⟩

theorem RwK.setW (h : RwK w B g x m fn ps L qh ch qw cw hs ws lw) (j : Nat) (v : Value) : RwK (w.setCell ⟨qw, j, none⟩ v) B g x m fn ps L qh ch qw cw hs (ws.set j v) lw := by
  have hq := h.gt
  have b1 : Below g w (w.setCell ⟨qw, j, none⟩ v) := (Below.refl _ _).setCell (p := ⟨qw, j, none⟩) (by show g ≤ qw; omega) _
  exact ⟨h.see.keep b1 h.bg h.pg (by rw [heap_setCell_other _ _ _ _ (show g ≠ qw by omega)]; exact h.see.box), own_later h.oh (fun b _ hb => heap_setCell_other _ _ _ _ (fun e => h.ne (by have e1 : qh = b := Option.some.inj hb; have e2 : b = qw := e; omega))), own_put h.ow _, h.bg, h.pg⟩

theorem RwK.setL (h : RwK w B g x m fn ps L qh ch qw cw hs ws lw) (v : Int) : RwK (w.setCell ⟨g, 8, none⟩ (.int .i64 v)) B g x m fn ps L qh ch qw cw hs ws v := by
  have hq := h.gt
  have b1 : Below g w (w.setCell ⟨g, 8, none⟩ (.int .i64 v)) := (Below.refl _ _).setCell (p := ⟨g, 8, none⟩) (Nat.le_refl _) _
  exact ⟨h.see.keep b1 h.bg h.pg (by
    have e0 := heap_setCell_same w g 8 _ 71 (.int .i64 v) h.see.box
    simpa only [Kv.cells, List.setIfInBounds_toArray, List.set_cons_zero, List.set_cons_succ] using e0), own_later h.oh (fun b _ hb => heap_setCell_other _ _ _ _ (fun e => by have e1 : qh = b := Option.some.inj hb; have e2 : b = g := e; omega)), own_later h.ow (fun b _ hb => heap_setCell_other _ _ _ _ (fun e => by have e1 : qw = b := Option.some.inj hb; have e2 : b = g := e; omega)), h.bg, h.pg⟩

theorem RwK.later (h : RwK w B g x m fn ps L qh ch qw cw hs ws lw) {w' : World} (hb : Below w.heap.size w w') : RwK w' B g x m fn ps L qh ch qw cw hs ws lw :=
  ⟨h.see.later hb, own_below h.oh hb, own_below h.ow hb, h.bg, h.pg⟩
end

theorem WV_pop (H : List (Int × Int)) (W : List Int) (L j : Nat) (h : (j : Int) ∉ W) : (WV (H, (j : Int) :: W) L).set j (.bool false) = WV (H, W) L := by
  apply List.ext_getElem?
  intro k
  by_cases hk : k < L
  · rw [List.getElem?_set]
    by_cases e : j = k
    · subst e
      rw [if_pos rfl, if_pos (by unfold WV; simpa using hk), WV_at _ _ _ hk, decide_eq_false h]
    · rw [if_neg e, WV_at _ _ _ hk, WV_at _ _ _ hk]
      congr 2
      rw [decide_eq_decide]
      simp only [List.mem_cons]
      constructor
      · rintro (q | q)
        · omega
        · exact q
      · exact .inr
  · rw [List.getElem?_eq_none (by unfold WV; simpa using hk), List.getElem?_eq_none (by unfold WV; simpa using hk)]

theorem HV_pop (H : List (Int × Int)) (W W' : List Int) (L : Nat) : HV (H, W) L = HV (H, W') L := rfl

/-- the least place that waits stands first -/
theorem Inv.least {ps : List Int} {sk : Int} {H : List (Int × Int)} {W : List Int} (v : Inv ps sk (H, W)) {p : Int} (hp : p ∈ W) (hl : ∀ a ∈ W, p ≤ a) : ∃ W', W = p :: W' ∧ p ∉ W' ∧ ∀ a ∈ W', p + 1 ≤ a := by
  cases W with
  | nil => cases hp
  | cons a W' =>
    have hr := List.pairwise_cons.1 v.rise
    have hap : a = p := by
      rcases List.mem_cons.1 hp with e | e
      · exact e.symm
      · have h1 := hr.1 p e
        have h2 := hl a (by simp)
        omega
    subst hap
    exact ⟨W', rfl, fun e => by have := hr.1 _ e; omega, fun c hc => by have := hr.1 c hc; omega⟩

/-- what one place comes to -/
theorem wlk_at (b : Bo) (f : Nat) (at' : Int) (H : List (Int × Int)) (a : Int) (W : List Int) : wlk b (f + 1) at' (H, a :: W) = if (atR b a (H, W)).2 = 0 then wlk b f a (atR b a (H, W)).1 else ((atR b a (H, W)).1.1, a, (atR b a (H, W)).2) := by
  conv => lhs; unfold wlk
  unfold atR
  by_cases h : (b.pas (H, W) a).2 = 0
  · rw [if_pos h, if_pos h]
  · rw [if_neg h, if_neg h, if_neg h]

/-- what stays so behind one place -/
theorem atR_inv {b : Bo} (hf : Fit b) {H : List (Int × Int)} {a : Int} {W : List Int} (v : Inv b.ps b.sk (H, a :: W)) : Inv b.ps b.sk (atR b a (H, W)).1 ∧ mu b.ps (atR b a (H, W)).1 + 1 ≤ mu b.ps (H, a :: W) := by
  obtain ⟨v2, hmu, hin, hh, hlk, hh0, hh1⟩ := v.pop
  unfold atR
  by_cases hp : (b.pas (H, W) a).2 = 0
  · rw [if_pos hp]
    obtain ⟨i, hi, him, _⟩ := hf.at hin
    have hpe : b.pas (H, W) a = pasI b.m b.sk (b.ls.getD (b.ps.idxOf a) (0, 0)) hh := by
      unfold Bo.pas
      rw [hlk]
      rfl
    have hpk := pas_ok (m := b.m) (sk := b.sk) (i := i) (h := hh) (hf.sml i him).2.2.1 (by rw [hpe, getD_of hi] at hp; exact hp)
    have hp1 : 0 ≤ (b.pas (H, W) a).1 ∧ (b.pas (H, W) a).1 ≤ b.sk := by rw [hpe, getD_of hi]; exact hpk
    have hld : ∀ n ∈ b.lds a, n = b.L ∨ n ∈ b.ps := by
      have := hf.lds (b.ps.idxOf a) i him
      unfold Bo.lds
      rw [getD_of hi]
      exact this
    obtain ⟨v3, hmu3⟩ := Inv.rchs (L := b.L) hp1.1 hp1.2 (b.lds a) v2 hld
    exact ⟨v3, by omega⟩
  · rw [if_neg hp]
    exact ⟨v2, Nat.le_of_eq hmu⟩

theorem wlk_nil (b : Bo) (f : Nat) (at' : Int) (H : List (Int × Int)) : wlk b f at' (H, []) = (H, at', 0) := by
  cases f <;> rfl
end Go.Proofs.YtcknoeepdjhnoaaGreatDoor

namespace Go.Proofs.YtcknoeepdjhnoaaGreatDoor
open Go.RowKit
set_option linter.unusedVariables false
set_option linter.unusedSimpArgs false

/-- the fault that walking tells -/
def wlkV (f : Nat) (R : List (Int × Int) × Int × Int) : Array Value := if R.2.2 = 0 then #[.int .i64 0, .int .i64 0, .int .i64 0] else #[.int .i64 R.2.2, .int .i64 (f : Int), .int .i64 R.2.1]

theorem RwK.frame {w w' : World} {B g : Nat} {x : Kv} {m : Md} {fn : Fn} {ps : List Int} {L qh ch qw cw : Nat} {hs ws : List Value} {lw : Int} (h : RwK w B g x m fn ps L qh ch qw cw hs ws lw) (hb : Below g w w') (hk : ∀ k, k = g ∨ k = qh ∨ k = qw → w'.heap[k]? = w.heap[k]?) : RwK w' B g x m fn ps L qh ch qw cw hs ws lw :=
  ⟨h.see.keep hb h.bg h.pg ((hk g (.inl rfl)).trans h.see.box), own_later h.oh (fun b _ hb' => hk b (.inr (.inl (Option.some.inj hb').symm))), own_later h.ow (fun b _ hb' => hk b (.inr (.inr (Option.some.inj hb').symm))), h.bg, h.pg⟩

set_option maxRecDepth 100000 in
set_option maxHeartbeats 8000000 in
theorem walkK_any {w : World} {B g : Nat} {x : Kv} {m : Md} {fn : Fn} {ps : List Int} {L qh ch qw cw : Nat} (h : RwK w B g x m fn ps L qh ch qw cw (HV ([], []) L) (WV ([], []) L) 0) (hL : L ≤ 4000) (hL0 : 0 < L) (b : Bo) (hb : b = boF m fn) (hps : ps = b.ps) (hLb : (L : Int) = b.L) (hf : Fit b) (hls : (lsF fn.2.2.2).2.2.2 = 0) (R : List (Int × Int) × Int × Int) (hR : wlk b ps.length 0 ([(0, 0)], [0]) = R) :
    Calls Tryz.prog 28 #[.pointer (some ⟨g, 0, none⟩)] w fun e w' => e = .returned (.agg (wlkV x.f R)) ∧ (R.2.2 = 0 → ∃ lw, RwK w' B g x m fn ps L qh ch qw cw (HV (R.1, []) L) (WV (R.1, []) L) lw) ∧ Below g w w' := by
  obtain ⟨G, hG⟩ : ∃ G, w.heap.size = G := ⟨_, rfl⟩
  obtain ⟨FV, hFV⟩ : ∃ FV, wlkV x.f R = FV := ⟨_, rfl⟩
  rw [hFV]
  obtain ⟨w1, hw1⟩ : ∃ w1, w.alloc (.cells #[.int .i64 0, .int .i64 0, .int .i64 0] 31) = w1 := ⟨_, rfl⟩
  have A1 : w1.heap[G]? = some (.cells #[.int .i64 0, .int .i64 0, .int .i64 0] 31 (0, 0)) := by rw [← hw1, ← hG]; exact heap_alloc_new _ _
  have B1 : Below w.heap.size w w1 := by rw [← hw1]; exact (Below.refl _ _).alloc (Nat.le_refl _) _
  have r1 := h.later B1
  have hgt := h.gt
  rw [hG] at hgt
  obtain ⟨w2, hw2⟩ : ∃ w2, w1.setCell ⟨qh, 0, none⟩ (.int .i64 0) = w2 := ⟨_, rfl⟩
  have r2 := r1.setH 0 (.int .i64 0)
  rw [hw2] at r2
  obtain ⟨w3, hw3⟩ : ∃ w3, w2.setCell ⟨qw, 0, none⟩ (.bool true) = w3 := ⟨_, rfl⟩
  have r3 := r2.setW 0 (.bool true)
  rw [hw3] at r3
  have r3' : RwK w3 B g x m fn ps L qh ch qw cw (HV ([(0, 0)], [0]) L) (WV ([(0, 0)], [0]) L) 0 := by
    have e1 := HV_set ([], []) L 0 0 [0]
    have e2 := WV_set ([], []) L 0 [(0, 0)]
    rw [e1, e2] at r3
    exact r3
  have A3 : w3.heap[G]? = some (.cells #[.int .i64 0, .int .i64 0, .int .i64 0] 31 (0, 0)) := by rw [← hw3, heap_setCell_other _ _ _ _ (show G ≠ qw by omega), ← hw2, heap_setCell_other _ _ _ _ (show G ≠ qh by omega)]; exact A1
  have B3 : Below g w w3 := by
    rw [← hw3, ← hw2]
    exact ((B1.mono (show g ≤ w.heap.size by omega)).setCell (p := ⟨qh, 0, none⟩) (by show g ≤ qh; omega) _).setCell (p := ⟨qw, 0, none⟩) (by show g ≤ qw; omega) _
  obtain ⟨c0, c1, c3, c5, c6, c7, c8⟩ := r1.see.at
  obtain ⟨ce, fz⟩ := own_cell r1.oh (HV_at ([], []) L 0 hL0)
  obtain ⟨d0, d1, d3, d5, d6, d7, d8⟩ := r2.see.at
  obtain ⟨de, dz⟩ := own_cell r2.ow (WV_at ([], []) L 0 hL0)
  have l0 : (0 : Int) < (L : Int) := by omega
  have h0m : (0 : Int) ∈ b.ps := by obtain ⟨r, hr⟩ := hf.snd.fst; rw [hr]; simp
  have hst := Inv.start (ps := b.ps) (sk := b.sk) h0m hf.s0
  rw [hps] at hR
  have HST : Hid (RwK w3 B g x m fn ps L qh ch qw cw (HV ([(0, 0)], [0]) L) (WV ([(0, 0)], [0]) L) 0 ∧ w3.heap[G]? = some (.cells #[.int .i64 0, .int .i64 0, .int .i64 0] 31 (0, 0)) ∧ Below g w w3 ∧ ∀ a ∈ [(0 : Int)], ((0 : Nat) : Int) ≤ a) := hide ⟨r3', A3, B3, fun a ha => by simp at ha; omega⟩
  have HIV : Hid (Inv b.ps b.sk ([(0, 0)], [0]) ∧ mu b.ps ([(0, 0)], [0]) ≤ b.ps.length ∧ wlk b b.ps.length 0 ([(0, 0)], [0]) = R) := hide ⟨hst.1, hst.2, hR⟩
  have HF := hide (And.intro hb (And.intro hps (And.intro hLb (And.intro hf hls))))
  have HW1 := hide hw1
  have HW2 := hide hw2
  have HW3 := hide hw3
  have HFV := hide hFV
  obtain ⟨N, hN⟩ : ∃ N, b.ps.length * (L + 1) + L = N := ⟨_, rfl⟩
  have HN := hide hN
  clear hw1 hw2 hw3 h r1 r2 r3 r3' A1 A3 B1 B3 hst hR h0m hf hb hps hLb hls hFV hN c0 c1 c3 c5 c7 c8 d0 d1 d3 d5 d6 d8
  go_enter Tryz.func28, Tryz.ntmps28
  go_upto_region 1 with fail
  rw [unhide HW1]
  go_upto_region 2 with fail
  rw [unhide HW2]
  clear ce fz c6
  go_upto_region 3 with fail
  rw [unhide HW3]
  clear de dz d7
  go_wp2_with fail
  go_loopg [3] N (fun gk v3 wr => ∃ (p f : Nat) (at' : Int) (s : Sv) (lw : Int), v3 = .int .i64 (p : Int) ∧ Hid (p ≤ L ∧ f * (L + 1) + (L - p) ≤ gk) ∧ Hid (RwK wr B g x m fn ps L qh ch qw cw (HV s L) (WV s L) lw ∧ wr.heap[G]? = some (.cells #[.int .i64 0, .int .i64 0, .int .i64 0] 31 (0, 0)) ∧ Below g w wr ∧ ∀ a ∈ s.2, (p : Int) ≤ a) ∧ Hid (Inv b.ps b.sk s ∧ mu b.ps s ≤ f ∧ wlk b f at' s = R))
  case atStart => exact ⟨0, b.ps.length, 0, _, 0, rfl, hide ⟨by omega, by have := unhide HN; omega⟩, HST, HIV⟩
  case round =>
    obtain ⟨p, f, at', ⟨H, W⟩, lw, rfl, HP, HR, HI⟩ := hrel
    clear HST HIV
    obtain ⟨c0, c1, c3, c5, c6, c7, c8⟩ := (unhide HR).1.see.at
    have hwG : G < wr.heap.size := (Array.getElem?_eq_some_iff.1 (unhide HR).2.1).1
    by_cases hlt : p < L
    · have p1 : (p : Int) < (L : Int) := by omega
      have p0 : (0 : Int) ≤ (p : Int) := by omega
      obtain ⟨ce, fz⟩ := own_cell (unhide HR).1.ow (WV_at (H, W) L p hlt)
      simp only [] at ce
      by_cases hin : (p : Int) ∈ W
      · rw [decide_eq_true hin] at ce
        obtain ⟨W', hW, hnp, hge⟩ := (unhide HI).1.least hin (unhide HR).2.2.2
        subst hW
        obtain ⟨v2, hmu, hpm, y, hlk, hy0, hy1⟩ := (unhide HI).1.pop
        obtain ⟨f, rfl⟩ : ∃ f', f = f' + 1 := ⟨f - 1, by have := (unhide HI).2.1; omega⟩
        have hai := atR_inv (unhide HF).2.2.2.1 (unhide HI).1
        have hwl := (unhide HI).2.2
        rw [wlk_at] at hwl
        obtain ⟨w4, hw4⟩ : ∃ w4, wr.setCell ⟨qw, p, none⟩ (.bool false) = w4 := ⟨_, rfl⟩
        have r4 := (unhide HR).1.setW p (.bool false)
        rw [hw4, WV_pop H W' L p hnp, HV_pop H _ W' L] at r4
        obtain ⟨w5, hw5⟩ : ∃ w5, w4.setCell ⟨g, 8, none⟩ (.int .i64 ((p : Int) + 1)) = w5 := ⟨_, rfl⟩
        have r5 := r4.setL ((p : Int) + 1)
        rw [hw5] at r5
        have A5 : w5.heap[G]? = some (.cells #[.int .i64 0, .int .i64 0, .int .i64 0] 31 (0, 0)) := by rw [← hw5, heap_setCell_other _ _ _ _ (show G ≠ g by omega), ← hw4, heap_setCell_other _ _ _ _ (show G ≠ qw by omega)]; exact (unhide HR).2.1
        have B5 : Below g w w5 := by
          rw [← hw5, ← hw4]
          exact ((unhide HR).2.2.1.setCell (p := ⟨qw, p, none⟩) (by show g ≤ qw; omega) _).setCell (p := ⟨g, 8, none⟩) (Nat.le_refl _) _
        obtain ⟨e0, e1, e3, e5, e6, e7, e8⟩ := r4.see.at
        have fz8 := frozen_of_row w4 g 8 _ _ r4.see.box
        have hps := (unhide HF).2.1
        have CA := hide (atK_any (r5.st hge) hL b (unhide HF).1 hps (unhide HF).2.2.1 (unhide HF).2.2.2.1 (unhide HF).2.2.2.2 p (hps ▸ hpm) (hps ▸ v2) y hlk ⟨by omega, by omega⟩)
        obtain ⟨⟨s6, e6v⟩, hat⟩ : ∃ r, atR b (p : Int) (H, W') = r := ⟨_, rfl⟩
        rw [hat] at CA hai hwl
        simp only [] at CA hai hwl
        have H5 := hide (And.intro r5 (And.intro A5 B5))
        have HAI := hide (And.intro hai (And.intro hwl hmu))
        have hG5 : G < w5.heap.size := (Array.getElem?_eq_some_iff.1 A5).1
        have HW4 := hide hw4
        have HW5 := hide hw5
        clear hw4 hw5 r4 r5 A5 B5 hai hwl hat hlk v2 hpm hps hge hnp c0 c1 c3 c5 c6 c8 e0 e1 e3 e5 e6 e7 hmu hin
        go_upto_region 8 with fail
        rw [unhide HW4]
        clear ce fz c7
        go_upto_region 9 with fail
        rw [unhide HW5]
        clear e8 fz8
        go_wp2_with fail
        refine (unhide CA).mono ?_
        rintro e w6 ⟨rfl, q, hq, s6k, b6, o6⟩
        have A6 : w6.heap[G]? = some (.cells #[.int .i64 0, .int .i64 0, .int .i64 0] 31 (0, 0)) := (o6 G hG5 (by omega) (by omega) (by omega)).trans (unhide H5).2.1
        have H6 := hide (And.intro s6k (And.intro A6 ((unhide H5).2.2.trans b6)))
        clear s6k A6 b6 o6 CA
        by_cases he : e6v = 0
        · subst he
          obtain ⟨k0, k1, k3, k5, k6, k7, k8⟩ := (unhide H6).1.see.at
          clear k0 k1 k3 k5 k6 k7
          obtain ⟨X, hX⟩ : ∃ X, f * (L + 1) = X := ⟨_, rfl⟩
          have hXX : (f + 1) * (L + 1) = X + (L + 1) := by rw [← hX, Nat.succ_mul]
          have HM : Hid (X + (L - q) < gk) := hide (by have := (unhide HP).2; rw [hXX] at this; omega)
          have HX := hide hX
          clear hX hXX
          go_wp2_with fail
          go_roundg (X + (L - q))
          case measure => exact unhide HM
          case rel => exact ⟨q, f, (p : Int), s6, (q : Int), rfl, hide ⟨hq, by rw [unhide HX]; exact Nat.le_refl _⟩, hide ⟨(unhide H6).1.raw, (unhide H6).2.1, (unhide H6).2.2, (unhide H6).1.low⟩, hide ⟨(unhide HAI).1.1, by have := (unhide HAI).1.2; have := (unhide HI).2.1; omega, by have := (unhide HAI).2.1; rw [if_pos (by trivial)] at this; exact this⟩⟩
        · have qe : (e6v == 0) = false := by simpa using he
          have HRR : Hid (R = (s6.1, (p : Int), e6v)) := hide (by have := (unhide HAI).2.1; rw [if_neg he] at this; exact this.symm)
          have CF := hide (faultK_any (unhide H6).1.see e6v (p : Int))
          go_wp2_with fail
          refine (unhide CF).mono ?_
          rintro e w7 ⟨rfl, b7⟩
          have hG6 : G < w6.heap.size := (Array.getElem?_eq_some_iff.1 (unhide H6).2.1).1
          have A7 : w7.heap[G]? = some (.cells #[.int .i64 0, .int .i64 0, .int .i64 0] 31 (0, 0)) := (b7.block G hG6).trans (unhide H6).2.1
          have H7 : Hid (Below g w w7) := hide ((unhide H6).2.2.trans (b7.mono (by omega)))
          obtain ⟨q0, q1, q2⟩ := row_cell3 A7
          have y0 := frozen_of_row w7 G 0 _ _ A7
          have y1 := frozen_of_row w7 G 1 _ _ A7
          have y2 := frozen_of_row w7 G 2 _ _ A7
          have HA7 := hide A7
          clear A7 b7 CF
          go_wp2_with fail
          refine bodyPost_ret (ret_c1 (p := 2) (T := 31) rfl _ _ G _ _ _ rfl (set3 (unhide HA7) _ _ _) Tryz.underlying31 rfl size_flt) rfl ⟨?_, ?_, ?_⟩
          · rw [← unhide HFV, unhide HRR]
            unfold wlkV
            simp only []
            rw [if_neg he]
          · intro h0
            rw [unhide HRR] at h0
            exact absurd h0 he
          · exact set3_below (unhide H7) (by omega) _ _ _
      · rw [decide_eq_false hin] at ce
        have HM : Hid (f * (L + 1) + (L - (p + 1)) < gk) := hide (by have := (unhide HP).2; omega)
        have HG2 : Hid (∀ a ∈ W, ((p + 1 : Nat) : Int) ≤ a) := hide (fun a ha => by
          have h1 := (unhide HR).2.2.2 a ha
          have h2 : a ≠ (p : Int) := fun e => hin (e ▸ ha)
          try simp only [] at h1
          omega)
        clear c0 c1 c3 c5 c6 c8 fz hin
        go_wp2_with fail
        go_roundg (f * (L + 1) + (L - (p + 1)))
        case measure => exact unhide HM
        case rel => exact ⟨p + 1, f, at', (H, W), lw, by go_num, hide ⟨by omega, Nat.le_refl _⟩, hide ⟨(unhide HR).1, (unhide HR).2.1, (unhide HR).2.2.1, unhide HG2⟩, HI⟩
    · have p1 : ¬ (p : Int) < (L : Int) := by omega
      have hWn : W = [] := by
        cases W with
        | nil => rfl
        | cons a W' =>
          exfalso
          have h1 := (unhide HR).2.2.2 a (by simp)
          have h2 := (unhide HF).2.2.2.1.snd.inn a ((unhide HI).1.wait a (by simp)).1
          have h3 := (unhide HF).2.2.1
          try simp only [] at h1
          omega
      subst hWn
      have HRR : Hid (R = (H, at', 0)) := hide (by rw [← (unhide HI).2.2, wlk_nil])
      obtain ⟨q0, q1, q2⟩ := row_cell3 (unhide HR).2.1
      have y0 := frozen_of_row wr G 0 _ _ (unhide HR).2.1
      have y1 := frozen_of_row wr G 1 _ _ (unhide HR).2.1
      have y2 := frozen_of_row wr G 2 _ _ (unhide HR).2.1
      clear c0 c1 c3 c5 c6 c8
      go_wp2_with fail
      refine bodyPost_ret (ret_c1 (p := 2) (T := 31) rfl _ _ G _ _ _ rfl (set3 (unhide HR).2.1 _ _ _) Tryz.underlying31 rfl size_flt) rfl ⟨?_, ?_, ?_⟩
      · rw [← unhide HFV, unhide HRR]
        rfl
      · intro _
        rw [unhide HRR]
        refine ⟨lw, (unhide HR).1.frame (set3_below (Below.refl _ _) (by omega) _ _ _) (fun k hk => ?_)⟩
        have hkG : k ≠ G := by omega
        rw [heap_setCell_other _ _ _ _ hkG, heap_setCell_other _ _ _ _ hkG, heap_setCell_other _ _ _ _ hkG]
      · exact set3_below (unhide HR).2.2.1 (by omega) _ _ _
end Go.Proofs.YtcknoeepdjhnoaaGreatDoor

namespace Go.Proofs.YtcknoeepdjhnoaaGreatDoor
open Go.RowKit

set_option maxRecDepth 100000 in
set_option maxHeartbeats 1000000 in
theorem rlist_any (ao : Option Addr) (len cap : Nat) (zs : List Int) (w : World) (hz : Row8 w ao len cap zs) (hcap : cap ≤ 9223372036854775807) (hN : (cntI zs len 0 + 1) * 16 ≤ 140737488355328) :
    Calls Tryz.prog 25 #[.slice ao len cap] w fun e w' => ∃ al cl ap cp, e = .returned (.tuple #[.slice al (lst zs len 0).1.length cl, .slice ap (lst zs len 0).2.1.length cp, .int .i64 (lst zs len 0).2.2.1, .int .i64 (lst zs len 0).2.2.2]) ∧ Listed w w' (lst zs len 0) al cl ap cp := by
  obtain ⟨i3, hi3, hz30, hz31, hz32⟩ := info_parts int_info
  obtain ⟨iN, hiN, hzN0, hzN1, hzN2⟩ := info_parts ins_info
  have HI := hide (And.intro hi3 (And.intro hz30 (And.intro hz31 hz32)))
  have HJ := hide (And.intro hiN (And.intro hzN0 (And.intro hzN1 hzN2)))
  have HALL : Hid (∀ u, Below w.heap.size w u → Row8 u ao len cap zs) := hide (fun u hu => hz.later hu)
  have hzl := hz.length
  have hle := hz.le
  obtain ⟨R, hR⟩ : ∃ R, lst zs len 0 = R := ⟨_, rfl⟩
  obtain ⟨N, hNN⟩ : ∃ N, cntI zs len 0 = N := ⟨_, rfl⟩
  rw [hNN] at hN
  rw [hR]
  have HR := hide (And.intro hR hNN)
  obtain ⟨B0, hB0⟩ : ∃ B0, w.heap.size = B0 := ⟨_, rfl⟩
  clear hz hi3 hz30 hz31 hz32 hiN hzN0 hzN1 hzN2 hR hNN
  go_enter Tryz.func25, Tryz.ntmps25
  go_wp2_with fail
  go_loopw [6, 7, 8] (fun v u x wr => ∃ (p f : Nat) (la : List Ins) (pa : List Int), x = .int .i64 (p : Int) ∧ Hid (p ≤ len ∧ len ≤ p + f ∧ la.length = pa.length ∧ la.length + cntI zs f p = N) ∧ Hid (wr.ownsRow w.heap.size 75 2 v la.length (insV la) ∧ wr.ownsRow w.heap.size 3 1 u pa.length (pa.map (Value.int .i64)) ∧ Below w.heap.size w wr ∧ R = glue la pa (lst zs f p))) (fun _ _ x _ => len - (intOf x).toNat)
  case atStart => exact ⟨0, len, [], [], rfl, hide ⟨by omega, by omega, rfl, by simp [(unhide HR).2]⟩, hide ⟨World.ownsRow_nil _ _ _ _, World.ownsRow_nil _ _ _ _, Below.refl _ _, by rw [← (unhide HR).1, lst_norm]⟩⟩
  case round =>
    obtain ⟨p, f, la, pa, rfl, HX, HY⟩ := hrel
    obtain ⟨wq, hwq⟩ : ∃ wq, wq = wr := ⟨_, rfl⟩
    subst hwq
    have szq : w.heap.size ≤ wq.heap.size := (unhide HY).2.2.1.size
    by_cases hlt : p < len
    · have p1 : (p : Int) < (len : Int) := by omega
      obtain ⟨f, rfl⟩ : ∃ f', f = f' + 1 := ⟨f - 1, by have := (unhide HX).2.1; omega⟩
      have CT := hide (rtake_any ao len cap zs (p : Int) wq (unhide HALL wq (unhide HY).2.2.1) hcap)
      have hst : lst zs (f + 1) p = if (takeI zs (p : Int)).2.2.2 = 0 then glue [((takeI zs (p : Int)).1, (takeI zs (p : Int)).2.1)] [(p : Int)] (lst zs f (takeI zs (p : Int)).2.2.1.toNat) else ([], [], (p : Int), (takeI zs (p : Int)).2.2.2) := by
        conv => lhs; unfold lst
        rw [if_neg (by omega)]
      have hct : cntI zs (f + 1) p = if (takeI zs (p : Int)).2.2.2 = 0 then 1 + cntI zs f (takeI zs (p : Int)).2.2.1.toNat else 0 := by
        conv => lhs; unfold cntI
        rw [if_neg (by omega)]
      have hgd := take_good zs p
      have hbd := take_bad zs (p : Int)
      obtain ⟨t0, t1, t2, t3, hT⟩ : ∃ t0 t1 t2 t3, takeI zs (p : Int) = (t0, t1, t2, t3) := ⟨_, _, _, _, rfl⟩
      rw [hT] at CT hst hct hgd hbd
      simp only [takeV] at CT hst hct hgd hbd
      have HL := hide hlt
      have HG := hide (And.intro hst (And.intro hct (And.intro hgd hbd)))
      clear hst hct hgd hbd hT hlt
      go_wp2_with fail
      refine (unhide CT).mono ?_
      rintro e w2 ⟨rfl, B2⟩
      have H2 := hide B2
      have z2 := B2.size
      have X2 : Hid (Below w.heap.size w w2) := hide ((unhide HY).2.2.1.trans (B2.mono szq))
      clear B2 CT
      by_cases he : t3 = 0
      · subst he
        have hg := (unhide HG).2.2.1 rfl
        have hst := (unhide HG).1
        have hct := (unhide HG).2.1
        rw [if_pos rfl] at hst hct
        obtain ⟨q, hq⟩ : ∃ q : Nat, t2 = (q : Int) := ⟨t2.toNat, by omega⟩
        subst hq
        rw [Int.toNat_natCast] at hst hct
        have hqp : p < q ∧ q ≤ len := by have := hg.2.2.2.2.1; have := hg.2.2.2.2.2; omega
        have HS := hide (And.intro hst hct)
        clear hg hst hct
        go_upto_region 8 with fail
        obtain ⟨w3, hw3⟩ : ∃ w3, w3 = w2.alloc (.cells #[.int .i64 t0, .int .i64 t1] 75) := ⟨_, rfl⟩
        rw [← hw3]
        have B3 : Hid (Below wq.heap.size wq w3) := hide (by rw [hw3]; exact (unhide H2).alloc (unhide H2).size _)
        have z3 := (unhide B3).size
        have X3 : Hid (Below w.heap.size w w3) := hide ((unhide HY).2.2.1.trans ((unhide B3).mono szq))
        obtain ⟨c0, c1⟩ := ins_cells (show w3.heap[w2.heap.size]? = some (.cells #[.int .i64 t0, .int .i64 t1] 75 (0, 0)) by rw [hw3]; exact heap_alloc_new _ _)
        have O3 : Hid (w3.ownsRow w.heap.size 75 2 u6 la.length (insV la) ∧ w3.ownsRow w.heap.size 3 1 u7 pa.length (pa.map (Value.int .i64))) := hide ⟨own_below (unhide HY).1 (unhide B3), own_below (unhide HY).2.1 (unhide B3)⟩
        have hla : (la.length + 1) * 16 ≤ 140737488355328 := by have := (unhide HX).2.2.2; omega
        have hpa : pa.length = la.length := (unhide HX).2.2.1.symm
        clear hw3
        have tokA : True := trivial
        have tokB : True := trivial
        go_wp2_with (first
          | (at_builtin; have _t := tokA; refine wpl_oneG rfl (.tmp 27) (.tmp 29) 53 75 iN _ 2 16 Tryz.underlying53 (unhide HJ).1 (unhide HJ).2.1 (unhide HJ).2.2.1 (unhide HJ).2.2.2 rfl (by omega) rfl w.heap.size la.length u6 (insV la) [.int .i64 t0, .int .i64 t1] rfl (by simp [Value.oneCell']) rfl (unhide O3).1 rfl (by unfold maxLen; omega) hla (by omega) ?_; clear tokA; intro v4 w4 H4; have z4 : w3.heap.size ≤ w4.heap.size := (unhide H4).2.1.size)
          | (at_builtin; have _t := tokB; refine wpl_oneG rfl (.tmp 31) (.tmp 33) 36 3 i3 _ 1 8 Tryz.underlying36 (unhide HI).1 (unhide HI).2.1 (unhide HI).2.2.1 (unhide HI).2.2.2 rfl (by omega) rfl w.heap.size pa.length u7 (pa.map (Value.int .i64)) [.int .i64 (p : Int)] rfl (by simp [Value.oneCell']) rfl ((unhide O3).2.kept (unhide H4).2.1 (own_apart (unhide O3).2 (unhide O3).1 (by decide))) rfl (by unfold maxLen; omega) (by omega) (by omega) ?_; clear tokB; intro v5 w5 H5))
        have H6 : Hid (w5.ownsRow w.heap.size 75 2 v4 (la ++ [(t0, t1)]).length (insV (la ++ [(t0, t1)])) ∧ w5.ownsRow w.heap.size 3 1 v5 (pa ++ [(p : Int)]).length ((pa ++ [(p : Int)]).map (Value.int .i64)) ∧ Below w.heap.size w w5 ∧ R = glue (la ++ [(t0, t1)]) (pa ++ [(p : Int)]) (lst zs f q)) := hide (by
          have o4 := (unhide O3).2.kept (unhide H4).2.1 (own_apart (unhide O3).2 (unhide O3).1 (by decide))
          refine ⟨?_, ?_, ?_, ?_⟩
          · have h1 := (unhide H4).1.kept (unhide H5).2.1 (own_apart (unhide H4).1 o4 (by decide))
            rw [insV_app, List.length_append]
            exact h1
          · rw [List.map_append, List.length_append]
            exact (unhide H5).1
          · have b4 : Below w.heap.size w3 w4 := (Below.refl _ _).grown (unhide H4).2.1 (by omega) (fun k e => ((unhide O3).1.lt k e).1)
            have b5 : Below w.heap.size w4 w5 := (Below.refl _ _).grown (unhide H5).2.1 (by omega) (fun k e => (o4.lt k e).1)
            exact ((unhide X3).trans b4).trans b5
          · rw [(unhide HY).2.2.2, (unhide HS).1, glue_glue])
        have HX1 : Hid (q ≤ len ∧ len ≤ q + f ∧ (la ++ [(t0, t1)]).length = (pa ++ [(p : Int)]).length ∧ (la ++ [(t0, t1)]).length + cntI zs f q = N) := hide (by
          have h1 := unhide HX
          rw [(unhide HS).2] at h1
          simp only [List.length_append, List.length_cons, List.length_nil]
          omega)
        clear H4 H5 O3 HS
        go_wp2_with fail
        go_roundw
        case rel => exact ⟨q, f, _, _, by first | rfl | go_num, HX1, H6⟩
        case measure => simp [intOf]; omega
      · have hb := (unhide HG).2.2.2 he
        obtain ⟨rfl, rfl, rfl⟩ := hb
        have hst := (unhide HG).1
        rw [if_neg he] at hst
        have he1 : (t3 == 0) = false := by simpa using he
        have hRR : R = ([], [], (p : Int), t3) := by rw [(unhide HY).2.2.2, hst]; unfold glue; rw [if_neg he]
        subst hRR
        have X3 : Hid (Below w.heap.size w w2) := X2
        clear hst
        go_wp2_with fail
        refine bodyPost_ret (ret_tttt (a := 2) (b := 3) (c := 4) (d := 5) rfl _ _) rfl ⟨none, 0, none, 0, rfl, ?_, World.ownsRow_nil _ _ _ _, World.ownsRow_nil _ _ _ _⟩
        exact (unhide X3).alloc (unhide X3).size _
    · have hp : p = len := by have := (unhide HX).1; omega
      subst hp
      have hst : lst zs f p = ([], [], 0, 0) := by
        cases f with
        | zero => rfl
        | succ f => unfold lst; rw [if_pos (by omega)]
      have hRR : R = (la, pa, 0, 0) := by rw [(unhide HY).2.2.2, hst, glue_end]
      subst hRR
      obtain ⟨al, cl, rfl⟩ := own_sliceG (unhide HY).1
      obtain ⟨ap, cp, rfl⟩ := own_sliceG (unhide HY).2.1
      clear hst
      go_wp2_with fail
      exact bodyPost_ret (ret_tttt (a := 2) (b := 3) (c := 4) (d := 5) rfl _ _) rfl ⟨al, cl, ap, cp, rfl, (unhide HY).2.2.1, (unhide HY).1, (unhide HY).2.1⟩
end Go.Proofs.YtcknoeepdjhnoaaGreatDoor

namespace Go.Proofs.YtcknoeepdjhnoaaGreatDoor
open Go.RowKit

end Go.Proofs.YtcknoeepdjhnoaaGreatDoor
