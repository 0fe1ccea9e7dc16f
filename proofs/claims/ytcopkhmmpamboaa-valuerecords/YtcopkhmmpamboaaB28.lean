/-
  The walk of the document's Record; conditions: the form's own reach.
-/
import Derived.Test.YtcopkhmmpamboaaB21
import Derived.Test.YtcopkhmmpamboaaB22
import Derived.Test.YtcopkhmmpamboaaB27
import Derived.Deep.QuietTactic
import Derived.BigQuiet
namespace Go.Proofs.Ytcopkhmmpamboaa
open Go.RowKit
set_option linter.unusedVariables false
set_option linter.unusedSimpArgs false

/-- how far Record is: its record so far -/
structure Rb (w u : World) (g gb nr : Nat) (R : List En) (qL qK : Option Addr) (pL pK : Nat) : Prop where
  at0 : u.heap[g]? = some (.cells #[.int .i64 0, .int .i64 0, .string ⟨#[]⟩, .slice none 0 0, .slice none 0 0] 27 (0, 0))
  box : u.heap[gb]? = some (.cells #[.int .i64 5, .int .i64 0, .string ⟨#[]⟩, .slice qL nr pL, .slice qK nr pK] 27 (0, 0))
  low : g < gb
  size : gb < u.heap.size
  below : Below g w u
  len : R.length = nr
  val : IsP u (fun b => b ≠ g ∧ b ≠ gb ∧ b < u.heap.size) (.mk 5 0 ⟨#[]⟩ (R.map (·.2)) (R.map (·.1))) (.agg #[.int .i64 5, .int .i64 0, .string ⟨#[]⟩, .slice qL nr pL, .slice qK nr pK])

theorem rb_later {w u u1 : World} {g gb nr : Nat} {R : List En} {qL qK : Option Addr} {pL pK : Nat} (h : Rb w u g gb nr R qL qK pL pK) (hu : Below u.heap.size u u1) : Rb w u1 g gb nr R qL qK pL pK := by
  have h1 := h.size
  have h2 := h.low
  have h3 := hu.size
  exact ⟨(hu.block g (by omega)).trans h.at0, (hu.block gb h1).trans h.box, h2, by omega, h.below.trans (hu.mono (by omega)), h.len, IsP.to (fun b hb => hu.block b hb.2.2) (fun b hb => ⟨hb.1, hb.2.1, by have := hb.2.2; omega⟩) h.val⟩

theorem rb_put {w u u1 : World} {g gb nr n' : Nat} {R R' : List En} {qL qK qL' qK' : Option Addr} {pL pK pL' pK' : Nat} (h : Rb w u g gb nr R qL qK pL pK) (hu : Below u.heap.size u u1) (hl : R'.length = n') (hv : IsP u1 (fun b => (b ≠ g ∧ b ≠ gb ∧ b < u.heap.size) ∨ (u.heap.size ≤ b ∧ b < u1.heap.size)) (.mk 5 0 ⟨#[]⟩ (R'.map (·.2)) (R'.map (·.1))) (.agg #[.int .i64 5, .int .i64 0, .string ⟨#[]⟩, .slice qL' n' pL', .slice qK' n' pK'])) :
    Rb w (((((u1.setCell ⟨gb, 0, none⟩ (.int .i64 5)).setCell ⟨gb, 1, none⟩ (.int .i64 0)).setCell ⟨gb, 2, none⟩ (.string ⟨#[]⟩)).setCell ⟨gb, 3, none⟩ (.slice qL' n' pL')).setCell ⟨gb, 4, none⟩ (.slice qK' n' pK')) g gb n' R' qL' qK' pL' pK' := by
  have h1 := h.size
  have h2 := h.low
  have h3 := hu.size
  have h' := rb_later h hu
  have R9 := five_set u1 gb 27 _ _ _ _ _ (.int .i64 5) (.int .i64 0) (.string ⟨#[]⟩) (.slice qL' n' pL') (.slice qK' n' pK') h'.box
  have O9 := five_other u1 gb (x0 := .int .i64 5) (x1 := .int .i64 0) (x2 := .string ⟨#[]⟩) (x3 := .slice qL' n' pL') (x4 := .slice qK' n' pK')
  have S9 : (((((u1.setCell ⟨gb, 0, none⟩ (.int .i64 5)).setCell ⟨gb, 1, none⟩ (.int .i64 0)).setCell ⟨gb, 2, none⟩ (.string ⟨#[]⟩)).setCell ⟨gb, 3, none⟩ (.slice qL' n' pL')).setCell ⟨gb, 4, none⟩ (.slice qK' n' pK')).heap.size = u1.heap.size := by simp
  refine ⟨(O9 g (by omega)).trans h'.at0, R9, h2, by rw [S9]; omega, five_below h'.below (by omega) _ _ _ _ _, hl, ?_⟩
  refine IsP.to (fun b hb => O9 b ?_) (fun b hb => ?_) hv
  · rcases hb with hb | hb
    · exact hb.2.1
    · omega
  · rw [S9]
    rcases hb with hb | hb
    · exact ⟨hb.1, hb.2.1, by omega⟩
    · exact ⟨by omega, by omega, hb.2⟩

theorem ins_all {α : Type} (E : List (ByteArray × α)) (hn : (E.map (·.1)).Nodup) : RisesK ((insE E).map (·.1)) ∧ (insE E).Perm E := by
  have := ins_spec E hn E.length
  rw [List.take_length] at this
  exact this

theorem nodup_step {α : Type} {E : List (ByteArray × α)} {i : Nat} {e : ByteArray × α} (h : E[i]? = some e) (hn : ((E.take i).map (·.1)).Nodup) : ((E.take (i + 1)).map (·.1)).Nodup ↔ e.1 ∉ (E.take i).map (·.1) := by
  have hs : (E.take (i + 1)).map (·.1) = (E.take i).map (·.1) ++ [e.1] := by rw [List.take_add_one, h, List.map_append]; rfl
  rw [hs, List.nodup_append]
  constructor
  · intro hx hm
    exact hx.2.2 e.1 hm e.1 (by simp) rfl
  · intro hx
    refine ⟨hn, by simp, fun a ha b hb => ?_⟩
    simp at hb
    subst hb
    exact fun e => hx (e ▸ ha)

set_option maxRecDepth 100000 in
set_option maxHeartbeats 4000000 in
theorem recD_any (es : List En) (al : Option Addr) (cl B : Nat) (w : World) (h : IsE w (fun b => b < B) es al cl) (hBs : B ≤ w.heap.size) :
    Calls Try.prog 9 #[.slice al es.length cl] w fun e w' => ∃ x', e = .returned (.tuple #[x', .int .i64 (docC es)]) ∧ Below w.heap.size w w' ∧ (docC es = 0 → IsV w' w'.heap.size (recOf es) x') ∧ (docC es ≠ 0 → x' = .agg #[.int .i64 0, .int .i64 0, .string ⟨#[]⟩, .slice none 0 0, .slice none 0 0]) := by
  obtain ⟨n, hn⟩ : ∃ n, es.length = n := ⟨_, rfl⟩
  obtain ⟨g, hg⟩ : ∃ g, w.heap.size = g := ⟨_, rfl⟩
  have hBg : B ≤ g := by omega
  have HE : Hid (∀ u, Below g w u → IsE u (fun b => b < B) es al cl) := hide (fun u hu => h.later (hu.mono hBg))
  have HN := hide hn
  obtain ⟨w1, hw1⟩ : ∃ w1, w.alloc (.cells #[.int .i64 0, .int .i64 0, .string ⟨#[]⟩, .slice none 0 0, .slice none 0 0] 27) = w1 := ⟨_, rfl⟩
  have HW1 : Hid (w1.heap[g]? = some (.cells #[.int .i64 0, .int .i64 0, .string ⟨#[]⟩, .slice none 0 0, .slice none 0 0] 27 (0, 0)) ∧ Below g w w1 ∧ w1.heap.size = g + 1) := hide (by
    rw [← hw1, ← hg]
    exact ⟨heap_alloc_new _ _, (Below.refl _ _).alloc (Nat.le_refl _) _, by simp⟩)
  rw [hn]
  by_cases hlong : 2048 < n
  · have hnl : (2048 : Int) < (n : Int) := by omega
    have HC : Hid (docC es = 33) := hide (by unfold docC; rw [if_pos (by have := unhide HN; omega)])
    clear hlong h hn
    go_enter Try.func9, Try.ntmps9
    go_upto_region 1 with fail
    try rw [hw1]
    clear hw1
    have ATX : w1.heap[g]? = some (.cells #[.int .i64 0, .int .i64 0, .string ⟨#[]⟩, .slice none 0 0, .slice none 0 0] 27 (0, 0)) := (unhide HW1).1
    obtain ⟨z0, z1, z2, z3, z4⟩ := row_cell ATX
    have fz : ∀ q, w1.frozen? ⟨g, q, none⟩ = false := fun q => frozen_of_row w1 g q _ _ ATX
    have fz0 := fz 0
    have fz1 := fz 1
    have fz2 := fz 2
    have fz3 := fz 3
    have fz4 := fz 4
    have HAT := hide ATX
    clear fz ATX
    go_wp2_with fail
    have ATX := unhide HAT
    have BW : Below g w w1 := (unhide HW1).2.1
    have R9 := five_set w1 g 27 _ _ _ _ _ (.int .i64 0) (.int .i64 0) (.string ⟨#[]⟩) (.slice none 0 0) (.slice none 0 0) ATX
    have B9 := five_below (g := g) BW (Nat.le_refl _) (.int .i64 0) (.int .i64 0) (.string ⟨#[]⟩) (.slice none 0 0) (.slice none 0 0)
    obtain ⟨w9, hw9⟩ : ∃ w9, (((((w1.setCell ⟨g, 0, none⟩ (.int .i64 0)).setCell ⟨g, 1, none⟩ (.int .i64 0)).setCell ⟨g, 2, none⟩ (.string ⟨#[]⟩)).setCell ⟨g, 3, none⟩ (.slice none 0 0)).setCell ⟨g, 4, none⟩ (.slice none 0 0)) = w9 := ⟨_, rfl⟩
    rw [hw9] at R9 B9 ⊢
    obtain ⟨r0, r1, r2, r3, r4⟩ := row_cell R9
    refine bodyPost_ret (v := .tuple #[.agg #[.int .i64 0, .int .i64 0, .string ⟨#[]⟩, .slice none 0 0, .slice none 0 0], .int .i64 33]) (by simp [results, Try.results9, go_sem, r0, r1, r2, r3, r4]) rfl ?_
    try rw [hg]
    rw [unhide HC]
    exact ⟨_, rfl, B9, (fun h => by cases h), fun _ => rfl⟩
  · have hnl : ¬ (2048 : Int) < (n : Int) := by omega
    have hn2 : n ≤ 2048 := by omega
    clear hlong h hn
    have HZ : Hid (∀ (j : Nat) (e : En), j < 0 → es[j]? = some e → e.1.size ≤ 32) := hide (fun j e hj => by omega)
    go_enter Try.func9, Try.ntmps9
    go_upto_region 1 with fail
    try rw [hw1]
    clear hw1
    go_wp2_with fail
    go_loopw [4] (fun y wr => ∃ i : Nat, i ≤ n ∧ y = .int .i64 i ∧ wr = w1 ∧ Hid (∀ (j : Nat) (e : En), j < i → es[j]? = some e → e.1.size ≤ 32)) (fun y _ => n - (intOf y).toNat)
    case atStart => exact ⟨0, Nat.zero_le _, rfl, rfl, HZ⟩
    case round =>
      clear HZ
      obtain ⟨i, hi, rfl, rfl, HK⟩ := hrel
      by_cases hlt : i < n
      · have i1 : (i : Int) < (n : Int) := by omega
        have i0 : (0 : Int) ≤ (i : Int) := by omega
        have HI1 : Hid (i + 1 ≤ n) := hide (by omega)
        obtain ⟨e, he⟩ : ∃ e, es[i]? = some e := ⟨_, List.getElem?_eq_getElem (by have := unhide HN; omega)⟩
        obtain ⟨a, x0, x1, x2, al', ak', ll', m', cl', ck', rfl, hab, hks, hce, hve⟩ := (unhide HE wr (unhide HW1).2.1).elem i e he
        have e0 : wr.cell? (a.add (i * 6)) = some (.string e.1) := hce 0 _ rfl
        have HEE := hide he
        obtain ⟨ky, hky⟩ : ∃ ky, e.1 = ky := ⟨_, rfl⟩
        rw [hky] at e0 hks
        have HKY := hide hky
        clear hce hve hab he hky
        by_cases h32 : ky.size ≤ 32
        · have h33 : ¬ (32 : Int) < (ky.size : Int) := by omega
          have HK1 : Hid (∀ (j : Nat) (e : En), j < i + 1 → es[j]? = some e → e.1.size ≤ 32) := hide (fun j e' hj he' => by
            by_cases hji : j < i
            · exact unhide HK j e' hji he'
            · obtain rfl : j = i := by omega
              rw [unhide HEE] at he'
              cases he'
              rw [unhide HKY]
              exact h32)
          clear h32
          go_wp2_with fail
          go_roundw
          case rel => exact ⟨i + 1, unhide HI1, by go_num, by first | rfl | trivial, HK1⟩
          case measure => have := unhide HI1; simp [intOf]; omega
        · have h33 : (32 : Int) < (ky.size : Int) := by omega
          have HC : Hid (docC es = 32) := hide (by
            unfold docC
            rw [if_neg (by have := unhide HN; omega), if_neg]
            rintro ⟨hx, _⟩
            have := hx e (List.mem_of_getElem? (unhide HEE))
            rw [unhide HKY] at this
            exact h32 this)
          clear h32
          have ATX : wr.heap[g]? = some (.cells #[.int .i64 0, .int .i64 0, .string ⟨#[]⟩, .slice none 0 0, .slice none 0 0] 27 (0, 0)) := (unhide HW1).1
          obtain ⟨z0, z1, z2, z3, z4⟩ := row_cell ATX
          have fz : ∀ q, wr.frozen? ⟨g, q, none⟩ = false := fun q => frozen_of_row wr g q _ _ ATX
          have fz0 := fz 0
          have fz1 := fz 1
          have fz2 := fz 2
          have fz3 := fz 3
          have fz4 := fz 4
          have HAT := hide ATX
          clear fz ATX
          go_wp2_with fail
          have ATX := unhide HAT
          have BW : Below g w wr := (unhide HW1).2.1
          have R9 := five_set wr g 27 _ _ _ _ _ (.int .i64 0) (.int .i64 0) (.string ⟨#[]⟩) (.slice none 0 0) (.slice none 0 0) ATX
          have B9 := five_below (g := g) BW (Nat.le_refl _) (.int .i64 0) (.int .i64 0) (.string ⟨#[]⟩) (.slice none 0 0) (.slice none 0 0)
          obtain ⟨w9, hw9⟩ : ∃ w9, (((((wr.setCell ⟨g, 0, none⟩ (.int .i64 0)).setCell ⟨g, 1, none⟩ (.int .i64 0)).setCell ⟨g, 2, none⟩ (.string ⟨#[]⟩)).setCell ⟨g, 3, none⟩ (.slice none 0 0)).setCell ⟨g, 4, none⟩ (.slice none 0 0)) = w9 := ⟨_, rfl⟩
          rw [hw9] at R9 B9 ⊢
          obtain ⟨r0, r1, r2, r3, r4⟩ := row_cell R9
          refine bodyPost_ret (v := .tuple #[.agg #[.int .i64 0, .int .i64 0, .string ⟨#[]⟩, .slice none 0 0, .slice none 0 0], .int .i64 32]) (by simp [results, Try.results9, go_sem, r0, r1, r2, r3, r4]) rfl ?_
          try rw [hg]
          rw [unhide HC]
          exact ⟨_, rfl, B9, (fun h => by cases h), fun _ => rfl⟩
      · have i1 : ¬ (i : Int) < (n : Int) := by omega
        have H32 : Hid (∀ e ∈ es, e.1.size ≤ 32) := hide (fun e he => by
          obtain ⟨j, hj⟩ := List.getElem?_of_mem he
          exact unhide HK j e (by have := (List.getElem?_eq_some_iff.1 hj).1; have := unhide HN; omega) hj)
        clear HK
        obtain ⟨gb, hgb⟩ : ∃ gb, wr.heap.size = gb := ⟨_, rfl⟩
        go_upto_region 9 with fail
        obtain ⟨u2, hu2⟩ : ∃ u2, wr.alloc (.cells #[.int .i64 5, .int .i64 0, .string ⟨#[]⟩, .slice none 0 0, .slice none 0 0] 27) = u2 := ⟨_, rfl⟩
        have HR0 : Hid (Rb w u2 g gb 0 [] none none 0 0) := hide (by
          have hb : Below wr.heap.size wr u2 := by rw [← hu2]; exact (Below.refl _ _).alloc (Nat.le_refl _) _
          have hsz := (unhide HW1).2.2
          have hs2 : u2.heap.size = gb + 1 := by rw [← hu2, ← hgb]; simp
          refine ⟨(hb.block g (by omega)).trans (unhide HW1).1, ?_, by omega, by omega, (unhide HW1).2.1.trans (hb.mono (by omega)), rfl, ?_⟩
          · rw [← hu2, ← hgb]; exact heap_alloc_new wr _
          · exact IsP.of (V := fun _ => []) ⟨by omega, by omega, by decide, fun _ => ⟨rfl, rfl⟩, fun _ => ⟨rfl, rfl⟩, Nat.le_refl _, Nat.le_refl _, by decide, by decide, by decide, fun a ha => by (cases ha), fun i hi => by (simp at hi), fun a ha => by (cases ha), fun t ht => by (cases ht)⟩ (fun i y hy => by simp at hy))
        try rw [hu2]
        try rw [hgb]
        clear hu2 hgb
        have HI0 : Hid (([] : List En) = insE (es.take 0) ∧ ((es.take 0).map (·.1)).Nodup) := hide ⟨by simp [insE], by simp⟩
        go_wp2_with fail
        go_loopw [6] (fun y wr => ∃ (i : Nat) (R : List En) (qL qK : Option Addr) (pL pK : Nat), i ≤ n ∧ y = .int .i64 i ∧ Hid (R = insE (es.take i) ∧ ((es.take i).map (·.1)).Nodup) ∧ Hid (Rb w wr g gb i R qL qK pL pK)) (fun y _ => n - (intOf y).toNat)
        case atStart => exact ⟨0, [], _, _, _, _, Nat.zero_le _, rfl, HI0, HR0⟩
        case round =>
          clear HR0 HI0
          obtain ⟨c, R, qL, qK, pL, pK, hc, rfl, HIN, HRr⟩ := hrel
          by_cases hlt : c < n
          · have j1 : (c : Int) < (n : Int) := by omega
            have j0 : (0 : Int) ≤ (c : Int) := by omega
            have HI1 : Hid (c + 1 ≤ n) := hide (by omega)
            obtain ⟨e, he⟩ : ∃ e, es[c]? = some e := ⟨_, List.getElem?_eq_getElem (by have := unhide HN; omega)⟩
            obtain ⟨a, x0, x1, x2, al', ak', ll', m', cl', ck', rfl, hab, hks, hce, hve⟩ := (unhide HE wr (unhide HRr).below).elem c e he
            obtain ⟨ky, hky⟩ : ∃ ky, e.1 = ky := ⟨_, rfl⟩
            obtain ⟨yv, hyv⟩ : ∃ yv, e.2 = yv := ⟨_, rfl⟩
            rw [hky] at hce hks
            rw [hyv] at hve
            have HEE : Hid (es[c]? = some e ∧ e.1 = ky ∧ e.2 = yv) := hide ⟨he, hky, hyv⟩
            have HCE := hide hce
            obtain ⟨d0, d1, d2, d3, d4⟩ := row_cell (unhide HRr).box
            have CP := put_any 5 0 ⟨#[]⟩ (R.map (·.2)) (R.map (·.1)) qL qK pL pK yv (.agg #[.int .i64 x0, .int .i64 x1, .string x2, .slice al' ll' cl', .slice ak' m' ck']) (fun b => b ≠ g ∧ b ≠ gb ∧ b < wr.heap.size) ky wr.drew
              (by
                have h1 := (unhide HRr).val
                have h2 := (unhide HRr).len
                rw [List.length_map, List.length_map, h2]
                exact IsP.move (w := wr) (w' := wr.drew) (fun _ _ => rfl) h1)
              (by rw [List.length_map, List.length_map])
              (IsP.to (w := wr) (w' := wr.drew) (fun _ _ => rfl) (fun b hb => by have hb' : b < B := hb; exact ⟨by omega, by have := (unhide HRr).low; omega, by have := (unhide HRr).size; have := (unhide HRr).low; omega⟩) hve)
              (fun b hb => hb.2.2) (by have := (unhide HRr).len; rw [List.length_map]; omega) hks
            rw [List.length_map, List.length_map, (unhide HRr).len] at CP
            have CP := hide CP
            clear hce hve hab he hky hyv
            go_upto_region 13 with fail
            have HS0 : Hid (wr.drew.cell? ⟨gb, 0, none⟩ = some (.int .i64 5) ∧ wr.drew.cell? ⟨gb, 1, none⟩ = some (.int .i64 0) ∧ wr.drew.cell? ⟨gb, 2, none⟩ = some (.string ⟨#[]⟩) ∧ wr.drew.cell? ⟨gb, 3, none⟩ = some (.slice qL c pL) ∧ wr.drew.cell? ⟨gb, 4, none⟩ = some (.slice qK c pK) ∧ wr.drew.cell? (a.add (c * 6)) = some (.string ky) ∧ wr.drew.cell? ⟨(a.add (c * 6)).block, (a.add (c * 6)).off + 1, none⟩ = some (.int .i64 x0) ∧ wr.drew.cell? ⟨(a.add (c * 6)).block, (a.add (c * 6)).off + 2, none⟩ = some (.int .i64 x1) ∧ wr.drew.cell? ⟨(a.add (c * 6)).block, (a.add (c * 6)).off + 3, none⟩ = some (.string x2) ∧ wr.drew.cell? ⟨(a.add (c * 6)).block, (a.add (c * 6)).off + 4, none⟩ = some (.slice al' ll' cl') ∧ wr.drew.cell? ⟨(a.add (c * 6)).block, (a.add (c * 6)).off + 5, none⟩ = some (.slice ak' m' ck')) := hide ⟨d0, d1, d2, d3, d4, unhide HCE 0 _ rfl, unhide HCE 1 _ rfl, unhide HCE 2 _ rfl, unhide HCE 3 _ rfl, unhide HCE 4 _ rfl, unhide HCE 5 _ rfl⟩
            clear d0 d1 d2 d3 d4
            refine till_begin (S := fun w' => w'.cell? ⟨gb, 0, none⟩ = some (.int .i64 5) ∧ w'.cell? ⟨gb, 1, none⟩ = some (.int .i64 0) ∧ w'.cell? ⟨gb, 2, none⟩ = some (.string ⟨#[]⟩) ∧ w'.cell? ⟨gb, 3, none⟩ = some (.slice qL c pL) ∧ w'.cell? ⟨gb, 4, none⟩ = some (.slice qK c pK) ∧ w'.cell? (a.add (c * 6)) = some (.string ky) ∧ w'.cell? ⟨(a.add (c * 6)).block, (a.add (c * 6)).off + 1, none⟩ = some (.int .i64 x0) ∧ w'.cell? ⟨(a.add (c * 6)).block, (a.add (c * 6)).off + 2, none⟩ = some (.int .i64 x1) ∧ w'.cell? ⟨(a.add (c * 6)).block, (a.add (c * 6)).off + 3, none⟩ = some (.string x2) ∧ w'.cell? ⟨(a.add (c * 6)).block, (a.add (c * 6)).off + 4, none⟩ = some (.slice al' ll' cl') ∧ w'.cell? ⟨(a.add (c * 6)).block, (a.add (c * 6)).off + 5, none⟩ = some (.slice ak' m' ck')) 12 (by kernel_rfl) ?_
            refine till_take 0 (v := .agg #[.int .i64 5, .int .i64 0, .string ⟨#[]⟩, .slice qL c pL, .slice qK c pK]) (some 38) rfl rfl rfl (by kernel_rfl) (by kernel_rfl) (by kernel_rfl) (by kernel_rfl) (fun _ _ _ h => h) (Or.inl ⟨by rfl, fun u hu => by obtain ⟨b0, b1, b2, b3, b4, g0, g1, g2, g3, g4, g5⟩ := hu; go_simp⟩) (unhide HS0) ?_
            try simp only [Act.put, List.setIfInBounds_toArray, List.set_cons_zero, List.set_cons_succ]
            refine till_take 1 (v := .slice (some a) n cl) (some 39) rfl rfl rfl (by kernel_rfl) (by kernel_rfl) (by kernel_rfl) (by kernel_rfl) (fun _ _ _ h => h) (Or.inl ⟨by rfl, fun u hu => by obtain ⟨b0, b1, b2, b3, b4, g0, g1, g2, g3, g4, g5⟩ := hu; go_simp⟩) (unhide HS0) ?_
            try simp only [Act.put, List.setIfInBounds_toArray, List.set_cons_zero, List.set_cons_succ]
            refine till_take 2 (v := .int .i64 (c : Int)) (some 40) rfl rfl rfl (by kernel_rfl) (by kernel_rfl) (by kernel_rfl) (by kernel_rfl) (fun _ _ _ h => h) (Or.inl ⟨by rfl, fun u hu => by obtain ⟨b0, b1, b2, b3, b4, g0, g1, g2, g3, g4, g5⟩ := hu; go_simp⟩) (unhide HS0) ?_
            try simp only [Act.put, List.setIfInBounds_toArray, List.set_cons_zero, List.set_cons_succ]
            refine till_take 3 (v := .pointer (some (a.add (c * 6)))) (some 41) rfl rfl rfl (by kernel_rfl) (by kernel_rfl) (by kernel_rfl) (by kernel_rfl) (fun _ _ _ h => h) (Or.inl ⟨by rfl, fun u hu => by obtain ⟨b0, b1, b2, b3, b4, g0, g1, g2, g3, g4, g5⟩ := hu; go_simp⟩) (unhide HS0) ?_
            try simp only [Act.put, List.setIfInBounds_toArray, List.set_cons_zero, List.set_cons_succ]
            refine till_take 4 (v := .pointer (some (a.add (c * 6)))) (some 42) rfl rfl rfl (by kernel_rfl) (by kernel_rfl) (by kernel_rfl) (by kernel_rfl) (fun _ _ _ h => h) (Or.inl ⟨by rfl, fun u hu => by obtain ⟨b0, b1, b2, b3, b4, g0, g1, g2, g3, g4, g5⟩ := hu; go_simp⟩) (unhide HS0) ?_
            try simp only [Act.put, List.setIfInBounds_toArray, List.set_cons_zero, List.set_cons_succ]
            refine till_take 5 (v := .string ky) (some 43) rfl rfl rfl (by kernel_rfl) (by kernel_rfl) (by kernel_rfl) (by kernel_rfl) (fun _ _ _ h => h) (Or.inl ⟨by rfl, fun u hu => by obtain ⟨b0, b1, b2, b3, b4, g0, g1, g2, g3, g4, g5⟩ := hu; go_simp⟩) (unhide HS0) ?_
            try simp only [Act.put, List.setIfInBounds_toArray, List.set_cons_zero, List.set_cons_succ]
            refine till_take 6 (v := .slice (some a) n cl) (some 44) rfl rfl rfl (by kernel_rfl) (by kernel_rfl) (by kernel_rfl) (by kernel_rfl) (fun _ _ _ h => h) (Or.inl ⟨by rfl, fun u hu => by obtain ⟨b0, b1, b2, b3, b4, g0, g1, g2, g3, g4, g5⟩ := hu; go_simp⟩) (unhide HS0) ?_
            try simp only [Act.put, List.setIfInBounds_toArray, List.set_cons_zero, List.set_cons_succ]
            refine till_take 7 (v := .int .i64 (c : Int)) (some 45) rfl rfl rfl (by kernel_rfl) (by kernel_rfl) (by kernel_rfl) (by kernel_rfl) (fun _ _ _ h => h) (Or.inl ⟨by rfl, fun u hu => by obtain ⟨b0, b1, b2, b3, b4, g0, g1, g2, g3, g4, g5⟩ := hu; go_simp⟩) (unhide HS0) ?_
            try simp only [Act.put, List.setIfInBounds_toArray, List.set_cons_zero, List.set_cons_succ]
            refine till_take 8 (v := .pointer (some (a.add (c * 6)))) (some 46) rfl rfl rfl (by kernel_rfl) (by kernel_rfl) (by kernel_rfl) (by kernel_rfl) (fun _ _ _ h => h) (Or.inl ⟨by rfl, fun u hu => by obtain ⟨b0, b1, b2, b3, b4, g0, g1, g2, g3, g4, g5⟩ := hu; go_simp⟩) (unhide HS0) ?_
            try simp only [Act.put, List.setIfInBounds_toArray, List.set_cons_zero, List.set_cons_succ]
            refine till_take 9 (v := .pointer (some ⟨(a.add (c * 6)).block, (a.add (c * 6)).off + 1, none⟩)) (some 47) rfl rfl rfl (by kernel_rfl) (by kernel_rfl) (by kernel_rfl) (by kernel_rfl) (fun _ _ _ h => h) (Or.inl ⟨by rfl, fun u hu => by obtain ⟨b0, b1, b2, b3, b4, g0, g1, g2, g3, g4, g5⟩ := hu; go_simp⟩) (unhide HS0) ?_
            try simp only [Act.put, List.setIfInBounds_toArray, List.set_cons_zero, List.set_cons_succ]
            refine till_take 10 (v := .agg #[.int .i64 x0, .int .i64 x1, .string x2, .slice al' ll' cl', .slice ak' m' ck']) (some 48) rfl rfl rfl (by kernel_rfl) (by kernel_rfl) (by kernel_rfl) (by kernel_rfl) (fun _ _ _ h => h) (Or.inl ⟨by rfl, fun u hu => by obtain ⟨b0, b1, b2, b3, b4, g0, g1, g2, g3, g4, g5⟩ := hu; go_simp⟩) (unhide HS0) ?_
            try simp only [Act.put, List.setIfInBounds_toArray, List.set_cons_zero, List.set_cons_succ]
            refine till_one 11 (by kernel_rfl) rfl (fun K hK => ?_)
            go_simp
            refine (unhide CP).mono ?_
            rintro e5 u5 ⟨x5, rfl, p5, b5⟩
            have b6 : Below wr.heap.size wr u5 := below_drew_of' b5
            obtain ⟨R', hR'⟩ : ∃ R', putF ky yv R = R' := ⟨_, rfl⟩
            have hpv : putVl (R.map (·.2)) (R.map (·.1)) ky yv = .mk 5 0 ⟨#[]⟩ (R'.map (·.2)) (R'.map (·.1)) := by unfold putVl; rw [zip_maps, hR']
            rw [hpv] at p5
            obtain ⟨n', hn'⟩ : ∃ n', R'.length = n' := ⟨_, rfl⟩
            obtain ⟨qL', qK', pL', pK', rfl⟩ : ∃ qL' qK' pL' pK', x5 = .agg #[.int .i64 5, .int .i64 0, .string ⟨#[]⟩, .slice qL' n' pL', .slice qK' n' pK'] := by
              obtain ⟨k4, m4, s4, l4, ks4, al4, ak4, cl4, ck4, hv4, hx4⟩ := p5.shape
              cases hv4
              rw [List.length_map, List.length_map, hn'] at hx4
              exact ⟨_, _, _, _, hx4⟩
            have HP5 := hide (rb_put (unhide HRr) b6 hn' p5)
            have HB5 := hide (rb_later (unhide HRr) b6)
            have HRR := hide (And.intro hR' hn')
            have HS5 : Hid (u5.cell? ⟨gb, 0, none⟩ = some (.int .i64 5) ∧ u5.cell? ⟨gb, 1, none⟩ = some (.int .i64 0) ∧ u5.cell? ⟨gb, 2, none⟩ = some (.string ⟨#[]⟩) ∧ u5.cell? ⟨gb, 3, none⟩ = some (.slice qL c pL) ∧ u5.cell? ⟨gb, 4, none⟩ = some (.slice qK c pK) ∧ u5.cell? (a.add (c * 6)) = some (.string ky) ∧ u5.cell? ⟨(a.add (c * 6)).block, (a.add (c * 6)).off + 1, none⟩ = some (.int .i64 x0) ∧ u5.cell? ⟨(a.add (c * 6)).block, (a.add (c * 6)).off + 2, none⟩ = some (.int .i64 x1) ∧ u5.cell? ⟨(a.add (c * 6)).block, (a.add (c * 6)).off + 3, none⟩ = some (.string x2) ∧ u5.cell? ⟨(a.add (c * 6)).block, (a.add (c * 6)).off + 4, none⟩ = some (.slice al' ll' cl') ∧ u5.cell? ⟨(a.add (c * 6)).block, (a.add (c * 6)).off + 5, none⟩ = some (.slice ak' m' ck')) := hide ⟨cell_later b6 (unhide HS0).1, cell_later b6 (unhide HS0).2.1, cell_later b6 (unhide HS0).2.2.1, cell_later b6 (unhide HS0).2.2.2.1, cell_later b6 (unhide HS0).2.2.2.2.1, cell_later b6 (unhide HS0).2.2.2.2.2.1, cell_later b6 (unhide HS0).2.2.2.2.2.2.1, cell_later b6 (unhide HS0).2.2.2.2.2.2.2.1, cell_later b6 (unhide HS0).2.2.2.2.2.2.2.2.1, cell_later b6 (unhide HS0).2.2.2.2.2.2.2.2.2.1, cell_later b6 (unhide HS0).2.2.2.2.2.2.2.2.2.2⟩
            clear b5 b6 p5 hpv hR' hn' CP
            go_wp2_with fail
            refine hK.out _ _ (Or.inr (unhide HS5)) ?_
            clear hK K
            try simp only [Act.put, List.setIfInBounds_toArray, List.set_cons_zero, List.set_cons_succ]
            refine till_one 12 (by kernel_rfl) rfl (fun K hK => ?_)
            obtain ⟨d0, d1, d2, d3, d4⟩ := row_cell (unhide HB5).box
            have f0 := frozen_of_row u5 gb 0 _ _ (unhide HB5).box
            have f1 := frozen_of_row u5 gb 1 _ _ (unhide HB5).box
            have f2 := frozen_of_row u5 gb 2 _ _ (unhide HB5).box
            have f3 := frozen_of_row u5 gb 3 _ _ (unhide HB5).box
            have f4 := frozen_of_row u5 gb 4 _ _ (unhide HB5).box
            go_simp
            refine hK.out _ _ (Or.inl rfl) ?_
            clear hK K d0 d1 d2 d3 d4 f0 f1 f2 f3 f4
            try simp only [Act.put, List.setIfInBounds_toArray, List.set_cons_zero, List.set_cons_succ]
            refine till_done (by kernel_rfl) ?_ _
            obtain ⟨u6, hu6⟩ : ∃ u6, (((((u5.setCell ⟨gb, 0, none⟩ (.int .i64 5)).setCell ⟨gb, 1, none⟩ (.int .i64 0)).setCell ⟨gb, 2, none⟩ (.string ⟨#[]⟩)).setCell ⟨gb, 3, none⟩ (.slice qL' n' pL')).setCell ⟨gb, 4, none⟩ (.slice qK' n' pK')) = u6 := ⟨_, rfl⟩
            rw [hu6] at HP5
            rw [hu6]
            clear hu6 HS0 HS5 HB5
            obtain ⟨d0, d1, d2, d3, d4⟩ := row_cell (unhide HP5).box
            have hrun : (ky ∈ (es.take c).map (·.1) ∧ n' = c) ∨ (ky ∉ (es.take c).map (·.1) ∧ n' = c + 1) := by
              obtain ⟨h1, h2⟩ := unhide HIN
              obtain ⟨h3, h4⟩ := unhide HRR
              obtain ⟨h5, h6⟩ := ins_all (es.take c) h2
              rw [← h1] at h5 h6
              have h7 : R.length = c := (unhide HRr).len
              have h8 := (h6.map (·.1)).mem_iff (a := ky)
              by_cases hm : ky ∈ R.map (·.1)
              · exact Or.inl ⟨h8.1 hm, by rw [← h4, ← h3, putF_old R ky yv h5 hm, h7]⟩
              · exact Or.inr ⟨fun hx => hm (h8.2 hx), by rw [← h4, ← h3, (putF_new R ky yv h5 hm).2.length_eq]; simp [h7]⟩
            rcases hrun with ⟨hm, hnc⟩ | ⟨hm, hnc⟩
            · have HC : Hid (docC es = 32) := hide (by
                unfold docC
                rw [if_neg (by have := unhide HN; omega), if_neg]
                rintro ⟨_, hx⟩
                have hx' : ((es.take (c + 1)).map (·.1)).Nodup := by rw [List.map_take]; exact (List.take_sublist _ _).nodup hx
                obtain ⟨he, hky, _⟩ := unhide HEE
                have := (nodup_step he (unhide HIN).2).1 hx'
                rw [hky] at this
                exact this hm)
              have q1 : ((n' : Int) == (c : Int)) = true := by simp [hnc]
              have q2 : (n' : Int) = (c : Int) := by omega
              clear hm hnc
              have ATX : u6.heap[g]? = some (.cells #[.int .i64 0, .int .i64 0, .string ⟨#[]⟩, .slice none 0 0, .slice none 0 0] 27 (0, 0)) := (unhide HP5).at0
              obtain ⟨z0, z1, z2, z3, z4⟩ := row_cell ATX
              have fz : ∀ q, u6.frozen? ⟨g, q, none⟩ = false := fun q => frozen_of_row u6 g q _ _ ATX
              have fz0 := fz 0
              have fz1 := fz 1
              have fz2 := fz 2
              have fz3 := fz 3
              have fz4 := fz 4
              have HAT := hide ATX
              clear fz ATX
              go_wp2_with fail
              have ATX := unhide HAT
              have BW : Below g w u6 := (unhide HP5).below
              have R9 := five_set u6 g 27 _ _ _ _ _ (.int .i64 0) (.int .i64 0) (.string ⟨#[]⟩) (.slice none 0 0) (.slice none 0 0) ATX
              have B9 := five_below (g := g) BW (Nat.le_refl _) (.int .i64 0) (.int .i64 0) (.string ⟨#[]⟩) (.slice none 0 0) (.slice none 0 0)
              obtain ⟨w9, hw9⟩ : ∃ w9, (((((u6.setCell ⟨g, 0, none⟩ (.int .i64 0)).setCell ⟨g, 1, none⟩ (.int .i64 0)).setCell ⟨g, 2, none⟩ (.string ⟨#[]⟩)).setCell ⟨g, 3, none⟩ (.slice none 0 0)).setCell ⟨g, 4, none⟩ (.slice none 0 0)) = w9 := ⟨_, rfl⟩
              rw [hw9] at R9 B9 ⊢
              obtain ⟨r0, r1, r2, r3, r4⟩ := row_cell R9
              refine bodyPost_ret (v := .tuple #[.agg #[.int .i64 0, .int .i64 0, .string ⟨#[]⟩, .slice none 0 0, .slice none 0 0], .int .i64 32]) (by simp [results, Try.results9, go_sem, r0, r1, r2, r3, r4]) rfl ?_
              try rw [hg]
              rw [unhide HC]
              exact ⟨_, rfl, B9, (fun h => by cases h), fun _ => rfl⟩
            · have HIN1 : Hid (R' = insE (es.take (c + 1)) ∧ ((es.take (c + 1)).map (·.1)).Nodup) := hide (by
                obtain ⟨he, hky, hyv⟩ := unhide HEE
                obtain ⟨h1, h2⟩ := unhide HIN
                refine ⟨?_, (nodup_step he h2).2 (by rw [hky]; exact hm)⟩
                rw [insE_take es c e he, ← h1, hky, hyv]
                exact (unhide HRR).1.symm)
              have q1 : ((n' : Int) == (c : Int)) = false := by simp; omega
              have q2 : ¬ (n' : Int) = (c : Int) := by omega
              have HP6 : Hid (Rb w u6 g gb (c + 1) R' qL' qK' pL' pK') := by rw [← hnc]; exact HP5
              clear hm hnc
              go_wp2_with fail
              go_roundw
              case rel => exact ⟨c + 1, R', _, _, _, _, unhide HI1, by go_num, HIN1, HP6⟩
              case measure => have := unhide HI1; simp [intOf]; omega
          · have j1 : ¬ (c : Int) < (n : Int) := by omega
            have hcn : c = n := by omega
            have HND : Hid (R = insE es ∧ (es.map (·.1)).Nodup) := hide (by
              have h1 := unhide HIN
              rw [List.take_of_length_le (by have := unhide HN; omega)] at h1
              exact h1)
            clear HIN
            subst hcn
            have HZ3 : Hid (∀ (j : Nat) (e : En), j < 0 → es[j]? = some e → rightB e.2 = true) := hide (fun j e hj => by omega)
            clear i1 hi hlt hc
            go_wp2_with fail
            go_loopw [8] (fun y wr => ∃ (i : Nat), i ≤ c ∧ y = .int .i64 i ∧ Hid (Rb w wr g gb c R qL qK pL pK) ∧ Hid (∀ (j : Nat) (e : En), j < i → es[j]? = some e → rightB e.2 = true)) (fun y _ => c - (intOf y).toNat)
            case atStart => exact ⟨0, Nat.zero_le _, rfl, HRr, HZ3⟩
            case round =>
              clear HRr HZ3
              obtain ⟨q, hq, rfl, HRq, HGq⟩ := hrel
              by_cases hlt : q < c
              · have k1 : (q : Int) < (c : Int) := by omega
                have k0 : (0 : Int) ≤ (q : Int) := by omega
                have HI1 : Hid (q + 1 ≤ c) := hide (by omega)
                obtain ⟨e, he⟩ : ∃ e, es[q]? = some e := ⟨_, List.getElem?_eq_getElem (by have := unhide HN; omega)⟩
                obtain ⟨a, x0, x1, x2, al', ak', ll', m', cl', ck', rfl, hab, hks, hce, hve⟩ := (unhide HE wr (unhide HRq).below).elem q e he
                have e1 : wr.cell? ⟨(a.add (q * 6)).block, (a.add (q * 6)).off + 1, none⟩ = some (.int .i64 x0) := hce 1 _ rfl
                have e2 : wr.cell? ⟨(a.add (q * 6)).block, (a.add (q * 6)).off + 2, none⟩ = some (.int .i64 x1) := hce 2 _ rfl
                have e3 : wr.cell? ⟨(a.add (q * 6)).block, (a.add (q * 6)).off + 3, none⟩ = some (.string x2) := hce 3 _ rfl
                have e4 : wr.cell? ⟨(a.add (q * 6)).block, (a.add (q * 6)).off + 4, none⟩ = some (.slice al' ll' cl') := hce 4 _ rfl
                have e5 : wr.cell? ⟨(a.add (q * 6)).block, (a.add (q * 6)).off + 5, none⟩ = some (.slice ak' m' ck') := hce 5 _ rfl
                have CR := hide (right_ref e.2 _ B wr hve (by have := (unhide HRq).below.size; omega))
                have HEE := hide he
                clear hce hve hab he hks
                cases hry : rightB e.2 with
                | false =>
                  have HC : Hid (docC es = 30) := hide (by
                    unfold docC
                    rw [if_neg (by have := unhide HN; omega), if_pos ⟨unhide H32, (unhide HND).2⟩, if_neg]
                    intro hx
                    have h2 := List.all_eq_true.1 hx e (List.mem_of_getElem? (unhide HEE))
                    rw [hry] at h2
                    cases h2)
                  rw [hry] at CR
                  clear hry
                  go_wp2_with fail
                  refine (unhide CR).mono ?_
                  rintro e6 u7 ⟨rfl, b7⟩
                  have HR7 := hide (rb_later (unhide HRq) b7)
                  clear b7 CR e1 e2 e3 e4 e5
                  have ATX : u7.heap[g]? = some (.cells #[.int .i64 0, .int .i64 0, .string ⟨#[]⟩, .slice none 0 0, .slice none 0 0] 27 (0, 0)) := (unhide HR7).at0
                  obtain ⟨z0, z1, z2, z3, z4⟩ := row_cell ATX
                  have fz : ∀ q, u7.frozen? ⟨g, q, none⟩ = false := fun q => frozen_of_row u7 g q _ _ ATX
                  have fz0 := fz 0
                  have fz1 := fz 1
                  have fz2 := fz 2
                  have fz3 := fz 3
                  have fz4 := fz 4
                  have HAT := hide ATX
                  clear fz ATX
                  go_wp2_with fail
                  have ATX := unhide HAT
                  have BW : Below g w u7 := (unhide HR7).below
                  have R9 := five_set u7 g 27 _ _ _ _ _ (.int .i64 0) (.int .i64 0) (.string ⟨#[]⟩) (.slice none 0 0) (.slice none 0 0) ATX
                  have B9 := five_below (g := g) BW (Nat.le_refl _) (.int .i64 0) (.int .i64 0) (.string ⟨#[]⟩) (.slice none 0 0) (.slice none 0 0)
                  obtain ⟨w9, hw9⟩ : ∃ w9, (((((u7.setCell ⟨g, 0, none⟩ (.int .i64 0)).setCell ⟨g, 1, none⟩ (.int .i64 0)).setCell ⟨g, 2, none⟩ (.string ⟨#[]⟩)).setCell ⟨g, 3, none⟩ (.slice none 0 0)).setCell ⟨g, 4, none⟩ (.slice none 0 0)) = w9 := ⟨_, rfl⟩
                  rw [hw9] at R9 B9 ⊢
                  obtain ⟨r0, r1, r2, r3, r4⟩ := row_cell R9
                  refine bodyPost_ret (v := .tuple #[.agg #[.int .i64 0, .int .i64 0, .string ⟨#[]⟩, .slice none 0 0, .slice none 0 0], .int .i64 30]) (by simp [results, Try.results9, go_sem, r0, r1, r2, r3, r4]) rfl ?_
                  try rw [hg]
                  rw [unhide HC]
                  exact ⟨_, rfl, B9, (fun h => by cases h), fun _ => rfl⟩
                | true =>
                  have HG1 : Hid (∀ (j : Nat) (e : En), j < q + 1 → es[j]? = some e → rightB e.2 = true) := hide (fun j e' hj he' => by
                    by_cases hji : j < q
                    · exact unhide HGq j e' hji he'
                    · obtain rfl : j = q := by omega
                      rw [unhide HEE] at he'
                      cases he'
                      exact hry)
                  rw [hry] at CR
                  clear hry
                  go_wp2_with fail
                  refine (unhide CR).mono ?_
                  rintro e6 u7 ⟨rfl, b7⟩
                  have HR7 := hide (rb_later (unhide HRq) b7)
                  clear b7 CR e1 e2 e3 e4 e5
                  go_wp2_with fail
                  go_roundw
                  case rel => exact ⟨q + 1, unhide HI1, by go_num, HR7, HG1⟩
                  case measure => have := unhide HI1; simp [intOf]; omega
              · have k1 : ¬ (q : Int) < (c : Int) := by omega
                have HAL : Hid (es.all (fun e => rightB e.2) = true) := hide (by
                  rw [List.all_eq_true]
                  intro e he
                  obtain ⟨j, hj⟩ := List.getElem?_of_mem he
                  exact unhide HGq j e (by have := (List.getElem?_eq_some_iff.1 hj).1; have := unhide HN; omega) hj)
                have HC : Hid ((if rightB (recOf es) = true then (0 : Int) else 33) = docC es) := hide (by
                  have hd : docC es = if rightB (recOf es) = true then (0 : Int) else 33 := by
                    unfold docC
                    rw [if_neg (by have := unhide HN; omega), if_pos ⟨unhide H32, (unhide HND).2⟩, if_pos (unhide HAL)]
                  exact hd.symm)
                have HIV : Hid (IsV wr wr.heap.size (recOf es) (.agg #[.int .i64 5, .int .i64 0, .string ⟨#[]⟩, .slice qL c pL, .slice qK c pK])) := hide (by
                  have h1 := (unhide HRq).val
                  rw [(unhide HND).1] at h1
                  exact h1.isV (fun b hb => hb.2.2))
                have CS := hide (sizedD_any (recOf es) _ wr.heap.size wr (unhide HIV) (Nat.le_refl _))
                rw [unhide HC] at CS
                obtain ⟨E, hE⟩ : ∃ E, docC es = E := ⟨_, rfl⟩
                rw [hE] at CS
                have HEE := hide hE
                clear hE
                obtain ⟨d0, d1, d2, d3, d4⟩ := row_cell (unhide HRq).box
                go_wp2_with fail
                refine (unhide CS).mono ?_
                rintro e6 u9 ⟨x', rfl, b9, q1, q2⟩
                obtain ⟨y0, y1, y2, a3, n3, p3, a4, n4, p4, rfl⟩ : ∃ y0 y1 y2 a3 n3 p3 a4 n4 p4, x' = .agg #[.int .i64 y0, .int .i64 y1, .string y2, .slice a3 n3 p3, .slice a4 n4 p4] := by
                  cases hR : rightB (recOf es) with
                  | true =>
                    obtain ⟨k4, n4, s4, l4, ks4, al4, ak4, cl4, ck4, _, h⟩ := (q1 hR).shape
                    exact ⟨_, _, _, _, _, _, _, _, _, h⟩
                  | false => exact ⟨_, _, _, _, _, _, _, _, _, q2 hR⟩
                have HFN := hide (And.intro (rb_later (unhide HRq) b9) (And.intro b9.size (And.intro (unhide HRq).size (And.intro (unhide HRq).low (And.intro q1 q2)))))
                clear b9 q1 q2 d0 d1 d2 d3 d4 CS
                have ATX : u9.heap[g]? = some (.cells #[.int .i64 0, .int .i64 0, .string ⟨#[]⟩, .slice none 0 0, .slice none 0 0] 27 (0, 0)) := (unhide HFN).1.at0
                obtain ⟨z0, z1, z2, z3, z4⟩ := row_cell ATX
                have fz : ∀ q, u9.frozen? ⟨g, q, none⟩ = false := fun q => frozen_of_row u9 g q _ _ ATX
                have fz0 := fz 0
                have fz1 := fz 1
                have fz2 := fz 2
                have fz3 := fz 3
                have fz4 := fz 4
                have HAT := hide ATX
                clear fz ATX
                go_wp2_with fail
                have ATX := unhide HAT
                have BW : Below g w u9 := (unhide HFN).1.below
                have R9 := five_set u9 g 27 _ _ _ _ _ (.int .i64 y0) (.int .i64 y1) (.string y2) (.slice a3 n3 p3) (.slice a4 n4 p4) ATX
                have O9 := five_other u9 g (x0 := .int .i64 y0) (x1 := .int .i64 y1) (x2 := .string y2) (x3 := .slice a3 n3 p3) (x4 := .slice a4 n4 p4)
                have S9 : (((((u9.setCell ⟨g, 0, none⟩ (.int .i64 y0)).setCell ⟨g, 1, none⟩ (.int .i64 y1)).setCell ⟨g, 2, none⟩ (.string y2)).setCell ⟨g, 3, none⟩ (.slice a3 n3 p3)).setCell ⟨g, 4, none⟩ (.slice a4 n4 p4)).heap.size = u9.heap.size := by simp
                obtain ⟨w9, hw9⟩ : ∃ w9, (((((u9.setCell ⟨g, 0, none⟩ (.int .i64 y0)).setCell ⟨g, 1, none⟩ (.int .i64 y1)).setCell ⟨g, 2, none⟩ (.string y2)).setCell ⟨g, 3, none⟩ (.slice a3 n3 p3)).setCell ⟨g, 4, none⟩ (.slice a4 n4 p4)) = w9 := ⟨_, rfl⟩
                rw [hw9] at R9 S9 ⊢
                have B9 : Below g w w9 := by rw [← hw9]; exact five_below BW (Nat.le_refl _) _ _ _ _ _
                obtain ⟨r0, r1, r2, r3, r4⟩ := row_cell R9
                refine bodyPost_ret (v := .tuple #[.agg #[.int .i64 y0, .int .i64 y1, .string y2, .slice a3 n3 p3, .slice a4 n4 p4], .int .i64 E]) (by simp [results, Try.results9, go_sem, r0, r1, r2, r3, r4]) rfl ?_
                obtain ⟨_, hsz, hsz2, hlow, q1, q2⟩ := unhide HFN
                have hE := unhide HEE
                have hC := unhide HC
                rw [hE] at hC
                try rw [hg]
                rw [hE]
                refine ⟨_, rfl, B9, fun h => ?_, fun h => ?_⟩
                · have hR : rightB (recOf es) = true := by
                    cases hR : rightB (recOf es) with
                    | true => rfl
                    | false => rw [hR, h] at hC; simp at hC
                  exact IsP.to (fun q hq => by rw [← hw9]; exact O9 q (by have h1 := hq.1; omega)) (fun q hq => by have := hq.2; omega) (q1 hR).1
                · cases hR : rightB (recOf es) with
                  | true => rw [hR] at hC; simp at hC; first | exact absurd hC h | exact absurd hC.symm h
                  | false => exact q2 hR
end Go.Proofs.Ytcopkhmmpamboaa
