/-
  The walk of Copy of a module (layer 9): the same module in new memory, none of one that is not right; no conditions but the form's own reach.
-/
import Derived.Test.YtpdfggjhedgdlaaA43
import Derived.Test.YtpdfggjhedgdlaaA45
import Derived.Test.YtpdfggjhedgdlaaA34
import Derived.Test.YtpdfggjhedgdlaaA26
namespace Go.Proofs.Ytpdfggjhedgdlaa
open Go.RowKit
set_option linter.unusedVariables false
set_option linter.unusedSimpArgs false

def cpOf (m : Md) : Md := if rightM m = true then m else md0

/-- a copy of a module, in new memory, its owner's -/
def CpR (w w' : World) (e : Ending) (m : Md) : Prop := ∃ (b1 b2 b3 : Option Addr) (f1 f2 f3 : Nat), e = .returned (.agg #[.slice b1 m.cs.length f1, .slice b2 m.fs.length f2, .slice b3 m.xs.length f3]) ∧ IsM w' (fun b => w.heap.size ≤ b ∧ b < w'.heap.size) m b1 f1 b2 f2 b3 f3 ∧ OwnM w' (fun b => w.heap.size ≤ b ∧ b < w'.heap.size) m b1 f1 b2 f2 b3 f3 ∧ Below w.heap.size w w'

theorem own_md0 (w : World) (P : Nat → Prop) : OwnM w P md0 none 0 none 0 none 0 := ⟨⟨0, 4, 0, ⟨#[]⟩, rfl⟩, Or.inl ⟨rfl, rfl⟩, Or.inl ⟨rfl, rfl⟩⟩

def noI : Nat → Obj → Prop := fun _ _ => False

theorem cpM_start (w : World) (gr : Nat) (hg : w.heap.size = gr) : CpM (w.alloc (.cells #[.slice none 0 0, .slice none 0 0, .slice none 0 0] 26)) noI (w.alloc (.cells #[.slice none 0 0, .slice none 0 0, .slice none 0 0] 26)) gr (.slice none 0 0) (.slice none 0 0) (.slice none 0 0) ⟨[], [], []⟩ (fun _ => []) where
  box := by rw [← hg]; exact heap_alloc_new _ _
  old := Below.refl _ _
  ownC := World.ownsRow_nil _ _ _ _
  ownF := World.ownsRow_nil _ _ _ _
  ownX := World.ownsRow_nil _ _ _ _
  row := fun c hc => by simp at hc
  el := fun c y hy => by simp at hy
  side := fun _ _ h => h.elim

theorem take_add_one {α : Type} (l : List α) (i : Nat) (x : α) (h : l[i]? = some x) : l.take i ++ [x] = l.take (i + 1) := by
  obtain ⟨hi, rfl⟩ := List.getElem?_eq_some_iff.1 h
  rw [List.take_succ_eq_append_getElem hi]

set_option maxRecDepth 100000 in
set_option maxHeartbeats 8000000 in
theorem copyM_any (m : Md) (a1 a2 a3 : Option Addr) (n1 c1 n2 c2 n3 c3 B : Nat) (w : World) (hn1 : m.cs.length = n1) (hn2 : m.fs.length = n2) (hn3 : m.xs.length = n3) (h : IsM w (fun b => b < B) m a1 c1 a2 c2 a3 c3) (hB : B ≤ w.heap.size) :
    Calls Try.prog 8 #[.agg #[.slice a1 n1 c1, .slice a2 n2 c2, .slice a3 n3 c3]] w fun e w' => CpR w w' e (cpOf m) := by
  obtain ⟨g, hg⟩ : ∃ g, w.heap.size = g := ⟨_, rfl⟩
  have TW := Two.mk' w 26 #[.slice a1 n1 c1, .slice a2 n2 c2, .slice a3 n3 c3] #[.slice none 0 0, .slice none 0 0, .slice none 0 0]
  obtain ⟨w2, hw2⟩ : ∃ w2, (w.alloc (.cells #[.slice a1 n1 c1, .slice a2 n2 c2, .slice a3 n3 c3] 26)).alloc (.cells #[.slice none 0 0, .slice none 0 0, .slice none 0 0] 26) = w2 := ⟨_, rfl⟩
  rw [hw2, hg] at TW
  have z2 : Hid (w2.heap.size = g + 2) := hide TW.size
  have HTB : Hid (Below g w w2) := hide (by rw [← hg]; exact TW.below)
  have HS : Hid (∀ u, Below (g + 2) w2 u → SeeM u B g m (.slice a1 n1 c1) (.slice a2 n2 c2) (.slice a3 n3 c3) a1 c1 a2 c2 a3 c3 ∧ u.heap[g + 1]? = some (.cells #[.slice none 0 0, .slice none 0 0, .slice none 0 0] 26 (0, 0)) ∧ Below g w u) := hide (fun u hu => by
    have hb : Below g w u := (unhide HTB).trans (hu.mono (by omega))
    exact ⟨⟨(hu.block g (by omega)).trans TW.at0, h.later (hb.mono (by omega)), by have := hb.size; omega⟩, (hu.block (g + 1) (by omega)).trans TW.at1, hb⟩)
  have hrf : Below (g + 2) w2 w2 := Below.refl _ _
  have CR := hide (rightM_any m a1 a2 a3 n1 c1 n2 c2 n3 c3 B w2 hn1 hn2 hn3 (unhide HS w2 hrf).1.mod (unhide HS w2 hrf).1.low)
  obtain ⟨m0, m1, m2⟩ := row_cell3 (unhide HS w2 hrf).1.box
  have HN := hide (And.intro hn1 (And.intro hn2 hn3))
  cases hR : rightM m with
  | false =>
    rw [hR] at CR
    have hE : cpOf m = md0 := by unfold cpOf; rw [hR]; rfl
    rw [hE]
    clear hR hE h hB TW hn1 hn2 hn3 hrf
    go_enter Try.func8, Try.ntmps8
    go_upto_region 1 with fail
    try rw [hw2]
    clear hw2
    go_wp2_with fail
    refine (unhide CR).mono ?_
    rintro e u ⟨rfl, b1⟩
    have B1 : Hid (Below (g + 2) w2 u) := hide (by have := unhide z2; rw [this] at b1; exact b1)
    clear b1 CR
    obtain ⟨_, hrr, hbg⟩ := unhide HS u (unhide B1)
    obtain ⟨p0, p1, p2⟩ := row_cell3 hrr
    have pf0 := frozen_of_row u (g + 1) 0 _ _ hrr
    have pf1 := frozen_of_row u (g + 1) 1 _ _ hrr
    have pf2 := frozen_of_row u (g + 1) 2 _ _ hrr
    have HRR := hide (And.intro hrr hbg)
    clear hrr hbg
    go_wp2_with fail
    have F9 := three_set u (g + 1) _ _ _ _ (.slice none 0 0) (.slice none 0 0) (.slice none 0 0) (unhide HRR).1
    have B9 : Below g w (((u.setCell ⟨g + 1, 0, none⟩ (.slice none 0 0)).setCell ⟨g + 1, 1, none⟩ (.slice none 0 0)).setCell ⟨g + 1, 2, none⟩ (.slice none 0 0)) := (((unhide HRR).2.setCell (p := ⟨g + 1, 0, none⟩) (by show g ≤ g + 1; omega) _).setCell (p := ⟨g + 1, 1, none⟩) (by show g ≤ g + 1; omega) _).setCell (p := ⟨g + 1, 2, none⟩) (by show g ≤ g + 1; omega) _
    generalize (((u.setCell ⟨g + 1, 0, none⟩ (.slice none 0 0)).setCell ⟨g + 1, 1, none⟩ (.slice none 0 0)).setCell ⟨g + 1, 2, none⟩ (.slice none 0 0)) = w9 at F9 B9 ⊢
    obtain ⟨t0, t1, t2⟩ := row_cell3 F9
    refine bodyPost_ret (v := .agg #[.slice none 0 0, .slice none 0 0, .slice none 0 0]) (by simp [results, Try.results8, go_sem, t0, t1, t2]) rfl ?_
    exact ⟨none, none, none, 0, 0, 0, rfl, md0_is _ _, own_md0 _ _, by first | exact B9 | (rw [hg]; exact B9)⟩
  | true =>
    rw [hR] at CR
    have hE : cpOf m = m := by unfold cpOf; rw [hR]; rfl
    rw [hE]
    have hF : formedB m = true := by unfold rightM at hR; rw [Bool.and_eq_true] at hR; exact hR.1
    obtain ⟨q1, q2, q3, pr, pf, px⟩ := formed_parts hF
    rw [hn1] at q1
    rw [hn2] at q2
    rw [hn3] at q3
    have HF := hide (And.intro hF (And.intro pr (And.intro pf px)))
    obtain ⟨iv, hiv, hz0, hz1, hz2⟩ := info_parts infoVc
    have HIV := hide (And.intro hiv (And.intro hz0 (And.intro hz1 hz2)))
    obtain ⟨if_, hif, hf0, hf1, hf2⟩ := info_parts infoMF
    have HIF := hide (And.intro hif (And.intro hf0 (And.intro hf1 hf2)))
    obtain ⟨ix, hix, hx0, hx1, hx2⟩ := info_parts infoMX
    have HIX := hide (And.intro hix (And.intro hx0 (And.intro hx1 hx2)))
    clear hR hE h hB TW hn1 hn2 hn3 hrf hF pr pf px hiv hz0 hz1 hz2 hif hf0 hf1 hf2 hix hx0 hx1 hx2
    go_enter Try.func8, Try.ntmps8
    go_upto_region 1 with fail
    try rw [hw2]
    clear hw2
    go_wp2_with fail
    refine (unhide CR).mono ?_
    rintro e u ⟨rfl, b1⟩
    have B1 : Hid (Below (g + 2) w2 u) := hide (by have := unhide z2; rw [this] at b1; exact b1)
    clear b1 CR m0 m1 m2
    obtain ⟨go, hgo⟩ : ∃ go, u.heap.size = go := ⟨_, rfl⟩
    have hgg : g + 2 ≤ go := by have := (unhide B1).size; have := unhide z2; omega
    go_upto_region 4 with fail
    have HK0 : Hid (CpM (u.alloc (.cells #[.slice none 0 0, .slice none 0 0, .slice none 0 0] 26)) noI (u.alloc (.cells #[.slice none 0 0, .slice none 0 0, .slice none 0 0] 26)) go (.slice none 0 0) (.slice none 0 0) (.slice none 0 0) ⟨m.cs.take 0, [], []⟩ (fun _ => [])) := hide (cpM_start u go hgo)
    have HO0 : Hid (Below go u (u.alloc (.cells #[.slice none 0 0, .slice none 0 0, .slice none 0 0] 26))) := hide (by rw [← hgo]; exact (Below.refl _ _).alloc (Nat.le_refl _) _)
    obtain ⟨w3, hw3⟩ : ∃ w3, u.alloc (.cells #[.slice none 0 0, .slice none 0 0, .slice none 0 0] 26) = w3 := ⟨_, rfl⟩
    rw [hw3] at HK0 HO0 ⊢
    clear hw3 hgo
    have HS3 : Hid (∀ u, Below go w3 u → SeeM u B g m (.slice a1 n1 c1) (.slice a2 n2 c2) (.slice a3 n3 c3) a1 c1 a2 c2 a3 c3 ∧ u.heap[g + 1]? = some (.cells #[.slice none 0 0, .slice none 0 0, .slice none 0 0] 26 (0, 0)) ∧ Below g w u) := hide (fun v hv => unhide HS v ((unhide B1).trans (((unhide HO0).trans hv).mono (by omega))))
    obtain ⟨m0, m1, m2⟩ := row_cell3 (unhide HS3 w3 (Below.refl _ _)).1.box
    clear HS HO0 B1
    go_wp2_with fail
    go_loopw [17] (fun x wr => ∃ (i : Nat) (C : Value) (V : Nat → List Value), x = .int .i64 (i : Int) ∧ Hid (i ≤ n1) ∧ Hid (CpM w3 noI wr go C (.slice none 0 0) (.slice none 0 0) ⟨m.cs.take i, [], []⟩ V)) (fun x _ => n1 - (intOf x).toNat)
    case atStart => exact ⟨0, _, _, rfl, hide (by omega), HK0⟩
    case round =>
      clear HK0 m0 m1 m2
      obtain ⟨i, C, V, rfl, HI, HK⟩ := hrel
      obtain ⟨m0, m1, m2⟩ := row_cell3 (unhide HS3 wr (unhide HK).old).1.box
      by_cases hlt : i < n1
      · have i1 : (i : Int) < (n1 : Int) := by omega
        have HI1 : Hid (i + 1 ≤ n1) := hide (by omega)
        obtain ⟨y, hy⟩ : ∃ y, m.cs[i]? = some y := ⟨_, List.getElem?_eq_getElem (by have := (unhide HN).1; omega)⟩
        have hRy := (unhide HF).2.1 y (List.mem_of_getElem? hy)
        obtain ⟨a, y0, y1, y2, al', ak', ll', m', cl', ck', rfl, hab, hce, hve⟩ := (unhide HS3 wr (unhide HK).old).1.mod.const i y hy
        have e0 : wr.cell? (a.add (i * 5)) = some (.int .i64 y0) := hce 0 _ rfl
        have e1 : wr.cell? ⟨(a.add (i * 5)).block, (a.add (i * 5)).off + 1, none⟩ = some (.int .i64 y1) := hce 1 _ rfl
        have e2 : wr.cell? ⟨(a.add (i * 5)).block, (a.add (i * 5)).off + 2, none⟩ = some (.string y2) := hce 2 _ rfl
        have e3 : wr.cell? ⟨(a.add (i * 5)).block, (a.add (i * 5)).off + 3, none⟩ = some (.slice al' ll' cl') := hce 3 _ rfl
        have e4 : wr.cell? ⟨(a.add (i * 5)).block, (a.add (i * 5)).off + 4, none⟩ = some (.slice ak' m' ck') := hce 4 _ rfl
        have HVE := hide hve
        have HY := hide (And.intro hy hRy)
        have hBr := (unhide HS3 wr (unhide HK).old).1.low
        have HBr := hide hBr
        clear hy hce hve hRy hBr
        go_upto_region 7 with fail
        obtain ⟨gx, hgx⟩ : ∃ gx, wr.heap.size = gx := ⟨_, rfl⟩
        obtain ⟨wx, hwx⟩ : ∃ wx, wr.alloc (.cells #[.int .i64 y0, .int .i64 y1, .string y2, .slice al' ll' cl', .slice ak' m' ck'] 40) = wx := ⟨_, rfl⟩
        have HX : Hid (wx.heap[gx]? = some (.cells #[.int .i64 y0, .int .i64 y1, .string y2, .slice al' ll' cl', .slice ak' m' ck'] 40 (0, 0)) ∧ Below wr.heap.size wr wx ∧ wx.heap.size = gx + 1 ∧ wr.heap.size = gx) := hide (by
          rw [← hwx, ← hgx]
          exact ⟨heap_alloc_new wr _, (Below.refl _ _).alloc (Nat.le_refl _) _, by simp, rfl⟩)
        simp only [hgx]
        rw [hwx]
        clear hgx hwx e0 e1 e2 e3 e4 m0 m1 m2
        have CRy := hide (copy_any y _ B wx.drew ((unhide HVE).mono (((unhide HX).2.1.drew).mono (unhide HBr))) (by have := (unhide HX).2.1.size; have := unhide HBr; show B ≤ wx.heap.size; omega))
        have HKx := hide ((unhide HK).later (unhide HX).2.1)
        have HS0 : Hid (wx.drew.cell? ⟨go, 0, none⟩ = some C ∧ wx.drew.heap[gx]? = some (.cells #[.int .i64 y0, .int .i64 y1, .string y2, .slice al' ll' cl', .slice ak' m' ck'] 40 (0, 0))) := hide ⟨(row_cell3 (unhide HKx).box).1, (unhide HX).1⟩
        refine till_begin (S := fun w' => w'.cell? ⟨go, 0, none⟩ = some C ∧ w'.heap[gx]? = some (.cells #[.int .i64 y0, .int .i64 y1, .string y2, .slice al' ll' cl', .slice ak' m' ck'] 40 (0, 0))) 7 (by kernel_rfl) ?_
        refine till_take 0 (v := .pointer (some ⟨go, 0, none⟩)) (some 21) rfl rfl rfl (by kernel_rfl) (by kernel_rfl) (by kernel_rfl) (by kernel_rfl) (fun _ _ _ h => h) (Or.inl ⟨by rfl, fun u hu => by obtain ⟨h4, hgx⟩ := hu; obtain ⟨c0, c1, c2, c3, c4⟩ := row_cell hgx; go_simp⟩) (unhide HS0) ?_
        try simp only [Act.put, List.setIfInBounds_toArray, List.set_cons_zero, List.set_cons_succ]
        refine till_take 1 (v := C) (some 22) rfl rfl rfl (by kernel_rfl) (by kernel_rfl) (by kernel_rfl) (by kernel_rfl) (fun _ _ _ h => h) (Or.inl ⟨by rfl, fun u hu => by obtain ⟨h4, hgx⟩ := hu; obtain ⟨c0, c1, c2, c3, c4⟩ := row_cell hgx; go_simp⟩) (unhide HS0) ?_
        try simp only [Act.put, List.setIfInBounds_toArray, List.set_cons_zero, List.set_cons_succ]
        refine till_take 2 (v := .agg #[.int .i64 y0, .int .i64 y1, .string y2, .slice al' ll' cl', .slice ak' m' ck']) (some 23) rfl rfl rfl (by kernel_rfl) (by kernel_rfl) (by kernel_rfl) (by kernel_rfl) (fun _ _ _ h => h) (Or.inl ⟨by rfl, fun u hu => by obtain ⟨h4, hgx⟩ := hu; obtain ⟨c0, c1, c2, c3, c4⟩ := row_cell hgx; go_simp⟩) (unhide HS0) ?_
        try simp only [Act.put, List.setIfInBounds_toArray, List.set_cons_zero, List.set_cons_succ]
        refine till_one 3 (by kernel_rfl) rfl (fun K hK => ?_)
        go_simp
        refine (unhide CRy).mono ?_
        rintro e w5 ⟨x5, rfl, b5, h5', _⟩
        have h5 := h5' (unhide HY).2
        obtain ⟨k5, n5, s5, l5, ks5, al5, ak5, cl5, ck5, hy5, rfl⟩ := h5.1.shape
        obtain ⟨lc5, hlc5⟩ : ∃ lc5, l5.length = lc5 := ⟨_, rfl⟩
        obtain ⟨mc5, hmc5⟩ : ∃ mc5, ks5.length = mc5 := ⟨_, rfl⟩
        rw [hlc5, hmc5] at h5 ⊢
        have b6 := below_drew_of' b5
        have HS5 : Hid (w5.cell? ⟨go, 0, none⟩ = some C ∧ w5.heap[gx]? = some (.cells #[.int .i64 y0, .int .i64 y1, .string y2, .slice al' ll' cl', .slice ak' m' ck'] 40 (0, 0))) := hide ⟨cell_later b6 (unhide HS0).1, (b6.block gx (by have := (unhide HX).2.2; omega)).trans (unhide HS0).2⟩
        have H5 := hide (And.intro h5 b6)
        clear b5 b6 h5 h5' hy5 hlc5 hmc5 CRy
        go_wp2_with fail
        refine hK.out _ _ (Or.inr (unhide HS5)) ?_
        clear hK K
        try simp only [Act.put, List.setIfInBounds_toArray, List.set_cons_zero, List.set_cons_succ]
        refine till_one 4 (by kernel_rfl) rfl (fun K hK => ?_)
        go_simp
        obtain ⟨w6, hw6⟩ : ∃ w6, w5.alloc (.cells #[.int .i64 k5, .int .i64 n5, .string s5, .slice al5 lc5 cl5, .slice ak5 mc5 ck5] 40) = w6 := ⟨_, rfl⟩
        have X6 : Below w5.heap.size w5 w6 := by rw [← hw6]; exact (Below.refl _ _).alloc (Nat.le_refl _) _
        have at6 : w6.heap[w5.heap.size]? = some (.cells #[.int .i64 k5, .int .i64 n5, .string s5, .slice al5 lc5 cl5, .slice ak5 mc5 ck5] 40 (0, 0)) := by rw [← hw6]; exact heap_alloc_new w5 _
        have sz6 : w6.heap.size = w5.heap.size + 1 := by rw [← hw6]; simp
        rw [hw6]
        have HS6 : Hid (w6.cell? ⟨go, 0, none⟩ = some C ∧ w6.heap[gx]? = some (.cells #[.int .i64 y0, .int .i64 y1, .string y2, .slice al' ll' cl', .slice ak' m' ck'] 40 (0, 0))) := hide ⟨cell_later X6 (unhide HS5).1, (X6.block gx (by have := (unhide HX).2.2; have := (unhide H5).2.size; omega)).trans (unhide HS5).2⟩
        have HK5 := hide ((unhide HKx).later (unhide H5).2)
        have HK6 := hide ((unhide HK5).later X6)
        have H6 := hide (And.intro X6 (And.intro at6 sz6))
        have hlen : (m.cs.take i).length = i := by rw [List.length_take]; have := (unhide HN).1; omega
        have HLEN := hide hlen
        have hoC := (unhide HK6).ownC
        dsimp only at hoC
        rw [hlen] at hoC
        have HOC := hide hoC
        clear hoC hlen
        obtain ⟨h5s, hh5s⟩ : ∃ h5s, w5.heap.size = h5s := ⟨_, rfl⟩
        rw [hh5s] at at6 sz6 ⊢
        have HH5 := hide hh5s
        refine hK.out _ _ (Or.inr (unhide HS6)) ?_
        clear hK K hw6 X6 hh5s
        try simp only [Act.put, List.setIfInBounds_toArray, List.set_cons_zero, List.set_cons_succ]
        refine till_one 5 (by kernel_rfl) rfl (fun K hK => ?_)
        refine step_append_lies _ (by rfl) _ _ 22 (by rfl) (go + 1) 40 iv (.agg #[.int .i64 0, .int .i64 0, .string ⟨#[]⟩, .slice none 0 0, .slice none 0 0]) 5 80 Try.underlying22 (unhide HIV).1 (unhide HIV).2.1 (unhide HIV).2.2.1 (unhide HIV).2.2.2 rfl (by omega) C i (flat V i) (by rfl) (unhide HOC) ⟨h5s, 0, none⟩ 1 1 [.int .i64 k5, .int .i64 n5, .string s5, .slice al5 lc5 cl5, .slice ak5 mc5 ck5] (by rfl) (by rfl) (World.news_of_block at6) (by simp [Value.oneCell']) (by omega) (by unfold maxLen; omega) (by omega) (unhide HK6).lt _ rfl ?_
        intro g7 cap7 w7 hown7 hgrow7 hat7 hlt7
        change K (Act.put _ (some 26) _) w7
        have hLb : ∀ q, C.ownBlock = some q → go + 1 ≤ q ∧ q < wr.heap.size := (unhide HK).ownC.lt
        have HLb := hide hLb
        have fr : some go ≠ C.ownBlock := fun e => by have := (hLb go e.symm).1; omega
        have frx : some gx ≠ C.ownBlock := fun e => by have := (hLb gx e.symm).2; have := (unhide HX).2.2; omega
        have gbl : go < w6.heap.size := (unhide HK6).lt
        have gxl : gx < w6.heap.size := by have := (unhide HX).2.2; have := (unhide H5).2.size; have := (unhide H6).1.size; omega
        have HS7 : Hid (w7.cell? ⟨go, 0, none⟩ = some C ∧ w7.heap[gx]? = some (.cells #[.int .i64 y0, .int .i64 y1, .string y2, .slice al' ll' cl', .slice ak' m' ck'] 40 (0, 0))) := hide ⟨(hgrow7.cell_far ⟨go, 0, none⟩ gbl fr).trans (unhide HS6).1, (hgrow7.block gx gxl frx).trans (unhide HS6).2⟩
        have f7 : w7.frozen? ⟨go, 0, none⟩ = false := (hgrow7.frozen_far ⟨go, 0, none⟩ gbl fr).trans (frozen_of_row w6 go 0 _ _ (unhide HK6).box)
        have H7 := hide (And.intro hown7 (And.intro hgrow7 (And.intro hat7 fr)))
        refine hK.out _ _ (Or.inr (unhide HS7)) ?_
        clear hK K hown7 hgrow7 hat7 hlt7 hLb fr frx gbl gxl
        try simp only [Act.put, List.setIfInBounds_toArray, List.set_cons_zero, List.set_cons_succ]
        refine till_take 6 (v := .pointer (some ⟨go, 0, none⟩)) (some 27) rfl rfl rfl (by kernel_rfl) (by kernel_rfl) (by kernel_rfl) (by kernel_rfl) (fun _ _ _ h => h) (Or.inl ⟨by rfl, fun u hu => by obtain ⟨h4, hgx⟩ := hu; obtain ⟨c0, c1, c2, c3, c4⟩ := row_cell hgx; go_simp⟩) (unhide HS7) ?_
        try simp only [Act.put, List.setIfInBounds_toArray, List.set_cons_zero, List.set_cons_succ]
        refine till_one 7 (by kernel_rfl) rfl (fun K hK => ?_)
        have c7 := (unhide HS7).1
        go_simp
        refine hK.out _ _ (Or.inl rfl) ?_
        clear hK K
        try simp only [Act.put, List.setIfInBounds_toArray, List.set_cons_zero, List.set_cons_succ]
        refine till_done (by kernel_rfl) ?_ _
        obtain ⟨w8, hw8⟩ : ∃ w8, w7.setCell ⟨go, 0, none⟩ (.slice (some ⟨g7, 0, none⟩) (i + 1) cap7) = w8 := ⟨_, rfl⟩
        have HK8 : Hid (CpM w3 noI w8 go (.slice (some ⟨g7, 0, none⟩) (i + 1) cap7) (.slice none 0 0) (.slice none 0 0) ⟨m.cs.take (i + 1), [], []⟩ (setV V i [.int .i64 k5, .int .i64 n5, .string s5, .slice al5 lc5 cl5, .slice ak5 mc5 ck5])) := hide (by
          obtain ⟨h5, b5⟩ := unhide H5
          obtain ⟨X6, at6, sz6⟩ := unhide H6
          obtain ⟨hown7, hgrow7, hat7, fr⟩ := unhide H7
          have hg7 : go + 1 ≤ g7 := (hown7.lt g7 rfl).1
          have hbox7 : w7.heap[go]? = some (.cells #[C, .slice none 0 0, .slice none 0 0] 26 (0, 0)) := (hgrow7.block go (unhide HK6).lt fr).trans (unhide HK6).box
          have hP := (unhide HK5).pushC (y := y) (cs := [.int .i64 k5, .int .i64 n5, .string s5, .slice al5 lc5 cl5, .slice ak5 mc5 ck5]) (w7 := w7) (w9 := w8) (g7 := g7) (cap7 := cap7) (lo := wx.heap.size) (n := i) (unhide HLEN)
            (fun b hb hne => (hgrow7.block b (by have := X6.size; omega) hne).trans (X6.block b hb)) (by have := X6.size; have := hgrow7.size; omega)
            ((X6.mono (by have := (unhide HK5).lt; omega)).trans ((Below.refl go w6).grown hgrow7 (by have := (unhide HK6).lt; omega) (fun q e => by have := (unhide HLb q e).1; omega)))
            (by rcases hat7 with e | e
                · exact Or.inl e
                · exact Or.inr (by omega))
            (by rw [← hw8]; exact own_later hown7 (fun b _ hv => by have := (hown7.lt b hv).1; rw [heap_setCell_other _ _ _ _ (show b ≠ go by omega)]))
            (by rw [← hw8, heap_setCell_same w7 go 0 _ _ _ hbox7]; rfl)
            (fun b hb _ => by rw [← hw8, heap_setCell_other _ _ _ _ hb]) (by rw [← hw8]; simp) (by rw [← hw8]; exact (Below.refl _ _).setCell (p := ⟨go, 0, none⟩) (Nat.le_refl _) _) rfl
            (h5.to (fun _ _ => rfl) (fun b hb => ⟨hb.1, hb.2⟩)) (fun b e => by have := (unhide HLb b e).2; have := (unhide HX).2.2; omega) (fun b e => by simp [Value.ownBlock] at e) (fun b e => by simp [Value.ownBlock] at e) (by have := (unhide HKx).lt; omega)
          dsimp only at hP
          rw [take_add_one _ _ _ (unhide HY).1] at hP
          exact hP)
        rw [hw8]
        clear hw8 f7 c7
        go_wp2_with fail
        go_roundw
        case rel => exact ⟨i + 1, _, _, by go_num, HI1, HK8⟩
        case measure => have := unhide HI1; simp [intOf]; omega
      · have i1 : ¬ (i : Int) < (n1 : Int) := by omega
        have HKC : Hid (CpM w3 noI wr go C (.slice none 0 0) (.slice none 0 0) ⟨m.cs, m.fs.take 0, []⟩ V) := hide (by
          have h1 := unhide HK
          rw [List.take_of_length_le (by have := (unhide HN).1; omega)] at h1
          exact h1)
        clear HK HI
        go_wp2_with fail
        go_loopw [32] (fun x wr => ∃ (i : Nat) (F : Value), x = .int .i64 (i : Int) ∧ Hid (i ≤ n2) ∧ Hid (CpM w3 noI wr go C F (.slice none 0 0) ⟨m.cs, m.fs.take i, []⟩ V)) (fun x _ => n2 - (intOf x).toNat)
        case atStart => exact ⟨0, _, rfl, hide (by omega), HKC⟩
        case round =>
          clear HKC m0 m1 m2
          obtain ⟨i, F, rfl, HI, HK⟩ := hrel
          obtain ⟨m0, m1, m2⟩ := row_cell3 (unhide HS3 wr (unhide HK).old).1.box
          by_cases hlt : i < n2
          · have i2 : (i : Int) < (n2 : Int) := by omega
            have HI1 : Hid (i + 1 ≤ n2) := hide (by omega)
            obtain ⟨⟨fp, fl, fk, ft⟩, hv⟩ : ∃ v, m.fs[i]? = some v := ⟨_, List.getElem?_eq_getElem (by have := (unhide HN).2.1; omega)⟩
            obtain ⟨a, rfl, _, ht, k0, k1, k2, k3⟩ := (unhide HS3 wr (unhide HK).old).1.mod.func i fp fl fk ft hv
            have HV := hide hv
            clear hv
            go_upto_region 12 with fail
            obtain ⟨gx, hgx⟩ : ∃ gx, wr.heap.size = gx := ⟨_, rfl⟩
            obtain ⟨wx, hwx⟩ : ∃ wx, wr.alloc (.cells #[.int .i64 fp, .int .i64 fl, .int .i64 fk, .string ft] 43) = wx := ⟨_, rfl⟩
            have HX : Hid (wx.heap[gx]? = some (.cells #[.int .i64 fp, .int .i64 fl, .int .i64 fk, .string ft] 43 (0, 0)) ∧ Below wr.heap.size wr wx ∧ wr.heap.size = gx) := hide (by
              rw [← hwx, ← hgx]
              exact ⟨heap_alloc_new wr _, (Below.refl _ _).alloc (Nat.le_refl _) _, rfl⟩)
            simp only [hgx]
            rw [hwx]
            clear hgx hwx k0 k1 k2 k3 m0 m1 m2
            obtain ⟨d0, d1, d2, d3⟩ := row_cell4 (unhide HX).1
            have CS := hide (str_clone ft wx ht)
            go_wp2_with fail
            refine (unhide CS).mono ?_
            rintro e u5 ⟨rfl, b5⟩
            have HX5 : Hid (u5.heap[gx]? = some (.cells #[.int .i64 fp, .int .i64 fl, .int .i64 fk, .string ft] 43 (0, 0)) ∧ Below wr.heap.size wr u5) := hide ⟨(b5.block gx (lt_of_row (unhide HX).1)).trans (unhide HX).1, (unhide HX).2.1.trans (b5.mono (unhide HX).2.1.size)⟩
            clear b5 CS d0 d1 d2 d3
            obtain ⟨d0, d1, d2, d3⟩ := row_cell4 (unhide HX5).1
            have df := frozen_of_row u5 gx 3 _ _ (unhide HX5).1
            go_upto_region 13 with fail
            obtain ⟨u6, hu6⟩ : ∃ u6, u5.setCell ⟨gx, 3, none⟩ (.string ft) = u6 := ⟨_, rfl⟩
            have HX6 : Hid (u6.heap[gx]? = some (.cells #[.int .i64 fp, .int .i64 fl, .int .i64 fk, .string ft] 43 (0, 0)) ∧ Below wr.heap.size wr u6) := hide (by
              have b6 := same_set (x := .string ft) (f := 3) (unhide HX5).1 rfl
              rw [hu6] at b6
              exact ⟨(b6.block gx (lt_of_row (unhide HX5).1)).trans (unhide HX5).1, (unhide HX5).2.trans (b6.mono (unhide HX5).2.size)⟩)
            rw [hu6]
            clear hu6 d0 d1 d2 d3 df
            have HK6 := hide ((unhide HK).later (unhide HX6).2)
            obtain ⟨d0, d1, d2, d3⟩ := row_cell4 (unhide HX6).1
            obtain ⟨p0, p1, p2⟩ := row_cell3 (unhide HK6).box
            have pf1 := frozen_of_row u6 go 1 _ _ (unhide HK6).box
            have hlen : (m.fs.take i).length = i := by rw [List.length_take]; have := (unhide HN).2.1; omega
            have HLEN := hide hlen
            have hoF := (unhide HK6).ownF
            dsimp only at hoF
            rw [hlen] at hoF
            have HOF := hide hoF
            have hslo := (unhide HK6).lt
            clear hoF hlen
            have tokB : True := trivial
            go_upto_region 14 with (first | (have _t := tokB; at_builtin; refine wpl_oneG rfl (.tmp 41) (.tmp 43) 23 43 if_ (.agg #[.int .i64 0, .int .i64 0, .int .i64 0, .string ⟨#[]⟩]) 4 40 Try.underlying23 (unhide HIF).1 (unhide HIF).2.1 (unhide HIF).2.2.1 (unhide HIF).2.2.2 rfl (by omega) rfl (go + 1) i F ((m.fs.take i).flatMap fnV) [.int .i64 fp, .int .i64 fl, .int .i64 fk, .string ft] rfl (by simp [Value.oneCell']) rfl (unhide HOF) rfl (by unfold maxLen; omega) (by omega) hslo ?_; intro v8 w8 H8; clear tokB; obtain ⟨q8, p8, rfl, hsl⟩ := slice_form (unhide H8).1; clear hsl; have b8 := ((unhide H8).2.1.block go hslo (fun e => by have := ((unhide HK6).ownF.lt go e.symm).1; omega)).trans (unhide HK6).box; have HB8 := hide b8; have k3 := (row_cell3 b8).2.1; have f3 : w8.frozen? ⟨go, 1, none⟩ = false := frozen_of_row w8 go 1 _ _ b8; clear b8 d0 d1 d2 d3 p0 p1 p2 pf1))
            obtain ⟨g8, rfl⟩ : ∃ g8, q8 = some ⟨g8, 0, none⟩ := by
              rcases (unhide H8).1.2 with ⟨_, h0⟩ | ⟨g8, _, _, h0, _⟩
              · omega
              · cases h0
                exact ⟨g8, rfl⟩
            obtain ⟨w9, hw9⟩ : ∃ w9, w8.setCell ⟨go, 1, none⟩ (.slice (some ⟨g8, 0, none⟩) (i + 1) p8) = w9 := ⟨_, rfl⟩
            have HK9 : Hid (CpM w3 noI w9 go C (.slice (some ⟨g8, 0, none⟩) (i + 1) p8) (.slice none 0 0) ⟨m.cs, m.fs.take (i + 1), []⟩ V) := hide (by
              obtain ⟨hown8, hgrow8, hat8⟩ := unhide H8
              have hP := (unhide HK6).pushF (f := (fp, fl, fk, ft)) (w1 := w8) (F' := .slice (some ⟨g8, 0, none⟩) (i + 1) p8) (by dsimp only; rw [unhide HLEN]; exact hown8) ⟨hgrow8, hat8⟩
              rw [hw9] at hP
              dsimp only at hP
              rw [take_add_one _ _ _ (unhide HV)] at hP
              exact hP)
            rw [hw9]
            clear hw9 k3 f3
            go_wp2_with fail
            go_roundw
            case rel => exact ⟨i + 1, _, by go_num, HI1, HK9⟩
            case measure => have := unhide HI1; simp [intOf]; omega
          · have i2 : ¬ (i : Int) < (n2 : Int) := by omega
            have HKF : Hid (CpM w3 noI wr go C F (.slice none 0 0) ⟨m.cs, m.fs, m.xs.take 0⟩ V) := hide (by
              have h1 := unhide HK
              rw [List.take_of_length_le (by have := (unhide HN).2.1; omega)] at h1
              exact h1)
            clear HK HI
            go_wp2_with fail
            go_loopw [50] (fun x wr => ∃ (i : Nat) (X : Value), x = .int .i64 (i : Int) ∧ Hid (i ≤ n3) ∧ Hid (CpM w3 noI wr go C F X ⟨m.cs, m.fs, m.xs.take i⟩ V)) (fun x _ => n3 - (intOf x).toNat)
            case atStart => exact ⟨0, _, rfl, hide (by omega), HKF⟩
            case round =>
              clear HKF m0 m1 m2
              obtain ⟨i, X, rfl, HI, HK⟩ := hrel
              obtain ⟨m0, m1, m2⟩ := row_cell3 (unhide HS3 wr (unhide HK).old).1.box
              by_cases hlt : i < n3
              · have i3 : (i : Int) < (n3 : Int) := by omega
                have HI1 : Hid (i + 1 ≤ n3) := hide (by omega)
                obtain ⟨⟨ft, fp⟩, hv⟩ : ∃ v, m.xs[i]? = some v := ⟨_, List.getElem?_eq_getElem (by have := (unhide HN).2.2; omega)⟩
                obtain ⟨a, rfl, _, ht, k0, k1⟩ := (unhide HS3 wr (unhide HK).old).1.mod.exp i ft fp hv
                have HV := hide hv
                clear hv
                go_upto_region 18 with fail
                obtain ⟨gx, hgx⟩ : ∃ gx, wr.heap.size = gx := ⟨_, rfl⟩
                obtain ⟨wx, hwx⟩ : ∃ wx, wr.alloc (.cells #[.string ft, .int .i64 fp] 45) = wx := ⟨_, rfl⟩
                have HX : Hid (wx.heap[gx]? = some (.cells #[.string ft, .int .i64 fp] 45 (0, 0)) ∧ Below wr.heap.size wr wx ∧ wr.heap.size = gx) := hide (by
                  rw [← hwx, ← hgx]
                  exact ⟨heap_alloc_new wr _, (Below.refl _ _).alloc (Nat.le_refl _) _, rfl⟩)
                simp only [hgx]
                rw [hwx]
                clear hgx hwx k0 k1 m0 m1 m2
                obtain ⟨d0, d1⟩ := row_cell2 (unhide HX).1
                have CS := hide (str_clone ft wx ht)
                go_wp2_with fail
                refine (unhide CS).mono ?_
                rintro e u5 ⟨rfl, b5⟩
                have HX5 : Hid (u5.heap[gx]? = some (.cells #[.string ft, .int .i64 fp] 45 (0, 0)) ∧ Below wr.heap.size wr u5) := hide ⟨(b5.block gx (lt_of_row (unhide HX).1)).trans (unhide HX).1, (unhide HX).2.1.trans (b5.mono (unhide HX).2.1.size)⟩
                clear b5 CS d0 d1
                obtain ⟨d0, d1⟩ := row_cell2 (unhide HX5).1
                have df := frozen_of_row u5 gx 0 _ _ (unhide HX5).1
                go_upto_region 19 with fail
                obtain ⟨u6, hu6⟩ : ∃ u6, u5.setCell ⟨gx, 0, none⟩ (.string ft) = u6 := ⟨_, rfl⟩
                have HX6 : Hid (u6.heap[gx]? = some (.cells #[.string ft, .int .i64 fp] 45 (0, 0)) ∧ Below wr.heap.size wr u6) := hide (by
                  have b6 := same_set (x := .string ft) (f := 0) (unhide HX5).1 rfl
                  rw [hu6] at b6
                  exact ⟨(b6.block gx (lt_of_row (unhide HX5).1)).trans (unhide HX5).1, (unhide HX5).2.trans (b6.mono (unhide HX5).2.size)⟩)
                rw [hu6]
                clear hu6 d0 d1 df
                have HK6 := hide ((unhide HK).later (unhide HX6).2)
                obtain ⟨d0, d1⟩ := row_cell2 (unhide HX6).1
                obtain ⟨p0, p1, p2⟩ := row_cell3 (unhide HK6).box
                have pf2 := frozen_of_row u6 go 2 _ _ (unhide HK6).box
                have hlen : (m.xs.take i).length = i := by rw [List.length_take]; have := (unhide HN).2.2; omega
                have HLEN := hide hlen
                have hoX := (unhide HK6).ownX
                dsimp only at hoX
                rw [hlen] at hoX
                have HOX := hide hoX
                have hslo := (unhide HK6).lt
                clear hoX hlen
                have tokB : True := trivial
                go_upto_region 20 with (first | (have _t := tokB; at_builtin; refine wpl_oneG rfl (.tmp 59) (.tmp 61) 24 45 ix (.agg #[.string ⟨#[]⟩, .int .i64 0]) 2 24 Try.underlying24 (unhide HIX).1 (unhide HIX).2.1 (unhide HIX).2.2.1 (unhide HIX).2.2.2 rfl (by omega) rfl (go + 1) i X ((m.xs.take i).flatMap exV) [.string ft, .int .i64 fp] rfl (by simp [Value.oneCell']) rfl (unhide HOX) rfl (by unfold maxLen; omega) (by omega) hslo ?_; intro v8 w8 H8; clear tokB; obtain ⟨q8, p8, rfl, hsl⟩ := slice_form (unhide H8).1; clear hsl; have b8 := ((unhide H8).2.1.block go hslo (fun e => by have := ((unhide HK6).ownX.lt go e.symm).1; omega)).trans (unhide HK6).box; have HB8 := hide b8; have k3 := (row_cell3 b8).2.2; have f3 : w8.frozen? ⟨go, 2, none⟩ = false := frozen_of_row w8 go 2 _ _ b8; clear b8 d0 d1 p0 p1 p2 pf2))
                obtain ⟨g8, rfl⟩ : ∃ g8, q8 = some ⟨g8, 0, none⟩ := by
                  rcases (unhide H8).1.2 with ⟨_, h0⟩ | ⟨g8, _, _, h0, _⟩
                  · omega
                  · cases h0
                    exact ⟨g8, rfl⟩
                obtain ⟨w9, hw9⟩ : ∃ w9, w8.setCell ⟨go, 2, none⟩ (.slice (some ⟨g8, 0, none⟩) (i + 1) p8) = w9 := ⟨_, rfl⟩
                have HK9 : Hid (CpM w3 noI w9 go C F (.slice (some ⟨g8, 0, none⟩) (i + 1) p8) ⟨m.cs, m.fs, m.xs.take (i + 1)⟩ V) := hide (by
                  obtain ⟨hown8, hgrow8, hat8⟩ := unhide H8
                  have hP := (unhide HK6).pushX (x := (ft, fp)) (w1 := w8) (X' := .slice (some ⟨g8, 0, none⟩) (i + 1) p8) (by dsimp only; rw [unhide HLEN]; exact hown8) ⟨hgrow8, hat8⟩
                  rw [hw9] at hP
                  dsimp only at hP
                  rw [take_add_one _ _ _ (unhide HV)] at hP
                  exact hP)
                rw [hw9]
                clear hw9 k3 f3
                go_wp2_with fail
                go_roundw
                case rel => exact ⟨i + 1, _, by go_num, HI1, HK9⟩
                case measure => have := unhide HI1; simp [intOf]; omega
              · have i3 : ¬ (i : Int) < (n3 : Int) := by omega
                have HKX : Hid (CpM w3 noI wr go C F X m V) := hide (by
                  have h1 := unhide HK
                  rw [List.take_of_length_le (by have := (unhide HN).2.2; omega)] at h1
                  exact h1)
                obtain ⟨b1, f1, b2, f2, b3, f3, rfl, rfl, rfl, hIM, hOM⟩ := (unhide HKX).made (unhide HF).1
                have HIM := hide (And.intro hIM hOM)
                obtain ⟨hn1, hn2, hn3⟩ := unhide HN
                rw [hn1, hn2, hn3] at HKX
                obtain ⟨p0, p1, p2⟩ := row_cell3 (unhide HKX).box
                obtain ⟨_, hrr, hbg⟩ := unhide HS3 wr (unhide HKX).old
                obtain ⟨s0, s1, s2⟩ := row_cell3 hrr
                have sf0 := frozen_of_row wr (g + 1) 0 _ _ hrr
                have sf1 := frozen_of_row wr (g + 1) 1 _ _ hrr
                have sf2 := frozen_of_row wr (g + 1) 2 _ _ hrr
                have HRR := hide (And.intro hrr hbg)
                try rw [hn1]
                try rw [hn2]
                try rw [hn3]
                clear hIM hOM hrr hbg hn1 hn2 hn3 HK
                go_wp2_with fail
                have F9 := three_set wr (g + 1) _ _ _ _ (.slice b1 n1 f1) (.slice b2 n2 f2) (.slice b3 n3 f3) (unhide HRR).1
                have B9 : Below g w (((wr.setCell ⟨g + 1, 0, none⟩ (.slice b1 n1 f1)).setCell ⟨g + 1, 1, none⟩ (.slice b2 n2 f2)).setCell ⟨g + 1, 2, none⟩ (.slice b3 n3 f3)) := (((unhide HRR).2.setCell (p := ⟨g + 1, 0, none⟩) (by show g ≤ g + 1; omega) _).setCell (p := ⟨g + 1, 1, none⟩) (by show g ≤ g + 1; omega) _).setCell (p := ⟨g + 1, 2, none⟩) (by show g ≤ g + 1; omega) _
                have O9 : ∀ q, q ≠ g + 1 → (((wr.setCell ⟨g + 1, 0, none⟩ (.slice b1 n1 f1)).setCell ⟨g + 1, 1, none⟩ (.slice b2 n2 f2)).setCell ⟨g + 1, 2, none⟩ (.slice b3 n3 f3)).heap[q]? = wr.heap[q]? := fun q hq => by rw [heap_setCell_other _ _ _ _ hq, heap_setCell_other _ _ _ _ hq, heap_setCell_other _ _ _ _ hq]
                have S9 : (((wr.setCell ⟨g + 1, 0, none⟩ (.slice b1 n1 f1)).setCell ⟨g + 1, 1, none⟩ (.slice b2 n2 f2)).setCell ⟨g + 1, 2, none⟩ (.slice b3 n3 f3)).heap.size = wr.heap.size := by simp
                generalize (((wr.setCell ⟨g + 1, 0, none⟩ (.slice b1 n1 f1)).setCell ⟨g + 1, 1, none⟩ (.slice b2 n2 f2)).setCell ⟨g + 1, 2, none⟩ (.slice b3 n3 f3)) = w9 at F9 B9 O9 S9 ⊢
                obtain ⟨t0, t1, t2⟩ := row_cell3 F9
                refine bodyPost_ret (v := .agg #[.slice b1 n1 f1, .slice b2 n2 f2, .slice b3 n3 f3]) (by simp [results, Try.results8, go_sem, t0, t1, t2]) rfl ?_
                obtain ⟨hIM, hOM⟩ := unhide HIM
                obtain ⟨hn1, hn2, hn3⟩ := unhide HN
                refine ⟨b1, b2, b3, f1, f2, f3, by rw [hn1, hn2, hn3], ?_, ?_, by first | exact B9 | (rw [hg]; exact B9)⟩
                · exact hIM.to (fun b hb => O9 b (by omega)) (fun b hb => ⟨by omega, by rw [S9]; exact hb.2⟩)
                · exact hOM.to (fun b hb => O9 b (by omega)) (fun b hb => ⟨by omega, by rw [S9]; exact hb.2⟩)
end Go.Proofs.Ytpdfggjhedgdlaa
