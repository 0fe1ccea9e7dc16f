/-
  The document's store: note, lay; conditions: the form's own reach.
-/
import Derived.Test.YtdaooapfokhfcaaGreatA40
namespace Go.Proofs.YtdaooapfokhfcaaGreat
open Go.RowKit
set_option linter.unusedVariables false
set_option linter.unusedSimpArgs false

theorem infoUn : (Tryz.prog.info? 94).map (fun i => (i.zero, i.size, i.bytes)) = some (some (.agg #[.string ⟨#[]⟩, .int .i64 0, .int .i64 0, .string ⟨#[]⟩, .slice none 0 0, .slice none 0 0, .bool false]), 7, 104) := by kernel_rfl

section
variable {w w' : World} {V V' : Nat → Prop} {t t' : Rx}

/-- one more that tells what stood where -/
theorem Rto.noted (h : Rto w V t) {w5 w7 : World} {b cap n : Nat} {k : ByteArray} {c : ThV} {o : Option Vl} (hn : t.us.length = n) (hb5 : Below w.heap.size w w5) (ho : w7.ownsRow 0 94 7 (.slice (some ⟨b, 0, none⟩) (n + 1) cap) (n + 1) (cellsN t.us ++ ucs (k, (c, o)))) (hg : w5.grownBy w7 t.uv.ownBlock) (hat : t.uv.ownBlock = some b ∨ w.heap.size ≤ b) (hok : ∀ y, o = some y → IsP w V y (.agg (thV c).toArray)) :
    Rto (w7.setCell ⟨t.r, 1, none⟩ (.slice (some ⟨b, 0, none⟩) (n + 1) cap)) V { t with uv := .slice (some ⟨b, 0, none⟩) (n + 1) cap, us := t.us ++ [(k, (c, o))] } ∧ RAdv w (w7.setCell ⟨t.r, 1, none⟩ (.slice (some ⟨b, 0, none⟩) (n + 1) cap)) V V t { t with uv := .slice (some ⟨b, 0, none⟩) (n + 1) cap, us := t.us ++ [(k, (c, o))] } := by
  have hf : Fr (fun j => t.uv.ownBlock = some j) w w7 := (Fr.of hb5).trans (G' := fun j => t.uv.ownBlock = some j) ⟨hg.os, hg.tape, hg.output, hg.size, fun j hj hn => hg.block j hj (fun e => hn e.symm)⟩ (fun _ _ e => e)
  have hV7 : ∀ j, V j → w7.heap[j]? = w.heap[j]? := fun j hj => hf.block j (h.vs j hj).1 (fun e => (h.vs j hj).2 (.inr (.inr (.inl e))))
  have hlen : (t.us ++ [(k, (c, o))]).length = n + 1 := by simp [hn]
  refine h.turnU hf (by rw [hlen, cellsN_app]; simpa [cellsN] using ho) (fun j hj => by
    cases hj
    exact hat) (fun p hp y hy => ?_)
  rcases List.mem_append.1 hp with hp | hp
  · exact (h.uok p hp y hy).move hV7
  · rw [List.mem_singleton] at hp
    subst hp
    exact (hok y hy).move hV7

set_option maxRecDepth 100000 in
theorem note_none (h : Rto w V t) (hm : t.ms = []) (k : ByteArray) : Calls Tryz.prog 70 #[.pointer (some ⟨t.r, 0, none⟩), .string k] w fun e w' => (∃ r, e = .returned r) ∧ Below w.heap.size w w' := by
  have c2 := h.c2
  obtain ⟨ao, cap, hmv, -⟩ := own_slice h.mrk
  rw [hm] at hmv
  rw [hmv] at c2
  clear h hmv hm
  obtain ⟨r, lv, lx, uv, us, mv, ms⟩ := t
  dsimp only [List.length_nil] at c2 ⊢
  go_enter Tryz.func70, Tryz.ntmps70
  go_wp2_with fail
  (try simp only [Exit.inBlock, Exit.then])
  refine bodyPost_ret (results_none rfl _ _ _) rfl ?_
  exact ⟨⟨_, rfl⟩, Below.refl _ _⟩

set_option maxRecDepth 100000 in
set_option maxHeartbeats 1600000 in
theorem note_there (h : Rto w V t) (hr : Rk t.lx) (hm : t.ms ≠ []) (hu : t.us.length ≤ 1353245080318) (k : ByteArray) (x : ThV × Vl) (hO : lookK t.lx k = some x) : Calls Tryz.prog 70 #[.pointer (some ⟨t.r, 0, none⟩), .string k] w fun e w' => (∃ r, e = .returned r) ∧ ∃ uv', Rto w' V { t with uv := uv', us := t.us ++ [(k, (x.1, some x.2))] } ∧ RAdv w w' V V t { t with uv := uv', us := t.us ++ [(k, (x.1, some x.2))] } := by
  have c2 := h.c2
  obtain ⟨mo, mc, hmv, -⟩ := own_slice h.mrk
  rw [hmv] at c2
  have hml : 0 < t.ms.length := List.length_pos_iff.2 hm
  obtain ⟨M, hM⟩ : ∃ M, t.ms.length = M := ⟨_, rfl⟩
  rw [hM] at c2 hml
  have m1 : ((M : Int) == 0) = false := by simp; omega
  have m2 : ¬ (M : Int) = 0 := by omega
  have CP := place_any h k
  have hat := (look_at t.lx k hr x).1 hO
  have hst : (t.lx.map Prod.fst)[lowK t.lx k]? = some k := by rw [List.getElem?_map, hat]; rfl
  rw [decide_eq_true hst] at CP
  obtain ⟨L, hL⟩ : ∃ L, lowK t.lx k = L := ⟨_, rfl⟩
  rw [hL] at CP
  have CPH := hide CP
  clear CP
  obtain ⟨ua, uc, huv, -⟩ := own_slice h.und
  obtain ⟨n, hn⟩ : ∃ n, t.us.length = n := ⟨_, rfl⟩
  obtain ⟨CS, hCS⟩ : ∃ CS, cellsN t.us = CS := ⟨_, rfl⟩
  rw [hn] at huv hu
  have HC1 : Hid (∀ u, Below w.heap.size w u → u.cell? ⟨t.r, 1, none⟩ = some (.slice ua n uc)) := hide (fun u hu => by have := (h.later hu).c1; rw [huv] at this; exact this)
  have HOW : Hid (∀ u, Below w.heap.size w u → u.ownsRow 0 94 7 (.slice ua n uc) n CS) := hide (fun u hu => by have := (h.later hu).und; rw [huv, hn, hCS] at this; exact this)
  have HFZ : Hid (∀ u, Below w.heap.size w u → u.frozen? ⟨t.r, 1, none⟩ = false) := hide (fun u hu => frozen_of_row u t.r 1 _ _ (h.later hu).box)
  have hrne : some t.r ≠ (Value.slice ua n uc).ownBlock := fun e => ty_ne ⟨_, h.box⟩ (row_ty h.und (by rw [huv]; exact e.symm)) (by decide) rfl
  obtain ⟨iv, hiv, hz0, hz1, hz2⟩ := info_parts infoUn
  have HI := hide (And.intro hiv (And.intro hz0 (And.intro hz1 hz2)))
  have hrl := h.rl
  obtain ⟨⟨c0, c1, c2', c3, c4, c5, c6, c7, c8⟩, y⟩ := x
  rw [hL] at hat
  have hlt := (List.getElem?_eq_some_iff.1 hat).1
  have HY : Hid (∀ u, Below w.heap.size w u → ∃ b cap, u.cell? ⟨t.r, 0, none⟩ = some (.slice (some ⟨b, 0, none⟩) t.lx.length cap) ∧ t.lx.length ≤ cap ∧ cap ≤ maxLen ∧ u.cell? ⟨b, L * 6 + 1, none⟩ = some (.int .i64 c0) ∧ u.cell? ⟨b, L * 6 + 2, none⟩ = some (.int .i64 c1) ∧ u.cell? ⟨b, L * 6 + 3, none⟩ = some (.string c2') ∧ u.cell? ⟨b, L * 6 + 4, none⟩ = some (.slice c3 c4 c5) ∧ u.cell? ⟨b, L * 6 + 5, none⟩ = some (.slice c6 c7 c8)) := hide (fun u hu => by
    have hh := h.later hu
    obtain ⟨ao, cap, hlv, hcap, hmax, -, -, hsome⟩ := hh.shape
    obtain ⟨b, rfl, hbl, hc⟩ := hsome L _ hat
    have e0 := hh.c0
    rw [hlv] at e0
    exact ⟨b, cap, e0, hcap, hmax, hc 1 _ rfl, hc 2 _ rfl, hc 3 _ rfl, hc 4 _ rfl, hc 5 _ rfl⟩)
  have hok : ∀ y', some y = some y' → IsP w V y' (.agg (thV (c0, c1, c2', c3, c4, c5, c6, c7, c8)).toArray) := fun y' e => by cases e; exact h.ok _ (List.mem_of_getElem? hat)
  obtain ⟨N, hN⟩ : ∃ N, t.lx.length = N := ⟨_, rfl⟩
  rw [hN] at hlt HY
  have HM := hide (fun (w5 w7 : World) (b cap : Nat) (h1 : Below w.heap.size w w5) h2 h3 h4 => h.noted (w5 := w5) (w7 := w7) (b := b) (cap := cap) (k := k) (c := (c0, c1, c2', c3, c4, c5, c6, c7, c8)) (o := some y) hn h1 h2 h3 h4 hok)
  rw [hCS, huv] at HM
  clear h hr hO hL hm hmv hM hn hCS hiv hz0 hz1 hz2 hok hat hst hN
  obtain ⟨r, lv, lx, uv, us, mv, ms⟩ := t
  dsimp only at CPH c2 HC1 HOW HFZ HM hrne hrl huv HY ⊢
  subst huv
  go_enter Tryz.func70, Tryz.ntmps70
  go_wp2_with fail
  refine (unhide CPH).mono ?_
  rintro e u1 ⟨rfl, hq⟩
  have B1 : Below w.heap.size w u1 := by obtain ⟨q, rfl⟩ := hq; exact ⟨rfl, rfl, rfl, Nat.le_refl _, fun _ _ => rfl⟩
  obtain ⟨P, hP⟩ : ∃ P, u1.heap.size = P := ⟨_, rfl⟩
  obtain ⟨u2, hu2⟩ : ∃ u2, u1.alloc (.cells #[.string k, .int .i64 0, .int .i64 0, .string ⟨#[]⟩, .slice none 0 0, .slice none 0 0, .bool true] 94) = u2 := ⟨_, rfl⟩
  have N2 : u2.heap[P]? = some (.cells #[.string k, .int .i64 0, .int .i64 0, .string ⟨#[]⟩, .slice none 0 0, .slice none 0 0, .bool true] 94 (0, 0)) := by rw [← hu2, ← hP]; exact heap_alloc_new u1 _
  have B2 : Below w.heap.size w u2 := by rw [← hu2]; exact B1.trans ((Below.refl _ _).alloc B1.size _)
  have HPne : some P ≠ (Value.slice ua n uc).ownBlock := fun e => by
    have h1 := ((unhide HOW w (Below.refl _ _)).lt P e.symm).2
    have := B1.size
    omega
  have HSL : Hid (r < w.heap.size ∧ some r ≠ (Value.slice ua n uc).ownBlock ∧ some P ≠ (Value.slice ua n uc).ownBlock) := hide ⟨hrl, hrne, HPne⟩
  have hPw : w.heap.size ≤ P := by have := B1.size; omega
  have N2c : ∀ j v, (#[.string k, .int .i64 0, .int .i64 0, .string ⟨#[]⟩, .slice none 0 0, .slice none 0 0, .bool true] : Array Value)[j]? = some v → u2.cell? ⟨P, j, none⟩ = some v := fun j v hv => by rw [cell_of_row u2 P j _ _ (0, 0) N2]; exact hv
  have g1 : u2.cell? ⟨P, 1, none⟩ = some (.int .i64 0) := N2c 1 _ rfl
  have g2 : u2.cell? ⟨P, 2, none⟩ = some (.int .i64 0) := N2c 2 _ rfl
  have g3 : u2.cell? ⟨P, 3, none⟩ = some (.string ⟨#[]⟩) := N2c 3 _ rfl
  have g4 : u2.cell? ⟨P, 4, none⟩ = some (.slice none 0 0) := N2c 4 _ rfl
  have g5 : u2.cell? ⟨P, 5, none⟩ = some (.slice none 0 0) := N2c 5 _ rfl
  have f1 := frozen_of_row u2 P 1 _ _ N2
  have f2 := frozen_of_row u2 P 2 _ _ N2
  have f3 := frozen_of_row u2 P 3 _ _ N2
  have f4 := frozen_of_row u2 P 4 _ _ N2
  have f5 := frozen_of_row u2 P 5 _ _ N2
  obtain ⟨b, cap, e0, hcap, hmax, e1, e2, e3, e4, e5⟩ := unhide HY u2 B2
  have i1 : (L : Int) < (N : Int) := by omega
  have hmx : N ≤ 9223372036854775807 := by unfold maxLen at hmax; omega
  have h5 := heap_setCell_same _ P 5 _ _ (.slice c6 c7 c8) (heap_setCell_same _ P 4 _ _ (.slice c3 c4 c5) (heap_setCell_same _ P 3 _ _ (.string c2') (heap_setCell_same _ P 2 _ _ (.int .i64 c1) (heap_setCell_same _ P 1 _ _ (.int .i64 c0) N2))))
  obtain ⟨W0, hW0⟩ : ∃ W0, ((((u2.setCell ⟨P, 1, none⟩ (.int .i64 c0)).setCell ⟨P, 2, none⟩ (.int .i64 c1)).setCell ⟨P, 3, none⟩ (.string c2')).setCell ⟨P, 4, none⟩ (.slice c3 c4 c5)).setCell ⟨P, 5, none⟩ (.slice c6 c7 c8) = W0 := ⟨_, rfl⟩
  have B0 : Below w.heap.size w W0 := by rw [← hW0]; exact ((((B2.setCell (p := ⟨P, 1, none⟩) hPw _).setCell (p := ⟨P, 2, none⟩) hPw _).setCell (p := ⟨P, 3, none⟩) hPw _).setCell (p := ⟨P, 4, none⟩) hPw _).setCell (p := ⟨P, 5, none⟩) hPw _
  rw [hW0] at h5
  have H0 : Hid (Below w.heap.size w W0 ∧ W0.heap[P]? = some (.cells #[.string k, .int .i64 c0, .int .i64 c1, .string c2', .slice c3 c4 c5, .slice c6 c7 c8, .bool true] 94 (0, 0))) := hide ⟨B0, h5⟩
  clear hq B1 N2 B2 HPne hmax HY N2c h5 B0 CPH
  go_upto_region 5 with fail
  clear g1 g2 g3 g4 g5 f1 f2 f3 f4 f5 e0 e1 e2 e3 e4 e5
  have HS0 : Hid (W0.drew.cell? ⟨r, 1, none⟩ = some (.slice ua n uc) ∧ W0.drew.cell? ⟨P, 0, none⟩ = some (.string k) ∧ W0.drew.cell? ⟨P, 1, none⟩ = some (.int .i64 c0) ∧ W0.drew.cell? ⟨P, 2, none⟩ = some (.int .i64 c1) ∧ W0.drew.cell? ⟨P, 3, none⟩ = some (.string c2') ∧ W0.drew.cell? ⟨P, 4, none⟩ = some (.slice c3 c4 c5) ∧ W0.drew.cell? ⟨P, 5, none⟩ = some (.slice c6 c7 c8) ∧ W0.drew.cell? ⟨P, 6, none⟩ = some (.bool true)) := hide ⟨(unhide HC1 W0.drew (unhide H0).1.drew), by rw [cell_of_row _ P 0 _ _ (0, 0) (show W0.drew.heap[P]? = _ from (unhide H0).2)]; rfl, by rw [cell_of_row _ P 1 _ _ (0, 0) (show W0.drew.heap[P]? = _ from (unhide H0).2)]; rfl, by rw [cell_of_row _ P 2 _ _ (0, 0) (show W0.drew.heap[P]? = _ from (unhide H0).2)]; rfl, by rw [cell_of_row _ P 3 _ _ (0, 0) (show W0.drew.heap[P]? = _ from (unhide H0).2)]; rfl, by rw [cell_of_row _ P 4 _ _ (0, 0) (show W0.drew.heap[P]? = _ from (unhide H0).2)]; rfl, by rw [cell_of_row _ P 5 _ _ (0, 0) (show W0.drew.heap[P]? = _ from (unhide H0).2)]; rfl, by rw [cell_of_row _ P 6 _ _ (0, 0) (show W0.drew.heap[P]? = _ from (unhide H0).2)]; rfl⟩
  refine till_begin (S := fun w' => w'.cell? ⟨r, 1, none⟩ = some (.slice ua n uc) ∧ w'.cell? ⟨P, 0, none⟩ = some (.string k) ∧ w'.cell? ⟨P, 1, none⟩ = some (.int .i64 c0) ∧ w'.cell? ⟨P, 2, none⟩ = some (.int .i64 c1) ∧ w'.cell? ⟨P, 3, none⟩ = some (.string c2') ∧ w'.cell? ⟨P, 4, none⟩ = some (.slice c3 c4 c5) ∧ w'.cell? ⟨P, 5, none⟩ = some (.slice c6 c7 c8) ∧ w'.cell? ⟨P, 6, none⟩ = some (.bool true)) 10 (by kernel_rfl) ?_
  refine till_take 0 (v := .pointer (some ⟨r, 0, none⟩)) (some 32) rfl rfl rfl (by kernel_rfl) (by kernel_rfl) (by kernel_rfl) (by kernel_rfl) (fun _ _ _ h => h) (Or.inl ⟨by rfl, fun u hu => by obtain ⟨b0, b1, b2, b3, b4, b5, b6, b7⟩ := hu; go_simp⟩) (unhide HS0) ?_
  try simp only [Act.put, List.setIfInBounds_toArray, List.set_cons_zero, List.set_cons_succ]
  refine till_take 1 (v := .pointer (some ⟨r, 0, none⟩)) (some 33) rfl rfl rfl (by kernel_rfl) (by kernel_rfl) (by kernel_rfl) (by kernel_rfl) (fun _ _ _ h => h) (Or.inl ⟨by rfl, fun u hu => by obtain ⟨b0, b1, b2, b3, b4, b5, b6, b7⟩ := hu; go_simp⟩) (unhide HS0) ?_
  try simp only [Act.put, List.setIfInBounds_toArray, List.set_cons_zero, List.set_cons_succ]
  refine till_take 2 (v := .pointer (some ⟨r, 0, none⟩)) (some 34) rfl rfl rfl (by kernel_rfl) (by kernel_rfl) (by kernel_rfl) (by kernel_rfl) (fun _ _ _ h => h) (Or.inl ⟨by rfl, fun u hu => by obtain ⟨b0, b1, b2, b3, b4, b5, b6, b7⟩ := hu; go_simp⟩) (unhide HS0) ?_
  try simp only [Act.put, List.setIfInBounds_toArray, List.set_cons_zero, List.set_cons_succ]
  refine till_take 3 (v := .pointer (some ⟨r, 1, none⟩)) (some 35) rfl rfl rfl (by kernel_rfl) (by kernel_rfl) (by kernel_rfl) (by kernel_rfl) (fun _ _ _ h => h) (Or.inl ⟨by rfl, fun u hu => by obtain ⟨b0, b1, b2, b3, b4, b5, b6, b7⟩ := hu; go_simp⟩) (unhide HS0) ?_
  try simp only [Act.put, List.setIfInBounds_toArray, List.set_cons_zero, List.set_cons_succ]
  refine till_take 4 (v := .slice ua n uc) (some 36) rfl rfl rfl (by kernel_rfl) (by kernel_rfl) (by kernel_rfl) (by kernel_rfl) (fun _ _ _ h => h) (Or.inl ⟨by rfl, fun u hu => by obtain ⟨b0, b1, b2, b3, b4, b5, b6, b7⟩ := hu; go_simp⟩) (unhide HS0) ?_
  try simp only [Act.put, List.setIfInBounds_toArray, List.set_cons_zero, List.set_cons_succ]
  refine till_take 5 (v := .agg #[.string k, .int .i64 c0, .int .i64 c1, .string c2', .slice c3 c4 c5, .slice c6 c7 c8, .bool true]) (some 37) rfl rfl rfl (by kernel_rfl) (by kernel_rfl) (by kernel_rfl) (by kernel_rfl) (fun _ _ _ h => h) (Or.inl ⟨by rfl, fun u hu => by obtain ⟨b0, b1, b2, b3, b4, b5, b6, b7⟩ := hu; go_simp⟩) (unhide HS0) ?_
  try simp only [Act.put, List.setIfInBounds_toArray, List.set_cons_zero, List.set_cons_succ]
  refine till_one 6 (by kernel_rfl) rfl (fun K hK => ?_)
  go_simp
  obtain ⟨w6, hw6⟩ : ∃ w6, W0.drew.alloc (.cells #[.string k, .int .i64 c0, .int .i64 c1, .string c2', .slice c3 c4 c5, .slice c6 c7 c8, .bool true] 94) = w6 := ⟨_, rfl⟩
  have X6 : Below W0.heap.size W0 w6 := by rw [← hw6]; exact ((Below.refl _ W0).drew).alloc (Nat.le_refl _) _
  have at6 : w6.heap[W0.heap.size]? = some (.cells #[.string k, .int .i64 c0, .int .i64 c1, .string c2', .slice c3 c4 c5, .slice c6 c7 c8, .bool true] 94 (0, 0)) := by rw [← hw6]; exact heap_alloc_new W0.drew _
  have hd6 : (W0.alloc (.cells #[.string k, .int .i64 c0, .int .i64 c1, .string c2', .slice c3 c4 c5, .slice c6 c7 c8, .bool true] 94)).drew = w6 := hw6
  first | rw [hw6] | rw [hd6]
  have b6 : Below w.heap.size w w6 := (unhide H0).1.trans (X6.mono (unhide H0).1.size)
  have n6 := (X6.block P (Array.getElem?_eq_some_iff.1 (unhide H0).2).1).trans (unhide H0).2
  have HS6 : Hid (w6.cell? ⟨r, 1, none⟩ = some (.slice ua n uc) ∧ w6.cell? ⟨P, 0, none⟩ = some (.string k) ∧ w6.cell? ⟨P, 1, none⟩ = some (.int .i64 c0) ∧ w6.cell? ⟨P, 2, none⟩ = some (.int .i64 c1) ∧ w6.cell? ⟨P, 3, none⟩ = some (.string c2') ∧ w6.cell? ⟨P, 4, none⟩ = some (.slice c3 c4 c5) ∧ w6.cell? ⟨P, 5, none⟩ = some (.slice c6 c7 c8) ∧ w6.cell? ⟨P, 6, none⟩ = some (.bool true)) := hide ⟨unhide HC1 w6 b6, by rw [cell_of_row _ P 0 _ _ (0, 0) n6]; rfl, by rw [cell_of_row _ P 1 _ _ (0, 0) n6]; rfl, by rw [cell_of_row _ P 2 _ _ (0, 0) n6]; rfl, by rw [cell_of_row _ P 3 _ _ (0, 0) n6]; rfl, by rw [cell_of_row _ P 4 _ _ (0, 0) n6]; rfl, by rw [cell_of_row _ P 5 _ _ (0, 0) n6]; rfl, by rw [cell_of_row _ P 6 _ _ (0, 0) n6]; rfl⟩
  have H6 := hide (And.intro b6 n6)
  obtain ⟨h5s, hh5s⟩ : ∃ h5s, W0.heap.size = h5s := ⟨_, rfl⟩
  rw [hh5s] at at6 ⊢
  refine hK.out _ _ (Or.inr (unhide HS6)) ?_
  clear hK K hw6 hd6 X6 hh5s b6 n6 HS0
  try simp only [Act.put, List.setIfInBounds_toArray, List.set_cons_zero, List.set_cons_succ]
  refine till_one 7 (by kernel_rfl) rfl (fun K hK => ?_)
  refine step_append_lies _ (by rfl) _ _ 53 (by rfl) 0 94 iv (.agg #[.string ⟨#[]⟩, .int .i64 0, .int .i64 0, .string ⟨#[]⟩, .slice none 0 0, .slice none 0 0, .bool false]) 7 104 Tryz.underlying53 (unhide HI).1 (unhide HI).2.1 (unhide HI).2.2.1 (unhide HI).2.2.2 rfl (by omega) (.slice ua n uc) n CS (by rfl) (unhide HOW w6 (unhide H6).1) ⟨h5s, 0, none⟩ 1 1 [.string k, .int .i64 c0, .int .i64 c1, .string c2', .slice c3 c4 c5, .slice c6 c7 c8, .bool true] (by rfl) (by rfl) (World.news_of_block at6) (by simp [Value.oneCell']) (by omega) (by unfold maxLen; omega) (by omega) (Nat.zero_le _) _ rfl ?_
  intro g7 cap7 w7 hown7 hgrow7 hat7 hlt7
  change K (Act.put _ (some 39) _) w7
  have rl6 : r < w6.heap.size := Nat.lt_of_lt_of_le (unhide HSL).1 (unhide H6).1.size
  have pl6 : P < w6.heap.size := (Array.getElem?_eq_some_iff.1 (unhide H6).2).1
  have HS7 : Hid (w7.cell? ⟨r, 1, none⟩ = some (.slice ua n uc) ∧ w7.cell? ⟨P, 0, none⟩ = some (.string k) ∧ w7.cell? ⟨P, 1, none⟩ = some (.int .i64 c0) ∧ w7.cell? ⟨P, 2, none⟩ = some (.int .i64 c1) ∧ w7.cell? ⟨P, 3, none⟩ = some (.string c2') ∧ w7.cell? ⟨P, 4, none⟩ = some (.slice c3 c4 c5) ∧ w7.cell? ⟨P, 5, none⟩ = some (.slice c6 c7 c8) ∧ w7.cell? ⟨P, 6, none⟩ = some (.bool true)) := hide ⟨(hgrow7.cell_far ⟨r, 1, none⟩ rl6 (unhide HSL).2.1).trans ((unhide HS6).1), (hgrow7.cell_far ⟨P, 0, none⟩ pl6 (unhide HSL).2.2).trans ((unhide HS6).2.1), (hgrow7.cell_far ⟨P, 1, none⟩ pl6 (unhide HSL).2.2).trans ((unhide HS6).2.2.1), (hgrow7.cell_far ⟨P, 2, none⟩ pl6 (unhide HSL).2.2).trans ((unhide HS6).2.2.2.1), (hgrow7.cell_far ⟨P, 3, none⟩ pl6 (unhide HSL).2.2).trans ((unhide HS6).2.2.2.2.1), (hgrow7.cell_far ⟨P, 4, none⟩ pl6 (unhide HSL).2.2).trans ((unhide HS6).2.2.2.2.2.1), (hgrow7.cell_far ⟨P, 5, none⟩ pl6 (unhide HSL).2.2).trans ((unhide HS6).2.2.2.2.2.2.1), (hgrow7.cell_far ⟨P, 6, none⟩ pl6 (unhide HSL).2.2).trans ((unhide HS6).2.2.2.2.2.2.2)⟩
  have f7 : w7.frozen? ⟨r, 1, none⟩ = false := (hgrow7.frozen_far ⟨r, 1, none⟩ rl6 (unhide HSL).2.1).trans (unhide HFZ w6 (unhide H6).1)
  have H7 := hide (And.intro hown7 (And.intro hgrow7 hat7))
  refine hK.out _ _ (Or.inr (unhide HS7)) ?_
  clear hK K hown7 hgrow7 hat7 hlt7 HS6 rl6 pl6
  try simp only [Act.put, List.setIfInBounds_toArray, List.set_cons_zero, List.set_cons_succ]
  refine till_one 8 (by kernel_rfl) rfl (fun K hK => ?_)
  obtain ⟨b0, b1, b2, b3, b4, b5, b6, b7⟩ := unhide HS7
  go_simp
  refine hK.out _ _ (Or.inr (unhide HS7)) ?_
  clear hK K b0 b1 b2 b3 b4 b5 b6 b7
  try simp only [Act.put, List.setIfInBounds_toArray, List.set_cons_zero, List.set_cons_succ]
  refine till_one 9 (by kernel_rfl) rfl (fun K hK => ?_)
  obtain ⟨b0, b1, b2, b3, b4, b5, b6, b7⟩ := unhide HS7
  go_simp
  refine hK.out _ _ (Or.inr (unhide HS7)) ?_
  clear hK K b0 b1 b2 b3 b4 b5 b6 b7
  try simp only [Act.put, List.setIfInBounds_toArray, List.set_cons_zero, List.set_cons_succ]
  refine till_one 10 (by kernel_rfl) rfl (fun K hK => ?_)
  obtain ⟨b0, b1, b2, b3, b4, b5, b6, b7⟩ := unhide HS7
  go_simp
  refine hK.out _ _ (Or.inl (by first | rfl | trivial)) ?_
  clear hK K b0 b1 b2 b3 b4 b5 b6 b7 f7
  try simp only [Act.put, List.setIfInBounds_toArray, List.set_cons_zero, List.set_cons_succ]
  refine till_done (by kernel_rfl) ?_ _
  obtain ⟨w8, hw8⟩ : ∃ w8, w7.setCell ⟨r, 1, none⟩ (.slice (some ⟨g7, 0, none⟩) (n + 1) cap7) = w8 := ⟨_, rfl⟩
  have H8 : Hid (Rto w8 V ⟨r, lv, lx, .slice (some ⟨g7, 0, none⟩) (n + 1) cap7, us ++ [(k, ((c0, c1, c2', c3, c4, c5, c6, c7, c8), some y))], mv, ms⟩ ∧ RAdv w w8 V V ⟨r, lv, lx, .slice ua n uc, us, mv, ms⟩ ⟨r, lv, lx, .slice (some ⟨g7, 0, none⟩) (n + 1) cap7, us ++ [(k, ((c0, c1, c2', c3, c4, c5, c6, c7, c8), some y))], mv, ms⟩) := hide (by
    rw [← hw8]
    refine unhide HM w6 w7 g7 cap7 (unhide H6).1 (unhide H7).1 (unhide H7).2.1 ?_
    rcases (unhide H7).2.2 with e | e
    · exact .inl e
    · exact .inr (Nat.le_trans (unhide H6).1.size (by omega)))
  rw [hw8]
  clear hw8 H7 H6 HS7 HSL HFZ HOW HM HI
  go_wp2_with fail
  go_end0
  exact ⟨⟨_, rfl⟩, _, unhide H8⟩

set_option maxRecDepth 100000 in
set_option maxHeartbeats 1600000 in
theorem note_new (h : Rto w V t) (hr : Rk t.lx) (hm : t.ms ≠ []) (hu : t.us.length ≤ 1353245080318) (k : ByteArray) (hO : lookK t.lx k = none) : Calls Tryz.prog 70 #[.pointer (some ⟨t.r, 0, none⟩), .string k] w fun e w' => (∃ r, e = .returned r) ∧ ∃ uv', Rto w' V { t with uv := uv', us := t.us ++ [(k, ((0, 0, ⟨#[]⟩, none, 0, 0, none, 0, 0), none))] } ∧ RAdv w w' V V t { t with uv := uv', us := t.us ++ [(k, ((0, 0, ⟨#[]⟩, none, 0, 0, none, 0, 0), none))] } := by
  have c2 := h.c2
  obtain ⟨mo, mc, hmv, -⟩ := own_slice h.mrk
  rw [hmv] at c2
  have hml : 0 < t.ms.length := List.length_pos_iff.2 hm
  obtain ⟨M, hM⟩ : ∃ M, t.ms.length = M := ⟨_, rfl⟩
  rw [hM] at c2 hml
  have m1 : ((M : Int) == 0) = false := by simp; omega
  have m2 : ¬ (M : Int) = 0 := by omega
  have CP := place_any h k
  rw [decide_eq_false ((look_none_at t.lx k hr).1 hO)] at CP
  obtain ⟨L, hL⟩ : ∃ L, lowK t.lx k = L := ⟨_, rfl⟩
  rw [hL] at CP
  have CPH := hide CP
  clear CP
  obtain ⟨ua, uc, huv, -⟩ := own_slice h.und
  obtain ⟨n, hn⟩ : ∃ n, t.us.length = n := ⟨_, rfl⟩
  obtain ⟨CS, hCS⟩ : ∃ CS, cellsN t.us = CS := ⟨_, rfl⟩
  rw [hn] at huv hu
  have HC1 : Hid (∀ u, Below w.heap.size w u → u.cell? ⟨t.r, 1, none⟩ = some (.slice ua n uc)) := hide (fun u hu => by have := (h.later hu).c1; rw [huv] at this; exact this)
  have HOW : Hid (∀ u, Below w.heap.size w u → u.ownsRow 0 94 7 (.slice ua n uc) n CS) := hide (fun u hu => by have := (h.later hu).und; rw [huv, hn, hCS] at this; exact this)
  have HFZ : Hid (∀ u, Below w.heap.size w u → u.frozen? ⟨t.r, 1, none⟩ = false) := hide (fun u hu => frozen_of_row u t.r 1 _ _ (h.later hu).box)
  have hrne : some t.r ≠ (Value.slice ua n uc).ownBlock := fun e => ty_ne ⟨_, h.box⟩ (row_ty h.und (by rw [huv]; exact e.symm)) (by decide) rfl
  obtain ⟨iv, hiv, hz0, hz1, hz2⟩ := info_parts infoUn
  have HI := hide (And.intro hiv (And.intro hz0 (And.intro hz1 hz2)))
  have hrl := h.rl
  have HM := hide (fun (w5 w7 : World) (b cap : Nat) (h1 : Below w.heap.size w w5) h2 h3 h4 => h.noted (w5 := w5) (w7 := w7) (b := b) (cap := cap) (k := k) (c := (0, 0, ⟨#[]⟩, none, 0, 0, none, 0, 0)) (o := none) hn h1 h2 h3 h4 (fun y e => by cases e))
  rw [hCS, huv] at HM
  clear h hr hO hL hm hmv hM hn hCS hiv hz0 hz1 hz2 
  obtain ⟨r, lv, lx, uv, us, mv, ms⟩ := t
  dsimp only at CPH c2 HC1 HOW HFZ HM hrne hrl huv  ⊢
  subst huv
  go_enter Tryz.func70, Tryz.ntmps70
  go_wp2_with fail
  refine (unhide CPH).mono ?_
  rintro e u1 ⟨rfl, hq⟩
  have B1 : Below w.heap.size w u1 := by obtain ⟨q, rfl⟩ := hq; exact ⟨rfl, rfl, rfl, Nat.le_refl _, fun _ _ => rfl⟩
  obtain ⟨P, hP⟩ : ∃ P, u1.heap.size = P := ⟨_, rfl⟩
  obtain ⟨W0, hW0⟩ : ∃ W0, u1.alloc (.cells #[.string k, .int .i64 0, .int .i64 0, .string ⟨#[]⟩, .slice none 0 0, .slice none 0 0, .bool false] 94) = W0 := ⟨_, rfl⟩
  have N2 : W0.heap[P]? = some (.cells #[.string k, .int .i64 0, .int .i64 0, .string ⟨#[]⟩, .slice none 0 0, .slice none 0 0, .bool false] 94 (0, 0)) := by rw [← hW0, ← hP]; exact heap_alloc_new u1 _
  have B2 : Below w.heap.size w W0 := by rw [← hW0]; exact B1.trans ((Below.refl _ _).alloc B1.size _)
  have HPne : some P ≠ (Value.slice ua n uc).ownBlock := fun e => by
    have h1 := ((unhide HOW w (Below.refl _ _)).lt P e.symm).2
    have := B1.size
    omega
  have HSL : Hid (r < w.heap.size ∧ some r ≠ (Value.slice ua n uc).ownBlock ∧ some P ≠ (Value.slice ua n uc).ownBlock) := hide ⟨hrl, hrne, HPne⟩
  have hPw : w.heap.size ≤ P := by have := B1.size; omega
  have N2c : ∀ j v, (#[.string k, .int .i64 0, .int .i64 0, .string ⟨#[]⟩, .slice none 0 0, .slice none 0 0, .bool false] : Array Value)[j]? = some v → W0.cell? ⟨P, j, none⟩ = some v := fun j v hv => by rw [cell_of_row W0 P j _ _ (0, 0) N2]; exact hv
  have g1 : W0.cell? ⟨P, 1, none⟩ = some (.int .i64 0) := N2c 1 _ rfl
  have g2 : W0.cell? ⟨P, 2, none⟩ = some (.int .i64 0) := N2c 2 _ rfl
  have g3 : W0.cell? ⟨P, 3, none⟩ = some (.string ⟨#[]⟩) := N2c 3 _ rfl
  have g4 : W0.cell? ⟨P, 4, none⟩ = some (.slice none 0 0) := N2c 4 _ rfl
  have g5 : W0.cell? ⟨P, 5, none⟩ = some (.slice none 0 0) := N2c 5 _ rfl
  have f1 := frozen_of_row W0 P 1 _ _ N2
  have f2 := frozen_of_row W0 P 2 _ _ N2
  have f3 := frozen_of_row W0 P 3 _ _ N2
  have f4 := frozen_of_row W0 P 4 _ _ N2
  have f5 := frozen_of_row W0 P 5 _ _ N2
  have H0 : Hid (Below w.heap.size w W0 ∧ W0.heap[P]? = some (.cells #[.string k, .int .i64 0, .int .i64 0, .string ⟨#[]⟩, .slice none 0 0, .slice none 0 0, .bool false] 94 (0, 0))) := hide ⟨B2, N2⟩
  have HW0 := hide hW0
  clear hq B1 N2 B2 HPne CPH N2c g1 g2 g3 g4 g5 f1 f2 f3 f4 f5 hW0
  go_upto_region 5 with fail
  rw [unhide HW0]
  have HS0 : Hid (W0.drew.cell? ⟨r, 1, none⟩ = some (.slice ua n uc) ∧ W0.drew.cell? ⟨P, 0, none⟩ = some (.string k) ∧ W0.drew.cell? ⟨P, 1, none⟩ = some (.int .i64 0) ∧ W0.drew.cell? ⟨P, 2, none⟩ = some (.int .i64 0) ∧ W0.drew.cell? ⟨P, 3, none⟩ = some (.string ⟨#[]⟩) ∧ W0.drew.cell? ⟨P, 4, none⟩ = some (.slice none 0 0) ∧ W0.drew.cell? ⟨P, 5, none⟩ = some (.slice none 0 0) ∧ W0.drew.cell? ⟨P, 6, none⟩ = some (.bool false)) := hide ⟨(unhide HC1 W0.drew (unhide H0).1.drew), by rw [cell_of_row _ P 0 _ _ (0, 0) (show W0.drew.heap[P]? = _ from (unhide H0).2)]; rfl, by rw [cell_of_row _ P 1 _ _ (0, 0) (show W0.drew.heap[P]? = _ from (unhide H0).2)]; rfl, by rw [cell_of_row _ P 2 _ _ (0, 0) (show W0.drew.heap[P]? = _ from (unhide H0).2)]; rfl, by rw [cell_of_row _ P 3 _ _ (0, 0) (show W0.drew.heap[P]? = _ from (unhide H0).2)]; rfl, by rw [cell_of_row _ P 4 _ _ (0, 0) (show W0.drew.heap[P]? = _ from (unhide H0).2)]; rfl, by rw [cell_of_row _ P 5 _ _ (0, 0) (show W0.drew.heap[P]? = _ from (unhide H0).2)]; rfl, by rw [cell_of_row _ P 6 _ _ (0, 0) (show W0.drew.heap[P]? = _ from (unhide H0).2)]; rfl⟩
  refine till_begin (S := fun w' => w'.cell? ⟨r, 1, none⟩ = some (.slice ua n uc) ∧ w'.cell? ⟨P, 0, none⟩ = some (.string k) ∧ w'.cell? ⟨P, 1, none⟩ = some (.int .i64 0) ∧ w'.cell? ⟨P, 2, none⟩ = some (.int .i64 0) ∧ w'.cell? ⟨P, 3, none⟩ = some (.string ⟨#[]⟩) ∧ w'.cell? ⟨P, 4, none⟩ = some (.slice none 0 0) ∧ w'.cell? ⟨P, 5, none⟩ = some (.slice none 0 0) ∧ w'.cell? ⟨P, 6, none⟩ = some (.bool false)) 10 (by kernel_rfl) ?_
  refine till_take 0 (v := .pointer (some ⟨r, 0, none⟩)) (some 32) rfl rfl rfl (by kernel_rfl) (by kernel_rfl) (by kernel_rfl) (by kernel_rfl) (fun _ _ _ h => h) (Or.inl ⟨by rfl, fun u hu => by obtain ⟨b0, b1, b2, b3, b4, b5, b6, b7⟩ := hu; go_simp⟩) (unhide HS0) ?_
  try simp only [Act.put, List.setIfInBounds_toArray, List.set_cons_zero, List.set_cons_succ]
  refine till_take 1 (v := .pointer (some ⟨r, 0, none⟩)) (some 33) rfl rfl rfl (by kernel_rfl) (by kernel_rfl) (by kernel_rfl) (by kernel_rfl) (fun _ _ _ h => h) (Or.inl ⟨by rfl, fun u hu => by obtain ⟨b0, b1, b2, b3, b4, b5, b6, b7⟩ := hu; go_simp⟩) (unhide HS0) ?_
  try simp only [Act.put, List.setIfInBounds_toArray, List.set_cons_zero, List.set_cons_succ]
  refine till_take 2 (v := .pointer (some ⟨r, 0, none⟩)) (some 34) rfl rfl rfl (by kernel_rfl) (by kernel_rfl) (by kernel_rfl) (by kernel_rfl) (fun _ _ _ h => h) (Or.inl ⟨by rfl, fun u hu => by obtain ⟨b0, b1, b2, b3, b4, b5, b6, b7⟩ := hu; go_simp⟩) (unhide HS0) ?_
  try simp only [Act.put, List.setIfInBounds_toArray, List.set_cons_zero, List.set_cons_succ]
  refine till_take 3 (v := .pointer (some ⟨r, 1, none⟩)) (some 35) rfl rfl rfl (by kernel_rfl) (by kernel_rfl) (by kernel_rfl) (by kernel_rfl) (fun _ _ _ h => h) (Or.inl ⟨by rfl, fun u hu => by obtain ⟨b0, b1, b2, b3, b4, b5, b6, b7⟩ := hu; go_simp⟩) (unhide HS0) ?_
  try simp only [Act.put, List.setIfInBounds_toArray, List.set_cons_zero, List.set_cons_succ]
  refine till_take 4 (v := .slice ua n uc) (some 36) rfl rfl rfl (by kernel_rfl) (by kernel_rfl) (by kernel_rfl) (by kernel_rfl) (fun _ _ _ h => h) (Or.inl ⟨by rfl, fun u hu => by obtain ⟨b0, b1, b2, b3, b4, b5, b6, b7⟩ := hu; go_simp⟩) (unhide HS0) ?_
  try simp only [Act.put, List.setIfInBounds_toArray, List.set_cons_zero, List.set_cons_succ]
  refine till_take 5 (v := .agg #[.string k, .int .i64 0, .int .i64 0, .string ⟨#[]⟩, .slice none 0 0, .slice none 0 0, .bool false]) (some 37) rfl rfl rfl (by kernel_rfl) (by kernel_rfl) (by kernel_rfl) (by kernel_rfl) (fun _ _ _ h => h) (Or.inl ⟨by rfl, fun u hu => by obtain ⟨b0, b1, b2, b3, b4, b5, b6, b7⟩ := hu; go_simp⟩) (unhide HS0) ?_
  try simp only [Act.put, List.setIfInBounds_toArray, List.set_cons_zero, List.set_cons_succ]
  refine till_one 6 (by kernel_rfl) rfl (fun K hK => ?_)
  go_simp
  obtain ⟨w6, hw6⟩ : ∃ w6, W0.drew.alloc (.cells #[.string k, .int .i64 0, .int .i64 0, .string ⟨#[]⟩, .slice none 0 0, .slice none 0 0, .bool false] 94) = w6 := ⟨_, rfl⟩
  have X6 : Below W0.heap.size W0 w6 := by rw [← hw6]; exact ((Below.refl _ W0).drew).alloc (Nat.le_refl _) _
  have at6 : w6.heap[W0.heap.size]? = some (.cells #[.string k, .int .i64 0, .int .i64 0, .string ⟨#[]⟩, .slice none 0 0, .slice none 0 0, .bool false] 94 (0, 0)) := by rw [← hw6]; exact heap_alloc_new W0.drew _
  have hd6 : (W0.alloc (.cells #[.string k, .int .i64 0, .int .i64 0, .string ⟨#[]⟩, .slice none 0 0, .slice none 0 0, .bool false] 94)).drew = w6 := hw6
  first | rw [hw6] | rw [hd6]
  have b6 : Below w.heap.size w w6 := (unhide H0).1.trans (X6.mono (unhide H0).1.size)
  have n6 := (X6.block P (Array.getElem?_eq_some_iff.1 (unhide H0).2).1).trans (unhide H0).2
  have HS6 : Hid (w6.cell? ⟨r, 1, none⟩ = some (.slice ua n uc) ∧ w6.cell? ⟨P, 0, none⟩ = some (.string k) ∧ w6.cell? ⟨P, 1, none⟩ = some (.int .i64 0) ∧ w6.cell? ⟨P, 2, none⟩ = some (.int .i64 0) ∧ w6.cell? ⟨P, 3, none⟩ = some (.string ⟨#[]⟩) ∧ w6.cell? ⟨P, 4, none⟩ = some (.slice none 0 0) ∧ w6.cell? ⟨P, 5, none⟩ = some (.slice none 0 0) ∧ w6.cell? ⟨P, 6, none⟩ = some (.bool false)) := hide ⟨unhide HC1 w6 b6, by rw [cell_of_row _ P 0 _ _ (0, 0) n6]; rfl, by rw [cell_of_row _ P 1 _ _ (0, 0) n6]; rfl, by rw [cell_of_row _ P 2 _ _ (0, 0) n6]; rfl, by rw [cell_of_row _ P 3 _ _ (0, 0) n6]; rfl, by rw [cell_of_row _ P 4 _ _ (0, 0) n6]; rfl, by rw [cell_of_row _ P 5 _ _ (0, 0) n6]; rfl, by rw [cell_of_row _ P 6 _ _ (0, 0) n6]; rfl⟩
  have H6 := hide (And.intro b6 n6)
  obtain ⟨h5s, hh5s⟩ : ∃ h5s, W0.heap.size = h5s := ⟨_, rfl⟩
  rw [hh5s] at at6 ⊢
  refine hK.out _ _ (Or.inr (unhide HS6)) ?_
  clear hK K hw6 hd6 X6 hh5s b6 n6 HS0
  try simp only [Act.put, List.setIfInBounds_toArray, List.set_cons_zero, List.set_cons_succ]
  refine till_one 7 (by kernel_rfl) rfl (fun K hK => ?_)
  refine step_append_lies _ (by rfl) _ _ 53 (by rfl) 0 94 iv (.agg #[.string ⟨#[]⟩, .int .i64 0, .int .i64 0, .string ⟨#[]⟩, .slice none 0 0, .slice none 0 0, .bool false]) 7 104 Tryz.underlying53 (unhide HI).1 (unhide HI).2.1 (unhide HI).2.2.1 (unhide HI).2.2.2 rfl (by omega) (.slice ua n uc) n CS (by rfl) (unhide HOW w6 (unhide H6).1) ⟨h5s, 0, none⟩ 1 1 [.string k, .int .i64 0, .int .i64 0, .string ⟨#[]⟩, .slice none 0 0, .slice none 0 0, .bool false] (by rfl) (by rfl) (World.news_of_block at6) (by simp [Value.oneCell']) (by omega) (by unfold maxLen; omega) (by omega) (Nat.zero_le _) _ rfl ?_
  intro g7 cap7 w7 hown7 hgrow7 hat7 hlt7
  change K (Act.put _ (some 39) _) w7
  have rl6 : r < w6.heap.size := Nat.lt_of_lt_of_le (unhide HSL).1 (unhide H6).1.size
  have pl6 : P < w6.heap.size := (Array.getElem?_eq_some_iff.1 (unhide H6).2).1
  have HS7 : Hid (w7.cell? ⟨r, 1, none⟩ = some (.slice ua n uc) ∧ w7.cell? ⟨P, 0, none⟩ = some (.string k) ∧ w7.cell? ⟨P, 1, none⟩ = some (.int .i64 0) ∧ w7.cell? ⟨P, 2, none⟩ = some (.int .i64 0) ∧ w7.cell? ⟨P, 3, none⟩ = some (.string ⟨#[]⟩) ∧ w7.cell? ⟨P, 4, none⟩ = some (.slice none 0 0) ∧ w7.cell? ⟨P, 5, none⟩ = some (.slice none 0 0) ∧ w7.cell? ⟨P, 6, none⟩ = some (.bool false)) := hide ⟨(hgrow7.cell_far ⟨r, 1, none⟩ rl6 (unhide HSL).2.1).trans ((unhide HS6).1), (hgrow7.cell_far ⟨P, 0, none⟩ pl6 (unhide HSL).2.2).trans ((unhide HS6).2.1), (hgrow7.cell_far ⟨P, 1, none⟩ pl6 (unhide HSL).2.2).trans ((unhide HS6).2.2.1), (hgrow7.cell_far ⟨P, 2, none⟩ pl6 (unhide HSL).2.2).trans ((unhide HS6).2.2.2.1), (hgrow7.cell_far ⟨P, 3, none⟩ pl6 (unhide HSL).2.2).trans ((unhide HS6).2.2.2.2.1), (hgrow7.cell_far ⟨P, 4, none⟩ pl6 (unhide HSL).2.2).trans ((unhide HS6).2.2.2.2.2.1), (hgrow7.cell_far ⟨P, 5, none⟩ pl6 (unhide HSL).2.2).trans ((unhide HS6).2.2.2.2.2.2.1), (hgrow7.cell_far ⟨P, 6, none⟩ pl6 (unhide HSL).2.2).trans ((unhide HS6).2.2.2.2.2.2.2)⟩
  have f7 : w7.frozen? ⟨r, 1, none⟩ = false := (hgrow7.frozen_far ⟨r, 1, none⟩ rl6 (unhide HSL).2.1).trans (unhide HFZ w6 (unhide H6).1)
  have H7 := hide (And.intro hown7 (And.intro hgrow7 hat7))
  refine hK.out _ _ (Or.inr (unhide HS7)) ?_
  clear hK K hown7 hgrow7 hat7 hlt7 HS6 rl6 pl6
  try simp only [Act.put, List.setIfInBounds_toArray, List.set_cons_zero, List.set_cons_succ]
  refine till_one 8 (by kernel_rfl) rfl (fun K hK => ?_)
  obtain ⟨b0, b1, b2, b3, b4, b5, b6, b7⟩ := unhide HS7
  go_simp
  refine hK.out _ _ (Or.inr (unhide HS7)) ?_
  clear hK K b0 b1 b2 b3 b4 b5 b6 b7
  try simp only [Act.put, List.setIfInBounds_toArray, List.set_cons_zero, List.set_cons_succ]
  refine till_one 9 (by kernel_rfl) rfl (fun K hK => ?_)
  obtain ⟨b0, b1, b2, b3, b4, b5, b6, b7⟩ := unhide HS7
  go_simp
  refine hK.out _ _ (Or.inr (unhide HS7)) ?_
  clear hK K b0 b1 b2 b3 b4 b5 b6 b7
  try simp only [Act.put, List.setIfInBounds_toArray, List.set_cons_zero, List.set_cons_succ]
  refine till_one 10 (by kernel_rfl) rfl (fun K hK => ?_)
  obtain ⟨b0, b1, b2, b3, b4, b5, b6, b7⟩ := unhide HS7
  go_simp
  refine hK.out _ _ (Or.inl (by first | rfl | trivial)) ?_
  clear hK K b0 b1 b2 b3 b4 b5 b6 b7 f7
  try simp only [Act.put, List.setIfInBounds_toArray, List.set_cons_zero, List.set_cons_succ]
  refine till_done (by kernel_rfl) ?_ _
  obtain ⟨w8, hw8⟩ : ∃ w8, w7.setCell ⟨r, 1, none⟩ (.slice (some ⟨g7, 0, none⟩) (n + 1) cap7) = w8 := ⟨_, rfl⟩
  have H8 : Hid (Rto w8 V ⟨r, lv, lx, .slice (some ⟨g7, 0, none⟩) (n + 1) cap7, us ++ [(k, ((0, 0, ⟨#[]⟩, none, 0, 0, none, 0, 0), none))], mv, ms⟩ ∧ RAdv w w8 V V ⟨r, lv, lx, .slice ua n uc, us, mv, ms⟩ ⟨r, lv, lx, .slice (some ⟨g7, 0, none⟩) (n + 1) cap7, us ++ [(k, ((0, 0, ⟨#[]⟩, none, 0, 0, none, 0, 0), none))], mv, ms⟩) := hide (by
    rw [← hw8]
    refine unhide HM w6 w7 g7 cap7 (unhide H6).1 (unhide H7).1 (unhide H7).2.1 ?_
    rcases (unhide H7).2.2 with e | e
    · exact .inl e
    · exact .inr (Nat.le_trans (unhide H6).1.size (by omega)))
  rw [hw8]
  clear hw8 H7 H6 HS7 HSL HFZ HOW HM HI
  go_wp2_with fail
  go_end0
  exact ⟨⟨_, rfl⟩, _, unhide H8⟩

end
end Go.Proofs.YtdaooapfokhfcaaGreat
