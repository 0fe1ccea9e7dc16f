/-
  store's take and lay; conditions: the form's own reach.
-/
import Derived.Test.YtdaooapfokhfcaaGreatA21
namespace Go.Proofs.YtdaooapfokhfcaaGreat
open Go.RowKit
set_option linter.unusedVariables false
set_option linter.unusedSimpArgs false

set_option maxRecDepth 100000 in
set_option maxHeartbeats 800000 in
theorem take_any {w : World} {V : Nat → Prop} {t : Sx} (h : Sto w V t) (hw : -1000000000000 ≤ t.wg ∧ t.wg ≤ 1000000000000) (k : ByteArray) (hk : k.size ≤ 32) :
    Calls Tryz.prog 63 #[.pointer (some ⟨t.s, 0, none⟩), .string k] w fun e w' => (∃ r, e = .returned r) ∧ ∃ v', Sto w' V { t with v := v', l := delK t.l k, wg := t.wg - oldW t k } ∧ Adv w w' V V t { t with v := v', l := delK t.l k, wg := t.wg - oldW t k } := by
  have CG : Hid (Calls Tryz.prog 55 #[.pointer (some ⟨t.g, 0, none⟩), .string k] w fun e w' => e = .returned (.tuple #[.agg (match lookK (mapK Prod.fst t.l) k with | some t => (thV t).toArray | none => #[.int .i64 0, .int .i64 0, .string ⟨#[]⟩, .slice none 0 0, .slice none 0 0]), .bool (lookK (mapK Prod.fst t.l) k).isSome]) ∧ Below w.heap.size w w') := hide (get_V h.tab (mapK_rk _ h.rk) k)
  rw [mapK_look] at CG
  have c0 := h.c0
  cases hO : lookK t.l k with
  | none =>
    have e1 : delK t.l k = t.l := del_none _ _ hO
    have e2 : t.wg - oldW t k = t.wg := by unfold oldW; rw [hO]; simp
    rw [e1, e2]
    have HQ : Hid (∀ u, Below w.heap.size w u → Sto u V t ∧ Adv w u V V t t) := hide (fun u hu => ⟨h.later hu, Adv.of' hu t V⟩)
    rw [hO] at CG
    clear e1 e2 hO h hw
    obtain ⟨s, g, v0, l0, W, mv, ms⟩ := t
    dsimp only at CG c0 ⊢
    dsimp only [Option.map_none] at CG
    go_enter Tryz.func63, Tryz.ntmps63
    go_wp2_with fail
    refine (unhide CG).mono ?_
    rintro e u1 ⟨rfl, b1⟩
    have D1 : Below w.heap.size w (u1.alloc (.cells #[.int .i64 0, .int .i64 0, .string ⟨#[]⟩, .slice none 0 0, .slice none 0 0] 32)) := b1.alloc b1.size _
    clear b1 CG
    go_wp2_with fail
    go_end0
    exact ⟨⟨_, rfl⟩, v0, unhide HQ _ D1⟩
  | some x =>
    have e2 : t.wg - oldW t k = t.wg - (ew (k, x.2) : Int) := by unfold oldW; rw [hO]
    rw [e2]
    rw [hO] at CG
    have hxo := ew_le k x.2 hk
    have CD : Hid (∀ u, Below w.heap.size w u → Calls Tryz.prog 89 #[.pointer (some ⟨t.g, 0, none⟩), .string k] u fun e w' => e = .returned (.bool true) ∧ ∃ v', Sto w' V { t with v := v', l := delK t.l k } ∧ Adv u w' V V t { t with v := v', l := delK t.l k } ∧ Fr (fun j => j = t.g ∨ t.v.ownBlock = some j) u w') := hide (fun u hu => by
      have hs := h.later hu
      refine (del_inV hs.tab (mapK_rk _ hs.rk) k x.1 (by rw [mapK_look, hO]; rfl)).mono ?_
      rintro e w' ⟨v', rfl, ht, hv, hf⟩
      rw [← mapK_del] at ht
      obtain ⟨a, b⟩ := hs.turn hf ht (del_rk k hs.rk) (fun k' x' hx => hs.ok k' x' (del_mem hx)) (fun b hb => .inl (by rw [← hv]; exact hb))
      exact ⟨rfl, v', a, b, hf⟩)
    have CO : Hid (∀ u, (∀ b, V b → u.heap[b]? = w.heap[b]?) → w.heap.size ≤ u.heap.size → Calls Tryz.prog 75 #[.string k, .agg (thV x.1).toArray] u fun e w' => e = .returned (.int .i64 (ew (k, x.2) : Int)) ∧ Below u.heap.size u w') := hide (fun u hu hz => 
      weigh_store k hk x.2 x.1 u.heap.size u (((h.ok k x (look_mem hO)).is.move hu).isV (fun b hb => Nat.lt_of_lt_of_le (h.vs b hb).1 hz)) (Nat.le_refl _))
    have HV : Hid (∀ j, V j → j < w.heap.size ∧ ¬ t.own j) := hide h.vs
    have HG : Hid (∀ j, (j = t.g ∨ t.v.ownBlock = some j) → j < w.heap.size) := hide (fun j hj => h.lt (by
      rcases hj with e | e
      · exact .inr (.inl e)
      · exact .inr (.inr (.inl e))))
    have HQ : Hid (∀ (u1 u2 u3 : World) (v' : Value), Below w.heap.size w u1 → Sto u2 V { t with v := v', l := delK t.l k } → Adv u1 u2 V V t { t with v := v', l := delK t.l k } → Below u2.heap.size u2 u3 → Sto (u3.setCell ⟨t.s, 1, none⟩ (.int .i64 (t.wg - (ew (k, x.2) : Int)))) V { t with v := v', l := delK t.l k, wg := t.wg - (ew (k, x.2) : Int) } ∧ Adv w (u3.setCell ⟨t.s, 1, none⟩ (.int .i64 (t.wg - (ew (k, x.2) : Int)))) V V t { t with v := v', l := delK t.l k, wg := t.wg - (ew (k, x.2) : Int) }) := hide (fun u1 u2 u3 v' h1 h2 h3 h4 => by
      obtain ⟨a, b⟩ := (h2.later h4).self (i := 1) (x := .int .i64 (t.wg - (ew (k, x.2) : Int))) (n' := t.wg - (ew (k, x.2) : Int)) (g' := 0) (mv' := .int .i64 0) rfl
      exact ⟨a, (((Adv.of' h1 t V).trans h3).trans (Adv.of' h4 _ V)).trans b⟩)
    clear e2 hO h
    obtain ⟨s, g, v0, l0, W, mv, ms⟩ := t
    obtain ⟨⟨x0, x1, x2, x3, x4, x5, x6, x7, x8⟩, xv⟩ := x
    obtain ⟨F, hF⟩ : ∃ F, ew (k, xv) = F := ⟨_, rfl⟩
    dsimp only at CG CD CO HV HG HQ c0 hw hxo ⊢
    dsimp only [thV, Option.map_some] at CG CO
    rw [hF] at CO HQ hxo ⊢
    have hw1 := hw.1
    have hw2 := hw.2
    clear hF hw
    go_enter Tryz.func63, Tryz.ntmps63
    go_upto_region 1 with ((go_at_call 55; refine (unhide CG).mono ?_; rintro e u0 ⟨rfl, b0⟩))
    obtain ⟨u1, hu1⟩ : ∃ u1, u0.alloc (.cells #[.int .i64 x0, .int .i64 x1, .string x2, .slice x3 x4 x5, .slice x6 x7 x8] 32) = u1 := ⟨_, rfl⟩
    obtain ⟨bx, hbx⟩ : ∃ bx, u0.heap.size = bx := ⟨_, rfl⟩
    have N1 : u1.heap[bx]? = some (.cells #[.int .i64 x0, .int .i64 x1, .string x2, .slice x3 x4 x5, .slice x6 x7 x8] 32 (0, 0)) := by rw [← hu1, ← hbx]; exact heap_alloc_new u0 _
    have D1 : Below w.heap.size w u1 := by rw [← hu1]; exact b0.alloc b0.size _
    have hlow : w.heap.size ≤ bx := by rw [← hbx]; exact b0.size
    have c1 : u1.cell? ⟨s, 0, none⟩ = some (.pointer (some ⟨g, 0, none⟩)) := cell_later D1 c0
    have CD2 := hide (unhide CD u1 D1)
    have HN := hide (And.intro N1 (And.intro D1 hlow))
    rw [hu1, hbx]
    clear N1 D1 b0 hlow c0 CG CD hu1 hbx
    go_upto_region 3 with ((go_at_call 89; refine (unhide CD2).mono ?_; rintro e u2 ⟨rfl, v', s2, a2, f2⟩))
    have D2 : w.heap.size ≤ u2.heap.size := Nat.le_trans (unhide HN).2.1.size f2.size
    have hb2 : u2.heap[bx]? = some (.cells #[.int .i64 x0, .int .i64 x1, .string x2, .slice x3 x4 x5, .slice x6 x7 x8] 32 (0, 0)) := (f2.block bx (Array.getElem?_eq_some_iff.1 (unhide HN).1).1 (fun e => by have := unhide HG bx e; have := (unhide HN).2.2; omega)).trans (unhide HN).1
    have kV : ∀ b, V b → u2.heap[b]? = w.heap[b]? := fun b hb => ((a2.fr.block b (Nat.lt_of_lt_of_le (unhide HV b hb).1 (unhide HN).2.1.size) (unhide HV b hb).2).trans ((unhide HN).2.1.block b (unhide HV b hb).1))
    have CO2 := hide (unhide CO u2.drew kV D2)
    have H2 := hide (And.intro s2 (And.intro a2 hb2))
    have HS0 : Hid (u2.drew.cell? ⟨s, 1, none⟩ = some (.int .i64 W) ∧ u2.drew.cell? ⟨bx, 0, none⟩ = some (.int .i64 x0) ∧ u2.drew.cell? ⟨bx, 1, none⟩ = some (.int .i64 x1) ∧ u2.drew.cell? ⟨bx, 2, none⟩ = some (.string x2) ∧ u2.drew.cell? ⟨bx, 3, none⟩ = some (.slice x3 x4 x5) ∧ u2.drew.cell? ⟨bx, 4, none⟩ = some (.slice x6 x7 x8)) := hide ⟨s2.c1, by rw [cell_of_row _ bx 0 _ _ (0, 0) (show u2.drew.heap[bx]? = _ from hb2)]; rfl, by rw [cell_of_row _ bx 1 _ _ (0, 0) (show u2.drew.heap[bx]? = _ from hb2)]; rfl, by rw [cell_of_row _ bx 2 _ _ (0, 0) (show u2.drew.heap[bx]? = _ from hb2)]; rfl, by rw [cell_of_row _ bx 3 _ _ (0, 0) (show u2.drew.heap[bx]? = _ from hb2)]; rfl, by rw [cell_of_row _ bx 4 _ _ (0, 0) (show u2.drew.heap[bx]? = _ from hb2)]; rfl⟩
    clear s2 a2 f2 hb2 kV CD2 CO
    refine till_begin (S := fun w' => w'.cell? ⟨s, 1, none⟩ = some (.int .i64 W) ∧ w'.cell? ⟨bx, 0, none⟩ = some (.int .i64 x0) ∧ w'.cell? ⟨bx, 1, none⟩ = some (.int .i64 x1) ∧ w'.cell? ⟨bx, 2, none⟩ = some (.string x2) ∧ w'.cell? ⟨bx, 3, none⟩ = some (.slice x3 x4 x5) ∧ w'.cell? ⟨bx, 4, none⟩ = some (.slice x6 x7 x8)) 10 (by kernel_rfl) ?_
    refine till_take 0 (v := .pointer (some ⟨s, 0, none⟩)) (some 22) rfl rfl rfl (by kernel_rfl) (by kernel_rfl) (by kernel_rfl) (by kernel_rfl) (fun _ _ _ h => h) (Or.inl ⟨by rfl, fun u hu => by obtain ⟨b0, b1, b2, b3, b4, b5⟩ := hu; go_simp⟩) (unhide HS0) ?_
    try simp only [Act.put, List.setIfInBounds_toArray, List.set_cons_zero, List.set_cons_succ]
    refine till_take 1 (v := .pointer (some ⟨s, 0, none⟩)) (some 23) rfl rfl rfl (by kernel_rfl) (by kernel_rfl) (by kernel_rfl) (by kernel_rfl) (fun _ _ _ h => h) (Or.inl ⟨by rfl, fun u hu => by obtain ⟨b0, b1, b2, b3, b4, b5⟩ := hu; go_simp⟩) (unhide HS0) ?_
    try simp only [Act.put, List.setIfInBounds_toArray, List.set_cons_zero, List.set_cons_succ]
    refine till_take 2 (v := .pointer (some ⟨s, 1, none⟩)) (some 24) rfl rfl rfl (by kernel_rfl) (by kernel_rfl) (by kernel_rfl) (by kernel_rfl) (fun _ _ _ h => h) (Or.inl ⟨by rfl, fun u hu => by obtain ⟨b0, b1, b2, b3, b4, b5⟩ := hu; go_simp⟩) (unhide HS0) ?_
    try simp only [Act.put, List.setIfInBounds_toArray, List.set_cons_zero, List.set_cons_succ]
    refine till_take 3 (v := .int .i64 W) (some 25) rfl rfl rfl (by kernel_rfl) (by kernel_rfl) (by kernel_rfl) (by kernel_rfl) (fun _ _ _ h => h) (Or.inl ⟨by rfl, fun u hu => by obtain ⟨b0, b1, b2, b3, b4, b5⟩ := hu; go_simp⟩) (unhide HS0) ?_
    try simp only [Act.put, List.setIfInBounds_toArray, List.set_cons_zero, List.set_cons_succ]
    refine till_take 4 (v := .string k) (some 26) rfl rfl rfl (by kernel_rfl) (by kernel_rfl) (by kernel_rfl) (by kernel_rfl) (fun _ _ _ h => h) (Or.inl ⟨by rfl, fun u hu => by obtain ⟨b0, b1, b2, b3, b4, b5⟩ := hu; go_simp⟩) (unhide HS0) ?_
    try simp only [Act.put, List.setIfInBounds_toArray, List.set_cons_zero, List.set_cons_succ]
    refine till_take 5 (v := .agg #[.int .i64 x0, .int .i64 x1, .string x2, .slice x3 x4 x5, .slice x6 x7 x8]) (some 27) rfl rfl rfl (by kernel_rfl) (by kernel_rfl) (by kernel_rfl) (by kernel_rfl) (fun _ _ _ h => h) (Or.inl ⟨by rfl, fun u hu => by obtain ⟨b0, b1, b2, b3, b4, b5⟩ := hu; go_simp⟩) (unhide HS0) ?_
    try simp only [Act.put, List.setIfInBounds_toArray, List.set_cons_zero, List.set_cons_succ]
    refine till_one 6 (by kernel_rfl) rfl (fun K hK => ?_)
    go_simp
    refine (unhide CO2).mono ?_
    rintro e u3 ⟨rfl, b3⟩
    have b3 : Below u2.heap.size u2 u3 := ⟨b3.os, b3.tape, b3.output, b3.size, b3.block⟩
    have HS3 : Hid (u3.cell? ⟨s, 1, none⟩ = some (.int .i64 W) ∧ u3.cell? ⟨bx, 0, none⟩ = some (.int .i64 x0) ∧ u3.cell? ⟨bx, 1, none⟩ = some (.int .i64 x1) ∧ u3.cell? ⟨bx, 2, none⟩ = some (.string x2) ∧ u3.cell? ⟨bx, 3, none⟩ = some (.slice x3 x4 x5) ∧ u3.cell? ⟨bx, 4, none⟩ = some (.slice x6 x7 x8)) := hide ⟨cell_later b3 (unhide HS0).1, cell_later b3 (unhide HS0).2.1, cell_later b3 (unhide HS0).2.2.1, cell_later b3 (unhide HS0).2.2.2.1, cell_later b3 (unhide HS0).2.2.2.2.1, cell_later b3 (unhide HS0).2.2.2.2.2⟩
    have H3 := hide b3
    have c3 := (unhide HS3).1
    have f3 := frozen_of_row u3 s 1 _ _ ((unhide H2).1.later b3).box
    clear b3 CO2
    go_wp2_with fail
    refine hK.out _ _ (Or.inr (unhide HS3)) ?_
    clear hK K
    try simp only [Act.put, List.setIfInBounds_toArray, List.set_cons_zero, List.set_cons_succ]
    refine till_take 7 (v := .int .i64 (W - (F : Int))) (some 29) rfl rfl rfl (by kernel_rfl) (by kernel_rfl) (by kernel_rfl) (by kernel_rfl) (fun _ _ _ h => h) (Or.inl ⟨by rfl, fun u hu => by obtain ⟨b0, b1, b2, b3, b4, b5⟩ := hu; go_simp; rw [IntKind.wrap_i64]; omega⟩) (unhide HS3) ?_
    try simp only [Act.put, List.setIfInBounds_toArray, List.set_cons_zero, List.set_cons_succ]
    refine till_one 8 (by kernel_rfl) rfl (fun K hK => ?_)
    obtain ⟨b0, b1, b2, b3, b4, b5⟩ := unhide HS3
    go_simp
    refine hK.out _ _ (Or.inr (unhide HS3)) ?_
    clear hK K b0 b1 b2 b3 b4 b5
    try simp only [Act.put, List.setIfInBounds_toArray, List.set_cons_zero, List.set_cons_succ]
    refine till_one 9 (by kernel_rfl) rfl (fun K hK => ?_)
    obtain ⟨b0, b1, b2, b3, b4, b5⟩ := unhide HS3
    go_simp
    refine hK.out _ _ (Or.inr (unhide HS3)) ?_
    clear hK K b0 b1 b2 b3 b4 b5
    try simp only [Act.put, List.setIfInBounds_toArray, List.set_cons_zero, List.set_cons_succ]
    refine till_one 10 (by kernel_rfl) rfl (fun K hK => ?_)
    go_simp
    refine hK.out _ _ (Or.inl rfl) ?_
    clear hK K
    try simp only [Act.put, List.setIfInBounds_toArray, List.set_cons_zero, List.set_cons_succ]
    refine till_done (by kernel_rfl) ?_ _
    go_wp2_with fail
    go_end0
    obtain ⟨s2, a2, hb2⟩ := unhide H2
    exact ⟨⟨_, rfl⟩, v', unhide HQ u1 u2 u3 v' (unhide HN).2.1 s2 a2 (unhide H3)⟩

theorem put_del {α : Type} (l : List (ByteArray × α)) (k : ByteArray) (x : α) (h : Rk l) : putK (delK l k) k x = putK l k x :=
  rk_ext _ _ (put_rk _ _ (del_rk _ h)) (put_rk _ _ h) (fun k' => by
    rw [look_put _ _ _ _ (del_rk _ h), look_put _ _ _ _ h, look_del _ _ _ h]
    split
    · rfl
    · rfl)

theorem del_len {α : Type} : ∀ (l : List (ByteArray × α)) (k : ByteArray), (delK l k).length ≤ l.length
  | [], k => by simp [delK]
  | p :: r, k => by
    have := del_len r k
    unfold delK
    split <;> simp <;> omega

theorem bad2 {w w0 : World} {t t1 : Sx} {G g : Nat} (h1 : ∀ j, t.own j → j < w.heap.size) (h2 : ∀ j, j = g → t.own j) (h3 : ∀ j, t1.own j → t.own j ∨ w0.heap.size ≤ j) (hG : w.heap.size = G) (hl : G < w0.heap.size) (e : G = g ∨ t1.v.ownBlock = some G) : False := by
  rcases e with e | e
  · have := h1 G (h2 G e)
    omega
  · rcases h3 G (.inr (.inr (.inl e))) with e | e
    · have := h1 G e
      omega
    · omega

set_option maxRecDepth 100000 in
set_option maxHeartbeats 800000 in
theorem lay_any {w : World} {V : Nat → Prop} {t : Sx} (h : Sto w V t) (hl : t.l.length ≤ 1000000) (hw : -1000000000000 ≤ t.wg ∧ t.wg ≤ 1000000000000) (k : ByteArray) (hk : KeyOk k) (v : Vl) (c : ThV) (hv : IsP w V v (.agg (thV c).toArray)) (hr : rightB v = true) :
    Calls Tryz.prog 48 #[.pointer (some ⟨t.s, 0, none⟩), .string k, .agg (thV c).toArray] w fun e w' => (∃ r, e = .returned r) ∧ ∃ v', Sto w' V { t with v := v', l := putK t.l k (c, v), wg := t.wg - oldW t k + (ew (k, v) : Int) } ∧ Adv w w' V V t { t with v := v', l := putK t.l k (c, v), wg := t.wg - oldW t k + (ew (k, v) : Int) } := by
  have hold : 0 ≤ oldW t k ∧ oldW t k ≤ 2081 := by
    unfold oldW
    split
    · rename_i x _
      have := ew_le k x.2 hk.2
      omega
    · omega
  have he := ew_le k v hk.2
  have CT : Hid (∀ u, Below w.heap.size w u → Calls Tryz.prog 63 #[.pointer (some ⟨t.s, 0, none⟩), .string k] u fun e w' => (∃ r, e = .returned r) ∧ ∃ v', Sto w' V { t with v := v', l := delK t.l k, wg := t.wg - oldW t k } ∧ Adv w w' V V t { t with v := v', l := delK t.l k, wg := t.wg - oldW t k } ∧ (∀ j, Sx.own { t with v := v', l := delK t.l k, wg := t.wg - oldW t k } j → t.own j ∨ u.heap.size ≤ j) ∧ Fr t.own u w') := hide (fun u hu => by
    refine (take_any (h.later hu) hw k hk.2).mono ?_
    rintro e w' ⟨hr, v', a, b⟩
    exact ⟨hr, v', a, (Adv.of' hu t V).trans b, b.own, b.fr⟩)
  have CP : Hid (∀ (u u2 : World) (v' : Value), Sto u V { t with v := v', l := delK t.l k, wg := t.wg - oldW t k } → Adv w u V V t { t with v := v', l := delK t.l k, wg := t.wg - oldW t k } → Calls Tryz.prog 82 #[.pointer (some ⟨t.g, 0, none⟩), .string k, .agg (thV c).toArray] u.drew fun e w' => (∃ r, e = .returned (.bool r)) ∧ ∃ v2, Sto w' V { t with v := v2, l := putK t.l k (c, v), wg := t.wg - oldW t k } ∧ Adv w w' V V t { t with v := v2, l := putK t.l k (c, v), wg := t.wg - oldW t k } ∧ Fr (fun j => j = t.g ∨ v'.ownBlock = some j) u w') := hide (fun u u2 v' hs ha => by
    have hs' := hs.later (w' := u.drew) (Below.refl _ _).drew
    have hlen : ((mapK Prod.fst (delK t.l k)).length + 1) * 96 ≤ 140737488355328 := by
      rw [mapK_len]
      have := del_len t.l k
      omega
    refine (put_V hs'.tab (mapK_rk _ hs'.rk) k c hlen).mono ?_
    rintro e w' ⟨v2, rfl, ht, hv2, hf⟩
    have e1 : putK (mapK Prod.fst (delK t.l k)) k c = mapK Prod.fst (putK t.l k (c, v)) := by
      rw [← put_del t.l k (c, v) h.rk, mapK_put]
    have kV := (ha.kept h.vs).1
    have ht' : KTV w' t.g v2 (mapK Prod.fst (putK t.l k (c, v))) := by rw [← e1]; exact ht
    obtain ⟨a, b⟩ := hs'.turn hf ht' (put_rk _ _ h.rk) (fun k' x' hx => by
      rcases put_mem hx with e | e
      · cases e
        exact ⟨hv.to (w' := u.drew) kV (fun _ h => h), hr, hk⟩
      · exact (h.ok k' x' e).to (w' := u.drew) kV (fun _ h => h)) hv2
    exact ⟨⟨_, rfl⟩, v2, a, ha.trans ((Adv.of' (w' := u.drew) (Below.refl _ _).drew _ V).trans b), (Fr.drew u).trans hf (fun _ _ h => h)⟩)
  have CO : Hid (∀ (u : World) (t' : Sx), Adv w u V V t t' → Calls Tryz.prog 75 #[.string k, .agg (thV c).toArray] u.drew fun e w' => e = .returned (.int .i64 (ew (k, v) : Int)) ∧ Below u.heap.size u w') := hide (fun u t' ha => by
    have kV := (ha.kept h.vs)
    refine (weigh_store k hk.2 v c u.drew.heap.size u.drew ((hv.move (w' := u.drew) kV.1).isV (fun b hb => (kV.2 b hb).1)) (Nat.le_refl _)).mono ?_
    rintro e w' ⟨rfl, b⟩
    exact ⟨rfl, ⟨b.os, b.tape, b.output, b.size, b.block⟩⟩)
  have HQ : Hid (∀ (u2 u3 : World) (v' : Value), Sto u2 V { t with v := v', l := putK t.l k (c, v), wg := t.wg - oldW t k } → Adv w u2 V V t { t with v := v', l := putK t.l k (c, v), wg := t.wg - oldW t k } → Below u2.heap.size u2 u3 → Sto (u3.setCell ⟨t.s, 1, none⟩ (.int .i64 (t.wg - oldW t k + (ew (k, v) : Int)))) V { t with v := v', l := putK t.l k (c, v), wg := t.wg - oldW t k + (ew (k, v) : Int) } ∧ Adv w (u3.setCell ⟨t.s, 1, none⟩ (.int .i64 (t.wg - oldW t k + (ew (k, v) : Int)))) V V t { t with v := v', l := putK t.l k (c, v), wg := t.wg - oldW t k + (ew (k, v) : Int) }) := hide (fun u2 u3 v' h2 h3 h4 => by
    obtain ⟨a, b⟩ := (h2.later h4).self (i := 1) (x := .int .i64 (t.wg - oldW t k + (ew (k, v) : Int))) (n' := t.wg - oldW t k + (ew (k, v) : Int)) (g' := 0) (mv' := .int .i64 0) rfl
    exact ⟨a, (h3.trans (Adv.of' h4 _ V)).trans b⟩)
  have HG : Hid (∀ j, t.own j → j < w.heap.size) := hide (fun j hj => h.lt hj)
  have HW : Hid (∀ j, j = t.g → t.own j) := hide (fun j e => .inr (.inl e))
  clear h hv
  obtain ⟨O, hO⟩ : ∃ O, oldW t k = O := ⟨_, rfl⟩
  obtain ⟨F, hF⟩ : ∃ F, ew (k, v) = F := ⟨_, rfl⟩
  obtain ⟨N, hN⟩ : ∃ N, putK t.l k (c, v) = N := ⟨_, rfl⟩
  rw [hO] at CT CP HQ hold
  rw [hF] at CO HQ he
  rw [hN] at CP HQ
  rw [hO, hF, hN]
  clear hO hF hN
  obtain ⟨s, g, v0, l0, W, mv, ms⟩ := t
  dsimp only at CT CP CO HQ HG HW hl hw ⊢
  obtain ⟨t0, t1, t2, t3, t4, t5, t6, t7, t8⟩ := c
  dsimp only [thV] at CP CO ⊢
  have hw1 := hw.1
  have hw2 := hw.2
  have ho1 := hold.1
  have ho2 := hold.2
  clear hw hold
  obtain ⟨G, hG⟩ : ∃ G, w.heap.size = G := ⟨_, rfl⟩
  obtain ⟨w0, hw0⟩ : ∃ w0, w.alloc (.cells #[.int .i64 t0, .int .i64 t1, .string t2, .slice t3 t4 t5, .slice t6 t7 t8] 32) = w0 := ⟨_, rfl⟩
  have N0 : w0.heap[G]? = some (.cells #[.int .i64 t0, .int .i64 t1, .string t2, .slice t3 t4 t5, .slice t6 t7 t8] 32 (0, 0)) := by rw [← hw0, ← hG]; exact heap_alloc_new w _
  have B0 : Below w.heap.size w w0 := by rw [← hw0]; exact (Below.refl _ _).alloc (Nat.le_refl _) _
  have HN := hide N0
  have CT2 := hide (unhide CT w0 B0)
  have HB0 := hide B0
  clear N0 CT B0
  go_enter Tryz.func48, Tryz.ntmps48
  go_upto_region 2 with ((go_at_call 63; refine (unhide CT2).mono ?_; rintro e u1 ⟨⟨r1, rfl⟩, v1, s1, a1, z1, f1⟩))
  have hb1 : u1.heap[G]? = some (.cells #[.int .i64 t0, .int .i64 t1, .string t2, .slice t3 t4 t5, .slice t6 t7 t8] 32 (0, 0)) := (f1.block G (Array.getElem?_eq_some_iff.1 (unhide HN)).1 (fun e => by have := unhide HG G e; omega)).trans (unhide HN)
  have CP2 := hide (unhide CP u1 u1 v1 s1 a1)
  have H1 := hide (And.intro s1 (And.intro a1 (And.intro hb1 z1)))
  have HS0 : Hid (u1.drew.cell? ⟨s, 0, none⟩ = some (.pointer (some ⟨g, 0, none⟩)) ∧ u1.drew.cell? ⟨G, 0, none⟩ = some (.int .i64 t0) ∧ u1.drew.cell? ⟨G, 1, none⟩ = some (.int .i64 t1) ∧ u1.drew.cell? ⟨G, 2, none⟩ = some (.string t2) ∧ u1.drew.cell? ⟨G, 3, none⟩ = some (.slice t3 t4 t5) ∧ u1.drew.cell? ⟨G, 4, none⟩ = some (.slice t6 t7 t8)) := hide ⟨s1.c0, by rw [cell_of_row _ G 0 _ _ (0, 0) (show u1.drew.heap[G]? = _ from hb1)]; rfl, by rw [cell_of_row _ G 1 _ _ (0, 0) (show u1.drew.heap[G]? = _ from hb1)]; rfl, by rw [cell_of_row _ G 2 _ _ (0, 0) (show u1.drew.heap[G]? = _ from hb1)]; rfl, by rw [cell_of_row _ G 3 _ _ (0, 0) (show u1.drew.heap[G]? = _ from hb1)]; rfl, by rw [cell_of_row _ G 4 _ _ (0, 0) (show u1.drew.heap[G]? = _ from hb1)]; rfl⟩
  have HBB : Hid (∀ w2 : World, Fr (fun j => j = g ∨ v1.ownBlock = some j) u1 w2 → w2.heap[G]? = some (.cells #[.int .i64 t0, .int .i64 t1, .string t2, .slice t3 t4 t5, .slice t6 t7 t8] 32 (0, 0))) := hide (fun w2 f2 => (f2.block G (Array.getElem?_eq_some_iff.1 hb1).1 (fun e => bad2 (t := ⟨s, g, v0, l0, W, mv, ms⟩) (t1 := ⟨s, g, v1, delK l0 k, W - O, mv, ms⟩) (w := w) (w0 := w0) (unhide HG) (unhide HW) z1 hG (Array.getElem?_eq_some_iff.1 (unhide HN)).1 e)).trans hb1)
  clear s1 a1 hb1 f1 CT2 CP
  obtain ⟨b0, b1, b2, b3, b4, b5⟩ := unhide HS0
  go_region_held3 (fun w' => w'.cell? ⟨s, 0, none⟩ = some (.pointer (some ⟨g, 0, none⟩)) ∧ w'.cell? ⟨G, 0, none⟩ = some (.int .i64 t0) ∧ w'.cell? ⟨G, 1, none⟩ = some (.int .i64 t1) ∧ w'.cell? ⟨G, 2, none⟩ = some (.string t2) ∧ w'.cell? ⟨G, 3, none⟩ = some (.slice t3 t4 t5) ∧ w'.cell? ⟨G, 4, none⟩ = some (.slice t6 t7 t8)) (first | go_keep | exact (unhide HSZ)) (first | (go_at_call 82; refine (unhide CP2).mono ?_; rintro e u2 ⟨⟨r2, rfl⟩, v2, s2, a2, f2⟩; have hb2 := unhide HBB _ f2; have HSZ : Hid (u2.cell? ⟨s, 0, none⟩ = some (.pointer (some ⟨g, 0, none⟩)) ∧ u2.cell? ⟨G, 0, none⟩ = some (.int .i64 t0) ∧ u2.cell? ⟨G, 1, none⟩ = some (.int .i64 t1) ∧ u2.cell? ⟨G, 2, none⟩ = some (.string t2) ∧ u2.cell? ⟨G, 3, none⟩ = some (.slice t3 t4 t5) ∧ u2.cell? ⟨G, 4, none⟩ = some (.slice t6 t7 t8)) := hide ⟨s2.c0, by rw [cell_of_row _ G 0 _ _ (0, 0) hb2]; rfl, by rw [cell_of_row _ G 1 _ _ (0, 0) hb2]; rfl, by rw [cell_of_row _ G 2 _ _ (0, 0) hb2]; rfl, by rw [cell_of_row _ G 3 _ _ (0, 0) hb2]; rfl, by rw [cell_of_row _ G 4 _ _ (0, 0) hb2]; rfl⟩))
  have CO2 := hide (unhide CO u2 _ a2)
  have H2 := hide (And.intro s2 (And.intro a2 hb2))
  have HS2 : Hid (u2.drew.cell? ⟨s, 1, none⟩ = some (.int .i64 (W - O)) ∧ u2.drew.cell? ⟨G, 0, none⟩ = some (.int .i64 t0) ∧ u2.drew.cell? ⟨G, 1, none⟩ = some (.int .i64 t1) ∧ u2.drew.cell? ⟨G, 2, none⟩ = some (.string t2) ∧ u2.drew.cell? ⟨G, 3, none⟩ = some (.slice t3 t4 t5) ∧ u2.drew.cell? ⟨G, 4, none⟩ = some (.slice t6 t7 t8)) := hide ⟨s2.c1, by rw [cell_of_row _ G 0 _ _ (0, 0) (show u2.drew.heap[G]? = _ from hb2)]; rfl, by rw [cell_of_row _ G 1 _ _ (0, 0) (show u2.drew.heap[G]? = _ from hb2)]; rfl, by rw [cell_of_row _ G 2 _ _ (0, 0) (show u2.drew.heap[G]? = _ from hb2)]; rfl, by rw [cell_of_row _ G 3 _ _ (0, 0) (show u2.drew.heap[G]? = _ from hb2)]; rfl, by rw [cell_of_row _ G 4 _ _ (0, 0) (show u2.drew.heap[G]? = _ from hb2)]; rfl⟩
  clear s2 a2 hb2 f2 CP2 CO HSZ b0 b1 b2 b3 b4 b5
  go_upto_region 3 with fail
  refine till_begin (S := fun w' => w'.cell? ⟨s, 1, none⟩ = some (.int .i64 (W - O)) ∧ w'.cell? ⟨G, 0, none⟩ = some (.int .i64 t0) ∧ w'.cell? ⟨G, 1, none⟩ = some (.int .i64 t1) ∧ w'.cell? ⟨G, 2, none⟩ = some (.string t2) ∧ w'.cell? ⟨G, 3, none⟩ = some (.slice t3 t4 t5) ∧ w'.cell? ⟨G, 4, none⟩ = some (.slice t6 t7 t8)) 10 (by kernel_rfl) ?_
  refine till_take 0 (v := .pointer (some ⟨s, 0, none⟩)) (some 16) rfl rfl rfl (by kernel_rfl) (by kernel_rfl) (by kernel_rfl) (by kernel_rfl) (fun _ _ _ h => h) (Or.inl ⟨by rfl, fun u hu => by obtain ⟨b0, b1, b2, b3, b4, b5⟩ := hu; go_simp⟩) (unhide HS2) ?_
  try simp only [Act.put, List.setIfInBounds_toArray, List.set_cons_zero, List.set_cons_succ]
  refine till_take 1 (v := .pointer (some ⟨s, 0, none⟩)) (some 17) rfl rfl rfl (by kernel_rfl) (by kernel_rfl) (by kernel_rfl) (by kernel_rfl) (fun _ _ _ h => h) (Or.inl ⟨by rfl, fun u hu => by obtain ⟨b0, b1, b2, b3, b4, b5⟩ := hu; go_simp⟩) (unhide HS2) ?_
  try simp only [Act.put, List.setIfInBounds_toArray, List.set_cons_zero, List.set_cons_succ]
  refine till_take 2 (v := .pointer (some ⟨s, 1, none⟩)) (some 18) rfl rfl rfl (by kernel_rfl) (by kernel_rfl) (by kernel_rfl) (by kernel_rfl) (fun _ _ _ h => h) (Or.inl ⟨by rfl, fun u hu => by obtain ⟨b0, b1, b2, b3, b4, b5⟩ := hu; go_simp⟩) (unhide HS2) ?_
  try simp only [Act.put, List.setIfInBounds_toArray, List.set_cons_zero, List.set_cons_succ]
  refine till_take 3 (v := .int .i64 (W - O)) (some 19) rfl rfl rfl (by kernel_rfl) (by kernel_rfl) (by kernel_rfl) (by kernel_rfl) (fun _ _ _ h => h) (Or.inl ⟨by rfl, fun u hu => by obtain ⟨b0, b1, b2, b3, b4, b5⟩ := hu; go_simp⟩) (unhide HS2) ?_
  try simp only [Act.put, List.setIfInBounds_toArray, List.set_cons_zero, List.set_cons_succ]
  refine till_take 4 (v := .string k) (some 20) rfl rfl rfl (by kernel_rfl) (by kernel_rfl) (by kernel_rfl) (by kernel_rfl) (fun _ _ _ h => h) (Or.inl ⟨by rfl, fun u hu => by obtain ⟨b0, b1, b2, b3, b4, b5⟩ := hu; go_simp⟩) (unhide HS2) ?_
  try simp only [Act.put, List.setIfInBounds_toArray, List.set_cons_zero, List.set_cons_succ]
  refine till_take 5 (v := .agg #[.int .i64 t0, .int .i64 t1, .string t2, .slice t3 t4 t5, .slice t6 t7 t8]) (some 21) rfl rfl rfl (by kernel_rfl) (by kernel_rfl) (by kernel_rfl) (by kernel_rfl) (fun _ _ _ h => h) (Or.inl ⟨by rfl, fun u hu => by obtain ⟨b0, b1, b2, b3, b4, b5⟩ := hu; go_simp⟩) (unhide HS2) ?_
  try simp only [Act.put, List.setIfInBounds_toArray, List.set_cons_zero, List.set_cons_succ]
  refine till_one 6 (by kernel_rfl) rfl (fun K hK => ?_)
  go_simp
  refine (unhide CO2).mono ?_
  rintro e u3 ⟨rfl, b3⟩
  have HS3 : Hid (u3.cell? ⟨s, 1, none⟩ = some (.int .i64 (W - O)) ∧ u3.cell? ⟨G, 0, none⟩ = some (.int .i64 t0) ∧ u3.cell? ⟨G, 1, none⟩ = some (.int .i64 t1) ∧ u3.cell? ⟨G, 2, none⟩ = some (.string t2) ∧ u3.cell? ⟨G, 3, none⟩ = some (.slice t3 t4 t5) ∧ u3.cell? ⟨G, 4, none⟩ = some (.slice t6 t7 t8)) := hide ⟨cell_later b3 (unhide HS2).1, cell_later b3 (unhide HS2).2.1, cell_later b3 (unhide HS2).2.2.1, cell_later b3 (unhide HS2).2.2.2.1, cell_later b3 (unhide HS2).2.2.2.2.1, cell_later b3 (unhide HS2).2.2.2.2.2⟩
  have H3 := hide b3
  have c3 := (unhide HS3).1
  have f3 := frozen_of_row u3 s 1 _ _ ((unhide H2).1.later b3).box
  clear b3 CO2
  go_wp2_with fail
  refine hK.out _ _ (Or.inr (unhide HS3)) ?_
  clear hK K
  try simp only [Act.put, List.setIfInBounds_toArray, List.set_cons_zero, List.set_cons_succ]
  refine till_take 7 (v := .int .i64 (W - O + (F : Int))) (some 23) rfl rfl rfl (by kernel_rfl) (by kernel_rfl) (by kernel_rfl) (by kernel_rfl) (fun _ _ _ h => h) (Or.inl ⟨by rfl, fun u hu => by obtain ⟨b0, b1, b2, b3, b4, b5⟩ := hu; go_simp; rw [IntKind.wrap_i64]; omega⟩) (unhide HS3) ?_
  try simp only [Act.put, List.setIfInBounds_toArray, List.set_cons_zero, List.set_cons_succ]
  refine till_one 8 (by kernel_rfl) rfl (fun K hK => ?_)
  obtain ⟨b0, b1, b2, b3, b4, b5⟩ := unhide HS3
  go_simp
  refine hK.out _ _ (Or.inr (unhide HS3)) ?_
  clear hK K b0 b1 b2 b3 b4 b5
  try simp only [Act.put, List.setIfInBounds_toArray, List.set_cons_zero, List.set_cons_succ]
  refine till_one 9 (by kernel_rfl) rfl (fun K hK => ?_)
  obtain ⟨b0, b1, b2, b3, b4, b5⟩ := unhide HS3
  go_simp
  refine hK.out _ _ (Or.inr (unhide HS3)) ?_
  clear hK K b0 b1 b2 b3 b4 b5
  try simp only [Act.put, List.setIfInBounds_toArray, List.set_cons_zero, List.set_cons_succ]
  refine till_one 10 (by kernel_rfl) rfl (fun K hK => ?_)
  go_simp
  refine hK.out _ _ (Or.inl rfl) ?_
  clear hK K
  try simp only [Act.put, List.setIfInBounds_toArray, List.set_cons_zero, List.set_cons_succ]
  refine till_done (by kernel_rfl) ?_ _
  go_wp2_with fail
  go_end0
  obtain ⟨s2, a2, hb2⟩ := unhide H2
  exact ⟨⟨_, rfl⟩, v2, unhide HQ u2 u3 v2 s2 a2 (unhide H3)⟩

end Go.Proofs.YtdaooapfokhfcaaGreat
