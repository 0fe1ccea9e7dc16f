/-
  The document's store and its snapshots; Put, Delete; conditions: the form's own reach.
  The document's store: Checkpoint, Commit; conditions: the form's own reach.
  The document's store: Commit; what Rollback leads back to; conditions: the form's own reach.
-/
import Derived.Test.YtdaooapfokhfcaaGreatA43
namespace Go.Proofs.YtdaooapfokhfcaaGreat
open Go.RowKit
set_option linter.unusedVariables false
set_option linter.unusedSimpArgs false

def FinX (X : Xs) : Prop := Rk X ∧ X.length ≤ 128 ∧ tot X ≤ 32768 ∧ (∀ p ∈ X, keyB p.1 = true) ∧ (∀ p ∈ X, rightB p.2 = true)
/-- all that is told, undone: the last first -/
def bks (U : Us) (X : Xs) : Xs := U.foldr (fun p X => backL X p) X

theorem bks_app (A B : Us) (X : Xs) : bks (A ++ B) X = bks A (bks B X) := by simp [bks, List.foldr_append]
theorem bks_nil (X : Xs) : bks [] X = X := rfl
theorem back_put {X : Xs} (h : Rk X) (k : ByteArray) (v : Vl) : backL (putK X k v) (k, lookK X k) = X := by
  refine rk_ext _ _ (backL_rk (put_rk k v h)) h (fun k' => ?_)
  rw [backL_look (put_rk k v h), look_put _ _ _ _ h]
  dsimp only
  by_cases e : k = k'
  · rw [if_pos e, e]
  · rw [if_neg e, if_neg e]
theorem back_del {X : Xs} (h : Rk X) (k : ByteArray) : backL (delK X k) (k, lookK X k) = X := by
  refine rk_ext _ _ (backL_rk (del_rk k h)) h (fun k' => ?_)
  rw [backL_look (del_rk k h), look_del _ _ _ h]
  dsimp only
  by_cases e : k = k'
  · rw [if_pos e, e]
  · rw [if_neg e, if_neg e]
theorem FinX.put {X : Xs} (h : FinX X) {k : ByteArray} {v : Vl} (h1 : keyB k = true) (h2 : rightB v = true) (h3 : fitX X k v = true) : FinX (putK X k v) := by
  unfold fitX at h3
  simp only [Bool.and_eq_true, decide_eq_true_eq] at h3
  refine ⟨put_rk k v h.1, h3.1, h3.2, fun p hp => ?_, fun p hp => ?_⟩
  · rcases put_mem hp with rfl | hp
    · exact h1
    · exact h.2.2.2.1 p hp
  · rcases put_mem hp with rfl | hp
    · exact h2
    · exact h.2.2.2.2 p hp
theorem FinX.del {X : Xs} (h : FinX X) (k : ByteArray) : FinX (delK X k) :=
  ⟨del_rk k h.1, Nat.le_trans (del_len X k) h.2.1, by have := tot_del X k; have := h.2.2.1; omega, fun p hp => h.2.2.2.1 p (del_mem hp), fun p hp => h.2.2.2.2 p (del_mem hp)⟩

structure Rtt (w : World) (V : Nat → Prop) (t : Rx) (X : Xs) (Bs : List Xs) (N : Nat) : Prop where
  rto : Rto w V t
  ent : t.X = X
  ul : t.us.length ≤ N
  ml : t.ms.length ≤ N
  fin : ∀ j, j ≤ t.us.length → FinX (bks (t.U.drop j) X)
  nil : t.ms = [] → t.us = []
  zer : ∀ m, t.ms[0]? = some m → m = 0
  le : ∀ m ∈ t.ms, m ≤ t.us.length
  ord : t.ms.Pairwise (fun a b => a ≤ b)
  bs : Bs = t.ms.reverse.map (fun m => bks (t.U.drop m) X)

section
variable {w w' : World} {V V' : Nat → Prop} {t t' : Rx} {X X' : Xs} {Bs : List Xs} {N : Nat}

theorem Rx.ulen (t : Rx) : t.U.length = t.us.length := mapK_len _ _
theorem Rtt.fin0 (h : Rtt w V t X Bs N) : FinX X := by
  have := h.fin t.us.length (Nat.le_refl _)
  rwa [List.drop_eq_nil_of_le (by rw [t.ulen]; exact Nat.le_refl _), bks_nil] at this
theorem rk_of_map {α β : Type} {f : α → β} {l : List (ByteArray × α)} (h : Rk (mapK f l)) : Rk l := by
  unfold Rk mapK at h
  rw [List.pairwise_map] at h
  exact h
theorem Rtt.rk (h : Rtt w V t X Bs N) : Rk t.lx := rk_of_map (f := Prod.snd) (show Rk t.X by rw [h.ent]; exact h.fin0.1)
theorem Rtt.xlen (h : Rtt w V t X Bs N) : t.lx.length = X.length := by rw [← h.ent]; exact (mapK_len _ _).symm
theorem Rtt.len (h : Rtt w V t X Bs N) : t.lx.length ≤ 128 := by rw [h.xlen]; exact h.fin0.2.1
theorem Rtt.keys (h : Rtt w V t X Bs N) : ∀ p ∈ t.lx, keyB p.1 = true := fun p hp => h.fin0.2.2.2.1 (p.1, p.2.2) (by rw [← h.ent]; exact List.mem_map.2 ⟨p, hp, rfl⟩)
theorem Rtt.keys32 (h : Rtt w V t X Bs N) : ∀ p ∈ t.lx, p.1.size ≤ 32 := fun p hp => by
  have h2 : (decide (1 ≤ p.1.size) && decide (p.1.size ≤ 32)) = true := h.keys p hp
  simp at h2
  exact h2.2
theorem Rtt.rights (h : Rtt w V t X Bs N) : ∀ p ∈ t.lx, rightB p.2.2 = true := fun p hp => h.fin0.2.2.2.2 (p.1, p.2.2) (by rw [← h.ent]; exact List.mem_map.2 ⟨p, hp, rfl⟩)
theorem Rtt.to (h : Rtt w V t X Bs N) (h' : Rto w' V' t) : Rtt w' V' t X Bs N := ⟨h', h.ent, h.ul, h.ml, h.fin, h.nil, h.zer, h.le, h.ord, h.bs⟩
theorem Rtt.later (h : Rtt w V t X Bs N) (hb : Below w.heap.size w w') : Rtt w' V t X Bs N := h.to (h.rto.later hb)
theorem Rtt.more (h : Rtt w V t X Bs N) {M : Nat} (hm : N ≤ M) : Rtt w V t X Bs M := ⟨h.rto, h.ent, Nat.le_trans h.ul hm, Nat.le_trans h.ml hm, h.fin, h.nil, h.zer, h.le, h.ord, h.bs⟩

/-- a change, told -/
theorem Rtt.step (h : Rtt w V t X Bs N) (h' : Rto w' V' t') (hX : t'.X = X') (hms : t'.ms = t.ms) {k : ByteArray} (hU : t'.U = rnU t k) (hf : FinX X') (hb : backL X' (k, lookK X k) = X) : Rtt w' V' t' X' Bs (N + 1) := by
  have hul := t'.ulen
  unfold rnU at hU
  by_cases hm : t.ms = []
  · rw [if_pos hm] at hU
    have hu := h.nil hm
    have hU0 : t'.U = [] := by rw [hU]; unfold Rx.U; rw [hu]; rfl
    rw [hU0] at hul
    have hu' : t'.us = [] := List.eq_nil_of_length_eq_zero hul.symm
    have hm' : t'.ms = [] := hms.trans hm
    refine ⟨h', hX, by rw [hu']; exact Nat.zero_le _, by rw [hm']; exact Nat.zero_le _, fun j hj => ?_, fun _ => hu', ?_, ?_, ?_, ?_⟩
    · rw [hU0, List.drop_nil]
      exact hf
    · intro m e
      rw [hm'] at e
      cases e
    · intro m e
      rw [hm'] at e
      cases e
    · rw [hm']
      exact List.Pairwise.nil
    · rw [h.bs, hm, hm']
      rfl
  · rw [if_neg hm] at hU
    have hl : t'.us.length = t.us.length + 1 := by
      rw [← hul, hU, List.length_append, t.ulen]
      rfl
    rw [h.ent] at hU
    have key : ∀ j, j ≤ t.us.length → bks (t'.U.drop j) X' = bks (t.U.drop j) X := fun j hj => by
      rw [hU, List.drop_append_of_le_length (by rw [t.ulen]; exact hj), bks_app]
      show bks _ (backL X' (k, lookK X k)) = _
      rw [hb]
    have hul' := h.ul
    have hml' := h.ml
    refine ⟨h', hX, by omega, by rw [hms]; omega, fun j hj => ?_, fun e => absurd (hms.symm.trans e) hm, by rw [hms]; exact h.zer, by rw [hms]; exact fun m e => by have := h.le m e; omega, by rw [hms]; exact h.ord, ?_⟩
    · by_cases e : j ≤ t.us.length
      · rw [key j e]
        exact h.fin j e
      · rw [List.drop_eq_nil_of_le (by rw [hul]; omega)]
        exact hf
    · rw [h.bs, hms]
      apply List.map_congr_left
      intro m e
      rw [key m (h.le m (List.mem_reverse.1 e))]

theorem rput_store (h : Rtt w V t X Bs N) (hN : N ≤ 1353245080318) (k : ByteArray) (v : Vl) (x : Value) (hv : IsV w w.heap.size v x) :
    Calls Tryz.prog 29 #[.pointer (some ⟨t.r, 0, none⟩), .string k, x] w fun e w' => e = .returned (.int .i64 (putE X k v)) ∧ ∃ V' t', Rtt w' V' t' (putX X k v) Bs (N + 1) ∧ RAdv w w' V V' t t' := by
  obtain ⟨c, rfl⟩ := isP_th hv
  have stay : ∀ w', Below w.heap.size w w' → (putX X k v = X) → ∃ V' t', Rtt w' V' t' (putX X k v) Bs (N + 1) ∧ RAdv w w' V V' t t' := fun w' hb e => ⟨V, t, by rw [e]; exact (h.later hb).more (Nat.le_succ _), RAdv.of' hb t V⟩
  cases hk : keyB k with
  | false =>
    refine (rput_bad k c _ hk).mono ?_
    rintro e w' ⟨rfl, b⟩
    exact ⟨by simp [putE, hk], stay w' b (by simp [putX, hk])⟩
  | true =>
    cases hr : rightB v with
    | false =>
      refine (rput_wrong k v c _ hv hk hr).mono ?_
      rintro e w' ⟨rfl, b⟩
      exact ⟨by simp [putE, hk, hr], stay w' b (by simp [putX, hr])⟩
    | true =>
      refine (rput_go h.rto (by have := h.len; omega) h.rk h.keys (by have := h.ul; omega) k v c hv hk hr).mono ?_
      rintro e w' ⟨rfl, V', t', h1, h2, h3, h4, h5, h6⟩
      rw [h.ent] at h5 h6 ⊢
      refine ⟨rfl, V', t', ?_, h2⟩
      cases hf : fitX X k v with
      | true =>
        have e1 : putE X k v = 0 := by simp [putE, hk, hr, hf]
        have e2 : putX X k v = putK X k v := by simp [putX, hk, hr, hf]
        rw [if_pos e1] at h6
        rw [e2] at h5 ⊢
        exact h.step h1 h5 h3 h6 (h.fin0.put hk hr hf) (back_put h.fin0.1 k v)
      | false =>
        have e1 : putE X k v = 62 := by simp [putE, hk, hr, hf]
        have e2 : putX X k v = X := by simp [putX, hf]
        rw [if_neg (by rw [e1]; decide)] at h6
        rw [e2] at h5 ⊢
        have hl : t'.us.length = t.us.length := by rw [← t'.ulen, ← t.ulen, h6]
        have hul := h.ul
        have hml := h.ml
        refine ⟨h1, h5, by omega, by rw [h3]; omega, by rw [h6, hl]; exact h.fin, fun e => List.eq_nil_of_length_eq_zero (by rw [hl, h.nil (h3.symm.trans e)]; rfl), by rw [h3]; exact h.zer, by rw [h3, hl]; exact h.le, by rw [h3]; exact h.ord, by rw [h3, h6]; exact h.bs⟩

set_option maxRecDepth 100000 in
theorem rdel_none (h : Rtt w V t X Bs N) (k : ByteArray) (hO : lookK X k = none) : Calls Tryz.prog 32 #[.pointer (some ⟨t.r, 0, none⟩), .string k] w fun e w' => e = .returned (.bool false) ∧ Below w.heap.size w w' := by
  have hlx : lookK t.lx k = none := by
    have : lookK t.X k = none := by rw [h.ent]; exact hO
    unfold Rx.X at this
    rw [mapK_look] at this
    simpa using this
  have CP := place_any h.rto k
  rw [decide_eq_false ((look_none_at t.lx k h.rk).1 hlx)] at CP
  obtain ⟨L, hL⟩ : ∃ L, lowK t.lx k = L := ⟨_, rfl⟩
  rw [hL] at CP
  have CPH := hide CP
  obtain ⟨r, hr⟩ : ∃ r, t.r = r := ⟨_, rfl⟩
  rw [hr] at CPH ⊢
  clear CP h hlx hL hr
  go_enter Tryz.func32, Tryz.ntmps32
  go_wp2_with fail
  refine (unhide CPH).mono ?_
  rintro e u1 ⟨rfl, q, rfl⟩
  go_wp2_with fail
  go_ret
  exact ⟨rfl, ⟨rfl, rfl, rfl, Nat.le_refl _, fun _ _ => rfl⟩⟩

set_option maxRecDepth 100000 in
theorem rdel_some (h : Rtt w V t X Bs N) (hN : N ≤ 1353245080318) (k : ByteArray) (y : Vl) (hO : lookK X k = some y) : Calls Tryz.prog 32 #[.pointer (some ⟨t.r, 0, none⟩), .string k] w fun e w' => e = .returned (.bool true) ∧ ∃ V' t', Rtt w' V' t' (delK X k) Bs (N + 1) ∧ RAdv w w' V V' t t' := by
  have hlx : ∃ x, lookK t.lx k = some x := by
    have : lookK t.X k = some y := by rw [h.ent]; exact hO
    unfold Rx.X at this
    rw [mapK_look] at this
    obtain ⟨x, hx, _⟩ := Option.map_eq_some_iff.1 this
    exact ⟨x, hx⟩
  obtain ⟨x, hx⟩ := hlx
  have hat := (look_at t.lx k h.rk x).1 hx
  have hst : (t.lx.map Prod.fst)[lowK t.lx k]? = some k := by rw [List.getElem?_map, hat]; rfl
  have CP := place_any h.rto k
  rw [decide_eq_true hst] at CP
  obtain ⟨L, hL⟩ : ∃ L, lowK t.lx k = L := ⟨_, rfl⟩
  rw [hL] at CP
  have CPH := hide CP
  have CNH : Hid (∀ u, Below w.heap.size w u → Calls Tryz.prog 70 #[.pointer (some ⟨t.r, 0, none⟩), .string k] u fun e w' => (∃ r, e = .returned r) ∧ ∃ t1, Rto w' V t1 ∧ RAdv u w' V V t t1 ∧ (t1.r = t.r ∧ t1.lv = t.lv ∧ t1.lx = t.lx ∧ t1.mv = t.mv ∧ t1.ms = t.ms) ∧ t1.U = rnU t k ∧ t1.us.length ≤ t.us.length + 1) := hide (fun u hb => rnote_any (h.rto.later hb) h.rk (by have := h.ul; omega) k)
  have COH : Hid (∀ (u u1 : World) (t1 : Rx), Below w.heap.size w u → Rto u1 V t1 → RAdv u u1 V V t t1 → t1.r = t.r → t1.lx = t.lx → t1.ms = t.ms → t1.U = rnU t k → Calls Tryz.prog 72 #[.pointer (some ⟨t.r, 0, none⟩), .string k] u1 fun e w' => (∃ r, e = .returned r) ∧ ∃ V' t', Rtt w' V' t' (delK X k) Bs (N + 1) ∧ RAdv w w' V V' t t') := hide (fun u u1 t1 hb h1 adv e1 e2 e3 e4 => by
    have CO := off_any h1 (by rw [e2]; have := h.len; omega) (by rw [e2]; exact h.rk) k
    rw [e1] at CO
    refine CO.mono ?_
    rintro e w' ⟨he, lv', h2, adv2⟩
    refine ⟨he, V, _, h.step h2 ?_ e3 (k := k) e4 (h.fin0.del k) (back_del h.fin0.1 k), ((RAdv.of' hb t V).trans adv).trans adv2⟩
    show mapK Prod.snd (delK t1.lx k) = _
    rw [e2, mapK_del]
    show delK t.X k = _
    rw [h.ent])
  obtain ⟨r, hr⟩ : ∃ r, t.r = r := ⟨_, rfl⟩
  rw [hr] at CPH CNH COH ⊢
  clear CP h hx hL hat hst
  go_enter Tryz.func32, Tryz.ntmps32
  go_wp2_with fail
  refine (unhide CPH).mono ?_
  rintro e u1 ⟨rfl, q, hq⟩
  have B1 : Below w.heap.size w u1 := by rw [hq]; exact ⟨rfl, rfl, rfl, Nat.le_refl _, fun _ _ => rfl⟩
  have H1 := hide B1
  clear hq B1
  go_wp2_with fail
  refine (unhide CNH u1 (unhide H1)).mono ?_
  rintro e u2 ⟨⟨rv, rfl⟩, t1, h1, adv, heq, hU, hul⟩
  have H2 := hide (unhide COH u1 u2 t1 (unhide H1) h1 adv heq.1 heq.2.2.1 heq.2.2.2.2 hU)
  clear h1 adv heq hU hul CNH COH CPH H1
  go_wp2_with fail
  refine (unhide H2).mono ?_
  rintro e u3 ⟨⟨rv2, rfl⟩, hres⟩
  have H3 := hide hres
  clear hres H2
  go_wp2_with fail
  go_ret
  exact ⟨rfl, unhide H3⟩

theorem rdel_store (h : Rtt w V t X Bs N) (hN : N ≤ 1353245080318) (k : ByteArray) :
    Calls Tryz.prog 32 #[.pointer (some ⟨t.r, 0, none⟩), .string k] w fun e w' => e = .returned (.bool (lookK X k).isSome) ∧ ∃ V' t', Rtt w' V' t' (delK X k) Bs (N + 1) ∧ RAdv w w' V V' t t' := by
  cases hk : lookK X k with
  | none =>
    refine (rdel_none h k hk).mono ?_
    rintro e w' ⟨rfl, b⟩
    refine ⟨rfl, V, t, ?_, RAdv.of' b t V⟩
    rw [del_none X k hk]
    exact (h.later b).more (Nat.le_succ _)
  | some y =>
    refine (rdel_some h hN k y hk).mono ?_
    rintro e w' ⟨rfl, p⟩
    exact ⟨rfl, p⟩
end
end Go.Proofs.YtdaooapfokhfcaaGreat

namespace Go.Proofs.YtdaooapfokhfcaaGreat
open Go.RowKit
set_option linter.unusedVariables false
set_option linter.unusedSimpArgs false

theorem infoIr : (Tryz.prog.info? 3).map (fun i => (i.zero, i.size, i.bytes)) = some (some (.int .i64 0), 1, 8) := by kernel_rfl
def icells (l : List Nat) : List Value := l.map fun (m : Nat) => .int .i64 (m : Int)

section
variable {w w' : World} {V V' : Nat → Prop} {t t' : Rx} {X X' B : Xs} {Bs : List Xs} {N : Nat}

/-- one more -/
theorem Rto.marked (h : Rto w V t) {w5 w7 : World} {b cap n M : Nat} (hn : t.ms.length = M) (hb5 : Below w.heap.size w w5) (ho : w7.ownsRow 0 3 1 (.slice (some ⟨b, 0, none⟩) (M + 1) cap) (M + 1) (icells t.ms ++ [.int .i64 (n : Int)])) (hg : w5.grownBy w7 t.mv.ownBlock) (hat : t.mv.ownBlock = some b ∨ w.heap.size ≤ b) :
    Rto (w7.setCell ⟨t.r, 2, none⟩ (.slice (some ⟨b, 0, none⟩) (M + 1) cap)) V { t with mv := .slice (some ⟨b, 0, none⟩) (M + 1) cap, ms := t.ms ++ [n] } ∧ RAdv w (w7.setCell ⟨t.r, 2, none⟩ (.slice (some ⟨b, 0, none⟩) (M + 1) cap)) V V t { t with mv := .slice (some ⟨b, 0, none⟩) (M + 1) cap, ms := t.ms ++ [n] } := by
  have hf : Fr (fun j => t.mv.ownBlock = some j) w w7 := (Fr.of hb5).trans (G' := fun j => t.mv.ownBlock = some j) ⟨hg.os, hg.tape, hg.output, hg.size, fun j hj hn => hg.block j hj (fun e => hn e.symm)⟩ (fun _ _ e => e)
  have hlen : (t.ms ++ [n]).length = M + 1 := by simp [hn]
  refine h.turnM hf (by rw [hlen, List.map_append]; exact ho) (fun j hj => by
    cases hj
    exact hat)

theorem Rtt.mark (h : Rtt w V t X Bs N) (h' : Rto w' V' t') (e1 : t'.lx = t.lx) (e2 : t'.us = t.us) (e3 : t'.ms = t.ms ++ [t.us.length]) : Rtt w' V' t' X (X :: Bs) (N + 1) := by
  have eX : t'.X = t.X := by unfold Rx.X; rw [e1]
  have eU : t'.U = t.U := by unfold Rx.U; rw [e2]
  have hul := h.ul
  have hml := h.ml
  refine ⟨h', eX.trans h.ent, by rw [e2]; omega, by rw [e3, List.length_append]; simp; omega, by rw [e2, eU]; exact h.fin, fun e => ?_, fun m hm => ?_, fun m hm => ?_, ?_, ?_⟩
  · rw [e3] at e
    simp at e
  · rw [e3] at hm
    by_cases hz : t.ms = []
    · rw [hz, h.nil hz] at hm
      simpa using hm.symm
    · rw [List.getElem?_append_left (List.length_pos_iff.2 hz)] at hm
      exact h.zer m hm
  · rw [e3] at hm
    rw [e2]
    rcases List.mem_append.1 hm with hm | hm
    · exact h.le m hm
    · rw [List.mem_singleton] at hm
      omega
  · rw [e3, List.pairwise_append]
    exact ⟨h.ord, List.pairwise_singleton _ _, fun a ha b hb => by rw [List.mem_singleton] at hb; rw [hb]; exact h.le a ha⟩
  · rw [e3, List.reverse_append, eU, h.bs]
    show _ = bks (t.U.drop t.us.length) X :: _
    rw [List.drop_eq_nil_of_le (by rw [t.ulen]; exact Nat.le_refl _)]
    rfl

set_option maxRecDepth 100000 in
set_option maxHeartbeats 1600000 in
theorem rcheck_store (h : Rtt w V t X Bs N) (hN : N ≤ 1353245080318) : Calls Tryz.prog 34 #[.pointer (some ⟨t.r, 0, none⟩)] w fun e w' => e = .returned (.int .i64 ((t.ms.length : Int) + 1)) ∧ ∃ V' t', Rtt w' V' t' X (X :: Bs) (N + 1) ∧ RAdv w w' V V' t t' := by
  obtain ⟨ua, uc, huv, -⟩ := own_slice h.rto.und
  obtain ⟨ma, mc, hmv, -⟩ := own_slice h.rto.mrk
  obtain ⟨n, hn⟩ : ∃ n, t.us.length = n := ⟨_, rfl⟩
  obtain ⟨M, hM⟩ : ∃ M, t.ms.length = M := ⟨_, rfl⟩
  have hMN := h.ml
  have hnN := h.ul
  rw [hn] at huv hnN
  rw [hM] at hmv hMN ⊢
  obtain ⟨CS, hCS⟩ : ∃ CS, icells t.ms = CS := ⟨_, rfl⟩
  have HC : Hid (∀ u, Below w.heap.size w u → u.cell? ⟨t.r, 2, none⟩ = some (.slice ma M mc) ∧ u.cell? ⟨t.r, 1, none⟩ = some (.slice ua n uc)) := hide (fun u hu => by
    have a := (h.rto.later hu).c2
    have b := (h.rto.later hu).c1
    rw [hmv] at a
    rw [huv] at b
    exact ⟨a, b⟩)
  have HOW : Hid (∀ u, Below w.heap.size w u → u.ownsRow 0 3 1 (.slice ma M mc) M CS) := hide (fun u hu => by have := (h.rto.later hu).mrk; rw [hmv, hM] at this; rw [← hCS]; exact this)
  have HFZ : Hid (∀ u, Below w.heap.size w u → u.frozen? ⟨t.r, 2, none⟩ = false) := hide (fun u hu => frozen_of_row u t.r 2 _ _ (h.rto.later hu).box)
  have HSL : Hid (t.r < w.heap.size ∧ some t.r ≠ (Value.slice ma M mc).ownBlock) := hide ⟨h.rto.rl, fun e => ty_ne ⟨_, h.rto.box⟩ (row_ty h.rto.mrk (by rw [hmv]; exact e.symm)) (by decide) rfl⟩
  obtain ⟨iv, hiv, hz0, hz1, hz2⟩ := info_parts infoIr
  have HI := hide (And.intro hiv (And.intro hz0 (And.intro hz1 hz2)))
  have HM : Hid (∀ (w5 w7 : World) (b cap : Nat), Below w.heap.size w w5 → w7.ownsRow 0 3 1 (.slice (some ⟨b, 0, none⟩) (M + 1) cap) (M + 1) (CS ++ [.int .i64 (n : Int)]) → w5.grownBy w7 (Value.slice ma M mc).ownBlock → ((Value.slice ma M mc).ownBlock = some b ∨ w.heap.size ≤ b) → (w7.setCell ⟨t.r, 2, none⟩ (.slice (some ⟨b, 0, none⟩) (M + 1) cap)).cell? ⟨t.r, 2, none⟩ = some (.slice (some ⟨b, 0, none⟩) (M + 1) cap) ∧ ∃ V' t', Rtt (w7.setCell ⟨t.r, 2, none⟩ (.slice (some ⟨b, 0, none⟩) (M + 1) cap)) V' t' X (X :: Bs) (N + 1) ∧ RAdv w (w7.setCell ⟨t.r, 2, none⟩ (.slice (some ⟨b, 0, none⟩) (M + 1) cap)) V V' t t') := hide (fun w5 w7 b cap h1 h2 h3 h4 => by
    obtain ⟨ra, rb⟩ := h.rto.marked (w5 := w5) (w7 := w7) (b := b) (cap := cap) (n := n) hM h1 (by rw [hCS]; exact h2) (by rw [hmv]; exact h3) (by rw [hmv]; exact h4)
    exact ⟨ra.c2, V, _, h.mark ra rfl rfl (by rw [hn]), rb⟩)
  obtain ⟨r, hr⟩ : ∃ r, t.r = r := ⟨_, rfl⟩
  rw [hr] at HC HFZ HSL HM ⊢
  clear h huv hmv hn hM hCS hiv hz0 hz1 hz2
  go_enter Tryz.func34, Tryz.ntmps34
  go_upto_region 1 with fail
  have HS0 : Hid (w.drew.cell? ⟨r, 2, none⟩ = some (.slice ma M mc) ∧ w.drew.cell? ⟨r, 1, none⟩ = some (.slice ua n uc)) := hide (unhide HC w.drew ((Below.refl _ w).drew))
  refine till_begin (S := fun w' => w'.cell? ⟨r, 2, none⟩ = some (.slice ma M mc) ∧ w'.cell? ⟨r, 1, none⟩ = some (.slice ua n uc)) 14 (by kernel_rfl) ?_
  refine till_take 0 (v := .pointer (some ⟨r, 0, none⟩)) (some 3) rfl rfl rfl (by kernel_rfl) (by kernel_rfl) (by kernel_rfl) (by kernel_rfl) (fun _ _ _ h => h) (Or.inl ⟨by rfl, fun u hu => by obtain ⟨b0, b1⟩ := hu; go_simp⟩) (unhide HS0) ?_
  try simp only [Act.put, List.setIfInBounds_toArray, List.set_cons_zero, List.set_cons_succ]
  refine till_take 1 (v := .pointer (some ⟨r, 0, none⟩)) (some 4) rfl rfl rfl (by kernel_rfl) (by kernel_rfl) (by kernel_rfl) (by kernel_rfl) (fun _ _ _ h => h) (Or.inl ⟨by rfl, fun u hu => by obtain ⟨b0, b1⟩ := hu; go_simp⟩) (unhide HS0) ?_
  try simp only [Act.put, List.setIfInBounds_toArray, List.set_cons_zero, List.set_cons_succ]
  refine till_take 2 (v := .pointer (some ⟨r, 0, none⟩)) (some 5) rfl rfl rfl (by kernel_rfl) (by kernel_rfl) (by kernel_rfl) (by kernel_rfl) (fun _ _ _ h => h) (Or.inl ⟨by rfl, fun u hu => by obtain ⟨b0, b1⟩ := hu; go_simp⟩) (unhide HS0) ?_
  try simp only [Act.put, List.setIfInBounds_toArray, List.set_cons_zero, List.set_cons_succ]
  refine till_take 3 (v := .pointer (some ⟨r, 2, none⟩)) (some 6) rfl rfl rfl (by kernel_rfl) (by kernel_rfl) (by kernel_rfl) (by kernel_rfl) (fun _ _ _ h => h) (Or.inl ⟨by rfl, fun u hu => by obtain ⟨b0, b1⟩ := hu; go_simp⟩) (unhide HS0) ?_
  try simp only [Act.put, List.setIfInBounds_toArray, List.set_cons_zero, List.set_cons_succ]
  refine till_take 4 (v := .slice ma M mc) (some 7) rfl rfl rfl (by kernel_rfl) (by kernel_rfl) (by kernel_rfl) (by kernel_rfl) (fun _ _ _ h => h) (Or.inl ⟨by rfl, fun u hu => by obtain ⟨b0, b1⟩ := hu; go_simp⟩) (unhide HS0) ?_
  try simp only [Act.put, List.setIfInBounds_toArray, List.set_cons_zero, List.set_cons_succ]
  refine till_take 5 (v := .pointer (some ⟨r, 0, none⟩)) (some 8) rfl rfl rfl (by kernel_rfl) (by kernel_rfl) (by kernel_rfl) (by kernel_rfl) (fun _ _ _ h => h) (Or.inl ⟨by rfl, fun u hu => by obtain ⟨b0, b1⟩ := hu; go_simp⟩) (unhide HS0) ?_
  try simp only [Act.put, List.setIfInBounds_toArray, List.set_cons_zero, List.set_cons_succ]
  refine till_take 6 (v := .pointer (some ⟨r, 0, none⟩)) (some 9) rfl rfl rfl (by kernel_rfl) (by kernel_rfl) (by kernel_rfl) (by kernel_rfl) (fun _ _ _ h => h) (Or.inl ⟨by rfl, fun u hu => by obtain ⟨b0, b1⟩ := hu; go_simp⟩) (unhide HS0) ?_
  try simp only [Act.put, List.setIfInBounds_toArray, List.set_cons_zero, List.set_cons_succ]
  refine till_take 7 (v := .pointer (some ⟨r, 1, none⟩)) (some 10) rfl rfl rfl (by kernel_rfl) (by kernel_rfl) (by kernel_rfl) (by kernel_rfl) (fun _ _ _ h => h) (Or.inl ⟨by rfl, fun u hu => by obtain ⟨b0, b1⟩ := hu; go_simp⟩) (unhide HS0) ?_
  try simp only [Act.put, List.setIfInBounds_toArray, List.set_cons_zero, List.set_cons_succ]
  refine till_take 8 (v := .slice ua n uc) (some 11) rfl rfl rfl (by kernel_rfl) (by kernel_rfl) (by kernel_rfl) (by kernel_rfl) (fun _ _ _ h => h) (Or.inl ⟨by rfl, fun u hu => by obtain ⟨b0, b1⟩ := hu; go_simp⟩) (unhide HS0) ?_
  try simp only [Act.put, List.setIfInBounds_toArray, List.set_cons_zero, List.set_cons_succ]
  refine till_take 9 (v := .int .i64 (n : Int)) (some 12) rfl rfl rfl (by kernel_rfl) (by kernel_rfl) (by kernel_rfl) (by kernel_rfl) (fun _ _ _ h => h) (Or.inl ⟨by rfl, fun u hu => by obtain ⟨b0, b1⟩ := hu; go_simp⟩) (unhide HS0) ?_
  try simp only [Act.put, List.setIfInBounds_toArray, List.set_cons_zero, List.set_cons_succ]
  refine till_one 10 (by kernel_rfl) rfl (fun K hK => ?_)
  go_simp
  obtain ⟨w6, hw6⟩ : ∃ w6, w.drew.alloc (.cells #[.int .i64 (n : Int)] 3) = w6 := ⟨_, rfl⟩
  have b6 : Below w.heap.size w w6 := by rw [← hw6]; exact ((Below.refl _ w).drew).alloc (Nat.le_refl _) _
  have at6 : w6.heap[w.heap.size]? = some (.cells #[.int .i64 (n : Int)] 3 (0, 0)) := by rw [← hw6]; exact heap_alloc_new w.drew _
  have hd6 : (w.alloc (.cells #[.int .i64 (n : Int)] 3)).drew = w6 := hw6
  first | rw [hw6] | rw [hd6]
  have HS6 : Hid (w6.cell? ⟨r, 2, none⟩ = some (.slice ma M mc) ∧ w6.cell? ⟨r, 1, none⟩ = some (.slice ua n uc)) := hide (unhide HC w6 b6)
  have H6 := hide b6
  obtain ⟨h5s, hh5s⟩ : ∃ h5s, w.heap.size = h5s := ⟨_, rfl⟩
  have HH5 := hide hh5s
  rw [hh5s] at at6 ⊢
  refine hK.out _ _ (Or.inr (unhide HS6)) ?_
  clear hK K hw6 hd6 hh5s b6 HS0
  try simp only [Act.put, List.setIfInBounds_toArray, List.set_cons_zero, List.set_cons_succ]
  refine till_one 11 (by kernel_rfl) rfl (fun K hK => ?_)
  refine step_append_lies _ (by rfl) _ _ 54 (by rfl) 0 3 iv (.int .i64 0) 1 8 Tryz.underlying54 (unhide HI).1 (unhide HI).2.1 (unhide HI).2.2.1 (unhide HI).2.2.2 rfl (by omega) (.slice ma M mc) M CS (by rfl) (unhide HOW w6 (unhide H6)) ⟨h5s, 0, none⟩ 1 1 [.int .i64 (n : Int)] (by rfl) (by rfl) (World.news_of_block at6) (by simp [Value.oneCell']) (by omega) (by unfold maxLen; omega) (by omega) (Nat.zero_le _) _ rfl ?_
  intro g7 cap7 w7 hown7 hgrow7 hat7 hlt7
  change K (Act.put _ (some 14) _) w7
  have rl6 : r < w6.heap.size := Nat.lt_of_lt_of_le (unhide HSL).1 (unhide H6).size
  have HS7 : Hid (w7.cell? ⟨r, 2, none⟩ = some (.slice ma M mc) ∧ w7.cell? ⟨r, 1, none⟩ = some (.slice ua n uc)) := hide ⟨(hgrow7.cell_far ⟨r, 2, none⟩ rl6 (unhide HSL).2).trans ((unhide HS6).1), (hgrow7.cell_far ⟨r, 1, none⟩ rl6 (unhide HSL).2).trans ((unhide HS6).2)⟩
  have f7 : w7.frozen? ⟨r, 2, none⟩ = false := (hgrow7.frozen_far ⟨r, 2, none⟩ rl6 (unhide HSL).2).trans (unhide HFZ w6 (unhide H6))
  have H7 := hide (And.intro hown7 (And.intro hgrow7 hat7))
  refine hK.out _ _ (Or.inr (unhide HS7)) ?_
  clear hK K hown7 hgrow7 hat7 hlt7 HS6 rl6
  try simp only [Act.put, List.setIfInBounds_toArray, List.set_cons_zero, List.set_cons_succ]
  refine till_one 12 (by kernel_rfl) rfl (fun K hK => ?_)
  obtain ⟨b0, b1⟩ := unhide HS7
  go_simp
  refine hK.out _ _ (Or.inr (unhide HS7)) ?_
  clear hK K b0 b1
  try simp only [Act.put, List.setIfInBounds_toArray, List.set_cons_zero, List.set_cons_succ]
  refine till_one 13 (by kernel_rfl) rfl (fun K hK => ?_)
  obtain ⟨b0, b1⟩ := unhide HS7
  go_simp
  refine hK.out _ _ (Or.inr (unhide HS7)) ?_
  clear hK K b0 b1
  try simp only [Act.put, List.setIfInBounds_toArray, List.set_cons_zero, List.set_cons_succ]
  refine till_one 14 (by kernel_rfl) rfl (fun K hK => ?_)
  obtain ⟨b0, b1⟩ := unhide HS7
  go_simp
  refine hK.out _ _ (Or.inl (by first | rfl | trivial)) ?_
  clear hK K b0 b1 f7
  try simp only [Act.put, List.setIfInBounds_toArray, List.set_cons_zero, List.set_cons_succ]
  refine till_done (by kernel_rfl) ?_ _
  obtain ⟨w8, hw8⟩ : ∃ w8, w7.setCell ⟨r, 2, none⟩ (.slice (some ⟨g7, 0, none⟩) (M + 1) cap7) = w8 := ⟨_, rfl⟩
  have hres := unhide HM w6 w7 g7 cap7 (unhide H6) (unhide H7).1 (unhide H7).2.1 (by
    rcases (unhide H7).2.2 with e | e
    · exact .inl e
    · exact .inr (Nat.le_trans (unhide H6).size (by omega)))
  rw [hw8] at hres ⊢
  have k8 := hres.1
  have H8 := hide hres.2
  clear hw8 hres H7 H6 HS7 HSL HFZ HOW HM HI HC
  go_wp2_with fail
  go_ret
  exact ⟨rfl, unhide H8⟩

end
end Go.Proofs.YtdaooapfokhfcaaGreat

namespace Go.Proofs.YtdaooapfokhfcaaGreat
open Go.RowKit
set_option linter.unusedVariables false
set_option linter.unusedSimpArgs false

section
variable {w w' : World} {V V' : Nat → Prop} {t t' : Rx} {X X' B : Xs} {Bs : List Xs} {N m : Nat} {r0 : List Nat}

theorem Rtt.pop (h : Rtt w V t X (B :: Bs) N) (hms : t.ms = r0 ++ [m]) (h' : Rto w' V' t') (e1 : t'.lx = t.lx) (e2 : t'.ms = r0) (e3 : t'.us = if r0 = [] then [] else t.us) : Rtt w' V' t' X Bs N := by
  have eX : t'.X = t.X := by unfold Rx.X; rw [e1]
  have hul := h.ul
  have hml := h.ml
  have hle := h.le
  have hbs := h.bs
  have hord := h.ord
  have hzer := h.zer
  rw [hms] at hml hle hbs hord hzer
  rw [List.reverse_append] at hbs
  have hB : Bs = r0.reverse.map (fun m => bks (t.U.drop m) X) := (List.cons.inj hbs).2
  have hl2 : r0.length ≤ N := by simp at hml; omega
  by_cases hr : r0 = []
  · rw [if_pos hr] at e3
    have eU : t'.U = [] := by unfold Rx.U; rw [e3]; rfl
    rw [hr] at e2 hB
    refine ⟨h', eX.trans h.ent, by rw [e3]; exact Nat.zero_le _, by rw [e2]; exact Nat.zero_le _, fun j hj => ?_, fun _ => e3, ?_, ?_, by rw [e2]; exact List.Pairwise.nil, by rw [hB, e2]; rfl⟩
    · rw [eU, List.drop_nil]
      exact h.fin0
    · intro m' e
      rw [e2] at e
      cases e
    · intro m' e
      rw [e2] at e
      cases e
  · rw [if_neg hr] at e3
    have eU : t'.U = t.U := by unfold Rx.U; rw [e3]
    refine ⟨h', eX.trans h.ent, by rw [e3]; exact hul, by rw [e2]; exact hl2, by rw [e3, eU]; exact h.fin, fun e => absurd (e2.symm.trans e) hr, fun m' e => ?_, fun m' e => ?_, ?_, by rw [hB, e2, eU]⟩
    · rw [e2] at e
      exact hzer m' (by rw [List.getElem?_append_left (List.length_pos_iff.2 hr)]; exact e)
    · rw [e2] at e
      rw [e3]
      exact hle m' (List.mem_append_left _ e)
    · rw [e2]
      exact (List.pairwise_append.1 hord).1

theorem Rtt.last (h : Rtt w V t X (B :: Bs) N) (hms : t.ms = r0 ++ [m]) : B = bks (t.U.drop m) X ∧ m ≤ t.us.length := by
  have hbs := h.bs
  rw [hms, List.reverse_append] at hbs
  exact ⟨(List.cons.inj hbs).1, h.le m (by rw [hms]; simp)⟩

theorem Rtt.back (h : Rtt w V t X (B :: Bs) N) (hms : t.ms = r0 ++ [m]) (h' : Rto w' V' t') (e1 : t'.X = B) (e2 : t'.ms = r0) (e3 : t'.us = t.us.take m) : Rtt w' V' t' B Bs N := by
  obtain ⟨hB, hmle⟩ := h.last hms
  have hul := h.ul
  have hml := h.ml
  have hle := h.le
  have hbs := h.bs
  have hord := h.ord
  have hzer := h.zer
  rw [hms] at hml hle hbs hord hzer
  rw [List.reverse_append] at hbs
  have hBs : Bs = r0.reverse.map (fun m => bks (t.U.drop m) X) := (List.cons.inj hbs).2
  have hl2 : r0.length ≤ N := by simp at hml; omega
  have eU : t'.U = t.U.take m := by unfold Rx.U mapK; rw [e3, List.map_take]
  have hle2 : ∀ a ∈ r0, a ≤ m := fun a ha => (List.pairwise_append.1 hord).2.2 a ha m (by simp)
  have hlen : t'.us.length = m := by rw [e3, List.length_take]; omega
  have key : ∀ j, j ≤ m → bks (t'.U.drop j) B = bks (t.U.drop j) X := fun j hj => by
    rw [eU, hB, ← bks_app]
    congr 1
    have h1 : t.U.drop j = (t.U.take m ++ t.U.drop m).drop j := by rw [List.take_append_drop]
    rw [h1, List.drop_append_of_le_length (by rw [List.length_take, t.ulen]; omega)]
  refine ⟨h', e1, by omega, by rw [e2]; exact hl2, fun j hj => ?_, fun e => ?_, fun m' e => ?_, fun m' e => ?_, ?_, ?_⟩
  · rw [key j (by omega)]
    exact h.fin j (by omega)
  · rw [e2] at e
    have hz := hzer m (by rw [e]; rfl)
    rw [e3, hz, List.take_zero]
  · rw [e2] at e
    by_cases hr : r0 = []
    · rw [hr] at e
      cases e
    · exact hzer m' (by rw [List.getElem?_append_left (List.length_pos_iff.2 hr)]; exact e)
  · rw [e2] at e
    rw [hlen]
    exact hle2 m' e
  · rw [e2]
    exact (List.pairwise_append.1 hord).1
  · rw [hBs, e2]
    apply List.map_congr_left
    intro a ha
    rw [key a (hle2 a (List.mem_reverse.1 ha))]

/-- how many there were, cut short -/
theorem Rto.popM (h : Rto w V t) (hms : t.ms = r0 ++ [m]) : ∃ b mc, t.mv = .slice (some ⟨b, 0, none⟩) (r0.length + 1) mc ∧ r0.length + 1 ≤ mc ∧ b < w.heap.size ∧ w.cell? ⟨b, r0.length, none⟩ = some (.int .i64 (m : Int)) ∧ Rto (w.setCell ⟨t.r, 2, none⟩ (.slice (some ⟨b, 0, none⟩) r0.length mc)) V { t with mv := .slice (some ⟨b, 0, none⟩) r0.length mc, ms := r0 } ∧ RAdv w (w.setCell ⟨t.r, 2, none⟩ (.slice (some ⟨b, 0, none⟩) r0.length mc)) V V t { t with mv := .slice (some ⟨b, 0, none⟩) r0.length mc, ms := r0 } := by
  have hr := h.mrk
  have hl : t.ms.length = r0.length + 1 := by rw [hms]; simp
  rw [hl] at hr
  rcases hr.2 with ⟨e, e2⟩ | ⟨b, mc, cur, e, hb, hg, hc, hm, hs, ht⟩
  · omega
  · have hr2 := hr
    rw [e] at hr2
    refine ⟨b, mc, e, hc, (Array.getElem?_eq_some_iff.1 hg).1, ?_, h.turnM (Fr.refl _ _) ?_ (fun j hj => .inl (by rw [e]; exact hj))⟩
    · have := hr2.cells (show (Value.slice (some ⟨b, 0, none⟩) (r0.length + 1) mc).ownBlock = some b from rfl) r0.length (.int .i64 (m : Int)) (by rw [hms]; simp)
      rwa [add_offR, Nat.zero_add] at this
    · have := own_take hr2 (Nat.le_succ r0.length)
      rw [hms] at this
      simpa using this

set_option maxRecDepth 100000 in
theorem rcommit_none (h : Rtt w V t X Bs N) (hm : t.ms = []) : Calls Tryz.prog 36 #[.pointer (some ⟨t.r, 0, none⟩)] w fun e w' => e = .returned (.int .i64 63) ∧ w' = w := by
  have c2 := h.rto.c2
  obtain ⟨ao, cap, hmv, -⟩ := own_slice h.rto.mrk
  rw [hm] at hmv
  rw [hmv] at c2
  obtain ⟨r, hr⟩ : ∃ r, t.r = r := ⟨_, rfl⟩
  rw [hr] at c2 ⊢
  clear h hmv hm
  dsimp only [List.length_nil] at c2
  go_enter Tryz.func36, Tryz.ntmps36
  go_wp2_with fail
  go_ret
  exact ⟨rfl, rfl⟩

set_option maxRecDepth 100000 in
theorem rback_none (h : Rtt w V t X Bs N) (hm : t.ms = []) : Calls Tryz.prog 35 #[.pointer (some ⟨t.r, 0, none⟩)] w fun e w' => e = .returned (.int .i64 63) ∧ w' = w := by
  have c2 := h.rto.c2
  obtain ⟨ao, cap, hmv, -⟩ := own_slice h.rto.mrk
  rw [hm] at hmv
  rw [hmv] at c2
  obtain ⟨r, hr⟩ : ∃ r, t.r = r := ⟨_, rfl⟩
  rw [hr] at c2 ⊢
  clear h hmv hm
  dsimp only [List.length_nil] at c2
  go_enter Tryz.func35, Tryz.ntmps35
  go_wp2_with fail
  go_ret
  exact ⟨rfl, rfl⟩

set_option maxRecDepth 100000 in
set_option maxHeartbeats 800000 in
theorem rcommit_some (h : Rtt w V t X (B :: Bs) N) (hN : N ≤ 1353245080318) : Calls Tryz.prog 36 #[.pointer (some ⟨t.r, 0, none⟩)] w fun e w' => e = .returned (.int .i64 0) ∧ ∃ V' t', Rtt w' V' t' X Bs N ∧ RAdv w w' V V' t t' := by
  obtain ⟨r0, m, hms⟩ : ∃ r0 m, t.ms = r0 ++ [m] := by
    rcases List.eq_nil_or_concat t.ms with e | ⟨r0, m, e⟩
    · have := h.bs
      rw [e] at this
      cases this
    · exact ⟨r0, m, by rw [e, List.concat_eq_append]⟩
  obtain ⟨b, mc, hmv, hmc, hbl, hcell, ra, rb⟩ := h.rto.popM hms
  have hml := h.ml
  rw [hms, List.length_append] at hml
  have c2 := h.rto.c2
  rw [hmv] at c2
  have f2 : w.frozen? ⟨t.r, 2, none⟩ = false := frozen_of_row w t.r 2 _ _ h.rto.box
  obtain ⟨w1, hw1⟩ : ∃ w1, w.setCell ⟨t.r, 2, none⟩ (.slice (some ⟨b, 0, none⟩) r0.length mc) = w1 := ⟨_, rfl⟩
  rw [hw1] at ra rb
  have f1 : w1.frozen? ⟨t.r, 1, none⟩ = false := frozen_of_row w1 t.r 1 _ _ ra.box
  have c1 := ra.c1
  obtain ⟨ua, uc, huv, -⟩ := own_slice h.rto.und
  have HR : Hid ((r0 ≠ [] → ∃ V' t', Rtt w1 V' t' X Bs N ∧ RAdv w w1 V V' t t') ∧ (r0 = [] → ∃ V' t', Rtt (w1.setCell ⟨t.r, 1, none⟩ (.slice none 0 0)) V' t' X Bs N ∧ RAdv w (w1.setCell ⟨t.r, 1, none⟩ (.slice none 0 0)) V V' t t')) := hide ⟨fun hr => ⟨V, _, h.pop hms ra rfl rfl (by rw [if_neg hr]), rb⟩, fun hr => by
    obtain ⟨rc, rd⟩ := ra.turnU (uv' := .slice none 0 0) (us' := []) (Fr.refl _ _) (World.ownsRow_nil _ 0 _ _) (fun b hb => by cases hb) (fun p hp => by cases hp)
    exact ⟨V, _, h.pop hms rc rfl rfl (by rw [if_pos hr]), rb.trans rd⟩⟩
  obtain ⟨K, hK⟩ : ∃ K, r0.length = K := ⟨_, rfl⟩
  have hz : r0 = [] ↔ K = 0 := by rw [← hK]; exact List.length_eq_zero_iff.symm
  have HZ := hide hz
  rw [hK] at c2 hw1 hmc hml
  dsimp only at c1 f1
  rw [huv] at c1
  obtain ⟨n, hn⟩ : ∃ n, t.us.length = n := ⟨_, rfl⟩
  rw [hn] at c1
  obtain ⟨r, hr⟩ : ∃ r, t.r = r := ⟨_, rfl⟩
  rw [hr] at c2 f2 hw1 f1 c1 HR ⊢
  clear h ra rb hms hmv hbl hcell huv hn hK hz
  have i0 : (((K + 1 : Nat) : Int) == 0) = false := by simp; omega
  have i1 : ¬ ((K + 1 : Nat) : Int) = 0 := by omega
  have w2 : IntKind.i64.wrap (((K + 1 : Nat) : Int) - 1) = (K : Int) := by rw [IntKind.wrap_i64]; simp at hml; omega
  have i2 : (K : Int) ≤ (mc : Int) := by omega
  have i3 : (0 : Int) ≤ (K : Int) := by omega
  by_cases hk : K = 0
  · have HQ := hide ((unhide HR).2 ((unhide HZ).2 hk))
    clear HR HZ
    clear i0 i1 w2 i2 i3
    subst hk
    have c2' : w.cell? ⟨r, 2, none⟩ = some (.slice (some ⟨b, 0, none⟩) 1 mc) := c2
    have i2 : (0 : Int) ≤ (mc : Int) := by omega
    clear c2
    go_enter Tryz.func36, Tryz.ntmps36
    go_wp2_with fail
    go_ret
    exact ⟨rfl, unhide HQ⟩
  · have HQ := hide ((unhide HR).1 (fun e => hk ((unhide HZ).1 e)))
    clear HR HZ
    have i4 : (((K + 1 : Nat) : Int) == 1) = false := by simp; omega
    have i5 : ¬ ((K + 1 : Nat) : Int) = 1 := by omega
    clear hk
    go_enter Tryz.func36, Tryz.ntmps36
    go_wp2_with fail
    go_ret
    exact ⟨rfl, unhide HQ⟩
end
end Go.Proofs.YtdaooapfokhfcaaGreat
