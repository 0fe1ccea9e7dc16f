/-
  What open checkpoints keep, one above the other; plain lists.
  What a store has and what its checkpoints lead back to; Rollback, Commit; conditions: the form's own reach.
-/
import Derived.Test.YtdaooapfokhfcaaGreatA25
import Derived.Test.YtdaooapfokhfcaaGreatA27
namespace Go.Proofs.YtdaooapfokhfcaaGreat
open Go.RowKit
set_option linter.unusedVariables false
set_option linter.unusedSimpArgs false

/-- the first one turns -/
def updHead {α : Type} (f : α → α) : List α → List α
  | [] => []
  | a :: r => f a :: r

theorem rev_updLast {α : Type} (f : α → α) (l : List α) : (updLast f l).reverse = updHead f l.reverse := by
  rcases List.eq_nil_or_concat l with rfl | ⟨r, x, rfl⟩
  · rfl
  · rw [List.concat_eq_append, updLast_snoc]
    simp [updHead]

theorem chain_put {X : Xs} {ms : List Us} {Bs : List Xs} (h : Chain X ms Bs) (hX : Rk X) (k : ByteArray) (y : Vl) : Chain (putK X k y) (updHead (keepL k (lookK X k)) ms) Bs := by
  match ms, Bs, h with
  | [], [], _ => trivial
  | m :: r, B :: s, h => exact ⟨lv_put h.1 hX k y, h.2⟩

theorem chain_del {X : Xs} {ms : List Us} {Bs : List Xs} (h : Chain X ms Bs) (hX : Rk X) (k : ByteArray) (hk : lookK X k ≠ none) : Chain (delK X k) (updHead (fun l => forgetL (delK X k) k (keepL k (lookK X k) l)) ms) Bs := by
  match ms, Bs, h with
  | [], [], _ => trivial
  | m :: r, B :: s, h => exact ⟨lv_del h.1 hX k hk, h.2⟩

theorem chain_new {X : Xs} {ms : List Us} {Bs : List Xs} (h : Chain X ms Bs) (hX : Rk X) (hl : X.length ≤ 128) (hw : tot X ≤ 32768) : Chain X ([] :: ms) (X :: Bs) := ⟨lv_new hX hl hw, h⟩

theorem chain_commit {X : Xs} {m : Us} {ms : List Us} {B : Xs} {Bs : List Xs} (h : Chain X (m :: ms) (B :: Bs)) : Chain X (updHead (fun l => m.foldl (handL X) l) ms) Bs := by
  match ms, Bs, h with
  | [], [], _ => trivial
  | m2 :: r, B2 :: s, h => exact ⟨lv_commit h.1 h.2.1, h.2.2⟩

theorem chain_len : ∀ {X : Xs} {ms : List Us} {Bs : List Xs}, Chain X ms Bs → ms.length = Bs.length
  | _, [], [], _ => rfl
  | _, _ :: _, _ :: _, h => by rw [List.length_cons, List.length_cons, chain_len h.2]
  | _, [], _ :: _, h => h.elim
  | _, _ :: _, [], h => h.elim

theorem chain_small : ∀ {X : Xs} {ms : List Us} {Bs : List Xs}, X.length ≤ 128 → Chain X ms Bs → ∀ m ∈ ms, m.length ≤ 256
  | _, [], [], _, _, m, hm => by cases hm
  | X, a :: r, B :: s, hl, h, m, hm => by
    have h1 := lv_len h.1
    have h2 := h.1.len
    rcases List.mem_cons.1 hm with rfl | hm
    · omega
    · exact chain_small h2 h.2 m hm
  | _, [], _ :: _, _, h, _, _ => h.elim
  | _, _ :: _, [], _, h, _, _ => h.elim

theorem handL_len (X : Xs) (l : Us) (p : ByteArray × Option Vl) : (handL X l p).length ≤ l.length + 1 := by
  unfold handL forgetL keepL
  have h1 : ∀ (z : Us) (k : ByteArray), (delK z k).length ≤ z.length := fun z k => del_len z k
  have h2 : ∀ (z : Us) (k : ByteArray) (o : Option Vl), (putK z k o).length ≤ z.length + 1 := fun z k o => by rw [put_len]; split <;> omega
  cases lookK l p.1 with
  | none =>
    dsimp only
    split
    · exact Nat.le_trans (h1 _ _) (h2 _ _ _)
    · exact h2 _ _ _
  | some y =>
    dsimp only
    split
    · exact Nat.le_trans (h1 _ _) (Nat.le_succ _)
    · exact Nat.le_succ _
theorem hands_len (X : Xs) : ∀ (m : Us) (l : Us), (m.foldl (handL X) l).length ≤ l.length + m.length
  | [], l => by simp
  | p :: r, l => by
    have h1 := hands_len X r (handL X l p)
    have h2 := handL_len X l p
    rw [List.foldl_cons, List.length_cons]
    omega

end Go.Proofs.YtdaooapfokhfcaaGreat

namespace Go.Proofs.YtdaooapfokhfcaaGreat
open Go.RowKit
set_option linter.unusedVariables false
set_option linter.unusedSimpArgs false

/-- a store with the entries X; Bs: what its checkpoints lead back to, the last one first -/
structure Stt (w : World) (V : Nat → Prop) (t : Sx) (X : Xs) (Bs : List Xs) : Prop where
  sto : Sto w V t
  ent : t.X = X
  fine : t.wg = (tot X : Int)
  len : X.length ≤ 128
  wt : tot X ≤ 32768
  ch : Chain X (absM t.ms).reverse Bs

theorem mem_updLast {α : Type} {f : α → α} {l : List α} {x : α} (h : x ∈ updLast f l) : x ∈ l ∨ ∃ y ∈ l, x = f y := by
  rcases List.eq_nil_or_concat l with rfl | ⟨r, y, rfl⟩
  · cases h
  · rw [List.concat_eq_append] at h ⊢
    rw [updLast_snoc] at h
    rcases List.mem_append.1 h with h | h
    · exact .inl (List.mem_append_left _ h)
    · rw [List.mem_singleton] at h
      exact .inr ⟨y, by simp, h⟩

theorem mapK_snoc {α β : Type} (f : α → β) (l : List (ByteArray × α)) (x : ByteArray × α) : mapK f (l ++ [x]) = mapK f l ++ [(x.1, f x.2)] := by simp [mapK]

section
variable {w w' : World} {V V' : Nat → Prop} {t t' : Sx} {X B : Xs} {Bs : List Xs}

theorem Stt.to (h : Stt w V t X Bs) (hw : ∀ j, t.own j ∨ V j → w'.heap[j]? = w.heap[j]?) (hV : ∀ j, V j → V' j) (hv : ∀ j, V' j → j < w'.heap.size ∧ ¬ t.own j) : Stt w' V' t X Bs := ⟨h.sto.to hw hV hv, h.ent, h.fine, h.len, h.wt, h.ch⟩
theorem Stt.later (h : Stt w V t X Bs) (hb : Below w.heap.size w w') : Stt w' V t X Bs := ⟨h.sto.later hb, h.ent, h.fine, h.len, h.wt, h.ch⟩
theorem Stt.up (h : Stt w V t X Bs) (hb : Below w.heap.size w w') : Stt w' (VUp w w' V) t X Bs := ⟨h.sto.up hb, h.ent, h.fine, h.len, h.wt, h.ch⟩
theorem Stt.other {G : Nat → Prop} (h : Stt w V t X Bs) (hf : Fr G w w') (h1 : ∀ j, G j → ¬ t.own j) (h2 : ∀ j, G j → ¬ V j) : Stt w' V t X Bs := ⟨h.sto.other hf h1 h2, h.ent, h.fine, h.len, h.wt, h.ch⟩
theorem Stt.rk (h : Stt w V t X Bs) : Rk X := by rw [← h.ent]; exact X_rk h.sto
theorem Stt.key (h : Stt w V t X Bs) : ∀ p ∈ X, KeyOk p.1 ∧ rightB p.2 = true := by rw [← h.ent]; exact X_key h.sto
theorem Stt.lenL (h : Stt w V t X Bs) : t.l.length ≤ 128 := by
  have h1 : t.X.length = t.l.length := mapK_len _ _
  rw [h.ent] at h1
  have := h.len
  omega
theorem Stt.count (h : Stt w V t X Bs) : t.ms.length = Bs.length := by
  have h1 := chain_len h.ch
  rw [List.length_reverse] at h1
  rw [← h1]
  simp [absM]
theorem Stt.small (h : Stt w V t X Bs) : ∀ m ∈ t.ms, m.l.length ≤ 256 := fun m hm => by
  have h1 := chain_small h.len h.ch (mapK Prod.snd m.l) (by rw [List.mem_reverse]; exact List.mem_map.2 ⟨m, hm, rfl⟩)
  rw [mapK_len] at h1
  exact h1
theorem Stt.rng (h : Stt w V t X Bs) : -1000000000000 ≤ t.wg ∧ t.wg ≤ 1000000000000 := by
  have := h.fine
  have := h.wt
  omega
theorem Stt.look (h : Stt w V t X Bs) (k : ByteArray) : lookK X k = (lookK t.l k).map Prod.snd := by rw [← h.ent]; exact mapK_look _ _ _

theorem Stt.last (h : Stt w V t X (B :: Bs)) : ∃ r m, t.ms = r ++ [m] ∧ Lv X (mapK Prod.snd m.l) B ∧ Chain B (absM r).reverse Bs ∧ Chain X (mapK Prod.snd m.l :: (absM r).reverse) (B :: Bs) := by
  rcases List.eq_nil_or_concat t.ms with hms | ⟨r, m, hms⟩
  · have := h.ch
    rw [hms] at this
    exact this.elim
  · rw [List.concat_eq_append] at hms
    have hc := h.ch
    rw [hms, absM_snoc, List.reverse_append] at hc
    have hc2 : Chain X (mapK Prod.snd m.l :: (absM r).reverse) (B :: Bs) := hc
    exact ⟨r, m, hms, hc2.1, hc2.2, hc2⟩

set_option maxRecDepth 100000 in
theorem rollback_none (h : Stt w V t X []) : Calls Tryz.prog 19 #[.pointer (some ⟨t.s, 0, none⟩)] w fun e w' => e = .returned (.int .i64 63) ∧ Below w.heap.size w w' := by
  have hms : t.ms = [] := List.length_eq_zero_iff.1 h.count
  have C := hide (shut_none h.sto hms 59 #[])
  clear h hms
  go_enter Tryz.func19, Tryz.ntmps19
  go_wp2_with fail
  refine (unhide C).mono ?_
  rintro e u1 ⟨rfl, b1⟩
  have H1 := hide b1
  clear b1
  go_wp2_with fail
  go_ret
  exact ⟨rfl, unhide H1⟩

set_option maxRecDepth 100000 in
theorem commit_none (h : Stt w V t X []) : Calls Tryz.prog 20 #[.pointer (some ⟨t.s, 0, none⟩)] w fun e w' => e = .returned (.int .i64 63) ∧ Below w.heap.size w w' := by
  have hms : t.ms = [] := List.length_eq_zero_iff.1 h.count
  have C := hide (shut_none h.sto hms 60 #[.pointer (some ⟨t.s, 0, none⟩)])
  clear h hms
  obtain ⟨s, g, v0, l0, W, mv, ms⟩ := t
  dsimp only at C ⊢
  go_enter Tryz.func20, Tryz.ntmps20
  go_wp2_with fail
  refine (unhide C).mono ?_
  rintro e u1 ⟨rfl, b1⟩
  have H1 := hide b1
  clear b1
  go_wp2_with fail
  go_ret
  exact ⟨rfl, unhide H1⟩

set_option maxRecDepth 100000 in
theorem rollback_some (h : Stt w V t X (B :: Bs)) : Calls Tryz.prog 19 #[.pointer (some ⟨t.s, 0, none⟩)] w fun e w' => e = .returned (.int .i64 0) ∧ ∃ t', Stt w' V t' B Bs ∧ Adv w w' V V t t' := by
  obtain ⟨r, m, hms, hlv, hch, -⟩ := h.last
  have hsm : m.l.length ≤ 256 := h.small m (by rw [hms]; simp)
  have C := shut_back h.sto hms (by omega) (fun t' pre => t'.X = (mapK Prod.snd pre).foldl backL X ∧ t'.wg = (tot t'.X : Int) ∧ t'.ms = r) (fun mv' => ⟨h.ent, by rw [show Sx.X { t with mv := mv', ms := r } = X from h.ent]; exact h.fine, rfl⟩) (fun u t' pre x hs hss hR hlt hx hu => by
    have hl : t'.l.length ≤ 1000000 := by
      have h1 := backs_len (mapK Prod.snd pre) X
      rw [← hR.1, mapK_len] at h1
      have h2 : t'.X.length = t'.l.length := mapK_len _ _
      have := h.len
      omega
    refine (back_any hs hl hR.2.1 x.1 x.2.1 x.2.2 (by rw [hss]; exact hu)).mono ?_
    rintro e w' ⟨hr, v', l', W', a, b, e1, e2⟩
    refine ⟨hr, _, a, b, ?_, e2, hR.2.2⟩
    rw [mapK_snoc, List.foldl_append, ← hR.1]
    exact e1)
  have C := hide (C.mono (R' := fun e w' => e = .returned (.int .i64 0) ∧ ∃ t', Stt w' V t' B Bs ∧ Adv w w' V V t t') (fun e w' hh => by
    obtain ⟨rfl, t', s', a', h1, h2, h3⟩ := hh
    have hb := lv_back hlv h.rk
    rw [hb] at h1
    exact ⟨rfl, t', ⟨s', h1, by rw [← h1]; exact h2, hlv.len, hlv.wt, by rw [h3]; exact hch⟩, a'⟩))
  clear h hms hlv hch hsm
  obtain ⟨s, g, v0, l0, W, mv, ms⟩ := t
  dsimp only at C ⊢
  go_enter Tryz.func19, Tryz.ntmps19
  go_wp2_with fail
  refine (unhide C).mono ?_
  rintro e u1 ⟨rfl, b1⟩
  have H1 := hide b1
  clear b1
  go_wp2_with fail
  go_ret
  exact ⟨rfl, unhide H1⟩

set_option maxRecDepth 100000 in
theorem commit_some (h : Stt w V t X (B :: Bs)) : Calls Tryz.prog 20 #[.pointer (some ⟨t.s, 0, none⟩)] w fun e w' => e = .returned (.int .i64 0) ∧ ∃ t', Stt w' V t' X Bs ∧ Adv w w' V V t t' := by
  obtain ⟨r, m, hms, hlv, hch, hcc⟩ := h.last
  have hsm : m.l.length ≤ 256 := h.small m (by rw [hms]; simp)
  have C := shut_hand h.sto hms (by omega) (fun t' pre => t'.X = X ∧ t'.wg = t.wg ∧ absM t'.ms = updLast (fun l => (mapK Prod.snd pre).foldl (handL X) l) (absM r)) (fun mv' => ⟨h.ent, rfl, by
    show absM r = _
    rcases List.eq_nil_or_concat (absM r) with e | ⟨q, z, e⟩
    · rw [e]; rfl
    · rw [e, List.concat_eq_append, updLast_snoc]; rfl⟩) (fun u t' pre x hs hss hR hlt hx hu => by
    have hb : ∀ a ∈ t'.ms, a.l.length ≤ 1000000 := fun a ha => by
      have h1 : mapK Prod.snd a.l ∈ absM t'.ms := List.mem_map.2 ⟨a, ha, rfl⟩
      rw [hR.2.2] at h1
      have hr : ∀ z ∈ absM r, z.length ≤ 256 := fun z hz => by
        obtain ⟨q, hq, rfl⟩ := List.mem_map.1 hz
        have := h.small q (by rw [hms]; exact List.mem_append_left _ hq)
        rw [mapK_len]
        exact this
      have h2 : (mapK Prod.snd a.l).length = a.l.length := mapK_len _ _
      rcases mem_updLast h1 with h1 | ⟨y, hy, h1⟩
      · have := hr _ h1
        omega
      · have h3 := hr _ hy
        have h4 := hands_len X (mapK Prod.snd pre) y
        rw [← h1, mapK_len, mapK_len] at h4
        omega
    have hc := hand_any hs x.1 x.2.1 x.2.2 (by rw [hss]; exact hu) hb
    rw [hss] at hc
    refine hc.mono ?_
    rintro e w' ⟨hr, ms', a, b, e1⟩
    refine ⟨hr, _, a, b, hR.1, hR.2.1, ?_⟩
    show absM ms' = _
    rw [e1, hR.2.2, updLast_comp, hR.1]
    congr 1
    funext l
    rw [mapK_snoc, List.foldl_append]
    rfl)
  have C := hide (C.mono (R' := fun e w' => e = .returned (.int .i64 0) ∧ ∃ t', Stt w' V t' X Bs ∧ Adv w w' V V t t') (fun e w' hh => by
    obtain ⟨rfl, t', s', a', h1, h2, h3⟩ := hh
    refine ⟨rfl, t', ⟨s', h1, h2.trans h.fine, h.len, h.wt, ?_⟩, a'⟩
    rw [h3, rev_updLast]
    exact chain_commit hcc))
  clear h hms hlv hch hsm hcc
  obtain ⟨s, g, v0, l0, W, mv, ms⟩ := t
  dsimp only at C ⊢
  go_enter Tryz.func20, Tryz.ntmps20
  go_wp2_with fail
  refine (unhide C).mono ?_
  rintro e u1 ⟨rfl, b1⟩
  have H1 := hide b1
  clear b1
  go_wp2_with fail
  go_ret
  exact ⟨rfl, unhide H1⟩
end
end Go.Proofs.YtdaooapfokhfcaaGreat
