/-
  store's hand; what lets a key be as it was (undoing's functions, as Rollback calls them); conditions: the form's own reach.
  A region that draws its order, inside a round of a loop over a function: whatever serves outside serves there; no conditions.
-/
import Derived.Test.YtdaooapfokhfcaaGreatA25
import Derived.Test.YtdaooapfokhfcaaGreatA09
import Derived.Test.YtdaooapfokhfcaaGreatA17
namespace Go.Proofs.YtdaooapfokhfcaaGreat
open Go.RowKit
set_option linter.unusedVariables false
set_option linter.unusedSimpArgs false

theorem updLast_comp {α : Type} (f g : α → α) (l : List α) : updLast f (updLast g l) = updLast (fun x => f (g x)) l := by
  rcases List.eq_nil_or_concat l with rfl | ⟨r, x, rfl⟩
  · rfl
  · rw [List.concat_eq_append, updLast_snoc, updLast_snoc, updLast_snoc]

section
variable {w : World} {V : Nat → Prop} {t : Sx}

set_option maxRecDepth 100000 in
theorem hand_any (h : Sto w V t) (k : ByteArray) (c : ThU) (o : Option Vl) (hu : UOk w V t.s k (c, o)) (hb : ∀ m ∈ t.ms, m.l.length ≤ 1000000) :
    Calls Tryz.prog 60 #[.pointer (some ⟨t.s, 0, none⟩), .string k, .agg (thU c).toArray] w fun e w' => (∃ r, e = .returned r) ∧ ∃ ms', Sto w' V { t with ms := ms' } ∧ Adv w w' V V t { t with ms := ms' } ∧ absM ms' = updLast (fun l => handL t.X l (k, o)) (absM t.ms) := by
  have CK : Hid (∀ u, Below w.heap.size w u → Calls Tryz.prog 46 #[.pointer (some ⟨t.s, 0, none⟩), .string k, .agg (thU c).toArray] u fun e w' => (∃ r, e = .returned r) ∧ ∃ ms', Sto w' V { t with ms := ms' } ∧ Adv w w' V V t { t with ms := ms' } ∧ absM ms' = updLast (keepL k o) (absM t.ms)) := hide (fun u hu' => by
    refine (keep_any (h.later hu') k c o (hu.to (fun j hj => hu'.block j (h.vs j hj).1) (fun _ h => h)) hb).mono ?_
    rintro e w' ⟨hr, ms', a, b, e1⟩
    exact ⟨hr, ms', a, (Adv.of' hu' t V).trans b, e1⟩)
  have CF : Hid (∀ (u : World) (ms' : List Mk), Sto u V { t with ms := ms' } → Adv w u V V t { t with ms := ms' } → absM ms' = updLast (keepL k o) (absM t.ms) → Calls Tryz.prog 64 #[.pointer (some ⟨t.s, 0, none⟩), .string k] u fun e w' => (∃ r, e = .returned r) ∧ ∃ ms', Sto w' V { t with ms := ms' } ∧ Adv w w' V V t { t with ms := ms' } ∧ absM ms' = updLast (fun l => handL t.X l (k, o)) (absM t.ms)) := hide (fun u ms' hs ha e1 => by
    refine (forget_any hs k).mono ?_
    rintro e w' ⟨hr, ms2, a, b, e2⟩
    refine ⟨hr, ms2, a, ha.trans b, ?_⟩
    rw [e2]
    show updLast (forgetL t.X k) (absM ms') = _
    rw [e1, updLast_comp]
    rfl)
  obtain ⟨c0, c1, c2, c3⟩ := c
  clear h hu hb
  obtain ⟨s, g, v0, l0, W, mv, ms⟩ := t
  dsimp only at CK CF ⊢
  dsimp only [thU] at CK ⊢
  have CK2 := hide (unhide CK _ ((Below.refl _ w).alloc (Nat.le_refl _) (.cells #[.func c0 c1 c2, .bool c3] 73)))
  clear CK
  go_enter Tryz.func60, Tryz.ntmps60
  go_wp2_with fail
  refine (unhide CK2).mono ?_
  rintro e u1 ⟨⟨r1, rfl⟩, ms1, s1, a1, e1⟩
  have CF2 := hide (unhide CF u1 ms1 s1 a1 e1)
  clear s1 a1 e1 CK2 CF
  go_wp2_with fail
  refine (unhide CF2).mono ?_
  rintro e u2 ⟨⟨r2, rfl⟩, p2⟩
  go_wp2_with fail
  go_end0
  exact ⟨⟨_, rfl⟩, p2⟩

theorem oldW_T (h : Sto w V t) (k : ByteArray) : oldW t k = (oldT t.X k : Int) := by
  unfold oldW oldT Sx.X
  rw [mapK_look]
  cases lookK t.l k <;> rfl

/-- the weight is what all entries weigh -/
def Sx.fine (t : Sx) : Prop := t.wg = (tot t.X : Int)

theorem X_rk (h : Sto w V t) : Rk t.X := mapK_rk _ h.rk
theorem X_key (h : Sto w V t) : ∀ p ∈ t.X, KeyOk p.1 ∧ rightB p.2 = true := fun p hp => by
  obtain ⟨q, hq, rfl⟩ := List.mem_map.1 hp
  exact ⟨(h.ok q.1 q.2 hq).key, (h.ok q.1 q.2 hq).right⟩
theorem fine_rng (h : Sto w V t) (hf : t.fine) (hl : t.l.length ≤ 1000000) : -1000000000000 ≤ t.wg ∧ t.wg ≤ 1000000000000 := by
  have h1 := tot_le t.X (fun p hp => (X_key h p hp).1.2)
  have h2 : t.X.length = t.l.length := mapK_len _ _
  unfold Sx.fine at hf
  omega

set_option maxRecDepth 100000 in
theorem back1 (h : Sto w V t) (hl : t.l.length ≤ 1000000) (hf : t.fine) (k : ByteArray) (hk : KeyOk k) (bs bk : Nat) (h1 : w.heap[bs]? = some (.cells #[.pointer (some ⟨t.s, 0, none⟩)] 23 (0, 0))) (h2 : w.heap[bk]? = some (.cells #[.string k] 9 (0, 0))) :
    Calls Tryz.prog 80 #[.pointer (some ⟨bs, 0, none⟩), .pointer (some ⟨bk, 0, none⟩)] w fun e w' => (∃ r, e = .returned r) ∧ ∃ v' l' W', Sto w' V { t with v := v', l := l', wg := W' } ∧ Adv w w' V V t { t with v := v', l := l', wg := W' } ∧ mapK Prod.snd l' = backL t.X (k, none) ∧ W' = (tot (mapK Prod.snd l') : Int) := by
  have CT := hide (take_any h (fine_rng h hf hl) k hk.2)
  have c1 : w.cell? ⟨bs, 0, none⟩ = some (.pointer (some ⟨t.s, 0, none⟩)) := by rw [cell_of_row w bs 0 _ _ (0, 0) h1]; rfl
  have c2 : w.cell? ⟨bk, 0, none⟩ = some (.string k) := by rw [cell_of_row w bk 0 _ _ (0, 0) h2]; rfl
  have HE : Hid (mapK Prod.snd (delK t.l k) = backL t.X (k, none) ∧ t.wg - oldW t k = (tot (mapK Prod.snd (delK t.l k)) : Int)) := hide (by
    have e1 : mapK Prod.snd (delK t.l k) = delK t.X k := mapK_del _ _ _
    refine ⟨e1, ?_⟩
    rw [e1, oldW_T h]
    have := tot_del t.X k
    unfold Sx.fine at hf
    omega)
  clear h h1 h2 hf hl
  obtain ⟨s, g, v0, l0, W, mv, ms⟩ := t
  dsimp only at CT c1 ⊢
  go_enter Tryz.func80, Tryz.ntmps80
  go_wp2_with fail
  refine (unhide CT).mono ?_
  rintro e u1 ⟨⟨r1, rfl⟩, v', a, b⟩
  have HA := hide (And.intro a b)
  clear a b
  go_wp2_with fail
  go_end0
  exact ⟨⟨_, rfl⟩, v', _, _, (unhide HA).1, (unhide HA).2, (unhide HE).1, (unhide HE).2⟩

set_option maxRecDepth 100000 in
theorem back2 (h : Sto w V t) (hl : t.l.length ≤ 1000000) (hf : t.fine) (k : ByteArray) (hk : KeyOk k) (bs bk bn : Nat) (c : ThV) (y : Vl) (h1 : w.heap[bs]? = some (.cells #[.pointer (some ⟨t.s, 0, none⟩)] 23 (0, 0))) (h2 : w.heap[bk]? = some (.cells #[.string k] 9 (0, 0))) (h3 : w.heap[bn]? = some (.cells (thV c).toArray 32 (0, 0))) (hv : IsP w V y (.agg (thV c).toArray)) (hr : rightB y = true) :
    Calls Tryz.prog 81 #[.pointer (some ⟨bs, 0, none⟩), .pointer (some ⟨bk, 0, none⟩), .pointer (some ⟨bn, 0, none⟩)] w fun e w' => (∃ r, e = .returned r) ∧ ∃ v' l' W', Sto w' V { t with v := v', l := l', wg := W' } ∧ Adv w w' V V t { t with v := v', l := l', wg := W' } ∧ mapK Prod.snd l' = backL t.X (k, some y) ∧ W' = (tot (mapK Prod.snd l') : Int) := by
  have CT := hide (lay_any h hl (fine_rng h hf hl) k hk y c hv hr)
  have c1 : w.cell? ⟨bs, 0, none⟩ = some (.pointer (some ⟨t.s, 0, none⟩)) := by rw [cell_of_row w bs 0 _ _ (0, 0) h1]; rfl
  have c2 : w.cell? ⟨bk, 0, none⟩ = some (.string k) := by rw [cell_of_row w bk 0 _ _ (0, 0) h2]; rfl
  have HE : Hid (mapK Prod.snd (putK t.l k (c, y)) = backL t.X (k, some y) ∧ t.wg - oldW t k + (ew (k, y) : Int) = (tot (mapK Prod.snd (putK t.l k (c, y))) : Int)) := hide (by
    have e1 : mapK Prod.snd (putK t.l k (c, y)) = putK t.X k y := mapK_put _ _ _ _
    refine ⟨e1, ?_⟩
    rw [e1, oldW_T h]
    have := tot_put t.X k y (X_rk h)
    unfold Sx.fine at hf
    omega)
  clear h h1 h2 hf hl hv hr
  obtain ⟨N, hN⟩ : ∃ N, putK t.l k (c, y) = N := ⟨_, rfl⟩
  rw [hN] at CT HE
  clear hN
  obtain ⟨s, g, v0, l0, W, mv, ms⟩ := t
  dsimp only at CT c1 ⊢
  obtain ⟨t0, t1, t2, t3, t4, t5, t6, t7, t8⟩ := c
  dsimp only [thV] at CT h3
  have d0 : w.cell? ⟨bn, 0, none⟩ = some (.int .i64 t0) := by rw [cell_of_row w bn 0 _ _ (0, 0) h3]; rfl
  have d1 : w.cell? ⟨bn, 1, none⟩ = some (.int .i64 t1) := by rw [cell_of_row w bn 1 _ _ (0, 0) h3]; rfl
  have d2 : w.cell? ⟨bn, 2, none⟩ = some (.string t2) := by rw [cell_of_row w bn 2 _ _ (0, 0) h3]; rfl
  have d3 : w.cell? ⟨bn, 3, none⟩ = some (.slice t3 t4 t5) := by rw [cell_of_row w bn 3 _ _ (0, 0) h3]; rfl
  have d4 : w.cell? ⟨bn, 4, none⟩ = some (.slice t6 t7 t8) := by rw [cell_of_row w bn 4 _ _ (0, 0) h3]; rfl
  clear h3
  go_enter Tryz.func81, Tryz.ntmps81
  go_wp2_with fail
  refine (unhide CT).mono ?_
  rintro e u1 ⟨⟨r1, rfl⟩, v', a, b⟩
  have HA := hide (And.intro a b)
  clear a b
  go_wp2_with fail
  go_end0
  exact ⟨⟨_, rfl⟩, v', _, _, (unhide HA).1, (unhide HA).2, (unhide HE).1, (unhide HE).2⟩

set_option maxRecDepth 100000 in
theorem back_any (h : Sto w V t) (hl : t.l.length ≤ 1000000) (hf : t.fine) (k : ByteArray) (c : ThU) (o : Option Vl) (hu : UOk w V t.s k (c, o)) :
    Calls Tryz.prog 59 #[.string k, .agg (thU c).toArray] w fun e w' => (∃ r, e = .returned r) ∧ ∃ v' l' W', Sto w' V { t with v := v', l := l', wg := W' } ∧ Adv w w' V V t { t with v := v', l := l', wg := W' } ∧ mapK Prod.snd l' = backL t.X (k, o) ∧ W' = (tot (mapK Prod.snd l') : Int) := by
  obtain ⟨hk, bs, bk, v1, v2, g1, g2, g3⟩ := hu
  have lift : ∀ (u : World) (hb : Below w.heap.size w u), (∀ (e : Ending) (w' : World), (∃ r, e = .returned r) ∧ (∃ v' l' W', Sto w' V { t with v := v', l := l', wg := W' } ∧ Adv u w' V V t { t with v := v', l := l', wg := W' } ∧ mapK Prod.snd l' = backL t.X (k, o) ∧ W' = (tot (mapK Prod.snd l') : Int)) → (∃ r, e = .returned r) ∧ ∃ v' l' W', Sto w' V { t with v := v', l := l', wg := W' } ∧ Adv w w' V V t { t with v := v', l := l', wg := W' } ∧ mapK Prod.snd l' = backL t.X (k, o) ∧ W' = (tot (mapK Prod.snd l') : Int)) := fun u hb e w' hh => by
    obtain ⟨hr, v', l', W', a, b, e1, e2⟩ := hh
    exact ⟨hr, v', l', W', a, (Adv.of' hb t V).trans b, e1, e2⟩
  cases o with
  | none =>
    simp only [UHow] at g3
    subst g3
    have hb := (Below.refl _ w).alloc (Nat.le_refl _) (.cells #[.func (.func 80) #[] #[.pointer (some ⟨bs, 0, none⟩), .pointer (some ⟨bk, 0, none⟩)], .bool true] 73)
    have CB := hide ((back1 (h.later hb) hl hf k hk bs bk ((hb.block bs (h.vs bs v1).1).trans g1) ((hb.block bk (h.vs bk v2).1).trans g2)).mono (fun e w' hh => lift _ hb e w' hh))
    clear h hl hf g1 g2 lift hb
    dsimp only [thU]
    go_enter Tryz.func59, Tryz.ntmps59
    go_wp2_with fail
    refine (unhide CB).mono ?_
    rintro e u1 ⟨⟨r1, rfl⟩, p⟩
    go_wp2_with fail
    go_end0
    exact ⟨⟨_, rfl⟩, p⟩
  | some y =>
    obtain ⟨bn, c', v3, g4, g5, g6, g7⟩ := g3
    dsimp only at g7
    subst g7
    have hb := (Below.refl _ w).alloc (Nat.le_refl _) (.cells #[.func (.func 81) #[] #[.pointer (some ⟨bs, 0, none⟩), .pointer (some ⟨bk, 0, none⟩), .pointer (some ⟨bn, 0, none⟩)], .bool false] 73)
    have CB := hide ((back2 (h.later hb) hl hf k hk bs bk bn c' y ((hb.block bs (h.vs bs v1).1).trans g1) ((hb.block bk (h.vs bk v2).1).trans g2) ((hb.block bn (h.vs bn v3).1).trans g4) (g5.move (fun b hb' => hb.block b (h.vs b hb').1)) g6).mono (fun e w' hh => lift _ hb e w' hh))
    clear h hl hf g1 g2 lift hb g4 g5
    dsimp only [thU]
    go_enter Tryz.func59, Tryz.ntmps59
    go_wp2_with fail
    refine (unhide CB).mono ?_
    rintro e u1 ⟨⟨r1, rfl⟩, p⟩
    go_wp2_with fail
    go_end0
    exact ⟨⟨_, rfl⟩, p⟩
end
end Go.Proofs.YtdaooapfokhfcaaGreat

set_option linter.unusedSimpArgs false
namespace Go.Proofs.YtdaooapfokhfcaaGreat
open Go.RowKit
set_option linter.unusedVariables false

theorem op_in {l n : Nat} {P : Program} {o : Oper} {a : Act} {w : World} {K : Act → World → Prop} {Q : Exit → Act → World → Prop} (hd : ∀ c, o.op ≠ .defer c) (h : o.wp P a w K Q) : o.wpIn (Fence.wide.inRound l) n P a w K Q := by
  unfold Oper.wpIn
  refine ⟨fun _ _ => trivial, ?_⟩
  rw [show (Fence.wide.inRound l).round = some l from rfl, Oper.semAt_some l _ o hd]
  unfold Oper.wp at h
  generalize (execOp a.eval o).run P w = r at *
  cases r with
  | ok x w' =>
    cases x with
    | value v => exact h
    | skip => exact h
    | defer d => exact h
    | enter f args => exact ⟨(fun e => by cases e), callsIn_wide.2 h⟩
    | row row args => exact ⟨(fun e => by cases e), fun c cs _ => (by
        have h' : Rows P row args w' fun v w'' => K (a.put o.dst v) w'' := h
        obtain ⟨v, w1, r, s⟩ := h' c cs
        exact ⟨v, w1, r, stepsIn_wide.2 s⟩)⟩
    | _ => exact h.elim
  | halt x w' => cases x <;> first | exact h | exact h.elim

theorem any_in {l n : Nat} {P : Program} {md : Region.Mode} {ops : Array Oper} {Q : Exit → Act → World → Prop} (hd : ∀ (i : Nat) (o : Oper), ops[i]? = some o → ∀ c, o.op ≠ .defer c) (hq : ¬ LetsOut Q) :
    ∀ (f : Nat) (listed : Array Bool) (a : Act) (w : World), wpAny P md ops Q f listed a w → wpAnyIn (Fence.wide.inRound l) n P md ops Q f listed a w
  | 0, _, _, _, h => h
  | f + 1, listed, a, w, h => ⟨h.1, fun i hi => by
    have h1 := h.2 i hi
    unfold wpOp at h1
    unfold wpOpIn
    split
    · rename_i e
      rw [e] at h1
      exact any_in hd hq f _ _ _ h1
    · rename_i o e
      rw [e] at h1
      simp only at h1
      split
      · rename_i hw
        rw [if_pos hw] at h1
        have h1 := h1.resolve_right (fun h => hq h.2)
        exact op_in (hd i o e) (Oper.wp_mono (fun a w h' => any_in hd hq f _ a w h') h1)
      · rename_i hw
        rw [if_neg hw] at h1
        exact ⟨fun _ _ => trivial, any_in hd hq f _ _ _ h1⟩⟩

theorem till_in {l n : Nat} {P : Program} {ops : Array Oper} {Q : Exit → Act → World → Prop} {S : World → Prop} {id : Nat} {a : Act} {w : World} (z : Nat) (hm : P.follows .mixedOrders = true) (hd : ∀ (i : Nat) (o : Oper), ops[i]? = some o → ∀ c, o.op ≠ .defer c) (hq : ¬ LetsOut Q)
    (h : Till P .any ops Q S z ops.size (Array.replicate ops.size false) a w.drew) : (Code.region id ops true).wpIn (Fence.wide.inRound l) n P Q a w :=
  wpIn_region_any hm (any_in hd hq _ _ _ _ (Till.any _ _ _ _ h))
/-- no way out by a panic -/
def NP (Q : Exit → Act → World → Prop) : Exit → Act → World → Prop
  | .panic _, _, _ => False
  | e, a, w => Q e a w

theorem wp_np {P : Program} {c : Code} {Q : Exit → Act → World → Prop} {a : Act} {w : World} (h : c.wp P (NP Q) a w) : c.wp P Q a w :=
  wpIn_wide.1 (wpIn_mono (n := 0) (wpIn_wide.2 h) (fun e a w hh => by
    cases e <;> first | exact hh | exact hh.elim))
end Go.Proofs.YtdaooapfokhfcaaGreat
