/-
  The walk of value.Without where it refuses; conditions: the form's own reach.
-/
import Derived.Test.YtgkmdjmigehmeaaGreatDoorR20
import Derived.Test.YtgkmdjmigehmeaaGreatDoorR13
import Derived.Test.YtgkmdjmigehmeaaGreatDoorR17
import Derived.Test.YtgkmdjmigehmeaaGreatDoorR11
import Derived.Deep.AppendLies
import Derived.Test.YtgkmdjmigehmeaaGreatDoorR07
import Derived.Test.YtgkmdjmigehmeaaGreatDoorR12
import Derived.Test.YtgkmdjmigehmeaaGreatDoorR02
import Derived.Deep.QuietTactic
import Derived.BigQuiet
namespace Go.Proofs.YtgkmdjmigehmeaaGreatDoor
set_option linter.unusedVariables false
set_option linter.unusedSimpArgs false
set_option maxRecDepth 100000
set_option maxHeartbeats 16000000
open Go.RowKit
def withoutC (v : Vl) (key : ByteArray) : Int :=
 if rightB v = true then (if v.kind = 5 then (if placeK v.ks key = none then 32 else 0) else 31) else 30
theorem without_no (v : Vl) (vv : Value) (B : Nat) (key : ByteArray) (w : World) (hv : IsV w B v vv) (hBs : B ≤ w.heap.size) (hno : withoutC v key ≠ 0) :
  Calls Tryz.prog 112 #[vv, .string key] w fun e w' => e = .returned (.tuple #[.agg #[.int .i64 0, .int .i64 0, .string ⟨#[]⟩, .slice none 0 0, .slice none 0 0], .int .i64 (withoutC v key)]) ∧ Below w.heap.size w w' := by
 obtain ⟨k, n, s, l, ks, al, ak, cl, ck, rfl, rfl⟩ := hv.shape
 obtain ⟨m, hm⟩ : ∃ m, ks.length = m := ⟨_, rfl⟩
 obtain ⟨ln, hln⟩ : ∃ ln, l.length = ln := ⟨_, rfl⟩
 rw [hm, hln] at hv
 rw [hm, hln]
 obtain ⟨g, hg⟩ : ∃ g, w.heap.size = g := ⟨_, rfl⟩
 have TW := Two.mk' w 25 #[.int .i64 k, .int .i64 n, .string s, .slice al ln cl, .slice ak m ck] #[.int .i64 0, .int .i64 0, .string ⟨#[]⟩, .slice none 0 0, .slice none 0 0]
 obtain ⟨w2, hw2⟩ : ∃ w2, (w.alloc (.cells #[.int .i64 k, .int .i64 n, .string s, .slice al ln cl, .slice ak m ck] 25)).alloc (.cells #[.int .i64 0, .int .i64 0, .string ⟨#[]⟩, .slice none 0 0, .slice none 0 0] 25) = w2 := ⟨_, rfl⟩
 rw [hw2, hg] at TW
 have hz : Wy w w2 g #[.int .i64 k, .int .i64 n, .string s, .slice al ln cl, .slice ak m ck] #[.int .i64 0, .int .i64 0, .string ⟨#[]⟩, .slice none 0 0, .slice none 0 0] := by
  have h1 := TW.later (Below.refl _ _)
  have h2 := TW.size
  have h3 := TW.below
  rw [hg] at h3
  exact ⟨h1.1, h1.2, by omega, h3⟩
 have HVV : Hid (∀ u, Below g w u → IsV u B (.mk k n s l ks) (.agg #[.int .i64 k, .int .i64 n, .string s, .slice al ln cl, .slice ak m ck]) ∧ B ≤ u.heap.size) := hide (fun u hu => ⟨hv.mono (hu.mono (by omega)), by have := hu.size; omega⟩)
 have CR := hide (right_code (.mk k n s l ks) _ B w2 (uh HVV w2 hz.below).1 (uh HVV w2 hz.below).2)
 have HZ := hide hz
 obtain ⟨c0, c1, c2, c3, c4⟩ := row_cell hz.at0
 clear hz hv hln TW
 cases hR : rightB (.mk k n s l ks) with
 | false =>
  have hC : withoutC (.mk k n s l ks) key = 30 := by unfold withoutC; rw [if_neg (by rw [hR]; simp)]
  rw [hC]
  rw [hR] at CR
  clear hno hC hR hm
  go_enter Tryz.func112, Tryz.ntmps112
  go_wp2_with fail
  refine (uh CR).mono ?_
  rintro e u3 ⟨rfl, b3⟩
  have HZ3 := hide ((uh HZ).later b3)
  clear b3 CR c0 c1 c2 c3 c4 hw2
  have ATX : u3.heap[g + 1]? = some (.cells #[.int .i64 0, .int .i64 0, .string ⟨#[]⟩, .slice none 0 0, .slice none 0 0] 25 (0, 0)) := (uh HZ3).at1
  obtain ⟨z0, z1, z2, z3, z4⟩ := row_cell ATX
  have fz : ∀ q, u3.frozen? ⟨g + 1, q, none⟩ = false := fun q => frozen_of_row u3 (g + 1) q _ _ ATX
  have fz0 := fz 0
  have fz1 := fz 1
  have fz2 := fz 2
  have fz3 := fz 3
  have fz4 := fz 4
  have HAT := hide ATX
  clear fz ATX
  go_wp2_with fail
  have ATX := uh HAT
  have BW : Below g w u3 := (uh HZ3).below
  have R9 := five_set u3 (g + 1) 25 _ _ _ _ _ (.int .i64 0) (.int .i64 0) (.string ⟨#[]⟩) (.slice none 0 0) (.slice none 0 0) ATX
  have B9 := five_below (g := g + 1) BW (by omega) (.int .i64 0) (.int .i64 0) (.string ⟨#[]⟩) (.slice none 0 0) (.slice none 0 0)
  obtain ⟨w9, hw9⟩ : ∃ w9, (((((u3.setCell ⟨g + 1, 0, none⟩ (.int .i64 0)).setCell ⟨g + 1, 1, none⟩ (.int .i64 0)).setCell ⟨g + 1, 2, none⟩ (.string ⟨#[]⟩)).setCell ⟨g + 1, 3, none⟩ (.slice none 0 0)).setCell ⟨g + 1, 4, none⟩ (.slice none 0 0)) = w9 := ⟨_, rfl⟩
  rw [hw9] at R9 B9 ⊢
  obtain ⟨r0, r1, r2, r3, r4⟩ := row_cell R9
  refine bodyPost_ret (v := .tuple #[.agg #[.int .i64 0, .int .i64 0, .string ⟨#[]⟩, .slice none 0 0, .slice none 0 0], .int .i64 30]) (by simp [results, Tryz.results112, go_sem, r0, r1, r2, r3, r4]) rfl ?_
  rw [hg]
  exact ⟨rfl, B9⟩
 | true =>
  by_cases h5 : k = 5
  ·subst h5
   have hp : placeK ks key = none := by
    unfold withoutC at hno
    rw [if_pos hR, if_pos rfl] at hno
    by_cases hp : placeK ks key = none
    ·exact hp
    ·rw [if_neg hp] at hno
     exact absurd rfl hno
   have hC : withoutC (.mk 5 n s l ks) key = 32 := by unfold withoutC; rw [if_pos hR, if_pos rfl, if_pos hp]
   have HR := hide (And.intro (right_keys hR).1 (And.intro hm hp))
   rw [hC]
   rw [hR] at CR
   clear hno hC hR hm hp
   go_enter Tryz.func112, Tryz.ntmps112
   go_wp2_with fail
   refine (uh CR).mono ?_
   rintro e u3 ⟨rfl, b3⟩
   have HZ3 := hide ((uh HZ).later b3)
   clear b3 CR c0 c1 c2 c3 c4 hw2
   obtain ⟨c0, c1, c2, c3, c4⟩ := row_cell (uh HZ3).at0
   have CB := hide (search_any ks ak ck u3 (uh HVV u3 (uh HZ3).below).1.keys.1 (uh HR).1 key)
   rw [(uh HR).2.1] at CB
   go_wp2_with fail
   refine (uh CB).mono ?_
   rintro e u4 ⟨L, rfl, hL1, hL2, rfl⟩
   have hF : decide (ks[L]? = some key) = false := by
    cases hd : decide (ks[L]? = some key) with
    | false => rfl
    | true =>
     have h1 := (place_of (uh HR).1 hL2).1 (of_decide_eq_true hd)
     rw [(uh HR).2.2] at h1
     cases h1
   rw [hF]
   clear hF hL1 hL2 CB
   have ATX : u4.heap[g + 1]? = some (.cells #[.int .i64 0, .int .i64 0, .string ⟨#[]⟩, .slice none 0 0, .slice none 0 0] 25 (0, 0)) := (uh HZ3).at1
   obtain ⟨z0, z1, z2, z3, z4⟩ := row_cell ATX
   have fz : ∀ q, u4.frozen? ⟨g + 1, q, none⟩ = false := fun q => frozen_of_row u4 (g + 1) q _ _ ATX
   have fz0 := fz 0
   have fz1 := fz 1
   have fz2 := fz 2
   have fz3 := fz 3
   have fz4 := fz 4
   have HAT := hide ATX
   clear fz ATX
   go_wp2_with fail
   have ATX := uh HAT
   have BW : Below g w u4 := (uh HZ3).below
   have R9 := five_set u4 (g + 1) 25 _ _ _ _ _ (.int .i64 0) (.int .i64 0) (.string ⟨#[]⟩) (.slice none 0 0) (.slice none 0 0) ATX
   have B9 := five_below (g := g + 1) BW (by omega) (.int .i64 0) (.int .i64 0) (.string ⟨#[]⟩) (.slice none 0 0) (.slice none 0 0)
   obtain ⟨w9, hw9⟩ : ∃ w9, (((((u4.setCell ⟨g + 1, 0, none⟩ (.int .i64 0)).setCell ⟨g + 1, 1, none⟩ (.int .i64 0)).setCell ⟨g + 1, 2, none⟩ (.string ⟨#[]⟩)).setCell ⟨g + 1, 3, none⟩ (.slice none 0 0)).setCell ⟨g + 1, 4, none⟩ (.slice none 0 0)) = w9 := ⟨_, rfl⟩
   rw [hw9] at R9 B9 ⊢
   obtain ⟨r0, r1, r2, r3, r4⟩ := row_cell R9
   refine bodyPost_ret (v := .tuple #[.agg #[.int .i64 0, .int .i64 0, .string ⟨#[]⟩, .slice none 0 0, .slice none 0 0], .int .i64 32]) (by simp [results, Tryz.results112, go_sem, r0, r1, r2, r3, r4]) rfl ?_
   rw [hg]
   exact ⟨rfl, B9⟩
  ·have hC : withoutC (.mk k n s l ks) key = 31 := by unfold withoutC; rw [if_pos hR, if_neg h5]
   rw [hC]
   rw [hR] at CR
   clear hno hC hR hm
   go_enter Tryz.func112, Tryz.ntmps112
   go_wp2_with fail
   refine (uh CR).mono ?_
   rintro e u3 ⟨rfl, b3⟩
   have HZ3 := hide ((uh HZ).later b3)
   clear b3 CR c0 c1 c2 c3 c4 hw2
   obtain ⟨c0, c1, c2, c3, c4⟩ := row_cell (uh HZ3).at0
   have ATX : u3.heap[g + 1]? = some (.cells #[.int .i64 0, .int .i64 0, .string ⟨#[]⟩, .slice none 0 0, .slice none 0 0] 25 (0, 0)) := (uh HZ3).at1
   obtain ⟨z0, z1, z2, z3, z4⟩ := row_cell ATX
   have fz : ∀ q, u3.frozen? ⟨g + 1, q, none⟩ = false := fun q => frozen_of_row u3 (g + 1) q _ _ ATX
   have fz0 := fz 0
   have fz1 := fz 1
   have fz2 := fz 2
   have fz3 := fz 3
   have fz4 := fz 4
   have HAT := hide ATX
   clear fz ATX
   go_wp2_with fail
   have ATX := uh HAT
   have BW : Below g w u3 := (uh HZ3).below
   have R9 := five_set u3 (g + 1) 25 _ _ _ _ _ (.int .i64 0) (.int .i64 0) (.string ⟨#[]⟩) (.slice none 0 0) (.slice none 0 0) ATX
   have B9 := five_below (g := g + 1) BW (by omega) (.int .i64 0) (.int .i64 0) (.string ⟨#[]⟩) (.slice none 0 0) (.slice none 0 0)
   obtain ⟨w9, hw9⟩ : ∃ w9, (((((u3.setCell ⟨g + 1, 0, none⟩ (.int .i64 0)).setCell ⟨g + 1, 1, none⟩ (.int .i64 0)).setCell ⟨g + 1, 2, none⟩ (.string ⟨#[]⟩)).setCell ⟨g + 1, 3, none⟩ (.slice none 0 0)).setCell ⟨g + 1, 4, none⟩ (.slice none 0 0)) = w9 := ⟨_, rfl⟩
   rw [hw9] at R9 B9 ⊢
   obtain ⟨r0, r1, r2, r3, r4⟩ := row_cell R9
   refine bodyPost_ret (v := .tuple #[.agg #[.int .i64 0, .int .i64 0, .string ⟨#[]⟩, .slice none 0 0, .slice none 0 0], .int .i64 31]) (by simp [results, Tryz.results112, go_sem, r0, r1, r2, r3, r4]) rfl ?_
   rw [hg]
   exact ⟨rfl, B9⟩
def withE (v : Vl) (key : ByteArray) (x : Vl) : Int := if withC v key x = 0 then (if rightB (withV v.l v.ks key x) = true then 0 else 33) else withC v key x
theorem withC_zero {v x : Vl} {key : ByteArray} (h : withC v key x = 0) : rightB v = true ∧ rightB x = true ∧ v.kind = 5 ∧ key.size ≤ 32 := by
 unfold withC at h
 split at h
 ·next h1 =>
  split at h
  ·next h2 =>
   split at h
   ·next h3 => exact ⟨h1.1, h1.2, h2, h3⟩
   ·cases h
  ·cases h
 ·cases h
theorem with_any (v x : Vl) (vv xx : Value) (B : Nat) (key : ByteArray) (w : World) (hv : IsV w B v vv) (hx : IsV w B x xx) (hBs : B ≤ w.heap.size) :
  Calls Tryz.prog 111 #[vv, .string key, xx] w fun e w' => ∃ x', e = .returned (.tuple #[x', .int .i64 (withE v key x)]) ∧ Below w.heap.size w w' ∧ (withE v key x = 0 → IsQ w' (fun b => w.heap.size ≤ b ∧ b < w'.heap.size) (withV v.l v.ks key x) x') ∧ (withE v key x ≠ 0 → x' = .agg #[.int .i64 0, .int .i64 0, .string ⟨#[]⟩, .slice none 0 0, .slice none 0 0]) := by
 by_cases h0 : withC v key x = 0
 ·obtain ⟨h1, h2, h3, h4⟩ := withC_zero h0
  obtain ⟨k, n, s, l, ks, al, ak, cl, ck, rfl, rfl⟩ := hv.shape
  have h3' : k = 5 := h3
  subst h3'
  have he : withE (.mk 5 n s l ks) key x = if rightB (withV l ks key x) = true then 0 else 33 := by unfold withE; rw [if_pos h0]
  refine (with_in n s l ks al ak cl ck x xx B key w hv hx hBs h1 h2 h4).mono ?_
  rintro e w' ⟨x', rfl, b, q1, q2⟩
  rw [he]
  refine ⟨x', rfl, b, fun h => q1 ?_, fun h => q2 ?_⟩
  ·cases hR : rightB (withV l ks key x) with
   | true => rfl
   | false => rw [hR] at h; simp at h
  ·cases hR : rightB (withV l ks key x) with
   | true => rw [hR] at h; simp at h
   | false => rfl
 ·have he : withE v key x = withC v key x := by unfold withE; rw [if_neg h0]
  rw [he]
  refine (with_no v x vv xx B key w hv hx hBs h0).mono ?_
  rintro e w' ⟨rfl, b⟩
  exact ⟨_, rfl, b, fun h => absurd h h0, fun _ => rfl⟩
theorem withoutC_zero {v : Vl} {key : ByteArray} (h : withoutC v key = 0) : rightB v = true ∧ v.kind = 5 ∧ ∃ I, placeK v.ks key = some I := by
 unfold withoutC at h
 split at h
 ·next h1 =>
  split at h
  ·next h2 =>
   split at h
   ·cases h
   ·next h3 =>
    cases hp : placeK v.ks key with
    | none => exact absurd hp h3
    | some I => exact ⟨h1, h2, I, rfl⟩
  ·cases h
 ·cases h
theorem without_any (v : Vl) (vv : Value) (B : Nat) (key : ByteArray) (w : World) (hv : IsV w B v vv) (hBs : B ≤ w.heap.size) :
  Calls Tryz.prog 112 #[vv, .string key] w fun e w' => ∃ x', e = .returned (.tuple #[x', .int .i64 (withoutC v key)]) ∧ Below w.heap.size w w' ∧ (∀ I, withoutC v key = 0 → placeK v.ks key = some I → IsQ w' (fun b => w.heap.size ≤ b ∧ b < w'.heap.size) (.mk 5 v.n v.s (v.l.eraseIdx I) (v.ks.eraseIdx I)) x') ∧ (withoutC v key ≠ 0 → x' = .agg #[.int .i64 0, .int .i64 0, .string ⟨#[]⟩, .slice none 0 0, .slice none 0 0]) := by
 by_cases h0 : withoutC v key = 0
 ·obtain ⟨h1, h2, I, hI⟩ := withoutC_zero h0
  obtain ⟨k, n, s, l, ks, al, ak, cl, ck, rfl, rfl⟩ := hv.shape
  have h2' : k = 5 := h2
  subst h2'
  rw [h0]
  refine (without_in n s l ks al ak cl ck B key I w hv hBs h1 hI).mono ?_
  rintro e w' ⟨x', rfl, b, q⟩
  refine ⟨x', rfl, b, fun J _ hJ => ?_, fun h => absurd rfl h⟩
  have e1 : some I = some J := hI.symm.trans hJ
  cases e1
  exact q
 ·refine (without_no v vv B key w hv hBs h0).mono ?_
  rintro e w' ⟨rfl, b⟩
  exact ⟨_, rfl, b, fun _ h => absurd h h0, fun _ => rfl⟩
theorem wpl_oneG {P : Program} {w : World} {ops : Array Oper} {rest : List Oper} {o : Oper} {a : Act} {Q : Exit → Act → World → Prop} (hgd : o.guard = none) (sl x : Operand) (T e : TypeId) (i0 : TypeInfo) (z : Value) (size bytes : Nat)
  (hu : P.underlying T = some (.slice e)) (hi : P.info? e = some i0) (hz : i0.zero = some z) (hs1 : i0.size = size) (hby : i0.bytes = bytes) (hzs : z.cells.size = size) (hsz : 0 < size)
  (ho : o.op = .call { callee := .builtin .append, args := #[sl, x], argTypes := #[T, T] })
  (base n : Nat) (v : Value) (xs : List Value) (A : List Value) (hA : A.length = size) (h1 : ∀ u ∈ A, u.oneCell' = true) (hs : a.eval sl = v) (hown : w.ownsRow base e size v n xs)
  (hx : a.eval x = .slice (some ⟨w.heap.size, 0, none⟩) 1 1) (hn : n + 1 ≤ maxLen) (hbytes : (n + 1) * bytes ≤ 140737488355328) (hbase : base ≤ w.heap.size)
  (h : ∀ v' w', Hid (w'.ownsRow base e size v' (n + 1) (xs ++ A) ∧ w.grownBy w' v.ownBlock ∧ ∀ b, v'.ownBlock = some b → v.ownBlock = some b ∨ w.heap.size ≤ b) → wpList P ops Q rest (a.put o.dst v') w') :
  wpList P ops Q (o :: rest) a (w.alloc (.cells A.toArray e)) := by
 refine wpList_plain hgd fun K hK => ?_
 have hb : Below w.heap.size w (w.alloc (.cells A.toArray e)) := (Below.refl _ _).alloc (Nat.le_refl _) _
 have hnew := heap_alloc_new w (.cells A.toArray e)
 have hz1 : (w.alloc (.cells A.toArray e)).heap.size = w.heap.size + 1 := by simp
 obtain ⟨v', w', hrun, r1, r2, _, r4⟩ := run_append_own_at (P := P) (w.alloc (.cells A.toArray e)) base T o.type e i0 z size bytes hu hi hz hs1 hby hzs hsz v n xs (hown.alloc _) ⟨w.heap.size, 0, none⟩ 1 1 A (by omega) (fun j u hj => World.news_of_block hnew j u (by simpa using hj)) h1 hn hbytes (by omega)
 unfold Oper.wp
 simp only [execOp, ho, resolve, invoke, builtin, Sem.run_bind, Sem.run_pure, Result.andThen_ok, List.map_toArray, List.map_cons, List.map_nil, hs, hx, hrun]
 refine hK _ _ (h v' w' ⟨r1, ⟨r2.os, r2.tape, r2.output, by have := r2.size; omega, fun k hk hne => (r2.block k (by omega) hne).trans (heap_alloc_old w _ hk)⟩, fun b hb' => ?_⟩)
 rcases r4 with e' | e'
 ·exact Or.inl (by rw [← e']; exact hb')
 ·rw [hb'] at e'
  exact Or.inr (by rw [Option.some.inj e', hz1]; omega)
section
variable {α β : Type}
def putStep (key : ByteArray) (xi : α) (a : List (ByteArray × α) × Bool) (t : ByteArray × α) : List (ByteArray × α) × Bool :=
 if t.1 = key then (if a.2 = false ∧ bl t.1 key = false then (a.1 ++ [(key, xi)], true) else a)
 else ((if a.2 = false ∧ bl t.1 key = false then (a.1 ++ [(key, xi)], true) else a).1 ++ [t], (if a.2 = false ∧ bl t.1 key = false then (a.1 ++ [(key, xi)], true) else a).2)
def putEnd (key : ByteArray) (xi : α) (a : List (ByteArray × α) × Bool) : List (ByteArray × α) := if a.2 = false then a.1 ++ [(key, xi)] else a.1
def putF (key : ByteArray) (xi : α) (ts : List (ByteArray × α)) : List (ByteArray × α) := putEnd key xi (ts.foldl (putStep key xi) ([], false))
end
theorem fold_less {α : Type} (key : ByteArray) (x : α) : ∀ (ts : List (ByteArray × α)) (acc : List (ByteArray × α)), (∀ t ∈ ts, bl t.1 key = true) → ts.foldl (putStep key x) (acc, false) = (acc ++ ts, false)
 | [], acc, _ => by simp
 | t :: r, acc, h => by
  have h1 := h t List.mem_cons_self
  have hne : ¬ t.1 = key := fun e => by rw [e, kl_irr] at h1; cases h1
  rw [List.foldl_cons]
  have hs : putStep key x (acc, false) t = (acc ++ [t], false) := by
   unfold putStep
   simp [hne, h1]
  rw [hs, fold_less key x r _ (fun z hz => h z (List.mem_cons_of_mem _ hz))]
  simp
theorem fold_done {α : Type} (key : ByteArray) (x : α) : ∀ (ts : List (ByteArray × α)) (acc : List (ByteArray × α)), (∀ t ∈ ts, ¬ t.1 = key) → ts.foldl (putStep key x) (acc, true) = (acc ++ ts, true)
 | [], acc, _ => by simp
 | t :: r, acc, h => by
  have hne := h t List.mem_cons_self
  rw [List.foldl_cons]
  have hs : putStep key x (acc, true) t = (acc ++ [t], true) := by
   unfold putStep
   simp [hne]
  rw [hs, fold_done key x r _ (fun z hz => h z (List.mem_cons_of_mem _ hz))]
  simp
theorem putF_at {α : Type} (key : ByteArray) (x : α) (A B : List (ByteArray × α)) (hA : ∀ t ∈ A, bl t.1 key = true) (hB : ∀ t ∈ B, bl key t.1 = true) : putF key x (A ++ B) = A ++ (key, x) :: B ∧ ∀ y, putF key x (A ++ (key, y) :: B) = A ++ (key, x) :: B := by
 have hne : ∀ t ∈ B, ¬ t.1 = key := fun t ht e => by have := hB t ht; rw [e, kl_irr] at this; cases this
 have hnl : ∀ t ∈ B, bl t.1 key = false := fun t ht => kl_asym (hB t ht)
 constructor
 ·unfold putF
  rw [List.foldl_append, fold_less key x A [] hA]
  cases B with
  | nil => simp [putEnd]
  | cons t r =>
   have h1 := hne t List.mem_cons_self
   have h2 := hnl t List.mem_cons_self
   rw [List.foldl_cons]
   have hs : putStep key x ([] ++ A, false) t = (A ++ [(key, x), t], true) := by
    unfold putStep
    simp [h1, h2]
   rw [hs, fold_done key x r _ (fun z hz => hne z (List.mem_cons_of_mem _ hz))]
   simp [putEnd]
 ·intro y
  unfold putF
  rw [List.foldl_append, fold_less key x A [] hA, List.foldl_cons]
  have hs : putStep key x ([] ++ A, false) (key, y) = (A ++ [(key, x)], true) := by
   unfold putStep
   simp [kl_irr]
  rw [hs, fold_done key x B _ hne]
  simp [putEnd]
end Go.Proofs.YtgkmdjmigehmeaaGreatDoor
