/-
  Layer 17 (parse): what can't go on with a token can't, whatever stands behind it, of sources; plain lists, no conditions.
  Layer 17 (parse): a tree's cells; the walk of the law's shown; conditions: what the variables of strconv hold.
  Layer 17 (parse): All, Program and Expr as the laws call them; conditions: what the variables of strconv hold.
  Layer 17 (parse): trees in memory, as they are read; no conditions.
-/
import Derived.Test.YtgalfhlclmkbfaaGreatDoorC45
import Derived.Test.YtgalfhlclmkbfaaGreatDoorC42
set_option linter.unusedVariables false
set_option linter.unusedSimpArgs false
namespace Go.Proofs.YtgalfhlclmkbfaaGreatDoor
set_option linter.unusedVariables false
set_option linter.unusedSimpArgs false

theorem prL_end : ∀ (f x : Nat) (acc : List Nd) (l : List Tk) (d : Nat) (ns : List Nd) (l' : List Tk), PJ f 14 x acc l d = some (.ok (ns, l')) → (hdT l').k = 0
  | 0, _, _, _, _, _, _, h => by cases h
  | f + 1, x, acc, l, d, ns, l', h => by
    have h' : jPrL (PJ f) acc l d = some (.ok (ns, l')) := h
    unfold jPrL at h'
    by_cases hk : (hdT l).k = 0
    · rw [if_pos hk] at h'
      cases h'
      exact hk
    · rw [if_neg hk] at h'
      cases hb : PJ f 13 0 [] l d with
      | none => rw [hb] at h'; cases h'
      | some y =>
        rw [hb] at h'
        cases y with
        | error e => cases h'
        | ok z => exact prL_end f 0 _ _ d ns l' h'
theorem prog_end {f x : Nat} {acc : List Nd} {l : List Tk} {d : Nat} {ns : List Nd} {l' : List Tk} (h : PJ f 27 x acc l d = some (.ok (ns, l'))) : (hdT l').k = 0 := by
  cases f with
  | zero => cases h
  | succ f =>
    have h' : bnd (PJ f 14 0 [] l d) (fun ks l1 => okN [nd0 1 [] ks 0] l1) = some (.ok (ns, l')) := h
    cases hb : PJ f 14 0 [] l d with
    | none => rw [hb] at h'; cases h'
    | some y =>
      rw [hb] at h'
      cases y with
      | error e => cases h'
      | ok z =>
        have h2 := prL_end f 0 [] l d z.1 z.2 hb
        cases h'
        exact h2

theorem err_mem {f : Nat} {ts : List Tk} {c p : Nat} (hz : ∃ w q, ts = w ++ [endT q]) (h : PJ f 27 0 [] ts 0 = some (.error (c, p))) : ∃ t ∈ ts, t.p = p := by
  have hr := (rel_all (smS ts [] hz) f).1 false 27 0 [] [] ts ts 0 0 ⟨(fun e => by cases e), (by decide), (fun e => by cases e)⟩ (fun _ => rfl) ⟨by obtain ⟨w, q, rfl⟩ := hz; simp, [], rfl⟩ ⟨Nat.le_refl _, fun _ => rfl⟩
  rw [h] at hr
  exact hr

theorem inc_of {ts : List Tk} (h : ∀ (i : Nat) (a b : Tk), ts[i]? = some a → ts[i + 1]? = some b → a.p < b.p) (i : Nat) : ∀ (k : Nat) (a b : Tk), ts[i]? = some a → ts[i + 1 + k]? = some b → a.p < b.p
  | 0, a, b, ha, hb => h i a b ha hb
  | k + 1, a, b, ha, hb => by
    have hlt : i + 1 + k < ts.length := by
      have := (List.getElem?_eq_some_iff.1 hb).1
      omega
    have h1 := inc_of h i k a _ ha (List.getElem?_eq_getElem hlt)
    have h2 := h (i + 1 + k) _ b (List.getElem?_eq_getElem hlt) hb
    omega

theorem fr10 : frB 10 = true := by decide +kernel
theorem fr59 : frB 59 = true := by decide +kernel

theorem stops_all {s rest : List UInt8} {ts : List Tk} {f j : Nat} {t t2 : Tk} {c : Nat} (ha : allT s = .ok ts) (h1 : ts[j]? = some t) (h2 : ts[j + 1]? = some t2) (hp : PJ f 27 0 [] ts 0 = some (.error (c, t.p))) (hl : (s.take t2.p ++ 10 :: rest).length ≤ 8192) :
    (∃ q er, allT (s.take t2.p ++ 10 :: rest) = .error (q, er)) ∨ ∃ ts', allT (s.take t2.p ++ 10 :: rest) = .ok ts' ∧ PJ f 27 0 [] ts' 0 = some (.error (c, t.p)) := by
  obtain ⟨⟨us, hus⟩, g2, g3⟩ := all_ok ha
  have hu := (g2 (j + 1) t2 h2).2
  have hlen : (s.take t2.p).length ≤ 8192 := by
    rw [List.length_append] at hl
    omega
  rw [gp_all hlen] at hu
  obtain ⟨b', hb⟩ := gp_app _ _ _ _ _ _ (Nat.le_refl _) hu
  have hb2 := hb 10 rest fr10
  rw [← gp_all hl] at hb2
  have hj : j + 1 < ts.length := (List.getElem?_eq_some_iff.1 h2).1
  cases hx : gpT b' (0 + (s.take t2.p).length) (10 :: rest) with
  | error e =>
    rw [hx] at hb2
    exact .inl ⟨e.1, e.2, hb2⟩
  | ok z' =>
    rw [hx] at hb2
    refine .inr ⟨_, hb2, ?_⟩
    refine stops (z := ts.drop (j + 1)) rfl (by decide) ?_ ?_ (by rw [List.take_append_drop]; exact hp) ?_
    · rw [hus, List.length_append, List.length_cons, List.length_nil] at hj
      refine ⟨us.drop (j + 1), s.length, ?_⟩
      rw [hus, List.drop_append_of_le_length (by omega)]
    · intro e
      have := congrArg List.length e
      rw [List.length_take, List.length_nil] at this
      omega
    · intro x hx e
      obtain ⟨k, hk, rfl⟩ := List.getElem_of_mem hx
      rw [List.length_drop] at hk
      have h3 : ts[j + 1 + k]? = some ((ts.drop (j + 1))[k]'(by rw [List.length_drop]; exact hk)) := by
        rw [List.getElem_drop]
        exact List.getElem?_eq_getElem _
      have := inc_of g3 j k t _ h1 h3
      omega
end Go.Proofs.YtgalfhlclmkbfaaGreatDoor

namespace Go.Proofs.YtgalfhlclmkbfaaGreatDoor
open Go.RowKit
set_option linter.unusedVariables false
set_option linter.unusedSimpArgs false

theorem one_of {lo : Nat} {w : World} {k' : Nat} {t' : List UInt8} {vk' vn' : Nat} {vs' : List UInt8} {f' : Bool} {ks' : List Nd} {p' : Nat} {k : Nat} {t : List UInt8} {vk vn : Nat} {vs : List UInt8} {f : Bool} {n : Nat} {ak : Option Addr} {ck p : Nat} {S : List Nat}
    (h : NdOk lo w [⟨k', t', vk', vn', vs', f', ks', p'⟩] (ndC k t vk vn vs f n ak ck p) S) : k = k' ∧ t = t' ∧ vk = vk' ∧ vn = vn' ∧ vs = vs' ∧ f = f' ∧ n = ks'.length ∧ p = p' := by
  have hn := h.nl
  simp only [IsNL] at hn
  obtain ⟨ak1, ck1, C', R, S1, S2, hC, hS, ho, h1, h2, h3⟩ := hn
  subst h2 h3
  simp only [ndC, List.append_nil, List.cons.injEq, Value.int.injEq, Value.string.injEq, Value.slice.injEq, Value.bool.injEq, true_and, and_true] at hC
  obtain ⟨e1, e2, e3, e4, e5, e6, ⟨e7, e8, e9⟩, e10⟩ := hC
  exact ⟨by omega, bA_inj.1 e2, by omega, by omega, bA_inj.1 e5, e6, by omega, by omega⟩

def tsX : List Tk := [⟨3, [], 1, 0⟩, ⟨5, [43], 0, 2⟩, ⟨1, [120], 0, 4⟩, endT 5]
def ndX : Nd := ⟨17, [43], 0, 0, [], false, [⟨13, [], 2, 1, [], false, [], 0⟩, nd0 14 [120] [] 4], 2⟩
theorem pgX : PgOf 0 [49, 32, 43, 32, 120] (.ok ([ndX], [endT 5])) := .inr ⟨tsX, 60, by kernel_rfl, by kernel_rfl⟩

/-- a node as the program gives it -/
def vN (k : Nat) (t : List UInt8) (vk vn : Nat) (vs : List UInt8) (f : Bool) (n : Nat) (ak : Option Addr) (ck p : Nat) : Array Value := #[.int .i64 (k : Int), .string (bA t), .int .i64 (vk : Int), .int .i64 (vn : Int), .string (bA vs), .slice none 0 0, .slice none 0 0, .bool f, .slice ak n ck, .int .i64 (p : Int)]

/-- what Program and Expr answer: a tree -/
theorem TrR.yes {w : World} {k' : Nat} {t' : List UInt8} {vk' vn' : Nat} {vs' : List UInt8} {f' : Bool} {ks' : List Nd} {p' : Nat} {l : List Tk} {e : Ending} {w' : World} (hl : (hdT l).k = 0) (h : TrR w (.ok ([⟨k', t', vk', vn', vs', f', ks', p'⟩], l)) e w') :
    ∃ (ak : Option Addr) (ck : Nat) (S : List Nat), e = .returned (.tuple #[.agg #[.int .i64 (k' : Int), .string (bA t'), .int .i64 (vk' : Int), .int .i64 (vn' : Int), .string (bA vs'), .slice none 0 0, .slice none 0 0, .bool f', .slice ak ks'.length ck, .int .i64 (p' : Int)], .int .i64 0, .int .i64 0]) ∧ NdOk w.heap.size w' [⟨k', t', vk', vn', vs', f', ks', p'⟩] (ndC k' t' vk' vn' vs' f' ks'.length ak ck p') S := by
  obtain ⟨k, t, vk, vn, vs, f, n, ak, ck, p, pl, er, S, rfl, h⟩ := h
  obtain ⟨rfl, rfl, _, h2⟩ := (unhide h).1 hl
  obtain ⟨rfl, rfl, rfl, rfl, rfl, rfl, rfl, rfl⟩ := one_of h2
  exact ⟨ak, ck, S, rfl, h2⟩
/-- or an error and its place -/
theorem TrR.no {w : World} {a q : Nat} {e : Ending} {w' : World} (h : TrR w (.error (a, q)) e w') :
    e = .returned (.tuple #[.agg #[.int .i64 0, .string ⟨#[]⟩, .int .i64 0, .int .i64 0, .string ⟨#[]⟩, .slice none 0 0, .slice none 0 0, .bool false, .slice none 0 0, .int .i64 0], .int .i64 (q : Int), .int .i64 (a : Int)]) := by
  obtain ⟨k, t, vk, vn, vs, f, n, ak, ck, p, pl, er, S, rfl, h⟩ := h
  obtain ⟨⟨rfl, rfl, rfl, rfl, rfl, rfl, rfl, rfl, rfl, rfl⟩, rfl, rfl⟩ := unhide h
  rfl

theorem bx (u : World) (c : Array Value) (T : TypeId) : (u.alloc (.cells c T)).heap[u.heap.size]? = some (.cells c T (0, 0)) ∧ Below u.heap.size u (u.alloc (.cells c T)) := ⟨heap_alloc_new _ _, (Below.refl _ _).alloc (Nat.le_refl _) _⟩
theorem one_ne {a b : Int} (h : a = b) : (a == b) = true := by simpa using h

set_option maxRecDepth 100000 in
set_option maxHeartbeats 1000000 in
theorem shown_any (w : World) (he : Ev w) (hw6 : 5 < w.heap.size) :
    Calls Tryz.prog 7 #[] w fun e w' => e = .returned (.bool true) ∧ Below w.heap.size w w' := by
  have CE := hide (expr_any ⟨#[49, 32, 43, 32, 120]⟩ w he hw6 pgX)
  clear he hw6
  go_enter Tryz.func7, Tryz.ntmps7
  go_wp2_with fail
  refine (unhide CE).mono ?_
  rintro e u ⟨h1, b1⟩
  obtain ⟨ak, ck, S, rfl, hS⟩ := TrR.yes rfl h1
  clear h1 hS CE
  have B1 := hide b1
  clear b1
  obtain ⟨A2, B2⟩ := bx u #[.int .i64 17, .string (bA [43]), .int .i64 0, .int .i64 0, .string (bA []), .slice none 0 0, .slice none 0 0, .bool false, .slice ak 2 ck, .int .i64 2] 29
  obtain ⟨w2, hw2⟩ : ∃ w2, u.alloc (.cells #[.int .i64 17, .string (bA [43]), .int .i64 0, .int .i64 0, .string (bA []), .slice none 0 0, .slice none 0 0, .bool false, .slice ak 2 ck, .int .i64 2] 29) = w2 := ⟨_, rfl⟩
  rw [hw2] at A2 B2
  obtain ⟨r0, r1, r2, r3, r4, r5, r6, r7, r8, r9⟩ := row_cell10 A2
  have HB : Hid (Below w.heap.size w w2) := hide ((unhide B1).trans (B2.mono (unhide B1).size))
  have HW := hide hw2
  clear A2 B2 hw2 B1
  go_upto_region 2 with fail
  rw [unhide HW]
  clear HW
  have q1 : ((bA [43]).toList == [43]) = true := by kernel_rfl
  obtain ⟨g, hg⟩ : ∃ g, u.heap.size = g := ⟨_, rfl⟩
  rw [hg] at r0 r1 r2 r3 r4 r5 r6 r7 r8 r9 ⊢
  clear hg
  go_wp2_with fail
  go_ret
  exact ⟨rfl, unhide HB⟩
end Go.Proofs.YtgalfhlclmkbfaaGreatDoor

namespace Go.Proofs.YtgalfhlclmkbfaaGreatDoor
open Go.RowKit
set_option linter.unusedVariables false
set_option linter.unusedSimpArgs false

/-- All, where it gives tokens -/
theorem all_toks (s : ByteArray) (ts : List Tk) (w : World) (he : Ev w) (hw6 : 5 < w.heap.size) (h : allT s.data.toList = .ok ts) (N : Nat) (hN : ts.length = N + 1) :
    Calls Tryz.prog 15 #[.string s] w fun e w' => ∃ b c, e = .returned (.tuple #[.slice (some ⟨b, 0, none⟩) (N + 1) c, .int .i64 0, .int .i64 0]) ∧ N + 1 ≤ c ∧ w.heap.size ≤ b ∧ c ≤ maxLen ∧ Hid (w'.ownsRow w.heap.size 52 4 (.slice (some ⟨b, 0, none⟩) (N + 1) c) (N + 1) (flT ts) ∧ TR w' (some ⟨b, 0, none⟩) ts ∧ Below w.heap.size w w') := by
  have hA := all_any s w he hw6
  rw [h] at hA
  refine hA.mono ?_
  rintro e w' ⟨⟨v, rfl, hown⟩, hb⟩
  rw [hN] at hown
  obtain ⟨ao, c, rfl, hs1, hs2, hs3, hs4⟩ := slice_form hown
  have ht := TR.of hown hN
  obtain ⟨t, ht0⟩ : ∃ t, ts[0]? = some t := ⟨_, List.getElem?_eq_getElem (by omega)⟩
  obtain ⟨b, rfl, _⟩ := ht 0 t ht0
  exact ⟨b, c, rfl, hs2, (hown.lt b (hs4 _ rfl).1).1, hs3, hide ⟨hown, ht, hb⟩⟩

/-- All, where it gives an error -/
theorem all_bad (s : ByteArray) (p er : Nat) (w : World) (he : Ev w) (hw6 : 5 < w.heap.size) (h : allT s.data.toList = .error (p, er)) :
    Calls Tryz.prog 15 #[.string s] w fun e w' => e = .returned (.tuple #[.slice none 0 0, .int .i64 (p : Int), .int .i64 (er : Int)]) ∧ Below w.heap.size w w' := by
  have hA := all_any s w he hw6
  rw [h] at hA
  exact hA

theorem TR.at {w : World} {b i : Nat} {ts : List Tk} {t : Tk} (h : TR w (some ⟨b, 0, none⟩) ts) (ht : ts[i]? = some t) : b < w.heap.size ∧ w.cell? ⟨b, i * 4, none⟩ = some (.int .i64 (t.k : Int)) ∧ w.cell? ⟨b, i * 4 + 1, none⟩ = some (.string (bA t.t)) ∧ w.cell? ⟨b, i * 4 + 2, none⟩ = some (.int .i64 (t.n : Int)) ∧ w.cell? ⟨b, i * 4 + 3, none⟩ = some (.int .i64 (t.p : Int)) := by
  obtain ⟨b', e, h1, h2, h3, h4, h5⟩ := h i t ht
  cases e
  exact ⟨h1, h2, h3, h4, h5⟩

theorem Ev.later {B : Nat} {w u : World} (h : Ev w) (hw : 5 < w.heap.size) (hb : Below w.heap.size w u) : Ev u ∧ 5 < u.heap.size := ⟨h.below hb hw, Nat.lt_of_lt_of_le hw hb.size⟩

theorem bA_nil : bA [] = ⟨#[]⟩ := rfl


/-- the error of an answer, and its place -/
def erOf (r : Rs (List Nd)) : Nat × Nat := match r with
  | .error (a, q) => (a, q)
  | .ok (_, l) => if (hdT l).k = 0 then (0, 0) else (170, (hdT l).p)
theorem TrR.er {w : World} {r : Rs (List Nd)} {e : Ending} {w' : World} (h : TrR w r e w') {E P : Nat} (hr : erOf r = (E, P)) :
    ∃ (k : Nat) (t : List UInt8) (vk vn : Nat) (vs : List UInt8) (f : Bool) (n : Nat) (ak : Option Addr) (ck p : Nat), e = .returned (.tuple #[.agg #[.int .i64 (k : Int), .string (bA t), .int .i64 (vk : Int), .int .i64 (vn : Int), .string (bA vs), .slice none 0 0, .slice none 0 0, .bool f, .slice ak n ck, .int .i64 (p : Int)], .int .i64 (P : Int), .int .i64 (E : Int)]) := by
  obtain ⟨k, t, vk, vn, vs, f, n, ak, ck, p, pl, er, S, rfl, h⟩ := h
  refine ⟨k, t, vk, vn, vs, f, n, ak, ck, p, ?_⟩
  replace h := unhide h
  match r, h, hr with
  | .error (a, q), h, hr =>
    obtain ⟨_, rfl, rfl⟩ := h
    cases hr
    rfl
  | .ok (ns, l), h, hr =>
    unfold erOf at hr
    by_cases hk : (hdT l).k = 0
    · simp only [hk, if_true] at hr
      cases hr
      obtain ⟨rfl, rfl, _⟩ := h.1 hk
      rfl
    · simp only [hk, if_false] at hr
      cases hr
      obtain ⟨_, rfl, rfl⟩ := h.2 hk
      rfl
theorem program_er (s : ByteArray) (w : World) (he : Ev w) (hw6 : 5 < w.heap.size) {r : Rs (List Nd)} (h : PgOf 27 s.data.toList r) {E P : Nat} (hr : erOf r = (E, P)) :
    Calls Tryz.prog 8 #[.string s] w fun e w' => ∃ (k : Nat) (t : List UInt8) (vk vn : Nat) (vs : List UInt8) (f : Bool) (n : Nat) (ak : Option Addr) (ck p : Nat), e = .returned (.tuple #[.agg #[.int .i64 (k : Int), .string (bA t), .int .i64 (vk : Int), .int .i64 (vn : Int), .string (bA vs), .slice none 0 0, .slice none 0 0, .bool f, .slice ak n ck, .int .i64 (p : Int)], .int .i64 (P : Int), .int .i64 (E : Int)]) ∧ Below w.heap.size w w' :=
  (program_any s w he hw6 h).mono (fun e w' h => by
    obtain ⟨k, t, vk, vn, vs, f, n, ak, ck, p, e⟩ := h.1.er hr
    exact ⟨k, t, vk, vn, vs, f, n, ak, ck, p, e, h.2⟩)
theorem expr_er (s : ByteArray) (w : World) (he : Ev w) (hw6 : 5 < w.heap.size) {r : Rs (List Nd)} (h : PgOf 0 s.data.toList r) {E P : Nat} (hr : erOf r = (E, P)) :
    Calls Tryz.prog 12 #[.string s] w fun e w' => ∃ (k : Nat) (t : List UInt8) (vk vn : Nat) (vs : List UInt8) (f : Bool) (n : Nat) (ak : Option Addr) (ck p : Nat), e = .returned (.tuple #[.agg #[.int .i64 (k : Int), .string (bA t), .int .i64 (vk : Int), .int .i64 (vn : Int), .string (bA vs), .slice none 0 0, .slice none 0 0, .bool f, .slice ak n ck, .int .i64 (p : Int)], .int .i64 (P : Int), .int .i64 (E : Int)]) ∧ Below w.heap.size w w' :=
  (expr_any s w he hw6 h).mono (fun e w' h => by
    obtain ⟨k, t, vk, vn, vs, f, n, ak, ck, p, e⟩ := h.1.er hr
    exact ⟨k, t, vk, vn, vs, f, n, ak, ck, p, e, h.2⟩)
end Go.Proofs.YtgalfhlclmkbfaaGreatDoor

namespace Go.Proofs.YtgalfhlclmkbfaaGreatDoor
open Go.RowKit
set_option linter.unusedVariables false
set_option linter.unusedSimpArgs false

theorem npL_len : ∀ (a b : List Nd), npL a = npL b → a.length = b.length
  | [], [], _ => rfl
  | [], .mk k t vk vn vs f ks p :: r, h => by simp [npL] at h
  | .mk k t vk vn vs f ks p :: r, [], h => by simp [npL] at h
  | .mk k t vk vn vs f ks p :: r, .mk k' t' vk' vn' vs' f' ks' p' :: r', h => by
    simp only [npL, List.cons.injEq] at h
    rw [List.length_cons, List.length_cons, npL_len r r' h.2]
theorem npL_at : ∀ (a b : List Nd), npL a = npL b → ∀ (i : Nat) (x y : Nd), a[i]? = some x → b[i]? = some y → npL [x] = npL [y]
  | [], _, _, i, x, y, h, _ => by simp at h
  | _ :: _, [], _, i, x, y, _, h => by simp at h
  | .mk k t vk vn vs f ks p :: r, .mk k' t' vk' vn' vs' f' ks' p' :: r', h, 0, x, y, hx, hy => by
    simp only [npL, List.cons.injEq] at h
    simp at hx hy
    subst hx
    subst hy
    simp only [npL, h.1]
  | .mk k t vk vn vs f ks p :: r, .mk k' t' vk' vn' vs' f' ks' p' :: r', h, i + 1, x, y, hx, hy => by
    simp only [npL, List.cons.injEq] at h
    exact npL_at r r' h.2 i x y (by simpa using hx) (by simpa using hy)
def szL : List Nd → Nat
  | [] => 0
  | .mk _ _ _ _ _ _ ks _ :: r => 1 + szL ks + szL r
theorem szL_at : ∀ (a : List Nd) (i : Nat) (x : Nd), a[i]? = some x → szL [x] ≤ szL a
  | [], i, x, h => by simp at h
  | .mk k t vk vn vs f ks p :: r, 0, x, h => by
    simp at h
    subst h
    simp only [szL]
    omega
  | .mk k t vk vn vs f ks p :: r, i + 1, x, h => by
    have := szL_at r i x (by simpa using h)
    simp only [szL] at this ⊢
    omega

/-- a node's cells, where its kids lie -/
def cN (x : Nd) (ak : Option Addr) (ck : Nat) : List Value := ndC x.k x.t x.vk x.vn x.vs x.f x.ks.length ak ck x.p

/-- trees that lie in memory -/
structure NdS (w : World) (ks : List Nd) (C : List Value) (S : List Nat) : Prop where
  nl : IsNL w ks C S
  lt : ∀ b ∈ S, b < w.heap.size
theorem NdOk.s {lo : Nat} {w : World} {ks : List Nd} {C : List Value} {S : List Nat} (h : NdOk lo w ks C S) : NdS w ks C S := ⟨h.nl, fun b hb => (h.rg b hb).2⟩
theorem NdS.later {w w' : World} {ks : List Nd} {C : List Value} {S : List Nat} (h : NdS w ks C S) (hb : Below w.heap.size w w') : NdS w' ks C S :=
  ⟨IsNL.to ks C S h.nl (fun b hm => hb.block b (h.lt b hm)), fun b hm => Nat.lt_of_lt_of_le (h.lt b hm) hb.size⟩

theorem nd_elem {w : World} : ∀ (ks : List Nd) (C : List Value) (S : List Nat), IsNL w ks C S → ∀ (i : Nat) (x : Nd), ks[i]? = some x → ∃ ak ck S', IsNL w [x] (cN x ak ck) S' ∧ (∀ j v, (cN x ak ck)[j]? = some v → C[i * 10 + j]? = some v) ∧ (∀ b ∈ S', b ∈ S)
  | [], C, S, h, i, x, hx => by simp at hx
  | .mk k t vk vn vs f ks p :: r, C, S, h, 0, x, hx => by
    simp at hx
    subst hx
    simp only [IsNL] at h
    obtain ⟨ak, ck, C', R, S1, S2, hC, hS, ho, h1, h2⟩ := h
    refine ⟨ak, ck, blkO ak ++ S1, ?_, fun j v hj => ?_, fun b hb => ?_⟩
    · simp only [IsNL, cN]
      exact ⟨ak, ck, C', [], S1, [], by rw [List.append_nil], by rw [List.append_nil], ho, h1, rfl, rfl⟩
    · have hlt : j < (ndC k t vk vn vs f ks.length ak ck p).length := (List.getElem?_eq_some_iff.1 hj).1
      rw [hC, Nat.zero_mul, Nat.zero_add, List.getElem?_append_left hlt]
      exact hj
    · rw [hS, ← List.append_assoc]
      exact List.mem_append_left _ hb
  | .mk k t vk vn vs f ks p :: r, C, S, h, i + 1, x, hx => by
    simp only [IsNL] at h
    obtain ⟨ak, ck, C', R, S1, S2, hC, hS, ho, h1, h2⟩ := h
    obtain ⟨ak', ck', S', g1, g2, g3⟩ := nd_elem r R S2 h2 i x (by simpa using hx)
    refine ⟨ak', ck', S', g1, fun j v hj => ?_, fun b hb => ?_⟩
    · have hl : (ndC k t vk vn vs f ks.length ak ck p).length = 10 := rfl
      rw [hC, List.getElem?_append_right (by omega), hl, show (i + 1) * 10 + j - 10 = i * 10 + j by omega]
      exact g2 j v hj
    · rw [hS, ← List.append_assoc]
      exact List.mem_append_right _ (g3 b hb)

/-- a node's kids: each lies as a node does -/
theorem nd_kid {w : World} {x : Nd} {ak : Option Addr} {ck : Nat} {S : List Nat} (h : NdS w [x] (cN x ak ck) S) (i : Nat) (y : Nd) (hy : x.ks[i]? = some y) :
    ∃ b ak' ck' S', ak = some ⟨b, 0, none⟩ ∧ b < w.heap.size ∧ x.ks.length ≤ ck ∧ ck ≤ maxLen ∧ NdS w [y] (cN y ak' ck') S' ∧ (∀ j v, (cN y ak' ck')[j]? = some v → w.cell? ⟨b, i * 10 + j, none⟩ = some v) ∧ (∀ b ∈ S', b ∈ S) := by
  obtain ⟨k, t, vk, vn, vs, f, ks, p⟩ := x
  have hn := h.nl
  simp only [IsNL, cN] at hn
  obtain ⟨ak1, ck1, C', R, S1, S2, hC, hS, ho, h1, h2, h3⟩ := hn
  subst h2 h3
  simp only [ndC, List.append_nil, List.cons.injEq, Value.int.injEq, Value.string.injEq, Value.slice.injEq, Value.bool.injEq, true_and, and_true] at hC
  obtain ⟨rfl, rfl⟩ := hC
  obtain ⟨ak', ck', S', g1, g2, g3⟩ := nd_elem ks C' S1 h1 i y hy
  have hil : i < ks.length := (List.getElem?_eq_some_iff.1 hy).1
  have hsub : ∀ b ∈ S', b ∈ S := fun b hb => by rw [hS, List.append_nil]; exact List.mem_append_right _ (g3 b hb)
  rcases ho.2 with ⟨_, e⟩ | ⟨b, cap, cur, e, hbb, hcur, hc1, hc2, rest⟩
  · omega
  · injection e with e1 e2 e3
    subst e1
    subst e3
    have hlt : b < w.heap.size := (Array.getElem?_eq_some_iff.1 hcur).1
    refine ⟨b, ak', ck', S', rfl, hlt, hc1, hc2, ⟨g1, fun c hc => h.lt c (hsub c hc)⟩, fun j v hj => ?_, hsub⟩
    have := ho.cells (g := b) rfl _ v (g2 j v hj)
    have ha : (⟨b, 0, none⟩ : Addr).add (i * 10 + j) = ⟨b, i * 10 + j, none⟩ := by unfold Addr.add; split <;> simp_all
    rwa [ha] at this
theorem nd_len {w : World} {x : Nd} {ak : Option Addr} {ck : Nat} {S : List Nat} (h : NdS w [x] (cN x ak ck) S) : x.ks.length ≤ maxLen := by
  obtain ⟨k, t, vk, vn, vs, f, ks, p⟩ := x
  have hn := h.nl
  simp only [IsNL, cN] at hn
  obtain ⟨ak1, ck1, C', R, S1, S2, hC, hS, ho, h1, h2, h3⟩ := hn
  show ks.length ≤ maxLen
  rcases ho.2 with ⟨_, e⟩ | ⟨b, cap, cur, e, hbb, hcur, hc1, hc2, rest⟩
  · rw [e]; unfold maxLen; omega
  · omega
end Go.Proofs.YtgalfhlclmkbfaaGreatDoor
