/-
  Do of comparisons of any two values (prim), and how a law asks for them; conditions: the package's variables.
-/
import Derived.Test.YtgkmdjmigehmeaaGreatDoorR35
import Derived.Test.YtgkmdjmigehmeaaGreatDoorR11
namespace Go.Proofs.YtgkmdjmigehmeaaGreatDoor
set_option linter.unusedVariables false
set_option linter.unusedSimpArgs false
set_option maxRecDepth 100000
set_option maxHeartbeats 16000000
open Go.RowKit Go.Shelf
theorem right_kind {v : Vl} (h : rightB v = true) : 0 ≤ v.kind ∧ v.kind ≤ 5 := by
 obtain ⟨k, n, s, l, ks⟩ := v
 unfold rightB at h
 rw [Bool.and_eq_true] at h
 have h1 := h.1
 unfold okB at h1
 rw [Bool.and_eq_true] at h1
 have h2 := h1.1
 unfold formB formM at h2
 show 0 ≤ k ∧ k ≤ 5
 by_cases hk : 0 ≤ k ∧ k ≤ 5
 ·exact hk
 ·rw [if_neg (by omega), if_neg (by omega), if_neg (by omega), if_neg (by omega), if_neg (by omega), if_neg (by omega)] at h2
  cases h2
theorem kdAt_two (x y : Vl) : kdAt [x, y] 0 = x.kind ∧ kdAt [x, y] 1 = y.kind ∧ ∀ i, kdAt [x, y] (i + 2) = 0 := ⟨rfl, rfl, fun i => by simp [kdAt]⟩
def ElsV (w : World) (B : Nat) (vs : List Vl) (C : List (List Value)) : Prop := C.length = vs.length ∧ ∀ (i : Nat) (y : Vl), vs[i]? = some y → ∃ c : List Value, C[i]? = some c ∧ c.length = 5 ∧ IsV w B y (.agg c.toArray)
theorem ElsV.len5 {w : World} {B : Nat} {vs : List Vl} {C : List (List Value)} (h : ElsV w B vs C) : ∀ c ∈ C, c.length = 5 := by
 intro c hc
 obtain ⟨i, hi⟩ := List.getElem?_of_mem hc
 obtain ⟨c', h1, h2, _⟩ := h.2 i _ (List.getElem?_eq_getElem (by have := (List.getElem?_eq_some_iff.1 hi).1; have := h.1; omega))
 rw [hi] at h1
 cases h1
 exact h2
theorem ElsV.one {w : World} {B : Nat} {vs : List Vl} {C : List (List Value)} (h : ElsV w B vs C) : ∀ u ∈ C.flatten, u.oneCell' = true := by
 intro u hu
 obtain ⟨c, hc, hu⟩ := List.mem_flatten.1 hu
 obtain ⟨i, hi⟩ := List.getElem?_of_mem hc
 obtain ⟨c', h1, h2, h3⟩ := h.2 i _ (List.getElem?_eq_getElem (by have := (List.getElem?_eq_some_iff.1 hi).1; have := h.1; omega))
 rw [hi] at h1
 cases h1
 obtain ⟨k', n', s', l', ks', al', ak', cl', ck', _, hx⟩ := h3.shape
 have e1 : c = [.int .i64 k', .int .i64 n', .string s', .slice al' l'.length cl', .slice ak' ks'.length ck'] := by
  have h4 := congrArg Array.toList (Value.agg.inj hx)
  simpa using h4
 rw [e1] at hu
 simp only [List.mem_cons, List.not_mem_nil, or_false] at hu
 rcases hu with rfl | rfl | rfl | rfl | rfl <;> rfl
theorem ElsV.later {w w' : World} {B : Nat} {vs : List Vl} {C : List (List Value)} (h : ElsV w B vs C) (hb : Below B w w') : ElsV w' B vs C :=
 ⟨h.1, fun i y hy => by obtain ⟨c, h1, h2, h3⟩ := h.2 i y hy; exact ⟨c, h1, h2, h3.mono hb⟩⟩
theorem ElsV.app {w : World} {B : Nat} {vs us : List Vl} {C D : List (List Value)} (h : ElsV w B vs C) (h' : ElsV w B us D) : ElsV w B (vs ++ us) (C ++ D) := by
 refine ⟨by rw [List.length_append, List.length_append, h.1, h'.1], fun i y hy => ?_⟩
 rcases Nat.lt_or_ge i vs.length with hi | hi
 ·rw [List.getElem?_append_left hi] at hy
  obtain ⟨c, h1, h2, h3⟩ := h.2 i y hy
  exact ⟨c, by rw [List.getElem?_append_left (by rw [h.1]; exact hi)]; exact h1, h2, h3⟩
 ·rw [List.getElem?_append_right hi] at hy
  obtain ⟨c, h1, h2, h3⟩ := h'.2 _ y hy
  exact ⟨c, by rw [List.getElem?_append_right (by rw [h.1]; exact hi), h.1]; exact h1, h2, h3⟩
theorem flat5_inv : ∀ (C : List (List Value)), (∀ c ∈ C, c.length = 5) → ∀ q u, C.flatten[q]? = some u → ∃ i j c, q = i * 5 + j ∧ C[i]? = some c ∧ c[j]? = some u
 | [], _, q, u, h => by simp at h
 | c :: r, h5, q, u, h => by
  have hc := h5 c List.mem_cons_self
  rw [List.flatten_cons] at h
  rcases Nat.lt_or_ge q 5 with hq | hq
  ·rw [List.getElem?_append_left (by omega)] at h
   exact ⟨0, q, c, by omega, rfl, h⟩
  ·rw [List.getElem?_append_right (by omega), hc] at h
   obtain ⟨i, j, c', h1, h2, h3⟩ := flat5_inv r (fun x hx => h5 x (List.mem_cons_of_mem _ hx)) _ u h
   exact ⟨i + 1, j, c', by omega, by simpa using h2, h3⟩
theorem addKs (a : Addr) (x y : Nat) : (a.add x).add y = a.add (x + y) := by
 unfold Addr.add
 by_cases hx : x = 0
 ·subst hx; simp
 ·by_cases hy : y = 0
  ·subst hy; simp
  ·have h : x + y ≠ 0 := by omega
   simp [hx, hy, h, Nat.add_assoc]
theorem flat5_at : ∀ (C : List (List Value)), (∀ c ∈ C, c.length = 5) → ∀ (i : Nat) (c : List Value) (j : Nat) (v : Value), C[i]? = some c → c[j]? = some v → C.flatten[i * 5 + j]? = some v
 | [], _, i, c, j, v, h, _ => by simp at h
 | x :: r, h5, i, c, j, v, h, hv => by
  have hx := h5 x List.mem_cons_self
  cases i with
  | zero =>
   simp at h
   subst h
   rw [List.flatten_cons, Nat.zero_mul, Nat.zero_add, List.getElem?_append_left (List.getElem?_eq_some_iff.1 hv).1]
   exact hv
  | succ i =>
   rw [List.flatten_cons, List.getElem?_append_right (by rw [hx]; omega), hx, show (i + 1) * 5 + j - 5 = i * 5 + j by omega]
   exact flat5_at r (fun y hy => h5 y (List.mem_cons_of_mem _ hy)) i c j v (by simpa using h) hv
theorem els_of {w : World} {B : Nat} {k n : Int} {s : ByteArray} {l : List Vl} {ks : List ByteArray} {al ak : Option Addr} {ln cl m ck : Nat} {k' n' : Int} {s' : ByteArray} (h : IsV w B (.mk k n s l ks) (.agg #[.int .i64 k', .int .i64 n', .string s', .slice al ln cl, .slice ak m ck])) : ln = l.length ∧ ∃ C, ElsV w B l C ∧ Shows w al ln cl 5 C.flatten := by
 obtain ⟨_, _, _, hll, _, V, hf, el⟩ := IsP.at h
 subst hll
 have hE : ElsV w B l ((List.range l.length).map V) := by
  refine ⟨by simp, fun i y hy => ?_⟩
  have hi := (List.getElem?_eq_some_iff.1 hy).1
  exact ⟨V i, by rw [List.getElem?_map, List.getElem?_range hi]; rfl, hf.hv i hi, el i y hy⟩
 refine ⟨rfl, _, hE, ?_, fun ha => hf.nl ha, fun a ha j u hu => ?_, hE.one⟩
 ·have h5 := hE.len5
  have : ∀ (C : List (List Value)), (∀ c ∈ C, c.length = 5) → C.flatten.length = C.length * 5 := by
   intro C
   induction C with
   | nil => intro _; rfl
   | cons c r ih => intro h; rw [List.flatten_cons, List.length_append, h c List.mem_cons_self, ih (fun x hx => h x (List.mem_cons_of_mem _ hx)), List.length_cons]; omega
  rw [this _ h5, hE.1]
 ·obtain ⟨i, q, c, rfl, h1, h2⟩ := flat5_inv _ hE.len5 j u hu
  have hi : i < l.length := by have := (List.getElem?_eq_some_iff.1 h1).1; rw [hE.1] at this; exact this
  rw [List.getElem?_map, List.getElem?_range hi] at h1
  simp only [Option.map_some, Option.some.injEq] at h1
  rw [← h1] at h2
  rw [← addKs]
  exact (hf.hl a ha i hi).2 q u h2
theorem own_val {u : World} {base n B : Nat} {v : Value} {vs : List Vl} {C : List (List Value)} (h : u.ownsRow base 25 5 v n C.flatten) (hE : ElsV u B vs C) (hn : vs.length = n) (hB : B ≤ u.heap.size) (hn2 : n ≤ 100000) : ∃ al cl, v = .slice al n cl ∧ IsV u u.heap.size (.mk 4 0 ⟨#[]⟩ vs []) (.agg #[.int .i64 4, .int .i64 0, .string ⟨#[]⟩, .slice al n cl, .slice none 0 0]) := by
 have e0 : (⟨#[]⟩ : ByteArray).size = 0 := rfl
 rcases h.2 with ⟨e, e2⟩ | ⟨g, cap, cur, e, hlo, hg, hcap, hmax, hsz, hcur⟩
 ·subst e2
  obtain rfl : vs = [] := List.eq_nil_of_length_eq_zero hn
  exact ⟨none, 0, e, IsP.of (V := fun _ => []) ⟨by omega, by omega, by omega, fun _ => ⟨rfl, rfl⟩, fun _ => ⟨rfl, rfl⟩, Nat.le_refl _, Nat.le_refl _, by simp, by simp, by simp, fun a ha => by (cases ha), fun i hi => by (simp at hi), fun a ha => by (cases ha), fun t ht => by (cases ht)⟩ (fun i y hy => by simp at hy)⟩
 ·refine ⟨some ⟨g, 0, none⟩, cap, e, ?_⟩
  have hget : ∀ i y, vs[i]? = some y → (C[i]?.getD []).length = 5 ∧ IsV u B y (.agg (C[i]?.getD []).toArray) ∧ C[i]? = some (C[i]?.getD []) := fun i y hy => by
   obtain ⟨c, h1, h2, h3⟩ := hE.2 i y hy
   rw [h1]
   exact ⟨h2, h3, rfl⟩
  have hof := IsP.of (w := u) (P := fun b => b < u.heap.size) (kind := 4) (n := 0) (s := ⟨#[]⟩) (l := vs) (ks := []) (al := some ⟨g, 0, none⟩) (ak := none) (cl := cap) (ck := 0) (V := fun i => C[i]?.getD []) ⟨by omega, by omega, by omega, fun ha => by (cases ha), fun _ => ⟨rfl, rfl⟩, by omega, Nat.le_refl _, by omega, by simp, by simp, fun a ha i hi => by
    cases ha
    obtain ⟨q1, q2, q3⟩ := hget i _ (List.getElem?_eq_getElem hi)
    refine ⟨(Array.getElem?_eq_some_iff.1 hg).1, fun j x hx => ?_⟩
    have hj : j < 5 := by have := (List.getElem?_eq_some_iff.1 hx).1; omega
    have hfl : C.flatten[i * 5 + j]? = some x := flat5_at C hE.len5 i _ j x q3 hx
    have := h.cells (g := g) (by rw [e]; rfl) _ _ hfl
    rw [addKs]
    exact this, fun i hi => (hget i _ (List.getElem?_eq_getElem hi)).1, fun a ha => by (cases ha), fun t ht => by (cases ht)⟩ (fun i y hy => IsV.lift hB (hget i y hy).2.1)
  rw [hn] at hof
  exact hof
theorem run_appV (w : World) (ty : TypeId) (base n : Nat) (v : Value) (xs : List Value) (hown : w.ownsRow base 25 5 v n xs) (ao : Option Addr) (m c : Nat) (rs : List Value) (hr : Shows w ao m c 5 rs) (hbytes : (n + m) * 80 ≤ 140737488355328) (hbase : base ≤ w.heap.size) :
  ∃ v' w', (Builtin.append_ #[22, 22] ty #[v, .slice ao m c]).run Tryz.prog w = .ok v' w' ∧ w'.ownsRow base 25 5 v' (n + m) (xs ++ rs) ∧ w.grownBy w' v.ownBlock := by
 obtain ⟨i0, hi, hz0, hz1, hz2⟩ := info_parts infoVc
 cases ao with
 | none =>
  obtain ⟨rfl, rfl⟩ := hr.none rfl
  have hrs : rs = [] := List.eq_nil_of_length_eq_zero (by simpa using hr.length)
  subst hrs
  exact ⟨v, w, run_append_owned_none (P := Tryz.prog) (w := w) base 22 ty 25 i0 5 Tryz.underlying22 hi v n _ hown, by simpa using hown, World.grownBy.refl _ _⟩
 | some ad =>
  obtain ⟨v', w', h1, h2, h3, _⟩ := run_append_own (P := Tryz.prog) (w := w) base 22 ty 25 i0 (.agg #[.int .i64 0, .int .i64 0, .string ⟨#[]⟩, .slice none 0 0, .slice none 0 0]) 5 80 Tryz.underlying22 hi hz0 hz1 hz2 rfl (by omega) v n xs hown ad m c rs hr.length (hr.cells ad rfl) hr.one (by unfold maxLen; omega) hbytes hbase
  exact ⟨v', w', h1, h2, h3⟩
theorem wpl_appV {w : World} {ops : Array Oper} {rest : List Oper} {o : Oper} {a : Act} {Q : Exit → Act → World → Prop} (hgd : o.guard = none) (sl x : Operand)
  (ho : o.op = .call { callee := .builtin .append, args := #[sl, x], argTypes := #[22, 22] })
  (base n : Nat) (v : Value) (xs : List Value) (hs : a.eval sl = v) (hown : w.ownsRow base 25 5 v n xs)
  (ao : Option Addr) (m c : Nat) (rs : List Value) (hx : a.eval x = .slice ao m c) (hr : Shows w ao m c 5 rs)
  (hbytes : (n + m) * 80 ≤ 140737488355328) (hbase : base ≤ w.heap.size)
  (h : ∀ v' w', Hid (w'.ownsRow base 25 5 v' (n + m) (xs ++ rs) ∧ w.grownBy w' v.ownBlock) → wpList Tryz.prog ops Q rest (a.put o.dst v') w') :
  wpList Tryz.prog ops Q (o :: rest) a w := by
 refine wpList_plain hgd fun K hK => ?_
 obtain ⟨v', w', hrun, h1, h2⟩ := run_appV w o.type base n v xs hown ao m c rs hr hbytes hbase
 unfold Oper.wp
 simp only [execOp, ho, resolve, invoke, builtin, Sem.run_bind, Sem.run_pure, Result.andThen_ok, List.map_toArray, List.map_cons, List.map_nil, hs, hx, hrun]
 exact hK _ _ (h v' w' ⟨h1, h2⟩)
theorem Shows.later {w w' : World} {ao : Option Addr} {len cap size : Nat} {xs : List Value} (h : Shows w ao len cap size xs) (hb : Below w.heap.size w w') : Shows w' ao len cap size xs :=
 ⟨h.length, h.none, fun a ha j u hu => by
  have h1 := h.cells a ha j u hu
  rw [hb.cell (World.block_lt_of_cell? _ _ (by rw [h1]))]
  exact h1, h.one⟩
theorem two_cellV {w : World} {g : Nat} {x0 x1 : Value} {T : TypeId} (h : w.heap[g]? = some (.cells #[x0, x1] T (0, 0))) : w.cell? ⟨g, 0, none⟩ = some x0 ∧ w.cell? ⟨g, 1, none⟩ = some x1 :=
 ⟨by rw [cell_of_row w g 0 _ _ (0, 0) h]; rfl, by rw [cell_of_row w g 1 _ _ (0, 0) h]; rfl⟩
theorem concatV_two (gb : Nat) (T : TypeId) (ab ac : Option Addr) (lb cb lc cc : Nat) (zs ys : List Value) (w : World) (hrow : w.heap[gb]? = some (.cells #[.slice ab lb cb, .slice ac lc cc] T (0, 0))) (hz : Shows w ab lb cb 5 zs) (hy : Shows w ac lc cc 5 ys) (hb : lb + lc ≤ 5000) :
  Calls Tryz.prog 100 #[.slice (some ⟨gb, 0, none⟩) 2 2] w fun e w' => ∃ sv, e = .returned sv ∧ w'.ownsRow w.heap.size 25 5 sv (lb + lc) (zs ++ ys) ∧ Below w.heap.size w w' := by
 have HR : Hid (∀ u, Below w.heap.size w u → (u.cell? ⟨gb, 0, none⟩ = some (.slice ab lb cb) ∧ u.cell? ⟨gb, 1, none⟩ = some (.slice ac lc cc)) ∧ Shows u ab lb cb 5 zs ∧ Shows u ac lc cc 5 ys) := hide (fun u hu => ⟨two_cellV ((hu.block gb ((Array.getElem?_eq_some_iff.1 hrow).1)).trans hrow), hz.later hu, hy.later hu⟩)
 have CG := hide (growV (lb + lc) w hb)
 obtain ⟨N2, hN2⟩ : ∃ N2, lb + lc = N2 := ⟨_, rfl⟩
 rw [hN2] at CG
 have HN2 := hide hN2
 have l1 : lb ≤ 5000 := by omega
 have l2 : N2 ≤ 5000 := by omega
 have l3 : (lb : Int) + (lc : Int) = (N2 : Int) := by omega
 have l4 : IntKind.i64.wrap (N2 : Int) = (N2 : Int) := by rw [IntKind.wrap_i64]; omega
 have l5 : IntKind.i64.wrap (lb : Int) = (lb : Int) := by rw [IntKind.wrap_i64]; omega
 have l6 : ¬ (N2 : Int) < 0 := by omega
 have l7 : ¬ (lb : Int) < 0 := by omega
 obtain ⟨⟨c0, c1⟩, _⟩ := uh HR w (Below.refl _ _)
 rw [hN2]
 clear hrow hz hy hb hN2
 go_enter Tryz.func100, Tryz.ntmps100
 go_wp2_with fail
 go_loopw [3, 11] (fun y x wr => ∃ i N : Nat, x = .int .i64 (i : Int) ∧ y = .int .i64 (N : Int) ∧ wr = w ∧ ((i = 0 ∧ N = 0) ∨ (i = 1 ∧ N = lb) ∨ (i = 2 ∧ N = N2))) (fun _ x _ => 2 - (intOf x).toNat)
 case atStart => exact ⟨0, 0, rfl, rfl, rfl, Or.inl ⟨rfl, rfl⟩⟩
 case round =>
  obtain ⟨i, N, rfl, rfl, hwr, h | h | h⟩ := hrel
  ·obtain ⟨rfl, rfl⟩ := h
   obtain rfl := hwr.symm
   go_wp2_with fail
   go_roundw
   case rel => exact ⟨1, lb, by go_num, by first | rfl | go_num | simp, by first | rfl | trivial, Or.inr (Or.inl ⟨rfl, rfl⟩)⟩
   case measure => simp [intOf]
  ·obtain ⟨rfl, rfl⟩ := h
   obtain rfl := hwr.symm
   go_wp2_with fail
   go_roundw
   case rel => exact ⟨2, N2, by go_num, by first | rfl | go_num | simp, by first | rfl | trivial, Or.inr (Or.inr ⟨rfl, rfl⟩)⟩
   case measure => simp [intOf]
  ·obtain ⟨rfl, rfl⟩ := h
   obtain rfl := hwr.symm
   go_wp2_with fail
   refine (uh CG).mono ?_
   rintro e w1 ⟨sv1, rfl, b1, own1⟩
   have own2 : w1.ownsRow w.heap.size 25 5 sv1 0 [] := by
    rcases own1 with rfl | ⟨_, h⟩
    ·exact World.ownsRow_nil _ _ _ _
    ·exact h
   have H1 := hide (And.intro own2 b1)
   clear own1 own2 b1 CG c0 c1
   go_wp2_with fail
   go_loopw [6, 27] (fun v x wr => ∃ (i n : Nat) (xs : List Value), x = .int .i64 (i : Int) ∧ ((i = 0 ∧ n = 0) ∨ (i = 1 ∧ n = lb) ∨ (i = 2 ∧ n = N)) ∧ Hid (wr.ownsRow w.heap.size 25 5 v n xs ∧ Below w.heap.size w wr ∧ ((i = 0 ∧ xs = []) ∨ (i = 1 ∧ xs = zs) ∨ (i = 2 ∧ xs = zs ++ ys)))) (fun _ x _ => 2 - (intOf x).toNat)
   case atStart => exact ⟨0, 0, [], rfl, Or.inl ⟨rfl, rfl⟩, hide ⟨(uh H1).1, (uh H1).2, Or.inl ⟨rfl, rfl⟩⟩⟩
   case round =>
    clear H1
    obtain ⟨i, n, xs, rfl, h, HO⟩ := hrel
    rcases h with h | h | h
    ·obtain ⟨rfl, rfl⟩ := h
     obtain ⟨own, bel, hx⟩ := uh HO
     have hxs : xs = [] := by rcases hx with ⟨e, h⟩ | ⟨e, h⟩ | ⟨e, h⟩ <;> first | exact h | cases e
     subst hxs
     obtain ⟨⟨c0, c1⟩, r0, r1⟩ := uh HR wr bel
     have H2 := hide (And.intro own (And.intro bel (And.intro r0 r1)))
     have bs := bel.size
     clear own bel r0 r1 hx HO
     have tok1 : True := trivial
     go_wp2_with (first | (at_builtin; have _t := tok1; refine wpl_appV rfl (.tmp 31) (.tmp 32) rfl w.heap.size 0 _ [] rfl (uh H2).1 ab lb cb zs rfl (uh H2).2.2.1 (by omega) bs ?_; intro v' w' H3; clear tok1))
     go_roundw
     case rel => exact ⟨1, _, _, by go_num, Or.inr (Or.inl ⟨rfl, by omega⟩), hide ⟨(uh H3).1, (uh H2).2.1.grown (uh H3).2 bs (fun k e => ((uh H2).1.lt k e).1), Or.inr (Or.inl ⟨rfl, by simp⟩)⟩⟩
     case measure => simp [intOf]
    ·obtain ⟨rfl, hn⟩ := h
     obtain ⟨own, bel, hx⟩ := uh HO
     have hxs : xs = zs := by rcases hx with ⟨e, h⟩ | ⟨e, h⟩ | ⟨e, h⟩ <;> first | exact h | cases e
     have HXS := hide hxs
     clear hxs
     obtain ⟨⟨c0, c1⟩, r0, r1⟩ := uh HR wr bel
     have H2 := hide (And.intro own (And.intro bel (And.intro r0 r1)))
     have bs := bel.size
     clear own bel r0 r1 hx HO
     have tok1 : True := trivial
     go_wp2_with (first | (at_builtin; have _t := tok1; refine wpl_appV rfl (.tmp 31) (.tmp 32) rfl w.heap.size n _ xs rfl (uh H2).1 ac lc cc ys rfl (uh H2).2.2.2 (by have := uh HN2; omega) bs ?_; intro v' w' H3; clear tok1))
     go_roundw
     case rel => exact ⟨2, _, _, by go_num, Or.inr (Or.inr ⟨rfl, by have := uh HN2; omega⟩), hide ⟨(uh H3).1, (uh H2).2.1.grown (uh H3).2 bs (fun k e => ((uh H2).1.lt k e).1), Or.inr (Or.inr ⟨rfl, by rw [uh HXS]⟩)⟩⟩
     case measure => simp [intOf]
    ·obtain ⟨rfl, rfl⟩ := h
     obtain ⟨own, bel, hx⟩ := uh HO
     have hxs : xs = zs ++ ys := by rcases hx with ⟨e, h⟩ | ⟨e, h⟩ | ⟨e, h⟩ <;> first | exact h | cases e
     subst hxs
     have H2 := hide (And.intro own bel)
     clear own bel hx HO
     go_wp2_with fail
     go_ret
     exact ⟨_, rfl, (uh H2).1, (uh H2).2⟩
theorem psized_any (v : Vl) (x : Value) (B : Nat) (w : World) (hv : IsV w B v x) (hBs : B ≤ w.heap.size) :
  Calls Tryz.prog 99 #[x] w fun e w' => ∃ x', e = .returned (.tuple #[x', .int .i64 (if rightB v = true then 0 else 5)]) ∧ Below w.heap.size w w' ∧ (rightB v = true → IsQ w' (fun b => w.heap.size ≤ b ∧ b < w'.heap.size) v x') ∧ (rightB v = false → x' = .agg #[.int .i64 0, .int .i64 0, .string ⟨#[]⟩, .slice none 0 0, .slice none 0 0]) := by
 obtain ⟨k, n, s, l, ks, al, ak, cl, ck, hvv, hx⟩ := hv.shape
 clear hvv
 obtain ⟨m, hm⟩ : ∃ m, ks.length = m := ⟨_, rfl⟩
 obtain ⟨ln, hln⟩ : ∃ ln, l.length = ln := ⟨_, rfl⟩
 rw [hm, hln] at hx
 subst hx
 have TW := Two.mk' w 25 #[.int .i64 k, .int .i64 n, .string s, .slice al ln cl, .slice ak m ck] #[.int .i64 0, .int .i64 0, .string ⟨#[]⟩, .slice none 0 0, .slice none 0 0]
 obtain ⟨w2, hw2⟩ : ∃ w2, (w.alloc (.cells #[.int .i64 k, .int .i64 n, .string s, .slice al ln cl, .slice ak m ck] 25)).alloc (.cells #[.int .i64 0, .int .i64 0, .string ⟨#[]⟩, .slice none 0 0, .slice none 0 0] 25) = w2 := ⟨_, rfl⟩
 rw [hw2] at TW
 obtain ⟨g, hg⟩ : ∃ g, w.heap.size = g := ⟨_, rfl⟩
 rw [hg] at TW
 have HT : Hid (∀ u, Below w2.heap.size w2 u → u.heap[g]? = some (.cells #[.int .i64 k, .int .i64 n, .string s, .slice al ln cl, .slice ak m ck] 25 (0, 0)) ∧ u.heap[g + 1]? = some (.cells #[.int .i64 0, .int .i64 0, .string ⟨#[]⟩, .slice none 0 0, .slice none 0 0] 25 (0, 0)) ∧ IsV u B v (.agg #[.int .i64 k, .int .i64 n, .string s, .slice al ln cl, .slice ak m ck]) ∧ B ≤ u.heap.size ∧ Below w.heap.size w u ∧ g + 2 ≤ u.heap.size) :=
  hide (fun u hu => by
   have h1 : Below w.heap.size w u := TW.below.trans (hu.mono (by have := TW.size; omega))
   have h2 := TW.size
   have h3 := hu.size
   exact ⟨(TW.later hu).1, (TW.later hu).2, hv.mono (h1.mono hBs), by omega, h1, by omega⟩)
 obtain ⟨c0, c1, c2, c3, c4⟩ := row_cell TW.at0
 have CF := hide (right_code v _ B w2 (uh HT w2 (Below.refl _ _)).2.2.1 (uh HT w2 (Below.refl _ _)).2.2.2.1)
 clear TW hv hm hln
 cases hF : rightB v with
 | false =>
  rw [hF] at CF
  clear hF
  go_enter Tryz.func99, Tryz.ntmps99
  go_wp2_with fail
  refine (uh CF).mono ?_
  rintro e u3 ⟨rfl, b3⟩
  have H3 := hide b3
  clear b3 CF c0 c1 c2 c3 c4
  have CT := hide (trap_any 5 u3)
  go_wp2_with fail
  refine (uh CT).mono ?_
  rintro e u4 ⟨rfl, b4⟩
  have H3' := hide ((uh H3).trans (b4.mono (uh H3).size))
  clear b4 CT H3
  have H3 := H3'
  clear H3'
  have ATX := (uh HT u4 (uh H3)).2.1
  obtain ⟨z0, z1, z2, z3, z4⟩ := row_cell ATX
  have fz : ∀ q, u4.frozen? ⟨g + 1, q, none⟩ = false := fun q => frozen_of_row u4 (g + 1) q _ _ ATX
  have fz0 := fz 0
  have fz1 := fz 1
  have fz2 := fz 2
  have fz3 := fz 3
  have fz4 := fz 4
  have HAT := hide ATX
  clear fz ATX
  go_wp2_with fail
  have ATX := uh HAT
  have BW := (uh HT u4 (uh H3)).2.2.2.2.1
  have R9 := five_set u4 (g + 1) 25 _ _ _ _ _ (.int .i64 0) (.int .i64 0) (.string ⟨#[]⟩) (.slice none 0 0) (.slice none 0 0) ATX
  have O9 := five_other u4 (g + 1) (x0 := .int .i64 0) (x1 := .int .i64 0) (x2 := .string ⟨#[]⟩) (x3 := .slice none 0 0) (x4 := .slice none 0 0)
  have S9 : (((((u4.setCell ⟨g + 1, 0, none⟩ (.int .i64 0)).setCell ⟨g + 1, 1, none⟩ (.int .i64 0)).setCell ⟨g + 1, 2, none⟩ (.string ⟨#[]⟩)).setCell ⟨g + 1, 3, none⟩ (.slice none 0 0)).setCell ⟨g + 1, 4, none⟩ (.slice none 0 0)).heap.size = u4.heap.size := by simp
  obtain ⟨w9, hw9⟩ : ∃ w9, (((((u4.setCell ⟨g + 1, 0, none⟩ (.int .i64 0)).setCell ⟨g + 1, 1, none⟩ (.int .i64 0)).setCell ⟨g + 1, 2, none⟩ (.string ⟨#[]⟩)).setCell ⟨g + 1, 3, none⟩ (.slice none 0 0)).setCell ⟨g + 1, 4, none⟩ (.slice none 0 0)) = w9 := ⟨_, rfl⟩
  rw [hw9] at R9 S9 ⊢
  have B9 : Below w.heap.size w w9 := by rw [← hw9]; exact five_below BW (by omega) _ _ _ _ _
  obtain ⟨r0, r1, r2, r3, r4⟩ := row_cell R9
  refine bodyPost_ret (v := .tuple #[.agg #[.int .i64 0, .int .i64 0, .string ⟨#[]⟩, .slice none 0 0, .slice none 0 0], .int .i64 5]) (by simp [results, Tryz.results99, go_sem, r0, r1, r2, r3, r4]) rfl ?_
  first | exact ⟨rfl, B9⟩ | (rw [hg] at B9; exact ⟨rfl, B9⟩)
 | true =>
  rw [hF] at CF
  have hcn := hF
  have CD := fun u hu => hide (copy_any v _ B u (uh HT u hu).2.2.1 (uh HT u hu).2.2.2.1)
  have HF := hide hF
  clear hF hcn
  go_enter Tryz.func99, Tryz.ntmps99
  go_wp2_with fail
  refine (uh CF).mono ?_
  rintro e u3 ⟨rfl, b3⟩
  have H3 := hide b3
  clear b3 CF c0 c1 c2 c3 c4
  obtain ⟨c0, c1, c2, c3, c4⟩ := row_cell (uh HT u3 (uh H3)).1
  go_wp2_with fail
  refine (uh (CD u3 (uh H3))).mono ?_
  rintro e u4 ⟨x4, rfl, b4, p4', -⟩
  have p4 := p4' (uh HF)
  clear p4'
  obtain ⟨k4, n4, s4, l4, ks4, al4, ak4, cl4, ck4, hv4, rfl⟩ := p4.shape
  clear hv4
  obtain ⟨lc, hlc⟩ : ∃ lc, l4.length = lc := ⟨_, rfl⟩
  obtain ⟨mc, hmc⟩ : ∃ mc, ks4.length = mc := ⟨_, rfl⟩
  rw [hlc, hmc] at p4 ⊢
  have X4 := (uh H3).trans (b4.mono (uh H3).size)
  have H4 := hide (And.intro X4 (And.intro p4 b4.size))
  have ATX := (uh HT u4 X4).2.1
  obtain ⟨z0, z1, z2, z3, z4⟩ := row_cell ATX
  have fz : ∀ q, u4.frozen? ⟨g + 1, q, none⟩ = false := fun q => frozen_of_row u4 (g + 1) q _ _ ATX
  have fz0 := fz 0
  have fz1 := fz 1
  have fz2 := fz 2
  have fz3 := fz 3
  have fz4 := fz 4
  have HAT := hide ATX
  clear fz ATX p4 b4 X4 CD hlc hmc c0 c1 c2 c3 c4
  go_wp2_with fail
  have ATX := uh HAT
  have BW := (uh HT u4 (uh H4).1).2.2.2.2.1
  have g3 := (uh HT u3 (uh H3)).2.2.2.2.2
  have R9 := five_set u4 (g + 1) 25 _ _ _ _ _ (.int .i64 k4) (.int .i64 n4) (.string s4) (.slice al4 lc cl4) (.slice ak4 mc ck4) ATX
  have O9 := five_other u4 (g + 1) (x0 := .int .i64 k4) (x1 := .int .i64 n4) (x2 := .string s4) (x3 := .slice al4 lc cl4) (x4 := .slice ak4 mc ck4)
  have S9 : (((((u4.setCell ⟨g + 1, 0, none⟩ (.int .i64 k4)).setCell ⟨g + 1, 1, none⟩ (.int .i64 n4)).setCell ⟨g + 1, 2, none⟩ (.string s4)).setCell ⟨g + 1, 3, none⟩ (.slice al4 lc cl4)).setCell ⟨g + 1, 4, none⟩ (.slice ak4 mc ck4)).heap.size = u4.heap.size := by simp
  obtain ⟨w9, hw9⟩ : ∃ w9, (((((u4.setCell ⟨g + 1, 0, none⟩ (.int .i64 k4)).setCell ⟨g + 1, 1, none⟩ (.int .i64 n4)).setCell ⟨g + 1, 2, none⟩ (.string s4)).setCell ⟨g + 1, 3, none⟩ (.slice al4 lc cl4)).setCell ⟨g + 1, 4, none⟩ (.slice ak4 mc ck4)) = w9 := ⟨_, rfl⟩
  rw [hw9] at R9 S9 ⊢
  have B9 : Below w.heap.size w w9 := by rw [← hw9]; exact five_below BW (by omega) _ _ _ _ _
  obtain ⟨r0, r1, r2, r3, r4⟩ := row_cell R9
  refine bodyPost_ret (v := .tuple #[.agg #[.int .i64 k4, .int .i64 n4, .string s4, .slice al4 lc cl4, .slice ak4 mc ck4], .int .i64 0]) (by simp [results, Tryz.results99, go_sem, r0, r1, r2, r3, r4]) rfl ?_
  have Q9 : IsQ w9 (fun b => w.heap.size ≤ b ∧ b < w9.heap.size) v (.agg #[.int .i64 k4, .int .i64 n4, .string s4, .slice al4 lc cl4, .slice ak4 mc ck4]) := ((uh H4).2.1.move (fun q hq => by rw [← hw9]; exact O9 q (by have := hq.1; omega))).weak (fun q hq => ⟨by have := hq.1; omega, by have := hq.2; omega⟩)
  first | exact ⟨_, rfl, B9, Q9⟩ | (rw [hg] at B9 Q9; exact ⟨_, rfl, B9, Q9⟩)
end Go.Proofs.YtgkmdjmigehmeaaGreatDoor
