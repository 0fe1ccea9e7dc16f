/-
  Layer 17 (parse): what a function of the reader answers: a node, or a fault that is panicked with; no conditions.
-/
import Derived.Test.YtgalfhlclmkbfaaDoorA17
set_option linter.unusedVariables false
set_option linter.unusedSimpArgs false
namespace Go.Proofs.YtgalfhlclmkbfaaDoor
open Go.RowKit
set_option linter.unusedVariables false
set_option linter.unusedSimpArgs false

/-- one node, or a fault -/
def NdP (c : Cx) (w : World) (d : Nat) : Rs (List Nd) → Ending → World → Prop
  | .error (a, p), e, w' => e = fltP a p ∧ Beside c.g w w'
  | .ok (ns, l), e, w' => ∃ (k : Nat) (t : List UInt8) (vk vn : Nat) (vs : List UInt8) (f : Bool) (n : Nat) (ak : Option Addr) (ck p : Nat) (S : List Nat), e = .returned (.agg #[.int .i64 (k : Int), .string (bA t), .int .i64 (vk : Int), .int .i64 (vn : Int), .string (bA vs), .slice none 0 0, .slice none 0 0, .bool f, .slice ak n ck, .int .i64 (p : Int)]) ∧ ns.length = 1 ∧ NdOk w.heap.size w' ns (ndC k t vk vn vs f n ak ck p) S ∧ Rd w' c l d ∧ Beside c.g w w'
/-- a row of nodes, or a fault -/
def KsP (c : Cx) (w : World) (d : Nat) : Rs (List Nd) → Ending → World → Prop
  | .error (a, p), e, w' => e = fltP a p ∧ Beside c.g w w'
  | .ok (ns, l), e, w' => ∃ (ak : Option Addr) (ck : Nat) (C : List Value) (S : List Nat), e = .returned (.slice ak ns.length ck) ∧ Kr w.heap.size w' ns (.slice ak ns.length ck) C S ∧ Rd w' c l d ∧ Beside c.g w w'

theorem bnd_some {α β : Type} {x : Option (Rs α)} {k : α → List Tk → Option (Rs β)} {r : Rs β} (h : bnd x k = some r) : ∃ y, x = some y ∧ thn y k = some r := by
  cases x with
  | none => cases h
  | some y => exact ⟨y, rfl, h⟩
theorem thn_err {α β : Type} {e : Nat × Nat} {k : α → List Tk → Option (Rs β)} {r : Rs β} (h : thn (.error e) k = some r) : r = .error e := by cases h; rfl
theorem thn_ok {α β : Type} {a : α} {l : List Tk} {k : α → List Tk → Option (Rs β)} {r : Rs β} (h : thn (.ok (a, l)) k = some r) : k a l = some r := h
theorem okN_some {n : List Nd} {l : List Tk} {r : Rs (List Nd)} (h : okN n l = some r) : r = .ok (n, l) := by cases h; rfl
theorem thn_sg {β : Type} {s : List UInt8} {l : List Tk} {k : Tk → List Tk → Option (Rs β)} {r : Rs β} (hs : isS s l = true) (h : thn (pSg s l) k = some r) : k (hdT l) l.tail = some r := by unfold pSg at h; rw [if_pos hs] at h; exact h
theorem thn_sgb {β : Type} {s : List UInt8} {l : List Tk} {k : Tk → List Tk → Option (Rs β)} {r : Rs β} (hs : isS s l = false) (h : thn (pSg s l) k = some r) : r = .error (170, (hdT l).p) := by unfold pSg at h; rw [if_neg (by rw [hs]; decide)] at h; exact thn_err h
theorem thn_ky {β : Type} {s : List UInt8} {l : List Tk} {k : Tk → List Tk → Option (Rs β)} {r : Rs β} (hs : isK s l = true) (h : thn (pKy s l) k = some r) : k (hdT l) l.tail = some r := by unfold pKy at h; rw [if_pos hs] at h; exact h
theorem thn_kyb {β : Type} {s : List UInt8} {l : List Tk} {k : Tk → List Tk → Option (Rs β)} {r : Rs β} (hs : isK s l = false) (h : thn (pKy s l) k = some r) : r = .error (170, (hdT l).p) := by unfold pKy at h; rw [if_neg (by rw [hs]; decide)] at h; exact thn_err h
theorem thn_nm {β : Type} {l : List Tk} {k : Tk → List Tk → Option (Rs β)} {r : Rs β} (hs : (hdT l).k = 1) (h : thn (pNm l) k = some r) : k (hdT l) l.tail = some r := by unfold pNm at h; rw [if_pos hs] at h; exact h
theorem thn_nmb {β : Type} {l : List Tk} {k : Tk → List Tk → Option (Rs β)} {r : Rs β} (hs : ¬ (hdT l).k = 1) (h : thn (pNm l) k = some r) : r = .error (170, (hdT l).p) := by unfold pNm at h; rw [if_neg hs] at h; exact thn_err h
theorem thn_en {β : Type} {s : List UInt8} {d : Nat} {l : List Tk} {k : Tk → List Tk → Option (Rs β)} {r : Rs β} (hs : isS s l = true) (hd : d < 24) (h : thn (ent s d l) k = some r) : k (hdT l) l.tail = some r := by unfold ent at h; rw [if_pos hs, if_neg (by omega)] at h; exact h
theorem thn_enb {β : Type} {s : List UInt8} {d : Nat} {l : List Tk} {k : Tk → List Tk → Option (Rs β)} {r : Rs β} (hs : isS s l = false) (h : thn (ent s d l) k = some r) : r = .error (170, (hdT l).p) := by unfold ent at h; rw [if_neg (by rw [hs]; decide)] at h; exact thn_err h
theorem thn_end {β : Type} {s : List UInt8} {d : Nat} {l : List Tk} {k : Tk → List Tk → Option (Rs β)} {r : Rs β} (hs : isS s l = true) (hd : d = 24) (h : thn (ent s d l) k = some r) : r = .error (171, (hdT l).p) := by unfold ent at h; rw [if_pos hs, if_pos hd] at h; exact thn_err h

theorem Kr.mk' {lo : Nat} {u : World} {ks : List Nd} {C : List Value} {S : List Nat} (h : NdOk lo u ks C S) (hn : ks.length ≤ 10000) : Kr lo (u.alloc (.cells C.toArray 33)) ks (.slice (some ⟨u.heap.size, 0, none⟩) ks.length ks.length) C S := by
  have b : Below u.heap.size u (u.alloc (.cells C.toArray 33)) := (Below.refl _ _).alloc (Nat.le_refl _) _
  refine ⟨⟨IsNL.len ks C S h.nl, .inr ⟨u.heap.size, ks.length, C.toArray, rfl, h.le, heap_alloc_new _ _, Nat.le_refl _, by unfold maxLen; omega, by simpa using IsNL.len ks C S h.nl, ?_⟩⟩, h.to (fun x _ h2 _ => b.block x h2) b.size, fun x hx hm => ?_⟩
  · rw [List.take_of_length_le (by have := IsNL.len ks C S h.nl; simpa using Nat.le_of_eq this)]
  · have := (h.rg x hm).2
    have e : u.heap.size = x := by simpa [Value.ownBlock] using hx
    omega

theorem Kr.node' {lo m : Nat} {w : World} {ks : List Nd} {ak : Option Addr} {ck : Nat} {C : List Value} {S : List Nat} (h : Kr lo w ks (.slice ak m ck) C S) (hm : ks.length = m) (k : Nat) (t : List UInt8) (vk vn : Nat) (vs : List UInt8) (f : Bool) (p : Nat) :
    NdOk lo w [⟨k, t, vk, vn, vs, f, ks, p⟩] (ndC k t vk vn vs f m ak ck p) (blkO ak ++ S) := by
  subst hm
  exact h.node k t vk vn vs f p

theorem Kr.but2 {lo q : Nat} {w w' : World} {ks : List Nd} {v : Value} {C : List Value} {S : List Nat} (h : Kr lo w ks v C S) (hw : ∀ b, b < w.heap.size → b ≠ q → w'.heap[b]? = w.heap[b]?) (hs : w.heap.size ≤ w'.heap.size) (h1 : q ∉ S) (h2 : v.ownBlock ≠ some q) : Kr lo w' ks v C S :=
  ⟨own_at h.own (fun b hv => hw b (h.own.lt b hv).2 (fun e => h2 (by rw [← e]; exact hv))), h.ok.to (fun b _ hb hm => hw b hb (fun e => h1 (by rw [← e]; exact hm))) hs, h.apart⟩
theorem Kr.fresh {lo q : Nat} {w : World} {ks : List Nd} {v : Value} {C : List Value} {S : List Nat} (h : Kr lo w ks v C S) (hq : w.heap.size = q) : q ∉ S ∧ v.ownBlock ≠ some q :=
  ⟨fun hm => by have := (h.ok.rg _ hm).2; omega, fun hv => by have := (h.own.lt _ hv).2; omega⟩
theorem NdOk.fresh {lo q : Nat} {w : World} {ks : List Nd} {C : List Value} {S : List Nat} (h : NdOk lo w ks C S) (hq : w.heap.size = q) : q ∉ S := fun hm => by have := (h.rg _ hm).2; omega
theorem own_ne {q r n m : Nat} (h : q < r) : (Value.slice (some ⟨r, 0, none⟩) n m).ownBlock ≠ some q := fun e => by
  have : r = q := by simpa [Value.ownBlock] using e
  omega
theorem NdOk.but {lo q : Nat} {w w' : World} {ks : List Nd} {C : List Value} {S : List Nat} (h : NdOk lo w ks C S) (hw : ∀ b, b < w.heap.size → b ≠ q → w'.heap[b]? = w.heap[b]?) (hs : w.heap.size ≤ w'.heap.size) (h1 : q ∉ S) : NdOk lo w' ks C S :=
  h.to (fun b _ hb hm => hw b hb (fun e => h1 (by rw [← e]; exact hm))) hs

theorem bx_go {g Q : Nat} {u u' : World} {c : Array Value} {T : TypeId} (h : Hid (u.heap[Q]? = some (.cells c T (0, 0)))) (b : Beside g u u') (hq : g < Q) : Hid (u'.heap[Q]? = some (.cells c T (0, 0))) :=
  hide ((b.block Q (Array.getElem?_eq_some_iff.1 (unhide h)).1 (by omega)).trans (unhide h))
theorem bx_be {Q : Nat} {u u' : World} {c : Array Value} {T : TypeId} (h : Hid (u.heap[Q]? = some (.cells c T (0, 0)))) (b : Below u.heap.size u u') : Hid (u'.heap[Q]? = some (.cells c T (0, 0))) :=
  hide ((b.block Q (Array.getElem?_eq_some_iff.1 (unhide h)).1).trans (unhide h))
theorem bx_ne {Q q f : Nat} {u : World} {c : Array Value} {T : TypeId} {v : Value} (h : Hid (u.heap[Q]? = some (.cells c T (0, 0)))) (hq : Q ≠ q) : Hid ((u.setCell ⟨q, f, none⟩ v).heap[Q]? = some (.cells c T (0, 0))) :=
  hide (by rw [heap_setCell_other _ _ _ _ hq]; exact unhide h)

/-- a node is done: its cells laid into the result's box -/
theorem St.done {w : World} {c : Cx} {G : Nat} {x0 x1 x2 x3 x4 x5 x6 x7 x8 x9 : Value} {u : World} {l : List Tk} {d : Nat} (h : St w c 33 #[x0, x1, x2, x3, x4, x5, x6, x7, x8, x9] u l d) {ns : List Nd} {k : Nat} {t : List UInt8} {vk vn : Nat} {vs : List UInt8} {f : Bool} {n : Nat} {ak : Option Addr} {ck p : Nat} {S : List Nat} (hk : NdOk (w.heap.size + 1) u ns (ndC k t vk vn vs f n ak ck p) S) (hn : ns.length = 1) (hG : w.heap.size = G) :
    ((((((((((u.setCell ⟨G, 0, none⟩ (.int .i64 (k : Int))).setCell ⟨G, 1, none⟩ (.string (bA t))).setCell ⟨G, 2, none⟩ (.int .i64 (vk : Int))).setCell ⟨G, 3, none⟩ (.int .i64 (vn : Int))).setCell ⟨G, 4, none⟩ (.string (bA vs))).setCell ⟨G, 5, none⟩ (.slice none 0 0)).setCell ⟨G, 6, none⟩ (.slice none 0 0)).setCell ⟨G, 7, none⟩ (.bool f)).setCell ⟨G, 8, none⟩ (.slice ak n ck)).setCell ⟨G, 9, none⟩ (.int .i64 (p : Int))).heap[G]? = some (.cells #[.int .i64 (k : Int), .string (bA t), .int .i64 (vk : Int), .int .i64 (vn : Int), .string (bA vs), .slice none 0 0, .slice none 0 0, .bool f, .slice ak n ck, .int .i64 (p : Int)] 33 (0, 0)) ∧ NdP c w d (.ok (ns, l)) (.returned (.agg #[.int .i64 (k : Int), .string (bA t), .int .i64 (vk : Int), .int .i64 (vn : Int), .string (bA vs), .slice none 0 0, .slice none 0 0, .bool f, .slice ak n ck, .int .i64 (p : Int)])) ((((((((((u.setCell ⟨G, 0, none⟩ (.int .i64 (k : Int))).setCell ⟨G, 1, none⟩ (.string (bA t))).setCell ⟨G, 2, none⟩ (.int .i64 (vk : Int))).setCell ⟨G, 3, none⟩ (.int .i64 (vn : Int))).setCell ⟨G, 4, none⟩ (.string (bA vs))).setCell ⟨G, 5, none⟩ (.slice none 0 0)).setCell ⟨G, 6, none⟩ (.slice none 0 0)).setCell ⟨G, 7, none⟩ (.bool f)).setCell ⟨G, 8, none⟩ (.slice ak n ck)).setCell ⟨G, 9, none⟩ (.int .i64 (p : Int))) := by
  subst hG
  obtain ⟨h1, h2, h3, h4, h5⟩ := h.fin (.int .i64 (k : Int)) (.string (bA t)) (.int .i64 (vk : Int)) (.int .i64 (vn : Int)) (.string (bA vs)) (.slice none 0 0) (.slice none 0 0) (.bool f) (.slice ak n ck) (.int .i64 (p : Int))
  exact ⟨h1, k, t, vk, vn, vs, f, n, ak, ck, p, S, rfl, hn, (hk.to (fun b hb1 hb2 _ => h4 b (by omega)) (Nat.le_of_eq h5.symm)).low (Nat.le_succ _), h2, h3⟩
theorem St.own10 {w : World} {c : Cx} {T : TypeId} {z : Array Value} {u : World} {l : List Tk} {d : Nat} (h : St w c T z u l d) {q : Nat} (hq : w.heap.size < q) (v0 v1 v2 v3 v4 v5 v6 v7 v8 v9 : Value) :
    St w c T z ((((((((((u.setCell ⟨q, 0, none⟩ v0).setCell ⟨q, 1, none⟩ v1).setCell ⟨q, 2, none⟩ v2).setCell ⟨q, 3, none⟩ v3).setCell ⟨q, 4, none⟩ v4).setCell ⟨q, 5, none⟩ v5).setCell ⟨q, 6, none⟩ v6).setCell ⟨q, 7, none⟩ v7).setCell ⟨q, 8, none⟩ v8).setCell ⟨q, 9, none⟩ v9) l d ∧ (∀ b, b ≠ q → ((((((((((u.setCell ⟨q, 0, none⟩ v0).setCell ⟨q, 1, none⟩ v1).setCell ⟨q, 2, none⟩ v2).setCell ⟨q, 3, none⟩ v3).setCell ⟨q, 4, none⟩ v4).setCell ⟨q, 5, none⟩ v5).setCell ⟨q, 6, none⟩ v6).setCell ⟨q, 7, none⟩ v7).setCell ⟨q, 8, none⟩ v8).setCell ⟨q, 9, none⟩ v9).heap[b]? = u.heap[b]?) ∧ ((((((((((u.setCell ⟨q, 0, none⟩ v0).setCell ⟨q, 1, none⟩ v1).setCell ⟨q, 2, none⟩ v2).setCell ⟨q, 3, none⟩ v3).setCell ⟨q, 4, none⟩ v4).setCell ⟨q, 5, none⟩ v5).setCell ⟨q, 6, none⟩ v6).setCell ⟨q, 7, none⟩ v7).setCell ⟨q, 8, none⟩ v8).setCell ⟨q, 9, none⟩ v9).heap.size = u.heap.size := by
  refine ⟨((((((((((h.own q 0 _ hq).own q 1 _ hq).own q 2 _ hq).own q 3 _ hq).own q 4 _ hq).own q 5 _ hq).own q 6 _ hq).own q 7 _ hq).own q 8 _ hq).own q 9 _ hq), fun b hb => ?_, by simp⟩
  rw [heap_setCell_other _ _ _ _ hb, heap_setCell_other _ _ _ _ hb, heap_setCell_other _ _ _ _ hb, heap_setCell_other _ _ _ _ hb, heap_setCell_other _ _ _ _ hb, heap_setCell_other _ _ _ _ hb, heap_setCell_other _ _ _ _ hb, heap_setCell_other _ _ _ _ hb, heap_setCell_other _ _ _ _ hb, heap_setCell_other _ _ _ _ hb]
/-- a node without kids -/
theorem NdOk.leaf {lo : Nat} {w : World} (hl : lo ≤ w.heap.size) (k : Nat) (t : List UInt8) (vk vn : Nat) (vs : List UInt8) (f : Bool) (p : Nat) : NdOk lo w [⟨k, t, vk, vn, vs, f, [], p⟩] (ndC k t vk vn vs f 0 none 0 p) [] := (Kr.nil hl).node k t vk vn vs f p
end Go.Proofs.YtgalfhlclmkbfaaDoor
