/-
  Bytes as a source says them; no conditions.
  A region that draws its order and closes with a store over a cell that it has read: the read may be taken first, since the store waits for it; no conditions.
  Rows of the call's own: append of one element, of some bytes; no conditions.
-/
import Derived.Test.YtgalfhlclmkbfaaGreatDoorC00
import Derived.Test.YtgalfhlclmkbfaaGreatDoorC01
import Derived.Deep.RegionHeld3
import Derived.Test.YtgalfhlclmkbfaaGreatDoorRows
import Derived.WalkKit
import Derived.WalkSpells
import Derived.WalkSmall
import Derived.Below
import Derived.OwnWalk
import Derived.Laws.Rows
import Derived.Laws.BytesArg
import Derived.Laws.Strings
import Derived.Maps.AppendAt
import Derived.Deep.CutRange
import Derived.Deep.AppendLies
import Derived.ArgAppend
import Derived.Lib.SlBytesConst
import Derived.Deep.QuietTactic
import Derived.BigQuiet
set_option linter.unusedVariables false
set_option linter.unusedSimpArgs false
namespace Go.Proofs.YtgalfhlclmkbfaaGreatDoor
set_option linter.unusedVariables false
set_option linter.unusedSimpArgs false

def hx (n : Nat) : UInt8 := if n < 10 then UInt8.ofNat (48 + n) else UInt8.ofNat (87 + n)
/-- a byte, as a source says it -/
def qB (c : UInt8) : List UInt8 := if c.toNat = 34 ∨ c.toNat = 92 then [92, c] else if 32 ≤ c.toNat ∧ c.toNat ≤ 126 then [c] else [92, 120, hx (c.toNat / 16), hx (c.toNat % 16)]
/-- bytes, as a source says them -/
def quoB (l : List UInt8) : List UInt8 := 34 :: l.flatMap qB ++ [34]

theorem qB_num (c : UInt8) (h : c.toNat < 32 ∨ 126 < c.toNat) : qB c = [92, 120, hx (c.toNat / 16), hx (c.toNat % 16)] := by
  unfold qB
  rw [if_neg (by omega), if_neg (by omega)]
theorem qB_esc (c : UInt8) (h : c.toNat = 34 ∨ c.toNat = 92) : qB c = [92, c] := by
  unfold qB
  rw [if_pos (by omega)]
theorem qB_own (c : UInt8) (h0 : 32 ≤ c.toNat) (h1 : c.toNat ≤ 126) (h2 : c.toNat ≠ 34) (h3 : c.toNat ≠ 92) : qB c = [c] := by
  unfold qB
  rw [if_neg (by omega), if_pos (by omega)]

theorem qB_len (c : UInt8) : (qB c).length ≤ 4 ∧ 1 ≤ (qB c).length := by
  unfold qB
  split
  · simp
  · split <;> simp

theorem flatB_len (l : List UInt8) : (l.flatMap qB).length ≤ 4 * l.length := by
  induction l with
  | nil => exact Nat.le_refl _
  | cons c l ih =>
    rw [List.flatMap_cons, List.length_append, List.length_cons]
    have := qB_len c
    omega

theorem flatB_next (s : ByteArray) (i : Nat) (h : i < s.size) : (s.data.toList.take (i + 1)).flatMap qB = (s.data.toList.take i).flatMap qB ++ qB (s[i]'h) := by
  have e : s.data.toList[i]? = some (s[i]'h) := by rw [Array.getElem?_toList]; exact Array.getElem?_eq_getElem h
  rw [List.take_add_one, e, List.flatMap_append]
  simp

def hexB : ByteArray := ⟨#[48, 49, 50, 51, 52, 53, 54, 55, 56, 57, 97, 98, 99, 100, 101, 102]⟩
theorem hexB_fin : ∀ d : Fin 16, hexB[d.val]'(by have := d.isLt; show d.val < 16; omega) = hx d.val := by decide +kernel
theorem hexB_at (k : Nat) (h : k < 16) (hh : k < hexB.size) : hexB[k]'hh = hx k := hexB_fin ⟨k, h⟩
theorem hexV_hx : ∀ d : Fin 16, hexV (hx d.val) = some d.val := by decide +kernel
end Go.Proofs.YtgalfhlclmkbfaaGreatDoor

namespace Go.Proofs.YtgalfhlclmkbfaaGreatDoor
open Go.RowKit

section
variable {P : Program} {ops : Array Oper} {Q : Exit → Act → World → Prop} {md : Region.Mode} {S : World → Prop} {z : Nat}

/-- whatever order is picked from here on, S holding behind each operation but number z -/
def Till (P : Program) (md : Region.Mode) (ops : Array Oper) (Q : Exit → Act → World → Prop) (S : World → Prop) (z : Nat) : Nat → Array Bool → Act → World → Prop
  | 0, listed, a, w => Region.ready md ops listed = [] ∧ Q .normal a w
  | f + 1, listed, a, w => (Region.ready md ops listed = [] → Q .normal a w) ∧ ∀ i ∈ Region.ready md ops listed, wpOp P ops Q i (fun a' w' => (i = z ∨ S w') ∧ Till P md ops Q S z f (listed.setIfInBounds i true) a' w') a w

theorem Till.any : ∀ (f : Nat) (listed : Array Bool) (a : Act) (w : World), Till P md ops Q S z f listed a w → wpAny P md ops Q f listed a w
  | 0, _, _, _, h => h
  | f + 1, _, _, _, h => ⟨h.1, fun i hi => wpOp_mono (fun a' w' h' => Till.any f _ a' w' h'.2) (h.2 i hi)⟩

theorem Till.first {i : Nat} {oi oz : Oper} {v : Value} (hi : ops[i]? = some oi) (hz : ops[z]? = some oz) (hwait : ∃ e ∈ oz.after, Region.binds md e = true ∧ e.on = i)
    (hsel : ∀ (j : Nat) (o : Oper) cs b, ops[j]? = some o → o.op ≠ .select cs b) (hQ : ∀ c a w, Q (.panic c) (a.put oi.dst v) w → Q (.panic c) a w) :
    ∀ (f : Nat) (listed : Array Bool) (a : Act) (w : World),
      (∀ j oj, ops[j]? = some oj → j ≠ i → listed.getD j true = false → (∀ e ∈ oj.after, Region.binds md e = true → e.on ≠ i) → oi.apart ops oj = true) →
      i ∈ Region.ready md ops listed → YieldsIf P ops S oi v a → S w →
      Till P md ops Q S z f (listed.setIfInBounds i true) (a.put oi.dst v) w → Till P md ops Q S z (f + 1) listed a w := by
  intro f
  induction f with
  | zero =>
    intro listed a w _ hr hy hS H
    refine ⟨fun h => (by rw [h] at hr; cases hr), fun j hj => ?_⟩
    by_cases e : j = i
    · rw [e]
      exact hy.wpOp hi hS ⟨Or.inr hS, H⟩
    · exact absurd (ready_mono hj e) (by rw [H.1]; simp)
  | succ f ih =>
    intro listed a w hfree hr hy hS H
    refine ⟨fun h => (by rw [h] at hr; cases hr), fun j hj => ?_⟩
    by_cases e : j = i
    · rw [e]
      exact hy.wpOp hi hS ⟨Or.inr hS, H⟩
    · obtain ⟨hun, oj, hoj, hall⟩ := mem_ready.1 hj
      have hi0 := (mem_ready.1 hr).1
      -- nobody who may come up now waits for number i
      have hnot : ∀ x ∈ oj.after, Region.binds md x = true → x.on ≠ i := fun x hx hb he => by
        have h1 := hall x hx hb
        rw [he] at h1
        rcases Nat.lt_or_ge i listed.size with hl | hl
        · simp [hl] at hi0 h1
          rw [hi0] at h1
          cases h1
        · simp [Array.getElem?_eq_none hl] at h1
      have hjz : j ≠ z := fun he => by
        obtain ⟨x, hx, hb, hon⟩ := hwait
        rw [he] at hoj
        rw [hoj] at hz
        cases hz
        exact hnot x hx hb hon
      have h2 := wpOp_putIf hoj (hfree j oj hoj e hun hnot) (fun cs b => hsel i oi cs b hi) (fun cs b => hsel j oj cs b hoj) hQ hy (H.2 j (ready_mono hj e))
      refine wpOp_mono (fun a' w' h3 => ?_) h2
      obtain ⟨hy', hS', hT⟩ := h3
      have hSw : S w' := hS'.resolve_left hjz
      refine ⟨Or.inr hSw, ih (listed.setIfInBounds j true) a' w' (fun k ok hk hki hu hno => hfree k ok hk hki ?_ hno) (ready_mono hr (Ne.symm e)) hy' hSw ?_⟩
      · by_cases hjk : j = k
        · rw [← hjk]; exact hun
        · rw [getD_set_ne true hjk] at hu; exact hu
      · rw [Array.setIfInBounds_comm _ _ e]
        exact hT

/-- number i first -/
theorem till_take {f : Nat} {listed : Array Bool} {a : Act} {w : World} (i : Nat) {oi oz : Oper} {v : Value} (d : Option Tmp) (hi : ops[i]? = some oi) (hd : oi.dst = d) (hz : ops[z]? = some oz) (hwait : (oz.after.any fun e => Region.binds md e && e.on == i) = true)
    (hs : Region.noSelect ops = true) (hf : Region.free md ops listed i = true) (hr : (Region.ready md ops listed).contains i = true)
    (hQ : ∀ c a w, Q (.panic c) (a.put d v) w → Q (.panic c) a w) (hy : YieldsIf P ops S oi v a) (hS : S w)
    (h : Till P md ops Q S z f (listed.setIfInBounds i true) (a.put d v) w) : Till P md ops Q S z (f + 1) listed a w := by
  subst hd
  refine Till.first hi hz ?_ (Region.noSelect_spec hs) hQ f listed a w (Region.free_spec hi hf) (by simpa using hr) hy hS h
  rw [Array.any_eq_true] at hwait
  obtain ⟨k, hk, hx⟩ := hwait
  rw [Bool.and_eq_true, beq_iff_eq] at hx
  exact ⟨_, Array.getElem_mem hk, hx.1, hx.2⟩

/-- one alone may come up -/
theorem till_one {f : Nat} {listed : Array Bool} {a : Act} {w : World} (i : Nat) {o : Oper} (hr : Region.ready md ops listed = [i]) (ho : ops[i]? = some o)
    (h : ∀ K' : Act → World → Prop, Shut (∀ a w, (i = z ∨ S w) → Till P md ops Q S z f (listed.setIfInBounds i true) a w → K' a w) → if Region.wanted o (yielded ops a.tmps) = true then Oper.wp P o a w K' Q else K' (a.put o.dst undef) w) :
    Till P md ops Q S z (f + 1) listed a w := by
  refine ⟨fun e => (by rw [e] at hr; cases hr), fun j hj => ?_⟩
  rw [hr, List.mem_singleton] at hj
  subst hj
  exact wpOp_step ho (fun K' hK => h K' (fun a w hS hT => hK a w ⟨hS, hT⟩))

/-- two may come up -/
theorem till_two {f : Nat} {listed : Array Bool} {a : Act} {w : World} (i j : Nat) {oi oj : Oper} (hr : Region.ready md ops listed = [i, j]) (hi : ops[i]? = some oi) (hj : ops[j]? = some oj)
    (h1 : ∀ K' : Act → World → Prop, Shut (∀ a w, (i = z ∨ S w) → Till P md ops Q S z f (listed.setIfInBounds i true) a w → K' a w) → if Region.wanted oi (yielded ops a.tmps) = true then Oper.wp P oi a w K' Q else K' (a.put oi.dst undef) w)
    (h2 : ∀ K' : Act → World → Prop, Shut (∀ a w, (j = z ∨ S w) → Till P md ops Q S z f (listed.setIfInBounds j true) a w → K' a w) → if Region.wanted oj (yielded ops a.tmps) = true then Oper.wp P oj a w K' Q else K' (a.put oj.dst undef) w) :
    Till P md ops Q S z (f + 1) listed a w := by
  refine ⟨fun e => (by rw [e] at hr; cases hr), fun k hk => ?_⟩
  rw [hr, List.mem_cons, List.mem_singleton] at hk
  rcases hk with e | e
  · rw [e]
    exact wpOp_step hi (fun K' hK => h1 K' (fun a w hS hT => hK a w ⟨hS, hT⟩))
  · rw [e]
    exact wpOp_step hj (fun K' hK => h2 K' (fun a w hS hT => hK a w ⟨hS, hT⟩))

theorem till_done {listed : Array Bool} {a : Act} {w : World} (hr : Region.ready md ops listed = []) (h : Q .normal a w) : ∀ f, Till P md ops Q S z f listed a w
  | 0 => ⟨hr, h⟩
  | _ + 1 => ⟨fun _ => h, by rw [hr]; simp⟩

theorem till_begin {id : Nat} {a : Act} {w : World} (z : Nat) (hm : P.follows .mixedOrders = true) (h : Till P .any ops Q S z ops.size (Array.replicate ops.size false) a w.drew) : (Code.region id ops true).wp P Q a w :=
  wp_region_any hm (Till.any _ _ _ _ h)
end
end Go.Proofs.YtgalfhlclmkbfaaGreatDoor

namespace Go.Proofs.YtgalfhlclmkbfaaGreatDoor
open Go.RowKit
set_option linter.unusedVariables false
set_option linter.unusedSimpArgs false

theorem own_later {w w' : World} {base : Nat} {e : TypeId} {size : Nat} {v : Value} {n : Nat} {xs : List Value} (h : w.ownsRow base e size v n xs) (hb : ∀ b, b < w.heap.size → v.ownBlock = some b → w'.heap[b]? = w.heap[b]?) : w'.ownsRow base e size v n xs := by
  refine ⟨h.1, ?_⟩
  rcases h.2 with hn | ⟨g, cap, cur, rfl, hbs, hg, rest⟩
  · exact .inl hn
  · exact .inr ⟨g, cap, cur, rfl, hbs, (hb g (Array.getElem?_eq_some_iff.1 hg).1 rfl).trans hg, rest⟩

theorem slice_form {w : World} {base : Nat} {e : TypeId} {size : Nat} {v : Value} {n : Nat} {xs : List Value} (h : w.ownsRow base e size v n xs) : ∃ ao cap, v = .slice ao n cap ∧ (ao = none → n = 0 ∧ cap = 0) ∧ n ≤ cap ∧ cap ≤ maxLen ∧ ∀ a, ao = some a → v.ownBlock = some a.block ∧ a = ⟨a.block, 0, none⟩ := by
  rcases h.2 with ⟨rfl, rfl⟩ | ⟨g, cap, cur, rfl, hb, hg, h1, h2, _⟩
  · exact ⟨none, 0, rfl, fun _ => ⟨rfl, rfl⟩, Nat.le_refl _, by unfold maxLen; omega, fun a h => by cases h⟩
  · exact ⟨some ⟨g, 0, none⟩, cap, rfl, (fun e => by cases e), h1, h2, fun a h => by cases h; exact ⟨rfl, rfl⟩⟩

/-- append of one element that was just laid -/
theorem wpl_oneG {P : Program} {w : World} {ops : Array Oper} {rest : List Oper} {o : Oper} {a : Act} {Q : Exit → Act → World → Prop} (hgd : o.guard = none) (sl x : Operand) (T e : TypeId) (i0 : TypeInfo) (z : Value) (size bytes : Nat)
    (hu : P.underlying T = some (.slice e)) (hi : P.info? e = some i0) (hz : i0.zero = some z) (hs1 : i0.size = size) (hby : i0.bytes = bytes) (hzs : z.cells.size = size) (hsz : 0 < size)
    (ho : o.op = .call { callee := .builtin .append, args := #[sl, x], argTypes := #[T, T] })
    (base n : Nat) (v : Value) (xs : List Value) (A : List Value) (hA : A.length = size) (h1 : ∀ u ∈ A, u.oneCell' = true) (hs : a.eval sl = v) (hown : w.ownsRow base e size v n xs)
    (hx : a.eval x = .slice (some ⟨w.heap.size, 0, none⟩) 1 1) (hn : n + 1 ≤ maxLen) (hbytes : (n + 1) * bytes ≤ 140737488355328) (hbase : base ≤ w.heap.size)
    (h : ∀ v' w', Hid (w'.ownsRow base e size v' (n + 1) (xs ++ A) ∧ w.grownBy w' v.ownBlock ∧ ∀ b, v'.ownBlock = some b → v.ownBlock = some b ∨ w.heap.size ≤ b) → wpList P ops Q rest (a.put o.dst v') w') :
    wpList P ops Q (o :: rest) a (w.alloc (.cells A.toArray e)) := by
  refine wpList_plain hgd fun K hK => ?_
  have hb : Below w.heap.size w (w.alloc (.cells A.toArray e)) := (Below.refl _ _).alloc (Nat.le_refl _) _
  have hnew := heap_alloc_new w (.cells A.toArray e)
  have hz1 : (w.alloc (.cells A.toArray e)).heap.size = w.heap.size + 1 := by simp
  obtain ⟨v', w', hrun, r1, r2, _, r4⟩ := run_append_own_at (P := P) (w.alloc (.cells A.toArray e)) base T o.type e i0 z size bytes hu hi hz hs1 hby hzs hsz v n xs (hown.alloc _) ⟨w.heap.size, 0, none⟩ 1 1 A (by omega) (fun j u hj => World.news_of_block hnew j u (by simpa using hj)) h1 hn hbytes (by omega)
  unfold Oper.wp
  simp only [execOp, ho, resolve, invoke, builtin, Sem.run_bind, Sem.run_pure, Result.andThen_ok, List.map_toArray, List.map_cons, List.map_nil, hs, hx, hrun]
  refine hK _ _ (h v' w' ⟨r1, ⟨r2.os, r2.tape, r2.output, by have := r2.size; omega, fun k hk hne => (r2.block k (by omega) hne).trans (heap_alloc_old w _ hk)⟩, fun b hb' => ?_⟩)
  rcases r4 with e' | e'
  · exact Or.inl (by rw [← e']; exact hb')
  · rw [hb'] at e'
    exact Or.inr (by rw [Option.some.inj e', hz1]; omega)

theorem info5q : (Tryz.prog.info? 5).map (fun i => (i.zero, i.size, i.bytes)) = some (some (.int .u8 0), 1, 1) := by kernel_rfl

/-- a row of bytes: the call's own, or a constant's, full -/
def QRow (w : World) (base : Nat) (v : Value) (n : Nat) (xs : List Value) : Prop :=
  w.ownsRow base 5 1 v n xs ∨ ∃ b, v = .slice (some ⟨b, 0, none⟩) n n ∧ xs.length = n ∧ b < w.heap.size ∧ base ≤ b ∧ ∀ j u, xs[j]? = some u → w.cell? ⟨b, j, none⟩ = some u

theorem QRow.later {w u : World} {base : Nat} {v : Value} {n : Nat} {xs : List Value} (h : QRow w base v n xs) (hu : Below w.heap.size w u) : QRow u base v n xs := by
  rcases h with h | ⟨b, h1, h2, h3, h4, h5⟩
  · exact Or.inl (own_later h (fun b hb _ => hu.block b hb))
  · exact Or.inr ⟨b, h1, h2, Nat.lt_of_lt_of_le h3 hu.size, h4, fun j x hx => cell_later hu (h5 j x hx)⟩

theorem QRow.form {w : World} {base : Nat} {v : Value} {n : Nat} {xs : List Value} (h : QRow w base v n xs) : ∃ ao cap, v = .slice ao n cap := by
  rcases h with h | ⟨b, h1, _⟩
  · obtain ⟨ao, cap, e, _⟩ := slice_form h
    exact ⟨ao, cap, e⟩
  · exact ⟨_, _, h1⟩

theorem run_few {w : World} (ty : TypeId) (base n c : Nat) (v : Value) (xs : List Value) (A : List Value) (hA : A.length = c) (h1 : ∀ u ∈ A, u.oneCell' = true) (hown : QRow w base v n xs) (hc : 0 < c) (hn : n + c ≤ 140737488355328) (hbase : base ≤ w.heap.size) (b : Nat) (hb : w.heap[b]? = some (.cells A.toArray 5 (0, 0))) :
    ∃ v' w', (Builtin.append_ #[37, 37] ty #[v, .slice (some ⟨b, 0, none⟩) c c]).run Tryz.prog w = .ok v' w' ∧ w'.ownsRow base 5 1 v' (n + c) (xs ++ A) ∧ Below base w w' := by
  obtain ⟨i0, hi, hz0, hz1, hz2⟩ := info_parts info5q
  have hnews : ∀ j u, A[j]? = some u → w.cell? ((⟨b, 0, none⟩ : Addr).add j) = some u := fun j u hj => World.news_of_block hb j u (by simpa using hj)
  rcases hown with hown | ⟨q, rfl, hxl, hq, hbq, hcell⟩
  · obtain ⟨v', w', hrun, r1, r2, _, r4⟩ := run_append_own_at (P := Tryz.prog) w base 37 ty 5 i0 (.int .u8 0) 1 1 Tryz.underlying37 hi hz0 hz1 hz2 rfl (by omega) v n xs hown ⟨b, 0, none⟩ c c A (by omega) hnews h1 (by unfold maxLen; omega) (by omega) hbase
    exact ⟨v', w', hrun, r1, (Below.refl _ _).grown r2 hbase (fun k e => (hown.lt k e).1)⟩
  · obtain ⟨v', w', hrun, own, gr⟩ := run_append_arg_grows (P := Tryz.prog) w 37 ty 5 i0 (.int .u8 0) 1 1 Tryz.underlying37 hi hz0 hz1 hz2 rfl (by omega) ⟨q, 0, none⟩ n n xs (by omega) (fun j u hu => by
      have hp : (⟨q, 0, none⟩ : Addr).add j = ⟨q, j, none⟩ := by unfold Addr.add; split <;> simp_all
      rw [hp]
      exact hcell j u hu) ⟨b, 0, none⟩ c c A (by omega) hnews (by omega) (by unfold maxLen; omega) (by omega)
    refine ⟨v', w', hrun, ⟨own.1, ?_⟩, ⟨gr.os, gr.tape, gr.output, gr.size, fun k hk => gr.block k (by omega) (by simp)⟩⟩
    rcases own.2 with h | ⟨g, cap, cur, e1, hbg, rest⟩
    · exact .inl h
    · exact .inr ⟨g, cap, cur, e1, by omega, rest⟩

/-- append of some bytes that were just laid -/
theorem wpl_fewB {w : World} {ops : Array Oper} {rest : List Oper} {o : Oper} {a : Act} {Q : Exit → Act → World → Prop} (hgd : o.guard = none) (sl x : Operand)
    (ho : o.op = .call { callee := .builtin .append, args := #[sl, x], argTypes := #[37, 37] })
    (base n c : Nat) (v : Value) (xs : List Value) (A : List Value) (hA : A.length = c) (h1 : ∀ u ∈ A, u.oneCell' = true) (hs : a.eval sl = v) (hown : QRow w base v n xs) (hc : 0 < c)
    (hx : a.eval x = .slice (some ⟨w.heap.size, 0, none⟩) c c) (hn : n + c ≤ 140737488355328) (hbase : base ≤ w.heap.size)
    (h : ∀ v' w', Hid (w'.ownsRow base 5 1 v' (n + c) (xs ++ A) ∧ Below base w w') → wpList Tryz.prog ops Q rest (a.put o.dst v') w') :
    wpList Tryz.prog ops Q (o :: rest) a (w.alloc (.cells A.toArray 5)) := by
  refine wpList_plain hgd fun K hK => ?_
  have hb0 : Below w.heap.size w (w.alloc (.cells A.toArray 5)) := (Below.refl _ _).alloc (Nat.le_refl _) _
  obtain ⟨v', w', hrun, r1, r2⟩ := run_few o.type base n c v xs A hA h1 (hown.later hb0) hc hn (Nat.le_trans hbase hb0.size) w.heap.size (heap_alloc_new w _)
  unfold Oper.wp
  simp only [execOp, ho, resolve, invoke, builtin, Sem.run_bind, Sem.run_pure, Result.andThen_ok, List.map_toArray, List.map_cons, List.map_nil, hs, hx, hrun]
  exact hK _ _ (h v' w' ⟨r1, (hb0.mono hbase).trans r2⟩)

/-- the same, at a step of a region that draws -/
theorem step_fewB {w : World} {ops : Array Oper} {o : Oper} {a : Act} {K : Act → World → Prop} {Q' : Exit → Act → World → Prop} {E : Prop} (hgd : o.guard = none) (sl x : Operand)
    (ho : o.op = .call { callee := .builtin .append, args := #[sl, x], argTypes := #[37, 37] })
    (base n c b : Nat) (v : Value) (xs : List Value) (A : List Value) (hA : A.length = c) (h1 : ∀ u ∈ A, u.oneCell' = true) (hs : a.eval sl = v) (hown : QRow w base v n xs) (hc : 0 < c) (hb : w.heap[b]? = some (.cells A.toArray 5 (0, 0)))
    (hx : a.eval x = .slice (some ⟨b, 0, none⟩) c c) (hn : n + c ≤ 140737488355328) (hbase : base ≤ w.heap.size)
    (h : ∀ v' w', Hid (w'.ownsRow base 5 1 v' (n + c) (xs ++ A) ∧ Below base w w') → K (a.put o.dst v') w') :
    if Region.wanted o (yielded ops a.tmps) = true then Oper.wp Tryz.prog o a w K Q' else E := by
  have hw : Region.wanted o (yielded ops a.tmps) = true := by simp [Region.wanted, hgd]
  rw [if_pos hw]
  obtain ⟨v', w', hrun, r1, r2⟩ := run_few o.type base n c v xs A hA h1 hown hc hn hbase b hb
  unfold Oper.wp
  simp only [execOp, ho, resolve, invoke, builtin, Sem.run_bind, Sem.run_pure, Result.andThen_ok, List.map_toArray, List.map_cons, List.map_nil, hs, hx, hrun]
  exact h v' w' (hide ⟨r1, r2⟩)

theorem byte_conv {w : World} {base n : Nat} {v : Value} {zs : List Int} (h : w.ownsRow base 5 1 v (n + 1) (zs.map (Value.int .u8))) :
    ∃ b cap, v = .slice (some ⟨b, 0, none⟩) (n + 1) cap ∧ Sem.run Tryz.prog (convert 37 9 (.slice (some ⟨b, 0, none⟩) (n + 1) cap)) w = .ok (.string (strOfNums zs)) w := by
  have hl : zs.length = n + 1 := by have := h.1; simpa using this
  rcases h.2 with ⟨_, e⟩ | ⟨b, cap, cur, rfl, _⟩
  · omega
  · refine ⟨b, cap, rfl, ?_⟩
    refine run_convert_bytes_arg (P := Tryz.prog) w 37 5 Tryz.underlying37 Tryz.underlying5 b 0 (n + 1) cap zs hl (fun j hj => ?_) 9 Tryz.underlying9
    have hc := h.cells (g := b) rfl j (.int .u8 (zs.getD j 0)) (by
      rw [List.getElem?_map, List.getD_eq_getElem?_getD, List.getElem?_eq_getElem (by omega)]
      rfl)
    have ha : (⟨b, 0, none⟩ : Addr).add j = ⟨b, 0 + j, none⟩ := by unfold Addr.add; split <;> simp_all
    rw [ha] at hc
    exact hc
end Go.Proofs.YtgalfhlclmkbfaaGreatDoor
