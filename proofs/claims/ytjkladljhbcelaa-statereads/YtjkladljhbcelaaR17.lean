/-
  A region that draws its order and closes with a store over a cell that it has read: the read may be taken first, since the store waits for it; no conditions.
  The reader of wire: an array, by what a value within it is; conditions: the weight so far is at most 2048, the form's own reach.
-/
import Derived.Test.YtjkladljhbcelaaR00
import Derived.Deep.RegionHeld3
import Derived.Test.YtjkladljhbcelaaWRdS
import Derived.Test.YtjkladljhbcelaaR14
import Derived.Test.YtjkladljhbcelaaWMid
namespace Go.Proofs.Ytjkladljhbcelaa
open Go.RowKit

section
variable {P : Program} {ops : Array Oper} {Q : Exit → Act → World → Prop} {md : Region.Mode} {S : World → Prop} {z : Nat}

/-- whatever order is picked from here on, S holding behind each operation but number z -/
def Till (P : Program) (md : Region.Mode) (ops : Array Oper) (Q : Exit → Act → World → Prop) (S : World → Prop) (z : Nat) : Nat → Array Bool → Act → World → Prop
  | 0, listed, a, w => Region.ready md ops listed = [] ∧ Q .normal a w
  | f + 1, listed, a, w => (Region.ready md ops listed = [] → Q .normal a w) ∧ ∀ i ∈ Region.ready md ops listed, wpOp P ops Q i (fun a' w' => (i = z ∨ S w') ∧ Till P md ops Q S z f (listed.setIfInBounds i true) a' w') a w

theorem Till.any : ∀ (f : Nat) (listed : Array Bool) (a : Act) (w : World), Till P md ops Q S z f listed a w → wpAny P md ops Q f listed a w
  | 0, _, _, _, h => h
  | f + 1, _, _, _, h => ⟨h.1, fun i hi => wpOp_mono (fun a' w' h' => Till.any f _ a' w' h'.2) (h.2 i hi)⟩

theorem Till.first {i : Nat} {oi oz : Oper} {v : Value} (hi : ops[i]? = some oi) (hz : ops[z]? = some oz) (hwait : ∃ e ∈ oz.after, Region.binds md e = true ∧ e.on = i)
    (hsel : ∀ (j : Nat) (o : Oper) cs b, ops[j]? = some o → o.op ≠ .select cs b) (hQ : ∀ c a w, Q (.panic c) (a.put oi.dst v) w → Q (.panic c) a w) :
    ∀ (f : Nat) (listed : Array Bool) (a : Act) (w : World),
      (∀ j oj, ops[j]? = some oj → j ≠ i → listed.getD j true = false → (∀ e ∈ oj.after, Region.binds md e = true → e.on ≠ i) → oi.apart ops oj = true) →
      i ∈ Region.ready md ops listed → YieldsIf P ops S oi v a → S w →
      Till P md ops Q S z f (listed.setIfInBounds i true) (a.put oi.dst v) w → Till P md ops Q S z (f + 1) listed a w := by
  intro f
  induction f with
  | zero =>
    intro listed a w _ hr hy hS H
    refine ⟨fun h => (by rw [h] at hr; cases hr), fun j hj => ?_⟩
    by_cases e : j = i
    · rw [e]
      exact hy.wpOp hi hS ⟨Or.inr hS, H⟩
    · exact absurd (ready_mono hj e) (by rw [H.1]; simp)
  | succ f ih =>
    intro listed a w hfree hr hy hS H
    refine ⟨fun h => (by rw [h] at hr; cases hr), fun j hj => ?_⟩
    by_cases e : j = i
    · rw [e]
      exact hy.wpOp hi hS ⟨Or.inr hS, H⟩
    · obtain ⟨hun, oj, hoj, hall⟩ := mem_ready.1 hj
      have hi0 := (mem_ready.1 hr).1
      -- nobody who may come up now waits for number i
      have hnot : ∀ x ∈ oj.after, Region.binds md x = true → x.on ≠ i := fun x hx hb he => by
        have h1 := hall x hx hb
        rw [he] at h1
        rcases Nat.lt_or_ge i listed.size with hl | hl
        · simp [hl] at hi0 h1
          rw [hi0] at h1
          cases h1
        · simp [Array.getElem?_eq_none hl] at h1
      have hjz : j ≠ z := fun he => by
        obtain ⟨x, hx, hb, hon⟩ := hwait
        rw [he] at hoj
        rw [hoj] at hz
        cases hz
        exact hnot x hx hb hon
      have h2 := wpOp_putIf hoj (hfree j oj hoj e hun hnot) (fun cs b => hsel i oi cs b hi) (fun cs b => hsel j oj cs b hoj) hQ hy (H.2 j (ready_mono hj e))
      refine wpOp_mono (fun a' w' h3 => ?_) h2
      obtain ⟨hy', hS', hT⟩ := h3
      have hSw : S w' := hS'.resolve_left hjz
      refine ⟨Or.inr hSw, ih (listed.setIfInBounds j true) a' w' (fun k ok hk hki hu hno => hfree k ok hk hki ?_ hno) (ready_mono hr (Ne.symm e)) hy' hSw ?_⟩
      · by_cases hjk : j = k
        · rw [← hjk]; exact hun
        · rw [getD_set_ne true hjk] at hu; exact hu
      · rw [Array.setIfInBounds_comm _ _ e]
        exact hT

/-- number i first -/
theorem till_take {f : Nat} {listed : Array Bool} {a : Act} {w : World} (i : Nat) {oi oz : Oper} {v : Value} (d : Option Tmp) (hi : ops[i]? = some oi) (hd : oi.dst = d) (hz : ops[z]? = some oz) (hwait : (oz.after.any fun e => Region.binds md e && e.on == i) = true)
    (hs : Region.noSelect ops = true) (hf : Region.free md ops listed i = true) (hr : (Region.ready md ops listed).contains i = true)
    (hQ : ∀ c a w, Q (.panic c) (a.put d v) w → Q (.panic c) a w) (hy : YieldsIf P ops S oi v a) (hS : S w)
    (h : Till P md ops Q S z f (listed.setIfInBounds i true) (a.put d v) w) : Till P md ops Q S z (f + 1) listed a w := by
  subst hd
  refine Till.first hi hz ?_ (Region.noSelect_spec hs) hQ f listed a w (Region.free_spec hi hf) (by simpa using hr) hy hS h
  rw [Array.any_eq_true] at hwait
  obtain ⟨k, hk, hx⟩ := hwait
  rw [Bool.and_eq_true, beq_iff_eq] at hx
  exact ⟨_, Array.getElem_mem hk, hx.1, hx.2⟩

/-- one alone may come up -/
theorem till_one {f : Nat} {listed : Array Bool} {a : Act} {w : World} (i : Nat) {o : Oper} (hr : Region.ready md ops listed = [i]) (ho : ops[i]? = some o)
    (h : ∀ K' : Act → World → Prop, Shut (∀ a w, (i = z ∨ S w) → Till P md ops Q S z f (listed.setIfInBounds i true) a w → K' a w) → if Region.wanted o (yielded ops a.tmps) = true then Oper.wp P o a w K' Q else K' (a.put o.dst undef) w) :
    Till P md ops Q S z (f + 1) listed a w := by
  refine ⟨fun e => (by rw [e] at hr; cases hr), fun j hj => ?_⟩
  rw [hr, List.mem_singleton] at hj
  subst hj
  exact wpOp_step ho (fun K' hK => h K' (fun a w hS hT => hK a w ⟨hS, hT⟩))

/-- two may come up -/
theorem till_two {f : Nat} {listed : Array Bool} {a : Act} {w : World} (i j : Nat) {oi oj : Oper} (hr : Region.ready md ops listed = [i, j]) (hi : ops[i]? = some oi) (hj : ops[j]? = some oj)
    (h1 : ∀ K' : Act → World → Prop, Shut (∀ a w, (i = z ∨ S w) → Till P md ops Q S z f (listed.setIfInBounds i true) a w → K' a w) → if Region.wanted oi (yielded ops a.tmps) = true then Oper.wp P oi a w K' Q else K' (a.put oi.dst undef) w)
    (h2 : ∀ K' : Act → World → Prop, Shut (∀ a w, (j = z ∨ S w) → Till P md ops Q S z f (listed.setIfInBounds j true) a w → K' a w) → if Region.wanted oj (yielded ops a.tmps) = true then Oper.wp P oj a w K' Q else K' (a.put oj.dst undef) w) :
    Till P md ops Q S z (f + 1) listed a w := by
  refine ⟨fun e => (by rw [e] at hr; cases hr), fun k hk => ?_⟩
  rw [hr, List.mem_cons, List.mem_singleton] at hk
  rcases hk with e | e
  · rw [e]
    exact wpOp_step hi (fun K' hK => h1 K' (fun a w hS hT => hK a w ⟨hS, hT⟩))
  · rw [e]
    exact wpOp_step hj (fun K' hK => h2 K' (fun a w hS hT => hK a w ⟨hS, hT⟩))

theorem till_done {listed : Array Bool} {a : Act} {w : World} (hr : Region.ready md ops listed = []) (h : Q .normal a w) : ∀ f, Till P md ops Q S z f listed a w
  | 0 => ⟨hr, h⟩
  | _ + 1 => ⟨fun _ => h, by rw [hr]; simp⟩

theorem till_begin {id : Nat} {a : Act} {w : World} (z : Nat) (hm : P.follows .mixedOrders = true) (h : Till P .any ops Q S z ops.size (Array.replicate ops.size false) a w.drew) : (Code.region id ops true).wp P Q a w :=
  wp_region_any hm (Till.any _ _ _ _ h)
end
end Go.Proofs.Ytjkladljhbcelaa

namespace Go.Proofs.Ytjkladljhbcelaa
open Go.RowKit

theorem infoVv : (Try.prog.info? 36).map (fun i => (i.zero, i.size, i.bytes)) = some (some (.agg #[.int .i64 0, .int .i64 0, .string ⟨#[]⟩, .slice none 0 0, .slice none 0 0]), 5, 80) := by kernel_rfl

theorem Mid.beside {w w' : World} {base gb gr : Nat} {k n : Int} {s : ByteArray} {l : List Vl} {ks : List ByteArray} {Lv Kv : Value} {i j : Nat} {V : Nat → List Value} (h : Mid w base gb k n s l ks Lv Kv i j V) (hb : Beside gr w w') (hg : gr ≠ gb) (hr : gr < base) : Mid w' base gb k n s l ks Lv Kv i j V where
  box := (hb.block gb (Nat.lt_of_lt_of_le h.below h.size) (Ne.symm hg)).trans h.box
  below := h.below
  size := Nat.le_trans h.size hb.size
  ownL := own_later h.ownL (fun b hl e => hb.block b hl (by have := (h.ownL.lt b e).1; omega))
  ownK := own_later h.ownK (fun b hl e => hb.block b hl (by have := (h.ownK.lt b e).1; omega))
  apart := h.apart
  row := h.row
  el := fun c y hc hy => ((h.el c y hc hy).move (fun b hP => hb.block b hP.2.1 (by have := hP.1; omega))).weak (fun _ hP => ⟨hP.1, Nat.lt_of_lt_of_le hP.2.1 hb.size, hP.2.2⟩)

theorem Mid.moreL {w : World} {base gb : Nat} {k n : Int} {s : ByteArray} {l : List Vl} {ks : List ByteArray} {Lv Kv : Value} {i j : Nat} {V : Nat → List Value} (h : Mid w base gb k n s l ks Lv Kv i j V) (hl : l.length = i) (r : List Vl) : Mid w base gb k n s (l ++ r) ks Lv Kv i j V :=
  { h with el := fun c y hc hy => h.el c y hc (by rw [List.getElem?_append_left (by omega)] at hy; exact hy) }

theorem Mid.moreK {w : World} {base gb : Nat} {k n : Int} {s : ByteArray} {l : List Vl} {ks : List ByteArray} {Lv Kv : Value} {i j : Nat} {V : Nat → List Value} (h : Mid w base gb k n s l ks Lv Kv i j V) (hk : ks.length = j) (r : List ByteArray) : Mid w base gb k n s l (ks ++ r) Lv Kv i j V :=
  { h with ownK := by rw [List.take_append_of_le_length (by omega)]; exact h.ownK }

/-- how a reader's call ends -/
def Res (gr : Nat) (bv : Value) (w : World) (r : Except (Int × Int) (Vl × Nat × Nat)) (e : Ending) (w' : World) : Prop :=
  match r with
  | .error p => e = fault p.1 p.2 ∧ Beside gr w w'
  | .ok (v, a', t') => ∃ x, e = .returned x ∧ IsQ w' (fun b => w.heap.size ≤ b ∧ b < w'.heap.size) v x ∧ Rdr w' gr bv a' t' ∧ Beside gr w w'

def ValAt (zs : List Int) (d : Nat) : Prop := ∀ (gr : Nat) (ao : Option Addr) (len cap a t : Nat) (w : World), Rdr w gr (.slice ao len cap) a t → Src w gr ao len cap zs → a ≤ len → t ≤ 2048 → d ≤ 8 →
    Calls Try.prog 48 #[.pointer (some ⟨gr, 0, none⟩), .int .i64 (8 - (d : Int))] w fun e w' => Res gr (.slice ao len cap) w (rdV zs d a t) e w'

/-- what is kept beside the value that is made -/
structure Ar (w u : World) (gr g : Nat) (Z : Array Value) : Prop where
  at0 : u.heap[g]? = some (.cells Z 36 (0, 0))
  size : g + 2 ≤ u.heap.size
  beside : Beside gr w u
  top : w.heap.size = g
  low : gr < g

theorem Ar.later {w u u1 : World} {gr g : Nat} {Z : Array Value} (h : Ar w u gr g Z) (hu : Beside gr u u1) : Ar w u1 gr g Z := by
  have hs := h.size
  have hl := h.low
  exact ⟨(hu.block g (by omega) (by omega)).trans h.at0, Nat.le_trans h.size hu.size, h.beside.trans hu, h.top, h.low⟩

theorem Ar.push {w u w6 : World} {gr g f : Nat} {Z : Array Value} {row : Option Nat} {v : Value} (h : Ar w u gr g Z) (hgrow : u.grownBy w6 row) (hrow : ∀ b, row = some b → g + 2 ≤ b) : Ar w (w6.setCell ⟨g + 1, f, none⟩ v) gr g Z := by
  have hs := h.size
  have hl := h.low
  have ht := h.top
  have hg := hgrow.size
  have bb := ((Below.refl g u).grown hgrow (by omega) (fun b hb => by have := hrow b hb; omega)).setCell (p := ⟨g + 1, f, none⟩) (by simp) v
  refine ⟨?_, by simp; omega, ⟨bb.os.trans h.beside.os, bb.tape.trans h.beside.tape, bb.output.trans h.beside.output, Nat.le_trans h.beside.size bb.size, fun k hk hn => (bb.block k (by omega)).trans (h.beside.block k hk hn)⟩, h.top, h.low⟩
  rw [heap_setCell_other _ _ _ _ (by simp), hgrow.block g (by omega) (fun e => by have := hrow g e.symm; omega)]
  exact h.at0

theorem ar_start (w : World) (Z : Array Value) (k : Int) (l : List Vl) (ks : List ByteArray) (gr g : Nat) (hg : w.heap.size = g) (hr : gr < g) :
    Ar w ((w.alloc (.cells Z 36)).alloc (.cells #[.int .i64 k, .int .i64 0, .string ⟨#[]⟩, .slice none 0 0, .slice none 0 0] 36)) gr g Z ∧
    Mid ((w.alloc (.cells Z 36)).alloc (.cells #[.int .i64 k, .int .i64 0, .string ⟨#[]⟩, .slice none 0 0, .slice none 0 0] 36)) (g + 2) (g + 1) k 0 ⟨#[]⟩ l ks (.slice none 0 0) (.slice none 0 0) 0 0 (fun _ => []) := by
  subst hg
  have h1 := heap_alloc_new (w.alloc (.cells Z 36)) (.cells #[.int .i64 k, .int .i64 0, .string ⟨#[]⟩, .slice none 0 0, .slice none 0 0] 36)
  have h0 := heap_alloc_new w (.cells Z 36)
  have b1 := (Below.refl (w.alloc (.cells Z 36)).heap.size (w.alloc (.cells Z 36))).alloc (Nat.le_refl _) (.cells #[.int .i64 k, .int .i64 0, .string ⟨#[]⟩, .slice none 0 0, .slice none 0 0] 36)
  refine ⟨⟨?_, by simp, Beside.of_below (((Below.refl _ _).alloc (Nat.le_refl _) _).alloc (by simp) _), rfl, hr⟩, ?_, by omega, by simp, World.ownsRow_nil _ _ _ _, World.ownsRow_nil _ _ _ _, Or.inl rfl, fun c h => by omega, fun c y h => by omega⟩
  · rw [b1.block w.heap.size (by simp)]; exact h0
  · simpa using h1

theorem Beside.at_drew {gr : Nat} {w w' : World} (h : Beside gr w.drew w') : Beside gr w w' := ⟨h.os, h.tape, h.output, h.size, h.block⟩
theorem Rdr.beside {w w' : World} {gr g : Nat} {bv : Value} {p t : Int} (h : Rdr w g bv p t) (hb : Beside gr w w') (hn : g ≠ gr) : Rdr w' g bv p t := (hb.block g h.lt hn).trans h
theorem Beside.cell {gr : Nat} {w w' : World} (h : Beside gr w w') {p : Addr} {x : Value} (hn : p.block ≠ gr) (hc : w.cell? p = some x) : w'.cell? p = some x := by
  rw [World.cell?_of_block (h.block p.block (World.block_lt_of_cell? _ _ (by rw [hc])) hn)]; exact hc
end Go.Proofs.Ytjkladljhbcelaa
