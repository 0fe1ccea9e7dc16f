/-
  A fact put out of the walk's sight, and taken out again; no conditions.
  The machine's table of operations (layer 8) in memory; Info and Named of it; conditions: the package's variables.
  A region that draws its order and closes with a store over a cell that it has read: the read may be taken first, since the store waits for it; no conditions.
  The bytes of a number as a list ('encF'), what a slice of bytes holds ('Row8'), and small facts on both; no conditions.
-/
import Derived.WalkKit
import Derived.Test.YtdlgehnplkeoiaaGreatDoorRows
import Derived.WalkSpells
import Derived.WalkSmall
import Derived.Deep.Cut
import Derived.BigQuiet
import Derived.Deep.QuietTactic
import Derived.Deep.RegionHeld3
import Derived.OpenShut
import Derived.Laws.ResultCell
import Derived.Laws.Rows
import Derived.Laws.Tables
set_option linter.unusedVariables false
set_option linter.unusedSimpArgs false
namespace Go.Proofs.YtdlgehnplkeoiaaGreatDoor
open Go.RowKit
theorem hide {p : Prop} (h : p) : Hid p := h
theorem unhide {p : Prop} (h : Hid p) : p := h
end Go.Proofs.YtdlgehnplkeoiaaGreatDoor

namespace Go.Proofs.YtdlgehnplkeoiaaGreatDoor
open Go.RowKit

/-- a row of the table: name, sort of operand, takes, gives, base, rate -/
abbrev Inf := ByteArray × Int × Int × Int × Int × Int

def infV (x : Inf) : List Value := [.string x.1, .int .i64 x.2.1, .int .i64 x.2.2.1, .int .i64 x.2.2.2.1, .int .i64 x.2.2.2.2.1, .int .i64 x.2.2.2.2.2]

def infOf : DataW Unit → Inf
  | .agg [.lit (.string n), .lit (.int _ a), .lit (.int _ b), .lit (.int _ c), .lit (.int _ d), .lit (.int _ e)] => (⟨n.toArray⟩, a, b, c, d, e)
  | _ => (⟨#[]⟩, 0, 0, 0, 0, 0)

/-- the rows, by the operations' numbers -/
def OPS : List Inf := match (Rows.laid_scruple_code_operations : DataW Unit) with
  | .agg ps => ps.map infOf
  | _ => []

theorem OPS_len : OPS.length = 42 := by kernel_rfl

def blank : Inf := (⟨#[]⟩, 0, 0, 0, 0, 0)

/-- what Info answers -/
def infoA (n : Int) : Inf × Bool := if 1 ≤ n ∧ n ≤ 41 then (OPS.getD n.toNat blank, true) else (blank, false)

/-- the table in memory -/
structure Tab (w : World) : Prop where
  big : 1 < w.heap.size
  cell : ∀ k x, OPS[k]? = some x → ∀ j v, (infV x)[j]? = some v → w.cell? ⟨1, k * 6 + j, none⟩ = some v

theorem Tab.later {B : Nat} {w w' : World} (h : Tab w) (hb : Below B w w') (hB : 1 < B) (hs : w.heap.size ≤ w'.heap.size) : Tab w' := by
  refine ⟨Nat.lt_of_lt_of_le h.big hs, fun k x hx j v hv => ?_⟩
  have e : w'.cell? ⟨1, k * 6 + j, none⟩ = w.cell? ⟨1, k * 6 + j, none⟩ := World.cell?_of_block (hb.block 1 hB)
  rw [e]
  exact h.cell k x hx j v hv

theorem Tab.below {w w' : World} (h : Tab w) (hb : Below w.heap.size w w') : Tab w' := h.later hb h.big hb.size

theorem getD_ops (k : Nat) (hk : k < 42) : OPS[k]? = some (OPS.getD k blank) := by
  have := OPS_len
  rw [List.getD_eq_getElem?_getD, List.getElem?_eq_getElem (by omega)]
  rfl

/-- two results, the first of which lies in memory -/
theorem ret_ct {P : Program} {fn : Func} {p u : Tmp} {T : TypeId} (h : fn.results = #[.cell p T, .tmp u]) (tmps : Array Value) (w : World) (g : Nat) (c : Array Value) (d : TypeDesc) (t : TypeId)
    (hp : tmps.getD p undef = .pointer (some ⟨g, 0, none⟩)) (hb : w.heap[g]? = some (.cells c t (0, 0))) (hu : P.underlying T = some d) (hd : (match d with | .struct _ | .array _ _ => true | _ => false) = true) (hi : (P.info? T).map (·.size) = some c.size) :
    (results fn tmps).run P w = .ok (.tuple #[.agg c, tmps.getD u undef]) w := by
  rw [results_cell_tmp h, hp]
  have hl := run_loadVar_row (P := P) w g t T c (0, 0) _ hb hu hd hi
  simp [asAddr, Result.andThen, hl]

/-- three results, the first of which lies in memory -/
theorem ret_ctt {P : Program} {fn : Func} {p u v : Tmp} {T : TypeId} (h : fn.results = #[.cell p T, .tmp u, .tmp v]) (tmps : Array Value) (w : World) (g : Nat) (c : Array Value) (d : TypeDesc) (t : TypeId)
    (hp : tmps.getD p undef = .pointer (some ⟨g, 0, none⟩)) (hb : w.heap[g]? = some (.cells c t (0, 0))) (hu : P.underlying T = some d) (hd : (match d with | .struct _ | .array _ _ => true | _ => false) = true) (hi : (P.info? T).map (·.size) = some c.size) :
    (results fn tmps).run P w = .ok (.tuple #[.agg c, tmps.getD u undef, tmps.getD v undef]) w := by
  have hl := run_loadVar_row (P := P) w g t T c (0, 0) _ hb hu hd hi
  have hp' : tmps[p]?.getD undef = .pointer (some ⟨g, 0, none⟩) := by simpa using hp
  simp [results, h, hp', asAddr, Result.andThen, hl]

theorem size_inf : (Tryz.prog.info? 98).map (·.size) = some 6 := by kernel_rfl

set_option maxRecDepth 100000 in
theorem info_any (n : Int) (w : World) (h : Tab w) :
    Calls Tryz.prog 72 #[.int .i64 n] w fun e w' => e = .returned (.tuple #[.agg (infV (infoA n).1).toArray, .bool (infoA n).2]) ∧ Below w.heap.size w w' := by
  by_cases hn : 1 ≤ n ∧ n ≤ 41
  · obtain ⟨k, rfl⟩ : ∃ k : Nat, n = (k : Int) := ⟨n.toNat, by omega⟩
    have hk := getD_ops k (by omega)
    have hb : 1 < w.heap.size := h.big
    have e1 : (infoA (k : Int)) = (OPS.getD k blank, true) := by simp [infoA, hn]
    rw [e1]
    generalize OPS.getD k blank = x at *
    obtain ⟨s, a, b, c, d, f⟩ := x
    have c0 : w.cell? ⟨1, k * 6, none⟩ = some (.string s) := h.cell k _ hk 0 _ rfl
    have c1 : w.cell? ⟨1, k * 6 + 1, none⟩ = some (.int .i64 a) := h.cell k _ hk 1 _ rfl
    have c2 : w.cell? ⟨1, k * 6 + 2, none⟩ = some (.int .i64 b) := h.cell k _ hk 2 _ rfl
    have c3 : w.cell? ⟨1, k * 6 + 3, none⟩ = some (.int .i64 c) := h.cell k _ hk 3 _ rfl
    have c4 : w.cell? ⟨1, k * 6 + 4, none⟩ = some (.int .i64 d) := h.cell k _ hk 4 _ rfl
    have c5 : w.cell? ⟨1, k * 6 + 5, none⟩ = some (.int .i64 f) := h.cell k _ hk 5 _ rfl
    obtain ⟨n1, n2⟩ := hn
    have n3 : ¬ (k : Int) < 1 := by omega
    have n4 : ¬ 42 ≤ (k : Int) := by omega
    have n5 : (k : Int) < 42 := by omega
    clear hk h e1
    go_enter Tryz.func72, Tryz.ntmps72
    go_wp2_with fail
    exact bodyPost_ret (ret_ct (p := 2) (u := 3) (T := 98) rfl _ _ w.heap.size _ _ _ rfl (heap_alloc_new w _) Tryz.underlying98 rfl size_inf) rfl ⟨rfl, (Below.refl _ _).alloc (Nat.le_refl _) _⟩
  · have e1 : infoA n = (blank, false) := by simp [infoA, hn]
    rw [e1]
    by_cases n1 : n < 1
    · go_enter Tryz.func72, Tryz.ntmps72
      go_wp2_with fail
      exact bodyPost_ret (ret_ct (p := 2) (u := 3) (T := 98) rfl _ _ w.heap.size _ _ _ rfl (heap_alloc_new w _) Tryz.underlying98 rfl size_inf) rfl ⟨rfl, (Below.refl _ _).alloc (Nat.le_refl _) _⟩
    · have n2 : 42 ≤ n := by omega
      go_enter Tryz.func72, Tryz.ntmps72
      go_wp2_with fail
      exact bodyPost_ret (ret_ct (p := 2) (u := 3) (T := 98) rfl _ _ w.heap.size _ _ _ rfl (heap_alloc_new w _) Tryz.underlying98 rfl size_inf) rfl ⟨rfl, (Below.refl _ _).alloc (Nat.le_refl _) _⟩

/-- at which place (less 1) the name stands; 41: at none -/
def nidx (s : ByteArray) : Nat := OPS.tail.findIdx fun x => x.1.toList == s.toList

/-- what Named answers -/
def namA (s : ByteArray) : Int × Bool := if nidx s < 41 then (((nidx s + 1 : Nat) : Int), true) else (0, false)

theorem nidx_le (s : ByteArray) : nidx s ≤ 41 := by
  have h := List.findIdx_le_length (p := fun x : Inf => x.1.toList == s.toList) (xs := OPS.tail)
  have := OPS_len
  rw [List.length_tail] at h
  unfold nidx
  omega

theorem nidx_hit (s : ByteArray) (i : Nat) (x : Inf) (hx : OPS[i + 1]? = some x) (hs : (x.1.toList == s.toList) = true) (hi : i ≤ nidx s) : nidx s = i := by
  have hx' : OPS.tail[i]? = some x := by rw [List.getElem?_tail]; exact hx
  obtain ⟨hl, he⟩ := List.getElem?_eq_some_iff.1 hx'
  unfold nidx at *
  rw [List.findIdx_eq hl]
  refine ⟨by rw [he]; exact hs, fun j hj => ?_⟩
  simpa using List.not_of_lt_findIdx (Nat.lt_of_lt_of_le hj hi)

theorem nidx_miss (s : ByteArray) (i : Nat) (x : Inf) (hx : OPS[i + 1]? = some x) (hs : (x.1.toList == s.toList) = false) (hi : i ≤ nidx s) : i + 1 ≤ nidx s := by
  have hx' : OPS.tail[i]? = some x := by rw [List.getElem?_tail]; exact hx
  obtain ⟨hl, he⟩ := List.getElem?_eq_some_iff.1 hx'
  unfold nidx at *
  rcases Nat.lt_or_ge i (OPS.tail.findIdx fun x => x.1.toList == s.toList) with h | h
  · exact h
  · have e := Nat.le_antisymm hi h
    have := List.findIdx_getElem (xs := OPS.tail) (p := fun x : Inf => x.1.toList == s.toList) (w := by omega)
    simp only [← e] at this
    rw [he, hs] at this
    exact absurd this (by simp)
end Go.Proofs.YtdlgehnplkeoiaaGreatDoor

namespace Go.Proofs.YtdlgehnplkeoiaaGreatDoor
open Go.RowKit

section
variable {P : Program} {ops : Array Oper} {Q : Exit → Act → World → Prop} {md : Region.Mode} {S : World → Prop} {z : Nat}

/-- whatever order is picked from here on, S holding behind each operation but number z -/
def Till (P : Program) (md : Region.Mode) (ops : Array Oper) (Q : Exit → Act → World → Prop) (S : World → Prop) (z : Nat) : Nat → Array Bool → Act → World → Prop
  | 0, listed, a, w => Region.ready md ops listed = [] ∧ Q .normal a w
  | f + 1, listed, a, w => (Region.ready md ops listed = [] → Q .normal a w) ∧ ∀ i ∈ Region.ready md ops listed, wpOp P ops Q i (fun a' w' => (i = z ∨ S w') ∧ Till P md ops Q S z f (listed.setIfInBounds i true) a' w') a w

theorem Till.any : ∀ (f : Nat) (listed : Array Bool) (a : Act) (w : World), Till P md ops Q S z f listed a w → wpAny P md ops Q f listed a w
  | 0, _, _, _, h => h
  | f + 1, _, _, _, h => ⟨h.1, fun i hi => wpOp_mono (fun a' w' h' => Till.any f _ a' w' h'.2) (h.2 i hi)⟩

theorem Till.first {i : Nat} {oi oz : Oper} {v : Value} (hi : ops[i]? = some oi) (hz : ops[z]? = some oz) (hwait : ∃ e ∈ oz.after, Region.binds md e = true ∧ e.on = i)
    (hsel : ∀ (j : Nat) (o : Oper) cs b, ops[j]? = some o → o.op ≠ .select cs b) (hQ : ∀ c a w, Q (.panic c) (a.put oi.dst v) w → Q (.panic c) a w) :
    ∀ (f : Nat) (listed : Array Bool) (a : Act) (w : World),
      (∀ j oj, ops[j]? = some oj → j ≠ i → listed.getD j true = false → (∀ e ∈ oj.after, Region.binds md e = true → e.on ≠ i) → oi.apart ops oj = true) →
      i ∈ Region.ready md ops listed → YieldsIf P ops S oi v a → S w →
      Till P md ops Q S z f (listed.setIfInBounds i true) (a.put oi.dst v) w → Till P md ops Q S z (f + 1) listed a w := by
  intro f
  induction f with
  | zero =>
    intro listed a w _ hr hy hS H
    refine ⟨fun h => (by rw [h] at hr; cases hr), fun j hj => ?_⟩
    by_cases e : j = i
    · rw [e]
      exact hy.wpOp hi hS ⟨Or.inr hS, H⟩
    · exact absurd (ready_mono hj e) (by rw [H.1]; simp)
  | succ f ih =>
    intro listed a w hfree hr hy hS H
    refine ⟨fun h => (by rw [h] at hr; cases hr), fun j hj => ?_⟩
    by_cases e : j = i
    · rw [e]
      exact hy.wpOp hi hS ⟨Or.inr hS, H⟩
    · obtain ⟨hun, oj, hoj, hall⟩ := mem_ready.1 hj
      have hi0 := (mem_ready.1 hr).1
      -- nobody who may come up now waits for number i
      have hnot : ∀ x ∈ oj.after, Region.binds md x = true → x.on ≠ i := fun x hx hb he => by
        have h1 := hall x hx hb
        rw [he] at h1
        rcases Nat.lt_or_ge i listed.size with hl | hl
        · simp [hl] at hi0 h1
          rw [hi0] at h1
          cases h1
        · simp [Array.getElem?_eq_none hl] at h1
      have hjz : j ≠ z := fun he => by
        obtain ⟨x, hx, hb, hon⟩ := hwait
        rw [he] at hoj
        rw [hoj] at hz
        cases hz
        exact hnot x hx hb hon
      have h2 := wpOp_putIf hoj (hfree j oj hoj e hun hnot) (fun cs b => hsel i oi cs b hi) (fun cs b => hsel j oj cs b hoj) hQ hy (H.2 j (ready_mono hj e))
      refine wpOp_mono (fun a' w' h3 => ?_) h2
      obtain ⟨hy', hS', hT⟩ := h3
      have hSw : S w' := hS'.resolve_left hjz
      refine ⟨Or.inr hSw, ih (listed.setIfInBounds j true) a' w' (fun k ok hk hki hu hno => hfree k ok hk hki ?_ hno) (ready_mono hr (Ne.symm e)) hy' hSw ?_⟩
      · by_cases hjk : j = k
        · rw [← hjk]; exact hun
        · rw [getD_set_ne true hjk] at hu; exact hu
      · rw [Array.setIfInBounds_comm _ _ e]
        exact hT

/-- number i first -/
theorem till_take {f : Nat} {listed : Array Bool} {a : Act} {w : World} (i : Nat) {oi oz : Oper} {v : Value} (d : Option Tmp) (hi : ops[i]? = some oi) (hd : oi.dst = d) (hz : ops[z]? = some oz) (hwait : (oz.after.any fun e => Region.binds md e && e.on == i) = true)
    (hs : Region.noSelect ops = true) (hf : Region.free md ops listed i = true) (hr : (Region.ready md ops listed).contains i = true)
    (hQ : ∀ c a w, Q (.panic c) (a.put d v) w → Q (.panic c) a w) (hy : YieldsIf P ops S oi v a) (hS : S w)
    (h : Till P md ops Q S z f (listed.setIfInBounds i true) (a.put d v) w) : Till P md ops Q S z (f + 1) listed a w := by
  subst hd
  refine Till.first hi hz ?_ (Region.noSelect_spec hs) hQ f listed a w (Region.free_spec hi hf) (by simpa using hr) hy hS h
  rw [Array.any_eq_true] at hwait
  obtain ⟨k, hk, hx⟩ := hwait
  rw [Bool.and_eq_true, beq_iff_eq] at hx
  exact ⟨_, Array.getElem_mem hk, hx.1, hx.2⟩

/-- one alone may come up -/
theorem till_one {f : Nat} {listed : Array Bool} {a : Act} {w : World} (i : Nat) {o : Oper} (hr : Region.ready md ops listed = [i]) (ho : ops[i]? = some o)
    (h : ∀ K' : Act → World → Prop, Shut (∀ a w, (i = z ∨ S w) → Till P md ops Q S z f (listed.setIfInBounds i true) a w → K' a w) → if Region.wanted o (yielded ops a.tmps) = true then Oper.wp P o a w K' Q else K' (a.put o.dst undef) w) :
    Till P md ops Q S z (f + 1) listed a w := by
  refine ⟨fun e => (by rw [e] at hr; cases hr), fun j hj => ?_⟩
  rw [hr, List.mem_singleton] at hj
  subst hj
  exact wpOp_step ho (fun K' hK => h K' (fun a w hS hT => hK a w ⟨hS, hT⟩))

/-- two may come up -/
theorem till_two {f : Nat} {listed : Array Bool} {a : Act} {w : World} (i j : Nat) {oi oj : Oper} (hr : Region.ready md ops listed = [i, j]) (hi : ops[i]? = some oi) (hj : ops[j]? = some oj)
    (h1 : ∀ K' : Act → World → Prop, Shut (∀ a w, (i = z ∨ S w) → Till P md ops Q S z f (listed.setIfInBounds i true) a w → K' a w) → if Region.wanted oi (yielded ops a.tmps) = true then Oper.wp P oi a w K' Q else K' (a.put oi.dst undef) w)
    (h2 : ∀ K' : Act → World → Prop, Shut (∀ a w, (j = z ∨ S w) → Till P md ops Q S z f (listed.setIfInBounds j true) a w → K' a w) → if Region.wanted oj (yielded ops a.tmps) = true then Oper.wp P oj a w K' Q else K' (a.put oj.dst undef) w) :
    Till P md ops Q S z (f + 1) listed a w := by
  refine ⟨fun e => (by rw [e] at hr; cases hr), fun k hk => ?_⟩
  rw [hr, List.mem_cons, List.mem_singleton] at hk
  rcases hk with e | e
  · rw [e]
    exact wpOp_step hi (fun K' hK => h1 K' (fun a w hS hT => hK a w ⟨hS, hT⟩))
  · rw [e]
    exact wpOp_step hj (fun K' hK => h2 K' (fun a w hS hT => hK a w ⟨hS, hT⟩))

theorem till_done {listed : Array Bool} {a : Act} {w : World} (hr : Region.ready md ops listed = []) (h : Q .normal a w) : ∀ f, Till P md ops Q S z f listed a w
  | 0 => ⟨hr, h⟩
  | _ + 1 => ⟨fun _ => h, by rw [hr]; simp⟩

theorem till_begin {id : Nat} {a : Act} {w : World} (z : Nat) (hm : P.follows .mixedOrders = true) (h : Till P .any ops Q S z ops.size (Array.replicate ops.size false) a w.drew) : (Code.region id ops true).wp P Q a w :=
  wp_region_any hm (Till.any _ _ _ _ h)
end
end Go.Proofs.YtdlgehnplkeoiaaGreatDoor

namespace Go.Proofs.YtdlgehnplkeoiaaGreatDoor
open Go.RowKit


/-- the bytes of a number, in at most f + 1 groups -/
def encF : Nat → Int → List Int
  | 0, n => [n]
  | f + 1, n => if n < 128 then [n] else (n % 128 + 128) :: encF f (n / 128)

theorem encF_small (f : Nat) (n : Int) (h : n < 128) : encF f n = [n] := by
  cases f <;> simp [encF, h]

theorem encF_great (f : Nat) (n : Int) (h : ¬ n < 128) : encF (f + 1) n = (n % 128 + 128) :: encF f (n / 128) := by
  simp [encF, h]

theorem encF_len (f : Nat) (n : Int) : 1 ≤ (encF f n).length ∧ (encF f n).length ≤ f + 1 := by
  induction f generalizing n with
  | zero => simp [encF]
  | succ f ih =>
    simp only [encF]
    split
    · simp
    · have := ih (n / 128); simp; omega

/-- a slice of bytes whose elements are zs -/
structure Row8 (w : World) (ao : Option Addr) (len cap : Nat) (zs : List Int) : Prop where
  length : zs.length = len
  none : ao = none → len = 0 ∧ cap = 0
  cells : ∀ ad, ao = some ad → ∀ j u, (zs.map (Value.int .u8))[j]? = some u → w.cell? (ad.add j) = some u
  small : ∀ n ∈ zs, 0 ≤ n ∧ n ≤ 255
  le : len ≤ cap

theorem Row8.later {w w' : World} {ao : Option Addr} {len cap : Nat} {zs : List Int} (h : Row8 w ao len cap zs) (hb : Below w.heap.size w w') : Row8 w' ao len cap zs :=
  ⟨h.length, h.none, fun ad ha j u hj => cell_later hb (h.cells ad ha j u hj), h.small, h.le⟩

theorem Row8.later' {B : Nat} {w w' : World} {ao : Option Addr} {len cap : Nat} {zs : List Int} (h : Row8 w ao len cap zs) (hb : Below B w w') (hB : ∀ ad, ao = some ad → 0 < len → ad.block < B) : Row8 w' ao len cap zs :=
  ⟨h.length, h.none, fun ad ha j u hj => by
    have hl : j < zs.length := by
      have := List.getElem?_eq_some_iff.1 hj
      simpa using this.1
    have hz := h.length
    have hblk : (ad.add j).block = ad.block := by unfold Addr.add; split <;> rfl
    rw [hb.cell (p := ad.add j) (by rw [hblk]; exact hB ad ha (by omega))]
    exact h.cells ad ha j u hj, h.small, h.le⟩

theorem Row8.at {w : World} {ao : Option Addr} {len cap : Nat} {zs : List Int} (h : Row8 w ao len cap zs) (hp : 0 < len) :
    ∃ b off, ao = some ⟨b, off, Option.none⟩ ∧ ∀ j, j < len → w.cell? ⟨b, off + j, Option.none⟩ = some (.int .u8 (zs.getD j 0)) := by
  have hz := h.length
  cases ao with
  | none => have := (h.none rfl).1; omega
  | some ad =>
    have hc : ∀ i, i < zs.length → w.cell? (ad.add i) = some (.int .u8 (zs.getD i 0)) := by
      intro i hi
      refine h.cells ad rfl i _ ?_
      simp [hi]
    obtain ⟨b, off, rfl, hcc⟩ := ints_at hc (by omega)
    exact ⟨b, off, rfl, fun j hj => hcc j (by omega)⟩

theorem Row8.block {w : World} {ao : Option Addr} {len cap : Nat} {zs : List Int} (h : Row8 w ao len cap zs) (ad : Addr) (ha : ao = some ad) (hp : 0 < len) : ad.block < w.heap.size := by
  obtain ⟨b, off, rfl, hc⟩ := h.at hp
  cases ha
  exact World.block_lt_of_cell? _ _ (hc 0 hp)

/-- a row that the call itself owns, as a slice of bytes -/
theorem Row8.own {w : World} {base g n cap : Nat} {zs : List Int} (h : w.ownsRow base 5 1 (.slice (some ⟨g, 0, Option.none⟩) n cap) n (zs.map (Value.int .u8))) (hs : ∀ n ∈ zs, 0 ≤ n ∧ n ≤ 255) :
    Row8 w (some ⟨g, 0, Option.none⟩) n cap zs := by
  have hl : zs.length = n := by simpa using h.1
  refine ⟨hl, (fun e => by cases e), fun ad ha j u hj => ?_, hs, ?_⟩
  · cases ha
    exact h.cells (g := g) rfl j u hj
  · rcases h.2 with ⟨e, _⟩ | ⟨g', cap', cur, e, _, _, hle, _⟩
    · cases e
    · cases e; exact hle

theorem encF_bytes (f : Nat) (n : Int) (h0 : 0 ≤ n) (h : n < 128 ^ f * 128) : ∀ c ∈ encF f n, 0 ≤ c ∧ c ≤ 255 := by
  induction f generalizing n with
  | zero => intro c hc; simp [encF] at hc; simp at h; omega
  | succ f ih =>
    intro c hc
    simp only [encF] at hc
    split at hc
    · simp at hc; omega
    · simp at hc
      rcases hc with rfl | hc
      · omega
      · refine ih (n / 128) (by omega) ?_ c hc
        have : n < 128 * (128 ^ f * 128) := by rw [Int.pow_succ] at h; omega
        omega

theorem encF9_bytes (n : Int) (h0 : 0 ≤ n) (h : n ≤ 18446744073709551615) : ∀ c ∈ encF 9 n, 0 ≤ c ∧ c ≤ 255 :=
  encF_bytes 9 n h0 (by have e : (128 : Int) ^ 9 * 128 = 1180591620717411303424 := by decide
                        omega)

end Go.Proofs.YtdlgehnplkeoiaaGreatDoor
