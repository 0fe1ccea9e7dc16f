/-
  The walk of the law WireRow: right values that are put one behind the other are taken off one by one, and nothing else stands there; condition: there are at most 2^20 of them.
-/
import Derived.Test.YtjphldolmahemabWBackW
import Derived.Test.YtjphldolmahemabVOpen
import Derived.Test.YtjphldolmahemabWMid
namespace Go.Proofs.Ytjphldolmahemab
open Go.ChangeShapes Go.WideShapes Go.ChangeAt Go.RowKit

/-- the bytes of values one behind the other -/
def encs (rs : List Vl) : List Int := rs.flatMap wenc

theorem encs_nil : encs [] = [] := rfl
theorem encs_cons (v : Vl) (rs : List Vl) : encs (v :: rs) = wenc v ++ encs rs := by simp [encs]
theorem encs_append (a b : List Vl) : encs (a ++ b) = encs a ++ encs b := by simp [encs]

/-- all are right -/
def Rights (rs : List Vl) : Prop := ∀ v ∈ rs, rightB v = true ∧ fitB v = true

theorem encs_len : ∀ {rs : List Vl}, Rights rs → (encs rs).length ≤ rs.length * 43008
  | [], _ => by simp [encs_nil]
  | v :: rs, h => by
    have h1 := wireBack.wenc_bound (h v List.mem_cons_self).1
    have h2 := encs_len (rs := rs) (fun x hx => h x (List.mem_cons_of_mem _ hx))
    rw [encs_cons, List.length_append, List.length_cons]
    omega

theorem encs_small : ∀ {rs : List Vl}, Rights rs → ∀ c ∈ encs rs, 0 ≤ c ∧ c ≤ 255
  | [], _, c, hc => by simp [encs_nil] at hc
  | v :: rs, h, c, hc => by
    rw [encs_cons, List.mem_append] at hc
    rcases hc with hc | hc
    · have hv := h v List.mem_cons_self
      exact wenc_small v 8 (right_wt hv.1).1 hv.2 c hc
    · exact encs_small (rs := rs) (fun x hx => h x (List.mem_cons_of_mem _ hx)) c hc

theorem encs_next {rs : List Vl} {i : Nat} {v : Vl} (hi : rs[i]? = some v) : encs (rs.take (i + 1)) = encs (rs.take i) ++ wenc v := by
  rw [List.take_add_one, hi, encs_append]
  simp [encs]

theorem encs_at {rs : List Vl} {i : Nat} {v : Vl} (hi : rs[i]? = some v) : encs rs = encs (rs.take i) ++ wenc v ++ encs (rs.drop (i + 1)) := by
  have hlt := (List.getElem?_eq_some_iff.1 hi).1
  conv => lhs; rw [← List.take_append_drop (i + 1) rs]
  rw [encs_append, encs_next hi]

theorem take_row {rs : List Vl} (h : Rights rs) {i : Nat} {v : Vl} (hi : rs[i]? = some v) : takeR (encs rs) ((encs (rs.take i)).length : Int) = .ok (v, (encs (rs.take (i + 1))).length) ∧ (encs (rs.take i)).length < (encs (rs.take (i + 1))).length := by
  have hv := h v (List.mem_of_getElem? hi)
  have hp := wenc_pos v 8 (right_wt hv.1).1
  have ht := take_back hv.1 hv.2 (encs (rs.take i)) (encs (rs.drop (i + 1)))
  rw [← encs_at hi] at ht
  rw [encs_next hi, List.length_append]
  exact ⟨ht, by omega⟩

theorem take_end (zs : List Int) : takeR zs (zs.length : Int) = .error (41, (zs.length : Int)) := by
  unfold takeR
  rw [if_neg (by omega), Int.toNat_natCast]
  simp [rdV]

/-- the head of a list of values by itself -/
abbrev lst (l : Value) : Value := .agg #[.int .i64 5, .int .i64 0, .string ⟨#[]⟩, l, .slice none 0 0]

theorem vals_made {w : World} {base : Nat} {rs : List Vl} {lv : Value} {V : Nat → List Value} (ho : w.ownsRow base 26 5 lv rs.length (flat V rs.length)) (hrow : ∀ c, c < rs.length → (V c).length = 5) (hel : ∀ c y, rs[c]? = some y → IsV w w.heap.size y (.agg (V c).toArray)) (hbl : rs.length ≤ 140737488351232) :
    IsV w w.heap.size (.mk 5 0 ⟨#[]⟩ rs []) (lst lv) := by
  obtain ⟨al, cl, hLe, nl, ll, _, hLa⟩ := slice_form ho
  have e1 : lst lv = .agg #[.int .i64 5, .int .i64 0, .string ⟨#[]⟩, .slice al rs.length cl, .slice none ([] : List ByteArray).length 0] := by rw [hLe]; rfl
  rw [e1]
  refine IsP.of (V := V) ⟨by omega, by omega, by rw [e0s]; omega, nl, (fun _ => ⟨rfl, rfl⟩), ll, Nat.le_refl _, hbl, by simp, by simp, ?_, hrow, (fun a h => by cases h), (fun t h => by cases h)⟩ hel
  intro a ha c hc
  obtain ⟨h1, h2⟩ := hLa a ha
  refine ⟨(ho.lt _ h1).2, fun q v hv => ?_⟩
  have hc' := ho.cells h1 (c * 5 + q) v (flat_at V rs.length hrow c hc q v hv)
  have ea : (a.add (c * 5)).add q = (⟨a.block, 0, none⟩ : Addr).add (c * 5 + q) := by
    rw [h2]
    unfold Addr.add
    by_cases h0 : c * 5 = 0
    · by_cases h9 : q = 0
      · simp [h0, h9]
      · simp [h0, h9]
    · by_cases h9 : q = 0
      · simp [h0, h9]
      · simp [h0, h9]
  rw [ea]
  exact hc'

section
variable {H : Type} {enc : TypeId × Value → H} {W : World}

set_option maxRecDepth 100000 in
theorem open_list {fuel : Nat} {c3 : Value} {x : DataW H × List MemPlace} (h3 : DataW.trod enc Try.prog W 0 (fun _ => true) true fuel 23 [c3] = some x) (r3 : Go.Proofs.Ytjphldolmahemab.Reach Try.prog 23 x.1) :
    ∃ (l : List Vl) (al : Option Addr) (cl : Nat), c3 = .slice al l.length cl ∧ IsV W W.heap.size (.mk 5 0 ⟨#[]⟩ l []) (lst (.slice al l.length cl)) ∧ (cl = 0 ∨ ∃ elems spare, x.1 = .slice elems spare ∧ elems.length = l.length) := by
  rcases DataW.trod_slice Try.underlying23 h3 with ⟨hcs, _⟩ | ⟨a, len, cap, elems, rest, n', hn', hcs, hx3, _, hlc, hcm, hlen, hel, hsp, _⟩
  · simp only [List.cons.injEq, and_true] at hcs
    refine ⟨[], none, 0, hcs, IsP.of (V := fun _ => []) ⟨by omega, by omega, by rw [e0s]; omega, (fun _ => ⟨rfl, rfl⟩), (fun _ => ⟨rfl, rfl⟩), Nat.le_refl _, Nat.le_refl _, by simp, by simp, by simp, (fun a h => by cases h), (fun i h => absurd h (by simp)), (fun a h => by cases h), (fun t h => by cases h)⟩ (fun i y h => by simp at h), .inl rfl⟩
  · simp only [List.cons.injEq, and_true] at hcs
    rw [hx3] at r3
    rw [cells5v] at hel
    have hall : ∀ i, i < len → ∃ p : List Value × Vl, p.1.length = 5 ∧ (a.block < W.heap.size ∧ ∀ j v, p.1[j]? = some v → W.cell? ((a.add (i * 5)).add j) = some v) ∧ IsV W W.heap.size p.2 (.agg p.1.toArray) := by
      intro i hi
      have he := hel i hi
      rw [List.getElem?_eq_getElem (by omega)] at he
      obtain ⟨cs', hc1, hc2⟩ := Option.bind_eq_some_iff.1 he
      obtain ⟨_, hl5, hcell⟩ := World.cells?_some hc1
      obtain ⟨v, hv⟩ := open_value n' cs' _ hc2 (r3.elem Try.underlying23 (List.mem_map.2 ⟨_, List.getElem_mem _, rfl⟩))
      refine ⟨(cs', v), hl5, ⟨?_, fun j u hu => ?_⟩, hv⟩
      · have h0 := hcell 0 (by omega)
        have := World.block_lt_of_cell? W ((a.add (i * 5)).add 0) (by rw [h0, List.getElem?_eq_getElem (by omega)])
        rw [block_add, block_add] at this
        exact this
      · have hj : j < 5 := by
          have h5 : j < cs'.length := (List.getElem?_eq_some_iff.1 hu).1
          omega
        rw [hcell j hj]
        exact hu
    haveI : Inhabited (List Value × Vl) := ⟨([], .mk 0 0 ⟨#[]⟩ [] [])⟩
    obtain ⟨f, hf⟩ := Go.Deep.choose_lt hall
    have hl : ((List.range len).map (fun i => (f i).2)).length = len := by simp
    have hb := r3.slice Try.underlying23
    rw [show Try.prog.bytesOf 26 = 80 by kernel_rfl] at hb
    have hs := (hsp rfl).1
    unfold reachBytes at hb
    simp at hb
    refine ⟨(List.range len).map (fun i => (f i).2), some a, cap, by rw [hl]; exact hcs, IsP.of (V := fun i => (f i).1) ⟨by omega, by omega, by rw [e0s]; omega, (fun e => by cases e), (fun _ => ⟨rfl, rfl⟩), by rw [hl]; exact hlc, Nat.le_refl _, by rw [hl]; omega, by simp, by simp, ?_, ?_, (fun a h => by cases h), (fun t h => by cases h)⟩ ?_, .inr ⟨_, _, by rw [hx3], by rw [List.length_map, hl]; exact hlen⟩⟩
    · intro b hb i hi
      cases hb
      exact (hf i (by simpa using hi)).2.1
    · intro i hi
      exact (hf i (by simpa using hi)).1
    · intro i x hx
      have hi : i < len := by
        have := (List.getElem?_eq_some_iff.1 hx).1
        simpa using this
      rw [List.getElem?_map, List.getElem?_range hi] at hx
      simp only [Option.map_some, Option.some.injEq] at hx
      subst hx
      exact (hf i hi).2.2
end
end Go.Proofs.Ytjphldolmahemab

namespace Go.Proofs.Ytjphldolmahemab.wireRow
open Go.RowKit
set_option linter.unusedVariables false

/-- the right ones among the first -/
def rights (vs : List Vl) (i : Nat) : List Vl := (vs.take i).filter rightB

theorem rights_next {vs : List Vl} {i : Nat} {v : Vl} (h : vs[i]? = some v) : rights vs (i + 1) = if rightB v = true then rights vs i ++ [v] else rights vs i := by
  unfold rights
  rw [List.take_add_one, h, List.filter_append]
  by_cases hr : rightB v = true
  · rw [if_pos hr]; simp [hr]
  · rw [if_neg hr]; simp [hr]

theorem rights_len (vs : List Vl) (i : Nat) : (rights vs i).length ≤ vs.length := by
  unfold rights
  have h1 := List.length_filter_le rightB (vs.take i)
  rw [List.length_take] at h1
  omega

theorem rights_all {w : World} {B : Nat} {vs : List Vl} {l : Value} (h : IsV w B (.mk 5 0 ⟨#[]⟩ vs []) (lst l)) (i : Nat) : Rights (rights vs i) := by
  intro v hv
  unfold rights at hv
  rw [List.mem_filter] at hv
  refine ⟨hv.2, ?_⟩
  have h1 := List.mem_of_mem_take hv.1
  obtain ⟨j, hj⟩ := List.mem_iff_getElem?.1 h1
  obtain ⟨_, _, _, _, _, _, _, _, _, V, he, _, _, el⟩ := h.inv
  cases he
  exact (el j v hj).fit

/-- what stands in memory behind i rounds -/
structure Rnd (w wr : World) (vs : List Vl) (i : Nat) (bv lv : Value) (V : Nat → List Value) : Prop where
  bytes : wr.ownsRow w.heap.size 5 1 bv (encs (rights vs i)).length ((encs (rights vs i)).map (Value.int .u8))
  own : wr.ownsRow w.heap.size 26 5 lv (rights vs i).length (flat V (rights vs i).length)
  row : ∀ c, c < (rights vs i).length → (V c).length = 5
  el : ∀ c y, (rights vs i)[c]? = some y → IsV w w.heap.size y (.agg (V c).toArray)
  below : Below w.heap.size w wr

theorem row8_own {w : World} {base : Nat} {v : Value} {zs : List Int} (h : w.ownsRow base 5 1 v zs.length (zs.map (Value.int .u8))) (hs : ∀ c ∈ zs, 0 ≤ c ∧ c ≤ 255) : ∃ ao cap, v = .slice ao zs.length cap ∧ Row8 w ao zs.length cap zs ∧ cap ≤ maxLen := by
  rcases h.2 with ⟨rfl, hn⟩ | ⟨g, cap, cur, rfl, hb, hg, hc, hm, rest⟩
  · have : zs = [] := List.eq_nil_of_length_eq_zero hn
    subst this
    exact ⟨none, 0, rfl, ⟨rfl, fun _ => ⟨rfl, rfl⟩, (fun ad h => by cases h), (fun n h => by cases h), Nat.le_refl _⟩, Nat.zero_le _⟩
  · exact ⟨_, cap, rfl, Row8.own h hs, hm⟩

theorem own_types {w : World} {base base' : Nat} {e e' : TypeId} {size size' : Nat} {v v' : Value} {n n' : Nat} {xs xs' : List Value} (h : w.ownsRow base e size v n xs) (h' : w.ownsRow base' e' size' v' n' xs') (hne : e ≠ e') : v.ownBlock = none ∨ v.ownBlock ≠ v'.ownBlock := by
  rcases h.2 with ⟨rfl, hn⟩ | ⟨g, cap, cur, rfl, hb, hg, rest⟩
  · exact .inl rfl
  · refine .inr (fun e => ?_)
    rcases h'.2 with ⟨rfl, hn⟩ | ⟨g', cap', cur', rfl, hb', hg', rest'⟩
    · cases e
    · simp only [Value.ownBlock, Option.some.injEq] at e
      subst e
      rw [hg] at hg'
      simp only [Option.some.injEq, Obj.cells.injEq] at hg'
      exact hne hg'.2.1

theorem Rnd.later {w wr u : World} {vs : List Vl} {i : Nat} {bv lv : Value} {V : Nat → List Value} (h : Rnd w wr vs i bv lv V) (hb : Below wr.heap.size wr u) : Rnd w u vs i bv lv V :=
  ⟨own_below h.bytes hb, own_below h.own hb, h.row, h.el, h.below.trans (hb.mono h.below.size)⟩

theorem Rnd.skip {w wr : World} {vs : List Vl} {i : Nat} {bv lv : Value} {V : Nat → List Value} (h : Rnd w wr vs i bv lv V) {v : Vl} (hv : vs[i]? = some v) (hr : rightB v = false) : Rnd w wr vs (i + 1) bv lv V := by
  have e : rights vs (i + 1) = rights vs i := by rw [rights_next hv, if_neg (by rw [hr]; simp)]
  exact ⟨by rw [e]; exact h.bytes, by rw [e]; exact h.own, by rw [e]; exact h.row, by rw [e]; exact h.el, h.below⟩

theorem Rnd.push {w wr u : World} {vs : List Vl} {i : Nat} {bv bv' lv lv' : Value} {V : Nat → List Value} (h : Rnd w wr vs i bv lv V) {v : Vl} (hv : vs[i]? = some v) (hr : rightB v = true) {cs : List Value} (hcs : cs.length = 5) (hel : IsV w w.heap.size v (.agg cs.toArray))
    (hb : u.ownsRow w.heap.size 5 1 bv' (encs (rights vs i) ++ wenc v).length ((encs (rights vs i) ++ wenc v).map (Value.int .u8))) (ho : u.ownsRow w.heap.size 26 5 lv' ((rights vs i).length + 1) (flat V (rights vs i).length ++ cs)) (hbel : Below w.heap.size w u) :
    Rnd w u vs (i + 1) bv' lv' (setV V (rights vs i).length cs) := by
  have e : rights vs (i + 1) = rights vs i ++ [v] := by rw [rights_next hv, if_pos hr]
  have e2 : encs (rights vs i ++ [v]) = encs (rights vs i) ++ wenc v := by rw [encs_append]; simp [encs]
  refine ⟨by rw [e, e2]; exact hb, ?_, ?_, ?_, hbel⟩
  · rw [e, List.length_append, List.length_singleton, flat_set]
    exact ho
  · intro c hc
    rw [e, List.length_append, List.length_singleton] at hc
    by_cases h1 : c = (rights vs i).length
    · subst h1
      rw [setV_same]
      exact hcs
    · rw [setV_other V _ cs (by omega)]
      exact h.row c (by omega)
  · intro c y hy
    rw [e] at hy
    by_cases h1 : c < (rights vs i).length
    · rw [List.getElem?_append_left h1] at hy
      rw [setV_other V _ cs h1]
      exact h.el c y hy
    · rw [List.getElem?_append_right (by omega)] at hy
      have h2 : c - (rights vs i).length = 0 := by
        have := (List.getElem?_eq_some_iff.1 hy).1
        simp at this
        omega
      rw [h2] at hy
      simp only [List.getElem?_cons_zero, Option.some.injEq] at hy
      subst hy
      have h3 : c = (rights vs i).length := by omega
      subst h3
      rw [setV_same]
      exact hel

set_option maxRecDepth 100000 in
set_option maxHeartbeats 1000000 in
theorem walk (al : Option Addr) (n cl : Nat) (vs : List Vl) (w : World) (hn : vs.length = n) (hv : IsV w w.heap.size (.mk 5 0 ⟨#[]⟩ vs []) (lst (.slice al n cl))) (hs : n ≤ 1048576) :
    Calls Try.prog 7 #[.slice al n cl] w fun e w' => e = .returned (.bool true) ∧ Below w.heap.size w w' := by
  have HV := hide hv
  have HR := hide (rights_all hv)
  have HN := hide hn
  clear hv hn
  go_enter Try.func7, Try.ntmps7
  go_wp2_with fail
  go_loopw [3, 4, 5] (fun xb xl xi wr => ∃ (i : Nat) (V : Nat → List Value), i ≤ n ∧ xi = .int .i64 i ∧ Hid (Rnd w wr vs i xb xl V)) (fun _ _ xi _ => n - (intOf xi).toNat)
  case atStart => exact ⟨0, fun _ => [], Nat.zero_le _, rfl, hide ⟨World.ownsRow_nil _ _ _ _, World.ownsRow_nil _ _ _ _, (fun c h => by simp [rights] at h), (fun c y h => by simp [rights] at h), Below.refl _ _⟩⟩
  case round =>
    obtain ⟨i, V, hi, rfl, HX⟩ := hrel
    by_cases hlt : i < n
    · have i2 : (i : Int) < (n : Int) := by omega
      obtain ⟨y, hy⟩ : ∃ y, vs[i]? = some y := ⟨_, List.getElem?_eq_getElem (by have := unhide HN; omega)⟩
      obtain ⟨a, y0, y1, y2, bl, bk, ll', mm, cl1, ck1, rfl, hab, hce, hve⟩ := (unhide HV).elem i y hy
      have HE : Hid (∀ u, Below w.heap.size w u → (u.cell? (a.add (i * 5)) = some (.int .i64 y0) ∧ u.cell? ⟨(a.add (i * 5)).block, (a.add (i * 5)).off + 1, none⟩ = some (.int .i64 y1) ∧ u.cell? ⟨(a.add (i * 5)).block, (a.add (i * 5)).off + 2, none⟩ = some (.string y2) ∧ u.cell? ⟨(a.add (i * 5)).block, (a.add (i * 5)).off + 3, none⟩ = some (.slice bl ll' cl1) ∧ u.cell? ⟨(a.add (i * 5)).block, (a.add (i * 5)).off + 4, none⟩ = some (.slice bk mm ck1)) ∧ IsV u u.heap.size y (.agg #[.int .i64 y0, .int .i64 y1, .string y2, .slice bl ll' cl1, .slice bk mm ck1])) := hide (fun u hu => by
        have e0 : w.cell? (a.add (i * 5)) = some (.int .i64 y0) := hce 0 _ rfl
        have e1 : w.cell? ⟨(a.add (i * 5)).block, (a.add (i * 5)).off + 1, none⟩ = some (.int .i64 y1) := hce 1 _ rfl
        have e2 : w.cell? ⟨(a.add (i * 5)).block, (a.add (i * 5)).off + 2, none⟩ = some (.string y2) := hce 2 _ rfl
        have e3 : w.cell? ⟨(a.add (i * 5)).block, (a.add (i * 5)).off + 3, none⟩ = some (.slice bl ll' cl1) := hce 3 _ rfl
        have e4 : w.cell? ⟨(a.add (i * 5)).block, (a.add (i * 5)).off + 4, none⟩ = some (.slice bk mm ck1) := hce 4 _ rfl
        exact ⟨⟨cell_later hu e0, cell_later hu e1, cell_later hu e2, cell_later hu e3, cell_later hu e4⟩, (hve.mono hu).lift hu.size⟩)
      have HW : Hid (IsV w w.heap.size y (.agg #[.int .i64 y0, .int .i64 y1, .string y2, .slice bl ll' cl1, .slice bk mm ck1])) := hide hve
      have HY := hide hy
      have HI1 : Hid (i + 1 ≤ n) := hide (by omega)
      obtain ⟨ab, cb, hbv, r8, mb⟩ := row8_own (unhide HX).bytes (encs_small (unhide HR i))
      have hlen := encs_len (unhide HR i)
      have hrl := rights_len vs i
      rw [unhide HN] at hrl
      obtain ⟨zs, hzs⟩ : ∃ zs, encs (rights vs i) = zs := ⟨_, rfl⟩
      rw [hzs] at hbv r8 hlen
      obtain ⟨lb, hlb⟩ : ∃ lb, zs.length = lb := ⟨_, rfl⟩
      rw [hlb] at hbv r8 hlen
      obtain ⟨al', cl', hlv, nlv, llv, _, hLa⟩ := slice_form (unhide HX).own
      obtain ⟨ln, hln⟩ : ∃ ln, (rights vs i).length = ln := ⟨_, rfl⟩
      rw [hln] at hlv hlen hrl
      subst hbv
      subst hlv
      have CC := hide (copied_any y _ _ wr (unhide HE wr (unhide HX).below).2 (Nat.le_refl _))
      have CP : Hid (∀ (u : World) (x : Value), Below wr.heap.size wr u → IsV u u.heap.size y x → Calls Try.prog 10 #[.slice ab lb cb, x] u fun e w' => ∃ (ao : Option Addr) (len cap : Nat), e = .returned (.tuple #[.slice ao len cap, .int .i64 (codeR y)]) ∧ Below u.heap.size u w' ∧ (rightB y = true → w'.ownsRow u.heap.size 5 1 (.slice ao len cap) (zs ++ wenc y).length ((zs ++ wenc y).map (Value.int .u8)))) := hide (fun u x hu hx => by
        refine (put_any ab lb cb zs y x _ u (r8.later hu) hx (Nat.le_refl _) (by omega)).mono ?_
        rintro e u' ⟨ao, len, cap, rfl, r, b, hnew, hmx, hown⟩
        refine ⟨ao, len, cap, rfl, b, fun hr => ?_⟩
        have hl := r.length
        rw [if_pos hr] at hl
        rw [hl]
        exact hown hr)
      have CRt : Hid (∀ u, Below w.heap.size w u → Calls Try.prog 24 #[.agg #[.int .i64 y0, .int .i64 y1, .string y2, .slice bl ll' cl1, .slice bk mm ck1]] u fun e w' => e = .returned (.bool (rightB y)) ∧ Below u.heap.size u w') := hide (fun u hu => right_ref y _ _ u (unhide HE u hu).2 (Nat.le_refl _))
      have HZ := hide (And.intro hzs (And.intro hlb hln))
      have HL := hide (And.intro hlen hrl)
      obtain ⟨⟨e0, e1, e2, e3, e4⟩, -⟩ := unhide HE wr (unhide HX).below
      clear hce hve hy r8 mb hzs hlb hln nlv llv hLa hab
      cases hR : rightB y with
      | false =>
        have hC : codeR y = 40 := by simp [codeR, hR]
        rw [hC] at CP
        rw [hR] at CRt
        go_wp2_with fail
        refine (unhide CC).mono ?_
        rintro e u2 ⟨x, rfl, hx, b2⟩
        have C2 := hide (unhide CP u2 x b2 hx)
        obtain ⟨k', n', s', l', ks', al1, ak1, cl2, ck2, hy', rfl⟩ := hx.shape
        have B2 := hide b2
        clear b2 hx hy' CP CC
        go_wp2_with fail
        refine (unhide C2).mono ?_
        rintro e u3 ⟨ao3, len3, cap3, rfl, b3, -⟩
        have B3 : Hid (Below wr.heap.size wr u3) := hide ((unhide B2).trans (b3.mono (unhide B2).size))
        have X3 := hide ((unhide HX).later (unhide B3))
        clear b3 e0 e1 e2 e3 e4 C2
        obtain ⟨⟨e0, e1, e2, e3, e4⟩, -⟩ := unhide HE u3 (unhide X3).below
        go_wp2_with fail
        refine (unhide CRt u3 (unhide X3).below).mono ?_
        rintro e u4 ⟨rfl, b4⟩
        have X4 := hide (((unhide X3).later b4).skip (unhide HY) hR)
        clear b4 e0 e1 e2 e3 e4
        go_wp2_with fail
        go_roundw
        case rel => exact ⟨i + 1, V, unhide HI1, by go_num, X4⟩
        case measure => have := unhide HI1; simp [intOf]; omega
      | true =>
        have hC : codeR y = 0 := by simp [codeR, hR]
        rw [hC] at CP
        rw [hR] at CRt
        go_wp2_with fail
        refine (unhide CC).mono ?_
        rintro e u2 ⟨x, rfl, hx, b2⟩
        have C2 := hide (unhide CP u2 x b2 hx)
        obtain ⟨k', n', s', l', ks', al1, ak1, cl2, ck2, hy', rfl⟩ := hx.shape
        have B2 := hide b2
        clear b2 hx hy' CP CC
        go_wp2_with fail
        refine (unhide C2).mono ?_
        rintro e u3 ⟨ao3, len3, cap3, rfl, b3, o3⟩
        have B3 : Hid (Below wr.heap.size wr u3) := hide ((unhide B2).trans (b3.mono (unhide B2).size))
        have O3 : Hid (u3.ownsRow w.heap.size 5 1 (.slice ao3 len3 cap3) (zs ++ wenc y).length ((zs ++ wenc y).map (Value.int .u8))) := hide (own_low (o3 hR) (by have h1 := (unhide HX).below.size; have h2 := (unhide B2).size; omega))
        have X3 := hide ((unhide HX).later (unhide B3))
        clear b3 e0 e1 e2 e3 e4 C2 o3
        obtain ⟨⟨e0, e1, e2, e3, e4⟩, -⟩ := unhide HE u3 (unhide X3).below
        go_wp2_with fail
        refine (unhide CRt u3 (unhide X3).below).mono ?_
        rintro e u4 ⟨rfl, b4⟩
        have X4 := hide ((unhide X3).later b4)
        have O4 := hide (own_below (unhide O3) b4)
        clear b4 e0 e1 e2 e3 e4 O3 X3 B3 B2
        obtain ⟨⟨e0, e1, e2, e3, e4⟩, -⟩ := unhide HE u4 (unhide X4).below
        have BX := Box.mk' u4 (.int .i64 y0) (.int .i64 y1) (.string y2) (.slice bl ll' cl1) (.slice bk mm ck1)
        obtain ⟨i0, hi0, hz0, hz1, hz2⟩ := info_parts infoV
        have X5 := hide ((unhide X4).later BX.below)
        have O5 := hide (own_below (unhide O4) BX.below)
        have N5 : Hid (∀ j u, [Value.int .i64 y0, .int .i64 y1, .string y2, .slice bl ll' cl1, .slice bk mm ck1][j]? = some u → (u4.alloc (.cells #[.int .i64 y0, .int .i64 y1, .string y2, .slice bl ll' cl1, .slice bk mm ck1] 26)).cell? ((⟨u4.heap.size, 0, none⟩ : Addr).add j) = some u) := hide (fun j u hj => World.news_of_block BX.row j u (by simpa using hj))
        have P5 : Hid ((u4.alloc (.cells #[.int .i64 y0, .int .i64 y1, .string y2, .slice bl ll' cl1, .slice bk mm ck1] 26)).ownsRow w.heap.size 26 5 (.slice al' ln cl') ln (flat V ln)) := hide (by have := (unhide X5).own; rw [(unhide HZ).2.2] at this; exact this)
        have S5 : Hid (w.heap.size ≤ (u4.alloc (.cells #[.int .i64 y0, .int .i64 y1, .string y2, .slice bl ll' cl1, .slice bk mm ck1] 26)).heap.size) := hide (unhide X5).below.size
        clear BX
        go_wp2_with (first | (at_builtin; refine wpList_append_own _ rfl (.tmp 43) (.tmp 48) 23 rfl w.heap.size 26 i0 _ 5 80 Try.underlying23 hi0 hz0 hz1 hz2 rfl (by decide) (.slice al' ln cl') ln (flat V ln) rfl (unhide P5) ⟨u4.heap.size, 0, none⟩ 1 1 _ rfl rfl (unhide N5) (by intro u hu; simp only [List.mem_cons, List.mem_nil_iff, or_false] at hu; rcases hu with rfl | rfl | rfl | rfl | rfl <;> rfl) (by have := (unhide HL).2; unfold maxLen; omega) (by have := (unhide HL).2; omega) (unhide S5) ?_; intro v6 w6 o6 g6 _))
        have B6 := (unhide X5).below.grown g6 (unhide S5) (fun k hk => ((unhide P5).lt k hk).1)
        have Q6 := (unhide O5).kept g6 (own_types (unhide O5) (unhide P5) (by decide))
        have X6 : Hid (Rnd w w6 vs (i + 1) (.slice ao3 len3 cap3) v6 (setV V ln [.int .i64 y0, .int .i64 y1, .string y2, .slice bl ll' cl1, .slice bk mm ck1])) := hide (by
          have h1 := unhide HZ
          have := (unhide X5).push (u := w6) (bv' := .slice ao3 len3 cap3) (lv' := v6) (cs := [.int .i64 y0, .int .i64 y1, .string y2, .slice bl ll' cl1, .slice bk mm ck1]) (unhide HY) hR rfl (unhide HW) (by rw [h1.1]; exact Q6) (by rw [h1.2.2]; exact o6) B6
          rw [h1.2.2] at this
          exact this)
        clear B6 Q6 o6 g6
        obtain ⟨al6, cl6, hv6, -⟩ := slice_form (unhide X6).own
        subst hv6
        go_wp2_with fail
        go_roundw
        case rel => exact ⟨i + 1, _, unhide HI1, by go_num, X6⟩
        case measure => have := unhide HI1; simp [intOf]; omega
    · obtain rfl : i = n := by omega
      have i2 : ¬ (i : Int) < (i : Int) := by omega
      obtain ⟨rs, hrs⟩ : ∃ rs, rights vs i = rs := ⟨_, rfl⟩
      have RA := unhide HR i
      rw [hrs] at RA
      obtain ⟨ab, cb, hbv, r8, mb⟩ := row8_own (unhide HX).bytes (encs_small (unhide HR i))
      rw [hrs] at hbv r8
      have hrl := rights_len vs i
      rw [unhide HN, hrs] at hrl
      have VL : IsV wr wr.heap.size (.mk 5 0 ⟨#[]⟩ rs []) (lst _) := vals_made (V := V) (base := w.heap.size) (by rw [← hrs]; exact (unhide HX).own) (by rw [← hrs]; exact (unhide HX).row) (by rw [← hrs]; exact fun c y hy => (((unhide HX).el c y hy).mono (unhide HX).below).lift (unhide HX).below.size) (by omega)
      obtain ⟨al', cl', hlv, -⟩ := slice_form (unhide HX).own
      rw [hrs] at hlv
      obtain ⟨zs, hzs⟩ : ∃ zs, encs rs = zs := ⟨_, rfl⟩
      obtain ⟨lb, hlb⟩ : ∃ lb, zs.length = lb := ⟨_, rfl⟩
      obtain ⟨ln, hln⟩ : ∃ ln, rs.length = ln := ⟨_, rfl⟩
      rw [hzs, hlb] at hbv r8
      rw [hln] at hlv hrl
      subst hbv
      subst hlv
      have hmb : cb ≤ 9223372036854775807 := by unfold maxLen at mb; omega
      have hlc : lb ≤ cb := r8.le
      have CT : Hid (∀ (u : World) (p : Int), Below wr.heap.size wr u → Calls Try.prog 18 #[.slice ab lb cb, .int .i64 p] u fun e w' => ResTk u (takeR zs p) e w') := hide (fun u p hu => take_any ab lb cb zs p u (r8.later hu) mb)
      have HVL := hide VL
      have HRA := hide RA
      have HZ := hide (And.intro hzs (And.intro hlb hln))
      have HB := hide (unhide HX).below
      clear VL RA r8 hzs hlb hln HX hrs mb HV HR HN
      obtain ⟨W0, hW0⟩ : ∃ W0, W0 = wr := ⟨_, rfl⟩
      subst hW0
      go_wp2_with fail
      go_loopw [8, 9] (fun xa xi wq => ∃ (j : Nat), j ≤ ln ∧ xi = .int .i64 j ∧ xa = .int .i64 ((encs (rs.take j)).length : Int) ∧ Hid (Below W0.heap.size W0 wq)) (fun _ xi _ => ln - (intOf xi).toNat)
      case atStart => exact ⟨0, Nat.zero_le _, rfl, by simp [encs], hide (Below.refl _ _)⟩
      case round =>
        obtain ⟨j, hj, rfl, rfl, HQ⟩ := hrel
        by_cases hjl : j < ln
        · have j2 : (j : Int) < (ln : Int) := by omega
          obtain ⟨y, hy⟩ : ∃ y, rs[j]? = some y := ⟨_, List.getElem?_eq_getElem (by have := (unhide HZ).2.2; omega)⟩
          obtain ⟨hT, hpos⟩ := take_row (unhide HRA) hy
          rw [(unhide HZ).1] at hT
          obtain ⟨at0, hat0⟩ : ∃ at0, (encs (rs.take j)).length = at0 := ⟨_, rfl⟩
          obtain ⟨at1, hat1⟩ : ∃ at1, (encs (rs.take (j + 1))).length = at1 := ⟨_, rfl⟩
          rw [hat0, hat1] at hT hpos
          simp only [hat0]
          have C1 := hide (unhide CT wr (at0 : Int) (unhide HQ))
          rw [hT] at C1
          have HY := hide hy
          have HA := hide (And.intro hat0 hat1)
          have HP := hide hpos
          have HI1 : Hid (j + 1 ≤ ln) := hide (by omega)
          have hpos' : (at0 : Int) < (at1 : Int) := by omega
          clear hy hT hpos hat0 hat1
          go_wp2_with fail
          refine (unhide C1).mono ?_
          rintro e u1 ⟨x1, rfl, p1, b1⟩
          obtain ⟨k5, n5, s5, l5, ks5, al5, ak5, cl5, ck5, hy5, rfl⟩ := p1.shape
          clear hy5
          obtain ⟨lc5, hlc5⟩ : ∃ lc5, l5.length = lc5 := ⟨_, rfl⟩
          obtain ⟨mc5, hmc5⟩ : ∃ mc5, ks5.length = mc5 := ⟨_, rfl⟩
          rw [hlc5, hmc5] at p1 ⊢
          clear hlc5 hmc5
          have Q1 : Hid (Below W0.heap.size W0 u1) := hide ((unhide HQ).trans (b1.mono (unhide HQ).size))
          have HP1 := hide p1
          clear p1 b1 C1
          go_upto_region 19 with fail
          obtain ⟨G, hG⟩ : ∃ G, u1.heap.size = G := ⟨_, rfl⟩
          have N1 := wireBack.new_var u1 #[.int .i64 k5, .int .i64 n5, .string s5, .slice al5 lc5 cl5, .slice ak5 mc5 ck5] G hG
          simp only [hG]
          obtain ⟨w2, hw2⟩ : ∃ w2, u1.alloc (.cells #[.int .i64 k5, .int .i64 n5, .string s5, .slice al5 lc5 cl5, .slice ak5 mc5 ck5] 26) = w2 := ⟨_, rfl⟩
          rw [hw2] at N1 ⊢
          have B12 : Below u1.heap.size u1 w2 := by rw [hG]; exact N1.2.1
          have Q2 : Hid (Below W0.heap.size W0 w2) := hide ((unhide Q1).trans (B12.mono (unhide Q1).size))
          have J2 : IsV w2 w2.heap.size y (.agg #[.int .i64 k5, .int .i64 n5, .string s5, .slice al5 lc5 cl5, .slice ak5 mc5 ck5]) := ((unhide HP1).move (fun c hc => B12.block c hc.2)).isV (fun c hc => Nat.lt_of_lt_of_le hc.2 B12.size)
          have L2 : IsV w2 w2.heap.size (.mk 5 0 ⟨#[]⟩ rs []) (lst (.slice al' ln cl')) := ((unhide HVL).mono (unhide Q2)).lift (unhide Q2).size
          obtain ⟨a, y0, y1, y2, bl, bk, ll', mm, cl1, ck1, rfl, hab, hce, hve⟩ := L2.elem j y (unhide HY)
          have e0 : w2.cell? (a.add (j * 5)) = some (.int .i64 y0) := hce 0 _ rfl
          have e1 : w2.cell? ⟨(a.add (j * 5)).block, (a.add (j * 5)).off + 1, none⟩ = some (.int .i64 y1) := hce 1 _ rfl
          have e2 : w2.cell? ⟨(a.add (j * 5)).block, (a.add (j * 5)).off + 2, none⟩ = some (.string y2) := hce 2 _ rfl
          have e3 : w2.cell? ⟨(a.add (j * 5)).block, (a.add (j * 5)).off + 3, none⟩ = some (.slice bl ll' cl1) := hce 3 _ rfl
          have e4 : w2.cell? ⟨(a.add (j * 5)).block, (a.add (j * 5)).off + 4, none⟩ = some (.slice bk mm ck1) := hce 4 _ rfl
          obtain ⟨c0, c1, c2, c3, c4⟩ := row_cell N1.1
          have hdr : Below w2.heap.size w2 w2.drew := (Below.refl _ _).drew
          have CS := same_any y y _ _ _ w2.drew ((J2.mono hdr).lift hdr.size) ((hve.mono hdr).lift hdr.size) (Nat.le_refl _)
          rw [wireBack.sm_self ((unhide HRA) y (List.mem_of_getElem? (unhide HY))).1] at CS
          have CS' := hide CS
          clear CS hce hve hdr J2 L2 B12 hw2 N1 hG hab
          go_cut [78] from 50 to 79 (fun r wx => r = .bool false ∧ Hid (Below W0.heap.size W0 wx))
          case first =>
            go_region_held3 (fun w' => w'.cell? ⟨G, 0, none⟩ = some (.int .i64 k5) ∧ w'.cell? ⟨G, 1, none⟩ = some (.int .i64 n5) ∧ w'.cell? ⟨G, 2, none⟩ = some (.string s5) ∧ w'.cell? ⟨G, 3, none⟩ = some (.slice al5 lc5 cl5) ∧ w'.cell? ⟨G, 4, none⟩ = some (.slice ak5 mc5 ck5) ∧
                w'.cell? (a.add (j * 5)) = some (.int .i64 y0) ∧ w'.cell? ⟨(a.add (j * 5)).block, (a.add (j * 5)).off + 1, none⟩ = some (.int .i64 y1) ∧ w'.cell? ⟨(a.add (j * 5)).block, (a.add (j * 5)).off + 2, none⟩ = some (.string y2) ∧ w'.cell? ⟨(a.add (j * 5)).block, (a.add (j * 5)).off + 3, none⟩ = some (.slice bl ll' cl1) ∧ w'.cell? ⟨(a.add (j * 5)).block, (a.add (j * 5)).off + 4, none⟩ = some (.slice bk mm ck1))
              (first | go_keep | (have hb6 := below_drew_of' b5; exact ⟨cell_later hb6 c0, cell_later hb6 c1, cell_later hb6 c2, cell_later hb6 c3, cell_later hb6 c4, cell_later hb6 e0, cell_later hb6 e1, cell_later hb6 e2, cell_later hb6 e3, cell_later hb6 e4⟩))
              (first | (go_at_call 12; refine (unhide CS').mono ?_; rintro e w5 ⟨rfl, b5⟩))
            have HX5 : Hid (Below W0.heap.size W0 w5) := hide ((unhide Q2).trans ((below_drew_of' b5).mono (unhide Q2).size))
            clear b5 CS'
            go_wp2_with fail
            go_meet
            exact ⟨congrArg Value.bool (decide_eq_false (by omega)), HX5⟩
          case rest =>
            obtain ⟨rfl, HX5⟩ := hcut
            clear c0 c1 c2 c3 c4 e0 e1 e2 e3 e4 CS'
            go_wp2_with fail
            go_roundw
            case rel => exact ⟨j + 1, unhide HI1, by go_num, by rw [(unhide HA).2], HX5⟩
            case measure => have := unhide HI1; simp [intOf]; omega
        · obtain rfl : j = ln := by omega
          have j2 : ¬ (j : Int) < (j : Int) := by omega
          have ht : rs.take j = rs := List.take_of_length_le (by have := (unhide HZ).2.2; omega)
          rw [ht, (unhide HZ).1, (unhide HZ).2.1]
          have hE := take_end zs
          rw [(unhide HZ).2.1] at hE
          have C1 := hide (unhide CT wr (lb : Int) (unhide HQ))
          rw [hE] at C1
          clear ht hE
          go_wp2_with fail
          refine (unhide C1).mono ?_
          rintro e u1 ⟨rfl, b1⟩
          have Q1 : Hid (Below W0.heap.size W0 u1) := hide ((unhide HQ).trans (b1.mono (unhide HQ).size))
          clear b1 C1
          go_upto_region 23 with fail
          obtain ⟨w2, hw2⟩ : ∃ w2, u1.alloc (.cells #[.int .i64 0, .int .i64 0, .string ⟨#[]⟩, .slice none 0 0, .slice none 0 0] 26) = w2 := ⟨_, rfl⟩
          have B2 : Below u1.heap.size u1 w2 := by rw [← hw2]; exact (Below.refl _ _).alloc (Nat.le_refl _) _
          rw [hw2]
          have Q2 : Hid (Below w.heap.size w w2) := hide ((unhide HB).trans (((unhide Q1).trans (B2.mono (unhide Q1).size)).mono (unhide HB).size))
          clear hw2 B2
          go_wp2_with fail
          go_ret
          exact ⟨by simp, unhide Q2⟩
end Go.Proofs.Ytjphldolmahemab.wireRow
