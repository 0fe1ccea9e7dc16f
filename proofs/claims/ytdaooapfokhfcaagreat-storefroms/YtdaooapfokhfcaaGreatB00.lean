/-
  How a row of entries among the arguments is opened; no conditions.
  store's From; conditions: the form's own reach.
  The walk of copies: entries in new memory; conditions: the form's own reach.
  The walk of overEntries: copies of entries are written over; values of many parts stay; conditions: the form's own reach.
  The document's From; conditions: the form's own reach.
  StoreFroms is true of any entries and Ops; conditions: the form's own reach.
-/
import Derived.Test.YtdaooapfokhfcaaGreatA00
import Derived.Test.YtdaooapfokhfcaaGreatA01
import Derived.Test.YtdaooapfokhfcaaGreatA02
import Derived.Test.YtdaooapfokhfcaaGreatA03
import Derived.Test.YtdaooapfokhfcaaGreatA04
import Derived.Test.YtdaooapfokhfcaaGreatA05
import Derived.Test.YtdaooapfokhfcaaGreatA06
import Derived.Test.YtdaooapfokhfcaaGreatA07
import Derived.Test.YtdaooapfokhfcaaGreatA08
import Derived.Test.YtdaooapfokhfcaaGreatA09
import Derived.Test.YtdaooapfokhfcaaGreatA10
import Derived.Test.YtdaooapfokhfcaaGreatA11
import Derived.Test.YtdaooapfokhfcaaGreatA12
import Derived.Test.YtdaooapfokhfcaaGreatA13
import Derived.Test.YtdaooapfokhfcaaGreatA14
import Derived.Test.YtdaooapfokhfcaaGreatA15
import Derived.Test.YtdaooapfokhfcaaGreatA16
import Derived.Test.YtdaooapfokhfcaaGreatA17
import Derived.Test.YtdaooapfokhfcaaGreatA18
import Derived.Test.YtdaooapfokhfcaaGreatA19
import Derived.Test.YtdaooapfokhfcaaGreatA20
import Derived.Test.YtdaooapfokhfcaaGreatA21
import Derived.Test.YtdaooapfokhfcaaGreatA22
import Derived.Test.YtdaooapfokhfcaaGreatA23
import Derived.Test.YtdaooapfokhfcaaGreatA24
import Derived.Test.YtdaooapfokhfcaaGreatA25
import Derived.Test.YtdaooapfokhfcaaGreatA26
import Derived.Test.YtdaooapfokhfcaaGreatA27
import Derived.Test.YtdaooapfokhfcaaGreatA28
import Derived.Test.YtdaooapfokhfcaaGreatA29
import Derived.Test.YtdaooapfokhfcaaGreatA30
import Derived.Test.YtdaooapfokhfcaaGreatA31
import Derived.Test.YtdaooapfokhfcaaGreatA32
import Derived.Test.YtdaooapfokhfcaaGreatA33
import Derived.Test.YtdaooapfokhfcaaGreatA34
import Derived.Test.YtdaooapfokhfcaaGreatA35
import Derived.Test.YtdaooapfokhfcaaGreatA36
import Derived.Test.YtdaooapfokhfcaaGreatA37
import Derived.Test.YtdaooapfokhfcaaGreatA38
import Derived.Test.YtdaooapfokhfcaaGreatA39
import Derived.Test.YtdaooapfokhfcaaGreatA40
import Derived.Test.YtdaooapfokhfcaaGreatA41
import Derived.Test.YtdaooapfokhfcaaGreatA42
import Derived.Test.YtdaooapfokhfcaaGreatA43
import Derived.Test.YtdaooapfokhfcaaGreatA44
import Derived.Test.YtdaooapfokhfcaaGreatA45
import Derived.Test.YtdaooapfokhfcaaGreatA46
import Derived.Test.YtdaooapfokhfcaaGreatA47
import Derived.Test.YtdaooapfokhfcaaGreatA48
import Derived.Test.YtdaooapfokhfcaaGreatA49
import Derived.Test.YtdaooapfokhfcaaGreatA50
import Derived.Test.YtdaooapfokhfcaaGreatA51
import Derived.Test.YtdaooapfokhfcaaGreatA52
import Derived.Test.YtdaooapfokhfcaaGreatA53
namespace Go.Proofs.YtdaooapfokhfcaaGreat
open Go.ChangeShapes Go.WideShapes Go.ChangeAt Go.RowKit

theorem cells6e : Tryz.prog.cellsOf 77 = 6 := by kernel_rfl

section
variable {H : Type} {enc : TypeId × Value → H} {W : World}

set_option maxRecDepth 100000 in
theorem open_entry {fuel : Nat} {cs : List Value} {x : DataW H × List MemPlace} (h : DataW.trod enc Tryz.prog W 0 (fun _ => true) true fuel 77 cs = some x) (hre : Go.Proofs.YtdaooapfokhfcaaGreat.Reach Tryz.prog 77 x.1) :
    ∃ (s : ByteArray) (ds : List Value) (v : Vl), cs = .string s :: ds ∧ ds.length = 5 ∧ s.size ≤ 140737488351232 ∧ IsV W W.heap.size v (.agg ds.toArray) := by
  obtain ⟨xs, n, rfl, hx, hl, hlen, hf⟩ := DataW.trod_struct Tryz.underlying77 h
  rw [cells6e] at hl
  have hlen' : xs.length = 2 := hlen
  match cs, hl, xs, hlen', hx, hf with
  | [c0, c1, c2, c3, c4, c5], _, [y0, y1], _, hx, hf =>
    have h0 : DataW.trod enc Tryz.prog W 0 (fun _ => true) true n 9 (([c0, c1, c2, c3, c4, c5].drop 0).take (Tryz.prog.cellsOf 9)) = some y0 := hf 0 _ rfl
    rw [cells1s] at h0
    have h1 : DataW.trod enc Tryz.prog W 0 (fun _ => true) true n 32 (([c0, c1, c2, c3, c4, c5].drop 1).take (Tryz.prog.cellsOf 32)) = some y1 := hf 1 _ rfl
    rw [cells5v] at h1
    have hx' : x.1 = .agg [y0.1, y1.1] := by rw [hx]; rfl
    rw [hx'] at hre
    obtain ⟨s, e0, hy0, _⟩ := DataW.trod_string Tryz.underlying9 h0
    simp only [List.drop_zero, List.take_succ_cons, List.take_zero, List.cons.injEq, and_true] at e0
    have r0 : s.size ≤ 140737488351232 := by
      have := hre.field (j := 0) (u := 9) (d := y0.1) Tryz.underlying77 rfl rfl
      rw [hy0] at this
      exact reach_size this
    have r1 := hre.field (j := 1) (u := 32) (d := y1.1) Tryz.underlying77 rfl rfl
    obtain ⟨v, hv⟩ := open_value n _ _ h1 r1
    exact ⟨s, [c1, c2, c3, c4, c5], v, by rw [e0], rfl, r0, hv⟩

set_option maxRecDepth 100000 in
theorem open_entries {fuel : Nat} {c3 : Value} {x : DataW H × List MemPlace} (h3 : DataW.trod enc Tryz.prog W 0 (fun _ => true) true fuel 38 [c3] = some x) (r3 : Go.Proofs.YtdaooapfokhfcaaGreat.Reach Tryz.prog 38 x.1) :
    ∃ (es : List En) (al : Option Addr) (cl : Nat), c3 = .slice al es.length cl ∧ IsE W (fun b => b < W.heap.size) es al cl := by
  rcases DataW.trod_slice Tryz.underlying38 h3 with ⟨hcs, _⟩ | ⟨a, len, cap, elems, rest, n', hn', hcs, hx3, _, hlc, hcm, hlen, hel, hsp, _⟩
  · simp only [List.cons.injEq, and_true] at hcs
    exact ⟨[], none, 0, hcs, fun _ => [], (fun _ => ⟨rfl, rfl⟩), Nat.le_refl _, by simp, (fun a h => by cases h), (fun t h => by cases h), (fun i e h => by simp at h)⟩
  · simp only [List.cons.injEq, and_true] at hcs
    rw [hx3] at r3
    rw [cells6e] at hel
    have hall : ∀ i, i < len → ∃ p : List Value × En, p.1.length = 5 ∧ p.2.1.size ≤ 140737488351232 ∧ (a.block < W.heap.size ∧ ∀ j v, (Value.string p.2.1 :: p.1)[j]? = some v → W.cell? ((a.add (i * 6)).add j) = some v) ∧ IsV W W.heap.size p.2.2 (.agg p.1.toArray) := by
      intro i hi
      have he := hel i hi
      rw [List.getElem?_eq_getElem (by omega)] at he
      obtain ⟨cs', hc1, hc2⟩ := Option.bind_eq_some_iff.1 he
      obtain ⟨_, hl6, hcell⟩ := World.cells?_some hc1
      obtain ⟨s, ds, v, hcs', hd5, hs, hv⟩ := open_entry hc2 (r3.elem Tryz.underlying38 (List.mem_map.2 ⟨_, List.getElem_mem _, rfl⟩))
      refine ⟨(ds, (s, v)), hd5, hs, ⟨?_, fun j u hu => ?_⟩, hv⟩
      · have h0 := hcell 0 (by omega)
        have := World.block_lt_of_cell? W ((a.add (i * 6)).add 0) (by rw [h0, List.getElem?_eq_getElem (by omega)])
        rw [block_add, block_add] at this
        exact this
      · dsimp only at hu
        rw [← hcs'] at hu
        have hj : j < 6 := by
          have h5 : j < cs'.length := (List.getElem?_eq_some_iff.1 hu).1
          omega
        rw [hcell j hj]
        exact hu
    haveI : Inhabited (List Value × En) := ⟨([], (⟨#[]⟩, .mk 0 0 ⟨#[]⟩ [] []))⟩
    obtain ⟨f, hf⟩ := Go.Deep.choose_lt hall
    have hl : ((List.range len).map (fun i => (f i).2)).length = len := by simp
    have hb := r3.slice Tryz.underlying38
    rw [show Tryz.prog.bytesOf 77 = 96 by kernel_rfl] at hb
    have hs := (hsp rfl).1
    unfold reachBytes at hb
    simp at hb
    have hget : ∀ (i : Nat) (e : En), ((List.range len).map (fun i => (f i).2))[i]? = some e → i < len ∧ e = (f i).2 := by
      intro i e he
      have hi : i < len := by
        have := (List.getElem?_eq_some_iff.1 he).1
        simpa using this
      rw [List.getElem?_map, List.getElem?_range hi] at he
      simp only [Option.map_some, Option.some.injEq] at he
      exact ⟨hi, he.symm⟩
    refine ⟨(List.range len).map (fun i => (f i).2), some a, cap, by rw [hl]; exact hcs, fun i => (f i).1, (fun e => by cases e), by rw [hl]; exact hlc, by rw [hl]; omega, ?_, ?_, ?_⟩
    · intro b hb i e he
      cases hb
      obtain ⟨hi, rfl⟩ := hget i e he
      exact (hf i hi).2.2.1
    · intro e he
      obtain ⟨i, hi⟩ := List.getElem?_of_mem he
      obtain ⟨hi', rfl⟩ := hget i e hi
      exact (hf i hi').2.1
    · intro i e he
      obtain ⟨hi, rfl⟩ := hget i e he
      exact ⟨(hf i hi).1, (hf i hi).2.2.2⟩
end
end Go.Proofs.YtdaooapfokhfcaaGreat

namespace Go.Proofs.YtdaooapfokhfcaaGreat
open Go.RowKit
set_option linter.unusedVariables false
set_option linter.unusedSimpArgs false

/-- what From finds in entries, one behind the other -/
def chkE (ah : ByteArray) : List En → Int
  | [] => 0
  | p :: r => if keyB p.1 = true ∧ bl ah p.1 = true then (if rightB p.2 = true then chkE p.1 r else 61) else 60

/-- all are put -/
def putAll (X : Xs) : List En → Option Xs
  | [] => some X
  | p :: r => if fitX X p.1 p.2 = true then putAll (putK X p.1 p.2) r else none

theorem chkE_cons (ah : ByteArray) (p : En) (r : List En) : chkE ah (p :: r) = if keyB p.1 = true ∧ bl ah p.1 = true then (if rightB p.2 = true then chkE p.1 r else 61) else 60 := rfl
theorem putAll_cons (X : Xs) (p : En) (r : List En) : putAll X (p :: r) = if fitX X p.1 p.2 = true then putAll (putK X p.1 p.2) r else none := rfl

/-- what From answers -/
def fromR (es : List En) : Int := if chkE ⟨#[]⟩ es = 0 then (if (putAll [] es).isSome = true then 0 else 62) else chkE ⟨#[]⟩ es

theorem chk_ok : ∀ (es : List En) (ah : ByteArray), chkE ah es = 0 → ∀ p ∈ es, keyB p.1 = true ∧ rightB p.2 = true
  | [], _, _, p, hp => by cases hp
  | q :: r, ah, h, p, hp => by
    unfold chkE at h
    split at h
    · rename_i hk
      split at h
      · rename_i hr
        rcases List.mem_cons.1 hp with rfl | hp
        · exact ⟨hk.1, hr⟩
        · exact chk_ok r _ h p hp
      · simp at h
    · simp at h

theorem put_end : ∀ (X : Xs) (k : ByteArray) (v : Vl), (∀ q ∈ X, bl q.1 k = true) → putK X k v = X ++ [(k, v)]
  | [], k, v, _ => rfl
  | p :: r, k, v, h => by
    have h1 := h p List.mem_cons_self
    unfold putK
    rw [if_pos h1, put_end r k v (fun q hq => h q (List.mem_cons_of_mem _ hq))]
    rfl

theorem putAll_is : ∀ (es : List En) (ah : ByteArray) (X Y : Xs), chkE ah es = 0 → (∀ q ∈ X, bl q.1 ah = true ∨ q.1 = ah) → putAll X es = some Y → Y = X ++ es
  | [], _, X, Y, _, _, h => by
    simp only [putAll, Option.some.injEq] at h
    simp [h]
  | p :: r, ah, X, Y, hc, hX, h => by
    unfold chkE at hc
    unfold putAll at h
    split at hc
    · rename_i hk
      split at hc
      · split at h
        · have hlt : ∀ q ∈ X, bl q.1 p.1 = true := fun q hq => by
            rcases hX q hq with e | e
            · exact kl_trans e hk.2
            · rw [e]
              exact hk.2
          rw [put_end X p.1 p.2 hlt] at h
          have := putAll_is r p.1 (X ++ [(p.1, p.2)]) Y hc (fun q hq => by
            rcases List.mem_append.1 hq with hq | hq
            · exact .inl (hlt q hq)
            · rw [List.mem_singleton] at hq
              exact .inr (by rw [hq])) h
          rw [this]
          simp
        · cases h
      · simp at hc
    · simp at hc

theorem drop_next {α : Type} {l : List α} {i : Nat} {x : α} (h : l[i]? = some x) : l.drop i = x :: l.drop (i + 1) := by
  obtain ⟨hi, rfl⟩ := List.getElem?_eq_some_iff.1 h
  exact List.drop_eq_getElem_cons hi

theorem Live.base {w0 w1 w : World} {s : Nat} {X : Xs} {Bs : List Xs} (h : Live w1 w s X Bs) (hb : Below w0.heap.size w0 w1) : Live w0 w s X Bs := by
  obtain ⟨V, t, h1, h2, h3, h4⟩ := h
  exact ⟨V, t, h1, h2, fun j hj => Nat.le_trans hb.size (h3 j hj), hb.trans (h4.mono hb.size)⟩

/-- what From leaves -/
def FromPost (w : World) (es : List En) (e : Ending) (w' : World) : Prop :=
  (fromR es = 0 ∧ ∃ s, e = .returned (.tuple #[.pointer (some ⟨s, 0, none⟩), .int .i64 0]) ∧ Live w w' s es []) ∨ (fromR es ≠ 0 ∧ e = .returned (.tuple #[.pointer none, .int .i64 (fromR es)]) ∧ Below w.heap.size w w')

set_option maxRecDepth 100000 in
set_option maxHeartbeats 2000000 in
theorem from_any (es : List En) (al : Option Addr) (n cl : Nat) (w : World) (hn : es.length = n) (hE : IsE w (fun b => b < w.heap.size) es al cl) :
    Calls Tryz.prog 11 #[.slice al n cl] w fun e w' => FromPost w es e w' := by
  have hl := hE.len
  rw [hn] at hl
  obtain ⟨hcl, hnb, haln⟩ := hl
  have HE : Hid (∀ u, Below w.heap.size w u → IsE u (fun b => b < w.heap.size) es al cl) := hide (fun u hu => hE.later hu)
  have HN := hide hn
  clear hE hn
  go_enter Tryz.func11, Tryz.ntmps11
  go_wp2_with fail
  go_loopw [4, 13] (fun y x wr => ∃ (i : Nat) (ah : ByteArray), y = .string ah ∧ x = .int .i64 (i : Int) ∧ i ≤ n ∧ Hid (chkE ⟨#[]⟩ es = chkE ah (es.drop i) ∧ Below w.heap.size w wr)) (fun _ x _ => n - (intOf x).toNat)
  case atStart => exact ⟨0, ⟨#[]⟩, rfl, rfl, Nat.zero_le _, hide ⟨rfl, Below.refl _ _⟩⟩
  case round =>
    obtain ⟨i, ah, rfl, rfl, hi, HR⟩ := hrel
    by_cases hlt : i < n
    · have i1 : (i : Int) < (n : Int) := by omega
      obtain ⟨⟨k, v⟩, hp⟩ : ∃ p, es[i]? = some p := ⟨_, List.getElem?_eq_getElem (by have := unhide HN; omega)⟩
      obtain ⟨a, z0, z1, z2, al', ak', ll', m', cl', ck', rfl, hbl, hks, hc, hpv⟩ := (unhide HE wr (unhide HR).2).elem i _ hp
      have hcd := (unhide HR).1
      rw [drop_next hp, chkE_cons] at hcd
      dsimp only at hcd hks hpv
      have e0 : wr.cell? (a.add (i * 6)) = some (.string k) := hc 0 _ rfl
      have e1 : wr.cell? ⟨(a.add (i * 6)).block, (a.add (i * 6)).off + 1, none⟩ = some (.int .i64 z0) := hc 1 _ rfl
      have e2 : wr.cell? ⟨(a.add (i * 6)).block, (a.add (i * 6)).off + 2, none⟩ = some (.int .i64 z1) := hc 2 _ rfl
      have e3 : wr.cell? ⟨(a.add (i * 6)).block, (a.add (i * 6)).off + 3, none⟩ = some (.string z2) := hc 3 _ rfl
      have e4 : wr.cell? ⟨(a.add (i * 6)).block, (a.add (i * 6)).off + 4, none⟩ = some (.slice al' ll' cl') := hc 4 _ rfl
      have e5 : wr.cell? ⟨(a.add (i * 6)).block, (a.add (i * 6)).off + 5, none⟩ = some (.slice ak' m' ck') := hc 5 _ rfl
      obtain ⟨G, hG⟩ : ∃ G, wr.heap.size = G := ⟨_, rfl⟩
      obtain ⟨u0, hu0⟩ : ∃ u0, wr.alloc (.cells #[.string k, .int .i64 z0, .int .i64 z1, .string z2, .slice al' ll' cl', .slice ak' m' ck'] 77) = u0 := ⟨_, rfl⟩
      have b0 : Below wr.heap.size wr u0 := by rw [← hu0]; exact (Below.refl _ _).alloc (Nat.le_refl _) _
      have N0 : u0.heap[G]? = some (.cells #[.string k, .int .i64 z0, .int .i64 z1, .string z2, .slice al' ll' cl', .slice ak' m' ck'] 77 (0, 0)) := by rw [← hu0, ← hG]; exact heap_alloc_new wr _
      have U0 : Below w.heap.size w u0 := (unhide HR).2.trans (b0.mono (unhide HR).2.size)
      have hz0 : u0.heap.size = G + 1 := by rw [← hu0, ← hG]; simp
      have d0 : u0.cell? ⟨G, 0, none⟩ = some (.string k) := by rw [cell_of_row u0 G 0 _ _ (0, 0) N0]; rfl
      have d1 : u0.cell? ⟨G, 1, none⟩ = some (.int .i64 z0) := by rw [cell_of_row u0 G 1 _ _ (0, 0) N0]; rfl
      have d2 : u0.cell? ⟨G, 2, none⟩ = some (.int .i64 z1) := by rw [cell_of_row u0 G 2 _ _ (0, 0) N0]; rfl
      have d3 : u0.cell? ⟨G, 3, none⟩ = some (.string z2) := by rw [cell_of_row u0 G 3 _ _ (0, 0) N0]; rfl
      have d4 : u0.cell? ⟨G, 4, none⟩ = some (.slice al' ll' cl') := by rw [cell_of_row u0 G 4 _ _ (0, 0) N0]; rfl
      have d5 : u0.cell? ⟨G, 5, none⟩ = some (.slice ak' m' ck') := by rw [cell_of_row u0 G 5 _ _ (0, 0) N0]; rfl
      have HV : Hid (IsV u0 w.heap.size v (.agg #[.int .i64 z0, .int .i64 z1, .string z2, .slice al' ll' cl', .slice ak' m' ck']) ∧ w.heap.size ≤ u0.heap.size) := hide ⟨IsV.mono (b0.mono (unhide HR).2.size) hpv, U0.size⟩
      have H0 := hide (And.intro U0 N0)
      have CK := hide (keyed_any k u0)
      have HP := hide hp
      clear hc hpv hbl hks b0 N0 U0 hp
      cases hk : keyB k with
      | false =>
        rw [hk] at CK
        have HF : Hid (fromR es = 60) := hide (by
          unfold fromR
          rw [hcd, hk]
          simp)
        clear hcd hk
        go_wp2_with fail
        refine (unhide CK).mono ?_
        rintro e u1 ⟨rfl, hu1⟩
        obtain rfl := hu1.symm
        clear hu1
        go_wp2_with fail
        go_ret2
        exact .inr ⟨by rw [unhide HF]; decide, by rw [unhide HF]; rfl, (unhide H0).1⟩
      | true =>
        rw [hk] at CK
        cases hb : bl ah k with
        | false =>
          have l1 : (Op.bytesLess k.toList ah.toList || k.toList == ah.toList) = true := by
            rcases kl_tri ah k with h1 | h1 | h1
            · rw [hb] at h1
              cases h1
            · subst h1
              simp
            · have h2 : Op.bytesLess k.toList ah.toList = true := h1
              rw [h2]
              rfl
          have HF : Hid (fromR es = 60) := hide (by
            unfold fromR
            rw [hcd, hb]
            simp)
          clear hcd hk hb
          go_wp2_with fail
          refine (unhide CK).mono ?_
          rintro e u1 ⟨rfl, hu1⟩
          obtain rfl := hu1.symm
          clear hu1
          go_wp2_with fail
          go_ret2
          exact .inr ⟨by rw [unhide HF]; decide, by rw [unhide HF]; rfl, (unhide H0).1⟩
        | true =>
          have l1 : Op.bytesLess k.toList ah.toList = false := kl_asym hb
          have l2 : (k.toList == ah.toList) = false := by
            cases e : (k.toList == ah.toList) with
            | false => rfl
            | true =>
              have := (bytes_beq k ah).1 e
              subst this
              rw [kl_irr] at hb
              cases hb
          have CC := right_code v _ w.heap.size u0 (unhide HV).1 (unhide HV).2
          rw [if_pos ⟨hk, hb⟩] at hcd
          cases hr : rightB v with
          | false =>
            rw [hr] at CC hcd
            have CC := hide CC
            have HF : Hid (fromR es = 61) := hide (by
              unfold fromR
              rw [hcd]
              simp)
            clear hcd hk hb hr
            go_wp2_with fail
            refine (unhide CK).mono ?_
            rintro e u1 ⟨rfl, hu1⟩
            obtain rfl := hu1.symm
            clear hu1
            go_wp2_with fail
            refine (unhide CC).mono ?_
            rintro e u2 ⟨rfl, b2⟩
            have H2 := hide ((unhide H0).1.trans (b2.mono (unhide H0).1.size))
            clear b2
            go_wp2_with fail
            go_ret2
            exact .inr ⟨by rw [unhide HF]; decide, by rw [unhide HF]; rfl, unhide H2⟩
          | true =>
            rw [hr, if_pos rfl] at hcd
            rw [hr] at CC
            have CC := hide CC
            have HCD := hide hcd
            clear hcd hk hb hr
            go_wp2_with fail
            refine (unhide CK).mono ?_
            rintro e u1 ⟨rfl, hu1⟩
            obtain rfl := hu1.symm
            clear hu1
            go_wp2_with fail
            refine (unhide CC).mono ?_
            rintro e u2 ⟨rfl, b2⟩
            have H2 := hide ((unhide H0).1.trans (b2.mono (unhide H0).1.size))
            have g0 : u2.cell? ⟨G, 0, none⟩ = some (.string k) := cell_later b2 d0
            have HI1 : Hid (i + 1 ≤ n) := hide (by omega)
            clear b2 d0 d1 d2 d3 d4 d5
            go_wp2_with fail
            go_roundw
            case rel => exact ⟨i + 1, k, rfl, by go_num, unhide HI1, hide ⟨unhide HCD, unhide H2⟩⟩
            case measure => have := unhide HI1; simp [intOf]; omega
    · have i1 : ¬ (i : Int) < (n : Int) := by omega
      have HC : Hid (chkE ⟨#[]⟩ es = 0 ∧ Below w.heap.size w wr) := hide ⟨by
        rw [(unhide HR).1, List.drop_eq_nil_of_le (by have := unhide HN; omega)]
        rfl, (unhide HR).2⟩
      have CN := hide (live_new (w0 := w) (unhide HC).2)
      clear HR hlt hi
      go_wp2_with fail
      refine (unhide CN).mono ?_
      rintro e w3 ⟨s, rfl, L3, -⟩
      have H3 := hide L3
      clear L3 CN
      go_wp2_with fail
      go_loopw [37] (fun x wr => ∃ (i : Nat) (X : Xs), x = .int .i64 (i : Int) ∧ i ≤ n ∧ Hid (putAll [] es = putAll X (es.drop i) ∧ Live w wr s X [])) (fun x _ => n - (intOf x).toNat)
      case atStart => exact ⟨0, [], rfl, Nat.zero_le _, hide ⟨rfl, unhide H3⟩⟩
      case round =>
        obtain ⟨i, X, rfl, hi, HR⟩ := hrel
        clear H3
        by_cases hlt : i < n
        · have i2 : (i : Int) < (n : Int) := by omega
          obtain ⟨⟨k, v⟩, hp⟩ : ∃ p, es[i]? = some p := ⟨_, List.getElem?_eq_getElem (by have := unhide HN; omega)⟩
          obtain ⟨hk, hr⟩ := chk_ok es _ (unhide HC).1 _ (List.mem_of_getElem? hp)
          have hB := (unhide HR).2.below
          obtain ⟨a, z0, z1, z2, al', ak', ll', m', cl', ck', rfl, hbl, hks, hc, hpv⟩ := (unhide HE wr hB).elem i _ hp
          have hpa := (unhide HR).1
          rw [drop_next hp, putAll_cons] at hpa
          dsimp only at hpa hks hpv hk hr
          have e0 : wr.cell? (a.add (i * 6)) = some (.string k) := hc 0 _ rfl
          have e1 : wr.cell? ⟨(a.add (i * 6)).block, (a.add (i * 6)).off + 1, none⟩ = some (.int .i64 z0) := hc 1 _ rfl
          have e2 : wr.cell? ⟨(a.add (i * 6)).block, (a.add (i * 6)).off + 2, none⟩ = some (.int .i64 z1) := hc 2 _ rfl
          have e3 : wr.cell? ⟨(a.add (i * 6)).block, (a.add (i * 6)).off + 3, none⟩ = some (.string z2) := hc 3 _ rfl
          have e4 : wr.cell? ⟨(a.add (i * 6)).block, (a.add (i * 6)).off + 4, none⟩ = some (.slice al' ll' cl') := hc 4 _ rfl
          have e5 : wr.cell? ⟨(a.add (i * 6)).block, (a.add (i * 6)).off + 5, none⟩ = some (.slice ak' m' ck') := hc 5 _ rfl
          obtain ⟨u0, hu0⟩ : ∃ u0, wr.alloc (.cells #[.string k, .int .i64 z0, .int .i64 z1, .string z2, .slice al' ll' cl', .slice ak' m' ck'] 77) = u0 := ⟨_, rfl⟩
          have b0 : Below wr.heap.size wr u0 := by rw [← hu0]; exact (Below.refl _ _).alloc (Nat.le_refl _) _
          obtain ⟨G, hG⟩ : ∃ G, wr.heap.size = G := ⟨_, rfl⟩
          have N0 : u0.heap[G]? = some (.cells #[.string k, .int .i64 z0, .int .i64 z1, .string z2, .slice al' ll' cl', .slice ak' m' ck'] 77 (0, 0)) := by rw [← hu0, ← hG]; exact heap_alloc_new wr _
          have d0 : u0.cell? ⟨G, 0, none⟩ = some (.string k) := by rw [cell_of_row u0 G 0 _ _ (0, 0) N0]; rfl
          have d1 : u0.cell? ⟨G, 1, none⟩ = some (.int .i64 z0) := by rw [cell_of_row u0 G 1 _ _ (0, 0) N0]; rfl
          have d2 : u0.cell? ⟨G, 2, none⟩ = some (.int .i64 z1) := by rw [cell_of_row u0 G 2 _ _ (0, 0) N0]; rfl
          have d3 : u0.cell? ⟨G, 3, none⟩ = some (.string z2) := by rw [cell_of_row u0 G 3 _ _ (0, 0) N0]; rfl
          have d4 : u0.cell? ⟨G, 4, none⟩ = some (.slice al' ll' cl') := by rw [cell_of_row u0 G 4 _ _ (0, 0) N0]; rfl
          have d5 : u0.cell? ⟨G, 5, none⟩ = some (.slice ak' m' ck') := by rw [cell_of_row u0 G 5 _ _ (0, 0) N0]; rfl
          have CP := live_put ((unhide HR).2.later b0) k v _ (IsV.mono (b0.mono hB.size) hpv) (fun j hj => hj)
          have hE : putE X k v = if fitX X k v = true then 0 else 62 := by
            unfold putE
            rw [if_pos hk, if_pos hr]
          rw [hE] at CP
          have hX : putX X k v = if fitX X k v = true then putK X k v else X := by
            unfold putX
            cases fitX X k v <;> simp [hk, hr]
          rw [hX] at CP
          clear hc hpv hbl hks b0 hB hp hE hX hk hr N0
          cases hf : fitX X k v with
          | false =>
            rw [hf] at CP hpa
            have HF : Hid (fromR es = 62) := hide (by
              unfold fromR
              rw [if_pos (unhide HC).1, hpa]
              simp)
            simp only [Bool.false_eq_true, if_false] at CP
            have CP := hide CP
            clear hpa hf
            go_wp2_with fail
            refine (unhide CP).mono ?_
            rintro e w5 ⟨rfl, L5⟩
            have H5 := hide L5.below
            clear L5 CP
            go_wp2_with fail
            go_ret2
            exact .inr ⟨by rw [unhide HF]; decide, by rw [unhide HF]; rfl, unhide H5⟩
          | true =>
            rw [hf] at CP hpa
            simp only [if_true] at CP hpa
            have CP := hide CP
            have HPA := hide hpa
            clear hpa hf
            go_wp2_with fail
            refine (unhide CP).mono ?_
            rintro e w5 ⟨rfl, L5⟩
            have H5 := hide L5
            have HI1 : Hid (i + 1 ≤ n) := hide (by omega)
            clear L5 CP e0 e1 e2 e3 e4 e5 d0 d1 d2 d3 d4 d5
            go_wp2_with fail
            go_roundw
            case rel => exact ⟨i + 1, _, by go_num, unhide HI1, hide ⟨unhide HPA, unhide H5⟩⟩
            case measure => have := unhide HI1; simp [intOf]; omega
        · have i2 : ¬ (i : Int) < (n : Int) := by omega
          have HF : Hid (fromR es = 0 ∧ Live w wr s es []) := hide (by
            have h1 := (unhide HR).1
            rw [List.drop_eq_nil_of_le (by have := unhide HN; omega)] at h1
            have h2 : putAll [] es = some X := h1
            have h3 := putAll_is es ⟨#[]⟩ [] X (unhide HC).1 (fun q hq => by cases hq) h2
            rw [List.nil_append] at h3
            refine ⟨?_, by rw [← h3]; exact (unhide HR).2⟩
            unfold fromR
            rw [if_pos (unhide HC).1, h2]
            rfl)
          go_wp2_with fail
          go_ret2
          exact .inl ⟨(unhide HF).1, s, rfl, (unhide HF).2⟩
end Go.Proofs.YtdaooapfokhfcaaGreat

namespace Go.Proofs.YtdaooapfokhfcaaGreat
open Go.RowKit
set_option linter.unusedVariables false
set_option linter.unusedSimpArgs false

/-- entries in new memory; values of many parts are as they were, below B -/
structure EnC (w : World) (lo B : Nat) (sv : Value) (es : List (ByteArray × (ThV × Vl))) : Prop where
  row : w.ownsRow lo 77 6 sv es.length (cellsV (mapK Prod.fst es))
  few : ∀ p ∈ es, fewB p.2.2 = true → IsQ w (fun b => lo ≤ b ∧ b < w.heap.size ∧ some b ≠ sv.ownBlock) p.2.2 (.agg (thV p.2.1).toArray)
  all : ∀ p ∈ es, IsP w (fun b => b < B ∨ (lo ≤ b ∧ b < w.heap.size ∧ some b ≠ sv.ownBlock)) p.2.2 (.agg (thV p.2.1).toArray)
  many : ∀ p ∈ es, fewB p.2.2 = false → IsP w (fun b => b < B) p.2.2 (.agg (thV p.2.1).toArray)
  rg : ∃ m : Nat → Nat, (∀ i, m i ≤ m (i + 1)) ∧ ∀ (i : Nat) (p : ByteArray × (ThV × Vl)), es[i]? = some p → fewB p.2.2 = true → IsQ w (fun b => (lo ≤ b ∧ b < w.heap.size ∧ some b ≠ sv.ownBlock) ∧ m i ≤ b ∧ b < m (i + 1)) p.2.2 (.agg (thV p.2.1).toArray)

theorem EnC.later {w w' : World} {lo B : Nat} {sv : Value} {es : List (ByteArray × (ThV × Vl))} (h : EnC w lo B sv es) (hB : B ≤ w.heap.size) (hb : Below w.heap.size w w') : EnC w' lo B sv es := by
  obtain ⟨m, hm, hr⟩ := h.rg
  exact ⟨row_to h.row (fun b hb' => hb.block b (h.row.lt b hb').2), fun p hp hf => (h.few p hp hf).to (fun b hb' => hb.block b hb'.2.1) (fun b hb' => ⟨hb'.1, Nat.lt_of_lt_of_le hb'.2.1 hb.size, hb'.2.2⟩), fun p hp => (h.all p hp).to (fun b hb' => hb.block b (by
    rcases hb' with e | e
    · omega
    · exact e.2.1)) (fun b hb' => by
    rcases hb' with e | e
    · exact .inl e
    · exact .inr ⟨e.1, Nat.lt_of_lt_of_le e.2.1 hb.size, e.2.2⟩), fun p hp hf => (h.many p hp hf).move (fun b hb' => hb.block b (by omega)), m, hm, fun i p hp hf => (hr i p hp hf).to (fun b hb' => hb.block b hb'.1.2.1) (fun b hb' => ⟨⟨hb'.1.1, Nat.lt_of_lt_of_le hb'.1.2.1 hb.size, hb'.1.2.2⟩, hb'.2⟩)⟩

theorem EnC.push {w w4 w5 : World} {lo B g cap n : Nat} {sv : Value} {es : List (ByteArray × (ThV × Vl))} {k : ByteArray} {c : ThV} {y : Vl} (h : EnC w lo B sv es) (hn : es.length = n) (hb : Below w.heap.size w w4) (hlo : lo ≤ w.heap.size) (hB : B ≤ lo)
    (hf : fewB y = true → IsQ w4 (fun b => w.heap.size ≤ b ∧ b < w4.heap.size) y (.agg (thV c).toArray)) (ha : IsP w4 (fun b => b < B ∨ (w.heap.size ≤ b ∧ b < w4.heap.size)) y (.agg (thV c).toArray)) (hmn : fewB y = false → IsP w4 (fun b => b < B) y (.agg (thV c).toArray))
    (ho : w5.ownsRow lo 77 6 (.slice (some ⟨g, 0, none⟩) (n + 1) cap) (n + 1) (cellsV (mapK Prod.fst es) ++ pcV (k, c))) (hg : w4.grownBy w5 sv.ownBlock) (hat : sv.ownBlock = some g ∨ g = w4.heap.size) :
    EnC w5 lo B (.slice (some ⟨g, 0, none⟩) (n + 1) cap) (es ++ [(k, (c, y))]) := by
  have h4 := h.later (Nat.le_trans hB hlo) hb
  have hl : (es ++ [(k, (c, y))]).length = n + 1 := by simp [hn]
  have hne : ∀ b, b < w4.heap.size → some b ≠ sv.ownBlock → some b ≠ (Value.slice (some ⟨g, 0, none⟩) (n + 1) cap).ownBlock := fun b h1 h2 e => by
    have e2 : b = g := by
      have : (Value.slice (some ⟨g, 0, none⟩) (n + 1) cap).ownBlock = some g := rfl
      rw [this] at e
      exact Option.some.inj e
    rcases hat with hat | hat
    · rw [e2] at h2
      exact h2 hat.symm
    · omega
  have hnb : ∀ b, w.heap.size ≤ b → some b ≠ sv.ownBlock := fun b h1 e => by
    have := (h.row.lt b e.symm).2
    omega
  have hnB : ∀ b, b < B → some b ≠ sv.ownBlock := fun b h1 e => by
    have := (h.row.lt b e.symm).1
    omega
  have hsz := hb.size
  refine ⟨?_, fun p hp => ?_, fun p hp => ?_, fun p hp hff => ?_, ?_⟩
  · rw [hl, mapK_snoc, cellsV_app]
    have e : cellsV [((k, (c, y)).1, Prod.fst (k, (c, y)).2)] = pcV (k, c) := by simp [cellsV]
    rw [e]
    exact ho
  · rcases List.mem_append.1 hp with hp | hp
    · exact fun hff => (h4.few p hp hff).to (fun b hb' => hg.block b hb'.2.1 hb'.2.2) (fun b hb' => ⟨hb'.1, Nat.lt_of_lt_of_le hb'.2.1 hg.size, hne b hb'.2.1 hb'.2.2⟩)
    · rw [List.mem_singleton] at hp
      subst hp
      exact fun hff => (hf hff).to (fun b hb' => hg.block b hb'.2 (hnb b hb'.1)) (fun b hb' => ⟨Nat.le_trans hlo hb'.1, Nat.lt_of_lt_of_le hb'.2 hg.size, hne b hb'.2 (hnb b hb'.1)⟩)
  · rcases List.mem_append.1 hp with hp | hp
    · refine (h4.all p hp).to (fun b hb' => ?_) (fun b hb' => ?_)
      · rcases hb' with e | e
        · exact hg.block b (by omega) (hnB b e)
        · exact hg.block b e.2.1 e.2.2
      · rcases hb' with e | e
        · exact .inl e
        · exact .inr ⟨e.1, Nat.lt_of_lt_of_le e.2.1 hg.size, hne b e.2.1 e.2.2⟩
    · rw [List.mem_singleton] at hp
      subst hp
      refine ha.to (fun b hb' => ?_) (fun b hb' => ?_)
      · rcases hb' with e | e
        · exact hg.block b (by omega) (hnB b e)
        · exact hg.block b e.2 (hnb b e.1)
      · rcases hb' with e | e
        · exact .inl e
        · exact .inr ⟨Nat.le_trans hlo e.1, Nat.lt_of_lt_of_le e.2 hg.size, hne b e.2 (hnb b e.1)⟩
  · rcases List.mem_append.1 hp with hp | hp
    · exact (h4.many p hp hff).move (fun b hb' => hg.block b (by omega) (hnB b hb'))
    · rw [List.mem_singleton] at hp
      subst hp
      exact (hmn hff).move (fun b hb' => hg.block b (by omega) (hnB b hb'))
  · obtain ⟨m, hm, hr⟩ := h.rg
    refine ⟨fun i => if i ≤ n then min (m i) w.heap.size else w4.heap.size, fun i => ?_, fun i p hp hff => ?_⟩
    · dsimp only
      have := hm i
      split <;> split <;> omega
    · have hle : i ≤ n := by
        have := (List.getElem?_eq_some_iff.1 hp).1
        rw [hl] at this
        omega
      dsimp only
      rw [if_pos hle]
      by_cases hi : i < n
      · rw [if_pos (show i + 1 ≤ n by omega)]
        rw [List.getElem?_append_left (by omega)] at hp
        refine (hr i p hp hff).to (w' := w5) (fun b hb' => (hg.block b (by have := hb'.1.2.1; omega) hb'.1.2.2).trans (hb.block b hb'.1.2.1)) (fun b hb' => ?_)
        have h1 := hb'.1.2.1
        have h2 := hb'.2.1
        have h3 := hb'.2.2
        have h5 := hg.size
        exact ⟨⟨hb'.1.1, by omega, hne b (by omega) hb'.1.2.2⟩, by omega, by omega⟩
      · have e : i = n := by omega
        subst e
        rw [if_neg (by omega)]
        rw [List.getElem?_append_right (by omega), hn, Nat.sub_self] at hp
        cases hp
        refine (hf hff).to (fun b hb' => hg.block b hb'.2 (hnb b hb'.1)) (fun b hb' => ⟨⟨Nat.le_trans hlo hb'.1, Nat.lt_of_lt_of_le hb'.2 hg.size, hne b hb'.2 (hnb b hb'.1)⟩, by have := hb'.1; omega, hb'.2⟩)

/-- as they lie -/
theorem EnC.isE {w : World} {lo B : Nat} {sv : Value} {es : List (ByteArray × (ThV × Vl))} (h : EnC w lo B sv es) (hl : 96 * es.length ≤ 140737488351232) (hk : ∀ p ∈ es, p.1.size ≤ 140737488351232) : ∃ al cl, sv = .slice al es.length cl ∧ IsE w (fun b => b < B ∨ (lo ≤ b ∧ b < w.heap.size)) (mapK Prod.snd es) al cl := by
  have hlen : (mapK Prod.snd es).length = es.length := mapK_len _ _
  have hget : ∀ (i : Nat) (e : En), (mapK Prod.snd es)[i]? = some e → ∃ p, es[i]? = some p ∧ e = (p.1, p.2.2) := fun i e he => by
    unfold mapK at he
    rw [List.getElem?_map] at he
    obtain ⟨p, hp, rfl⟩ := Option.map_eq_some_iff.1 he
    exact ⟨p, hp, rfl⟩
  rcases h.row.2 with ⟨e, e2⟩ | ⟨b, cap, cur, e, hb, hg, hc, hm, hs, ht⟩
  · refine ⟨none, 0, by rw [e, e2], fun i => match es[i]? with | some p => thV p.2.1 | none => [], fun _ => ⟨by rw [hlen]; exact e2, rfl⟩, by rw [hlen, e2]; exact Nat.le_refl _, by rw [hlen]; exact hl, (fun a ha => by cases ha), ?_, fun i q hq => ?_⟩
    · intro q hq
      obtain ⟨p, hp, rfl⟩ := List.mem_map.1 hq
      exact hk p hp
    · obtain ⟨p, hp, rfl⟩ := hget i q hq
      have := (List.getElem?_eq_some_iff.1 hp).1
      omega
  · refine ⟨some ⟨b, 0, none⟩, cap, e, fun i => match es[i]? with | some p => thV p.2.1 | none => [], (fun e => by cases e), by rw [hlen]; exact hc, by rw [hlen]; exact hl, ?_, ?_, ?_⟩
    · intro a ha i q hq
      cases ha
      obtain ⟨p, hp, rfl⟩ := hget i q hq
      refine ⟨.inr ⟨hb, (Array.getElem?_eq_some_iff.1 hg).1⟩, fun j v hv => ?_⟩
      rw [hp] at hv
      have h1 : (mapK Prod.fst es)[i]? = some (p.1, p.2.1) := by unfold mapK; rw [List.getElem?_map, hp]; rfl
      have h2 := cellsV_at (mapK Prod.fst es) i _ h1 j v hv
      have h3 := h.row.cells (show sv.ownBlock = some b by rw [e]; rfl) _ _ h2
      have e4 : ((⟨b, 0, none⟩ : Addr).add (i * 6)).add j = (⟨b, 0, none⟩ : Addr).add (i * 6 + j) := by
        rw [add_offR, add_offR, add_offR]
        simp only [Nat.zero_add]
      rw [e4]
      exact h3
    · intro q hq
      obtain ⟨p, hp, rfl⟩ := List.mem_map.1 hq
      exact hk p hp
    · intro i q hq
      obtain ⟨p, hp, rfl⟩ := hget i q hq
      rw [hp]
      refine ⟨rfl, (h.all p (List.mem_of_getElem? hp)).weak (fun b hb => ?_)⟩
      rcases hb with e | e
      · exact .inl e
      · exact .inr ⟨e.1, e.2.1⟩

set_option maxRecDepth 100000 in
set_option maxHeartbeats 1000000 in
theorem copies_any (es : List En) (al : Option Addr) (n cl : Nat) (w : World) (hn : es.length = n) (hE : IsE w (fun b => b < w.heap.size) es al cl) :
    Calls Tryz.prog 10 #[.slice al n cl] w fun e w' => ∃ sv xs, e = .returned sv ∧ mapK Prod.snd xs = es ∧ EnC w' w.heap.size w.heap.size sv xs ∧ Below w.heap.size w w' := by
  have hl := hE.len
  rw [hn] at hl
  obtain ⟨hcl, -, haln⟩ := hl
  have hnb : 96 * n ≤ 140737488351232 := by
    obtain ⟨V, hV⟩ := hE
    have := hV.bl
    omega
  have HE : Hid (∀ u, Below w.heap.size w u → IsE u (fun b => b < w.heap.size) es al cl) := hide (fun u hu => hE.later hu)
  have HN := hide hn
  obtain ⟨iv, hiv, hz0, hz1, hz2⟩ := info_parts infoEn
  obtain ⟨w1, hrun, hown1, hgrow1⟩ := run_make_own (P := Tryz.prog) w w.heap.size 38 77 iv (.agg #[.string ⟨#[]⟩, .int .i64 0, .int .i64 0, .string ⟨#[]⟩, .slice none 0 0, .slice none 0 0]) 6 Tryz.underlying38 hiv hz0 hz1 .i64 .i64 (n + 3) (by rw [hz2]; omega) (by unfold maxLen; omega) (Nat.le_refl _)
  have HI := hide (And.intro hiv (And.intro hz0 (And.intro hz1 hz2)))
  rw [show (((n + 3 : Nat)) : Int) = (n : Int) + 3 by omega] at hrun
  have hw3 : IntKind.i64.wrap ((n : Int) + 3) = (n : Int) + 3 := by rw [IntKind.wrap_i64]; omega
  have B1 : Below w.heap.size w w1 := ⟨hgrow1.os, hgrow1.tape, hgrow1.output, hgrow1.size, fun j hj => hgrow1.block j hj (by simp)⟩
  have H1 : Hid (EnC w1 w.heap.size w.heap.size (.slice (some ⟨w.heap.size, 0, none⟩) 0 (n + 3)) [] ∧ mapK Prod.snd ([] : List (ByteArray × (ThV × Vl))) = es.take 0 ∧ ([] : List (ByteArray × (ThV × Vl))).length = 0 ∧ Below w.heap.size w w1) := hide ⟨⟨hown1, (fun p hp => by cases hp), (fun p hp => by cases hp), (fun p hp => by cases hp), fun i => i, fun i => Nat.le_succ i, fun i p hp => by cases hp⟩, rfl, rfl, B1⟩
  clear hE hn hiv hz0 hz1 hz2 hown1 hgrow1 B1
  go_enter Tryz.func10, Tryz.ntmps10
  go_wp2_with fail
  go_loopw [3, 4] (fun y x wr => ∃ (i : Nat) (so : Option Addr) (sc : Nat) (xs : List (ByteArray × (ThV × Vl))), y = .slice so i sc ∧ x = .int .i64 (i : Int) ∧ i ≤ n ∧ Hid (EnC wr w.heap.size w.heap.size (.slice so i sc) xs ∧ mapK Prod.snd xs = es.take i ∧ xs.length = i ∧ Below w.heap.size w wr)) (fun _ x _ => n - (intOf x).toNat)
  case atStart => exact ⟨0, _, _, [], rfl, rfl, Nat.zero_le _, H1⟩
  case round =>
    obtain ⟨i, so, sc, xs, rfl, rfl, hi, HR⟩ := hrel
    clear H1 hrun
    by_cases hlt : i < n
    · have i1 : (i : Int) < (n : Int) := by omega
      have i0 : (0 : Int) ≤ (i : Int) := by omega
      obtain ⟨⟨k, v⟩, hp⟩ : ∃ p, es[i]? = some p := ⟨_, List.getElem?_eq_getElem (by have := unhide HN; omega)⟩
      obtain ⟨a, z0, z1, z2, al', ak', ll', m', cl', ck', rfl, hbl, hks, hc, hpv⟩ := (unhide HE wr (unhide HR).2.2.2).elem i _ hp
      dsimp only at hc hpv
      have HC : Hid (∀ u, Below w.heap.size w u → u.cell? (a.add (i * 6)) = some (.string k) ∧ u.cell? ⟨(a.add (i * 6)).block, (a.add (i * 6)).off + 1, none⟩ = some (.int .i64 z0) ∧ u.cell? ⟨(a.add (i * 6)).block, (a.add (i * 6)).off + 2, none⟩ = some (.int .i64 z1) ∧ u.cell? ⟨(a.add (i * 6)).block, (a.add (i * 6)).off + 3, none⟩ = some (.string z2) ∧ u.cell? ⟨(a.add (i * 6)).block, (a.add (i * 6)).off + 4, none⟩ = some (.slice al' ll' cl') ∧ u.cell? ⟨(a.add (i * 6)).block, (a.add (i * 6)).off + 5, none⟩ = some (.slice ak' m' ck')) := hide (fun u hu => by
        have hq : ∀ j v, [Value.string k, .int .i64 z0, .int .i64 z1, .string z2, .slice al' ll' cl', .slice ak' m' ck'][j]? = some v → u.cell? ((a.add (i * 6)).add j) = some v := fun j v hv => by
          have e : u.cell? ((a.add (i * 6)).add j) = wr.cell? ((a.add (i * 6)).add j) := World.cell?_of_block (by
            rw [block_add, block_add]
            exact (hu.block _ hbl).trans ((unhide HR).2.2.2.block _ hbl).symm)
          rw [e]
          exact hc j v hv
        exact ⟨hq 0 _ rfl, hq 1 _ rfl, hq 2 _ rfl, hq 3 _ rfl, hq 4 _ rfl, hq 5 _ rfl⟩)
      have CC : Hid (Calls Tryz.prog 28 #[.agg #[.int .i64 z0, .int .i64 z1, .string z2, .slice al' ll' cl', .slice ak' m' ck']] wr.drew fun e w' => ∃ d : ThV, e = .returned (.agg (thV d).toArray) ∧ Below wr.heap.size wr w' ∧ (fewB v = true → IsQ w' (fun b => wr.heap.size ≤ b ∧ b < w'.heap.size) v (.agg (thV d).toArray)) ∧ IsP w' (fun b => b < w.heap.size ∨ (wr.heap.size ≤ b ∧ b < w'.heap.size)) v (.agg (thV d).toArray) ∧ (fewB v = false → IsP w' (fun b => b < w.heap.size) v (.agg (thV d).toArray))) := hide (by
        have hb0 : Below wr.heap.size wr wr.drew := (Below.refl _ _).drew
        have hv0 : IsV wr.drew w.heap.size v (.agg #[.int .i64 z0, .int .i64 z1, .string z2, .slice al' ll' cl', .slice ak' m' ck']) := IsV.mono (hb0.mono (unhide HR).2.2.2.size) hpv
        refine (copied_two v _ w.heap.size wr.drew hv0 (Nat.le_trans (unhide HR).2.2.2.size hb0.size)).mono ?_
        rintro e w' ⟨x', rfl, j1, b, f1, f2⟩
        have b' : Below wr.heap.size wr w' := hb0.trans (b.mono hb0.size)
        cases hf : fewB v with
        | true =>
          have hq := f1 hf
          obtain ⟨d, rfl⟩ := isP_th hq.1
          exact ⟨d, rfl, b', (fun _ => hq), hq.1.weak (fun b hb => .inr hb), fun h => by cases h⟩
        | false =>
          have hx := f2 hf
          subst hx
          exact ⟨(z0, z1, z2, al', ll', cl', ak', m', ck'), rfl, b', (fun h => by cases h), (IsV.mono (b.mono (Nat.le_trans (unhide HR).2.2.2.size hb0.size)) hv0).weak (fun b hb => .inl hb), fun _ => IsV.mono (b.mono (Nat.le_trans (unhide HR).2.2.2.size hb0.size)) hv0⟩)
      obtain ⟨CS, hCS⟩ : ∃ CS, cellsV (mapK Prod.fst xs) = CS := ⟨_, rfl⟩
      have HOW : Hid (∀ u, Below wr.heap.size wr u → u.ownsRow w.heap.size 77 6 (.slice so i sc) i CS) := hide (fun u hu => by
        have := ((unhide HR).1.later (unhide HR).2.2.2.size hu).row
        rw [(unhide HR).2.2.1, hCS] at this
        exact this)
      have HX := hide (And.intro hp hCS)
      clear hc hpv hbl hks hp hCS
      go_upto_region 5 with fail
      refine wp_region_held_drew (S := fun w' => Below w.heap.size w w') (by kernel_rfl) ((unhide HR).2.2.2.drew) (fun hH => ?_)
      refine take_at 0 (v := .slice so i sc) (some 15) rfl rfl (by kernel_rfl) (by kernel_rfl) (by kernel_rfl) (fun _ _ _ h => h) (Or.inl ⟨by rfl, fun u hu => by go_simp⟩) hH ?_
      try simp only [Act.put, List.setIfInBounds_toArray, List.set_cons_zero, List.set_cons_succ]
      refine take_at 1 (v := .slice (some a) n cl) (some 16) rfl rfl (by kernel_rfl) (by kernel_rfl) (by kernel_rfl) (fun _ _ _ h => h) (Or.inl ⟨by rfl, fun u hu => by go_simp⟩) hH ?_
      try simp only [Act.put, List.setIfInBounds_toArray, List.set_cons_zero, List.set_cons_succ]
      refine take_at 2 (v := .int .i64 (i : Int)) (some 17) rfl rfl (by kernel_rfl) (by kernel_rfl) (by kernel_rfl) (fun _ _ _ h => h) (Or.inl ⟨by rfl, fun u hu => by go_simp⟩) hH ?_
      try simp only [Act.put, List.setIfInBounds_toArray, List.set_cons_zero, List.set_cons_succ]
      refine take_at 3 (v := .pointer (some (a.add (i * 6)))) (some 18) rfl rfl (by kernel_rfl) (by kernel_rfl) (by kernel_rfl) (fun _ _ _ h => h) (Or.inl ⟨by rfl, fun u hu => by go_simp⟩) hH ?_
      try simp only [Act.put, List.setIfInBounds_toArray, List.set_cons_zero, List.set_cons_succ]
      refine take_at 4 (v := .pointer (some (a.add (i * 6)))) (some 19) rfl rfl (by kernel_rfl) (by kernel_rfl) (by kernel_rfl) (fun _ _ _ h => h) (Or.inl ⟨by rfl, fun u hu => by go_simp⟩) hH ?_
      try simp only [Act.put, List.setIfInBounds_toArray, List.set_cons_zero, List.set_cons_succ]
      refine take_at 5 (v := .string k) (some 20) rfl rfl (by kernel_rfl) (by kernel_rfl) (by kernel_rfl) (fun _ _ _ h => h) (Or.inl ⟨by rfl, fun u hu => by obtain ⟨q0, q1, q2, q3, q4, q5⟩ := unhide HC u hu; go_simp⟩) hH ?_
      try simp only [Act.put, List.setIfInBounds_toArray, List.set_cons_zero, List.set_cons_succ]
      refine take_at 6 (v := .slice (some a) n cl) (some 21) rfl rfl (by kernel_rfl) (by kernel_rfl) (by kernel_rfl) (fun _ _ _ h => h) (Or.inl ⟨by rfl, fun u hu => by go_simp⟩) hH ?_
      try simp only [Act.put, List.setIfInBounds_toArray, List.set_cons_zero, List.set_cons_succ]
      refine take_at 7 (v := .int .i64 (i : Int)) (some 22) rfl rfl (by kernel_rfl) (by kernel_rfl) (by kernel_rfl) (fun _ _ _ h => h) (Or.inl ⟨by rfl, fun u hu => by go_simp⟩) hH ?_
      try simp only [Act.put, List.setIfInBounds_toArray, List.set_cons_zero, List.set_cons_succ]
      refine take_at 8 (v := .pointer (some (a.add (i * 6)))) (some 23) rfl rfl (by kernel_rfl) (by kernel_rfl) (by kernel_rfl) (fun _ _ _ h => h) (Or.inl ⟨by rfl, fun u hu => by go_simp⟩) hH ?_
      try simp only [Act.put, List.setIfInBounds_toArray, List.set_cons_zero, List.set_cons_succ]
      refine take_at 9 (v := .pointer (some ⟨(a.add (i * 6)).block, (a.add (i * 6)).off + 1, none⟩)) (some 24) rfl rfl (by kernel_rfl) (by kernel_rfl) (by kernel_rfl) (fun _ _ _ h => h) (Or.inl ⟨by rfl, fun u hu => by go_simp⟩) hH ?_
      try simp only [Act.put, List.setIfInBounds_toArray, List.set_cons_zero, List.set_cons_succ]
      refine take_at 10 (v := .agg #[.int .i64 z0, .int .i64 z1, .string z2, .slice al' ll' cl', .slice ak' m' ck']) (some 25) rfl rfl (by kernel_rfl) (by kernel_rfl) (by kernel_rfl) (fun _ _ _ h => h) (Or.inl ⟨by rfl, fun u hu => by obtain ⟨q0, q1, q2, q3, q4, q5⟩ := unhide HC u hu; go_simp⟩) hH ?_
      try simp only [Act.put, List.setIfInBounds_toArray, List.set_cons_zero, List.set_cons_succ]
      refine wpAnyH_ready (rs := [11]) (by kernel_rfl) (by simp) ?_
      refine AllReadyH.cons rfl (fun KK hKK => ?_) AllReadyH.nil
      go_simp
      refine (unhide CC).mono ?_
      rintro e W3 ⟨⟨d0, d1, d2, d3, d4, d5, d6, d7, d8⟩, rfl, b3, f3, p3, m3⟩
      dsimp only [thV] at f3 p3 m3 ⊢
      have H3 := hide (And.intro b3 (And.intro f3 (And.intro p3 m3)))
      have S3 : Below w.heap.size w W3 := (unhide HR).2.2.2.trans (b3.mono (unhide HR).2.2.2.size)
      clear b3 f3 p3 m3 CC
      go_wp2_with fail
      refine hKK.out _ _ (S3) (fun hH3 => ?_)
      clear hKK KK S3
      try simp only [Act.put, List.setIfInBounds_toArray, List.set_cons_zero, List.set_cons_succ]
      refine take_at 12 (v := .agg #[.string k, .int .i64 d0, .int .i64 d1, .string d2, .slice d3 d4 d5, .slice d6 d7 d8]) (some 27) rfl rfl (by kernel_rfl) (by kernel_rfl) (by kernel_rfl) (fun _ _ _ h => h) (Or.inl ⟨by rfl, fun u hu => by go_simp⟩) hH3 ?_
      try simp only [Act.put, List.setIfInBounds_toArray, List.set_cons_zero, List.set_cons_succ]
      refine wpAnyH_ready (rs := [13]) (by kernel_rfl) (by simp) ?_
      refine AllReadyH.cons rfl (fun KK hKK => ?_) AllReadyH.nil
      go_simp
      obtain ⟨W4, hW4⟩ : ∃ W4, W3.alloc (.cells #[.string k, .int .i64 d0, .int .i64 d1, .string d2, .slice d3 d4 d5, .slice d6 d7 d8] 77) = W4 := ⟨_, rfl⟩
      have X4 : Below W3.heap.size W3 W4 := by rw [← hW4]; exact (Below.refl _ _).alloc (Nat.le_refl _) _
      have at4 : W4.heap[W3.heap.size]? = some (.cells #[.string k, .int .i64 d0, .int .i64 d1, .string d2, .slice d3 d4 d5, .slice d6 d7 d8] 77 (0, 0)) := by rw [← hW4]; exact heap_alloc_new W3 _
      rw [hW4]
      have H4 : Hid (Below wr.heap.size wr W4 ∧ (fewB v = true → IsQ W4 (fun b => wr.heap.size ≤ b ∧ b < W4.heap.size) v (.agg #[.int .i64 d0, .int .i64 d1, .string d2, .slice d3 d4 d5, .slice d6 d7 d8])) ∧ IsP W4 (fun b => b < w.heap.size ∨ (wr.heap.size ≤ b ∧ b < W4.heap.size)) v (.agg #[.int .i64 d0, .int .i64 d1, .string d2, .slice d3 d4 d5, .slice d6 d7 d8]) ∧ (fewB v = false → IsP W4 (fun b => b < w.heap.size) v (.agg #[.int .i64 d0, .int .i64 d1, .string d2, .slice d3 d4 d5, .slice d6 d7 d8]))) := hide ⟨(unhide H3).1.trans (X4.mono (unhide H3).1.size), (fun hf => ((unhide H3).2.1 hf).to (fun b hb => X4.block b hb.2) (fun b hb => ⟨hb.1, Nat.lt_of_lt_of_le hb.2 X4.size⟩)), (unhide H3).2.2.1.to (fun b hb => X4.block b (by rcases hb with e | e; exact Nat.lt_of_lt_of_le e hH3.size; exact e.2)) (fun b hb => by rcases hb with e | e; exact .inl e; exact .inr ⟨e.1, Nat.lt_of_lt_of_le e.2 X4.size⟩), fun hf => ((unhide H3).2.2.2 hf).move (fun b hb => X4.block b (Nat.lt_of_lt_of_le hb hH3.size))⟩
      obtain ⟨h3s, hh3s⟩ : ∃ h3s, W3.heap.size = h3s := ⟨_, rfl⟩
      rw [hh3s] at at4 ⊢
      have S4 : Below w.heap.size w W4 := hH3.trans (X4.mono hH3.size)
      refine hKK.out _ _ (S4) (fun hH4 => ?_)
      clear hKK KK S4 X4 hW4 hh3s H3
      try simp only [Act.put, List.setIfInBounds_toArray, List.set_cons_zero, List.set_cons_succ]
      refine wpAnyH_ready (rs := [14]) (by kernel_rfl) (by simp) ?_
      refine AllReadyH.cons rfl (fun KK hKK => ?_) AllReadyH.nil
      refine step_append_lies _ (by rfl) _ _ 38 (by rfl) w.heap.size 77 iv (.agg #[.string ⟨#[]⟩, .int .i64 0, .int .i64 0, .string ⟨#[]⟩, .slice none 0 0, .slice none 0 0]) 6 96 Tryz.underlying38 (unhide HI).1 (unhide HI).2.1 (unhide HI).2.2.1 (unhide HI).2.2.2 rfl (by omega) (.slice so i sc) i CS (by rfl) (unhide HOW W4 (unhide H4).1) ⟨h3s, 0, none⟩ 1 1 [.string k, .int .i64 d0, .int .i64 d1, .string d2, .slice d3 d4 d5, .slice d6 d7 d8] (by rfl) (by rfl) (World.news_of_block at4) (by simp [Value.oneCell']) (by omega) (by unfold maxLen; omega) (by omega) hH4.size _ rfl ?_
      intro g5 cap5 W5 hown5 hgrow5 hat5 hlt5
      change KK (Act.put _ (some 29) _) W5
      have S5 : Below w.heap.size w W5 := hH4.grown hgrow5 hH4.size (fun q hq => ((unhide HOW W4 (unhide H4).1).lt q hq).1)
      have H5 := hide (And.intro hown5 (And.intro hgrow5 hat5))
      refine hKK.out _ _ (S5) (fun hH5 => ?_)
      clear hKK KK S5 hown5 hgrow5 hat5 hlt5 at4
      try simp only [Act.put, List.setIfInBounds_toArray, List.set_cons_zero, List.set_cons_succ]
      refine take_at 15 (v := .slice (some ⟨g5, 0, none⟩) (i + 1) cap5) (some 3) rfl rfl (by kernel_rfl) (by kernel_rfl) (by kernel_rfl) (fun _ _ _ h => h) (Or.inl ⟨by rfl, fun u hu => by go_simp⟩) hH5 ?_
      try simp only [Act.put, List.setIfInBounds_toArray, List.set_cons_zero, List.set_cons_succ]
      refine wpAnyH_done (by kernel_rfl) ?_ _
      have HS5 := hide hH5
      clear hH hH3 hH4 hH5
      have HN5 : Hid (EnC W5 w.heap.size w.heap.size (.slice (some ⟨g5, 0, none⟩) (i + 1) cap5) (xs ++ [(k, ((d0, d1, d2, d3, d4, d5, d6, d7, d8), v))]) ∧ mapK Prod.snd (xs ++ [(k, ((d0, d1, d2, d3, d4, d5, d6, d7, d8), v))]) = es.take (i + 1) ∧ (xs ++ [(k, ((d0, d1, d2, d3, d4, d5, d6, d7, d8), v))]).length = i + 1 ∧ Below w.heap.size w W5) := hide (by
        obtain ⟨r1, r2, r3, r4⟩ := unhide HR
        obtain ⟨o5, g5', a5⟩ := unhide H5
        obtain ⟨b4, f4, p4, m4⟩ := unhide H4
        refine ⟨r1.push r3 b4 r4.size (Nat.le_refl _) f4 p4 m4 (by rw [(unhide HX).2]; exact o5) g5' a5, ?_, by simp [r3], unhide HS5⟩
        rw [mapK_snoc, r2, List.take_add_one, (unhide HX).1]
        rfl)
      have HI1 : Hid (i + 1 ≤ n) := hide (by omega)
      clear H5 H4 HOW HC HX HS5
      go_wp2_with fail
      go_roundw
      case rel => exact ⟨i + 1, _, _, _, rfl, by go_num, unhide HI1, HN5⟩
      case measure => have := unhide HI1; simp [intOf]; omega
    · have i1 : ¬ (i : Int) < (n : Int) := by omega
      have him : i = n := by omega
      have HF : Hid (mapK Prod.snd xs = es) := hide (by
        have := (unhide HR).2.1
        rw [List.take_of_length_le (by have := unhide HN; omega)] at this
        exact this)
      clear him
      go_wp2_with fail
      go_ret
      first | exact ⟨_, xs, rfl, unhide HF, (unhide HR).1, (unhide HR).2.2.2⟩ | exact ⟨_, rfl, xs, unhide HF, (unhide HR).1, (unhide HR).2.2.2⟩
end Go.Proofs.YtdaooapfokhfcaaGreat

namespace Go.Proofs.YtdaooapfokhfcaaGreat
open Go.RowKit
set_option linter.unusedVariables false
set_option linter.unusedSimpArgs false

theorem AnyR.app2 {w : World} {lo n : Nat} {v : Value} (h : AnyR w lo v n) (hlo : lo ≤ w.heap.size) (hn : (n + 1) * 96 ≤ 140737488355328) (mark : ByteArray) (g : Nat) (hg : w.heap[g]? = some (.cells #[.string mark, .int .i64 0, .int .i64 0, .string ⟨#[]⟩, .slice none 0 0, .slice none 0 0] 77 (0, 0))) :
    ∃ v' w', (Builtin.append_ #[38, 38] 38 #[v, .slice (some ⟨g, 0, none⟩) 1 1]).run Tryz.prog w = .ok v' w' ∧ AnyR w' lo v' (n + 1) ∧ w.grownBy w' v.ownBlock ∧ (v'.ownBlock = v.ownBlock ∨ v'.ownBlock = some w.heap.size) := by
  obtain ⟨xs, hown⟩ := h
  obtain ⟨iv, hiv, hz0, hz1, hz2⟩ := info_parts infoEr
  obtain ⟨v', w', e1, e2, e3, e4, e5⟩ := run_append_own_at (P := Tryz.prog) w lo 38 38 77 iv _ 6 96 Tryz.underlying38 hiv hz0 hz1 hz2 rfl (by omega) v n xs hown ⟨g, 0, none⟩ 1 1 [.string mark, .int .i64 0, .int .i64 0, .string ⟨#[]⟩, .slice none 0 0, .slice none 0 0] rfl (fun j u hu => by
    rw [add_offR, Nat.zero_add, cell_of_row w g j _ _ (0, 0) hg, List.getElem?_toArray]
    exact hu) (by simp [Value.oneCell']) (by unfold maxLen; omega) (by omega) hlo
  exact ⟨v', w', e1, ⟨_, e2⟩, e3, e5⟩

/-- the first loop, half way -/
def Ov2 (G : Nat → Prop) (w : World) (lo B : Nat) (sv : Value) (es : List (ByteArray × (ThV × Vl))) (R : Nat → Nat → Prop) (i : Nat) (wr : World) : Prop :=
  Fr G w wr ∧ wr.ownsRow lo 77 6 sv es.length (cellsV (mapK Prod.fst es)) ∧ ∀ (j : Nat) (p : ByteArray × (ThV × Vl)), i ≤ j → es[j]? = some p → (fewB p.2.2 = true → IsQ wr (R j) p.2.2 (.agg (thV p.2.1).toArray)) ∧ (fewB p.2.2 = false → IsP wr (fun b => b < B) p.2.2 (.agg (thV p.2.1).toArray))

set_option maxRecDepth 100000 in
set_option maxHeartbeats 3200000 in
theorem overC_any {w0 w : World} {lo B : Nat} {sv : Value} {es : List (ByteArray × (ThV × Vl))} (h : EnC w0 lo B sv es) (hB : B ≤ lo) (hb0 : Below w0.heap.size w0 w) (hlo0 : lo ≤ w0.heap.size) (hl : 96 * es.length ≤ 140737488351232) (mark : ByteArray) :
    Calls Tryz.prog 14 #[sv, .string mark] w fun e w' => (∃ r, e = .returned r) ∧ Fr (fun b => lo ≤ b ∧ b < w0.heap.size) w w' := by
  have hz0 := hb0.size
  have hlo : lo ≤ w.heap.size := by omega
  obtain ⟨GG, hGG⟩ : ∃ GG : Nat → Prop, (fun b => lo ≤ b ∧ b < w0.heap.size) = GG := ⟨_, rfl⟩
  rw [hGG]
  obtain ⟨so, cap, hsv, hcap, hmax, hpl, hnone⟩ := own_slice h.row
  obtain ⟨n, hn⟩ : ∃ n, es.length = n := ⟨_, rfl⟩
  rw [hn] at hsv hcap hl hnone
  obtain ⟨m, hm, hrg⟩ := h.rg
  obtain ⟨R, hR⟩ : ∃ R : Nat → Nat → Prop, (fun j b => (lo ≤ b ∧ b < w0.heap.size ∧ some b ≠ sv.ownBlock) ∧ m j ≤ b ∧ b < m (j + 1)) = R := ⟨_, rfl⟩
  have H0 : Hid (Ov2 GG w lo B sv es R 0 w) := hide ⟨Fr.refl _ _, row_to h.row (fun b hb => hb0.block b (h.row.lt b hb).2), fun j p _ hp => by rw [← hR]; exact ⟨fun hf => (hrg j p hp hf).move (fun b hb => hb0.block b hb.1.2.1), fun hf => (h.many p (List.mem_of_getElem? hp) hf).move (fun b hb => hb0.block b (by omega))⟩⟩
  have HGB : Hid (∀ b, sv.ownBlock = some b → GG b) := hide (fun b hb => by rw [← hGG]; exact h.row.lt b hb)
  -- one step of the first loop
  have HS : Hid (∀ i, i < n → ∀ wr, Ov2 GG w lo B sv es R i wr → ∃ b k c, so = some ⟨b, 0, none⟩ ∧ (∀ j u, (pcV (k, c))[j]? = some u → wr.cell? ⟨b, i * 6 + j, none⟩ = some u) ∧ Calls Tryz.prog 30 #[.agg (thV c).toArray, .string mark] wr fun e w' => e = .returned (.tuple #[]) ∧ Ov2 GG w lo B sv es R (i + 1) w') := hide (fun i hi wr hh => by
    obtain ⟨hb, hrow, hel⟩ := hh
    obtain ⟨⟨k, c, y⟩, hp⟩ : ∃ p, es[i]? = some p := ⟨_, List.getElem?_eq_getElem (by omega)⟩
    rcases hrow.2 with ⟨e, e2⟩ | ⟨b, cap', cur, e, hbl, hg, hc, hm', hs, ht⟩
    · omega
    · have e' := e
      rw [hsv] at e'
      cases e'
      refine ⟨b, k, c, rfl, fun j u hu => ?_, ?_⟩
      · have h1 : (mapK Prod.fst es)[i]? = some (k, c) := by unfold mapK; rw [List.getElem?_map, hp]; rfl
        have h2 := cellsV_at (mapK Prod.fst es) i _ h1 j u hu
        have h3 := hrow.cells (show sv.ownBlock = some b by rw [e]; rfl) _ _ h2
        rw [add_offR, Nat.zero_add] at h3
        exact h3
      · obtain ⟨hq1, hq2⟩ := hel i (k, (c, y)) (Nat.le_refl _) hp
        have hzb := hb.size
        cases hf : fewB y with
        | true =>
          refine (over_any y _ mark (R i) wr (hq1 hf) (fun b hb' => by
            rw [← hR] at hb'
            have := hb'.1.2.1
            omega)).mono ?_
          rintro e9 w' ⟨rfl, hw⟩
          refine ⟨rfl, hb.trans (G' := R i) ⟨hw.os, hw.tape, hw.output, hw.size, fun j hj hn => hw.far hj hn⟩ (fun b _ hb' => by rw [← hR] at hb'; rw [← hGG]; exact ⟨hb'.1.1, hb'.1.2.1⟩), row_to hrow (fun b' hb' => hw.far (hrow.lt b' hb').2 (fun e => by rw [← hR] at e; exact e.1.2.2 hb'.symm)), fun j p hj hp' => ?_⟩
          obtain ⟨g1, g2⟩ := hel j p (by omega) hp'
          refine ⟨fun hff => (g1 hff).move (fun b' hb' => hw.far ?_ (fun e => ?_)), fun hff => (g2 hff).move (fun b' hb' => hw.far (by omega) (fun e => ?_))⟩
          · rw [← hR] at hb'
            have := hb'.1.2.1
            omega
          · rw [← hR] at e hb'
            have h1 := e.2.2
            have h2 := hb'.2.1
            have h3 := mono_of hm hj
            omega
          · rw [← hR] at e
            have h1 := e.1.1
            omega
        | false =>
          refine (over_no y _ mark wr ((hq2 hf).isV (fun b hb' => by omega)) hf).mono ?_
          rintro e9 w' ⟨rfl, b9⟩
          refine ⟨rfl, hb.then b9, row_to hrow (fun b' hb' => b9.block b' (hrow.lt b' hb').2), fun j p hj hp' => ?_⟩
          obtain ⟨g1, g2⟩ := hel j p (by omega) hp'
          refine ⟨fun hff => (g1 hff).move (fun b' hb' => b9.block b' ?_), fun hff => (g2 hff).move (fun b' hb' => b9.block b' (by omega))⟩
          rw [← hR] at hb'
          have := hb'.1.2.1
          omega)
  have HL : Hid (lo ≤ w.heap.size) := hide hlo
  have HA : Hid (∀ i wr, Ov2 GG w lo B sv es R i wr → Fr GG w wr ∧ AnyR wr lo sv n) := hide (fun i wr hh => ⟨hh.1, _, by rw [← hn]; exact hh.2.1⟩)
  rw [hsv] at H0 HS HA HGB ⊢
  clear h hrg hR hm hn hlo hGG hb0 hlo0 hz0 hB
  go_enter Tryz.func14, Tryz.ntmps14
  go_wp2_with fail
  go_loopw [4] (fun x wr => ∃ i : Nat, x = .int .i64 (i : Int) ∧ i ≤ n ∧ Hid (Ov2 GG w lo B (.slice so n cap) es R i wr)) (fun x _ => n - (intOf x).toNat)
  case atStart => exact ⟨0, rfl, Nat.zero_le _, H0⟩
  case round =>
    obtain ⟨i, rfl, hi, HR⟩ := hrel
    by_cases hlt : i < n
    · obtain ⟨b, k, ⟨c0, c1, c2, c3, c4, c5, c6, c7, c8⟩, rfl, hc, CO⟩ := unhide HS i hlt wr (unhide HR)
      have d1 : wr.cell? ⟨b, i * 6 + 1, none⟩ = some (.int .i64 c0) := hc 1 _ rfl
      have d2 : wr.cell? ⟨b, i * 6 + 2, none⟩ = some (.int .i64 c1) := hc 2 _ rfl
      have d3 : wr.cell? ⟨b, i * 6 + 3, none⟩ = some (.string c2) := hc 3 _ rfl
      have d4 : wr.cell? ⟨b, i * 6 + 4, none⟩ = some (.slice c3 c4 c5) := hc 4 _ rfl
      have d5 : wr.cell? ⟨b, i * 6 + 5, none⟩ = some (.slice c6 c7 c8) := hc 5 _ rfl
      have COH := hide CO
      dsimp only [thV] at COH
      have i1 : (i : Int) < (n : Int) := by omega
      have i0 : (0 : Int) ≤ (i : Int) := by omega
      have hmx : cap ≤ 9223372036854775807 := by unfold maxLen at hmax; omega
      have HN : Hid (i + 1 ≤ n) := hide hlt
      clear hc CO HR
      go_wp2_with fail
      refine (unhide COH).mono ?_
      rintro e u2 ⟨rfl, hh⟩
      have H2 := hide hh
      clear hh COH d1 d2 d3 d4 d5
      go_wp2_with fail
      go_roundw
      case rel => exact ⟨i + 1, by go_num, unhide HN, H2⟩
      case measure => have := unhide HN; simp [intOf]; omega
    · have i1 : ¬ (i : Int) < (n : Int) := by omega
      have HR2 := hide (unhide HA i wr (unhide HR))
      clear HR HS HA H0
      go_wp2_with fail
      go_loopw [5] (fun x wr => ∃ i : Nat, x = .int .i64 (i : Int) ∧ i ≤ n ∧ Hid (Fr GG w wr ∧ AnyR wr lo (.slice so n cap) n)) (fun x _ => n - (intOf x).toNat)
      case atStart => exact ⟨0, rfl, Nat.zero_le _, HR2⟩
      case round =>
        clear HR2
        obtain ⟨i2, rfl, hi2, HR⟩ := hrel
        by_cases hlt2 : i2 < n
        · obtain ⟨hb, xs, hown⟩ := unhide HR
          rcases hown.2 with ⟨e, e2⟩ | ⟨b, cap', cur, e, hbl, hg, hc, hm', hs, ht⟩
          · omega
          cases e
          have hsz : i2 * 6 + 6 ≤ cur.size := by
            rw [hs]
            have := Nat.mul_le_mul_right 6 (show i2 + 1 ≤ cap by omega)
            omega
          have cell : ∀ j, j < 6 → ∃ y, wr.cell? ⟨b, i2 * 6 + j, none⟩ = some y := fun j hj => ⟨cur[i2 * 6 + j]'(by omega), by rw [cell_of_row wr b _ cur _ (0, 0) hg]; exact Array.getElem?_eq_getElem _⟩
          obtain ⟨y0, e0⟩ := cell 0 (by omega)
          obtain ⟨y1, e1⟩ := cell 1 (by omega)
          obtain ⟨y2, e2⟩ := cell 2 (by omega)
          obtain ⟨y3, e3⟩ := cell 3 (by omega)
          obtain ⟨y4, e4⟩ := cell 4 (by omega)
          obtain ⟨y5, e5⟩ := cell 5 (by omega)
          rw [Nat.add_zero] at e0
          have f0 := frozen_of_row wr b (i2 * 6) _ _ hg
          have f1 := frozen_of_row wr b (i2 * 6 + 1) _ _ hg
          have f2 := frozen_of_row wr b (i2 * 6 + 2) _ _ hg
          have f3 := frozen_of_row wr b (i2 * 6 + 3) _ _ hg
          have f4 := frozen_of_row wr b (i2 * 6 + 4) _ _ hg
          have f5 := frozen_of_row wr b (i2 * 6 + 5) _ _ hg
          have s6 := heap_setCell_same _ b (i2 * 6 + 5) _ _ (.slice none 0 0) (heap_setCell_same _ b (i2 * 6 + 4) _ _ (.slice none 0 0) (heap_setCell_same _ b (i2 * 6 + 3) _ _ (.string ⟨#[]⟩) (heap_setCell_same _ b (i2 * 6 + 2) _ _ (.int .i64 0) (heap_setCell_same _ b (i2 * 6 + 1) _ _ (.int .i64 0) (heap_setCell_same _ b (i2 * 6) _ _ (.string mark) hg)))))
          have hgb := unhide HGB b rfl
          have HR3 : Hid (Fr GG w ((((((wr.setCell ⟨b, i2 * 6, none⟩ (.string mark)).setCell ⟨b, i2 * 6 + 1, none⟩ (.int .i64 0)).setCell ⟨b, i2 * 6 + 2, none⟩ (.int .i64 0)).setCell ⟨b, i2 * 6 + 3, none⟩ (.string ⟨#[]⟩)).setCell ⟨b, i2 * 6 + 4, none⟩ (.slice none 0 0)).setCell ⟨b, i2 * 6 + 5, none⟩ (.slice none 0 0)) ∧ AnyR ((((((wr.setCell ⟨b, i2 * 6, none⟩ (.string mark)).setCell ⟨b, i2 * 6 + 1, none⟩ (.int .i64 0)).setCell ⟨b, i2 * 6 + 2, none⟩ (.int .i64 0)).setCell ⟨b, i2 * 6 + 3, none⟩ (.string ⟨#[]⟩)).setCell ⟨b, i2 * 6 + 4, none⟩ (.slice none 0 0)).setCell ⟨b, i2 * 6 + 5, none⟩ (.slice none 0 0)) lo (.slice (some ⟨b, 0, none⟩) n cap) n) := hide ⟨(((((hb.put hgb).put hgb).put hgb).put hgb).put hgb).put hgb, AnyR.of hbl s6 hc hm' (by simp [hs])⟩
          have ia2 : (i2 : Int) < (n : Int) := by omega
          have ib2 : (0 : Int) ≤ (i2 : Int) := by omega
          have hmx : cap ≤ 9223372036854775807 := by unfold maxLen at hmax; omega
          have HN : Hid (i2 + 1 ≤ n) := hide hlt2
          clear HR hb hown ht hg cell s6 hs hsz hbl hgb
          go_wp2_with fail
          go_roundw
          case rel => exact ⟨i2 + 1, by go_num, unhide HN, HR3⟩
          case measure => have := unhide HN; simp [intOf]; omega
        · have ia2 : ¬ (i2 : Int) < (n : Int) := by omega
          go_wp2_with fail
          go_loopw [0, 6] (fun lv x wr => ∃ i n' : Nat, x = .int .i64 (i : Int) ∧ i ≤ 9 ∧ n' ≤ n + i ∧ Hid (Fr GG w wr ∧ AnyR wr lo lv n' ∧ ∀ b, lv.ownBlock = some b → GG b ∨ w.heap.size ≤ b)) (fun _ x _ => 9 - (intOf x).toNat)
          case atStart => exact ⟨0, n, rfl, by omega, by omega, hide ⟨(unhide HR).1, (unhide HR).2, fun b hb => .inl (unhide HGB b hb)⟩⟩
          case round =>
            clear HR
            obtain ⟨i3, n3, rfl, hi3, hn3, HR⟩ := hrel
            by_cases hlt3 : i3 < 9
            · have ia3 : (i3 : Int) < 9 := by omega
              obtain ⟨hb, hany, hob⟩ := unhide HR
              obtain ⟨G, hG⟩ : ∃ G, wr.heap.size = G := ⟨_, rfl⟩
              obtain ⟨wa, hwa⟩ : ∃ wa, wr.alloc (.cells #[.string mark, .int .i64 0, .int .i64 0, .string ⟨#[]⟩, .slice none 0 0, .slice none 0 0] 77) = wa := ⟨_, rfl⟩
              have na : wa.heap[G]? = some (.cells #[.string mark, .int .i64 0, .int .i64 0, .string ⟨#[]⟩, .slice none 0 0, .slice none 0 0] 77 (0, 0)) := by rw [← hwa, ← hG]; exact heap_alloc_new wr _
              have ba : Below wr.heap.size wr wa := by rw [← hwa]; exact (Below.refl _ _).alloc (Nat.le_refl _) _
              have hlr : lo ≤ wr.heap.size := Nat.le_trans (unhide HL) hb.size
              obtain ⟨xs, hown⟩ := hany
              obtain ⟨v', w', r', hany', g', a'⟩ := AnyR.app2 (w := wa) ⟨xs, row_to hown (fun b hb' => ba.block b (hown.lt b hb').2)⟩ (Nat.le_trans hlr ba.size) (by omega) mark G na
              have hz := hb.size
              have hza := ba.size
              have H3 : Hid (Fr GG w w' ∧ AnyR w' lo v' (n3 + 1) ∧ ∀ b, v'.ownBlock = some b → GG b ∨ w.heap.size ≤ b) := hide ⟨(hb.then ba).trans ⟨g'.os, g'.tape, g'.output, g'.size, fun j hj hn => g'.block j hj (fun e => hn e.symm)⟩ (fun j hj e => (hob j e).resolve_right (by omega)), hany', fun b hb' => by
                rcases a' with e | e
                · exact hob b (by rw [← e]; exact hb')
                · rw [e] at hb'
                  cases hb'
                  exact .inr (by omega)⟩
              have HN : Hid (i3 + 1 ≤ 9 ∧ n3 + 1 ≤ n + (i3 + 1)) := hide ⟨by omega, by omega⟩
              clear HR hb hown hany' g' a' hob hz hza ba na hlr hl
              go_wp2_with (at_builtin; refine Go.Lib.wpList_append_run _ rfl (.tmp 35) (.tmp 38) 38 38 rfl _ _ rfl rfl v' w' r' ?_; clear r')
              go_roundw
              case rel => exact ⟨i3 + 1, n3 + 1, by go_num, (unhide HN).1, (unhide HN).2, H3⟩
              case measure => have := (unhide HN).1; simp [intOf]; omega
            · have ia3 : ¬ (i3 : Int) < 9 := by omega
              have HB := hide (unhide HR).1
              clear HR
              go_wp2_with fail
              go_end0
              exact ⟨⟨_, rfl⟩, unhide HB⟩
end Go.Proofs.YtdaooapfokhfcaaGreat

namespace Go.Proofs.YtdaooapfokhfcaaGreat
open Go.RowKit
set_option linter.unusedVariables false
set_option linter.unusedSimpArgs false

/-- entries that a store may have are taken by From -/
theorem from_okz {X : Xs} (hr : Rk X) (hk : ∀ p ∈ X, KeyOk p.1 ∧ rightB p.2 = true) (hl : X.length ≤ 128) (hw : tot X ≤ 32768) : fromR X = 0 := by
  have hemp : ∀ k, KeyOk k → bl ⟨#[]⟩ k = true := fun k hk => by
    rcases kl_tri ⟨#[]⟩ k with e | e | e
    · exact e
    · have h1 := hk.1
      rw [← e] at h1
      exact absurd h1 (by decide)
    · exfalso
      have e2 : Op.bytesLess k.toList (⟨#[]⟩ : ByteArray).toList = true := e
      have e3 : (⟨#[]⟩ : ByteArray).toList = [] := by rw [ByteArray.toList_eq]
      rw [e3] at e2
      cases hk : k.toList with
      | nil => rw [hk] at e2; simp [Op.bytesLess] at e2
      | cons a r => rw [hk] at e2; simp [Op.bytesLess] at e2
  have h1 : ∀ (es : List En) (ah : ByteArray), Rk es → (∀ p ∈ es, KeyOk p.1 ∧ rightB p.2 = true) → (∀ p ∈ es, bl ah p.1 = true) → chkE ah es = 0 := fun es => by
    induction es with
    | nil => intro ah _ _ _; rfl
    | cons p r ih =>
      intro ah h1 h2 h3
      rw [chkE_cons, if_pos ⟨(keyB_iff p.1).2 (h2 p List.mem_cons_self).1, h3 p List.mem_cons_self⟩, if_pos (h2 p List.mem_cons_self).2]
      exact ih p.1 (rk_tail h1) (fun q hq => h2 q (List.mem_cons_of_mem _ hq)) (fun q hq => rk_head h1 q hq)
  have h2 : ∀ (es : List En) (Y : Xs), Rk (Y ++ es) → (Y ++ es).length ≤ 128 → tot (Y ++ es) ≤ 32768 → (putAll Y es).isSome = true := fun es => by
    induction es with
    | nil => intro Y _ _ _; rfl
    | cons p r ih =>
      intro Y h1 h2 h3
      have hlt : ∀ q ∈ Y, bl q.1 p.1 = true := fun q hq => (List.pairwise_append.1 h1).2.2 q hq p List.mem_cons_self
      have he := put_end Y p.1 p.2 hlt
      have e1 : Y ++ p :: r = (Y ++ [(p.1, p.2)]) ++ r := by simp
      rw [e1] at h1 h2 h3
      have e2 : tot ((Y ++ [(p.1, p.2)]) ++ r) = tot (Y ++ [(p.1, p.2)]) + tot r := by
        unfold tot
        rw [List.map_append, List.sum_append]
      rw [List.length_append] at h2
      rw [putAll_cons, he]
      have hf : fitX Y p.1 p.2 = true := by
        unfold fitX
        rw [he, Bool.and_eq_true, decide_eq_true_eq, decide_eq_true_eq]
        exact ⟨by omega, by omega⟩
      rw [if_pos hf]
      exact ih _ h1 (by rw [List.length_append]; exact h2) h3
  have h3 := h1 X ⟨#[]⟩ hr hk (fun p hp => hemp p.1 (hk p hp).1)
  unfold fromR
  rw [if_pos h3, if_pos (h2 X [] hr hl hw)]

theorem chk_rk : ∀ (es : List En) (ah : ByteArray), chkE ah es = 0 → Rk es ∧ ∀ p ∈ es, bl ah p.1 = true
  | [], _, _ => ⟨List.Pairwise.nil, fun p hp => by cases hp⟩
  | q :: r, ah, h => by
    rw [chkE_cons] at h
    split at h
    · rename_i hk
      split at h
      · obtain ⟨h1, h2⟩ := chk_rk r q.1 h
        refine ⟨List.pairwise_cons.2 ⟨fun p hp => h2 p hp, h1⟩, fun p hp => ?_⟩
        rcases List.mem_cons.1 hp with rfl | hp
        · exact hk.2
        · exact kl_trans hk.2 (h2 p hp)
      · simp at h
    · simp at h

theorem putAll_fit : ∀ (es : List En) (X Y : Xs), putAll X es = some Y → (es = [] ∧ Y = X) ∨ (Y.length ≤ 128 ∧ tot Y ≤ 32768)
  | [], X, Y, h => by
    simp only [putAll, Option.some.injEq] at h
    exact .inl ⟨rfl, h.symm⟩
  | p :: r, X, Y, h => by
    rw [putAll_cons] at h
    split at h
    · rename_i hf
      unfold fitX at hf
      simp only [Bool.and_eq_true, decide_eq_true_eq] at hf
      rcases putAll_fit r _ Y h with ⟨_, e⟩ | e
      · rw [e]
        exact .inr hf
      · exact .inr e
    · cases h

theorem fromR_is (es : List En) (hc : chkE ⟨#[]⟩ es = 0) : fromR es = if (decide (es.length ≤ 128) && decide (tot es ≤ 32768)) = true then 0 else 62 := by
  have hk := chk_ok es _ hc
  have hr := (chk_rk es _ hc).1
  by_cases hf : (decide (es.length ≤ 128) && decide (tot es ≤ 32768)) = true
  · rw [if_pos hf]
    simp only [Bool.and_eq_true, decide_eq_true_eq] at hf
    exact from_okz hr (fun p hp => ⟨(keyB_iff p.1).1 (hk p hp).1, (hk p hp).2⟩) hf.1 hf.2
  · rw [if_neg hf]
    unfold fromR
    rw [if_pos hc]
    cases hp : putAll [] es with
    | none => rfl
    | some Y =>
      exfalso
      apply hf
      have e := putAll_is es _ [] Y hc (fun q hq => by cases hq) hp
      rw [List.nil_append] at e
      rcases putAll_fit es [] Y hp with ⟨e1, e2⟩ | ⟨e1, e2⟩
      · rw [e1]
        simp [tot]
      · rw [e] at e1 e2
        simp [e1, e2]

def RFrom (w : World) (es : List En) (e : Ending) (w' : World) : Prop :=
  (fromR es = 0 ∧ ∃ t V, e = .returned (.tuple #[.pointer (some ⟨t.r, 0, none⟩), .int .i64 0]) ∧ Rtt w' V t es [] 0 ∧ (∀ j, t.own j ∨ V j → w.heap.size ≤ j) ∧ Below w.heap.size w w') ∨ (fromR es ≠ 0 ∧ e = .returned (.tuple #[.pointer none, .int .i64 (fromR es)]) ∧ Below w.heap.size w w')

/-- a store of what was copied -/
theorem rtt_of {w1 w2 : World} {sv : Value} {xs : List (ByteArray × (ThV × Vl))} {lo : Nat} {es : Xs} (h : EnO w1 lo sv xs) (he : mapK Prod.snd xs = es) (hf : FinX es) (hw2 : w1.alloc (.cells #[sv, .slice none 0 0, .slice none 0 0] 56) = w2) (hlo : lo ≤ w1.heap.size) :
    ∃ (t : Rx) (V : Nat → Prop), t.r = w1.heap.size ∧ Rtt w2 V t es [] 0 ∧ ∀ j, t.own j ∨ V j → lo ≤ j := by
  have b2 : Below w1.heap.size w1 w2 := by rw [← hw2]; exact (Below.refl _ _).alloc (Nat.le_refl _) _
  have n2 : w2.heap[w1.heap.size]? = some (.cells #[sv, .slice none 0 0, .slice none 0 0] 56 (0, 0)) := by rw [← hw2]; exact heap_alloc_new w1 _
  refine ⟨⟨w1.heap.size, sv, xs, .slice none 0 0, [], .slice none 0 0, []⟩, fun b => lo ≤ b ∧ b < w1.heap.size ∧ some b ≠ sv.ownBlock, rfl, ⟨⟨n2, own_low (row_to h.row (fun b hb => b2.block b (h.row.lt b hb).2)) (Nat.zero_le _), fun p hp => (h.el p hp).1.to (fun b hb => b2.block b hb.1.2.1) (fun b hb => hb.1), World.ownsRow_nil _ _ _ _, (fun p hp => by cases hp), World.ownsRow_nil _ _ _ _, fun j hj => ⟨Nat.lt_of_lt_of_le hj.2.1 b2.size, fun e => ?_⟩⟩, he, Nat.le_refl _, Nat.le_refl _, fun j hj => ?_, fun _ => rfl, (fun m e => by cases e), (fun m e => by cases e), List.Pairwise.nil, rfl⟩, fun j hj => ?_⟩
  · rcases e with e | e | e | e
    · have e : j = w1.heap.size := e
      have := hj.2.1
      omega
    · exact hj.2.2 e.symm
    · cases e
    · cases e
  · have e : bks (List.drop j (Rx.U ⟨w1.heap.size, sv, xs, .slice none 0 0, [], .slice none 0 0, []⟩)) es = es := by
      show bks (List.drop j []) es = es
      rw [List.drop_nil]
      rfl
    rw [e]
    exact hf
  · rcases hj with e | e
    · rcases e with e | e | e | e
      · have e : j = w1.heap.size := e
        omega
      · exact (h.row.lt j e).1
      · cases e
      · cases e
    · exact e.1

set_option maxRecDepth 100000 in
set_option maxHeartbeats 3200000 in
theorem rfrom_any (es : List En) (al : Option Addr) (n cl : Nat) (w : World) (hn : es.length = n) (hE : IsE w (fun b => b < w.heap.size) es al cl) :
    Calls Tryz.prog 12 #[.slice al n cl] w fun e w' => RFrom w es e w' := by
  have hl := hE.len
  rw [hn] at hl
  obtain ⟨hcl, hnb, haln⟩ := hl
  have HE : Hid (∀ u, Below w.heap.size w u → IsE u (fun b => b < w.heap.size) es al cl) := hide (fun u hu => hE.later hu)
  have HN := hide hn
  clear hE hn
  go_enter Tryz.func12, Tryz.ntmps12
  go_wp2_with fail
  go_loopw [4] (fun x wr => ∃ (i : Nat) (ah : ByteArray), x = .int .i64 (i : Int) ∧ i ≤ n ∧ Hid (chkE ⟨#[]⟩ es = chkE ah (es.drop i) ∧ (i = 0 → ah = ⟨#[]⟩) ∧ (∀ j, i = j + 1 → ∃ v, es[j]? = some (ah, v)) ∧ Below w.heap.size w wr)) (fun x _ => n - (intOf x).toNat)
  case atStart => exact ⟨0, ⟨#[]⟩, rfl, Nat.zero_le _, hide ⟨rfl, (fun _ => rfl), (fun j e => by omega), Below.refl _ _⟩⟩
  case round =>
    obtain ⟨i, ah, rfl, hi, HR⟩ := hrel
    by_cases hlt : i < n
    · have i1 : (i : Int) < (n : Int) := by omega
      have i0 : (0 : Int) ≤ (i : Int) := by omega
      obtain ⟨⟨k, v⟩, hp⟩ : ∃ p, es[i]? = some p := ⟨_, List.getElem?_eq_getElem (by have := unhide HN; omega)⟩
      obtain ⟨a, z0, z1, z2, al', ak', ll', m', cl', ck', rfl, hbl, hks, hc, hpv⟩ := (unhide HE wr (unhide HR).2.2.2).elem i _ hp
      have hcd := (unhide HR).1
      rw [drop_next hp, chkE_cons] at hcd
      dsimp only at hcd hks hpv hc
      have HC : Hid (∀ u, Below wr.heap.size wr u → u.cell? (a.add (i * 6)) = some (.string k) ∧ u.cell? ⟨(a.add (i * 6)).block, (a.add (i * 6)).off + 1, none⟩ = some (.int .i64 z0) ∧ u.cell? ⟨(a.add (i * 6)).block, (a.add (i * 6)).off + 2, none⟩ = some (.int .i64 z1) ∧ u.cell? ⟨(a.add (i * 6)).block, (a.add (i * 6)).off + 3, none⟩ = some (.string z2) ∧ u.cell? ⟨(a.add (i * 6)).block, (a.add (i * 6)).off + 4, none⟩ = some (.slice al' ll' cl') ∧ u.cell? ⟨(a.add (i * 6)).block, (a.add (i * 6)).off + 5, none⟩ = some (.slice ak' m' ck')) := hide (fun u hu => by
        have hz := (unhide HR).2.2.2.size
        have hq : ∀ j v, [Value.string k, .int .i64 z0, .int .i64 z1, .string z2, .slice al' ll' cl', .slice ak' m' ck'][j]? = some v → u.cell? ((a.add (i * 6)).add j) = some v := fun j v hv => by
          have e : u.cell? ((a.add (i * 6)).add j) = wr.cell? ((a.add (i * 6)).add j) := World.cell?_of_block (by
            rw [block_add, block_add]
            exact hu.block _ (by omega))
          rw [e]
          exact hc j v hv
        exact ⟨hq 0 _ rfl, hq 1 _ rfl, hq 2 _ rfl, hq 3 _ rfl, hq 4 _ rfl, hq 5 _ rfl⟩)
      have CK := rkey_any k wr
      have CC := right_ref v _ w.heap.size wr hpv (unhide HR).2.2.2.size
      have HCC : Hid (∀ u, Below wr.heap.size wr u → Calls Tryz.prog 51 #[.agg #[.int .i64 z0, .int .i64 z1, .string z2, .slice al' ll' cl', .slice ak' m' ck']] u fun e w' => e = .returned (.bool (rightB v)) ∧ Below u.heap.size u w') := hide (fun u hu => right_ref v _ w.heap.size u (IsV.mono (hu.mono (unhide HR).2.2.2.size) hpv) (Nat.le_trans (unhide HR).2.2.2.size hu.size))
      have HPR : Hid (∀ j, i = j + 1 → wr.cell? (a.add (j * 6)) = some (.string ah)) := hide (fun j hj => by
        obtain ⟨v', hv'⟩ := (unhide HR).2.2.1 j hj
        obtain ⟨a', z0', z1', z2', al'', ak'', ll'', m'', cl'', ck'', ha', _, _, hc', _⟩ := (unhide HE wr (unhide HR).2.2.2).elem j _ hv'
        cases ha'
        exact hc' 0 _ rfl)
      have HP := hide hp
      have HCD := hide hcd
      obtain ⟨e0, -⟩ := unhide HC wr (Below.refl _ _)
      clear hc hpv hbl hks hp CC hcd
      cases hk : keyB k with
      | false =>
        rw [hk] at CK
        have CKH := hide CK
        have HF : Hid (fromR es = 60) := hide (by
          unfold fromR
          rw [unhide HCD, hk]
          simp)
        clear CK hk HCD HCC
        go_wp2_with fail
        refine (unhide CKH).mono ?_
        rintro e u1 ⟨rfl, hu1⟩
        obtain rfl := hu1.symm
        clear hu1 CKH
        go_upto_region 5 with fail
        go_quiet (fail)
        go_wp2_with fail
        go_ret2
        exact .inr ⟨by rw [unhide HF]; decide, by rw [unhide HF]; rfl, below_drewN (unhide HR).2.2.2 _⟩
      | true =>
        rw [hk] at CK
        have CKH := hide CK
        clear CK
        cases hb : bl ah k with
        | false =>
          have hip : ¬ i = 0 := fun e => by
            have e1 := (unhide HR).2.1 e
            rw [e1] at hb
            rcases kl_tri ⟨#[]⟩ k with e2 | e2 | e2
            · rw [e2] at hb
              cases hb
            · rw [← e2] at hk
              exact absurd hk (by decide)
            · have e3 : Op.bytesLess k.toList (⟨#[]⟩ : ByteArray).toList = true := e2
              have e4 : (⟨#[]⟩ : ByteArray).toList = [] := by rw [ByteArray.toList_eq]
              rw [e4] at e3
              cases hkk : k.toList with
              | nil => rw [hkk] at e3; simp [Op.bytesLess] at e3
              | cons x r => rw [hkk] at e3; simp [Op.bytesLess] at e3
          have HF : Hid (fromR es = 60) := hide (by
            unfold fromR
            rw [unhide HCD, hk, hb]
            simp)
          obtain ⟨j, rfl⟩ : ∃ j, i = j + 1 := ⟨i - 1, by omega⟩
          have d0 := unhide HPR j rfl
          have g0 : decide (((j + 1 : Nat) : Int) > 0) = true := decide_eq_true (by omega)
          have g1 : ((j + 1 : Nat) : Int) > 0 := by omega
          have g2 : IntKind.i64.wrap (((j + 1 : Nat) : Int) - 1) = (j : Int) := by rw [IntKind.wrap_i64]; omega
          have g3 : (j : Int) < (n : Int) := by omega
          have g4 : (0 : Int) ≤ (j : Int) := by omega
          have l1 : Op.bytesLess ah.toList k.toList = false := hb
          clear hb hk HCD HCC hip
          go_wp2_with fail
          refine (unhide CKH).mono ?_
          rintro e u1 ⟨rfl, hu1⟩
          obtain rfl := hu1.symm
          clear hu1 CKH
          go_upto_region 5 with fail
          go_quiet (fail)
          go_wp2_with fail
          go_ret2
          exact .inr ⟨by rw [unhide HF]; decide, by rw [unhide HF]; rfl, below_drewN (unhide HR).2.2.2 _⟩
        | true =>
          have l1 : Op.bytesLess ah.toList k.toList = true := hb
          have HNX : Hid (rightB v = true → chkE ⟨#[]⟩ es = chkE k (es.drop (i + 1)) ∧ ∀ j, i + 1 = j + 1 → ∃ v, es[j]? = some (k, v)) := hide (fun hr => ⟨by rw [unhide HCD, if_pos ⟨hk, hb⟩, if_pos hr], fun j hj => by
            obtain rfl : i = j := by omega
            exact ⟨v, unhide HP⟩⟩)
          have HF : Hid (rightB v = false → fromR es = 61) := hide (fun hr => by
            unfold fromR
            rw [unhide HCD, hk, hb, hr]
            simp)
          have HI1 : Hid (i + 1 ≤ n) := hide hlt
          by_cases hi0 : i = 0
          · have g5 : decide (0 < i) = false := decide_eq_false (by omega)
            clear hb hk HCD hi0 l1 HPR
            go_wp2_with fail
            refine (unhide CKH).mono ?_
            rintro e u1 ⟨rfl, hu1⟩
            obtain rfl := hu1.symm
            clear hu1 CKH
            go_upto_region 5 with fail
            go_quiet (fail)
            have bq : Below wr.heap.size wr (wr.drewN nq) := below_drewN (Below.refl _ _) nq
            obtain ⟨U, hU⟩ : ∃ U, wr.drewN nq = U := ⟨_, rfl⟩
            rw [hU] at bq ⊢
            obtain ⟨q0, q1, q2, q3, q4, q5⟩ := unhide HC U bq
            have CR := unhide HCC U bq
            have HBQ := hide ((unhide HR).2.2.2.trans (bq.mono (unhide HR).2.2.2.size))
            clear bq hU e0
            cases hr : rightB v with
            | false =>
              rw [hr] at CR
              have CRH := hide CR
              have HFF := hide (unhide HF hr)
              clear CR hr HF HNX
              go_wp2_with fail
              refine (unhide CRH).mono ?_
              rintro e u2 ⟨rfl, b2⟩
              have HB := hide ((unhide HBQ).trans (b2.mono (unhide HBQ).size))
              clear b2 CRH
              go_wp2_with fail
              go_ret2
              exact .inr ⟨by rw [unhide HFF]; decide, by rw [unhide HFF]; rfl, unhide HB⟩
            | true =>
              rw [hr] at CR
              have CRH := hide CR
              have HNN := hide (unhide HNX hr)
              clear CR hr HF HNX
              go_wp2_with fail
              refine (unhide CRH).mono ?_
              rintro e u2 ⟨rfl, b2⟩
              have HB := hide ((unhide HBQ).trans (b2.mono (unhide HBQ).size))
              clear b2 CRH
              go_wp2_with fail
              go_roundw
              case rel => exact ⟨i + 1, k, by go_num, unhide HI1, hide ⟨(unhide HNN).1, (fun e => by omega), (unhide HNN).2, unhide HB⟩⟩
              case measure => have := unhide HI1; simp [intOf]; omega
          · obtain ⟨j, rfl⟩ : ∃ j, i = j + 1 := ⟨i - 1, by omega⟩
            have d0 := unhide HPR j rfl
            have g0 : decide (((j + 1 : Nat) : Int) > 0) = true := decide_eq_true (by omega)
            have g1 : ((j + 1 : Nat) : Int) > 0 := by omega
            have g2 : IntKind.i64.wrap (((j + 1 : Nat) : Int) - 1) = (j : Int) := by rw [IntKind.wrap_i64]; omega
            have g3 : (j : Int) < (n : Int) := by omega
            have g4 : (0 : Int) ≤ (j : Int) := by omega
            clear hb hk HCD hi0 HPR
            go_wp2_with fail
            refine (unhide CKH).mono ?_
            rintro e u1 ⟨rfl, hu1⟩
            obtain rfl := hu1.symm
            clear hu1 CKH
            go_upto_region 5 with fail
            go_quiet (fail)
            have bq : Below wr.heap.size wr (wr.drewN nq) := below_drewN (Below.refl _ _) nq
            obtain ⟨U, hU⟩ : ∃ U, wr.drewN nq = U := ⟨_, rfl⟩
            rw [hU] at bq ⊢
            obtain ⟨q0, q1, q2, q3, q4, q5⟩ := unhide HC U bq
            have CR := unhide HCC U bq
            have HBQ := hide ((unhide HR).2.2.2.trans (bq.mono (unhide HR).2.2.2.size))
            clear bq hU e0
            cases hr : rightB v with
            | false =>
              rw [hr] at CR
              have CRH := hide CR
              have HFF := hide (unhide HF hr)
              clear CR hr HF HNX
              go_wp2_with fail
              refine (unhide CRH).mono ?_
              rintro e u2 ⟨rfl, b2⟩
              have HB := hide ((unhide HBQ).trans (b2.mono (unhide HBQ).size))
              clear b2 CRH
              go_wp2_with fail
              go_ret2
              exact .inr ⟨by rw [unhide HFF]; decide, by rw [unhide HFF]; rfl, unhide HB⟩
            | true =>
              rw [hr] at CR
              have CRH := hide CR
              have HNN := hide (unhide HNX hr)
              clear CR hr HF HNX
              go_wp2_with fail
              refine (unhide CRH).mono ?_
              rintro e u2 ⟨rfl, b2⟩
              have HB := hide ((unhide HBQ).trans (b2.mono (unhide HBQ).size))
              clear b2 CRH
              go_wp2_with fail
              go_roundw
              case rel => exact ⟨(j + 1) + 1, k, by go_num, unhide HI1, hide ⟨(unhide HNN).1, (fun e => by omega), (unhide HNN).2, unhide HB⟩⟩
              case measure => have := unhide HI1; simp [intOf]; omega
    · have i1 : ¬ (i : Int) < (n : Int) := by omega
      have hc0 : chkE ⟨#[]⟩ es = 0 := by
        rw [(unhide HR).1, List.drop_of_length_le (by have := unhide HN; omega)]
        rfl
      have HFR := hide (fromR_is es hc0)
      have HFX : Hid (es.length ≤ 128 → tot es ≤ 32768 → FinX es) := hide (fun h1 h2 => ⟨(chk_rk es _ hc0).1, h1, h2, fun p hp => (chk_ok es _ hc0 p hp).1, fun p hp => (chk_ok es _ hc0 p hp).2⟩)
      have hk32 : ∀ p ∈ es, p.1.size ≤ 32 := fun p hp => ((keyB_iff p.1).1 (chk_ok es _ hc0 p hp).1).2
      have hzr := (unhide HR).2.2.2.size
      have CW := hide (rweight_any es al n cl wr (unhide HN) ((unhide HE wr (unhide HR).2.2.2).to (fun _ _ => rfl) (fun b hb => by omega)) hk32)
      have HCP : Hid (∀ u, Below wr.heap.size wr u → Calls Tryz.prog 53 #[.slice al n cl] u fun e w' => ∃ sv xs, e = .returned sv ∧ mapK Prod.snd xs = es ∧ EnO w' u.heap.size sv xs ∧ Below u.heap.size u w') := hide (fun u hu => rcopied_any es al n cl u (unhide HN) ((unhide HE u ((unhide HR).2.2.2.trans (hu.mono hzr))).to (fun _ _ => rfl) (fun b hb => by have := hu.size; omega)) (fun p hp => (chk_ok es _ hc0 p hp).2))
      have HBW := hide (unhide HR).2.2.2
      clear hc0 hk32 hzr HR HE
      go_wp2_with fail
      refine (unhide CW).mono ?_
      rintro e u1 ⟨W, rfl, hW, b1⟩
      have hfit : decide (tot es ≤ 32768) = decide (W ≤ 32768) := by
        apply decide_eq_decide.2
        have h1 := hW.1
        have h2 := hW.2.1
        constructor
        · intro a
          exact Nat.le_of_not_lt (fun b => by have := h2 b; omega)
        · intro a
          rw [← h1 a]
          exact a
      have HRR : Hid (fromR es = if (decide (n ≤ 128) && decide (W ≤ 32768)) = true then 0 else 62) := hide (by rw [unhide HFR, hfit, unhide HN])
      have HW1 : Hid (W ≤ 32768 → tot es ≤ 32768) := hide (fun h => of_decide_eq_true (by rw [hfit]; exact decide_eq_true h))
      have H1 := hide b1
      have hWb := hW.2.2
      clear hW hfit b1 CW
      by_cases t1 : n ≤ 128
      · by_cases t2 : W ≤ 32768
        · have HF : Hid (fromR es = 0) := hide (by rw [unhide HRR, decide_eq_true t1, decide_eq_true t2]; rfl)
          have HFN := hide (unhide HFX (by rw [unhide HN]; exact t1) (unhide HW1 t2))
          have CP := hide (unhide HCP u1 (unhide H1))
          clear HCP HFX HW1 HRR
          go_wp2_with fail
          refine (unhide CP).mono ?_
          rintro e u2 ⟨sv, xs, rfl, he, hen, b2⟩
          obtain ⟨ao, cap, hsv, -⟩ := own_slice hen.row
          subst hsv
          obtain ⟨w2, hw2⟩ : ∃ w2, u2.alloc (.cells #[.slice ao xs.length cap, .slice none 0 0, .slice none 0 0] 56) = w2 := ⟨_, rfl⟩
          have HT := rtt_of hen he (unhide HFN) hw2 b2.size
          have hz1 := (unhide H1).size
          have hzb := (unhide HBW).size
          have B2 : Below w.heap.size w w2 := (unhide HBW).trans (((unhide H1).mono hzb).trans ((b2.mono (by omega)).trans (by rw [← hw2]; exact (Below.refl _ _).alloc (by have := b2.size; omega) _)))
          have HTT : Hid (∃ (t : Rx) (V : Nat → Prop), t.r = u2.heap.size ∧ Rtt w2 V t es [] 0 ∧ (∀ j, t.own j ∨ V j → w.heap.size ≤ j) ∧ Below w.heap.size w w2) := hide (by
            obtain ⟨t, V, h1, h2, h3⟩ := HT
            exact ⟨t, V, h1, h2, fun j hj => by have := h3 j hj; omega, B2⟩)
          obtain ⟨nx, hnx⟩ : ∃ nx, xs.length = nx := ⟨_, rfl⟩
          rw [hnx] at hw2 ⊢
          obtain ⟨P, hP⟩ : ∃ P, u2.heap.size = P := ⟨_, rfl⟩
          rw [hP] at HTT
          clear HT B2 hen he b2 CP hz1 hzb hnx
          go_wp2_with fail
          go_ret2
          obtain ⟨t, V, h1, h2, h3, h4⟩ := unhide HTT
          refine .inl ⟨unhide HF, t, V, ?_, h2, h3, h4⟩
          rw [h1]
          rfl
        · have HF : Hid (fromR es = 62) := hide (by rw [unhide HRR, decide_eq_false t2, Bool.and_false]; rfl)
          have HB := hide ((unhide HBW).trans ((unhide H1).mono (unhide HBW).size))
          clear HCP HFX HW1 HRR
          go_wp2_with fail
          go_ret2
          exact .inr ⟨by rw [unhide HF]; decide, by rw [unhide HF]; rfl, unhide HB⟩
      · have HF : Hid (fromR es = 62) := hide (by rw [unhide HRR, decide_eq_false t1, Bool.false_and]; rfl)
        have HB := hide ((unhide HBW).trans ((unhide H1).mono (unhide HBW).size))
        clear HCP HFX HW1 HRR
        by_cases t2 : W ≤ 32768
        · go_wp2_with fail
          go_ret2
          exact .inr ⟨by rw [unhide HF]; decide, by rw [unhide HF]; rfl, unhide HB⟩
        · go_wp2_with fail
          go_ret2
          exact .inr ⟨by rw [unhide HF]; decide, by rw [unhide HF]; rfl, unhide HB⟩
end Go.Proofs.YtdaooapfokhfcaaGreat

namespace Go.Proofs.YtdaooapfokhfcaaGreat
open Go.RowKit
set_option linter.unusedVariables false
set_option linter.unusedSimpArgs false

theorem nil_isE (w : World) : IsE w (fun b => b < w.heap.size) [] none 0 := by
  obtain ⟨al, cl, e, h⟩ := row_isE (w := w) (V := fun _ => False) (lo := 0) (v := .slice none 0 0) (lx := []) (World.ownsRow_nil _ _ _ _) (fun p hp => by cases hp) (fun j hj => hj.elim) (by simp) (fun p hp => by cases hp)
  cases e
  exact h

/-- both, made of the same entries -/
theorem duo_from {w w1 w2 w3 : World} {s n : Nat} {X : Xs} {t2 : Rx} {V2 : Nat → Prop} (L2 : Live w1 w2 s X []) (h3 : Rtt w3 V2 t2 X [] 0) (ho : ∀ j, t2.own j ∨ V2 j → w2.heap.size ≤ j) (b3 : Below w2.heap.size w2 w3) : Duo w3 (fun j => j < w1.heap.size) w3 s X [] t2.r X [] 0 := by
  obtain ⟨V, t, h1, hs, h3', h4⟩ := L2
  have z1 := h4.size
  have z2 := b3.size
  refine ⟨V, t, V2, t2, h1, rfl, hs.later b3, h3, fun j hj => ⟨fun e => ?_, fun e => ?_⟩, fun j hj e => ?_, fun j hj => ⟨by omega, fun e => ?_, fun e => ?_, fun e => ?_, fun e => ?_⟩, Fr.refl _ _⟩
  · have := hs.sto.lt hj
    have := ho j (.inl e)
    omega
  · have := hs.sto.lt hj
    have := ho j (.inr e)
    omega
  · have := ho j (.inl hj)
    have := (hs.sto.vs j e).1
    omega
  · have := h3' j (.inl e)
    omega
  · have := h3' j (.inr e)
    omega
  · have := ho j (.inl e)
    omega
  · have := ho j (.inr e)
    omega

theorem Duo.wipeF {wk w w' : World} {K Q : Nat → Prop} {s r : Nat} {X Y : Xs} {Bs Cs : List Xs} {N : Nat} (h : Duo wk K w s X Bs r Y Cs N) (hf : Fr Q w w') (hQ : ∀ j, Q j → K j) : Duo w' (fun j => K j ∧ ¬ Q j) w' s X Bs r Y Cs N := by
  obtain ⟨V, t, V2, t2, e1, e2, h1, h2, h3, h4, h5, h6⟩ := h
  refine ⟨V, t, V2, t2, e1, e2, h1.other hf (fun j hj => (h5 j (hQ j hj)).2.1) (fun j hj => (h5 j (hQ j hj)).2.2.1), h2.other hf (fun j hj => (h5 j (hQ j hj)).2.2.2.1) (fun j hj => (h5 j (hQ j hj)).2.2.2.2), h3, h4, fun j hj => ⟨?_, (h5 j hj.1).2⟩, Fr.refl _ _⟩
  have := (h5 j hj.1).1
  have := h6.size
  have := hf.size
  omega

set_option maxRecDepth 100000 in
set_option maxHeartbeats 4000000 in
theorem froms_any (es : List En) (os : List Opx) (al : Option Addr) (ao : Option Addr) (n cl no cap : Nat) (w : World) (hn : es.length = n) (hE : IsE w (fun b => b < w.heap.size) es al cl) (ho : OpsF w w.heap.size ao no os) (hnb : no ≤ 1353245080315) :
    Calls Tryz.prog 4 #[.slice al n cl, .slice ao no cap] w fun e w' => e = .returned (.bool true) ∧ Below w.heap.size w w' := by
  have hb96 : 96 * n ≤ 140737488351232 := by
    obtain ⟨V, hV⟩ := hE
    have := hV.bl
    omega
  have hkeys : ∀ p ∈ es, p.1.size ≤ 140737488351232 := by
    obtain ⟨V, hV⟩ := hE
    exact hV.bt
  have HO : Hid (∀ u, Below w.heap.size w u → OpsF u w.heap.size ao no os) := hide (fun u hu => ho.later hu)
  have HNO := hide ho.length
  have HE : Hid (∀ u, Below w.heap.size w u → IsE u (fun b => b < w.heap.size) es al cl) := hide (fun u hu => hE.later hu)
  -- the copies, and From of them
  have C1 : Hid (Calls Tryz.prog 10 #[.slice al n cl] w fun e w1 => ∃ am cm, e = .returned (.slice am n cm) ∧ Hid (Below w.heap.size w w1 ∧ IsE w1 (fun b => b < w1.heap.size) es am cm ∧ ∃ xs, xs.length = n ∧ EnC w1 w.heap.size w.heap.size (.slice am n cm) xs)) := hide ((copies_any es al n cl w hn hE).mono (by
    rintro e w1 ⟨sv, xs, rfl, he, hen, b1⟩
    have hlx : xs.length = n := by rw [← hn, ← he, mapK_len]
    obtain ⟨am, cm, hsv, hE1⟩ := hen.isE (by rw [hlx]; exact hb96) (fun p hp => hkeys (p.1, p.2.2) (by rw [← he]; exact List.mem_map.2 ⟨p, hp, rfl⟩))
    rw [he] at hE1
    rw [hlx] at hsv
    subst hsv
    exact ⟨am, cm, rfl, hide ⟨b1, hE1.to (fun _ _ => rfl) (fun b hb => by
      have := b1.size
      rcases hb with e | e
      · omega
      · exact e.2), xs, hlx, hen⟩⟩))
  have HN := hide hn
  clear hE ho hn hkeys
  go_enter Tryz.func4, Tryz.ntmps4
  go_wp2_with fail
  refine (unhide C1).mono ?_
  rintro e w1 ⟨am, cm, rfl, H1⟩
  clear C1
  have C2 := hide (from_any es am n cm w1 (unhide HN) (unhide H1).2.1)
  go_wp2_with fail
  refine (unhide C2).mono ?_
  rintro e w2 hp2
  clear C2
  -- what is the same in both ways
  have SAM : Hid (∀ w3, Below w1.heap.size w1 w3 → Calls Tryz.prog 13 #[.slice am n cm, .slice al n cl] w3 fun e w4 => e = .returned (.bool true) ∧ Below w3.heap.size w3 w4) := hide (fun w3 b => by
    have z1 := (unhide H1).1.size
    have z3 := b.size
    refine (sameEn_any es es am al n n cm cl w3.heap.size w3 (unhide HN) (unhide HN) ((unhide H1).2.1.to (fun j hj => b.block j hj) (fun j hj => by omega)) ((unhide HE w3 ((unhide H1).1.trans (b.mono z1))).to (fun _ _ => rfl) (fun j hj => by omega)) (Nat.le_refl _)).mono ?_
    rintro e w4 ⟨q, rfl, hq, bb⟩
    rw [hq.2 (smP_refl es)]
    exact ⟨rfl, bb⟩)
  have OVR : Hid (∀ w4, Below w1.heap.size w1 w4 → Calls Tryz.prog 14 #[.slice am n cm, .string ⟨#[102]⟩] w4 fun e w5 => (∃ r, e = .returned r) ∧ Fr (fun b => w.heap.size ≤ b ∧ b < w1.heap.size) w4 w5) := hide (fun w4 b => by
    obtain ⟨xs, hlx, hen⟩ := (unhide H1).2.2
    exact overC_any hen (Nat.le_refl _) b (unhide H1).1.size (by rw [hlx]; exact hb96) ⟨#[102]⟩)
  have EMP : Hid (∀ w5, Calls Tryz.prog 11 #[.slice none 0 0] w5 fun e w6 => ∃ s2, e = .returned (.tuple #[.pointer (some ⟨s2, 0, none⟩), .int .i64 0]) ∧ Hid (Live w5 w6 s2 [] [])) := hide (fun w5 => (from_any [] none 0 0 w5 rfl (nil_isE w5)).mono (by
    rintro e w6 (⟨_, s2, rfl, L⟩ | ⟨h0, _⟩)
    · exact ⟨s2, rfl, hide L⟩
    · exact absurd (by rfl) h0))
  have HPK : Hid (∀ (w5 w6 : World) (s2 : Nat), Live w5 w6 s2 [] [] → Calls Tryz.prog 9 #[.pointer (some ⟨s2, 0, none⟩), .string ⟨#[107]⟩, .agg #[.int .i64 0, .int .i64 0, .string ⟨#[]⟩, .slice none 0 0, .slice none 0 0]] w6 fun e w7 => e = .returned (.int .i64 0) ∧ Below w5.heap.size w5 w7) := hide (fun w5 w6 s2 L => by
    have CP := live_put (P := fun _ => False) L ⟨#[107]⟩ vz _ (isP_flat w6 _ 0 0 ⟨#[]⟩ (by omega) (by omega) (by decide)) (fun j h => h.elim)
    have hE : putE [] ⟨#[107]⟩ vz = 0 := (put_first (by decide) vz_right).1
    rw [hE] at CP
    refine CP.mono ?_
    rintro e w7 ⟨rfl, L7⟩
    exact ⟨rfl, L7.below⟩)
  have HLN : Hid (∀ (w5 w6 : World) (s2 : Nat), Live w5 w6 s2 [] [] → Calls Tryz.prog 15 #[.pointer (some ⟨s2, 0, none⟩)] w6 fun e w7 => e = .returned (.int .i64 0) ∧ w7 = w6) := hide (fun w5 w6 s2 L => live_len L)
  rcases hp2 with ⟨h0, s, rfl, L2⟩ | ⟨h0, rfl, b2⟩
  · have H2 := hide L2
    have C3 : Hid (Calls Tryz.prog 12 #[.slice al n cl] w2 fun e w3 => ∃ r, e = .returned (.tuple #[.pointer (some ⟨r, 0, none⟩), .int .i64 0]) ∧ Hid (Below w1.heap.size w1 w3 ∧ Duo w3 (fun j => j < w1.heap.size) w3 s es [] r es [] 0)) := hide ((rfrom_any es al n cl w2 (unhide HN) ((unhide HE w2 ((unhide H1).1.trans (L2.below.mono (unhide H1).1.size))).to (fun _ _ => rfl) (fun j hj => by have := (unhide H1).1.size; have := L2.below.size; omega))).mono (by
      rintro e w3 (⟨_, t2, V2, rfl, R3, o3, b3⟩ | ⟨h9, _⟩)
      · exact ⟨t2.r, rfl, hide ⟨L2.below.trans (b3.mono L2.below.size), duo_from (w := w) (n := n) L2 R3 o3 b3⟩⟩
      · exact absurd h0 h9))
    clear L2 h0 H2
    go_wp2_with fail
    refine (unhide C3).mono ?_
    rintro e w3 ⟨r, rfl, H3⟩
    clear C3
    have CS := hide (unhide SAM w3 (unhide H3).1)
    clear SAM
    go_wp2_with fail
    refine (unhide CS).mono ?_
    rintro e w4 ⟨rfl, b4⟩
    have H4 : Hid (Below w1.heap.size w1 w4 ∧ Duo w3 (fun j => j < w1.heap.size) w4 s es [] r es [] 0) := hide ⟨(unhide H3).1.trans (b4.mono (unhide H3).1.size), (unhide H3).2.later b4⟩
    have CO := hide (unhide OVR w4 (unhide H4).1)
    clear b4 CS H3 OVR
    go_wp2_with fail
    refine (unhide CO).mono ?_
    rintro e w5 ⟨⟨rv, rfl⟩, hfr⟩
    have z1 := (unhide H1).1.size
    have z4 := (unhide H4).1.size
    have z5 := hfr.size
    have H5 : Hid (Below w.heap.size w w5 ∧ Duo w5 (fun j => j < w.heap.size) w5 s es [] r es [] 0) := hide ⟨((unhide H1).1.trans ((unhide H4).1.mono z1)).trans (hfr.below (by omega) (fun j hj => hj.1)), ((unhide H4).2.wipeF hfr (fun j hj => hj.2)).back (Fr.refl _ _) (fun j hj => ⟨by omega, by omega, fun e => by have := e.1; omega⟩)⟩
    clear hfr z1 z4 z5 CO H4 H1
    have CE := hide (unhide EMP w5)
    go_wp2_with fail
    refine (unhide CE).mono ?_
    rintro e w6 ⟨s2, rfl, L6⟩
    clear CE EMP
    have CL := hide (unhide HLN w5 w6 s2 (unhide L6))
    go_wp2_with fail
    refine (unhide CL).mono ?_
    rintro e u6 ⟨rfl, hu6⟩
    obtain rfl := hu6.symm
    clear hu6 CL
    have CP := hide (unhide HPK w5 w6 s2 (unhide L6))
    go_wp2_with fail
    refine (unhide CP).mono ?_
    rintro e w7 ⟨rfl, b7⟩
    have H7 := hide ((unhide H5).2.later b7)
    clear b7 CP L6 HLN HPK
    have HELD : Hid (∀ (wr : World) (X : Xs) (Bs : List Xs) (M : Nat), M ≤ 1353245080318 → Duo w5 (fun j => j < w.heap.size) wr s X Bs r X Bs M → Calls Tryz.prog 8 #[.pointer (some ⟨s, 0, none⟩), .pointer (some ⟨r, 0, none⟩), .agg #[.int .i64 7, .string ⟨#[]⟩, .int .i64 0, .int .i64 0, .string ⟨#[]⟩, .slice none 0 0, .slice none 0 0]] wr fun e w' => e = .returned (.bool true) ∧ ∃ X' Bs', Duo w5 (fun j => j < w.heap.size) w' s X' Bs' r X' Bs' (M + 1)) := hide (fun wr X Bs M hM d => held_any (P := fun _ => False) d hM 7 ⟨#[]⟩ vz 0 0 ⟨#[]⟩ none 0 0 none 0 0 ⟨by omega, by omega⟩ (isP_flat wr _ 0 0 ⟨#[]⟩ (by omega) (by omega) (by decide)) (fun j h => h.elim))
    have CH := hide (unhide HELD w7 _ _ 0 (by omega) (unhide H7))
    go_wp2_with fail
    refine (unhide CH).mono ?_
    rintro e w8 ⟨rfl, X8, Bs8, D8⟩
    have H8 := hide D8
    clear D8 CH H7
    go_wp2_with fail
    go_loopw [10, 13] (fun y x wr => ∃ (i : Nat) (X : Xs) (Bs : List Xs), y = .bool true ∧ x = .int .i64 (i : Int) ∧ i ≤ no ∧ Hid (Duo w5 (fun j => j < w.heap.size) wr s X Bs r X Bs (i + 1))) (fun _ x _ => no - (intOf x).toNat)
    case atStart => exact ⟨0, _, _, rfl, rfl, Nat.zero_le _, H8⟩
    case round =>
      obtain ⟨i, X, Bs, rfl, rfl, hi, HT⟩ := hrel
      clear H8
      have HW : Hid (Below w.heap.size w wr) := hide ((unhide H5).1.trans ((unhide HT).below (unhide H5).1.size))
      by_cases hlt : i < no
      · have i1 : (i : Int) < (no : Int) := by omega
        obtain ⟨q, hq⟩ : ∃ q, os[i]? = some q := ⟨_, List.getElem?_eq_getElem (by have := unhide HNO; omega)⟩
        obtain ⟨a, b, off, x0, x1, x2, x3, x4, x5, x6, x7, x8, rfl, p⟩ := (unhide HO wr (unhide HW)).cell i q hq
        have CD := hide (held_any (unhide HT) (by omega) q.kd q.key q.v x0 x1 x2 x3 x4 x5 x6 x7 x8 p.bk p.is (fun j h => h))
        have e0 := p.at'
        obtain ⟨kd, key, qv⟩ := q
        have e1 := p.k
        have e2 := p.s
        have e3 := p.c0
        have e4 := p.c1
        have e5 := p.c2
        have e6 := p.c3
        have e7 := p.c4
        dsimp only at CD e1 e2
        clear p hq
        go_wp2_with fail
        refine (unhide CD).mono ?_
        rintro e w9 ⟨rfl, X', Bs', T9⟩
        have H9 := hide T9
        clear T9 CD e0 e1 e2 e3 e4 e5 e6 e7
        have HI1 : Hid (i + 1 ≤ no) := hide (by omega)
        go_wp2_with fail
        go_roundw
        case rel => exact ⟨i + 1, X', Bs', rfl, by go_num, unhide HI1, H9⟩
        case measure => have := unhide HI1; simp [intOf]; omega
      · have i1 : ¬ (i : Int) < (no : Int) := by omega
        have CZ := hide (unhide HELD wr X Bs (i + 1) (by omega) (unhide HT))
        go_wp2_with fail
        refine (unhide CZ).mono ?_
        rintro e w9 ⟨rfl, X', Bs', T9⟩
        have H9 : Hid (Below w.heap.size w w9) := hide ((unhide H5).1.trans (T9.below (unhide H5).1.size))
        clear T9 CZ
        go_wp2_with fail
        go_ret
        exact ⟨rfl, unhide H9⟩
  · obtain ⟨E, hEE⟩ : ∃ E, fromR es = E := ⟨_, rfl⟩
    have C3 : Hid (Calls Tryz.prog 12 #[.slice al n cl] w2 fun e w3 => e = .returned (.tuple #[.pointer none, .int .i64 E]) ∧ Hid (Below w1.heap.size w1 w3)) := hide ((rfrom_any es al n cl w2 (unhide HN) ((unhide HE w2 ((unhide H1).1.trans (b2.mono (unhide H1).1.size))).to (fun _ _ => rfl) (fun j hj => by have := (unhide H1).1.size; have := b2.size; omega))).mono (by
      rintro e w3 (⟨h9, _⟩ | ⟨_, rfl, b3⟩)
      · exact absurd h9 h0
      · exact ⟨by rw [hEE], hide (b2.trans (b3.mono b2.size))⟩))
    rw [hEE] at h0 ⊢
    have k0 : (E == 0) = false := by simpa using h0
    have k1 : (E != 0) = true := by simp [h0]
    clear b2 hEE
    go_wp2_with fail
    refine (unhide C3).mono ?_
    rintro e w3 ⟨rfl, H3⟩
    clear C3
    have CS := hide (unhide SAM w3 (unhide H3))
    clear SAM
    go_wp2_with fail
    refine (unhide CS).mono ?_
    rintro e w4 ⟨rfl, b4⟩
    have H4 : Hid (Below w1.heap.size w1 w4) := hide ((unhide H3).trans (b4.mono (unhide H3).size))
    have CO := hide (unhide OVR w4 (unhide H4))
    clear b4 CS H3 OVR
    go_wp2_with fail
    refine (unhide CO).mono ?_
    rintro e w5 ⟨⟨rv, rfl⟩, hfr⟩
    have z1 := (unhide H1).1.size
    have z4 := (unhide H4).size
    have H5 : Hid (Below w.heap.size w w5) := hide (((unhide H1).1.trans ((unhide H4).mono z1)).trans (hfr.below (by omega) (fun j hj => hj.1)))
    clear hfr z1 z4 CO H4 H1
    have CE := hide (unhide EMP w5)
    go_wp2_with fail
    refine (unhide CE).mono ?_
    rintro e w6 ⟨s2, rfl, L6⟩
    clear CE EMP
    have CL := hide (unhide HLN w5 w6 s2 (unhide L6))
    go_wp2_with fail
    refine (unhide CL).mono ?_
    rintro e u6 ⟨rfl, hu6⟩
    obtain rfl := hu6.symm
    clear hu6 CL
    have CP := hide (unhide HPK w5 w6 s2 (unhide L6))
    go_wp2_with fail
    refine (unhide CP).mono ?_
    rintro e w7 ⟨rfl, b7⟩
    have H7 := hide ((unhide H5).trans (b7.mono (unhide H5).size))
    clear b7 CP L6 HLN HPK
    go_wp2_with fail
    go_ret
    exact ⟨rfl, unhide H7⟩
end Go.Proofs.YtdaooapfokhfcaaGreat
