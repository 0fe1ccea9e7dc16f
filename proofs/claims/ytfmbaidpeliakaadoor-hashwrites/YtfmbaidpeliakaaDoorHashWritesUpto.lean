/-
  Every answer of several Hashes, New, Write, Sum and Copy in any order, is the document's (the card HashWritesUptoCardSaid); the listed variables start and roundWords as the program's text lays them; condition: the operations hold together at most 2^20 values and letters.
-/
import Derived.Test.YtfmbaidpeliakaaDoorHWalk
import Derived.Test.YtfmbaidpeliakaaDoorDoorLaid
import Derived.Test.YtfmbaidpeliakaaDoorTie
import Derived.Test.YtfmbaidpeliakaaDoorCards
import Derived.ShutString
import Derived.ChangeOld
import Derived.Below
import Derived.SizedLaws
import Derived.JoinedCond
import Derived.Deep.Slices
import Derived.SevenTiedAt
namespace Go.Proofs.YtfmbaidpeliakaaDoor.hashWrites
open Go.ChangeShapes Go.WideShapes Go.ChangeAt Go.RowKit
open Go.ChangeMaps (open_string shut_string)
set_option linter.unusedVariables false

theorem bulk_pos {H : Type} (d : DataW H) : 1 ≤ Rows.uptoBulk d := by
  cases d with
  | lit l => cases l <;> simp [Rows.uptoBulk]
  | _ => simp [Rows.uptoBulk]

theorem bulk_len {H : Type} (l : List (DataW H)) : l.length ≤ Rows.uptoBulkAll l := by
  induction l with
  | nil => simp [Rows.uptoBulkAll]
  | cons d r ih =>
    have h := bulk_pos d
    rw [Rows.uptoBulkAll, List.length_cons]
    omega

theorem bulk_sum {H : Type} (l : List (DataW H)) : ∀ (ops : List Opn), l.length = ops.length → (∀ (i : Nat) (d : DataW H) (o : Opn), l[i]? = some d → ops[i]? = some o → o.2.2.size ≤ Rows.uptoBulk d) → sumS ops ≤ Rows.uptoBulkAll l := by
  induction l with
  | nil =>
    intro ops hl _
    have : ops = [] := List.eq_nil_of_length_eq_zero (by simpa using hl.symm)
    subst this
    simp [sumS]
  | cons d r ih =>
    intro ops hl h
    cases ops with
    | nil => simp at hl
    | cons o ops =>
      have h0 := h 0 d o rfl rfl
      have h1 := ih ops (by simpa using hl) (fun i d' o' hd ho => h (i + 1) d' o' (by simpa using hd) (by simpa using ho))
      rw [Rows.uptoBulkAll, sumS]
      omega

section
variable {H : Type} {enc : TypeId × Value → H} {W : World}

set_option maxRecDepth 100000 in
theorem open_op {fuel : Nat} {cs : List Value} {x : DataW H × List MemPlace} (h : DataW.trod enc Tryd.prog W 0 (fun _ => true) true fuel 35 cs = some x) :
    ∃ (o : Opn), cs = [.int .i64 o.1, .int .i64 o.2.1, .string o.2.2] ∧ ((-9223372036854775808 ≤ o.1 ∧ o.1 ≤ 9223372036854775807) ∧ (-9223372036854775808 ≤ o.2.1 ∧ o.2.1 ≤ 9223372036854775807)) ∧ o.2.2.size ≤ Rows.uptoBulk x.1 := by
  obtain ⟨xs, n, rfl, hx, hl, hlen, hf⟩ := DataW.trod_struct Tryd.underlying35 h
  rw [show Tryd.prog.cellsOf 35 = 3 by kernel_rfl] at hl
  have hlen' : xs.length = 3 := hlen
  match cs, hl, xs, hlen', hx, hf with
  | [c0, c1, c2], _, [y0, y1, y2], _, hx, hf =>
    have h0 : DataW.trod enc Tryd.prog W 0 (fun _ => true) true n 3 (([c0, c1, c2].drop 0).take (Tryd.prog.cellsOf 3)) = some y0 := hf 0 _ rfl
    rw [show Tryd.prog.cellsOf 3 = 1 by kernel_rfl] at h0
    have h1 : DataW.trod enc Tryd.prog W 0 (fun _ => true) true n 3 (([c0, c1, c2].drop 1).take (Tryd.prog.cellsOf 3)) = some y1 := hf 1 _ rfl
    rw [show Tryd.prog.cellsOf 3 = 1 by kernel_rfl] at h1
    have h2 : DataW.trod enc Tryd.prog W 0 (fun _ => true) true n 9 (([c0, c1, c2].drop 2).take (Tryd.prog.cellsOf 9)) = some y2 := hf 2 _ rfl
    rw [show Tryd.prog.cellsOf 9 = 1 by kernel_rfl] at h2
    have hx' : x.1 = .agg [y0.1, y1.1, y2.1] := by rw [hx]; rfl
    obtain ⟨k, e0, _, w0⟩ := DataW.trod_int Tryd.underlying3 h0
    obtain ⟨m, e1, _, w1⟩ := DataW.trod_int Tryd.underlying3 h1
    obtain ⟨s, e2, hy2, _⟩ := DataW.trod_string Tryd.underlying9 h2
    simp only [List.drop_zero, List.drop_succ_cons, List.take_succ_cons, List.take_zero, List.cons.injEq, and_true] at e0 e1 e2
    refine ⟨(k, m, s), by rw [e0, e1, e2], ⟨bounds_i64 w0, bounds_i64 w1⟩, ?_⟩
    rw [hx', hy2]
    simp only [Rows.uptoBulk, Rows.uptoBulkAll, Array.length_toList]
    have e : s.data.size = s.size := rfl
    omega

set_option maxRecDepth 100000 in
theorem open_ops {fuel : Nat} {c3 : Value} {x : DataW H × List MemPlace} (h3 : DataW.trod enc Tryd.prog W 0 (fun _ => true) true fuel 22 [c3] = some x) (hb : Rows.uptoBulk x.1 ≤ 1048576) :
    ∃ (ops : List Opn) (al : Option Addr) (cl : Nat), c3 = .slice al ops.length cl ∧ ops.length ≤ cl ∧ cl ≤ 1048576 ∧ (al = none → ops.length = 0) ∧ sumS ops ≤ 1048576 ∧
      (∀ a, al = some a → ∀ i (o : Opn), ops[i]? = some o → ∀ j v, [Value.int .i64 o.1, .int .i64 o.2.1, .string o.2.2][j]? = some v → W.cell? ((a.add (i * 3)).add j) = some v) ∧ (∀ o ∈ ops, (-9223372036854775808 ≤ o.1 ∧ o.1 ≤ 9223372036854775807) ∧ (-9223372036854775808 ≤ o.2.1 ∧ o.2.1 ≤ 9223372036854775807)) := by
  rcases DataW.trod_slice Tryd.underlying22 h3 with ⟨hcs, _⟩ | ⟨a, len, cap, elems, rest, n', hn', hcs, hx3, _, hlc, hcm, hlen, hel, hsp, _⟩
  · simp only [List.cons.injEq, and_true] at hcs
    exact ⟨[], none, 0, hcs, Nat.le_refl _, by omega, fun _ => rfl, by simp [sumS], (fun a h => by cases h), (fun o h => by cases h)⟩
  · simp only [List.cons.injEq, and_true] at hcs
    rw [show Tryd.prog.cellsOf 35 = 3 by kernel_rfl] at hel
    have hall : ∀ i, i < len → ∃ o : Opn, (∀ j v, [Value.int .i64 o.1, .int .i64 o.2.1, .string o.2.2][j]? = some v → W.cell? ((a.add (i * 3)).add j) = some v) ∧ ((-9223372036854775808 ≤ o.1 ∧ o.1 ≤ 9223372036854775807) ∧ (-9223372036854775808 ≤ o.2.1 ∧ o.2.1 ≤ 9223372036854775807)) ∧ ∀ e, elems[i]? = some e → o.2.2.size ≤ Rows.uptoBulk e.1 := by
      intro i hi
      have he := hel i hi
      rw [List.getElem?_eq_getElem (by omega)] at he
      obtain ⟨cs', hc1, hc2⟩ := Option.bind_eq_some_iff.1 he
      obtain ⟨_, hl3, hcell⟩ := World.cells?_some hc1
      obtain ⟨o, e1, e2, e3⟩ := open_op hc2
      refine ⟨o, fun j v hv => ?_, e2, fun e hee => ?_⟩
      · rw [← e1] at hv
        have hj : j < 3 := by
          have h5 : j < cs'.length := (List.getElem?_eq_some_iff.1 hv).1
          omega
        rw [hcell j hj]
        exact hv
      · rw [List.getElem?_eq_getElem (by omega)] at hee
        cases hee
        exact e3
    haveI : Inhabited Opn := ⟨(0, 0, ⟨#[]⟩)⟩
    obtain ⟨f, hf⟩ := Go.Deep.choose_lt hall
    have hl : ((List.range len).map f).length = len := by simp
    have hget : ∀ (i : Nat) (o : Opn), ((List.range len).map f)[i]? = some o → i < len ∧ o = f i := by
      intro i o ho
      have hi : i < len := by
        have := (List.getElem?_eq_some_iff.1 ho).1
        simpa using this
      rw [List.getElem?_map, List.getElem?_range hi] at ho
      simp only [Option.map_some, Option.some.injEq] at ho
      exact ⟨hi, ho.symm⟩
    rw [hx3] at hb
    rw [Rows.uptoBulk] at hb
    have hs := (hsp rfl).1
    have hsum := bulk_sum (elems.map (·.1)) ((List.range len).map f) (by rw [hl, List.length_map]; exact hlen) (fun i d o hd ho => by
      obtain ⟨hi, rfl⟩ := hget i o ho
      rw [List.getElem?_map] at hd
      cases he : elems[i]? with
      | none => rw [he] at hd; cases hd
      | some e =>
        rw [he] at hd
        simp only [Option.map_some, Option.some.injEq] at hd
        subst hd
        exact (hf i hi).2.2 e he)
    have hb1 := bulk_len (elems.map (·.1))
    have hb2 := bulk_len (rest.map (·.1))
    rw [List.length_map] at hb1 hb2
    refine ⟨(List.range len).map f, some a, cap, by rw [hl]; exact hcs, by rw [hl]; exact hlc, by omega, (fun e => by cases e), by omega, ?_, ?_⟩
    · intro b hbb i o ho
      cases hbb
      obtain ⟨hi, rfl⟩ := hget i o ho
      exact (hf i hi).1
    · intro o ho
      obtain ⟨i, hi⟩ := List.getElem?_of_mem ho
      obtain ⟨hi', rfl⟩ := hget i o hi
      exact (hf i hi').2.1
end

set_option maxRecDepth 100000 in
theorem contract (H : Type) (enc : TypeId × Value → H) (W : World) (base : Nat) (args : Array Value) (ds gs : List (DataW H)) (before : List MemPlace)
    (hval : ∀ (j : Nat) t v, Tryd.f3.params[j]? = some t → args[j]? = some v → Value.okWide Tryd.prog W .any base t v)
    (hW : DataW.Whole enc Tryd.prog Tryd.f3.params.toList Rows.hashWritesSpec.vars false W args.toList ds gs before) (hk : Rows.uptoSmall H (ds ++ gs) = true) (hL : laidMetH Tryd.prog seatLaid W) :
    Calls Tryd.prog 3 args W fun e W' => ∃ v, e = .returned v ∧ Rows.hashWritesSpec.post enc Tryd.prog Tryd.f3 false true false false W args v W' := by
  have hW' := hW
  obtain ⟨p, q, hA0, hV, rfl, hfz, hnd⟩ := hW
  have hA : DataW.TrodAll enc Tryd.prog W 0 (fun _ => true) true Tryd.f3.params.toList args.toList ds p := hA0
  rw [Tryd.params3] at hA hval
  obtain ⟨v0, vs0, d0, ds0, p0, q0, hargs, rfl, rfl, h0, r0⟩ := trodAll_cons hA
  obtain ⟨rfl, rfl, rfl⟩ := trodAll_nil r0
  obtain rfl : args = #[v0] := by cases args; simp_all
  obtain ⟨rfl, rfl⟩ := trodVars_none hV
  have hk' := of_decide_eq_true hk
  simp only [List.append_nil, Rows.uptoBulkAll] at hk'
  obtain ⟨a0, len0, cap0, rfl⟩ := okWide_slice Tryd.underlying22 (hval 0 22 v0 rfl rfl)
  have k0 := h0
  have lt0 : ∀ x ∈ p0, x.block < W.heap.size := by obtain ⟨m, hm⟩ := k0; exact DataW.trod_lt m _ _ _ hm
  obtain ⟨ops, hl, hLC, hC, hn, hS, hc, hs⟩ : ∃ ops : List Opn, ops.length = len0 ∧ len0 ≤ cap0 ∧ cap0 ≤ 1048576 ∧ (a0 = none → len0 = 0) ∧ sumS ops ≤ 1048576 ∧ (∀ a, a0 = some a → ∀ i (o : Opn), ops[i]? = some o → ∀ j v, [Value.int .i64 o.1, .int .i64 o.2.1, .string o.2.2][j]? = some v → W.cell? ((a.add (i * 3)).add j) = some v) ∧ (∀ o ∈ ops, (-9223372036854775808 ≤ o.1 ∧ o.1 ≤ 9223372036854775807) ∧ (-9223372036854775808 ≤ o.2.1 ∧ o.2.1 ≤ 9223372036854775807)) := by
    obtain ⟨fuel, hf⟩ := h0
    obtain ⟨ops, al, cl, e1, e2, e3, e4, e5, e6, e7⟩ := open_ops hf (by dsimp only; omega)
    cases e1
    exact ⟨ops, rfl, e2, e3, e4, e5, e6, e7⟩
  obtain ⟨t0, tK, hw0, hwK⟩ := of_laid hL
  clear hA0
  refine (writes_walk a0 len0 cap0 ops W ⟨KS_len, hw0, hwK⟩ hl hLC (by omega) (by omega) hn hc hs hS).mono fun e W' ⟨he, bel⟩ => ?_
  subst he
  exact ⟨_, rfl, _, _, _, [], _, [], hW', trodAll_mk1 (shut_bool Tryd.underlying4 _), (trodAll_cons_mk (Below.trod laidOut (by kernel_rfl) (of_decide_eq_true (by kernel_rfl)) k0 bel lt0) trodAll_mk0), rfl, bel.frame _, fun h => by cases h⟩

set_option maxRecDepth 100000 in
theorem lifted (os : Os) (started : os.Started) (H : Type) (enc : TypeId × Value → H) (F : Stop.Interp) :
    ReturnsInHanded {} Tryd.checked os 3 .any (fun w args => ((Rows.OpenSpec.upto Rows.hashWritesSpec).pre enc Tryd.prog Tryd.f3 [] false w args ∧ laidMetH Tryd.prog seatLaid w) ∧ sizedMet enc Tryd.prog Tryd.f3 (Rows.OpenSpec.upto Rows.hashWritesSpec) false w args)
      (((Rows.OpenSpec.upto Rows.hashWritesSpec).at F).post enc Tryd.prog Tryd.f3 false true false false) := by
  have hkc : (Rows.OpenSpec.upto Rows.hashWritesSpec).cond = some Rows.uptoSmall := rfl
  refine returnsInHanded_of_calls own started (by kernel_rfl) ?_ ?_
  · have hok : Input.okWideB Tryd.prog ((World.doorLaid Tryd.prog 400 os).forCall (fun _ _ => 0) ⟨#[], #[.slice none 0 0], []⟩) 3 ⟨#[], #[.slice none 0 0], []⟩ = true := by kernel_rfl
    have hx : DataW.whole enc Tryd.prog ((World.doorLaid Tryd.prog 400 os).forCall (fun _ _ => 0) ⟨#[], #[.slice none 0 0], []⟩).memory Tryd.f3.params.toList (Rows.OpenSpec.upto Rows.hashWritesSpec).vars false (#[Value.slice none 0 0]).toList 8 = some ([.nil], [], []) := by kernel_rfl
    refine ⟨World.doorLaid Tryd.prog 400 os, fun _ _ => 0, ⟨#[], #[.slice none 0 0], []⟩, rfl, World.shaped_of_RefB (by kernel_rfl) (by kernel_rfl), (Input.okWide_of_okWideB (base := 0) hok).1, (Input.okWide_of_okWideB hok).2, ⟨⟨(OpenSpec.pre_some hkc [] false _ _).2 ⟨[.nil], [], [], DataW.Whole_of_whole hx, rfl, by kernel_rfl⟩, door_met os _⟩, sizedMet_of_sizedB (fuel := 8) (by kernel_rfl)⟩, ?_⟩
    simp only [Assume.holds]
    exact ⟨by simp, by simp, fun _ => Modest.zero, by simp, by simp⟩
  · intro w tape i _ _ _ hok hpre hholds
    obtain ⟨_, _, _, fn', hfn', _, _, _, _, hval⟩ := hok
    have e : fn' = Tryd.f3 := Option.some.inj (hfn'.symm.trans Tryd.func3)
    subst e
    obtain ⟨⟨hp1, hlaid⟩, hz⟩ := hpre
    obtain ⟨ds, gs, before, hw, hc, hkk⟩ := (OpenSpec.pre_some hkc [] false _ _).1 hp1
    have hw' := DataW.Whole.of_heap (w' := w.forCall tape i) (by rfl) hw
    refine (contract H enc (w.forCall tape i) w.heap.size i.args ds gs before hval hw' hkk (hlaid.of_heap (by rfl))).mono fun e W' ⟨v, he, hp⟩ => ?_
    subst he
    exact ChangeSpec.post_blind hp

theorem over : Rows.HashWritesUptoSaid :=
  OpenClaim.holds_of_cond 3 Tryd.f3 rfl rfl rfl rfl rfl rfl rfl ⟨rfl, rfl, rfl, rfl, rfl⟩ rfl rfl rfl rfl rfl (by kernel_rfl) Tryd.func3 (by kernel_rfl)
    (of_decide_eq_true (by kernel_rfl)) (by unfold Func.isWrapper; first | (rw [if_pos (by decide +kernel)]; kernel_rfl) | (rw [if_neg (by decide +kernel)]; exact ⟨rfl, rfl⟩))
    (fun os started H enc _ F => lifted os started H enc F)

theorem card : Rows.HashWritesUptoCardSaid :=
  Claim7.holds_tied_plain_at .later [] [.data, .data] true (true, "66184700cccc6d3913a6b778eb7deaaf5104de7fb535d573d0a20268dfc64eb7") false
    over (fun _ h => by cases h) (by kernel_rfl) (fun _ h => by cases h) hashWritesUpto_row_tie rfl ⟨rfl, rfl⟩ (by kernel_rfl) rfl
    (fun f fn hf hfn => by
      obtain rfl : f = 3 := Option.some.inj ((show Tryd.prog.funcNamed "scruple/scruplelaw02.HashWrites" = some 3 by kernel_rfl).symm.trans hf) |>.symm
      obtain rfl : fn = Tryd.f3 := (Option.some.inj (Tryd.func3.symm.trans hfn)).symm
      exact ⟨by kernel_rfl, fun j t ht => by
        rw [Tryd.params3] at ht
        have h3 : t = 22 := by
          rcases j with _ | j
          · simpa using ht.symm
          · simp at ht
        subst h3
        exact (show Tryd.prog.wantsStandIn 22 = false by kernel_rfl)⟩)
    (by kernel_rfl)
end Go.Proofs.YtfmbaidpeliakaaDoor.hashWrites

namespace Go.Proofs.YtfmbaidpeliakaaDoor
theorem hashWritesUpto_card : Rows.HashWritesUptoCardSaid := hashWrites.card
#print axioms hashWritesUpto_card
end Go.Proofs.YtfmbaidpeliakaaDoor
