/-
  Quote answers of every text what the document says (LexQuotesUptoSaid); condition: the argument is of bulk at most 1048576.
-/
import Derived.Test.YtnflbgejjgjpcaaRows
import Derived.Test.YtnflbgejjgjpcaaLxQ1
import Derived.Test.YtnflbgejjgjpcaaLxQ2
import Derived.JoinedCond
import Derived.ProofKit
import Derived.OpenShut
import Derived.ShutString
import Derived.ChangeOld
import Derived.Below
import Derived.Deep.Strs
import Derived.Deep.RegionHeld3
import Derived.Deep.CutRange
import Derived.Deep.QuietTactic
namespace Go.Proofs.Ytnflbgejjgjpcaa.lexQuotes
open Go.ChangeShapes Go.WideShapes Go.ChangeAt Go.RowKit
set_option linter.unusedVariables false
set_option linter.unusedSimpArgs false

theorem own : ownKnob Try.prog.godebug = none := by kernel_rfl
theorem laidOut : laidOutB Try.prog = true := by kernel_rfl

theorem add_of (b o i : Nat) : (⟨b, o, none⟩ : Addr).add i = ⟨b, o + i, none⟩ := by unfold Addr.add; split <;> simp_all

theorem keepS {v w1 w2 : World} {P : World → Prop} (H : Hid (∀ w', Below v.heap.size v w' → P w')) (h : Below v.heap.size v w1) (hb : Below w1.heap.size w1 w2) : Below v.heap.size v w2 ∧ P w2 :=
  ⟨h.trans (hb.mono h.size), unhide H _ (h.trans (hb.mono h.size))⟩

theorem bulk_mem {H : Type} {d : DataW H} : ∀ {l : List (DataW H)}, d ∈ l → Rows.uptoBulk d ≤ Rows.uptoBulkAll l
  | [], h => by cases h
  | e :: r, h => by
    rw [Rows.uptoBulkAll]
    rcases List.mem_cons.1 h with rfl | h
    · omega
    · have := bulk_mem h
      omega

theorem none_quo : bA (quoB []) = ⟨#[34, 34]⟩ := rfl

set_option maxRecDepth 100000 in
set_option maxHeartbeats 1000000 in
theorem walk (a0 : Option Addr) (len cap : Nat) (w : World) (hl : len ≤ maxLen) (Sx : Nat → ByteArray) (hx : ∀ j, j < len → ∃ b o, a0 = some ⟨b, o, none⟩ ∧ w.cell? ⟨b, o + j, none⟩ = some (.string (Sx j))) (hz : ∀ j, j < len → (Sx j).size ≤ 1073741824) :
    Calls Try.prog 4 #[.slice a0 len cap] w fun e w' => e = .returned (.bool true) ∧ Below w.heap.size w w' := by
  have HX := hide hx
  have HSZ := hide hz
  have hl2 : (len : Int) ≤ 9223372036854775807 := by unfold maxLen at hl; omega
  clear hx hl hz
  go_enter Try.func4, Try.ntmps4
  go_wp2_with fail
  go_loopw [3] (fun x wr => ∃ (i : Nat), x = .int .i64 (i : Int) ∧ i ≤ len ∧ Hid (Below w.heap.size w wr)) (fun x _ => len - (intOf x).toNat)
  case atStart => exact ⟨0, rfl, Nat.zero_le _, hide (Below.refl _ _)⟩
  case round =>
    obtain ⟨i, rfl, hi, HB⟩ := hrel
    by_cases hlt : i < len
    · obtain ⟨b, o, rfl, hc⟩ := unhide HX i hlt
      have hblk : b < w.heap.size := World.block_lt_of_cell? _ _ (by rw [hc])
      have hcr : wr.cell? ⟨b, o + i, none⟩ = some (.string (Sx i)) := (Below.cell (unhide HB) hblk).trans hc
      have j1 : (i : Int) < (len : Int) := by omega
      have had := add_of b o i
      obtain ⟨N, hN⟩ : ∃ N, bA (quoB (Sx i).data.toList) = N := ⟨_, rfl⟩
      have hzz := unhide HSZ i hlt
      have C1 := hide (fun u => quoteL_any (Sx i) hzz u)
      have C2 := hide (fun u => quoteD_any (Sx i) hzz u)
      have hNN : (N.toList == N.toList) = true := beq_self_eq_true _
      rw [hN] at C1 C2
      have HK : Hid (∀ u, Below wr.heap.size wr u → u.cell? ⟨b, o + i, none⟩ = some (.string (Sx i))) := hide (fun u hu => (Below.cell hu (Nat.lt_of_lt_of_le hblk (unhide HB).size)).trans hcr)
      have HLT := hide hlt
      clear hN hlt hc
      go_upto_region 4 with fail
      go_cut [20] from 10 to 20 (fun r wx => r = .bool false ∧ Hid (Below w.heap.size w wx))
      case first =>
        go_region_held3 (fun w' => Below wr.heap.size wr w' ∧ w'.cell? ⟨b, o + i, none⟩ = some (.string (Sx i)))
          (first | assumption | exact ⟨(Below.refl _ _).drew, unhide HK _ (Below.refl _ _).drew⟩ | (refine keepS HK (And.left (by assumption)) (by assumption); done) | (refine keepS HK ?_ ?_ <;> assumption))
          (first | (go_at_call 7; refine ((unhide C1) _).mono ?_; rintro e w5 ⟨rfl, b5⟩) | (go_at_call 8; refine ((unhide C2) _).mono ?_; rintro e w5 ⟨rfl, b5⟩))
        have hb5 : Below wr.heap.size wr w5 := And.left (by assumption)
        have HX5 : Hid (Below w.heap.size w w5) := hide ((unhide HB).trans (hb5.mono (unhide HB).size))
        clear b5 hb5
        go_wp2_with fail
        go_meet
        exact ⟨rfl, HX5⟩
      case rest =>
        obtain ⟨rfl, HX5⟩ := hcut
        go_wp2_with fail
        go_roundw
        case rel => exact ⟨i + 1, by go_num, unhide HLT, HX5⟩
        case measure => have := unhide HLT; simp [intOf]; omega
    · have j1 : ¬ (i : Int) < (len : Int) := by omega
      have C1 := hide (quoteL_any ⟨#[]⟩ (by decide) wr)
      rw [show (⟨#[]⟩ : ByteArray).data.toList = [] from rfl, none_quo] at C1
      go_wp2_with fail
      refine (unhide C1).mono ?_
      rintro e u ⟨rfl, b1⟩
      have HB1 : Hid (Below w.heap.size w u) := hide ((unhide HB).trans (b1.mono (unhide HB).size))
      clear b1
      go_wp2_with fail
      go_ret
      exact ⟨rfl, unhide HB1⟩

set_option maxRecDepth 100000 in
theorem contract (H : Type) (enc : TypeId × Value → H) (W : World) (base : Nat) (args : Array Value) (ds gs : List (DataW H)) (before : List MemPlace)
    (hval : ∀ (j : Nat) t v, Try.f4.params[j]? = some t → args[j]? = some v → Value.okWide Try.prog W .any base t v)
    (hW : DataW.Whole enc Try.prog Try.f4.params.toList Rows.lexQuotesSpec.vars false W args.toList ds gs before) (hk : Rows.uptoSmall H (ds ++ gs) = true) :
    Calls Try.prog 4 args W fun e W' => ∃ v, e = .returned v ∧ Rows.lexQuotesSpec.post enc Try.prog Try.f4 false true false false W args v W' := by
  have hW' := hW
  obtain ⟨p, q, hA0, hV, rfl, hfz, hnd⟩ := hW
  have hA : DataW.TrodAll enc Try.prog W 0 (fun _ => true) true Try.f4.params.toList args.toList ds p := hA0
  rw [Try.params4] at hA hval
  obtain ⟨v0, vs0, d0, ds0, p0, q0, hargs, rfl, rfl, h0, r0⟩ := trodAll_cons hA
  obtain ⟨rfl, rfl, rfl⟩ := trodAll_nil r0
  obtain rfl : args = #[v0] := by cases args; simp_all
  obtain ⟨rfl, rfl⟩ := trodVars_none hV
  have hk' := of_decide_eq_true hk
  simp only [List.append_nil, Rows.uptoBulkAll] at hk'
  obtain ⟨a0, len0, cap0, rfl⟩ := okWide_slice Try.underlying22 (hval 0 22 v0 rfl rfl)
  have k0 := h0
  have lt0 : ∀ x ∈ p0, x.block < W.heap.size := by obtain ⟨m, hm⟩ := k0; exact DataW.trod_lt m _ _ _ hm
  obtain ⟨Sx, hm0, w0, z0⟩ : ∃ Sx : Nat → ByteArray, len0 ≤ maxLen ∧ (∀ j, j < len0 → ∃ b o, a0 = some ⟨b, o, none⟩ ∧ W.cell? ⟨b, o + j, none⟩ = some (.string (Sx j))) ∧ ∀ j, j < len0 → (Sx j).size ≤ 1073741824 := by
    obtain ⟨fuel, hf⟩ := h0
    rcases Go.Deep.open_strs Try.underlying22 Try.underlying9 (by kernel_rfl) hf with ⟨hcs, _⟩ | ⟨x, l, c, m, Sx, hcs, _, hl, hm, hmm, hx4, hx⟩
    · simp [Value.cells] at hcs
      obtain ⟨rfl, rfl, rfl⟩ := hcs
      exact ⟨fun _ => ByteArray.empty, by decide, fun j hj => by omega, fun j hj => by omega⟩
    · simp [Value.cells] at hcs
      obtain ⟨rfl, rfl, rfl⟩ := hcs
      simp only [if_true] at hmm
      refine ⟨Sx, by omega, fun j hj => ?_, fun j hj => ?_⟩
      · obtain ⟨b, o, n⟩ := x
        have hspot : n = none := by simpa [Addr.add] using World.cell?_spot (hx 0 (by omega)).1
        subst hspot
        exact ⟨b, o, rfl, by rw [← Go.WideShapes.add_plain]; exact (hx j (by omega)).1⟩
      · simp only [Prod.mk.injEq] at hx4
        rw [hx4.1, Rows.uptoBulk] at hk'
        have h1 := bulk_mem (d := (DataW.lit (.string (Sx j).data.toList) : DataW H)) (l := (List.range len0).map fun i => (DataW.lit (.string (Sx i).data.toList) : DataW H)) (List.mem_map.2 ⟨j, List.mem_range.2 hj, rfl⟩)
        rw [Rows.uptoBulk, len_list] at h1
        omega
  clear hA0
  refine (walk a0 len0 cap0 W hm0 Sx w0 z0).mono fun e W' ⟨he, bel⟩ => ?_
  subst he
  exact ⟨_, rfl, _, _, _, [], _, [], hW', trodAll_mk1 (shut_bool Try.underlying4 _), (trodAll_cons_mk (Below.trod laidOut (by kernel_rfl) (of_decide_eq_true (by kernel_rfl)) k0 bel lt0) trodAll_mk0), rfl, bel.frame _, fun h => by cases h⟩

set_option maxRecDepth 100000 in
theorem lifted (os : Os) (started : os.Started) (H : Type) (enc : TypeId × Value → H) (F : Stop.Interp) :
    ReturnsInHanded {} Try.checked os 4 .any ((Rows.OpenSpec.upto Rows.lexQuotesSpec).pre6 enc Try.prog Try.f4 Rows.lexQuotesUptoRow.domain false) (((Rows.OpenSpec.upto Rows.lexQuotesSpec).at F).post enc Try.prog Try.f4 false true false false) := by
  refine returnsInHanded_of_cond (C := Try.checked) (s := Rows.OpenSpec.upto Rows.lexQuotesSpec) (k := Rows.uptoSmall) rfl own started (by kernel_rfl) Try.func4
    (OpenSpec.witness (enc := enc) (C := Try.checked) (s := Rows.OpenSpec.upto Rows.lexQuotesSpec) (k := Rows.uptoSmall) rfl false ⟨#[], #[.slice none 0 0], []⟩ 8 (by kernel_rfl) (by kernel_rfl) (by kernel_rfl)
      (x := ([.nil], [], [])) (by kernel_rfl) rfl (by kernel_rfl)) ?_
  intro W base args ds gs before hval hW _ hk _
  exact contract H enc W base args ds gs before hval hW hk

theorem over : Rows.LexQuotesUptoSaid :=
  OpenClaim.holds_of_cond 4 Try.f4 rfl rfl rfl rfl rfl rfl rfl ⟨rfl, rfl, rfl, rfl, rfl⟩ rfl rfl rfl rfl rfl (by kernel_rfl) Try.func4 (by kernel_rfl)
    (of_decide_eq_true (by kernel_rfl)) (by unfold Func.isWrapper; first | (rw [if_pos (by decide +kernel)]; kernel_rfl) | (rw [if_neg (by decide +kernel)]; exact ⟨rfl, rfl⟩))
    (fun os started H enc _ F => lifted os started H enc F)
end Go.Proofs.Ytnflbgejjgjpcaa.lexQuotes

namespace Go.Proofs.Ytnflbgejjgjpcaa
theorem lexQuotesUpto_holds : Rows.LexQuotesUptoSaid := lexQuotes.over
#print axioms lexQuotesUpto_holds
end Go.Proofs.Ytnflbgejjgjpcaa
