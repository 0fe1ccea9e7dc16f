/-
  For every slice of strings that can be read: hash.Unhex of each answers what the document's Unhex does, and Unhex of no text is the error (the statement HashUnhexesSaid); no conditions.
-/
import Derived.Test.YtbdieoknbpcbnaaH2Unhex
import Derived.Test.YtbdieoknbpcbnaaArrEq
import Derived.Test.YtbdieoknbpcbnaaArrVar
import Derived.ProofKit
import Derived.ShutString
import Derived.ChangeOld
import Derived.Below
import Derived.Deep.Strs
namespace Go.Proofs.Ytbdieoknbpcbnaa.hashUnhexes
open Go.ChangeShapes Go.WideShapes Go.ChangeAt Go.RowKit
set_option linter.unusedVariables false

theorem own : ownKnob Try.prog.godebug = none := by kernel_rfl
theorem laidOut : laidOutB Try.prog = true := by kernel_rfl

/-- what Unhex answers -/
def ansL (s : ByteArray) : List Int := if s.size = 64 then ((unh s 32).getD (List.replicate 32 0)) else List.replicate 32 0
def ansE (s : ByteArray) : Int := if s.size = 64 then (if (unh s 32).isSome then 0 else 20) else 20

theorem hUnhex_any (s : ByteArray) (w : World) : (ansL s).length = 32 ∧
    Calls Try.prog 7 #[.string s] w fun e w' => e = .returned (.tuple #[.agg ((ansL s).map (Value.int .u8)).toArray, .int .i64 (ansE s)]) ∧ Below w.heap.size w w' := by
  by_cases hs : s.size = 64
  · have c := hUnhex_long s w hs
    cases hu : unh s 32 with
    | none =>
      refine ⟨by simp [ansL, hs, hu], c.mono ?_⟩
      rintro e w' ⟨⟨l, h1, _, _⟩ | ⟨_, rfl⟩, hB⟩
      · rw [hu] at h1; cases h1
      · refine ⟨?_, hB⟩
        simp only [ansL, ansE, hs, hu, if_true, Option.getD_none, Option.isSome_none]
        rfl
    | some l =>
      have hl : l.length = 32 := by
        have key : ∀ i l, unh s i = some l → l.length = i := by
          intro i
          induction i with
          | zero => intro l h; simp [unh] at h; subst h; rfl
          | succ i ih =>
            intro l h
            simp only [unh] at h
            cases hq : unh s i with
            | none => rw [hq] at h; simp at h
            | some m =>
              rw [hq] at h
              simp only [Option.bind_some] at h
              split at h
              · cases h
              · simp only [Option.some.injEq] at h
                subst h
                simp [ih m hq]
        exact key 32 l hu
      refine ⟨by simp [ansL, hs, hu, hl], c.mono ?_⟩
      rintro e w' ⟨⟨l', h1, _, rfl⟩ | ⟨h1, _⟩, hB⟩
      · rw [hu] at h1
        cases h1
        refine ⟨?_, hB⟩
        simp only [ansL, ansE, hs, hu, if_true, Option.getD_some, Option.isSome_some]
      · rw [hu] at h1; cases h1
  · refine ⟨by simp [ansL, hs], (hUnhex_short s w hs).mono ?_⟩
    rintro e w' ⟨rfl, hB⟩
    refine ⟨?_, hB⟩
    simp only [ansL, ansE, hs, if_false]
    rfl

theorem refUnhex_any (s : ByteArray) (w : World) :
    Calls Try.prog 8 #[.string s] w fun e w' => e = .returned (.tuple #[.agg ((ansL s).map (Value.int .u8)).toArray, .int .i64 (ansE s)]) ∧ Below w.heap.size w w' := by
  by_cases hs : s.size = 64
  · refine (refUnhex_long s w hs).mono ?_
    rintro e w' ⟨⟨l', h1, _, rfl⟩ | ⟨h1, rfl⟩, hB⟩
    · refine ⟨?_, hB⟩
      simp only [ansL, ansE, hs, h1, if_true, Option.getD_some, Option.isSome_some]
    · refine ⟨?_, hB⟩
      simp only [ansL, ansE, hs, h1, if_true, Option.getD_none, Option.isSome_none]
      rfl
  · refine (refUnhex_short s w hs).mono ?_
    rintro e w' ⟨rfl, hB⟩
    refine ⟨?_, hB⟩
    simp only [ansL, ansE, hs, if_false]
    rfl

theorem guard32 : Try.prog.eqGuardType Try.prog.depth 24 = false := by kernel_rfl
theorem size1 : (Try.prog.info? 5).map (·.size) = some 1 := by kernel_rfl

theorem zero_info : ∃ i, Try.prog.info? 24 = some i ∧ i.zero = some (.agg zero32) := by
  have h := info32
  cases hq : Try.prog.info? 24 with
  | none => rw [hq] at h; cases h
  | some i => rw [hq] at h; simp at h; exact ⟨i, rfl, h.1⟩

theorem arr32 {l : List Int} (h : l.length = 32) : (Try.prog.info? 24).map (·.size) = some (l.map (Value.int .u8)).toArray.size := by
  rw [show (l.map (Value.int .u8)).toArray.size = 32 by simp [h]]
  exact size32

theorem zero_arr {l : List Int} (h : l.length = 32) : zero32.size = (l.map (Value.int .u8)).toArray.size := by
  rw [zero32_size]; simp [h]

set_option maxRecDepth 100000 in
set_option maxHeartbeats 1000000 in
theorem walk (a0 : Option Addr) (len cap : Nat) (w : World) (hm : len ≤ maxLen) (Sx : Nat → ByteArray) (hc : ∀ j, j < len → ∃ b o, a0 = some ⟨b, o, none⟩ ∧ w.cell? ⟨b, o + j, none⟩ = some (.string (Sx j))) :
    Calls Try.prog 4 #[.slice a0 len cap] w fun e w' => e = .returned (.bool true) ∧ Below w.heap.size w w' := by
  obtain ⟨i0, hi, hz⟩ := zero_info
  unfold maxLen at hm
  have HM := hide hm
  have HC := hide hc
  clear hm hc
  go_enter Try.func4, Try.ntmps4
  go_wp2_with fail
  go_loopw [3] (fun x wr => ∃ i : Nat, i ≤ len ∧ x = .int .i64 i ∧ Hid (Below w.heap.size w wr)) (fun x _ => len - (intOf x).toNat)
  case atStart => exact ⟨0, by omega, rfl, hide (Below.refl _ _)⟩
  case round =>
    obtain ⟨i, hil, rfl, HB⟩ := hrel
    by_cases hlt : i < len
    · obtain ⟨b, o, rfl, hcell⟩ := unhide HC i hlt
      have hmx := unhide HM
      have i1 : (i : Int) < (len : Int) := by omega
      have ct := cell_later (unhide HB) hcell
      have HCT := hide ct
      have C1 := hide (hUnhex_any (Sx i) wr)
      generalize hsx : Sx i = s at *
      obtain ⟨hlen, hcall⟩ := unhide C1
      have C2 := hide hcall
      have C3 := hide (refUnhex_any s)
      generalize ansL s = L at *
      generalize ansE s = E at *
      have HL := hide hlen
      have ha := hide (arr32 hlen)
      have hza := hide (zero_arr hlen)
      have hon := hide (bytes_one L)
      clear hlen hcall C1 hsx
      have hcell' := hcell
      clear hcell
      have HCL := hide hcell'
      clear hcell'
      have tokA : True := trivial
      have tokB : True := trivial
      have tokC : True := trivial
      have tokD : True := trivial
      have tokE : True := trivial
      have tokF : True := trivial
      have tokG : True := trivial
      go_wp2_with fail
      refine (unhide C2).mono ?_
      rintro e w1 ⟨rfl, B1⟩
      have H1 := hide B1
      clear ct B1
      go_wp2_with (first
        | (have _t := tokA; refine wpList_new_arr rfl 24 rfl i0 zero32 hi hz ?_; intro w2 H2; clear tokA)
        | (have _t := tokB; refine wpList_put_arr rfl 24 (.tmp 4) (.tmp 22) rfl w1.heap.size zero32 (L.map (Value.int .u8)).toArray rfl rfl (unhide H2).at' (unhide hza) (unhide ha) (unhide hon) ?_; intro w3 H3; clear tokB; have B3 := hide (((unhide H3).below w.heap.size w ((((unhide HB).trans ((unhide H1).mono (unhide HB).size)).trans ((unhide H2).below.mono (Nat.le_trans (unhide HB).size (unhide H1).size)))) (Nat.le_trans (unhide HB).size (unhide H1).size))); have ct := cell_later (unhide B3) (unhide HCL)))
      refine (unhide C3 w3).mono ?_
      rintro e w4 ⟨rfl, B4⟩
      have H4 := hide B4
      clear ct B4
      go_wp2_with (first
        | (have _t := tokC; refine wpList_new_arr rfl 24 rfl i0 zero32 hi hz ?_; intro w5 H5; clear tokC)
        | (have _t := tokD; refine wpList_put_arr rfl 24 (.tmp 6) (.tmp 30) rfl w4.heap.size zero32 (L.map (Value.int .u8)).toArray rfl rfl (unhide H5).at' (unhide hza) (unhide ha) (unhide hon) ?_; intro w6 H6; clear tokD; have l1 : w1.heap.size < w3.heap.size := (by rw [(unhide H3).size, (unhide H2).size]; omega); have l2 : w1.heap.size < w4.heap.size := Nat.lt_of_lt_of_le l1 (unhide H4).size; have E1 := hide (((unhide H6).other w1.heap.size (by omega)).trans ((((unhide H5).below.block w1.heap.size l2).trans ((unhide H4).block w1.heap.size l1)).trans (unhide H3).at')))
        | (have _t := tokE; refine wpList_load_arr rfl 24 (.tmp 4) rfl w1.heap.size (L.map (Value.int .u8)).toArray 32 5 rfl (unhide E1) Try.underlying24 (unhide ha) ?_; clear tokE)
        | (have _t := tokF; refine wpList_load_arr rfl 24 (.tmp 6) rfl w4.heap.size (L.map (Value.int .u8)).toArray 32 5 rfl (unhide H6).at' Try.underlying24 (unhide ha) ?_; clear tokF)
        | (have _t := tokG; refine wpList_neq_arr rfl 24 24 (.tmp 32) (.tmp 33) rfl L L 32 5 rfl rfl guard32 Try.underlying24 Try.underlying5 size1 (unhide HL) (unhide HL) ?_; clear tokG))
      have B6 := hide ((unhide H6).below w.heap.size w (((unhide B3).trans ((unhide H4).mono (unhide B3).size)).trans ((unhide H5).below.mono (Nat.le_trans (unhide B3).size (unhide H4).size))) (Nat.le_trans (unhide B3).size (unhide H4).size))
      go_roundw
      case rel => exact ⟨i + 1, by omega, by go_num, B6⟩
      case measure => simp [intOf]; omega
    · have hi' : i = len := by omega
      subst hi'
      have hmx := unhide HM
      have C1 := hide (hUnhex_any ⟨#[]⟩ wr)
      have l0 : ansL ⟨#[]⟩ = List.replicate 32 0 := by kernel_rfl
      have e0 : ansE ⟨#[]⟩ = 20 := by kernel_rfl
      rw [l0, e0] at C1
      obtain ⟨_, hcall⟩ := unhide C1
      have C2 := hide hcall
      clear C1 hcall l0 e0
      have tokA : True := trivial
      have tokB : True := trivial
      have tokC : True := trivial
      have tokD : True := trivial
      have tokE : True := trivial
      go_wp2_with fail
      refine (unhide C2).mono ?_
      rintro e w1 ⟨rfl, B1⟩
      have H1 := hide B1
      clear B1
      go_wp2_with (first
        | (have _t := tokA; refine wpList_new_arr rfl 24 rfl i0 zero32 hi hz ?_; intro w2 H2; clear tokA)
        | (have _t := tokB; refine wpList_put_arr rfl 24 (.tmp 8) (.tmp 42) rfl w1.heap.size zero32 zero32 rfl rfl (unhide H2).at' rfl size32 zero32_one ?_; intro w3 H3; clear tokB)
        | (have _t := tokC; refine wpList_load_arr rfl 24 (.tmp 8) rfl w1.heap.size zero32 32 5 rfl (unhide H3).at' Try.underlying24 size32 ?_; clear tokC)
        | (have _t := tokD; refine wpList_build_arr rfl 24 #[] rfl #[] rfl zero32 built32 ?_; clear tokD)
        | (have _t := tokE; refine wpList_eql_arr rfl 24 24 (.tmp 44) (.tmp 45) rfl (List.replicate 32 0) (List.replicate 32 0) 32 5 rfl rfl guard32 Try.underlying24 Try.underlying5 size1 rfl rfl ?_; clear tokE))
      have B3 := (unhide H3).below w.heap.size w (((unhide HB).trans ((unhide H1).mono (unhide HB).size)).trans ((unhide H2).below.mono (Nat.le_trans (unhide HB).size (unhide H1).size))) (Nat.le_trans (unhide HB).size (unhide H1).size)
      go_ret
      exact ⟨rfl, B3⟩

/-! ### THE ROW's STEP -/
set_option maxRecDepth 100000 in
theorem lifted (os : Os) (started : os.Started) (H : Type) (enc : TypeId × Value → H) :
    ReturnsInHanded {} Try.checked os 4 .any (Rows.hashUnhexesSpec.pre6 enc Try.prog Try.f4 Rows.hashUnhexesRow.domain false) (Rows.hashUnhexesSpec.post enc Try.prog Try.f4 false true false false) := by
  refine returnsInHanded_of_change (C := Try.checked) own started (by kernel_rfl) Try.func4
    (ChangeSpec.witness6 (enc := enc) (C := Try.checked) false ⟨#[], #[.slice none 0 0], []⟩ 8 (by kernel_rfl) (by kernel_rfl) (by kernel_rfl) (by kernel_rfl)) ?_
  intro W base args ds gs before hval0 hW hcnd _
  have hval : ∀ (j : Nat) t v, Try.f4.params[j]? = some t → args[j]? = some v → Value.okWide Try.prog W .any base t v := hval0
  have hW' := hW
  obtain ⟨p, q, hA0, hV, rfl, hfz, hnd⟩ := hW
  have hA : DataW.TrodAll enc Try.prog W 0 (fun _ => true) true Try.f4.params.toList args.toList ds p := hA0
  rw [Try.params4] at hA hval
  obtain ⟨v0, vs0, d0, ds0, p0, q0, hargs, rfl, rfl, h0, r0⟩ := trodAll_cons hA
  obtain ⟨rfl, rfl, rfl⟩ := trodAll_nil r0
  obtain rfl : args = #[v0] := by cases args; simp_all
  obtain ⟨rfl, rfl⟩ := trodVars_none hV
  obtain ⟨a0, len0, cap0, rfl⟩ := okWide_slice Try.underlying26 (hval 0 26 v0 rfl rfl)
  have k0 := h0
  have lt0 : ∀ x ∈ p0, x.block < W.heap.size := by obtain ⟨m, hm⟩ := k0; exact DataW.trod_lt m _ _ _ hm
  obtain ⟨Sx, hm0, w0⟩ : ∃ Sx : Nat → ByteArray, len0 ≤ maxLen ∧ ∀ j, j < len0 → ∃ b o, a0 = some ⟨b, o, none⟩ ∧ W.cell? ⟨b, o + j, none⟩ = some (.string (Sx j)) := by
    obtain ⟨fuel, hf⟩ := h0
    rcases Go.Deep.open_strs Try.underlying26 Try.underlying9 (by kernel_rfl) hf with ⟨hcs, _⟩ | ⟨x, l, c, m, Sx, hcs, _, hl, hm, hmm, _, hx⟩
    · simp [Value.cells] at hcs
      obtain ⟨rfl, rfl, rfl⟩ := hcs
      exact ⟨fun _ => ByteArray.empty, by decide, fun j hj => by omega⟩
    · simp [Value.cells] at hcs
      obtain ⟨rfl, rfl, rfl⟩ := hcs
      simp only [if_true] at hmm
      refine ⟨Sx, by omega, fun j hj => ?_⟩
      obtain ⟨b, o, n⟩ := x
      have hspot : n = none := by simpa [Addr.add] using World.cell?_spot (hx 0 (by omega)).1
      subst hspot
      exact ⟨b, o, rfl, by rw [← Go.WideShapes.add_plain]; exact (hx j (by omega)).1⟩
  clear hA0 hval0
  refine (walk a0 len0 cap0 W hm0 Sx w0).mono fun e W' ⟨he, bel⟩ => ?_
  subst he
  exact ⟨_, rfl, _, _, _, [], _, [], hW', trodAll_mk1 (shut_bool Try.underlying4 _), (trodAll_cons_mk (Below.trod laidOut (by kernel_rfl) (of_decide_eq_true (by kernel_rfl)) k0 bel lt0) trodAll_mk0), rfl, bel.frame _, fun h => by cases h⟩

theorem over : Rows.hashUnhexesRow.holds Try.pinned (OpenSpec.ofChange Rows.hashUnhexesSpec) :=
  OpenClaim.holds_of_wide 4 Try.f4 rfl rfl rfl rfl rfl rfl rfl ⟨rfl, rfl, rfl, rfl, rfl⟩ rfl rfl rfl rfl rfl (by kernel_rfl) Try.func4 (by kernel_rfl)
    (of_decide_eq_true (by kernel_rfl)) (by unfold Func.isWrapper; first | (rw [if_pos (by decide +kernel)]; kernel_rfl) | (rw [if_neg (by decide +kernel)]; exact ⟨rfl, rfl⟩))
    (fun os started H enc _ => lifted os started H enc)

end Go.Proofs.Ytbdieoknbpcbnaa.hashUnhexes

namespace Go.Proofs.Ytbdieoknbpcbnaa
theorem hashUnhexes_holds : Rows.HashUnhexesSaid := hashUnhexes.over
#print axioms hashUnhexes_holds
end Go.Proofs.Ytbdieoknbpcbnaa
