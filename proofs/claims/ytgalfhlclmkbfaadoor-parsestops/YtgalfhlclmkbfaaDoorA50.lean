/-
  The walk of ParseStops, whatever the texts; conditions: what the variables of strconv hold; the second text's length.
  What the listed package variables of the seat give the walks of lex; a world that has them; no conditions.
-/
import Derived.Test.YtgalfhlclmkbfaaDoorA49
import Derived.Test.YtgalfhlclmkbfaaDoorA05
import Derived.Test.YtgalfhlclmkbfaaDoorRows
import Derived.ProofKit
import Derived.LaidMore
import Derived.OpenShut
import Derived.Stop.Joined
import Derived.Stop.LaidErr
import Derived.Lib.LaidTab
set_option linter.unusedVariables false
set_option linter.unusedSimpArgs false
namespace Go.Proofs.YtgalfhlclmkbfaaDoor
open Go.RowKit
set_option linter.unusedVariables false
set_option linter.unusedSimpArgs false

theorem stops_walk (s rest : ByteArray) (w : World) (he : Ev w) (hw6 : 5 < w.heap.size) (z1 : rest.size ≤ 140737488351232) :
    Calls Tryd.prog 3 #[.string s, .string rest] w fun e w' => e = .returned (.bool true) ∧ Below w.heap.size w w' := by
  cases hE : allT s.data.toList with
  | error x => exact stops_a s rest w he hw6 (q := x.1) (er := x.2) hE
  | ok ts =>
    obtain ⟨r, hr⟩ := PJ_tot (32 * ts.length + rk 27 0 + 64) 27 0 [] ts 0 (by first | exact ⟨by omega, by omega⟩ | omega) (by omega)
    generalize 32 * ts.length + rk 27 0 + 64 = fu at hr
    have hpg : PgOf 27 s.data.toList r := .inr ⟨ts, fu, hE, hr⟩
    match r, hr, hpg with
    | .ok (ns, l), hr, hpg =>
      have hk := prog_end hr
      exact stops_b s rest w he hw6 hE hpg (E := 0) (P := 0) (by unfold erOf; simp only [hk, if_true]) (by decide)
    | .error (c, p), hr, hpg =>
      by_cases h17 : c = 170
      · subst h17
        obtain ⟨t, ht, hp⟩ := err_mem (by obtain ⟨us, q, h⟩ := (all_fin hE).2; exact ⟨us, q, h⟩) hr
        obtain ⟨j, hj, hjt⟩ := List.getElem_of_mem ht
        have hj1 : ts[j]? = some t := by rw [List.getElem?_eq_getElem hj, hjt]
        subst hp
        by_cases hl : j + 1 < ts.length
        · exact stops_d s rest w he hw6 hE hpg hj1 (List.getElem?_eq_getElem hl) rfl hr z1
        · obtain ⟨us, hus⟩ := (all_ok hE).1
          have h2 : ts.length = us.length + 1 := by rw [hus, List.length_append]; rfl
          have h3 : ts[j]? = some (endT s.size) := by
            rw [hus, List.getElem?_append_right (by omega), show j - us.length = 0 by omega]
            rfl
          rw [hj1] at h3
          injection h3 with h3
          exact stops_c s rest w he hw6 hE hpg (by rw [h3]; rfl)
      · exact stops_b s rest w he hw6 hE hpg (E := c) (P := p) rfl h17
end Go.Proofs.YtgalfhlclmkbfaaDoor

namespace Go.Proofs.YtgalfhlclmkbfaaDoor
open Go.ChangeShapes Go.WideShapes Go.ChangeAt Go.RowKit
set_option linter.unusedVariables false

theorem own : ownKnob Tryd.prog.godebug = none := by kernel_rfl
theorem laidOut : laidOutB Tryd.prog = true := by kernel_rfl
theorem tPow : (Tryd.prog.globals[2]?).map (·.type) = some 100 := by kernel_rfl
theorem tab_pow : (Rows.laid_internal_strconv_uint64pow10 : DataW Unit) = Lib.tabData .u64 Lib.pow10Tab := by kernel_rfl
theorem gSyn : Tryd.prog.globalNamed "strconv.ErrSyntax" = some 0 := by kernel_rfl
theorem tSyn : (Tryd.prog.globals[0]?).map (·.type) = some 59 := by kernel_rfl
theorem gRng : Tryd.prog.globalNamed "strconv.ErrRange" = some 1 := by kernel_rfl
theorem tRng : (Tryd.prog.globals[1]?).map (·.type) = some 59 := by kernel_rfl
theorem gBits : Tryd.prog.globalNamed "math/bits.deBruijn64tab" = some 5 := by kernel_rfl
theorem cellsES : Tryd.prog.cellsOf 110 = 1 := by kernel_rfl
theorem cellsSt : Tryd.prog.cellsOf 9 = 1 := by kernel_rfl
theorem starES : "*" ++ "errors.errorString" = "*errors.errorString" := by decide
theorem rowES (u : TypeId) (h : Tryd.prog.typeName? 3 u = some "*errors.errorString") : u = 108 :=
  typeName_ptr_named (nm := "errors.errorString") (by rw [starES]; kernel_rfl) (by kernel_rfl) (by decide) u (by rw [starES]; exact h)

def seatLaid : List (String × DataW Unit) := [("math/bits.deBruijn32tab", Rows.laid_math_bits_deBruijn32tab), ("math/bits.deBruijn64tab", Rows.laid_math_bits_deBruijn64tab), ("internal/strconv.uint64pow10", Rows.laid_internal_strconv_uint64pow10), ("strconv.ErrRange", Rows.laid_strconv_ErrRange), ("strconv.ErrSyntax", Rows.laid_strconv_ErrSyntax)]

theorem laid_tail {P : Program} {x : String × DataW Unit} {l : List (String × DataW Unit)} {w : World} (h : laidMet P (x :: l) w) : laidMet P l w := by
  obtain ⟨ps, ⟨g0, t0, cs0, f0, p0, q0, hg0, ht0, hv0, hd0, hl, hps⟩, hn, hf⟩ := h
  subst hps
  exact ⟨q0, hl, (List.nodup_append.1 hn).2.1, fun b off hm => hf b off (List.mem_append_right _ hm)⟩

theorem of_laid {W : World} (h : laidMetH Tryd.prog seatLaid W) : Ev W ∧ 5 < W.heap.size := by
  rw [MakeChecks.laidMetH_plain _ _ _ (by kernel_rfl)] at h
  have h1 := laid_tail h
  have h2 := laid_tail h1
  have h3 := laid_tail h2
  have h4 := laid_tail h3
  obtain ⟨ar, sr, hvr, -, -, -⟩ := laid_sentinel h3 gRng tRng Tryd.underlying59 rowES Tryd.underlying108 Tryd.underlying110 rfl rfl Tryd.underlying9 cellsES cellsSt
  obtain ⟨asy, ssy, hvs, -, -, -⟩ := laid_sentinel h4 gSyn tSyn Tryd.underlying59 rowES Tryd.underlying108 Tryd.underlying110 rfl rfl Tryd.underlying9 cellsES cellsSt
  obtain ⟨ps, ⟨g2, t2, cs2, f2, p2, q2, hg2, ht2, hv2, hd2, _, hq2⟩, _, _⟩ := h2
  obtain ⟨ps1, ⟨g1, t1, cs1, f1, p1, q1, hg1, ht1, hv1, hd1, _, hq1⟩, _, _⟩ := h1
  obtain rfl := Option.some.inj (gPow.symm.trans hg2)
  obtain rfl := Option.some.inj (tPow.symm.trans ht2)
  rw [tab_pow] at hd2
  have e2 := Lib.cells_of_tab Tryd.underlying100 Tryd.underlying81 (by kernel_rfl) (by kernel_rfl) hd2
  refine ⟨⟨?_, ⟨_, by have h0 := World.var?_cell gSyn hvs 0; simpa using h0, Or.inr ⟨_, _, rfl⟩⟩, ⟨_, by have h0 := World.var?_cell gRng hvr 0; simpa using h0, Or.inr ⟨_, _, rfl⟩⟩⟩, ?_⟩
  · unfold Lib.TabIs
    rw [hv2, ← e2]
  · rcases Nat.lt_or_ge 5 W.heap.size with h | h
    · exact h
    · unfold World.var? at hv1
      rw [gBits] at hv1
      simp only [Option.bind_some] at hv1
      rw [Array.getElem?_eq_none h] at hv1
      cases hv1

/-- the door's own heap meets the condition -/
theorem door_met (os : Os) (args : Array Value) : laidMetH Tryd.prog seatLaid ((World.doorLaid Tryd.prog 400 os).forCall (fun _ _ => 0) ⟨#[], args, []⟩).memory :=
  laidMetH_of_parts3 (fuel := 8) (laidMet_of_run' 8 (by kernel_rfl) (by kernel_rfl)) (by kernel_rfl) (by kernel_rfl)
end Go.Proofs.YtgalfhlclmkbfaaDoor
