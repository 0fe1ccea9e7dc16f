/-
  Layer 19 (check): Builtin, the program's and the document's; conditions: the table of operations as the program's text lays it.
-/
import Derived.Test.YtdjipdpibkcecaaDoorCTab
import Derived.Test.YtdjipdpibkcecaaDoorCRef2
namespace Go.Proofs.YtdjipdpibkcecaaDoor
open Go.RowKit
set_option linter.unusedVariables false
set_option linter.unusedSimpArgs false

/-- what Builtin answers -/
def bltA (s : ByteArray) : Int × Int × Bool := if (namA s).2 = true ∧ ¬ (namA s).1 < 27 then ((namA s).1, (infoA (namA s).1).1.2.2.1, true) else (0, 0, false)
theorem below_drewN {B : Nat} {a w : World} (h : Below B a w) (q : Nat) : Below B a (w.drewN q) := ⟨h.os, h.tape, h.output, h.size, h.block⟩
theorem inf_two {w : World} {g : Nat} {s : ByteArray} {a b c d f : Int} (h : w.heap[g]? = some (.cells #[.string s, .int .i64 a, .int .i64 b, .int .i64 c, .int .i64 d, .int .i64 f] 28 (0, 0))) : w.cell? ⟨g, 2, none⟩ = some (.int .i64 b) := by rw [cell_of_row w _ 2 _ _ (0, 0) h]; rfl

set_option maxRecDepth 100000 in
set_option maxHeartbeats 1000000 in
theorem bltn_any (s : ByteArray) (w : World) (h : Tab w) :
    Calls Tryd.prog 4 #[.string s] w fun e w' => e = .returned (.tuple #[.int .i64 (bltA s).1, .int .i64 (bltA s).2.1, .bool (bltA s).2.2]) ∧ Below w.heap.size w w' := by
  have C1 := hide (named_any s w h)
  obtain ⟨op, hop⟩ : ∃ r, (namA s).1 = r := ⟨_, rfl⟩
  obtain ⟨ok, hok⟩ : ∃ r, (namA s).2 = r := ⟨_, rfl⟩
  rw [hop, hok] at C1
  have HT := hide h
  clear h
  by_cases hc : ok = true ∧ ¬ op < 27
  · have e0 : bltA s = (op, (infoA op).1.2.2.1, true) := by unfold bltA; rw [hop, hok, if_pos hc]
    rw [e0]
    obtain ⟨rfl, h27⟩ := hc
    have C2 := hide (fun u (hu : Tab u) => info_any op u hu)
    obtain ⟨x, hx⟩ : ∃ x, (infoA op).1 = x := ⟨_, rfl⟩
    obtain ⟨r, hr⟩ : ∃ r, (infoA op).2 = r := ⟨_, rfl⟩
    rw [hx, hr] at C2
    rw [hx]
    obtain ⟨xn, xa, xb, xc, xd, xf⟩ := x
    simp only [infV] at C2 ⊢
    clear hx hr hop hok e0
    have d27 : decide (op < 27) = false := decide_eq_false h27
    go_enter Tryd.func4, Tryd.ntmps4
    go_wp2_with fail
    refine (unhide C1).mono ?_
    rintro e w1 ⟨rfl, b1⟩
    have T1 := hide ((unhide HT).below b1)
    have B1 := hide b1
    clear b1 HT C1
    go_wp2_with fail
    refine (unhide C2 w1 (unhide T1)).mono ?_
    rintro e w2 ⟨rfl, b2⟩
    have B2 := hide ((unhide B1).trans (b2.mono (unhide B1).size))
    clear b2 B1 T1 C2
    go_upto_region 5 with fail
    obtain ⟨w3, hw3⟩ : ∃ w3, w3 = w2.alloc (.cells #[.string xn, .int .i64 xa, .int .i64 xb, .int .i64 xc, .int .i64 xd, .int .i64 xf] 28) := ⟨_, rfl⟩
    rw [← hw3]
    have A3 : w3.heap[w2.heap.size]? = some (.cells #[.string xn, .int .i64 xa, .int .i64 xb, .int .i64 xc, .int .i64 xd, .int .i64 xf] 28 (0, 0)) := by rw [hw3]; exact heap_alloc_new w2 _
    have B3 := hide (show Below w.heap.size w w3 by rw [hw3]; exact (unhide B2).alloc (unhide B2).size _)
    have c2 := inf_two A3
    clear hw3 A3 B2
    go_quiet (fail)
    go_wp2_with fail
    go_ret3
    exact ⟨rfl, below_drewN (unhide B3) _⟩
  · have e0 : bltA s = (0, 0, false) := by unfold bltA; rw [hop, hok, if_neg hc]
    rw [e0]
    clear e0 hop hok HT
    cases ok with
    | false =>
      clear hc
      go_enter Tryd.func4, Tryd.ntmps4
      go_wp2_with fail
      refine (unhide C1).mono ?_
      rintro e w1 ⟨rfl, b1⟩
      have B1 := hide b1
      clear b1 C1
      go_wp2_with fail
      go_ret3
      exact ⟨rfl, unhide B1⟩
    | true =>
      have hlt : op < 27 := Decidable.byContradiction (fun h => hc ⟨rfl, h⟩)
      clear hc
      go_enter Tryd.func4, Tryd.ntmps4
      go_wp2_with fail
      refine (unhide C1).mono ?_
      rintro e w1 ⟨rfl, b1⟩
      have B1 := hide b1
      clear b1 C1
      go_wp2_with fail
      go_ret3
      exact ⟨rfl, unhide B1⟩

set_option maxRecDepth 100000 in
set_option maxHeartbeats 1000000 in
theorem rbltn_any (s : ByteArray) (w : World) (h : Tab w) :
    Calls Tryd.prog 5 #[.string s] w fun e w' => e = .returned (.tuple #[.int .i64 (bltA s).1, .int .i64 (bltA s).2.1, .bool (bltA s).2.2]) ∧ Below w.heap.size w w' := by
  have C1 := hide (rnamed_any s w)
  obtain ⟨op, hop⟩ : ∃ r, (namA s).1 = r := ⟨_, rfl⟩
  obtain ⟨ok, hok⟩ : ∃ r, (namA s).2 = r := ⟨_, rfl⟩
  rw [hop, hok] at C1
  have HT := hide h
  clear h
  by_cases hc : ok = true ∧ ¬ op < 27
  · have e0 : bltA s = (op, (infoA op).1.2.2.1, true) := by unfold bltA; rw [hop, hok, if_pos hc]
    rw [e0]
    obtain ⟨rfl, h27⟩ := hc
    have C2 := hide (fun u (hu : Tab u) => rinfo_any op u)
    obtain ⟨x, hx⟩ : ∃ x, (infoA op).1 = x := ⟨_, rfl⟩
    obtain ⟨r, hr⟩ : ∃ r, (infoA op).2 = r := ⟨_, rfl⟩
    rw [hx, hr] at C2
    rw [hx]
    obtain ⟨xn, xa, xb, xc, xd, xf⟩ := x
    simp only [infV] at C2 ⊢
    clear hx hr hop hok e0
    have d27 : decide (op < 27) = false := decide_eq_false h27
    go_enter Tryd.func5, Tryd.ntmps5
    go_wp2_with fail
    refine (unhide C1).mono ?_
    rintro e w1 ⟨rfl, b1⟩
    have T1 := hide ((unhide HT).below b1)
    have B1 := hide b1
    clear b1 HT C1
    go_wp2_with fail
    refine (unhide C2 w1 (unhide T1)).mono ?_
    rintro e w2 ⟨rfl, b2⟩
    have B2 := hide ((unhide B1).trans (b2.mono (unhide B1).size))
    clear b2 B1 T1 C2
    go_upto_region 5 with fail
    obtain ⟨w3, hw3⟩ : ∃ w3, w3 = w2.alloc (.cells #[.string xn, .int .i64 xa, .int .i64 xb, .int .i64 xc, .int .i64 xd, .int .i64 xf] 28) := ⟨_, rfl⟩
    rw [← hw3]
    have A3 : w3.heap[w2.heap.size]? = some (.cells #[.string xn, .int .i64 xa, .int .i64 xb, .int .i64 xc, .int .i64 xd, .int .i64 xf] 28 (0, 0)) := by rw [hw3]; exact heap_alloc_new w2 _
    have B3 := hide (show Below w.heap.size w w3 by rw [hw3]; exact (unhide B2).alloc (unhide B2).size _)
    have c2 := inf_two A3
    clear hw3 A3 B2
    go_quiet (fail)
    go_wp2_with fail
    go_ret3
    exact ⟨rfl, below_drewN (unhide B3) _⟩
  · have e0 : bltA s = (0, 0, false) := by unfold bltA; rw [hop, hok, if_neg hc]
    rw [e0]
    clear e0 hop hok HT
    cases ok with
    | false =>
      clear hc
      go_enter Tryd.func5, Tryd.ntmps5
      go_wp2_with fail
      refine (unhide C1).mono ?_
      rintro e w1 ⟨rfl, b1⟩
      have B1 := hide b1
      clear b1 C1
      go_wp2_with fail
      go_ret3
      exact ⟨rfl, unhide B1⟩
    | true =>
      have hlt : op < 27 := Decidable.byContradiction (fun h => hc ⟨rfl, h⟩)
      clear hc
      go_enter Tryd.func5, Tryd.ntmps5
      go_wp2_with fail
      refine (unhide C1).mono ?_
      rintro e w1 ⟨rfl, b1⟩
      have B1 := hide b1
      clear b1 C1
      go_wp2_with fail
      go_ret3
      exact ⟨rfl, unhide B1⟩
/-- the walk of CheckBuiltins -/
theorem nidx_slice : (OPS.tail.findIdx fun x => x.1.data.toList == [115, 108, 105, 99, 101]) = 29 := by decide +kernel
theorem bltA_slice : bltA ⟨#[115, 108, 105, 99, 101]⟩ = (30, 3, true) := by
  have e : nidx ⟨#[115, 108, 105, 99, 101]⟩ = 29 := by
    unfold nidx
    simp only [ByteArray.toList_eq]
    exact nidx_slice
  have e2 : namA ⟨#[115, 108, 105, 99, 101]⟩ = (30, true) := by
    unfold namA
    rw [e]
    rfl
  unfold bltA
  rw [e2]
  decide +kernel

set_option maxRecDepth 100000 in
set_option maxHeartbeats 1000000 in
theorem builtins_walk (s : ByteArray) (w : World) (h : Tab w) :
    Calls Tryd.prog 3 #[.string s] w fun e w' => e = .returned (.bool true) ∧ Below w.heap.size w w' := by
  have C0 := bltn_any ⟨#[115, 108, 105, 99, 101]⟩ w h
  rw [bltA_slice] at C0
  have H0 := hide C0
  have HT := hide h
  obtain ⟨⟨a, b, c⟩, hx⟩ : ∃ x, bltA s = x := ⟨_, rfl⟩
  have H1 := hide (fun u (hu : Tab u) => (by have := bltn_any s u hu; rw [hx] at this; exact this : Calls Tryd.prog 4 #[.string s] u fun e w' => e = .returned (.tuple #[.int .i64 a, .int .i64 b, .bool c]) ∧ Below u.heap.size u w'))
  have H2 := hide (fun u (hu : Tab u) => (by have := rbltn_any s u hu; rw [hx] at this; exact this : Calls Tryd.prog 5 #[.string s] u fun e w' => e = .returned (.tuple #[.int .i64 a, .int .i64 b, .bool c]) ∧ Below u.heap.size u w'))
  clear C0 h hx
  go_enter Tryd.func3, Tryd.ntmps3
  go_wp2_with fail
  refine (unhide H0).mono ?_
  rintro e w1 ⟨rfl, b1⟩
  have T1 := hide ((unhide HT).below b1)
  have B1 := hide b1
  clear b1 H0
  go_wp2_with fail
  refine (unhide H1 w1 (unhide T1)).mono ?_
  rintro e w2 ⟨rfl, b2⟩
  have T2 := hide ((unhide T1).below b2)
  have B2 := hide ((unhide B1).trans (b2.mono (unhide B1).size))
  clear b2 T1 B1 H1
  go_wp2_with fail
  refine (unhide H2 w2 (unhide T2)).mono ?_
  rintro e w3 ⟨rfl, b3⟩
  have B3 := hide ((unhide B2).trans (b3.mono (unhide B2).size))
  clear b3 T2 B2 H2
  have e1 : (a == a) = true := beq_self_eq_true a
  have e2 : (b == b) = true := beq_self_eq_true b
  have e3 : (c == c) = true := beq_self_eq_true c
  go_wp2_with fail
  go_ret
  try simp [e1, e2, e3]
  exact unhide B3
end Go.Proofs.YtdjipdpibkcecaaDoor
