/-
  Layer 17 (parse): the walk of ParseExprs; conditions: what the variables of strconv hold.
  What the listed package variables of the seat give the walks of lex; a world that has them; no conditions.
-/
import Derived.Test.YtgalfhlclmkbfaaGreatDoorD49
import Derived.Test.YtgalfhlclmkbfaaGreatDoorD02
import Derived.Test.YtgalfhlclmkbfaaGreatDoorRows
import Derived.ProofKit
import Derived.LaidMore
import Derived.OpenShut
import Derived.Stop.Joined
import Derived.Stop.LaidErr
import Derived.Lib.LaidTab
set_option linter.unusedVariables false
set_option linter.unusedSimpArgs false
namespace Go.Proofs.YtgalfhlclmkbfaaGreatDoor
open Go.RowKit
set_option linter.unusedVariables false
set_option linter.unusedSimpArgs false
def ndOf (r : Rs (List Nd)) : Nd := match r with
 |.ok (x :: _, l) => if (hdT l).k = 0 then x else ndz
 |_ => ndz
theorem TrR.nd {w : World} {r : Rs (List Nd)} {e : Ending} {w' : World} (h : TrR w r e w') {E P : Nat} (hr : erOf r = (E, P)) :
  ∃ ak ck S, e = .returned (.tuple #[.agg (cN (ndOf r) ak ck).toArray, .int .i64 (P : Int), .int .i64 (E : Int)]) ∧ NdS w' [ndOf r] (cN (ndOf r) ak ck) S := by
 obtain ⟨k, t, vk, vn, vs, f, n, ak, ck, p, pl, er, S, rfl, h⟩ := h
 replace h := unhide h
 have hz : NdS w' [ndz] (cN ndz none 0) [] := (NdOk.leaf (lo := 0) (Nat.zero_le _) 0 [] 0 0 [] false 0).s
 match r, h, hr with
 |.error (a, q), h, hr =>
  obtain ⟨⟨rfl, rfl, rfl, rfl, rfl, rfl, rfl, rfl, rfl, rfl⟩, rfl, rfl⟩ := h
  cases hr
  exact ⟨none, 0, [], rfl, hz⟩
 |.ok (ns, l), h, hr =>
  unfold erOf at hr
  by_cases hk : (hdT l).k = 0
  ·simp only [hk, if_true] at hr
   cases hr
   obtain ⟨rfl, rfl, h1, h2⟩ := h.1 hk
   obtain ⟨⟨k', t', vk', vn', vs', f', ks', p'⟩, rfl⟩ := List.length_eq_one_iff.1 h1
   obtain ⟨rfl, rfl, rfl, rfl, rfl, rfl, rfl, rfl⟩ := one_of h2
   have e1 : ndOf (.ok ([⟨k, t, vk, vn, vs, f, ks', p⟩], l)) = ⟨k, t, vk, vn, vs, f, ks', p⟩ := by unfold ndOf; simp only [hk, if_true]
   rw [e1]
   exact ⟨ak, ck, S, rfl, h2.s⟩
  ·simp only [hk, if_false] at hr
   cases hr
   obtain ⟨⟨rfl, rfl, rfl, rfl, rfl, rfl, rfl, rfl, rfl, rfl⟩, rfl, rfl⟩ := h.2 hk
   have e1 : ndOf (.ok (ns, l)) = ndz := by
    unfold ndOf
    split
    ·rename_i e
     cases e
     rw [if_neg hk]
    ·rfl
   rw [e1]
   exact ⟨none, 0, [], rfl, hz⟩
set_option maxRecDepth 100000 in
set_option maxHeartbeats 2000000 in
theorem exprs_walk (s : ByteArray) (w : World) (he : Ev w) (hw6 : 5 < w.heap.size) :
  Calls Tryz.prog 4 #[.string s] w fun e w' => e = .returned (.bool true) ∧ Below w.heap.size w w' := by
 obtain ⟨r, hr⟩ := PgOf.tot 0 (by decide) s.data.toList
 obtain ⟨⟨E, P⟩, hx⟩ : ∃ x, erOf r = x := ⟨_, rfl⟩
 obtain ⟨⟨k, t, vk, vn, vs, f, ks, p⟩, hnd⟩ : ∃ x, ndOf r = x := ⟨_, rfl⟩
 obtain ⟨n, hn⟩ : ∃ n, ks.length = n := ⟨_, rfl⟩
 have CS := hide (shown_any w he hw6)
 have CE : Hid (∀ u, Below w.heap.size w u → Calls Tryz.prog 12 #[.string s] u fun e w' => ∃ (ak : Option Addr) (ck : Nat) (S : List Nat), e = .returned (.tuple #[.agg #[.int .i64 (k : Int), .string (bA t), .int .i64 (vk : Int), .int .i64 (vn : Int), .string (bA vs), .slice none 0 0, .slice none 0 0, .bool f, .slice ak n ck, .int .i64 (p : Int)], .int .i64 (P : Int), .int .i64 (E : Int)]) ∧ Hid (NdS w' [⟨k, t, vk, vn, vs, f, ks, p⟩] (cN ⟨k, t, vk, vn, vs, f, ks, p⟩ ak ck) S) ∧ Below u.heap.size u w') := hide (fun u hu => (expr_any s u (he.below hu hw6) (Nat.lt_of_lt_of_le hw6 hu.size) hr).mono (fun e w' h => by
  obtain ⟨ak, ck, S, e1, h2⟩ := h.1.nd hx
  rw [hnd] at e1 h2
  refine ⟨ak, ck, S, ?_, hide h2, h.2⟩
  rw [← hn]
  exact e1))
 have CD : Hid (∀ u, Below w.heap.size w u → Calls Tryz.prog 13 #[.string s] u fun e w' => ∃ (ak : Option Addr) (ck : Nat) (S : List Nat), e = .returned (.tuple #[.agg #[.int .i64 (k : Int), .string (bA t), .int .i64 (vk : Int), .int .i64 (vn : Int), .string (bA vs), .slice none 0 0, .slice none 0 0, .bool f, .slice ak n ck, .int .i64 (p : Int)], .int .i64 (P : Int), .int .i64 (E : Int)]) ∧ Hid (NdS w' [⟨k, t, vk, vn, vs, f, ks, p⟩] (cN ⟨k, t, vk, vn, vs, f, ks, p⟩ ak ck) S) ∧ Below u.heap.size u w') := hide (fun u hu => (exprD_any s u hr).mono (fun e w' h => by
  obtain ⟨ak, ck, S, e1, h2⟩ := h.1.nd hx
  rw [hnd] at e1 h2
  refine ⟨ak, ck, S, ?_, hide h2, h.2⟩
  rw [← hn]
  exact e1))
 have HN := hide hn
 have q1 : ((P : Int) == (P : Int)) = true := beq_self_eq_true _
 have q2 : ((E : Int) == (E : Int)) = true := beq_self_eq_true _
 clear he hw6 hr hx hnd hn
 go_enter Tryz.func4, Tryz.ntmps4
 go_wp2_with fail
 refine (unhide CS).mono ?_
 rintro e u1 ⟨rfl, b1⟩
 have B1 := hide b1
 clear b1 CS
 go_wp2_with fail
 refine ((unhide CE) u1 (unhide B1)).mono ?_
 rintro e u2 ⟨ak, ck, S, rfl, HS, b2⟩
 have B2 : Hid (Below w.heap.size w u2) := hide ((unhide B1).trans (b2.mono (unhide B1).size))
 clear b2 CE
 obtain ⟨Au3, Gu3⟩ := bx u2 #[.int .i64 (k : Int), .string (bA t), .int .i64 (vk : Int), .int .i64 (vn : Int), .string (bA vs), .slice none 0 0, .slice none 0 0, .bool f, .slice ak n ck, .int .i64 (p : Int)] 29
 obtain ⟨u3, hu3⟩ : ∃ u3, u2.alloc (.cells #[.int .i64 (k : Int), .string (bA t), .int .i64 (vk : Int), .int .i64 (vn : Int), .string (bA vs), .slice none 0 0, .slice none 0 0, .bool f, .slice ak n ck, .int .i64 (p : Int)] 29) = u3 := ⟨_, rfl⟩
 rw [hu3] at Au3 Gu3
 have B3 : Hid (Below w.heap.size w u3) := hide ((unhide B2).trans (Gu3.mono (unhide B2).size))
 have Wu3 := hide hu3
 have Xu3 := hide (And.intro Au3 Gu3)
 have S3 := hide ((unhide HS).later Gu3)
 clear Au3 Gu3 hu3
 go_upto_region 3 with fail
 rw [unhide Wu3]
 clear Wu3
 go_wp2_with fail
 refine ((unhide CD) _ (unhide B3)).mono ?_
 rintro e u4 ⟨bk, dk, S2, rfl, HM, b4⟩
 have B34 := hide b4
 have S4 := hide ((unhide S3).later b4)
 have B4 : Hid (Below w.heap.size w u4) := hide ((unhide B3).trans (b4.mono (unhide B3).size))
 clear b4 CD
 obtain ⟨Au5, Gu5⟩ := bx u4 #[.int .i64 (k : Int), .string (bA t), .int .i64 (vk : Int), .int .i64 (vn : Int), .string (bA vs), .slice none 0 0, .slice none 0 0, .bool f, .slice bk n dk, .int .i64 (p : Int)] 29
 obtain ⟨u5, hu5⟩ : ∃ u5, u4.alloc (.cells #[.int .i64 (k : Int), .string (bA t), .int .i64 (vk : Int), .int .i64 (vn : Int), .string (bA vs), .slice none 0 0, .slice none 0 0, .bool f, .slice bk n dk, .int .i64 (p : Int)] 29) = u5 := ⟨_, rfl⟩
 rw [hu5] at Au5 Gu5
 have B5 : Hid (Below w.heap.size w u5) := hide ((unhide B4).trans (Gu5.mono (unhide B4).size))
 have Wu5 := hide hu5
 have Xu5 := hide (And.intro Au5 Gu5)
 have S5 := hide ((unhide S4).later Gu5)
 have M5 := hide ((unhide HM).later Gu5)
 clear Au5 Gu5 hu5
 go_upto_region 4 with fail
 rw [unhide Wu5]
 clear Wu5
 have hc3 : u5.heap[u2.heap.size]? = u3.heap[u2.heap.size]? := by
  have h1 : u2.heap.size < u3.heap.size := (Array.getElem?_eq_some_iff.1 (unhide Xu3).1).1
  have h2 := (unhide B34).size
  rw [(unhide Xu5).2.block _ (by omega), (unhide B34).block _ h1]
 have N3 := hc3.trans (unhide Xu3).1
 obtain ⟨x0, x1, x2, x3, x4, x5, x6, x7, x8, x9⟩ := row_cell10 N3
 obtain ⟨y0, y1, y2, y3, y4, y5, y6, y7, y8, y9⟩ := row_cell10 (unhide Xu5).1
 obtain ⟨g3, hg3⟩ : ∃ g, u2.heap.size = g := ⟨_, rfl⟩
 obtain ⟨g5, hg5⟩ : ∃ g, u4.heap.size = g := ⟨_, rfl⟩
 rw [hg3] at x0 x1 x2 x3 x4 x5 x6 x7 x8 x9 ⊢
 rw [hg5] at y0 y1 y2 y3 y4 y5 y6 y7 y8 y9 ⊢
 clear hc3 N3 hg3 hg5
 have CM : Hid (Calls Tryz.prog 10 #[.agg #[.int .i64 (k : Int), .string (bA t), .int .i64 (vk : Int), .int .i64 (vn : Int), .string (bA vs), .slice none 0 0, .slice none 0 0, .bool f, .slice ak n ck, .int .i64 (p : Int)], .agg #[.int .i64 (k : Int), .string (bA t), .int .i64 (vk : Int), .int .i64 (vn : Int), .string (bA vs), .slice none 0 0, .slice none 0 0, .bool f, .slice bk n dk, .int .i64 (p : Int)], .bool true] u5 fun e w' => e = .returned (.bool true) ∧ Below u5.heap.size u5 w') := hide (by
  have h := same_any _ ⟨k, t, vk, vn, vs, f, ks, p⟩ ⟨k, t, vk, vn, vs, f, ks, p⟩ true ak bk ck dk S S2 u5 (Nat.le_refl _) (unhide S5) (unhide M5) ⟨rfl, fun _ => rfl⟩
  simp only [cN, ndC, unhide HN] at h
  exact h)
 clear S5 M5 HN
 go_wp2_with fail
 refine (unhide CM).mono ?_
 rintro e u6 ⟨rfl, b6⟩
 have B6 : Hid (Below w.heap.size w u6) := hide ((unhide B5).trans (b6.mono (unhide B5).size))
 clear b6 CM x0 x1 x2 x3 x4 x5 x6 x7 x8 x9 y0 y1 y2 y3 y4 y5 y6 y7 y8 y9
 go_wp2_with fail
 go_ret
 exact ⟨rfl, unhide B6⟩
end Go.Proofs.YtgalfhlclmkbfaaGreatDoor

namespace Go.Proofs.YtgalfhlclmkbfaaGreatDoor
open Go.ChangeShapes Go.WideShapes Go.ChangeAt Go.RowKit
set_option linter.unusedVariables false
theorem own : ownKnob Tryz.prog.godebug = none := by kernel_rfl
theorem tPow : (Tryz.prog.globals[2]?).map (·.type) = some 127 := by kernel_rfl
theorem tab_pow : (Rows.laid_internal_strconv_uint64pow10 : DataW Unit) = Lib.tabData .u64 Lib.pow10Tab := by kernel_rfl
theorem gSyn : Tryz.prog.globalNamed "strconv.ErrSyntax" = some 0 := by kernel_rfl
theorem tSyn : (Tryz.prog.globals[0]?).map (·.type) = some 82 := by kernel_rfl
theorem gRng : Tryz.prog.globalNamed "strconv.ErrRange" = some 1 := by kernel_rfl
theorem tRng : (Tryz.prog.globals[1]?).map (·.type) = some 82 := by kernel_rfl
theorem gBits : Tryz.prog.globalNamed "math/bits.deBruijn64tab" = some 5 := by kernel_rfl
theorem cellsES : Tryz.prog.cellsOf 134 = 1 := by kernel_rfl
theorem cellsSt : Tryz.prog.cellsOf 9 = 1 := by kernel_rfl
theorem starES : "*" ++ "errors.errorString" = "*errors.errorString" := by decide
theorem rowES (u : TypeId) (h : Tryz.prog.typeName? 3 u = some "*errors.errorString") : u = 132 :=
 typeName_ptr_named (nm := "errors.errorString") (by rw [starES]; kernel_rfl) (by kernel_rfl) (by decide) u (by rw [starES]; exact h)
def seatLaid : List (String × DataW Unit) := [("math/bits.deBruijn32tab", Rows.laid_math_bits_deBruijn32tab), ("math/bits.deBruijn64tab", Rows.laid_math_bits_deBruijn64tab), ("internal/strconv.uint64pow10", Rows.laid_internal_strconv_uint64pow10), ("strconv.ErrRange", Rows.laid_strconv_ErrRange), ("strconv.ErrSyntax", Rows.laid_strconv_ErrSyntax)]
theorem laid_tail {P : Program} {x : String × DataW Unit} {l : List (String × DataW Unit)} {w : World} (h : laidMet P (x :: l) w) : laidMet P l w := by
 obtain ⟨ps, ⟨g0, t0, cs0, f0, p0, q0, hg0, ht0, hv0, hd0, hl, hps⟩, hn, hf⟩ := h
 subst hps
 exact ⟨q0, hl, (List.nodup_append.1 hn).2.1, fun b off hm => hf b off (List.mem_append_right _ hm)⟩
theorem of_laid {W : World} (h : laidMetH Tryz.prog seatLaid W) : Ev W ∧ 5 < W.heap.size := by
 rw [MakeChecks.laidMetH_plain _ _ _ (by kernel_rfl)] at h
 have h1 := laid_tail h
 have h2 := laid_tail h1
 have h3 := laid_tail h2
 have h4 := laid_tail h3
 obtain ⟨ar, sr, hvr, -, -, -⟩ := laid_sentinel h3 gRng tRng Tryz.underlying82 rowES Tryz.underlying132 Tryz.underlying134 rfl rfl Tryz.underlying9 cellsES cellsSt
 obtain ⟨asy, ssy, hvs, -, -, -⟩ := laid_sentinel h4 gSyn tSyn Tryz.underlying82 rowES Tryz.underlying132 Tryz.underlying134 rfl rfl Tryz.underlying9 cellsES cellsSt
 obtain ⟨ps, ⟨g2, t2, cs2, f2, p2, q2, hg2, ht2, hv2, hd2, _, hq2⟩, _, _⟩ := h2
 obtain ⟨ps1, ⟨g1, t1, cs1, f1, p1, q1, hg1, ht1, hv1, hd1, _, hq1⟩, _, _⟩ := h1
 obtain rfl := Option.some.inj (gPow.symm.trans hg2)
 obtain rfl := Option.some.inj (tPow.symm.trans ht2)
 rw [tab_pow] at hd2
 have e2 := Lib.cells_of_tab Tryz.underlying127 Tryz.underlying94 (by kernel_rfl) (by kernel_rfl) hd2
 refine ⟨⟨?_, ⟨_, by have h0 := World.var?_cell gSyn hvs 0; simpa using h0, Or.inr ⟨_, _, rfl⟩⟩, ⟨_, by have h0 := World.var?_cell gRng hvr 0; simpa using h0, Or.inr ⟨_, _, rfl⟩⟩⟩, ?_⟩
 ·unfold Lib.TabIs
  rw [hv2, ← e2]
 ·rcases Nat.lt_or_ge 5 W.heap.size with h | h
  ·exact h
  ·unfold World.var? at hv1
   rw [gBits] at hv1
   simp only [Option.bind_some] at hv1
   rw [Array.getElem?_eq_none h] at hv1
   cases hv1
theorem door_met (os : Os) (args : Array Value) : laidMetH Tryz.prog seatLaid ((World.doorLaid Tryz.prog 400 os).forCall (fun _ _ => 0) ⟨#[], args, []⟩).memory :=
 laidMetH_of_parts3 (fuel := 8) (laidMet_of_run' 8 (by kernel_rfl) (by kernel_rfl)) (by kernel_rfl) (by kernel_rfl)
end Go.Proofs.YtgalfhlclmkbfaaGreatDoor
