/-
  What state.sides hands out, over two rows of entries: it hands each key's items on, in their order; no conditions but the form's own reach.
-/
import Derived.Test.YtlmgiimgmjbkeaaA30
set_option linter.unusedVariables false
set_option linter.unusedSimpArgs false
namespace Go.Proofs.Ytlmgiimgmjbkeaa
open Go.RowKit Go.Shelf
set_option linter.unusedVariables false
set_option linter.unusedSimpArgs false

set_option maxRecDepth 100000 in
set_option maxHeartbeats 8000000 in
attribute [local go_sem] Oper.semAt_some in
theorem sides_inE {α : Type} (en : α → Option Ce × Option Ce) (n : Nat) (hn : 1 ≤ n) (l : Nat) (ps : List α) (p1 p2 p3 p4 m1 c1 m2 c2 : Nat) (al bl : Option Addr) (ka kb : List ByteArray) (CA CB : Nat → Ce) (N : Nat → Prop) (Ts : TypeId → Prop) (hTs : Ts 55) (W : World)
    (h1 : W.heap[p1]? = some (.cells #[.slice al m1 c1] 22 (0, 0))) (h2 : W.heap[p2]? = some (.cells #[.slice bl m2 c2] 22 (0, 0))) (h3 : W.heap[p3]? = some (.cells #[.func (.func 22) #[] #[]] 53 (0, 0))) (h4 : W.heap[p4]? = some (.cells #[.func (.func 22) #[] #[]] 53 (0, 0)))
    (hN : N p1 ∧ N p2 ∧ N p3 ∧ N p4) (hNl : ∀ b, N b → b < W.heap.size) (hm1 : ka.length = m1) (hm2 : kb.length = m2) (hb1 : m1 ≤ 140737488351232) (hb2 : m2 ≤ 140737488351232) (hA : RwE W N ka al CA) (hB : RwE W N kb bl CB)
    (hps : ps.map en = (sdN ka kb (m1 + m2) 0 0).map (fun x => (x.1.map CA, x.2.map CB)))
    (J Jx : List α → World → Prop) (hJ : AbidesFrom W.heap.size J)
    (hY : ∀ pre x W1, J pre W1 → pre.length < ps.length → YieldAt Fence.wide (n - 1) Try.prog l #[.agg (sdE (en x).1).toArray, .agg (sdE (en x).2).toArray] W1 fun e W' =>
      (e = .returned (.bool true) ∧ J (pre ++ [x]) W' ∧ KeepS N Ts W1 W') ∨ (e = .returned (.bool false) ∧ Jx (pre ++ [x]) W')) (h0 : J [] W) :
    CallsIn Fence.wide n Try.prog 44 #[.func (.yield l) #[] #[], .pointer (some ⟨p1, 0, none⟩), .pointer (some ⟨p2, 0, none⟩), .pointer (some ⟨p3, 0, none⟩), .pointer (some ⟨p4, 0, none⟩)] W fun e W' => (∃ v, e = .returned v) ∧ ((∃ xs, xs = ps ∧ J xs W') ∨ (∃ pre, pre <+: ps ∧ Jx pre W')) := by
  have HB : Hid (∀ u, KeepS N Ts W u → (u.cell? ⟨p1, 0, none⟩ = some (.slice al m1 c1) ∧ u.cell? ⟨p2, 0, none⟩ = some (.slice bl m2 c2) ∧ u.cell? ⟨p3, 0, none⟩ = some (.func (.func 22) #[] #[]) ∧ u.cell? ⟨p4, 0, none⟩ = some (.func (.func 22) #[] #[])) ∧ RwE u N ka al CA ∧ RwE u N kb bl CB ∧ (p1 < u.heap.size ∧ p2 < u.heap.size ∧ p3 < u.heap.size ∧ p4 < u.heap.size)) := hide (fun u hu => by
    have q1 := (hu.blk p1 hN.1).trans h1
    have q2 := (hu.blk p2 hN.2.1).trans h2
    have q3 := (hu.blk p3 hN.2.2.1).trans h3
    have q4 := (hu.blk p4 hN.2.2.2).trans h4
    exact ⟨⟨by rw [cell_of_row u p1 0 _ _ (0, 0) q1]; rfl, by rw [cell_of_row u p2 0 _ _ (0, 0) q2]; rfl, by rw [cell_of_row u p3 0 _ _ (0, 0) q3]; rfl, by rw [cell_of_row u p4 0 _ _ (0, 0) q4]; rfl⟩, hA.to hu.blk, hB.to hu.blk, (Array.getElem?_eq_some_iff.1 q1).1, (Array.getElem?_eq_some_iff.1 q2).1, (Array.getElem?_eq_some_iff.1 q3).1, (Array.getElem?_eq_some_iff.1 q4).1⟩)
  have HM := hide (And.intro hm1 hm2)
  have HPS := hide hps
  have HTs := hide hTs
  have HNl := hide hNl
  clear hNl h1 h2 h3 h4 hN hm1 hm2 hA hB hps hTs
  refine callsIn_of_wp Try.func44 rfl trivial ?_ rfl
  simp only [Try.ntmps44, List.size_toArray, List.length_cons, List.length_nil, Nat.reduceAdd, Nat.reduceSub, Array.replicate_succ, Array.replicate_zero, List.push_toArray, List.append_toArray, List.nil_append, List.cons_append]
  gi_wp2
  gi_loopw [6, 7] (fun x y wr => ∃ i j k f : Nat, x = .int .i64 i ∧ y = .int .i64 j ∧ Hid (i ≤ m1 ∧ j ≤ m2 ∧ (m1 - i) + (m2 - j) ≤ f ∧ (ps.drop k).map en = (sdN ka kb f i j).map (fun x => (x.1.map CA, x.2.map CB))) ∧ J (ps.take k) wr ∧ Hid (KeepS N Ts W wr)) (fun x y _ => (m1 - (intOf x).toNat) + (m2 - (intOf y).toNat))
  case atStart => exact ⟨0, 0, 0, m1 + m2, rfl, rfl, hide ⟨by omega, by omega, by omega, by rw [List.drop_zero]; exact unhide HPS⟩, h0, hide (KeepS.refl _ _ _)⟩
  case round =>
    obtain ⟨i, j, k, f, rfl, rfl, HI, hJs, HKP⟩ := hrel
    obtain ⟨⟨e1, e2, e3, e4⟩, hA, hB, hlt⟩ := unhide HB wr (unhide HKP)
    obtain ⟨q, hq⟩ : ∃ q, wr.heap.size = q := ⟨_, rfl⟩
    obtain ⟨wa, hwa⟩ : ∃ wa, wr.alloc (.cells #[.string ⟨#[]⟩, .int .i64 0, .int .i64 0, .string ⟨#[]⟩, .slice none 0 0, .slice none 0 0, .bool false] 55) = wa := ⟨_, rfl⟩
    obtain ⟨q2, hq2⟩ : ∃ q2, wa.heap.size = q2 := ⟨_, rfl⟩
    obtain ⟨wb, hwb⟩ : ∃ wb, wa.alloc (.cells #[.string ⟨#[]⟩, .int .i64 0, .int .i64 0, .string ⟨#[]⟩, .slice none 0 0, .slice none 0 0, .bool false] 55) = wb := ⟨_, rfl⟩
    have HQ : Hid (q2 = q + 1 ∧ wb.heap.size = q + 2 ∧ wb.heap[q]? = some (.cells #[.string ⟨#[]⟩, .int .i64 0, .int .i64 0, .string ⟨#[]⟩, .slice none 0 0, .slice none 0 0, .bool false] 55 (0, 0)) ∧ wb.heap[q2]? = some (.cells #[.string ⟨#[]⟩, .int .i64 0, .int .i64 0, .string ⟨#[]⟩, .slice none 0 0, .slice none 0 0, .bool false] 55 (0, 0)) ∧ Below wr.heap.size wr wb) := hide (by
      have n1 : wa.heap[q]? = some (.cells #[.string ⟨#[]⟩, .int .i64 0, .int .i64 0, .string ⟨#[]⟩, .slice none 0 0, .slice none 0 0, .bool false] 55 (0, 0)) := by rw [← hwa, ← hq]; exact heap_alloc_new wr _
      have b1 : Below wr.heap.size wr wa := by rw [← hwa]; exact (Below.refl _ _).alloc (Nat.le_refl _) _
      have n2 : wb.heap[q2]? = some (.cells #[.string ⟨#[]⟩, .int .i64 0, .int .i64 0, .string ⟨#[]⟩, .slice none 0 0, .slice none 0 0, .bool false] 55 (0, 0)) := by rw [← hwb, ← hq2]; exact heap_alloc_new wa _
      have b2 : Below wa.heap.size wa wb := by rw [← hwb]; exact (Below.refl _ _).alloc (Nat.le_refl _) _
      have s1 : wa.heap.size = q + 1 := by rw [← hwa, ← hq]; simp
      have s2 : wb.heap.size = q + 2 := by rw [← hwb]; simp [s1]
      exact ⟨by omega, s2, (b2.block q (by omega)).trans n1, n2, b1.trans (b2.mono b1.size)⟩)
    by_cases hi : i < m1
    · have i1 : (i : Int) < (m1 : Int) := by omega
      obtain ⟨xk', hxk⟩ : ∃ x, ka[i]? = some x := ⟨_, List.getElem?_eq_getElem (by have := unhide HM; omega)⟩
      obtain ⟨hca, a, rfl, hNa, hlta, hcsa⟩ := hA i xk' hxk
      obtain ⟨xk, xt0, xt1, xt2, xt3, xt4, xt5, xt6, xt7, xt8, hep⟩ : ∃ xk xt0 xt1 xt2 xt3 xt4 xt5 xt6 xt7 xt8, CA i = (xk, xt0, xt1, xt2, xt3, xt4, xt5, xt6, xt7, xt8) := ⟨_, _, _, _, _, _, _, _, _, _, rfl⟩
      rw [hep] at hcsa hca
      obtain rfl : xk = xk' := hca
      have a0 : wr.cell? (a.add (i * 6)) = some (.string xk) := hcsa 0 _ rfl
      have a1 : wr.cell? ⟨(a.add (i * 6)).block, (a.add (i * 6)).off + 1, none⟩ = some (.int .i64 xt0) := hcsa 1 _ rfl
      have a2 : wr.cell? ⟨(a.add (i * 6)).block, (a.add (i * 6)).off + 2, none⟩ = some (.int .i64 xt1) := hcsa 2 _ rfl
      have a3 : wr.cell? ⟨(a.add (i * 6)).block, (a.add (i * 6)).off + 3, none⟩ = some (.string xt2) := hcsa 3 _ rfl
      have a4 : wr.cell? ⟨(a.add (i * 6)).block, (a.add (i * 6)).off + 4, none⟩ = some (.slice xt3 xt4 xt5) := hcsa 4 _ rfl
      have a5 : wr.cell? ⟨(a.add (i * 6)).block, (a.add (i * 6)).off + 5, none⟩ = some (.slice xt6 xt7 xt8) := hcsa 5 _ rfl
      by_cases hj : j < m2
      · have i2 : (j : Int) < (m2 : Int) := by omega
        have i3 : ¬ ((j : Int) = (m2 : Int)) := by omega
        have i4 : ((j : Int) == (m2 : Int)) = false := beq_eq_false_iff_ne.2 i3
        have i5 : ¬ ((i : Int) = (m1 : Int)) := by omega
        have i6 : ((i : Int) == (m1 : Int)) = false := beq_eq_false_iff_ne.2 i5
        obtain ⟨yk', hyk⟩ : ∃ x, kb[j]? = some x := ⟨_, List.getElem?_eq_getElem (by have := unhide HM; omega)⟩
        obtain ⟨hcb, b, rfl, hNb, hltb, hcsb⟩ := hB j yk' hyk
        obtain ⟨yk, yt0, yt1, yt2, yt3, yt4, yt5, yt6, yt7, yt8, hep2⟩ : ∃ yk yt0 yt1 yt2 yt3 yt4 yt5 yt6 yt7 yt8, CB j = (yk, yt0, yt1, yt2, yt3, yt4, yt5, yt6, yt7, yt8) := ⟨_, _, _, _, _, _, _, _, _, _, rfl⟩
        rw [hep2] at hcsb hcb
        obtain rfl : yk = yk' := hcb
        have b0 : wr.cell? (b.add (j * 6)) = some (.string yk) := hcsb 0 _ rfl
        have b1 : wr.cell? ⟨(b.add (j * 6)).block, (b.add (j * 6)).off + 1, none⟩ = some (.int .i64 yt0) := hcsb 1 _ rfl
        have b2 : wr.cell? ⟨(b.add (j * 6)).block, (b.add (j * 6)).off + 2, none⟩ = some (.int .i64 yt1) := hcsb 2 _ rfl
        have b3 : wr.cell? ⟨(b.add (j * 6)).block, (b.add (j * 6)).off + 3, none⟩ = some (.string yt2) := hcsb 3 _ rfl
        have b4 : wr.cell? ⟨(b.add (j * 6)).block, (b.add (j * 6)).off + 4, none⟩ = some (.slice yt3 yt4 yt5) := hcsb 4 _ rfl
        have b5 : wr.cell? ⟨(b.add (j * 6)).block, (b.add (j * 6)).off + 5, none⟩ = some (.slice yt6 yt7 yt8) := hcsb 5 _ rfl
        have bxy := bl_not xk.toList yk.toList
        have byx := bl_not yk.toList xk.toList
        have HTW := hide (inA_two hxk hyk)
        clear hxk hyk hcsa hcsb hA hB hNa hNb hlta hltb
        cases hlx : Op.bytesLess xk.toList yk.toList with
        | true =>
          rw [hlx] at bxy
          have r1 : (Op.bytesLess xk.toList yk.toList || xk.toList == yk.toList) = true := by rw [hlx]; rfl
          have r2 : (Op.bytesLess yk.toList xk.toList || yk.toList == xk.toList) = false := by cases h : (Op.bytesLess yk.toList xk.toList || yk.toList == xk.toList) with | false => rfl | true => rw [h] at bxy; cases bxy
          have hly : Op.bytesLess yk.toList xk.toList = false := by rw [Bool.or_eq_false_iff] at r2; exact r2.1
          have HST := hide (sd_take (some i) none (i + 1) j (by have := unhide HM; omega) (by have := unhide HM; have := unhide HI; omega) true false (by rw [(unhide HTW).1, hly]; rfl) (by rw [(unhide HTW).2, hlx]; rfl) rfl rfl rfl rfl (unhide HI).2.2.2)
          rw [Option.map_some, Option.map_none, hep] at HST
          clear bxy byx hlx hly HTW hep hep2
          refine wpIn_wide.2 ?_
          have HKX : Hid (∀ w', Below wr.heap.size wr w' → w'.cell? ⟨p1, 0, none⟩ = some (.slice (some a) m1 c1) ∧ w'.cell? ⟨p2, 0, none⟩ = some (.slice (some b) m2 c2) ∧ w'.cell? ⟨p3, 0, none⟩ = some (.func (.func 22) #[] #[]) ∧ w'.cell? ⟨p4, 0, none⟩ = some (.func (.func 22) #[] #[]) ∧ w'.cell? (a.add (i * 6)) = some (.string xk) ∧ w'.cell? ⟨(a.add (i * 6)).block, (a.add (i * 6)).off + 1, none⟩ = some (.int .i64 xt0) ∧ w'.cell? ⟨(a.add (i * 6)).block, (a.add (i * 6)).off + 2, none⟩ = some (.int .i64 xt1) ∧ w'.cell? ⟨(a.add (i * 6)).block, (a.add (i * 6)).off + 3, none⟩ = some (.string xt2) ∧ w'.cell? ⟨(a.add (i * 6)).block, (a.add (i * 6)).off + 4, none⟩ = some (.slice xt3 xt4 xt5) ∧ w'.cell? ⟨(a.add (i * 6)).block, (a.add (i * 6)).off + 5, none⟩ = some (.slice xt6 xt7 xt8) ∧ w'.cell? (b.add (j * 6)) = some (.string yk) ∧ w'.cell? ⟨(b.add (j * 6)).block, (b.add (j * 6)).off + 1, none⟩ = some (.int .i64 yt0) ∧ w'.cell? ⟨(b.add (j * 6)).block, (b.add (j * 6)).off + 2, none⟩ = some (.int .i64 yt1) ∧ w'.cell? ⟨(b.add (j * 6)).block, (b.add (j * 6)).off + 3, none⟩ = some (.string yt2) ∧ w'.cell? ⟨(b.add (j * 6)).block, (b.add (j * 6)).off + 4, none⟩ = some (.slice yt3 yt4 yt5) ∧ w'.cell? ⟨(b.add (j * 6)).block, (b.add (j * 6)).off + 5, none⟩ = some (.slice yt6 yt7 yt8)) := hide (fun w' hb2 => ⟨cell_later hb2 e1, cell_later hb2 e2, cell_later hb2 e3, cell_later hb2 e4, cell_later hb2 a0, cell_later hb2 a1, cell_later hb2 a2, cell_later hb2 a3, cell_later hb2 a4, cell_later hb2 a5, cell_later hb2 b0, cell_later hb2 b1, cell_later hb2 b2, cell_later hb2 b3, cell_later hb2 b4, cell_later hb2 b5⟩)
          have HX0 : Hid (Below wr.heap.size wr wb) := hide (unhide HQ).2.2.2.2
          have HZ0 : Hid (wb.heap[q]? = some (.cells #[.string ⟨#[]⟩, .int .i64 0, .int .i64 0, .string ⟨#[]⟩, .slice none 0 0, .slice none 0 0, .bool false] 55 (0, 0)) ∧ wb.heap[q2]? = some (.cells #[.string ⟨#[]⟩, .int .i64 0, .int .i64 0, .string ⟨#[]⟩, .slice none 0 0, .slice none 0 0, .bool false] 55 (0, 0))) := hide ⟨(unhide HQ).2.2.1, (unhide HQ).2.2.2.1⟩
          have HK4 : Hid (∀ w', Below wb.heap.size wb w' → w'.cell? ⟨p1, 0, none⟩ = some (.slice (some a) m1 c1) ∧ w'.cell? ⟨p2, 0, none⟩ = some (.slice (some b) m2 c2) ∧ w'.cell? ⟨p3, 0, none⟩ = some (.func (.func 22) #[] #[]) ∧ w'.cell? ⟨p4, 0, none⟩ = some (.func (.func 22) #[] #[]) ∧ w'.cell? (a.add (i * 6)) = some (.string xk) ∧ w'.cell? ⟨(a.add (i * 6)).block, (a.add (i * 6)).off + 1, none⟩ = some (.int .i64 xt0) ∧ w'.cell? ⟨(a.add (i * 6)).block, (a.add (i * 6)).off + 2, none⟩ = some (.int .i64 xt1) ∧ w'.cell? ⟨(a.add (i * 6)).block, (a.add (i * 6)).off + 3, none⟩ = some (.string xt2) ∧ w'.cell? ⟨(a.add (i * 6)).block, (a.add (i * 6)).off + 4, none⟩ = some (.slice xt3 xt4 xt5) ∧ w'.cell? ⟨(a.add (i * 6)).block, (a.add (i * 6)).off + 5, none⟩ = some (.slice xt6 xt7 xt8) ∧ w'.cell? (b.add (j * 6)) = some (.string yk) ∧ w'.cell? ⟨(b.add (j * 6)).block, (b.add (j * 6)).off + 1, none⟩ = some (.int .i64 yt0) ∧ w'.cell? ⟨(b.add (j * 6)).block, (b.add (j * 6)).off + 2, none⟩ = some (.int .i64 yt1) ∧ w'.cell? ⟨(b.add (j * 6)).block, (b.add (j * 6)).off + 3, none⟩ = some (.string yt2) ∧ w'.cell? ⟨(b.add (j * 6)).block, (b.add (j * 6)).off + 4, none⟩ = some (.slice yt3 yt4 yt5) ∧ w'.cell? ⟨(b.add (j * 6)).block, (b.add (j * 6)).off + 5, none⟩ = some (.slice yt6 yt7 yt8)) := hide (fun w' hb => unhide HKX w' ((unhide HX0).trans (hb.mono (unhide HX0).size)))
          go_upto_region 4 with fail
          go_cut [44] from 10 to 92 (fun r wx => r = .bool true ∧ Hid (Below wb.heap.size wb wx))
          case first =>
            go_region_held3 (fun w' => Below wb.heap.size wb w' ∧ w'.cell? ⟨p1, 0, none⟩ = some (.slice (some a) m1 c1) ∧ w'.cell? ⟨p2, 0, none⟩ = some (.slice (some b) m2 c2) ∧ w'.cell? ⟨p3, 0, none⟩ = some (.func (.func 22) #[] #[]) ∧ w'.cell? ⟨p4, 0, none⟩ = some (.func (.func 22) #[] #[]) ∧ w'.cell? (a.add (i * 6)) = some (.string xk) ∧ w'.cell? ⟨(a.add (i * 6)).block, (a.add (i * 6)).off + 1, none⟩ = some (.int .i64 xt0) ∧ w'.cell? ⟨(a.add (i * 6)).block, (a.add (i * 6)).off + 2, none⟩ = some (.int .i64 xt1) ∧ w'.cell? ⟨(a.add (i * 6)).block, (a.add (i * 6)).off + 3, none⟩ = some (.string xt2) ∧ w'.cell? ⟨(a.add (i * 6)).block, (a.add (i * 6)).off + 4, none⟩ = some (.slice xt3 xt4 xt5) ∧ w'.cell? ⟨(a.add (i * 6)).block, (a.add (i * 6)).off + 5, none⟩ = some (.slice xt6 xt7 xt8) ∧ w'.cell? (b.add (j * 6)) = some (.string yk) ∧ w'.cell? ⟨(b.add (j * 6)).block, (b.add (j * 6)).off + 1, none⟩ = some (.int .i64 yt0) ∧ w'.cell? ⟨(b.add (j * 6)).block, (b.add (j * 6)).off + 2, none⟩ = some (.int .i64 yt1) ∧ w'.cell? ⟨(b.add (j * 6)).block, (b.add (j * 6)).off + 3, none⟩ = some (.string yt2) ∧ w'.cell? ⟨(b.add (j * 6)).block, (b.add (j * 6)).off + 4, none⟩ = some (.slice yt3 yt4 yt5) ∧ w'.cell? ⟨(b.add (j * 6)).block, (b.add (j * 6)).off + 5, none⟩ = some (.slice yt6 yt7 yt8))
              (first | assumption | exact ⟨(Below.refl _ _).drew, unhide HK4 _ (Below.refl _ _).drew⟩ | (refine keepE HK4 (And.left (by assumption)) (by assumption); done) | (refine keepE HK4 ?_ ?_ <;> assumption))
              (first | (go_at_call 22; refine (ekey_any _ _ _ _ _ _ _ _ _ _ _).mono ?_; rintro e w5 ⟨rfl, b5⟩))
            have hb5 : Hid (Below wb.heap.size wb w5) := hide (And.left (by assumption))
            clear b5
            go_wp2_with fail
            go_meet
            exact ⟨rfl, hb5⟩
          case rest =>
            obtain ⟨rfl, HW4⟩ := hcut
            obtain ⟨wc4, hwc4⟩ : ∃ wc4, wc4 = wc := ⟨_, rfl⟩
            subst hwc4
            have HY4 : Hid (Below wr.heap.size wr wc4 ∧ wc4.heap[q]? = some (.cells #[.string ⟨#[]⟩, .int .i64 0, .int .i64 0, .string ⟨#[]⟩, .slice none 0 0, .slice none 0 0, .bool false] 55 (0, 0)) ∧ wc4.heap[q2]? = some (.cells #[.string ⟨#[]⟩, .int .i64 0, .int .i64 0, .string ⟨#[]⟩, .slice none 0 0, .slice none 0 0, .bool false] 55 (0, 0))) := hide ⟨(unhide HX0).trans ((unhide HW4).mono (unhide HX0).size), ((unhide HW4).block q (Array.getElem?_eq_some_iff.1 (unhide HZ0).1).1).trans (unhide HZ0).1, ((unhide HW4).block q2 (Array.getElem?_eq_some_iff.1 (unhide HZ0).2).1).trans (unhide HZ0).2⟩
            clear e1 e2 e3 e4 a0 a1 a2 a3 a4 a5 b0 b1 b2 b3 b4 b5 HW4 HK4 HX0 HZ0
            obtain ⟨e1, e2, e3, e4, a0, a1, a2, a3, a4, a5, b0, b1, b2, b3, b4, b5⟩ := unhide HKX wc4 (unhide HY4).1
            obtain ⟨z0, z1, z2, z3, z4, z5, z6⟩ := row_cell7 (unhide HY4).2.1
            have f0 := frozen_of_row wc4 q 0 _ _ (unhide HY4).2.1
            have f1 := frozen_of_row wc4 q 1 _ _ (unhide HY4).2.1
            have f2 := frozen_of_row wc4 q 2 _ _ (unhide HY4).2.1
            have f3 := frozen_of_row wc4 q 3 _ _ (unhide HY4).2.1
            have f4 := frozen_of_row wc4 q 4 _ _ (unhide HY4).2.1
            have f5 := frozen_of_row wc4 q 5 _ _ (unhide HY4).2.1
            have f6 := frozen_of_row wc4 q 6 _ _ (unhide HY4).2.1
            go_upto_region 6 with fail
            obtain ⟨wd4, hwd⟩ : ∃ wd, (((((((wc4.setCell ⟨q, 0, none⟩ (.string xk)).setCell ⟨q, 1, none⟩ (.int .i64 xt0)).setCell ⟨q, 2, none⟩ (.int .i64 xt1)).setCell ⟨q, 3, none⟩ (.string xt2)).setCell ⟨q, 4, none⟩ (.slice xt3 xt4 xt5)).setCell ⟨q, 5, none⟩ (.slice xt6 xt7 xt8)).setCell ⟨q, 6, none⟩ (.bool true)) = wd := ⟨_, rfl⟩
            have HX1 : Hid (Below wr.heap.size wr wd4) := hide (by rw [← hwd]; exact set7_below (unhide HY4).1 (by have := unhide HQ; omega) _ _ _ _ _ _ _)
            have HZ1 : Hid (wd4.heap[q]? = some (.cells #[.string xk, .int .i64 xt0, .int .i64 xt1, .string xt2, .slice xt3 xt4 xt5, .slice xt6 xt7 xt8, .bool true] 55 (0, 0)) ∧ wd4.heap[q2]? = some (.cells #[.string ⟨#[]⟩, .int .i64 0, .int .i64 0, .string ⟨#[]⟩, .slice none 0 0, .slice none 0 0, .bool false] 55 (0, 0))) := hide ⟨by rw [← hwd]; exact set7 (unhide HY4).2.1 _ _ _ _ _ _ _, by rw [← hwd]; exact (set7_other (by have := unhide HQ; omega) _ _ _ _ _ _ _).trans (unhide HY4).2.2⟩
            rw [hwd]
            clear hwd z0 z1 z2 z3 z4 z5 z6 f0 f1 f2 f3 f4 f5 f6 e1 e2 e3 e4 a0 a1 a2 a3 a4 a5 b0 b1 b2 b3 b4 b5 HY4
            have HK6 : Hid (∀ w', Below wd4.heap.size wd4 w' → w'.cell? ⟨p1, 0, none⟩ = some (.slice (some a) m1 c1) ∧ w'.cell? ⟨p2, 0, none⟩ = some (.slice (some b) m2 c2) ∧ w'.cell? ⟨p3, 0, none⟩ = some (.func (.func 22) #[] #[]) ∧ w'.cell? ⟨p4, 0, none⟩ = some (.func (.func 22) #[] #[]) ∧ w'.cell? (a.add (i * 6)) = some (.string xk) ∧ w'.cell? ⟨(a.add (i * 6)).block, (a.add (i * 6)).off + 1, none⟩ = some (.int .i64 xt0) ∧ w'.cell? ⟨(a.add (i * 6)).block, (a.add (i * 6)).off + 2, none⟩ = some (.int .i64 xt1) ∧ w'.cell? ⟨(a.add (i * 6)).block, (a.add (i * 6)).off + 3, none⟩ = some (.string xt2) ∧ w'.cell? ⟨(a.add (i * 6)).block, (a.add (i * 6)).off + 4, none⟩ = some (.slice xt3 xt4 xt5) ∧ w'.cell? ⟨(a.add (i * 6)).block, (a.add (i * 6)).off + 5, none⟩ = some (.slice xt6 xt7 xt8) ∧ w'.cell? (b.add (j * 6)) = some (.string yk) ∧ w'.cell? ⟨(b.add (j * 6)).block, (b.add (j * 6)).off + 1, none⟩ = some (.int .i64 yt0) ∧ w'.cell? ⟨(b.add (j * 6)).block, (b.add (j * 6)).off + 2, none⟩ = some (.int .i64 yt1) ∧ w'.cell? ⟨(b.add (j * 6)).block, (b.add (j * 6)).off + 3, none⟩ = some (.string yt2) ∧ w'.cell? ⟨(b.add (j * 6)).block, (b.add (j * 6)).off + 4, none⟩ = some (.slice yt3 yt4 yt5) ∧ w'.cell? ⟨(b.add (j * 6)).block, (b.add (j * 6)).off + 5, none⟩ = some (.slice yt6 yt7 yt8)) := hide (fun w' hb => unhide HKX w' ((unhide HX1).trans (hb.mono (unhide HX1).size)))
            obtain ⟨e1, e2, e3, e4, a0, a1, a2, a3, a4, a5, b0, b1, b2, b3, b4, b5⟩ := unhide HKX wd4 (unhide HX1)
            go_upto_region 6 with fail
            go_cut [74] from 10 to 92 (fun r wx => r = .bool false ∧ Hid (Below wd4.heap.size wd4 wx))
            case first =>
              go_region_held3 (fun w' => Below wd4.heap.size wd4 w' ∧ w'.cell? ⟨p1, 0, none⟩ = some (.slice (some a) m1 c1) ∧ w'.cell? ⟨p2, 0, none⟩ = some (.slice (some b) m2 c2) ∧ w'.cell? ⟨p3, 0, none⟩ = some (.func (.func 22) #[] #[]) ∧ w'.cell? ⟨p4, 0, none⟩ = some (.func (.func 22) #[] #[]) ∧ w'.cell? (a.add (i * 6)) = some (.string xk) ∧ w'.cell? ⟨(a.add (i * 6)).block, (a.add (i * 6)).off + 1, none⟩ = some (.int .i64 xt0) ∧ w'.cell? ⟨(a.add (i * 6)).block, (a.add (i * 6)).off + 2, none⟩ = some (.int .i64 xt1) ∧ w'.cell? ⟨(a.add (i * 6)).block, (a.add (i * 6)).off + 3, none⟩ = some (.string xt2) ∧ w'.cell? ⟨(a.add (i * 6)).block, (a.add (i * 6)).off + 4, none⟩ = some (.slice xt3 xt4 xt5) ∧ w'.cell? ⟨(a.add (i * 6)).block, (a.add (i * 6)).off + 5, none⟩ = some (.slice xt6 xt7 xt8) ∧ w'.cell? (b.add (j * 6)) = some (.string yk) ∧ w'.cell? ⟨(b.add (j * 6)).block, (b.add (j * 6)).off + 1, none⟩ = some (.int .i64 yt0) ∧ w'.cell? ⟨(b.add (j * 6)).block, (b.add (j * 6)).off + 2, none⟩ = some (.int .i64 yt1) ∧ w'.cell? ⟨(b.add (j * 6)).block, (b.add (j * 6)).off + 3, none⟩ = some (.string yt2) ∧ w'.cell? ⟨(b.add (j * 6)).block, (b.add (j * 6)).off + 4, none⟩ = some (.slice yt3 yt4 yt5) ∧ w'.cell? ⟨(b.add (j * 6)).block, (b.add (j * 6)).off + 5, none⟩ = some (.slice yt6 yt7 yt8))
                (first | assumption | exact ⟨(Below.refl _ _).drew, unhide HK6 _ (Below.refl _ _).drew⟩ | (refine keepE HK6 (And.left (by assumption)) (by assumption); done) | (refine keepE HK6 ?_ ?_ <;> assumption))
                (first | (go_at_call 22; refine (ekey_any _ _ _ _ _ _ _ _ _ _ _).mono ?_; rintro e w5 ⟨rfl, b5⟩))
              have hb5 : Hid (Below wd4.heap.size wd4 w5) := hide (And.left (by assumption))
              clear b5
              go_wp2_with fail
              go_meet
              exact ⟨rfl, hb5⟩
            case rest =>
              obtain ⟨rfl, HW6⟩ := hcut
              obtain ⟨wc6, hwc6⟩ : ∃ wc6, wc6 = wc := ⟨_, rfl⟩
              subst hwc6
              have HY6 : Hid (Below wr.heap.size wr wc6 ∧ wc6.heap[q]? = some (.cells #[.string xk, .int .i64 xt0, .int .i64 xt1, .string xt2, .slice xt3 xt4 xt5, .slice xt6 xt7 xt8, .bool true] 55 (0, 0)) ∧ wc6.heap[q2]? = some (.cells #[.string ⟨#[]⟩, .int .i64 0, .int .i64 0, .string ⟨#[]⟩, .slice none 0 0, .slice none 0 0, .bool false] 55 (0, 0))) := hide ⟨(unhide HX1).trans ((unhide HW6).mono (unhide HX1).size), ((unhide HW6).block q (Array.getElem?_eq_some_iff.1 (unhide HZ1).1).1).trans (unhide HZ1).1, ((unhide HW6).block q2 (Array.getElem?_eq_some_iff.1 (unhide HZ1).2).1).trans (unhide HZ1).2⟩
              clear e1 e2 e3 e4 a0 a1 a2 a3 a4 a5 b0 b1 b2 b3 b4 b5 HW6 HK6 HX1 HZ1
              have HX2 : Hid (Below wr.heap.size wr wc6) := hide (unhide HY6).1
              have HZ2 : Hid (wc6.heap[q]? = some (.cells #[.string xk, .int .i64 xt0, .int .i64 xt1, .string xt2, .slice xt3 xt4 xt5, .slice xt6 xt7 xt8, .bool true] 55 (0, 0)) ∧ wc6.heap[q2]? = some (.cells #[.string ⟨#[]⟩, .int .i64 0, .int .i64 0, .string ⟨#[]⟩, .slice none 0 0, .slice none 0 0, .bool false] 55 (0, 0))) := hide (unhide HY6).2
              clear HY6
              go_upto_region 8 with fail
              obtain ⟨z0, z1, z2, z3, z4, z5, z6⟩ := row_cell7 (unhide HZ2).1
              obtain ⟨y0, y1, y2, y3, y4, y5, y6⟩ := row_cell7 (unhide HZ2).2
              have hJ2 : J (ps.take k) wc6 := hJ _ _ _ none hJs ⟨(unhide HX2).os, (unhide HX2).tape, (unhide HX2).output, (unhide HX2).size, fun b hb _ => (unhide HX2).block b hb⟩ (fun r h => by cases h)
              obtain ⟨p, f', htk, hep', hmp, hff, hkl⟩ := unhide HST
              obtain ⟨fn, tmps, assign, body, hy, hR⟩ := hY _ p _ hJ2 hkl
              rw [htk] at hR
              rw [hep'] at hy
              dsimp only [sdE] at hy
              have HNX := hide (And.intro hmp hff)
              have HZ3 := HZ2
              clear hJ2 htk hep' hmp hff hkl HST hJs
              refine (wpIn_wide (n := n)).1 ?_
              gi_wp2
              refine hR.mono ?_
              rintro e W3 (⟨rfl, hJ3, hk3⟩ | ⟨rfl, hJx3⟩)
              · have HK3 : Hid (KeepS N Ts W W3) := hide (((unhide HKP).trans (KeepS.of_below (unhide HX2) (fun b hb => (unhide HKP).lt hb (unhide HNl b hb)))).trans hk3)
                obtain ⟨_, _, _, _, _, _, z6'⟩ := row_cell7 (hk3.box q _ _ _ (unhide HTs) (unhide HZ2).1)
                obtain ⟨_, _, _, _, _, _, y6'⟩ := row_cell7 (hk3.box q2 _ _ _ (unhide HTs) (unhide HZ2).2)
                clear hk3 z0 z1 z2 z3 z4 z5 z6 y0 y1 y2 y3 y4 y5 y6
                gi_wp2
                go_wp2_with fail
                go_roundw
                case rel => exact ⟨i + 1, j, k + 1, f', by first | rfl | simp | go_num, by first | rfl | simp | go_num, hide ⟨by have := unhide HI; omega, by have := unhide HI; omega, by have := unhide HI; have := (unhide HNX).2; omega, (unhide HNX).1⟩, hJ3, HK3⟩
                case measure => simp [intOf]; omega
              · clear z0 z1 z2 z3 z4 z5 z6 y0 y1 y2 y3 y4 y5 y6
                gi_wp2
                go_wp2_with fail
                refine bodyPost_ret (results_none rfl _ _ _) rfl ?_
                exact ⟨⟨_, rfl⟩, .inr ⟨_, List.take_prefix _ _, hJx3⟩⟩
        | false =>
          cases hly : Op.bytesLess yk.toList xk.toList with
          | true =>
            rw [hly] at byx
            have r1 : (Op.bytesLess xk.toList yk.toList || xk.toList == yk.toList) = false := by cases h : (Op.bytesLess xk.toList yk.toList || xk.toList == yk.toList) with | false => rfl | true => rw [h] at byx; cases byx
            have r2 : (Op.bytesLess yk.toList xk.toList || yk.toList == xk.toList) = true := by rw [hly]; rfl
            have HST := hide (sd_take none (some j) i (j + 1) (by have := unhide HM; omega) (by have := unhide HM; have := unhide HI; omega) false true (by rw [(unhide HTW).1, hly]; rfl) (by rw [(unhide HTW).2, hlx]; rfl) rfl rfl rfl rfl (unhide HI).2.2.2)
            rw [Option.map_some, Option.map_none, hep2] at HST
            clear bxy byx hlx hly HTW hep hep2
            refine wpIn_wide.2 ?_
            have HKX : Hid (∀ w', Below wr.heap.size wr w' → w'.cell? ⟨p1, 0, none⟩ = some (.slice (some a) m1 c1) ∧ w'.cell? ⟨p2, 0, none⟩ = some (.slice (some b) m2 c2) ∧ w'.cell? ⟨p3, 0, none⟩ = some (.func (.func 22) #[] #[]) ∧ w'.cell? ⟨p4, 0, none⟩ = some (.func (.func 22) #[] #[]) ∧ w'.cell? (a.add (i * 6)) = some (.string xk) ∧ w'.cell? ⟨(a.add (i * 6)).block, (a.add (i * 6)).off + 1, none⟩ = some (.int .i64 xt0) ∧ w'.cell? ⟨(a.add (i * 6)).block, (a.add (i * 6)).off + 2, none⟩ = some (.int .i64 xt1) ∧ w'.cell? ⟨(a.add (i * 6)).block, (a.add (i * 6)).off + 3, none⟩ = some (.string xt2) ∧ w'.cell? ⟨(a.add (i * 6)).block, (a.add (i * 6)).off + 4, none⟩ = some (.slice xt3 xt4 xt5) ∧ w'.cell? ⟨(a.add (i * 6)).block, (a.add (i * 6)).off + 5, none⟩ = some (.slice xt6 xt7 xt8) ∧ w'.cell? (b.add (j * 6)) = some (.string yk) ∧ w'.cell? ⟨(b.add (j * 6)).block, (b.add (j * 6)).off + 1, none⟩ = some (.int .i64 yt0) ∧ w'.cell? ⟨(b.add (j * 6)).block, (b.add (j * 6)).off + 2, none⟩ = some (.int .i64 yt1) ∧ w'.cell? ⟨(b.add (j * 6)).block, (b.add (j * 6)).off + 3, none⟩ = some (.string yt2) ∧ w'.cell? ⟨(b.add (j * 6)).block, (b.add (j * 6)).off + 4, none⟩ = some (.slice yt3 yt4 yt5) ∧ w'.cell? ⟨(b.add (j * 6)).block, (b.add (j * 6)).off + 5, none⟩ = some (.slice yt6 yt7 yt8)) := hide (fun w' hb2 => ⟨cell_later hb2 e1, cell_later hb2 e2, cell_later hb2 e3, cell_later hb2 e4, cell_later hb2 a0, cell_later hb2 a1, cell_later hb2 a2, cell_later hb2 a3, cell_later hb2 a4, cell_later hb2 a5, cell_later hb2 b0, cell_later hb2 b1, cell_later hb2 b2, cell_later hb2 b3, cell_later hb2 b4, cell_later hb2 b5⟩)
            have HX0 : Hid (Below wr.heap.size wr wb) := hide (unhide HQ).2.2.2.2
            have HZ0 : Hid (wb.heap[q]? = some (.cells #[.string ⟨#[]⟩, .int .i64 0, .int .i64 0, .string ⟨#[]⟩, .slice none 0 0, .slice none 0 0, .bool false] 55 (0, 0)) ∧ wb.heap[q2]? = some (.cells #[.string ⟨#[]⟩, .int .i64 0, .int .i64 0, .string ⟨#[]⟩, .slice none 0 0, .slice none 0 0, .bool false] 55 (0, 0))) := hide ⟨(unhide HQ).2.2.1, (unhide HQ).2.2.2.1⟩
            have HK4 : Hid (∀ w', Below wb.heap.size wb w' → w'.cell? ⟨p1, 0, none⟩ = some (.slice (some a) m1 c1) ∧ w'.cell? ⟨p2, 0, none⟩ = some (.slice (some b) m2 c2) ∧ w'.cell? ⟨p3, 0, none⟩ = some (.func (.func 22) #[] #[]) ∧ w'.cell? ⟨p4, 0, none⟩ = some (.func (.func 22) #[] #[]) ∧ w'.cell? (a.add (i * 6)) = some (.string xk) ∧ w'.cell? ⟨(a.add (i * 6)).block, (a.add (i * 6)).off + 1, none⟩ = some (.int .i64 xt0) ∧ w'.cell? ⟨(a.add (i * 6)).block, (a.add (i * 6)).off + 2, none⟩ = some (.int .i64 xt1) ∧ w'.cell? ⟨(a.add (i * 6)).block, (a.add (i * 6)).off + 3, none⟩ = some (.string xt2) ∧ w'.cell? ⟨(a.add (i * 6)).block, (a.add (i * 6)).off + 4, none⟩ = some (.slice xt3 xt4 xt5) ∧ w'.cell? ⟨(a.add (i * 6)).block, (a.add (i * 6)).off + 5, none⟩ = some (.slice xt6 xt7 xt8) ∧ w'.cell? (b.add (j * 6)) = some (.string yk) ∧ w'.cell? ⟨(b.add (j * 6)).block, (b.add (j * 6)).off + 1, none⟩ = some (.int .i64 yt0) ∧ w'.cell? ⟨(b.add (j * 6)).block, (b.add (j * 6)).off + 2, none⟩ = some (.int .i64 yt1) ∧ w'.cell? ⟨(b.add (j * 6)).block, (b.add (j * 6)).off + 3, none⟩ = some (.string yt2) ∧ w'.cell? ⟨(b.add (j * 6)).block, (b.add (j * 6)).off + 4, none⟩ = some (.slice yt3 yt4 yt5) ∧ w'.cell? ⟨(b.add (j * 6)).block, (b.add (j * 6)).off + 5, none⟩ = some (.slice yt6 yt7 yt8)) := hide (fun w' hb => unhide HKX w' ((unhide HX0).trans (hb.mono (unhide HX0).size)))
            go_upto_region 4 with fail
            go_cut [44] from 10 to 92 (fun r wx => r = .bool false ∧ Hid (Below wb.heap.size wb wx))
            case first =>
              go_region_held3 (fun w' => Below wb.heap.size wb w' ∧ w'.cell? ⟨p1, 0, none⟩ = some (.slice (some a) m1 c1) ∧ w'.cell? ⟨p2, 0, none⟩ = some (.slice (some b) m2 c2) ∧ w'.cell? ⟨p3, 0, none⟩ = some (.func (.func 22) #[] #[]) ∧ w'.cell? ⟨p4, 0, none⟩ = some (.func (.func 22) #[] #[]) ∧ w'.cell? (a.add (i * 6)) = some (.string xk) ∧ w'.cell? ⟨(a.add (i * 6)).block, (a.add (i * 6)).off + 1, none⟩ = some (.int .i64 xt0) ∧ w'.cell? ⟨(a.add (i * 6)).block, (a.add (i * 6)).off + 2, none⟩ = some (.int .i64 xt1) ∧ w'.cell? ⟨(a.add (i * 6)).block, (a.add (i * 6)).off + 3, none⟩ = some (.string xt2) ∧ w'.cell? ⟨(a.add (i * 6)).block, (a.add (i * 6)).off + 4, none⟩ = some (.slice xt3 xt4 xt5) ∧ w'.cell? ⟨(a.add (i * 6)).block, (a.add (i * 6)).off + 5, none⟩ = some (.slice xt6 xt7 xt8) ∧ w'.cell? (b.add (j * 6)) = some (.string yk) ∧ w'.cell? ⟨(b.add (j * 6)).block, (b.add (j * 6)).off + 1, none⟩ = some (.int .i64 yt0) ∧ w'.cell? ⟨(b.add (j * 6)).block, (b.add (j * 6)).off + 2, none⟩ = some (.int .i64 yt1) ∧ w'.cell? ⟨(b.add (j * 6)).block, (b.add (j * 6)).off + 3, none⟩ = some (.string yt2) ∧ w'.cell? ⟨(b.add (j * 6)).block, (b.add (j * 6)).off + 4, none⟩ = some (.slice yt3 yt4 yt5) ∧ w'.cell? ⟨(b.add (j * 6)).block, (b.add (j * 6)).off + 5, none⟩ = some (.slice yt6 yt7 yt8))
                (first | assumption | exact ⟨(Below.refl _ _).drew, unhide HK4 _ (Below.refl _ _).drew⟩ | (refine keepE HK4 (And.left (by assumption)) (by assumption); done) | (refine keepE HK4 ?_ ?_ <;> assumption))
                (first | (go_at_call 22; refine (ekey_any _ _ _ _ _ _ _ _ _ _ _).mono ?_; rintro e w5 ⟨rfl, b5⟩))
              have hb5 : Hid (Below wb.heap.size wb w5) := hide (And.left (by assumption))
              clear b5
              go_wp2_with fail
              go_meet
              exact ⟨rfl, hb5⟩
            case rest =>
              obtain ⟨rfl, HW4⟩ := hcut
              obtain ⟨wc4, hwc4⟩ : ∃ wc4, wc4 = wc := ⟨_, rfl⟩
              subst hwc4
              have HY4 : Hid (Below wr.heap.size wr wc4 ∧ wc4.heap[q]? = some (.cells #[.string ⟨#[]⟩, .int .i64 0, .int .i64 0, .string ⟨#[]⟩, .slice none 0 0, .slice none 0 0, .bool false] 55 (0, 0)) ∧ wc4.heap[q2]? = some (.cells #[.string ⟨#[]⟩, .int .i64 0, .int .i64 0, .string ⟨#[]⟩, .slice none 0 0, .slice none 0 0, .bool false] 55 (0, 0))) := hide ⟨(unhide HX0).trans ((unhide HW4).mono (unhide HX0).size), ((unhide HW4).block q (Array.getElem?_eq_some_iff.1 (unhide HZ0).1).1).trans (unhide HZ0).1, ((unhide HW4).block q2 (Array.getElem?_eq_some_iff.1 (unhide HZ0).2).1).trans (unhide HZ0).2⟩
              clear e1 e2 e3 e4 a0 a1 a2 a3 a4 a5 b0 b1 b2 b3 b4 b5 HW4 HK4 HX0 HZ0
              have HX1 : Hid (Below wr.heap.size wr wc4) := hide (unhide HY4).1
              have HZ1 : Hid (wc4.heap[q]? = some (.cells #[.string ⟨#[]⟩, .int .i64 0, .int .i64 0, .string ⟨#[]⟩, .slice none 0 0, .slice none 0 0, .bool false] 55 (0, 0)) ∧ wc4.heap[q2]? = some (.cells #[.string ⟨#[]⟩, .int .i64 0, .int .i64 0, .string ⟨#[]⟩, .slice none 0 0, .slice none 0 0, .bool false] 55 (0, 0))) := hide (unhide HY4).2
              clear HY4
              have HK6 : Hid (∀ w', Below wc4.heap.size wc4 w' → w'.cell? ⟨p1, 0, none⟩ = some (.slice (some a) m1 c1) ∧ w'.cell? ⟨p2, 0, none⟩ = some (.slice (some b) m2 c2) ∧ w'.cell? ⟨p3, 0, none⟩ = some (.func (.func 22) #[] #[]) ∧ w'.cell? ⟨p4, 0, none⟩ = some (.func (.func 22) #[] #[]) ∧ w'.cell? (a.add (i * 6)) = some (.string xk) ∧ w'.cell? ⟨(a.add (i * 6)).block, (a.add (i * 6)).off + 1, none⟩ = some (.int .i64 xt0) ∧ w'.cell? ⟨(a.add (i * 6)).block, (a.add (i * 6)).off + 2, none⟩ = some (.int .i64 xt1) ∧ w'.cell? ⟨(a.add (i * 6)).block, (a.add (i * 6)).off + 3, none⟩ = some (.string xt2) ∧ w'.cell? ⟨(a.add (i * 6)).block, (a.add (i * 6)).off + 4, none⟩ = some (.slice xt3 xt4 xt5) ∧ w'.cell? ⟨(a.add (i * 6)).block, (a.add (i * 6)).off + 5, none⟩ = some (.slice xt6 xt7 xt8) ∧ w'.cell? (b.add (j * 6)) = some (.string yk) ∧ w'.cell? ⟨(b.add (j * 6)).block, (b.add (j * 6)).off + 1, none⟩ = some (.int .i64 yt0) ∧ w'.cell? ⟨(b.add (j * 6)).block, (b.add (j * 6)).off + 2, none⟩ = some (.int .i64 yt1) ∧ w'.cell? ⟨(b.add (j * 6)).block, (b.add (j * 6)).off + 3, none⟩ = some (.string yt2) ∧ w'.cell? ⟨(b.add (j * 6)).block, (b.add (j * 6)).off + 4, none⟩ = some (.slice yt3 yt4 yt5) ∧ w'.cell? ⟨(b.add (j * 6)).block, (b.add (j * 6)).off + 5, none⟩ = some (.slice yt6 yt7 yt8)) := hide (fun w' hb => unhide HKX w' ((unhide HX1).trans (hb.mono (unhide HX1).size)))
              obtain ⟨e1, e2, e3, e4, a0, a1, a2, a3, a4, a5, b0, b1, b2, b3, b4, b5⟩ := unhide HKX wc4 (unhide HX1)
              go_upto_region 6 with fail
              go_cut [74] from 10 to 92 (fun r wx => r = .bool true ∧ Hid (Below wc4.heap.size wc4 wx))
              case first =>
                go_region_held3 (fun w' => Below wc4.heap.size wc4 w' ∧ w'.cell? ⟨p1, 0, none⟩ = some (.slice (some a) m1 c1) ∧ w'.cell? ⟨p2, 0, none⟩ = some (.slice (some b) m2 c2) ∧ w'.cell? ⟨p3, 0, none⟩ = some (.func (.func 22) #[] #[]) ∧ w'.cell? ⟨p4, 0, none⟩ = some (.func (.func 22) #[] #[]) ∧ w'.cell? (a.add (i * 6)) = some (.string xk) ∧ w'.cell? ⟨(a.add (i * 6)).block, (a.add (i * 6)).off + 1, none⟩ = some (.int .i64 xt0) ∧ w'.cell? ⟨(a.add (i * 6)).block, (a.add (i * 6)).off + 2, none⟩ = some (.int .i64 xt1) ∧ w'.cell? ⟨(a.add (i * 6)).block, (a.add (i * 6)).off + 3, none⟩ = some (.string xt2) ∧ w'.cell? ⟨(a.add (i * 6)).block, (a.add (i * 6)).off + 4, none⟩ = some (.slice xt3 xt4 xt5) ∧ w'.cell? ⟨(a.add (i * 6)).block, (a.add (i * 6)).off + 5, none⟩ = some (.slice xt6 xt7 xt8) ∧ w'.cell? (b.add (j * 6)) = some (.string yk) ∧ w'.cell? ⟨(b.add (j * 6)).block, (b.add (j * 6)).off + 1, none⟩ = some (.int .i64 yt0) ∧ w'.cell? ⟨(b.add (j * 6)).block, (b.add (j * 6)).off + 2, none⟩ = some (.int .i64 yt1) ∧ w'.cell? ⟨(b.add (j * 6)).block, (b.add (j * 6)).off + 3, none⟩ = some (.string yt2) ∧ w'.cell? ⟨(b.add (j * 6)).block, (b.add (j * 6)).off + 4, none⟩ = some (.slice yt3 yt4 yt5) ∧ w'.cell? ⟨(b.add (j * 6)).block, (b.add (j * 6)).off + 5, none⟩ = some (.slice yt6 yt7 yt8))
                  (first | assumption | exact ⟨(Below.refl _ _).drew, unhide HK6 _ (Below.refl _ _).drew⟩ | (refine keepE HK6 (And.left (by assumption)) (by assumption); done) | (refine keepE HK6 ?_ ?_ <;> assumption))
                  (first | (go_at_call 22; refine (ekey_any _ _ _ _ _ _ _ _ _ _ _).mono ?_; rintro e w5 ⟨rfl, b5⟩))
                have hb5 : Hid (Below wc4.heap.size wc4 w5) := hide (And.left (by assumption))
                clear b5
                go_wp2_with fail
                go_meet
                exact ⟨rfl, hb5⟩
              case rest =>
                obtain ⟨rfl, HW6⟩ := hcut
                obtain ⟨wc6, hwc6⟩ : ∃ wc6, wc6 = wc := ⟨_, rfl⟩
                subst hwc6
                have HY6 : Hid (Below wr.heap.size wr wc6 ∧ wc6.heap[q]? = some (.cells #[.string ⟨#[]⟩, .int .i64 0, .int .i64 0, .string ⟨#[]⟩, .slice none 0 0, .slice none 0 0, .bool false] 55 (0, 0)) ∧ wc6.heap[q2]? = some (.cells #[.string ⟨#[]⟩, .int .i64 0, .int .i64 0, .string ⟨#[]⟩, .slice none 0 0, .slice none 0 0, .bool false] 55 (0, 0))) := hide ⟨(unhide HX1).trans ((unhide HW6).mono (unhide HX1).size), ((unhide HW6).block q (Array.getElem?_eq_some_iff.1 (unhide HZ1).1).1).trans (unhide HZ1).1, ((unhide HW6).block q2 (Array.getElem?_eq_some_iff.1 (unhide HZ1).2).1).trans (unhide HZ1).2⟩
                clear e1 e2 e3 e4 a0 a1 a2 a3 a4 a5 b0 b1 b2 b3 b4 b5 HW6 HK6 HX1 HZ1
                obtain ⟨e1, e2, e3, e4, a0, a1, a2, a3, a4, a5, b0, b1, b2, b3, b4, b5⟩ := unhide HKX wc6 (unhide HY6).1
                obtain ⟨z0, z1, z2, z3, z4, z5, z6⟩ := row_cell7 (unhide HY6).2.2
                have f0 := frozen_of_row wc6 q2 0 _ _ (unhide HY6).2.2
                have f1 := frozen_of_row wc6 q2 1 _ _ (unhide HY6).2.2
                have f2 := frozen_of_row wc6 q2 2 _ _ (unhide HY6).2.2
                have f3 := frozen_of_row wc6 q2 3 _ _ (unhide HY6).2.2
                have f4 := frozen_of_row wc6 q2 4 _ _ (unhide HY6).2.2
                have f5 := frozen_of_row wc6 q2 5 _ _ (unhide HY6).2.2
                have f6 := frozen_of_row wc6 q2 6 _ _ (unhide HY6).2.2
                go_upto_region 8 with fail
                obtain ⟨wd6, hwd⟩ : ∃ wd, (((((((wc6.setCell ⟨q2, 0, none⟩ (.string yk)).setCell ⟨q2, 1, none⟩ (.int .i64 yt0)).setCell ⟨q2, 2, none⟩ (.int .i64 yt1)).setCell ⟨q2, 3, none⟩ (.string yt2)).setCell ⟨q2, 4, none⟩ (.slice yt3 yt4 yt5)).setCell ⟨q2, 5, none⟩ (.slice yt6 yt7 yt8)).setCell ⟨q2, 6, none⟩ (.bool true)) = wd := ⟨_, rfl⟩
                have HX2 : Hid (Below wr.heap.size wr wd6) := hide (by rw [← hwd]; exact set7_below (unhide HY6).1 (by have := unhide HQ; omega) _ _ _ _ _ _ _)
                have HZ2 : Hid (wd6.heap[q]? = some (.cells #[.string ⟨#[]⟩, .int .i64 0, .int .i64 0, .string ⟨#[]⟩, .slice none 0 0, .slice none 0 0, .bool false] 55 (0, 0)) ∧ wd6.heap[q2]? = some (.cells #[.string yk, .int .i64 yt0, .int .i64 yt1, .string yt2, .slice yt3 yt4 yt5, .slice yt6 yt7 yt8, .bool true] 55 (0, 0))) := hide ⟨by rw [← hwd]; exact (set7_other (by have := unhide HQ; omega) _ _ _ _ _ _ _).trans (unhide HY6).2.1, by rw [← hwd]; exact set7 (unhide HY6).2.2 _ _ _ _ _ _ _⟩
                rw [hwd]
                clear hwd z0 z1 z2 z3 z4 z5 z6 f0 f1 f2 f3 f4 f5 f6 e1 e2 e3 e4 a0 a1 a2 a3 a4 a5 b0 b1 b2 b3 b4 b5 HY6
                obtain ⟨z0, z1, z2, z3, z4, z5, z6⟩ := row_cell7 (unhide HZ2).1
                obtain ⟨y0, y1, y2, y3, y4, y5, y6⟩ := row_cell7 (unhide HZ2).2
                have hJ2 : J (ps.take k) wd6 := hJ _ _ _ none hJs ⟨(unhide HX2).os, (unhide HX2).tape, (unhide HX2).output, (unhide HX2).size, fun b hb _ => (unhide HX2).block b hb⟩ (fun r h => by cases h)
                obtain ⟨p, f', htk, hep', hmp, hff, hkl⟩ := unhide HST
                obtain ⟨fn, tmps, assign, body, hy, hR⟩ := hY _ p _ hJ2 hkl
                rw [htk] at hR
                rw [hep'] at hy
                dsimp only [sdE] at hy
                have HNX := hide (And.intro hmp hff)
                have HZ3 := HZ2
                clear hJ2 htk hep' hmp hff hkl HST hJs
                refine (wpIn_wide (n := n)).1 ?_
                gi_wp2
                refine hR.mono ?_
                rintro e W3 (⟨rfl, hJ3, hk3⟩ | ⟨rfl, hJx3⟩)
                · have HK3 : Hid (KeepS N Ts W W3) := hide (((unhide HKP).trans (KeepS.of_below (unhide HX2) (fun b hb => (unhide HKP).lt hb (unhide HNl b hb)))).trans hk3)
                  obtain ⟨_, _, _, _, _, _, z6'⟩ := row_cell7 (hk3.box q _ _ _ (unhide HTs) (unhide HZ2).1)
                  obtain ⟨_, _, _, _, _, _, y6'⟩ := row_cell7 (hk3.box q2 _ _ _ (unhide HTs) (unhide HZ2).2)
                  clear hk3 z0 z1 z2 z3 z4 z5 z6 y0 y1 y2 y3 y4 y5 y6
                  gi_wp2
                  go_wp2_with fail
                  go_roundw
                  case rel => exact ⟨i, j + 1, k + 1, f', by first | rfl | simp | go_num, by first | rfl | simp | go_num, hide ⟨by have := unhide HI; omega, by have := unhide HI; omega, by have := unhide HI; have := (unhide HNX).2; omega, (unhide HNX).1⟩, hJ3, HK3⟩
                  case measure => simp [intOf]; omega
                · clear z0 z1 z2 z3 z4 z5 z6 y0 y1 y2 y3 y4 y5 y6
                  gi_wp2
                  go_wp2_with fail
                  refine bodyPost_ret (results_none rfl _ _ _) rfl ?_
                  exact ⟨⟨_, rfl⟩, .inr ⟨_, List.take_prefix _ _, hJx3⟩⟩
          | false =>
            rw [hlx] at bxy
            rw [hly] at byx
            have r1 : (Op.bytesLess xk.toList yk.toList || xk.toList == yk.toList) = true := by cases h : (Op.bytesLess xk.toList yk.toList || xk.toList == yk.toList) with | true => rfl | false => rw [h] at byx; cases byx
            have r2 : (Op.bytesLess yk.toList xk.toList || yk.toList == xk.toList) = true := by cases h : (Op.bytesLess yk.toList xk.toList || yk.toList == xk.toList) with | true => rfl | false => rw [h] at bxy; cases bxy
            have HST := hide (sd_take (some i) (some j) (i + 1) (j + 1) (by have := unhide HM; omega) (by have := unhide HM; have := unhide HI; omega) true true (by rw [(unhide HTW).1, hly]; rfl) (by rw [(unhide HTW).2, hlx]; rfl) rfl rfl rfl rfl (unhide HI).2.2.2)
            rw [Option.map_some, Option.map_some, hep, hep2] at HST
            clear bxy byx hlx hly HTW hep hep2
            refine wpIn_wide.2 ?_
            have HKX : Hid (∀ w', Below wr.heap.size wr w' → w'.cell? ⟨p1, 0, none⟩ = some (.slice (some a) m1 c1) ∧ w'.cell? ⟨p2, 0, none⟩ = some (.slice (some b) m2 c2) ∧ w'.cell? ⟨p3, 0, none⟩ = some (.func (.func 22) #[] #[]) ∧ w'.cell? ⟨p4, 0, none⟩ = some (.func (.func 22) #[] #[]) ∧ w'.cell? (a.add (i * 6)) = some (.string xk) ∧ w'.cell? ⟨(a.add (i * 6)).block, (a.add (i * 6)).off + 1, none⟩ = some (.int .i64 xt0) ∧ w'.cell? ⟨(a.add (i * 6)).block, (a.add (i * 6)).off + 2, none⟩ = some (.int .i64 xt1) ∧ w'.cell? ⟨(a.add (i * 6)).block, (a.add (i * 6)).off + 3, none⟩ = some (.string xt2) ∧ w'.cell? ⟨(a.add (i * 6)).block, (a.add (i * 6)).off + 4, none⟩ = some (.slice xt3 xt4 xt5) ∧ w'.cell? ⟨(a.add (i * 6)).block, (a.add (i * 6)).off + 5, none⟩ = some (.slice xt6 xt7 xt8) ∧ w'.cell? (b.add (j * 6)) = some (.string yk) ∧ w'.cell? ⟨(b.add (j * 6)).block, (b.add (j * 6)).off + 1, none⟩ = some (.int .i64 yt0) ∧ w'.cell? ⟨(b.add (j * 6)).block, (b.add (j * 6)).off + 2, none⟩ = some (.int .i64 yt1) ∧ w'.cell? ⟨(b.add (j * 6)).block, (b.add (j * 6)).off + 3, none⟩ = some (.string yt2) ∧ w'.cell? ⟨(b.add (j * 6)).block, (b.add (j * 6)).off + 4, none⟩ = some (.slice yt3 yt4 yt5) ∧ w'.cell? ⟨(b.add (j * 6)).block, (b.add (j * 6)).off + 5, none⟩ = some (.slice yt6 yt7 yt8)) := hide (fun w' hb2 => ⟨cell_later hb2 e1, cell_later hb2 e2, cell_later hb2 e3, cell_later hb2 e4, cell_later hb2 a0, cell_later hb2 a1, cell_later hb2 a2, cell_later hb2 a3, cell_later hb2 a4, cell_later hb2 a5, cell_later hb2 b0, cell_later hb2 b1, cell_later hb2 b2, cell_later hb2 b3, cell_later hb2 b4, cell_later hb2 b5⟩)
            have HX0 : Hid (Below wr.heap.size wr wb) := hide (unhide HQ).2.2.2.2
            have HZ0 : Hid (wb.heap[q]? = some (.cells #[.string ⟨#[]⟩, .int .i64 0, .int .i64 0, .string ⟨#[]⟩, .slice none 0 0, .slice none 0 0, .bool false] 55 (0, 0)) ∧ wb.heap[q2]? = some (.cells #[.string ⟨#[]⟩, .int .i64 0, .int .i64 0, .string ⟨#[]⟩, .slice none 0 0, .slice none 0 0, .bool false] 55 (0, 0))) := hide ⟨(unhide HQ).2.2.1, (unhide HQ).2.2.2.1⟩
            have HK4 : Hid (∀ w', Below wb.heap.size wb w' → w'.cell? ⟨p1, 0, none⟩ = some (.slice (some a) m1 c1) ∧ w'.cell? ⟨p2, 0, none⟩ = some (.slice (some b) m2 c2) ∧ w'.cell? ⟨p3, 0, none⟩ = some (.func (.func 22) #[] #[]) ∧ w'.cell? ⟨p4, 0, none⟩ = some (.func (.func 22) #[] #[]) ∧ w'.cell? (a.add (i * 6)) = some (.string xk) ∧ w'.cell? ⟨(a.add (i * 6)).block, (a.add (i * 6)).off + 1, none⟩ = some (.int .i64 xt0) ∧ w'.cell? ⟨(a.add (i * 6)).block, (a.add (i * 6)).off + 2, none⟩ = some (.int .i64 xt1) ∧ w'.cell? ⟨(a.add (i * 6)).block, (a.add (i * 6)).off + 3, none⟩ = some (.string xt2) ∧ w'.cell? ⟨(a.add (i * 6)).block, (a.add (i * 6)).off + 4, none⟩ = some (.slice xt3 xt4 xt5) ∧ w'.cell? ⟨(a.add (i * 6)).block, (a.add (i * 6)).off + 5, none⟩ = some (.slice xt6 xt7 xt8) ∧ w'.cell? (b.add (j * 6)) = some (.string yk) ∧ w'.cell? ⟨(b.add (j * 6)).block, (b.add (j * 6)).off + 1, none⟩ = some (.int .i64 yt0) ∧ w'.cell? ⟨(b.add (j * 6)).block, (b.add (j * 6)).off + 2, none⟩ = some (.int .i64 yt1) ∧ w'.cell? ⟨(b.add (j * 6)).block, (b.add (j * 6)).off + 3, none⟩ = some (.string yt2) ∧ w'.cell? ⟨(b.add (j * 6)).block, (b.add (j * 6)).off + 4, none⟩ = some (.slice yt3 yt4 yt5) ∧ w'.cell? ⟨(b.add (j * 6)).block, (b.add (j * 6)).off + 5, none⟩ = some (.slice yt6 yt7 yt8)) := hide (fun w' hb => unhide HKX w' ((unhide HX0).trans (hb.mono (unhide HX0).size)))
            go_upto_region 4 with fail
            go_cut [44] from 10 to 92 (fun r wx => r = .bool true ∧ Hid (Below wb.heap.size wb wx))
            case first =>
              go_region_held3 (fun w' => Below wb.heap.size wb w' ∧ w'.cell? ⟨p1, 0, none⟩ = some (.slice (some a) m1 c1) ∧ w'.cell? ⟨p2, 0, none⟩ = some (.slice (some b) m2 c2) ∧ w'.cell? ⟨p3, 0, none⟩ = some (.func (.func 22) #[] #[]) ∧ w'.cell? ⟨p4, 0, none⟩ = some (.func (.func 22) #[] #[]) ∧ w'.cell? (a.add (i * 6)) = some (.string xk) ∧ w'.cell? ⟨(a.add (i * 6)).block, (a.add (i * 6)).off + 1, none⟩ = some (.int .i64 xt0) ∧ w'.cell? ⟨(a.add (i * 6)).block, (a.add (i * 6)).off + 2, none⟩ = some (.int .i64 xt1) ∧ w'.cell? ⟨(a.add (i * 6)).block, (a.add (i * 6)).off + 3, none⟩ = some (.string xt2) ∧ w'.cell? ⟨(a.add (i * 6)).block, (a.add (i * 6)).off + 4, none⟩ = some (.slice xt3 xt4 xt5) ∧ w'.cell? ⟨(a.add (i * 6)).block, (a.add (i * 6)).off + 5, none⟩ = some (.slice xt6 xt7 xt8) ∧ w'.cell? (b.add (j * 6)) = some (.string yk) ∧ w'.cell? ⟨(b.add (j * 6)).block, (b.add (j * 6)).off + 1, none⟩ = some (.int .i64 yt0) ∧ w'.cell? ⟨(b.add (j * 6)).block, (b.add (j * 6)).off + 2, none⟩ = some (.int .i64 yt1) ∧ w'.cell? ⟨(b.add (j * 6)).block, (b.add (j * 6)).off + 3, none⟩ = some (.string yt2) ∧ w'.cell? ⟨(b.add (j * 6)).block, (b.add (j * 6)).off + 4, none⟩ = some (.slice yt3 yt4 yt5) ∧ w'.cell? ⟨(b.add (j * 6)).block, (b.add (j * 6)).off + 5, none⟩ = some (.slice yt6 yt7 yt8))
                (first | assumption | exact ⟨(Below.refl _ _).drew, unhide HK4 _ (Below.refl _ _).drew⟩ | (refine keepE HK4 (And.left (by assumption)) (by assumption); done) | (refine keepE HK4 ?_ ?_ <;> assumption))
                (first | (go_at_call 22; refine (ekey_any _ _ _ _ _ _ _ _ _ _ _).mono ?_; rintro e w5 ⟨rfl, b5⟩))
              have hb5 : Hid (Below wb.heap.size wb w5) := hide (And.left (by assumption))
              clear b5
              go_wp2_with fail
              go_meet
              exact ⟨rfl, hb5⟩
            case rest =>
              obtain ⟨rfl, HW4⟩ := hcut
              obtain ⟨wc4, hwc4⟩ : ∃ wc4, wc4 = wc := ⟨_, rfl⟩
              subst hwc4
              have HY4 : Hid (Below wr.heap.size wr wc4 ∧ wc4.heap[q]? = some (.cells #[.string ⟨#[]⟩, .int .i64 0, .int .i64 0, .string ⟨#[]⟩, .slice none 0 0, .slice none 0 0, .bool false] 55 (0, 0)) ∧ wc4.heap[q2]? = some (.cells #[.string ⟨#[]⟩, .int .i64 0, .int .i64 0, .string ⟨#[]⟩, .slice none 0 0, .slice none 0 0, .bool false] 55 (0, 0))) := hide ⟨(unhide HX0).trans ((unhide HW4).mono (unhide HX0).size), ((unhide HW4).block q (Array.getElem?_eq_some_iff.1 (unhide HZ0).1).1).trans (unhide HZ0).1, ((unhide HW4).block q2 (Array.getElem?_eq_some_iff.1 (unhide HZ0).2).1).trans (unhide HZ0).2⟩
              clear e1 e2 e3 e4 a0 a1 a2 a3 a4 a5 b0 b1 b2 b3 b4 b5 HW4 HK4 HX0 HZ0
              obtain ⟨e1, e2, e3, e4, a0, a1, a2, a3, a4, a5, b0, b1, b2, b3, b4, b5⟩ := unhide HKX wc4 (unhide HY4).1
              obtain ⟨z0, z1, z2, z3, z4, z5, z6⟩ := row_cell7 (unhide HY4).2.1
              have f0 := frozen_of_row wc4 q 0 _ _ (unhide HY4).2.1
              have f1 := frozen_of_row wc4 q 1 _ _ (unhide HY4).2.1
              have f2 := frozen_of_row wc4 q 2 _ _ (unhide HY4).2.1
              have f3 := frozen_of_row wc4 q 3 _ _ (unhide HY4).2.1
              have f4 := frozen_of_row wc4 q 4 _ _ (unhide HY4).2.1
              have f5 := frozen_of_row wc4 q 5 _ _ (unhide HY4).2.1
              have f6 := frozen_of_row wc4 q 6 _ _ (unhide HY4).2.1
              go_upto_region 6 with fail
              obtain ⟨wd4, hwd⟩ : ∃ wd, (((((((wc4.setCell ⟨q, 0, none⟩ (.string xk)).setCell ⟨q, 1, none⟩ (.int .i64 xt0)).setCell ⟨q, 2, none⟩ (.int .i64 xt1)).setCell ⟨q, 3, none⟩ (.string xt2)).setCell ⟨q, 4, none⟩ (.slice xt3 xt4 xt5)).setCell ⟨q, 5, none⟩ (.slice xt6 xt7 xt8)).setCell ⟨q, 6, none⟩ (.bool true)) = wd := ⟨_, rfl⟩
              have HX1 : Hid (Below wr.heap.size wr wd4) := hide (by rw [← hwd]; exact set7_below (unhide HY4).1 (by have := unhide HQ; omega) _ _ _ _ _ _ _)
              have HZ1 : Hid (wd4.heap[q]? = some (.cells #[.string xk, .int .i64 xt0, .int .i64 xt1, .string xt2, .slice xt3 xt4 xt5, .slice xt6 xt7 xt8, .bool true] 55 (0, 0)) ∧ wd4.heap[q2]? = some (.cells #[.string ⟨#[]⟩, .int .i64 0, .int .i64 0, .string ⟨#[]⟩, .slice none 0 0, .slice none 0 0, .bool false] 55 (0, 0))) := hide ⟨by rw [← hwd]; exact set7 (unhide HY4).2.1 _ _ _ _ _ _ _, by rw [← hwd]; exact (set7_other (by have := unhide HQ; omega) _ _ _ _ _ _ _).trans (unhide HY4).2.2⟩
              rw [hwd]
              clear hwd z0 z1 z2 z3 z4 z5 z6 f0 f1 f2 f3 f4 f5 f6 e1 e2 e3 e4 a0 a1 a2 a3 a4 a5 b0 b1 b2 b3 b4 b5 HY4
              have HK6 : Hid (∀ w', Below wd4.heap.size wd4 w' → w'.cell? ⟨p1, 0, none⟩ = some (.slice (some a) m1 c1) ∧ w'.cell? ⟨p2, 0, none⟩ = some (.slice (some b) m2 c2) ∧ w'.cell? ⟨p3, 0, none⟩ = some (.func (.func 22) #[] #[]) ∧ w'.cell? ⟨p4, 0, none⟩ = some (.func (.func 22) #[] #[]) ∧ w'.cell? (a.add (i * 6)) = some (.string xk) ∧ w'.cell? ⟨(a.add (i * 6)).block, (a.add (i * 6)).off + 1, none⟩ = some (.int .i64 xt0) ∧ w'.cell? ⟨(a.add (i * 6)).block, (a.add (i * 6)).off + 2, none⟩ = some (.int .i64 xt1) ∧ w'.cell? ⟨(a.add (i * 6)).block, (a.add (i * 6)).off + 3, none⟩ = some (.string xt2) ∧ w'.cell? ⟨(a.add (i * 6)).block, (a.add (i * 6)).off + 4, none⟩ = some (.slice xt3 xt4 xt5) ∧ w'.cell? ⟨(a.add (i * 6)).block, (a.add (i * 6)).off + 5, none⟩ = some (.slice xt6 xt7 xt8) ∧ w'.cell? (b.add (j * 6)) = some (.string yk) ∧ w'.cell? ⟨(b.add (j * 6)).block, (b.add (j * 6)).off + 1, none⟩ = some (.int .i64 yt0) ∧ w'.cell? ⟨(b.add (j * 6)).block, (b.add (j * 6)).off + 2, none⟩ = some (.int .i64 yt1) ∧ w'.cell? ⟨(b.add (j * 6)).block, (b.add (j * 6)).off + 3, none⟩ = some (.string yt2) ∧ w'.cell? ⟨(b.add (j * 6)).block, (b.add (j * 6)).off + 4, none⟩ = some (.slice yt3 yt4 yt5) ∧ w'.cell? ⟨(b.add (j * 6)).block, (b.add (j * 6)).off + 5, none⟩ = some (.slice yt6 yt7 yt8)) := hide (fun w' hb => unhide HKX w' ((unhide HX1).trans (hb.mono (unhide HX1).size)))
              obtain ⟨e1, e2, e3, e4, a0, a1, a2, a3, a4, a5, b0, b1, b2, b3, b4, b5⟩ := unhide HKX wd4 (unhide HX1)
              go_upto_region 6 with fail
              go_cut [74] from 10 to 92 (fun r wx => r = .bool true ∧ Hid (Below wd4.heap.size wd4 wx))
              case first =>
                go_region_held3 (fun w' => Below wd4.heap.size wd4 w' ∧ w'.cell? ⟨p1, 0, none⟩ = some (.slice (some a) m1 c1) ∧ w'.cell? ⟨p2, 0, none⟩ = some (.slice (some b) m2 c2) ∧ w'.cell? ⟨p3, 0, none⟩ = some (.func (.func 22) #[] #[]) ∧ w'.cell? ⟨p4, 0, none⟩ = some (.func (.func 22) #[] #[]) ∧ w'.cell? (a.add (i * 6)) = some (.string xk) ∧ w'.cell? ⟨(a.add (i * 6)).block, (a.add (i * 6)).off + 1, none⟩ = some (.int .i64 xt0) ∧ w'.cell? ⟨(a.add (i * 6)).block, (a.add (i * 6)).off + 2, none⟩ = some (.int .i64 xt1) ∧ w'.cell? ⟨(a.add (i * 6)).block, (a.add (i * 6)).off + 3, none⟩ = some (.string xt2) ∧ w'.cell? ⟨(a.add (i * 6)).block, (a.add (i * 6)).off + 4, none⟩ = some (.slice xt3 xt4 xt5) ∧ w'.cell? ⟨(a.add (i * 6)).block, (a.add (i * 6)).off + 5, none⟩ = some (.slice xt6 xt7 xt8) ∧ w'.cell? (b.add (j * 6)) = some (.string yk) ∧ w'.cell? ⟨(b.add (j * 6)).block, (b.add (j * 6)).off + 1, none⟩ = some (.int .i64 yt0) ∧ w'.cell? ⟨(b.add (j * 6)).block, (b.add (j * 6)).off + 2, none⟩ = some (.int .i64 yt1) ∧ w'.cell? ⟨(b.add (j * 6)).block, (b.add (j * 6)).off + 3, none⟩ = some (.string yt2) ∧ w'.cell? ⟨(b.add (j * 6)).block, (b.add (j * 6)).off + 4, none⟩ = some (.slice yt3 yt4 yt5) ∧ w'.cell? ⟨(b.add (j * 6)).block, (b.add (j * 6)).off + 5, none⟩ = some (.slice yt6 yt7 yt8))
                  (first | assumption | exact ⟨(Below.refl _ _).drew, unhide HK6 _ (Below.refl _ _).drew⟩ | (refine keepE HK6 (And.left (by assumption)) (by assumption); done) | (refine keepE HK6 ?_ ?_ <;> assumption))
                  (first | (go_at_call 22; refine (ekey_any _ _ _ _ _ _ _ _ _ _ _).mono ?_; rintro e w5 ⟨rfl, b5⟩))
                have hb5 : Hid (Below wd4.heap.size wd4 w5) := hide (And.left (by assumption))
                clear b5
                go_wp2_with fail
                go_meet
                exact ⟨rfl, hb5⟩
              case rest =>
                obtain ⟨rfl, HW6⟩ := hcut
                obtain ⟨wc6, hwc6⟩ : ∃ wc6, wc6 = wc := ⟨_, rfl⟩
                subst hwc6
                have HY6 : Hid (Below wr.heap.size wr wc6 ∧ wc6.heap[q]? = some (.cells #[.string xk, .int .i64 xt0, .int .i64 xt1, .string xt2, .slice xt3 xt4 xt5, .slice xt6 xt7 xt8, .bool true] 55 (0, 0)) ∧ wc6.heap[q2]? = some (.cells #[.string ⟨#[]⟩, .int .i64 0, .int .i64 0, .string ⟨#[]⟩, .slice none 0 0, .slice none 0 0, .bool false] 55 (0, 0))) := hide ⟨(unhide HX1).trans ((unhide HW6).mono (unhide HX1).size), ((unhide HW6).block q (Array.getElem?_eq_some_iff.1 (unhide HZ1).1).1).trans (unhide HZ1).1, ((unhide HW6).block q2 (Array.getElem?_eq_some_iff.1 (unhide HZ1).2).1).trans (unhide HZ1).2⟩
                clear e1 e2 e3 e4 a0 a1 a2 a3 a4 a5 b0 b1 b2 b3 b4 b5 HW6 HK6 HX1 HZ1
                obtain ⟨e1, e2, e3, e4, a0, a1, a2, a3, a4, a5, b0, b1, b2, b3, b4, b5⟩ := unhide HKX wc6 (unhide HY6).1
                obtain ⟨z0, z1, z2, z3, z4, z5, z6⟩ := row_cell7 (unhide HY6).2.2
                have f0 := frozen_of_row wc6 q2 0 _ _ (unhide HY6).2.2
                have f1 := frozen_of_row wc6 q2 1 _ _ (unhide HY6).2.2
                have f2 := frozen_of_row wc6 q2 2 _ _ (unhide HY6).2.2
                have f3 := frozen_of_row wc6 q2 3 _ _ (unhide HY6).2.2
                have f4 := frozen_of_row wc6 q2 4 _ _ (unhide HY6).2.2
                have f5 := frozen_of_row wc6 q2 5 _ _ (unhide HY6).2.2
                have f6 := frozen_of_row wc6 q2 6 _ _ (unhide HY6).2.2
                go_upto_region 8 with fail
                obtain ⟨wd6, hwd⟩ : ∃ wd, (((((((wc6.setCell ⟨q2, 0, none⟩ (.string yk)).setCell ⟨q2, 1, none⟩ (.int .i64 yt0)).setCell ⟨q2, 2, none⟩ (.int .i64 yt1)).setCell ⟨q2, 3, none⟩ (.string yt2)).setCell ⟨q2, 4, none⟩ (.slice yt3 yt4 yt5)).setCell ⟨q2, 5, none⟩ (.slice yt6 yt7 yt8)).setCell ⟨q2, 6, none⟩ (.bool true)) = wd := ⟨_, rfl⟩
                have HX2 : Hid (Below wr.heap.size wr wd6) := hide (by rw [← hwd]; exact set7_below (unhide HY6).1 (by have := unhide HQ; omega) _ _ _ _ _ _ _)
                have HZ2 : Hid (wd6.heap[q]? = some (.cells #[.string xk, .int .i64 xt0, .int .i64 xt1, .string xt2, .slice xt3 xt4 xt5, .slice xt6 xt7 xt8, .bool true] 55 (0, 0)) ∧ wd6.heap[q2]? = some (.cells #[.string yk, .int .i64 yt0, .int .i64 yt1, .string yt2, .slice yt3 yt4 yt5, .slice yt6 yt7 yt8, .bool true] 55 (0, 0))) := hide ⟨by rw [← hwd]; exact (set7_other (by have := unhide HQ; omega) _ _ _ _ _ _ _).trans (unhide HY6).2.1, by rw [← hwd]; exact set7 (unhide HY6).2.2 _ _ _ _ _ _ _⟩
                rw [hwd]
                clear hwd z0 z1 z2 z3 z4 z5 z6 f0 f1 f2 f3 f4 f5 f6 e1 e2 e3 e4 a0 a1 a2 a3 a4 a5 b0 b1 b2 b3 b4 b5 HY6
                obtain ⟨z0, z1, z2, z3, z4, z5, z6⟩ := row_cell7 (unhide HZ2).1
                obtain ⟨y0, y1, y2, y3, y4, y5, y6⟩ := row_cell7 (unhide HZ2).2
                have hJ2 : J (ps.take k) wd6 := hJ _ _ _ none hJs ⟨(unhide HX2).os, (unhide HX2).tape, (unhide HX2).output, (unhide HX2).size, fun b hb _ => (unhide HX2).block b hb⟩ (fun r h => by cases h)
                obtain ⟨p, f', htk, hep', hmp, hff, hkl⟩ := unhide HST
                obtain ⟨fn, tmps, assign, body, hy, hR⟩ := hY _ p _ hJ2 hkl
                rw [htk] at hR
                rw [hep'] at hy
                dsimp only [sdE] at hy
                have HNX := hide (And.intro hmp hff)
                have HZ3 := HZ2
                clear hJ2 htk hep' hmp hff hkl HST hJs
                refine (wpIn_wide (n := n)).1 ?_
                gi_wp2
                refine hR.mono ?_
                rintro e W3 (⟨rfl, hJ3, hk3⟩ | ⟨rfl, hJx3⟩)
                · have HK3 : Hid (KeepS N Ts W W3) := hide (((unhide HKP).trans (KeepS.of_below (unhide HX2) (fun b hb => (unhide HKP).lt hb (unhide HNl b hb)))).trans hk3)
                  obtain ⟨_, _, _, _, _, _, z6'⟩ := row_cell7 (hk3.box q _ _ _ (unhide HTs) (unhide HZ2).1)
                  obtain ⟨_, _, _, _, _, _, y6'⟩ := row_cell7 (hk3.box q2 _ _ _ (unhide HTs) (unhide HZ2).2)
                  clear hk3 z0 z1 z2 z3 z4 z5 z6 y0 y1 y2 y3 y4 y5 y6
                  gi_wp2
                  go_wp2_with fail
                  go_roundw
                  case rel => exact ⟨i + 1, j + 1, k + 1, f', by first | rfl | simp | go_num, by first | rfl | simp | go_num, hide ⟨by have := unhide HI; omega, by have := unhide HI; omega, by have := unhide HI; have := (unhide HNX).2; omega, (unhide HNX).1⟩, hJ3, HK3⟩
                  case measure => simp [intOf]; omega
                · clear z0 z1 z2 z3 z4 z5 z6 y0 y1 y2 y3 y4 y5 y6
                  gi_wp2
                  go_wp2_with fail
                  refine bodyPost_ret (results_none rfl _ _ _) rfl ?_
                  exact ⟨⟨_, rfl⟩, .inr ⟨_, List.take_prefix _ _, hJx3⟩⟩
      · have hjm : j = m2 := by have := unhide HI; omega
        have i2 : ¬ (j : Int) < (m2 : Int) := by omega
        have i3 : (j : Int) = (m2 : Int) := by omega
        have HST := hide (sd_take (some i) none (i + 1) j (by have := unhide HM; omega) (by have := unhide HM; have := unhide HI; omega) true false (inA_one hxk (List.getElem?_eq_none (by have := unhide HM; omega))).1 (inA_one hxk (List.getElem?_eq_none (by have := unhide HM; omega))).2 rfl rfl rfl rfl (unhide HI).2.2.2)
        rw [Option.map_some, Option.map_none, hep] at HST
        have g1 : decide ((i : Int) < (m1 : Int)) = true := decide_eq_true i1
        have g2 : ((j : Int) == (m2 : Int)) = true := beq_iff_eq.2 i3
        have g3 : decide ((j : Int) < (m2 : Int)) = false := decide_eq_false i2
        have g4 : decide (i < m1) = true := decide_eq_true hi
        have g5 : decide (j < m2) = false := decide_eq_false hj
        have HJM := hide hjm
        clear hxk hcsa hA hB hNa hlta hep i3 hjm
        refine wpIn_wide.2 ?_
        have HKX : Hid (∀ w', Below wr.heap.size wr w' → w'.cell? ⟨p1, 0, none⟩ = some (.slice (some a) m1 c1) ∧ w'.cell? ⟨p2, 0, none⟩ = some (.slice bl m2 c2) ∧ w'.cell? ⟨p3, 0, none⟩ = some (.func (.func 22) #[] #[]) ∧ w'.cell? ⟨p4, 0, none⟩ = some (.func (.func 22) #[] #[]) ∧ w'.cell? (a.add (i * 6)) = some (.string xk) ∧ w'.cell? ⟨(a.add (i * 6)).block, (a.add (i * 6)).off + 1, none⟩ = some (.int .i64 xt0) ∧ w'.cell? ⟨(a.add (i * 6)).block, (a.add (i * 6)).off + 2, none⟩ = some (.int .i64 xt1) ∧ w'.cell? ⟨(a.add (i * 6)).block, (a.add (i * 6)).off + 3, none⟩ = some (.string xt2) ∧ w'.cell? ⟨(a.add (i * 6)).block, (a.add (i * 6)).off + 4, none⟩ = some (.slice xt3 xt4 xt5) ∧ w'.cell? ⟨(a.add (i * 6)).block, (a.add (i * 6)).off + 5, none⟩ = some (.slice xt6 xt7 xt8)) := hide (fun w' hb2 => ⟨cell_later hb2 e1, cell_later hb2 e2, cell_later hb2 e3, cell_later hb2 e4, cell_later hb2 a0, cell_later hb2 a1, cell_later hb2 a2, cell_later hb2 a3, cell_later hb2 a4, cell_later hb2 a5⟩)
        have HX0 : Hid (Below wr.heap.size wr wb) := hide (unhide HQ).2.2.2.2
        have HZ0 : Hid (wb.heap[q]? = some (.cells #[.string ⟨#[]⟩, .int .i64 0, .int .i64 0, .string ⟨#[]⟩, .slice none 0 0, .slice none 0 0, .bool false] 55 (0, 0)) ∧ wb.heap[q2]? = some (.cells #[.string ⟨#[]⟩, .int .i64 0, .int .i64 0, .string ⟨#[]⟩, .slice none 0 0, .slice none 0 0, .bool false] 55 (0, 0))) := hide ⟨(unhide HQ).2.2.1, (unhide HQ).2.2.2.1⟩
        have HK4 : Hid (∀ w', Below wb.heap.size wb w' → w'.cell? ⟨p1, 0, none⟩ = some (.slice (some a) m1 c1) ∧ w'.cell? ⟨p2, 0, none⟩ = some (.slice bl m2 c2) ∧ w'.cell? ⟨p3, 0, none⟩ = some (.func (.func 22) #[] #[]) ∧ w'.cell? ⟨p4, 0, none⟩ = some (.func (.func 22) #[] #[]) ∧ w'.cell? (a.add (i * 6)) = some (.string xk) ∧ w'.cell? ⟨(a.add (i * 6)).block, (a.add (i * 6)).off + 1, none⟩ = some (.int .i64 xt0) ∧ w'.cell? ⟨(a.add (i * 6)).block, (a.add (i * 6)).off + 2, none⟩ = some (.int .i64 xt1) ∧ w'.cell? ⟨(a.add (i * 6)).block, (a.add (i * 6)).off + 3, none⟩ = some (.string xt2) ∧ w'.cell? ⟨(a.add (i * 6)).block, (a.add (i * 6)).off + 4, none⟩ = some (.slice xt3 xt4 xt5) ∧ w'.cell? ⟨(a.add (i * 6)).block, (a.add (i * 6)).off + 5, none⟩ = some (.slice xt6 xt7 xt8)) := hide (fun w' hb => unhide HKX w' ((unhide HX0).trans (hb.mono (unhide HX0).size)))
        go_upto_region 4 with fail
        clear e1 e2 e3 e4 a0 a1 a2 a3 a4 a5
        obtain ⟨e1, e2, e3, e4, a0, a1, a2, a3, a4, a5⟩ := unhide HKX wb (unhide HX0)
        go_cut [44] from 10 to 92 (fun r wx => r = .bool true ∧ Hid (Below wb.heap.size wb wx))
        case first =>
          go_quiet (fail)
          go_wp2_with fail
          go_meet
          exact ⟨rfl, hide (below_drewN (Below.refl _ _) _)⟩
        case rest =>
          obtain ⟨rfl, HW4⟩ := hcut
          obtain ⟨wc4, hwc4⟩ : ∃ wc4, wc4 = wc := ⟨_, rfl⟩
          subst hwc4
          have HY4 : Hid (Below wr.heap.size wr wc4 ∧ wc4.heap[q]? = some (.cells #[.string ⟨#[]⟩, .int .i64 0, .int .i64 0, .string ⟨#[]⟩, .slice none 0 0, .slice none 0 0, .bool false] 55 (0, 0)) ∧ wc4.heap[q2]? = some (.cells #[.string ⟨#[]⟩, .int .i64 0, .int .i64 0, .string ⟨#[]⟩, .slice none 0 0, .slice none 0 0, .bool false] 55 (0, 0))) := hide ⟨(unhide HX0).trans ((unhide HW4).mono (unhide HX0).size), ((unhide HW4).block q (Array.getElem?_eq_some_iff.1 (unhide HZ0).1).1).trans (unhide HZ0).1, ((unhide HW4).block q2 (Array.getElem?_eq_some_iff.1 (unhide HZ0).2).1).trans (unhide HZ0).2⟩
          clear e1 e2 e3 e4 a0 a1 a2 a3 a4 a5 HW4 HK4 HX0 HZ0
          obtain ⟨e1, e2, e3, e4, a0, a1, a2, a3, a4, a5⟩ := unhide HKX wc4 (unhide HY4).1
          obtain ⟨z0, z1, z2, z3, z4, z5, z6⟩ := row_cell7 (unhide HY4).2.1
          have f0 := frozen_of_row wc4 q 0 _ _ (unhide HY4).2.1
          have f1 := frozen_of_row wc4 q 1 _ _ (unhide HY4).2.1
          have f2 := frozen_of_row wc4 q 2 _ _ (unhide HY4).2.1
          have f3 := frozen_of_row wc4 q 3 _ _ (unhide HY4).2.1
          have f4 := frozen_of_row wc4 q 4 _ _ (unhide HY4).2.1
          have f5 := frozen_of_row wc4 q 5 _ _ (unhide HY4).2.1
          have f6 := frozen_of_row wc4 q 6 _ _ (unhide HY4).2.1
          go_upto_region 6 with fail
          obtain ⟨wd4, hwd⟩ : ∃ wd, (((((((wc4.setCell ⟨q, 0, none⟩ (.string xk)).setCell ⟨q, 1, none⟩ (.int .i64 xt0)).setCell ⟨q, 2, none⟩ (.int .i64 xt1)).setCell ⟨q, 3, none⟩ (.string xt2)).setCell ⟨q, 4, none⟩ (.slice xt3 xt4 xt5)).setCell ⟨q, 5, none⟩ (.slice xt6 xt7 xt8)).setCell ⟨q, 6, none⟩ (.bool true)) = wd := ⟨_, rfl⟩
          have HX1 : Hid (Below wr.heap.size wr wd4) := hide (by rw [← hwd]; exact set7_below (unhide HY4).1 (by have := unhide HQ; omega) _ _ _ _ _ _ _)
          have HZ1 : Hid (wd4.heap[q]? = some (.cells #[.string xk, .int .i64 xt0, .int .i64 xt1, .string xt2, .slice xt3 xt4 xt5, .slice xt6 xt7 xt8, .bool true] 55 (0, 0)) ∧ wd4.heap[q2]? = some (.cells #[.string ⟨#[]⟩, .int .i64 0, .int .i64 0, .string ⟨#[]⟩, .slice none 0 0, .slice none 0 0, .bool false] 55 (0, 0))) := hide ⟨by rw [← hwd]; exact set7 (unhide HY4).2.1 _ _ _ _ _ _ _, by rw [← hwd]; exact (set7_other (by have := unhide HQ; omega) _ _ _ _ _ _ _).trans (unhide HY4).2.2⟩
          rw [hwd]
          clear hwd z0 z1 z2 z3 z4 z5 z6 f0 f1 f2 f3 f4 f5 f6 e1 e2 e3 e4 a0 a1 a2 a3 a4 a5 HY4
          have HK6 : Hid (∀ w', Below wd4.heap.size wd4 w' → w'.cell? ⟨p1, 0, none⟩ = some (.slice (some a) m1 c1) ∧ w'.cell? ⟨p2, 0, none⟩ = some (.slice bl m2 c2) ∧ w'.cell? ⟨p3, 0, none⟩ = some (.func (.func 22) #[] #[]) ∧ w'.cell? ⟨p4, 0, none⟩ = some (.func (.func 22) #[] #[]) ∧ w'.cell? (a.add (i * 6)) = some (.string xk) ∧ w'.cell? ⟨(a.add (i * 6)).block, (a.add (i * 6)).off + 1, none⟩ = some (.int .i64 xt0) ∧ w'.cell? ⟨(a.add (i * 6)).block, (a.add (i * 6)).off + 2, none⟩ = some (.int .i64 xt1) ∧ w'.cell? ⟨(a.add (i * 6)).block, (a.add (i * 6)).off + 3, none⟩ = some (.string xt2) ∧ w'.cell? ⟨(a.add (i * 6)).block, (a.add (i * 6)).off + 4, none⟩ = some (.slice xt3 xt4 xt5) ∧ w'.cell? ⟨(a.add (i * 6)).block, (a.add (i * 6)).off + 5, none⟩ = some (.slice xt6 xt7 xt8)) := hide (fun w' hb => unhide HKX w' ((unhide HX1).trans (hb.mono (unhide HX1).size)))
          obtain ⟨e1, e2, e3, e4, a0, a1, a2, a3, a4, a5⟩ := unhide HKX wd4 (unhide HX1)
          go_upto_region 6 with fail
          go_cut [74] from 10 to 92 (fun r wx => r = .bool false ∧ Hid (Below wd4.heap.size wd4 wx))
          case first =>
            go_quiet (fail)
            go_wp2_with fail
            go_meet
            exact ⟨rfl, hide (below_drewN (Below.refl _ _) _)⟩
          case rest =>
            obtain ⟨rfl, HW6⟩ := hcut
            obtain ⟨wc6, hwc6⟩ : ∃ wc6, wc6 = wc := ⟨_, rfl⟩
            subst hwc6
            have HY6 : Hid (Below wr.heap.size wr wc6 ∧ wc6.heap[q]? = some (.cells #[.string xk, .int .i64 xt0, .int .i64 xt1, .string xt2, .slice xt3 xt4 xt5, .slice xt6 xt7 xt8, .bool true] 55 (0, 0)) ∧ wc6.heap[q2]? = some (.cells #[.string ⟨#[]⟩, .int .i64 0, .int .i64 0, .string ⟨#[]⟩, .slice none 0 0, .slice none 0 0, .bool false] 55 (0, 0))) := hide ⟨(unhide HX1).trans ((unhide HW6).mono (unhide HX1).size), ((unhide HW6).block q (Array.getElem?_eq_some_iff.1 (unhide HZ1).1).1).trans (unhide HZ1).1, ((unhide HW6).block q2 (Array.getElem?_eq_some_iff.1 (unhide HZ1).2).1).trans (unhide HZ1).2⟩
            clear e1 e2 e3 e4 a0 a1 a2 a3 a4 a5 HW6 HK6 HX1 HZ1
            have HX2 : Hid (Below wr.heap.size wr wc6) := hide (unhide HY6).1
            have HZ2 : Hid (wc6.heap[q]? = some (.cells #[.string xk, .int .i64 xt0, .int .i64 xt1, .string xt2, .slice xt3 xt4 xt5, .slice xt6 xt7 xt8, .bool true] 55 (0, 0)) ∧ wc6.heap[q2]? = some (.cells #[.string ⟨#[]⟩, .int .i64 0, .int .i64 0, .string ⟨#[]⟩, .slice none 0 0, .slice none 0 0, .bool false] 55 (0, 0))) := hide (unhide HY6).2
            clear HY6
            go_upto_region 8 with fail
            obtain ⟨z0, z1, z2, z3, z4, z5, z6⟩ := row_cell7 (unhide HZ2).1
            obtain ⟨y0, y1, y2, y3, y4, y5, y6⟩ := row_cell7 (unhide HZ2).2
            have hJ2 : J (ps.take k) wc6 := hJ _ _ _ none hJs ⟨(unhide HX2).os, (unhide HX2).tape, (unhide HX2).output, (unhide HX2).size, fun b hb _ => (unhide HX2).block b hb⟩ (fun r h => by cases h)
            obtain ⟨p, f', htk, hep', hmp, hff, hkl⟩ := unhide HST
            obtain ⟨fn, tmps, assign, body, hy, hR⟩ := hY _ p _ hJ2 hkl
            rw [htk] at hR
            rw [hep'] at hy
            dsimp only [sdE] at hy
            have HNX := hide (And.intro hmp hff)
            have HZ3 := HZ2
            clear hJ2 htk hep' hmp hff hkl HST hJs
            refine (wpIn_wide (n := n)).1 ?_
            gi_wp2
            refine hR.mono ?_
            rintro e W3 (⟨rfl, hJ3, hk3⟩ | ⟨rfl, hJx3⟩)
            · have HK3 : Hid (KeepS N Ts W W3) := hide (((unhide HKP).trans (KeepS.of_below (unhide HX2) (fun b hb => (unhide HKP).lt hb (unhide HNl b hb)))).trans hk3)
              obtain ⟨_, _, _, _, _, _, z6'⟩ := row_cell7 (hk3.box q _ _ _ (unhide HTs) (unhide HZ2).1)
              obtain ⟨_, _, _, _, _, _, y6'⟩ := row_cell7 (hk3.box q2 _ _ _ (unhide HTs) (unhide HZ2).2)
              clear hk3 z0 z1 z2 z3 z4 z5 z6 y0 y1 y2 y3 y4 y5 y6
              gi_wp2
              go_wp2_with fail
              go_roundw
              case rel => exact ⟨i + 1, j, k + 1, f', by first | rfl | simp | go_num, by first | rfl | simp | go_num, hide ⟨by have := unhide HI; omega, by have := unhide HI; omega, by have := unhide HI; have := (unhide HNX).2; omega, (unhide HNX).1⟩, hJ3, HK3⟩
              case measure => simp [intOf]; omega
            · clear z0 z1 z2 z3 z4 z5 z6 y0 y1 y2 y3 y4 y5 y6
              gi_wp2
              go_wp2_with fail
              refine bodyPost_ret (results_none rfl _ _ _) rfl ?_
              exact ⟨⟨_, rfl⟩, .inr ⟨_, List.take_prefix _ _, hJx3⟩⟩
    · have him : i = m1 := by have := unhide HI; omega
      have i1 : ¬ (i : Int) < (m1 : Int) := by omega
      by_cases hj : j < m2
      · have i2 : (j : Int) < (m2 : Int) := by omega
        have i3 : (i : Int) = (m1 : Int) := by omega
        obtain ⟨yk', hyk⟩ : ∃ x, kb[j]? = some x := ⟨_, List.getElem?_eq_getElem (by have := unhide HM; omega)⟩
        obtain ⟨hcb, b, rfl, hNb, hltb, hcsb⟩ := hB j yk' hyk
        obtain ⟨yk, yt0, yt1, yt2, yt3, yt4, yt5, yt6, yt7, yt8, hep2⟩ : ∃ yk yt0 yt1 yt2 yt3 yt4 yt5 yt6 yt7 yt8, CB j = (yk, yt0, yt1, yt2, yt3, yt4, yt5, yt6, yt7, yt8) := ⟨_, _, _, _, _, _, _, _, _, _, rfl⟩
        rw [hep2] at hcsb hcb
        obtain rfl : yk = yk' := hcb
        have b0 : wr.cell? (b.add (j * 6)) = some (.string yk) := hcsb 0 _ rfl
        have b1 : wr.cell? ⟨(b.add (j * 6)).block, (b.add (j * 6)).off + 1, none⟩ = some (.int .i64 yt0) := hcsb 1 _ rfl
        have b2 : wr.cell? ⟨(b.add (j * 6)).block, (b.add (j * 6)).off + 2, none⟩ = some (.int .i64 yt1) := hcsb 2 _ rfl
        have b3 : wr.cell? ⟨(b.add (j * 6)).block, (b.add (j * 6)).off + 3, none⟩ = some (.string yt2) := hcsb 3 _ rfl
        have b4 : wr.cell? ⟨(b.add (j * 6)).block, (b.add (j * 6)).off + 4, none⟩ = some (.slice yt3 yt4 yt5) := hcsb 4 _ rfl
        have b5 : wr.cell? ⟨(b.add (j * 6)).block, (b.add (j * 6)).off + 5, none⟩ = some (.slice yt6 yt7 yt8) := hcsb 5 _ rfl
        have HST := hide (sd_take none (some j) i (j + 1) (by have := unhide HM; omega) (by have := unhide HM; have := unhide HI; omega) false true (inB_one (List.getElem?_eq_none (by have := unhide HM; omega)) hyk).1 (inB_one (List.getElem?_eq_none (by have := unhide HM; omega)) hyk).2 rfl rfl rfl rfl (unhide HI).2.2.2)
        rw [Option.map_some, Option.map_none, hep2] at HST
        have g1 : decide ((i : Int) < (m1 : Int)) = false := decide_eq_false i1
        have g2 : ((i : Int) == (m1 : Int)) = true := beq_iff_eq.2 i3
        have g3 : decide ((j : Int) < (m2 : Int)) = true := decide_eq_true i2
        have g4 : decide (i < m1) = false := decide_eq_false hi
        have g5 : decide (j < m2) = true := decide_eq_true hj
        have HJM := hide him
        clear hyk hcsb hA hB hNb hltb hep2 i3 him
        refine wpIn_wide.2 ?_
        have HKX : Hid (∀ w', Below wr.heap.size wr w' → w'.cell? ⟨p1, 0, none⟩ = some (.slice al m1 c1) ∧ w'.cell? ⟨p2, 0, none⟩ = some (.slice (some b) m2 c2) ∧ w'.cell? ⟨p3, 0, none⟩ = some (.func (.func 22) #[] #[]) ∧ w'.cell? ⟨p4, 0, none⟩ = some (.func (.func 22) #[] #[]) ∧ w'.cell? (b.add (j * 6)) = some (.string yk) ∧ w'.cell? ⟨(b.add (j * 6)).block, (b.add (j * 6)).off + 1, none⟩ = some (.int .i64 yt0) ∧ w'.cell? ⟨(b.add (j * 6)).block, (b.add (j * 6)).off + 2, none⟩ = some (.int .i64 yt1) ∧ w'.cell? ⟨(b.add (j * 6)).block, (b.add (j * 6)).off + 3, none⟩ = some (.string yt2) ∧ w'.cell? ⟨(b.add (j * 6)).block, (b.add (j * 6)).off + 4, none⟩ = some (.slice yt3 yt4 yt5) ∧ w'.cell? ⟨(b.add (j * 6)).block, (b.add (j * 6)).off + 5, none⟩ = some (.slice yt6 yt7 yt8)) := hide (fun w' hb2 => ⟨cell_later hb2 e1, cell_later hb2 e2, cell_later hb2 e3, cell_later hb2 e4, cell_later hb2 b0, cell_later hb2 b1, cell_later hb2 b2, cell_later hb2 b3, cell_later hb2 b4, cell_later hb2 b5⟩)
        have HX0 : Hid (Below wr.heap.size wr wb) := hide (unhide HQ).2.2.2.2
        have HZ0 : Hid (wb.heap[q]? = some (.cells #[.string ⟨#[]⟩, .int .i64 0, .int .i64 0, .string ⟨#[]⟩, .slice none 0 0, .slice none 0 0, .bool false] 55 (0, 0)) ∧ wb.heap[q2]? = some (.cells #[.string ⟨#[]⟩, .int .i64 0, .int .i64 0, .string ⟨#[]⟩, .slice none 0 0, .slice none 0 0, .bool false] 55 (0, 0))) := hide ⟨(unhide HQ).2.2.1, (unhide HQ).2.2.2.1⟩
        have HK4 : Hid (∀ w', Below wb.heap.size wb w' → w'.cell? ⟨p1, 0, none⟩ = some (.slice al m1 c1) ∧ w'.cell? ⟨p2, 0, none⟩ = some (.slice (some b) m2 c2) ∧ w'.cell? ⟨p3, 0, none⟩ = some (.func (.func 22) #[] #[]) ∧ w'.cell? ⟨p4, 0, none⟩ = some (.func (.func 22) #[] #[]) ∧ w'.cell? (b.add (j * 6)) = some (.string yk) ∧ w'.cell? ⟨(b.add (j * 6)).block, (b.add (j * 6)).off + 1, none⟩ = some (.int .i64 yt0) ∧ w'.cell? ⟨(b.add (j * 6)).block, (b.add (j * 6)).off + 2, none⟩ = some (.int .i64 yt1) ∧ w'.cell? ⟨(b.add (j * 6)).block, (b.add (j * 6)).off + 3, none⟩ = some (.string yt2) ∧ w'.cell? ⟨(b.add (j * 6)).block, (b.add (j * 6)).off + 4, none⟩ = some (.slice yt3 yt4 yt5) ∧ w'.cell? ⟨(b.add (j * 6)).block, (b.add (j * 6)).off + 5, none⟩ = some (.slice yt6 yt7 yt8)) := hide (fun w' hb => unhide HKX w' ((unhide HX0).trans (hb.mono (unhide HX0).size)))
        go_upto_region 4 with fail
        clear e1 e2 e3 e4 b0 b1 b2 b3 b4 b5
        obtain ⟨e1, e2, e3, e4, b0, b1, b2, b3, b4, b5⟩ := unhide HKX wb (unhide HX0)
        go_cut [44] from 10 to 92 (fun r wx => r = .bool false ∧ Hid (Below wb.heap.size wb wx))
        case first =>
          go_quiet (fail)
          go_wp2_with fail
          go_meet
          exact ⟨rfl, hide (below_drewN (Below.refl _ _) _)⟩
        case rest =>
          obtain ⟨rfl, HW4⟩ := hcut
          obtain ⟨wc4, hwc4⟩ : ∃ wc4, wc4 = wc := ⟨_, rfl⟩
          subst hwc4
          have HY4 : Hid (Below wr.heap.size wr wc4 ∧ wc4.heap[q]? = some (.cells #[.string ⟨#[]⟩, .int .i64 0, .int .i64 0, .string ⟨#[]⟩, .slice none 0 0, .slice none 0 0, .bool false] 55 (0, 0)) ∧ wc4.heap[q2]? = some (.cells #[.string ⟨#[]⟩, .int .i64 0, .int .i64 0, .string ⟨#[]⟩, .slice none 0 0, .slice none 0 0, .bool false] 55 (0, 0))) := hide ⟨(unhide HX0).trans ((unhide HW4).mono (unhide HX0).size), ((unhide HW4).block q (Array.getElem?_eq_some_iff.1 (unhide HZ0).1).1).trans (unhide HZ0).1, ((unhide HW4).block q2 (Array.getElem?_eq_some_iff.1 (unhide HZ0).2).1).trans (unhide HZ0).2⟩
          clear e1 e2 e3 e4 b0 b1 b2 b3 b4 b5 HW4 HK4 HX0 HZ0
          have HX1 : Hid (Below wr.heap.size wr wc4) := hide (unhide HY4).1
          have HZ1 : Hid (wc4.heap[q]? = some (.cells #[.string ⟨#[]⟩, .int .i64 0, .int .i64 0, .string ⟨#[]⟩, .slice none 0 0, .slice none 0 0, .bool false] 55 (0, 0)) ∧ wc4.heap[q2]? = some (.cells #[.string ⟨#[]⟩, .int .i64 0, .int .i64 0, .string ⟨#[]⟩, .slice none 0 0, .slice none 0 0, .bool false] 55 (0, 0))) := hide (unhide HY4).2
          clear HY4
          have HK6 : Hid (∀ w', Below wc4.heap.size wc4 w' → w'.cell? ⟨p1, 0, none⟩ = some (.slice al m1 c1) ∧ w'.cell? ⟨p2, 0, none⟩ = some (.slice (some b) m2 c2) ∧ w'.cell? ⟨p3, 0, none⟩ = some (.func (.func 22) #[] #[]) ∧ w'.cell? ⟨p4, 0, none⟩ = some (.func (.func 22) #[] #[]) ∧ w'.cell? (b.add (j * 6)) = some (.string yk) ∧ w'.cell? ⟨(b.add (j * 6)).block, (b.add (j * 6)).off + 1, none⟩ = some (.int .i64 yt0) ∧ w'.cell? ⟨(b.add (j * 6)).block, (b.add (j * 6)).off + 2, none⟩ = some (.int .i64 yt1) ∧ w'.cell? ⟨(b.add (j * 6)).block, (b.add (j * 6)).off + 3, none⟩ = some (.string yt2) ∧ w'.cell? ⟨(b.add (j * 6)).block, (b.add (j * 6)).off + 4, none⟩ = some (.slice yt3 yt4 yt5) ∧ w'.cell? ⟨(b.add (j * 6)).block, (b.add (j * 6)).off + 5, none⟩ = some (.slice yt6 yt7 yt8)) := hide (fun w' hb => unhide HKX w' ((unhide HX1).trans (hb.mono (unhide HX1).size)))
          obtain ⟨e1, e2, e3, e4, b0, b1, b2, b3, b4, b5⟩ := unhide HKX wc4 (unhide HX1)
          go_upto_region 6 with fail
          go_cut [74] from 10 to 92 (fun r wx => r = .bool true ∧ Hid (Below wc4.heap.size wc4 wx))
          case first =>
            go_quiet (fail)
            go_wp2_with fail
            go_meet
            exact ⟨rfl, hide (below_drewN (Below.refl _ _) _)⟩
          case rest =>
            obtain ⟨rfl, HW6⟩ := hcut
            obtain ⟨wc6, hwc6⟩ : ∃ wc6, wc6 = wc := ⟨_, rfl⟩
            subst hwc6
            have HY6 : Hid (Below wr.heap.size wr wc6 ∧ wc6.heap[q]? = some (.cells #[.string ⟨#[]⟩, .int .i64 0, .int .i64 0, .string ⟨#[]⟩, .slice none 0 0, .slice none 0 0, .bool false] 55 (0, 0)) ∧ wc6.heap[q2]? = some (.cells #[.string ⟨#[]⟩, .int .i64 0, .int .i64 0, .string ⟨#[]⟩, .slice none 0 0, .slice none 0 0, .bool false] 55 (0, 0))) := hide ⟨(unhide HX1).trans ((unhide HW6).mono (unhide HX1).size), ((unhide HW6).block q (Array.getElem?_eq_some_iff.1 (unhide HZ1).1).1).trans (unhide HZ1).1, ((unhide HW6).block q2 (Array.getElem?_eq_some_iff.1 (unhide HZ1).2).1).trans (unhide HZ1).2⟩
            clear e1 e2 e3 e4 b0 b1 b2 b3 b4 b5 HW6 HK6 HX1 HZ1
            obtain ⟨e1, e2, e3, e4, b0, b1, b2, b3, b4, b5⟩ := unhide HKX wc6 (unhide HY6).1
            obtain ⟨z0, z1, z2, z3, z4, z5, z6⟩ := row_cell7 (unhide HY6).2.2
            have f0 := frozen_of_row wc6 q2 0 _ _ (unhide HY6).2.2
            have f1 := frozen_of_row wc6 q2 1 _ _ (unhide HY6).2.2
            have f2 := frozen_of_row wc6 q2 2 _ _ (unhide HY6).2.2
            have f3 := frozen_of_row wc6 q2 3 _ _ (unhide HY6).2.2
            have f4 := frozen_of_row wc6 q2 4 _ _ (unhide HY6).2.2
            have f5 := frozen_of_row wc6 q2 5 _ _ (unhide HY6).2.2
            have f6 := frozen_of_row wc6 q2 6 _ _ (unhide HY6).2.2
            go_upto_region 8 with fail
            obtain ⟨wd6, hwd⟩ : ∃ wd, (((((((wc6.setCell ⟨q2, 0, none⟩ (.string yk)).setCell ⟨q2, 1, none⟩ (.int .i64 yt0)).setCell ⟨q2, 2, none⟩ (.int .i64 yt1)).setCell ⟨q2, 3, none⟩ (.string yt2)).setCell ⟨q2, 4, none⟩ (.slice yt3 yt4 yt5)).setCell ⟨q2, 5, none⟩ (.slice yt6 yt7 yt8)).setCell ⟨q2, 6, none⟩ (.bool true)) = wd := ⟨_, rfl⟩
            have HX2 : Hid (Below wr.heap.size wr wd6) := hide (by rw [← hwd]; exact set7_below (unhide HY6).1 (by have := unhide HQ; omega) _ _ _ _ _ _ _)
            have HZ2 : Hid (wd6.heap[q]? = some (.cells #[.string ⟨#[]⟩, .int .i64 0, .int .i64 0, .string ⟨#[]⟩, .slice none 0 0, .slice none 0 0, .bool false] 55 (0, 0)) ∧ wd6.heap[q2]? = some (.cells #[.string yk, .int .i64 yt0, .int .i64 yt1, .string yt2, .slice yt3 yt4 yt5, .slice yt6 yt7 yt8, .bool true] 55 (0, 0))) := hide ⟨by rw [← hwd]; exact (set7_other (by have := unhide HQ; omega) _ _ _ _ _ _ _).trans (unhide HY6).2.1, by rw [← hwd]; exact set7 (unhide HY6).2.2 _ _ _ _ _ _ _⟩
            rw [hwd]
            clear hwd z0 z1 z2 z3 z4 z5 z6 f0 f1 f2 f3 f4 f5 f6 e1 e2 e3 e4 b0 b1 b2 b3 b4 b5 HY6
            obtain ⟨z0, z1, z2, z3, z4, z5, z6⟩ := row_cell7 (unhide HZ2).1
            obtain ⟨y0, y1, y2, y3, y4, y5, y6⟩ := row_cell7 (unhide HZ2).2
            have hJ2 : J (ps.take k) wd6 := hJ _ _ _ none hJs ⟨(unhide HX2).os, (unhide HX2).tape, (unhide HX2).output, (unhide HX2).size, fun b hb _ => (unhide HX2).block b hb⟩ (fun r h => by cases h)
            obtain ⟨p, f', htk, hep', hmp, hff, hkl⟩ := unhide HST
            obtain ⟨fn, tmps, assign, body, hy, hR⟩ := hY _ p _ hJ2 hkl
            rw [htk] at hR
            rw [hep'] at hy
            dsimp only [sdE] at hy
            have HNX := hide (And.intro hmp hff)
            have HZ3 := HZ2
            clear hJ2 htk hep' hmp hff hkl HST hJs
            refine (wpIn_wide (n := n)).1 ?_
            gi_wp2
            refine hR.mono ?_
            rintro e W3 (⟨rfl, hJ3, hk3⟩ | ⟨rfl, hJx3⟩)
            · have HK3 : Hid (KeepS N Ts W W3) := hide (((unhide HKP).trans (KeepS.of_below (unhide HX2) (fun b hb => (unhide HKP).lt hb (unhide HNl b hb)))).trans hk3)
              obtain ⟨_, _, _, _, _, _, z6'⟩ := row_cell7 (hk3.box q _ _ _ (unhide HTs) (unhide HZ2).1)
              obtain ⟨_, _, _, _, _, _, y6'⟩ := row_cell7 (hk3.box q2 _ _ _ (unhide HTs) (unhide HZ2).2)
              clear hk3 z0 z1 z2 z3 z4 z5 z6 y0 y1 y2 y3 y4 y5 y6
              gi_wp2
              go_wp2_with fail
              go_roundw
              case rel => exact ⟨i, j + 1, k + 1, f', by first | rfl | simp | go_num, by first | rfl | simp | go_num, hide ⟨by have := unhide HI; omega, by have := unhide HI; omega, by have := unhide HI; have := (unhide HNX).2; omega, (unhide HNX).1⟩, hJ3, HK3⟩
              case measure => simp [intOf]; omega
            · clear z0 z1 z2 z3 z4 z5 z6 y0 y1 y2 y3 y4 y5 y6
              gi_wp2
              go_wp2_with fail
              refine bodyPost_ret (results_none rfl _ _ _) rfl ?_
              exact ⟨⟨_, rfl⟩, .inr ⟨_, List.take_prefix _ _, hJx3⟩⟩
      · have hjm : j = m2 := by have := unhide HI; omega
        have i2 : ¬ (j : Int) < (m2 : Int) := by omega
        have htk : ps.take k = ps := by
          have := (unhide HI).2.2.2
          rw [sdN_end ka kb f i j (by have := unhide HM; omega) (by have := unhide HM; omega), List.map_nil, List.map_eq_nil_iff, List.drop_eq_nil_iff] at this
          exact List.take_of_length_le this
        rw [htk] at hJs
        clear hA hB htk hwa hwb hq hq2 him hjm
        gi_wp2
        go_end0
        first | exact ⟨⟨_, rfl⟩, .inl ⟨_, rfl, hJs⟩⟩ | exact ⟨⟨_, rfl⟩, .inl hJs⟩
end Go.Proofs.Ytlmgiimgmjbkeaa
