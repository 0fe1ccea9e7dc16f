/-
  The walk of CodeLists: every Bytes and List is the document's; conditions: the package's variables, at most 2^20 instructions and bytes.
-/
import Derived.Test.YtbilcninhhkkpaaDoorCListed
import Derived.Test.YtbilcninhhkkpaaDoorCShown
import Derived.Laws.CopyRow
import Derived.Laws.MakeOwn
namespace Go.Proofs.YtbilcninhhkkpaaDoor
open Go.RowKit

/-- make([]T, n, c) -/
theorem wpl_make2 {P : Program} {w : World} {ops : Array Oper} {rest : List Oper} {o : Oper} {a : Act} {Q : Exit → Act → World → Prop} (hgd : o.guard = none) (l c : Operand) (T e : TypeId) (i0 : TypeInfo) (z : Value) (ho : o.op = .makeSlice T l c)
    (hu : P.underlying T = some (.slice e)) (hi : P.info? e = some i0) (hz : i0.zero = some z) (n m : Nat) (hl : a.eval l = .int .i64 (n : Int)) (hc : a.eval c = .int .i64 (m : Int)) (hnm : n ≤ m) (hb : i0.bytes * m ≤ 281474976710656) (hm : m ≤ 9223372036854775807)
    (h : ∀ w', Hid (w' = w.alloc (.cells (madeCells z.cells (m * i0.size)) e)) → wpList P ops Q rest (a.put o.dst (.slice (some ⟨w.heap.size, 0, none⟩) n m)) w') : wpList P ops Q (o :: rest) a w := by
  refine wpList_plain hgd fun K hK => ?_
  have hrun := run_make (P := P) w T e i0 z hu hi hz .i64 .i64 (n : Int) (m : Int) (by omega) (by omega) (by have e : ((i0.bytes * m : Nat) : Int) = (i0.bytes : Int) * (m : Int) := Int.natCast_mul _ _; omega) (by omega)
  unfold Oper.wp
  simp only [execOp, ho, hl, hc, hrun, Sem.run_bind, Result.andThen]
  exact hK _ _ (h _ (by simp [hide]))

/-- copy of whole instructions into a new row -/
theorem wpl_copyN {w : World} {ops : Array Oper} {rest : List Oper} {o : Oper} {a : Act} {Q : Exit → Act → World → Prop} (hgd : o.guard = none) (d s : Operand)
    (ho : o.op = .call { callee := .builtin .copy, args := #[d, s], argTypes := #[35, 35] })
    (g n dCap sCap : Nat) (ao : Option Addr) (ls : List Ins) (hd : a.eval d = .slice (some ⟨g, 0, none⟩) n dCap) (hs : a.eval s = .slice ao n sCap) (hl : RowN w ao n ls) (hnl : ao = none → n = 0 ∧ sCap = 0)
    (cur : Array Value) (hg : w.heap[g]? = some (.cells cur 42 (0, 0))) (hfit : n * 2 ≤ cur.size)
    (h : ∀ w' rest', Hid (w'.heap[g]? = some (.cells (insV ls ++ rest').toArray 42 (0, 0)) ∧ w'.heap.size = w.heap.size ∧ (∀ B a, Below B a w → B ≤ g → Below B a w')) → wpList Tryd.prog ops Q rest (a.put o.dst (goInt n)) w') : wpList Tryd.prog ops Q (o :: rest) a w := by
  refine wpList_plain hgd fun K hK => ?_
  obtain ⟨i0, hi, hz0, hz1, hz2⟩ := info_parts ins_info
  have hlen := hl.1
  cases ao with
  | none =>
    obtain ⟨rfl, rfl⟩ := hnl rfl
    have : ls = [] := List.eq_nil_of_length_eq_zero hlen
    subst this
    have hrun := run_copy_nil (P := Tryd.prog) w 35 35 o.type 42 ⟨g, 0, none⟩ 0 dCap Tryd.underlying35 (by rw [hi]; rfl)
    unfold Oper.wp
    simp only [execOp, ho, resolve, invoke, builtin, Sem.run_bind, Sem.run_pure, Result.andThen_ok, List.map_toArray, List.map_cons, List.map_nil, hd, hs, hrun]
    exact hK _ _ (h w cur.toList (hide ⟨by simpa [insV] using hg, rfl, fun B a h _ => h⟩))
  | some ad =>
    have hsrc : ∀ j v, (insV ls)[j]? = some v → w.cell? (ad.add j) = some v := by
      intro j v hv
      have hj : j < ls.length * 2 := by
        have := (List.getElem?_eq_some_iff.1 hv).1
        rw [insV_len] at this
        exact this
      obtain ⟨a0, b0, o0, e0, hadd0, _, _⟩ := hl.2.2 0 ls[0] (List.getElem?_eq_getElem (by omega))
      cases e0
      have had : ad = ⟨b0, o0, none⟩ := hadd0
      subst had
      obtain ⟨p, hp⟩ : ∃ p, ls[j / 2]? = some p := ⟨_, List.getElem?_eq_getElem (by omega)⟩
      obtain ⟨a1, b1, o1, e1, hadd1, c1, c2⟩ := hl.2.2 (j / 2) p hp
      cases e1
      rw [Addr.add_mid] at hadd1
      cases hadd1
      have hv2 := insV_at ls (j / 2) p hp
      rw [Addr.add_mid]
      rcases Nat.mod_two_eq_zero_or_one j with h2 | h2
      · have e : j / 2 * 2 = j := by omega
        rw [e] at hv2 c1
        rw [hv2.1] at hv
        cases hv
        exact c1
      · have e : j / 2 * 2 + 1 = j := by omega
        rw [e] at hv2
        rw [show o0 + j / 2 * 2 + 1 = o0 + j by omega] at c2
        rw [hv2.2] at hv
        cases hv
        exact c2
    have hcs : (insV ls).length = n * 2 := by rw [insV_len, hlen]
    have h1 : ∀ v ∈ insV ls, v.oneCell' = true := by
      intro v hv
      unfold insV at hv
      obtain ⟨p, _, hp⟩ := List.mem_flatMap.1 hv
      simp at hp
      rcases hp with rfl | rfl <;> rfl
    have hlo := run_loadCells_list (P := Tryd.prog) w ad (insV ls) hsrc
    have hst := run_storeCells_at Tryd.prog g 0 42 (insV ls) 0 cur w hg (by omega) h1
    rw [hcs] at hlo
    have hrun : (Builtin.copy_ #[35, 35] o.type #[.slice (some ⟨g, 0, none⟩) n dCap, .slice (some ad) n sCap]).run Tryd.prog w = .ok (goInt n) (w.setRow g (insV ls ++ cur.toList.drop (n * 2)).toArray) := by
      simp [Builtin.copy_, run_underlying Tryd.underlying35, Builtin.lenOf, Builtin.firstCells, sizeOf, typeInfo, hi, hz1, hlo, hst, hcs]
    unfold Oper.wp
    simp only [execOp, ho, resolve, invoke, builtin, Sem.run_bind, Sem.run_pure, Result.andThen_ok, List.map_toArray, List.map_cons, List.map_nil, hd, hs, hrun]
    exact hK _ _ (h _ (cur.toList.drop (n * 2)) (hide ⟨setRow_heap w g cur _ _ _ hg, by simp [World.setRow], fun B a hb hB => below_setRow hb hB _⟩))

theorem row_new {w : World} {g n : Nat} {ls : List Ins} {rest : List Value} (hg : w.heap[g]? = some (.cells (insV ls ++ rest).toArray 42 (0, 0))) (hl : ls.length = n) (hb : ∀ p ∈ ls, i64B p.1 ∧ i64B p.2) : RowN w (some ⟨g, 0, none⟩) n ls := by
  refine ⟨hl, hb, fun j p hp => ⟨⟨g, 0, none⟩, g, j * 2, rfl, by rw [Addr.add_mid, Nat.zero_add], ?_, ?_⟩⟩
  · have h1 := (insV_at ls j p hp).1
    rw [cell_of_row w g _ _ _ (0, 0) hg]
    have hj := (List.getElem?_eq_some_iff.1 h1).1
    simp only [List.getElem?_toArray]
    rw [List.getElem?_append_left hj]
    exact h1
  · have h1 := (insV_at ls j p hp).2
    rw [cell_of_row w g _ _ _ (0, 0) hg]
    have hj := (List.getElem?_eq_some_iff.1 h1).1
    simp only [List.getElem?_toArray]
    rw [List.getElem?_append_left hj]
    exact h1

set_option maxRecDepth 100000 in
set_option maxHeartbeats 2000000 in
theorem lists_walk (al : Option Addr) (ll cl : Nat) (ls : List Ins) (ab : Option Addr) (lb cb : Nat) (zs : List Int) (w : World) (h : Tab2 w) (hl : RowN w al ll ls) (hnl : al = none → ll = 0 ∧ cl = 0) (hm : ll ≤ 1048576) (hz : Row8 w ab lb cb zs) (hcb : cb ≤ 1048576) :
    Calls Tryd.prog 7 #[.slice al ll cl, .slice ab lb cb] w fun e w' => e = .returned (.bool true) ∧ Below w.heap.size w w' := by
  obtain ⟨iN, hiN, hzN0, hzN1, hzN2⟩ := info_parts ins_info
  have HJ := hide (And.intro hiN (And.intro hzN0 (And.intro hzN1 hzN2)))
  have HALL : Hid (∀ u, Below w.heap.size w u → Tab2 u ∧ RowN u al ll ls ∧ Row8 u ab lb cb zs) := hide (fun u hu => ⟨h.below hu, hl.later hu, hz.later hu⟩)
  have HLL := hide (And.intro hl.1 hl.2.1)
  have HNL := hide hnl
  have hzl := hz.length
  have hle := hz.le
  have HSB := hide (bytesL_small ls)
  have hbl := bytesL_len ls
  rw [(unhide HLL).1] at hbl
  obtain ⟨G, hG⟩ : ∃ G, w.heap.size = G := ⟨_, rfl⟩
  have hbig := h.big
  clear h hl hnl hz hiN hzN0 hzN1 hzN2
  obtain ⟨M, hM⟩ : ∃ M : Nat, ll + 3 = M := ⟨_, rfl⟩
  have m1 : (ll : Int) + 3 = (M : Int) := by omega
  have m2 : IntKind.i64.wrap (M : Int) = (M : Int) := by rw [IntKind.wrap_i64]; omega
  have HM := hide hM
  clear hM
  have tokA : True := trivial
  have tokB : True := trivial
  go_enter Tryd.func7, Tryd.ntmps7
  go_wp2_with (first
    | (at_make; have _t := tokA; refine wpl_make2 rfl _ _ 35 42 iN _ rfl Tryd.underlying35 (unhide HJ).1 (unhide HJ).2.1 ll M rfl rfl (by have := unhide HM; omega) (by rw [(unhide HJ).2.2.2]; have := unhide HM; omega) (by have := unhide HM; omega) ?_; clear tokA; intro w1 hw1; have A1 : Hid (w1.heap[G]? = some (.cells (madeCells #[.int .i64 0, .int .i64 0] (M * 2)) 42 (0, 0)) ∧ Below G w w1) := (hide (by rw [unhide hw1, (unhide HJ).2.2.1, ← hG]; exact ⟨heap_alloc_new _ _, (Below.refl _ _).alloc (Nat.le_refl _) _⟩)); clear hw1)
    | (have _t := tokB; refine wpl_copyN rfl (.tmp 18) (.tmp 19) rfl G ll M cl al ls rfl rfl (unhide HALL w1 (by rw [hG]; exact (unhide A1).2)).2.1 (unhide HNL) _ (unhide A1).1 (by rw [size_madeCells]; have := unhide HM; omega) ?_; clear tokB; intro w2 rr H2))
  have B2 : Hid (Below w.heap.size w w2) := hide ((unhide H2).2.2 _ _ (by rw [hG]; exact (unhide A1).2) (by omega))
  have r2 : RowN w2 (some ⟨G, 0, none⟩) ll ls := row_new (unhide H2).1 (unhide HLL).1 (unhide HLL).2
  have HR2 := hide r2
  have z2 : G < w2.heap.size := (Array.getElem?_eq_some_iff.1 (unhide H2).1).1
  have CB := hide (bytes_any (some ⟨G, 0, none⟩) ll M ls w2 (unhide HALL w2 (unhide B2)).1 r2 (by omega))
  have CR : Hid (∀ u, Below w.heap.size w u → _) := hide (fun u hu => rbytes_any al ll cl ls u (unhide HALL u hu).2.1 (by omega))
  obtain ⟨E, hE⟩ : ∃ E, bytesF ls = E := ⟨_, rfl⟩
  obtain ⟨R, hR⟩ : ∃ R, (if E = 0 then bytesL ls else []) = R := ⟨_, rfl⟩
  have hRs : ∀ c ∈ R, 0 ≤ c ∧ c ≤ 255 := by
    intro c hc
    rw [← hR] at hc
    split at hc
    · rename_i h0; exact unhide HSB (hE.trans h0) c hc
    · cases hc
  have hRl : R.length ≤ ll * 3 := by
    rw [← hR]
    split
    · exact hbl.2
    · simp
  rw [hE, hR] at CB
  rw [hE, hR] at CR
  have HRS := hide hRs
  clear r2 H2 A1 hE hR hRs hbl
  go_wp2_with fail
  refine (unhide CB).mono ?_
  rintro e w3 ⟨a3, n3, c3, rfl, B3, O3⟩
  have X3 : Hid (Below w.heap.size w w3) := hide ((unhide B2).trans (B3.mono (unhide B2).size))
  have P3 := hide (And.intro O3 B3)
  have CRa := hide (unhide CR w3 (unhide X3))
  clear B3 O3 CB CR
  go_wp2_with fail
  refine (unhide CRa).mono ?_
  rintro e w4 ⟨a4, n4, c4, rfl, B4, O4⟩
  have X4 : Hid (Below w.heap.size w w4) := hide ((unhide X3).trans (B4.mono (unhide X3).size))
  have q3 := own_row (own_below (unhide P3).1 B4) (unhide HRS)
  have q4 := own_row O4 (unhide HRS)
  have k3 := conv8 q3.1
  have k4 := conv8 q4.1
  have Q3 := hide q3.1
  have Y4 : Hid (Below w2.heap.size w2 w4) := hide ((unhide P3).2.trans (B4.mono (unhide P3).2.size))
  have hc3 : c3 ≤ 9223372036854775807 := by
    rcases (unhide P3).1.2 with ⟨e, _⟩ | ⟨_, _, _, e, _, _, _, h, _⟩
    · cases e; omega
    · cases e; unfold maxLen at h; omega
  have hn3 := q3.1.length
  obtain ⟨S, hS⟩ : ∃ S, strOfNums R = S := ⟨_, rfl⟩
  rw [hS] at k3 k4
  clear B4 O4 CRa q3 q4 hS
  go_wp2_with fail
  clear k3 k4
  go_loopw [10] (fun x wr => ∃ (i : Nat), x = .int .i64 (i : Int) ∧ Hid (i ≤ ll ∧ Below w4.heap.size w4 wr)) (fun x _ => ll - (intOf x).toNat)
  case atStart => exact ⟨0, rfl, hide ⟨by omega, Below.refl _ _⟩⟩
  case round =>
    obtain ⟨i, rfl, HX⟩ := hrel
    obtain ⟨wq, hwq⟩ : ∃ wq, wq = wr := ⟨_, rfl⟩
    subst hwq
    have Xq : Hid (Below w.heap.size w wq) := hide ((unhide X4).trans ((unhide HX).2.mono (unhide X4).size))
    by_cases hlt : i < ll
    · have i1 : (i : Int) < (ll : Int) := by omega
      obtain ⟨⟨op, a⟩, hp⟩ : ∃ p, ls[i]? = some p := ⟨_, List.getElem?_eq_getElem (by rw [(unhide HLL).1]; exact hlt)⟩
      have r1 := ((unhide HR2).later (unhide Y4)).later (unhide HX).2
      have r3 := (unhide HALL wq (unhide Xq)).2.1
      obtain ⟨ad1, b1, o1, e1, hadd1, cA1, cB1⟩ := r1.2.2 i _ hp
      cases e1
      rw [Addr.add_mid, Nat.zero_add] at hadd1
      cases hadd1
      obtain ⟨ad3, b3, o3, rfl, hadd3, cA3, cB3⟩ := r3.2.2 i _ hp
      simp only [] at cA1 cB1 cA3 cB3
      have HL := hide hlt
      have HI1 : Hid (i + 1 ≤ ll) := hide (by omega)
      have hM3 := unhide HM
      clear r1 r3 hp hlt
      go_upto_region 10 with fail
      go_quiet (fail)
      go_wp2_with fail
      go_roundw
      case rel => exact ⟨i + 1, by go_num, hide ⟨unhide HI1, below_drewN (unhide HX).2 _⟩⟩
      case measure => have := unhide HL; simp [intOf]; omega
    · have C1 := hide (listed_any ab lb cb zs wq (unhide HALL wq (unhide Xq)).1 (unhide HALL wq (unhide Xq)).2.2 (by omega) (by have := cnt_le zs lb 0; omega))
      have Q5 := hide ((unhide Q3).later (unhide HX).2)
      have hi : i = ll := by have := (unhide HX).1; omega
      subst hi
      clear HX hlt
      go_wp2_with fail
      refine (unhide C1).mono ?_
      rintro e w5 ⟨rfl, B5⟩
      have X5 : Hid (Below w.heap.size w w5) := hide ((unhide Xq).trans (B5.mono (unhide Xq).size))
      have C2 := hide (listed_any a3 n3 c3 R w5 (unhide HALL w5 (unhide X5)).1 ((unhide Q5).later B5) hc3 (by have := cnt_le R n3 0; omega))
      clear B5 C1
      go_wp2_with fail
      refine (unhide C2).mono ?_
      rintro e w6 ⟨rfl, B6⟩
      have X6 : Hid (Below w.heap.size w w6) := hide ((unhide X5).trans (B6.mono (unhide X5).size))
      have C3 := hide (shown_any w6 (unhide HALL w6 (unhide X6)).1)
      clear B6 C2
      go_wp2_with fail
      refine (unhide C3).mono ?_
      rintro e w7 ⟨rfl, B7⟩
      have X7 : Hid (Below w.heap.size w w7) := hide ((unhide X6).trans (B7.mono (unhide X6).size))
      clear B7 C3
      go_wp2_with fail
      go_ret
      exact ⟨rfl, unhide X7⟩
end Go.Proofs.YtbilcninhhkkpaaDoor
