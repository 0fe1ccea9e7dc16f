/-
  The walks of the document's section and bytes (layer 9): a module's bytes; conditions: its parts may be.
-/
import Derived.Test.YtcknoeepdjhnoaaGreatDoorH43
import Derived.Test.YtcknoeepdjhnoaaGreatDoorH32
import Derived.Test.YtcknoeepdjhnoaaGreatDoorH18
set_option linter.unusedVariables false
set_option linter.unusedSimpArgs false
namespace Go.Proofs.YtcknoeepdjhnoaaGreatDoor
open Go.RowKit
set_option linter.unusedVariables false
set_option linter.unusedSimpArgs false

theorem refUint_row (ao : Option Addr) (len cap : Nat) (n N : Int) (zs : List Int) (w : World) (hN : N = n) (hr : Row8 w ao len cap zs) (hm : len + 10 ≤ 140737489403904) (h0 : 0 ≤ n) (h1 : n ≤ 18446744073709551615) :
    Calls Tryz.prog 72 #[.slice ao len cap, .int .u64 N] w fun e w' => ∃ g c L : Nat, e = .returned (.slice (some ⟨g, 0, none⟩) L c) ∧ Row8 w' (some ⟨g, 0, none⟩) L c (zs ++ encF 9 n) ∧ w.heap.size ≤ g ∧ Below w.heap.size w w' ∧ len < L ∧ L ≤ len + 10 := by
  refine (refPutUint_int ao len cap n N hN zs w hr hm h0 h1).mono ?_
  rintro e w' ⟨g, c, hg, rfl, own, b⟩
  have hl := encF_len 9 n
  refine ⟨g, c, _, rfl, Row8.own own (fun x hx => ?_), hg, b, by omega, by omega⟩
  rcases List.mem_append.1 hx with h | h
  · exact hr.small x h
  · exact encF9_bytes n h0 h1 x h

theorem refText_row (ao : Option Addr) (len cap : Nat) (s : ByteArray) (zs : List Int) (w : World) (hr : Row8 w ao len cap zs) (hm : len + 10 + s.size ≤ 140737489403904) (hs : s.size ≤ 140737488351232) :
    Calls Tryz.prog 74 #[.slice ao len cap, .string s] w fun e w' => ∃ g c L : Nat, e = .returned (.slice (some ⟨g, 0, none⟩) L c) ∧ Row8 w' (some ⟨g, 0, none⟩) L c (zs ++ (encF 9 (s.size : Int) ++ nums s)) ∧ w.heap.size ≤ g ∧ Below w.heap.size w w' ∧ len < L ∧ L ≤ len + 10 + s.size := by
  refine (refPutText_any ao len cap s zs w hr hm).mono ?_
  rintro e w' ⟨g, c, hg, rfl, own, b⟩
  have hl := encF_len 9 (s.size : Int)
  rw [List.append_assoc] at own
  refine ⟨g, c, _, rfl, Row8.own own (fun x hx => ?_), hg, b, by omega, by omega⟩
  rcases List.mem_append.1 hx with h | h
  · exact hr.small x h
  · exact tx_small s (by omega) x h

theorem wpl_growN {w : World} {ops : Array Oper} {rest : List Oper} {o : Oper} {a : Act} {Q : Exit → Act → World → Prop} (hgd : o.guard = none) (sl x : Operand)
    (ho : o.op = .call { callee := .builtin .append, args := #[sl, x], argTypes := #[59, 59] })
    (g n : Nat) (xs : List Int) (hs : a.eval sl = .slice (some ⟨g, 0, none⟩) n n) (hc : Row8 w (some ⟨g, 0, none⟩) n n xs)
    (ad : Addr) (m c : Nat) (rs : List Int) (hx : a.eval x = .slice (some ad) m c) (hr : Row8 w (some ad) m c rs) (hm : 0 < m)
    (hbytes : n + m ≤ 140737488355328)
    (h : ∀ v' w', Hid (w'.ownsRow w.heap.size 5 1 v' (n + m) ((xs ++ rs).map (Value.int .u8)) ∧ Below w.heap.size w w') → wpList Tryz.prog ops Q rest (a.put o.dst v') w') :
    wpList Tryz.prog ops Q (o :: rest) a w := by
  obtain ⟨i0, hi, hz0, hz1, hz2⟩ := info_parts info5
  have hxl : (xs.map (Value.int .u8)).length = n := by rw [List.length_map]; exact hc.length
  have hrl : (rs.map (Value.int .u8)).length = m := by rw [List.length_map]; exact hr.length
  refine wpList_plain hgd fun K hK => ?_
  have hrun := run_append_grow (P := Tryz.prog) w 59 o.type 5 i0 (.int .u8 0) Tryz.underlying59 hi hz0 ⟨g, 0, none⟩ n n (xs.map (Value.int .u8)) (by rw [hz1, hxl, Nat.mul_one]) (hc.cells _ rfl) ad m c (rs.map (Value.int .u8)) (by rw [hz1, hrl, Nat.mul_one]) (hr.cells _ rfl) (by omega) (by omega) (by have := next_far (need := n + m) (old := n) (by omega); rw [hz2]; omega)
  unfold Oper.wp
  simp only [execOp, ho, resolve, invoke, builtin, Sem.run_bind, Sem.run_pure, Result.andThen_ok, List.map_toArray, List.map_cons, List.map_nil, hs, hx, hrun]
  refine hK _ _ (h _ _ ⟨?_, (Below.refl _ _).grown (made_grown w _ _ none) (Nat.le_refl _) (by simp)⟩)
  exact made8 w w.heap.size (n + m) _ _ _ (by simp) (by rw [List.length_map, List.length_append, hc.length, hr.length]) (grownCap_ge w (n + m) n 5) (grownCap_le_maxLen w (n + m) n 5 (by unfold maxLen; omega)) (Nat.le_refl _)

/-- append onto what is laid out so far -/
theorem wpl_out {w : World} {ops : Array Oper} {rest : List Oper} {o : Oper} {a : Act} {Q : Exit → Act → World → Prop} (hgd : o.guard = none) (sl x : Operand)
    (ho : o.op = .call { callee := .builtin .append, args := #[sl, x], argTypes := #[59, 59] })
    (base i n : Nat) (v : Value) (zs : List Int) (hs : a.eval sl = v) (hO : OutR w base i v zs) (hz : zs.length = n)
    (ad : Addr) (m c : Nat) (rs : List Int) (hx : a.eval x = .slice (some ad) m c) (hr : Row8 w (some ad) m c rs) (hm : 0 < m)
    (hbytes : n + m ≤ 140737488355328) (hbase : base ≤ w.heap.size)
    (h : ∀ v' w', Hid (w'.ownsRow base 5 1 v' (n + m) ((zs ++ rs).map (Value.int .u8)) ∧ Grew w w' v v') → wpList Tryz.prog ops Q rest (a.put o.dst v') w') :
    wpList Tryz.prog ops Q (o :: rest) a w := by
  rcases hO with ⟨_, gh, rfl, hb, hl, hc⟩ | ⟨_, ho'⟩
  · have h4 := hc.length
    obtain rfl : n = 4 := by omega
    refine wpl_growN hgd sl x ho gh 4 zs hs hc ad m c rs hx hr hm hbytes (fun v' w' H => h v' w' ?_)
    obtain ⟨q1, q2⟩ := unhide H
    exact hide ⟨own_low q1 hbase, ⟨⟨q2.os, q2.tape, q2.output, q2.size, fun k hk _ => q2.block k hk⟩, fun b hb => Or.inr (q1.lt b hb).1⟩⟩
  · subst hz
    exact wpl_app hgd sl x ho base _ v zs hs ho' (some ad) m c rs hx hr (by omega) hbase h

theorem rowKeepN {w w' : World} {ao : Option Addr} {len cap : Nat} {zs : List Int} (h : Row8 w ao len cap zs) (hb : ∀ ad, ao = some ad → w'.heap[ad.block]? = w.heap[ad.block]?) : Row8 w' ao len cap zs :=
  ⟨h.length, h.none, fun ad ha j u hj => by
    have e : w'.cell? (ad.add j) = w.cell? (ad.add j) := World.cell?_of_block (by rw [block_add]; exact hb ad ha)
    rw [e]
    exact h.cells ad ha j u hj, h.small, h.le⟩

theorem one_rowN (w : World) (c : Int) (h0 : 0 ≤ c) (h1 : c ≤ 255) (g : Nat) (hg : w.heap.size = g) : Row8 (w.alloc (.cells #[.int .u8 c] 5)) (some ⟨g, 0, none⟩) 1 1 [c] := by rw [← hg]; exact one_row w c h0 h1

/-- a section behind some bytes, in new memory -/
def SecR (w w' : World) (e : Ending) (v : Value) (xs : List Int) : Prop := ∃ g c L : Nat, e = .returned (.slice (some ⟨g, 0, none⟩) L c) ∧ w'.ownsRow w.heap.size 5 1 (.slice (some ⟨g, 0, none⟩) L c) L (xs.map (Value.int .u8)) ∧ w.heap.size ≤ g ∧ Grew w w' v (.slice (some ⟨g, 0, none⟩) L c)

set_option maxRecDepth 100000 in
set_option maxHeartbeats 1000000 in
theorem section_any (base i : Nat) (v : Value) (zs : List Int) (nb : Int) (ad : Addr) (m c : Nat) (bs : List Int) (w : World) (hO : OutR w base i v zs) (hz : ∀ x ∈ zs, 0 ≤ x ∧ x ≤ 255) (hzp : 0 < zs.length) (hb0 : base ≤ w.heap.size) (hn0 : 0 ≤ nb) (hn1 : nb ≤ 255) (hr : Row8 w (some ad) m c bs) (hm : 0 < m) (hne : some ad.block ≠ v.ownBlock) (hlim : zs.length + m ≤ 1000000000000) :
    Calls Tryz.prog 75 #[v, .int .u8 nb, .slice (some ad) m c] w fun e w' => SecR w w' e v (zs ++ (nb :: (encF 9 (m : Int) ++ bs))) := by
  obtain ⟨g, hg⟩ : ∃ g, w.heap.size = g := ⟨_, rfl⟩
  have b1 : Below w.heap.size w (w.alloc (.cells #[.int .u8 nb] 5)) := (Below.refl _ _).alloc (Nat.le_refl _) _
  obtain ⟨w1, hw1⟩ : ∃ w1, w.alloc (.cells #[.int .u8 nb] 5) = w1 := ⟨_, rfl⟩
  have R1 := one_rowN w nb hn0 hn1 g hg
  rw [hw1] at b1 R1
  have HO1 := hide (hO.later b1)
  have HR1 := hide R1
  have HB1 := hide b1
  have HRB := hide (hr.later b1)
  have hbl : ad.block < w.heap.size := hr.block ad rfl hm
  have HBL := hide hbl
  obtain ⟨av, ac, hv⟩ := hO.len
  obtain ⟨zl, hzl⟩ : ∃ zl, zs.length = zl := ⟨_, rfl⟩
  have hs1 : base ≤ w1.heap.size := Nat.le_trans hb0 b1.size
  have o1 : IntKind.u64.wrap (m : Int) = (m : Int) := by rw [IntKind.wrap_u64]; omega
  rw [hzl] at hzp hlim
  have HZL := hide hzl
  have HNE := hide hne
  clear b1 R1 hO hr hzl hbl hne
  go_enter Tryz.func75, Tryz.ntmps75
  go_wp2_with (first | (at_builtin; refine wpl_out rfl _ _ (by rfl) base i zl v zs (by rfl) (unhide HO1) (unhide HZL) ⟨g, 0, none⟩ 1 1 [nb] (by rfl) (unhide HR1) (by omega) (by omega) hs1 ?_; intro v2 w2 H2))
  have hsm2 : ∀ x ∈ zs ++ [nb], 0 ≤ x ∧ x ≤ 255 := fun x hx => by
    rcases List.mem_append.1 hx with h | h
    · exact hz x h
    · rw [List.mem_singleton.1 h]; exact ⟨hn0, hn1⟩
  obtain ⟨g2, c2, hv2, hg2, r2, _⟩ := row_of (unhide H2).1 hsm2 (by omega)
  have HR2 := hide r2
  have HRB2 : Hid (Row8 w2 (some ad) m c bs) := hide (rowKeepN (unhide HRB) (fun a ha => by
    cases ha
    exact (unhide H2).2.far (Nat.lt_of_lt_of_le (unhide HBL) (unhide HB1).size) (unhide HNE)))
  have HG2 : Hid (Grew w w2 v v2) := hide (Grew.behind (unhide HB1) (unhide H2).2)
  have hs2 : w.heap.size ≤ w2.heap.size := (unhide HG2).grown.size
  have CU := hide (refPutUint_int (some ⟨g2, 0, none⟩) (zl + 1) c2 (m : Int) (m : Int) rfl (zs ++ [nb]) w2 r2 (by omega) (by omega) (by omega))
  subst hv2
  have hel := encF_len 9 (m : Int)
  obtain ⟨eL, heL⟩ : ∃ eL, (encF 9 (m : Int)).length = eL := ⟨_, rfl⟩
  rw [heL] at CU hel
  have HEL := hide heL
  clear r2 H2 HR1 HO1 heL HB1 hv
  go_wp2_with fail
  refine (unhide CU).mono ?_
  rintro e w3 ⟨g3, c3, hg3, rfl, own3, b3⟩
  have HO3 := hide own3
  have HB3 := hide b3
  have HRB3 := hide ((unhide HRB2).later b3)
  have hs3 : w2.heap.size ≤ w3.heap.size := b3.size
  clear own3 b3 CU HRB2
  go_wp2_with (first | (at_builtin; refine wpl_app rfl _ _ (by rfl) w2.heap.size (zl + 1 + eL) _ (zs ++ [nb] ++ encF 9 (m : Int)) (by rfl) (unhide HO3) (some ad) m c bs (by rfl) (unhide HRB3) (by omega) hs3 ?_; intro v4 w4 H4))
  have hsm4 : ∀ x ∈ zs ++ [nb] ++ encF 9 (m : Int) ++ bs, 0 ≤ x ∧ x ≤ 255 := fun x hx => by
    rcases List.mem_append.1 hx with h | h
    · rcases List.mem_append.1 h with h | h
      · exact hsm2 x h
      · exact encF9_bytes (m : Int) (by omega) (by omega) x h
    · exact (unhide HRB3).small x h
  obtain ⟨g4, c4, hv4, hg4, _, _⟩ := row_of (unhide H4).1 hsm4 (by omega)
  subst hv4
  have FIN : SecR w w4 (.returned (.slice (some ⟨g4, 0, none⟩) (zl + 1 + eL + m) c4)) v (zs ++ (nb :: (encF 9 (m : Int) ++ bs))) := by
    refine ⟨g4, c4, _, rfl, ?_, by omega, ?_⟩
    · have h := own_low (unhide H4).1 hs2
      rw [List.append_assoc, List.append_assoc] at h
      exact h
    · refine (unhide HG2).trans (Grew.of_new ((unhide HB3).trans ((unhide H4).2.below (unhide HO3) hs3)) rfl hg4)
  have HFIN := hide FIN
  clear FIN H4 hsm4 hsm2
  go_ret
  exact unhide HFIN
end Go.Proofs.YtcknoeepdjhnoaaGreatDoor
