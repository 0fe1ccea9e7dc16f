/-
  The walk of lay (layer 9): a module's bytes, none of one that is not right; no conditions but the form's own reach.
-/
import Derived.Test.YtmnbfcpkaglniaaGreatDoorS30
import Derived.WalkMore
import Derived.Deep.LoopGhost
set_option linter.unusedVariables false
set_option linter.unusedSimpArgs false
namespace Go.Proofs.YtmnbfcpkaglniaaGreatDoor
open Go.RowKit
/-- append onto a full row that is not the call's alone, at a step of a region that draws -/
theorem step_growM {w : World} {ops : Array Oper} {o : Oper} {a : Act} {K : Act → World → Prop} {Q : Exit → Act → World → Prop} {E : Prop} (hgd : o.guard = none) (sl x : Operand)
    (ho : o.op = .call { callee := .builtin .append, args := #[sl, x], argTypes := #[90, 90] })
    (g n : Nat) (xs : List Int) (hs : a.eval sl = .slice (some ⟨g, 0, none⟩) n n) (hc : Row8 w (some ⟨g, 0, none⟩) n n xs)
    (ad : Addr) (m c : Nat) (rs : List Int) (hx : a.eval x = .slice (some ad) m c) (hr : Row8 w (some ad) m c rs) (hm : 0 < m)
    (hbytes : n + m ≤ 140737488355328)
    (h : ∀ v' w', Hid (w'.ownsRow w.heap.size 5 1 v' (n + m) ((xs ++ rs).map (Value.int .u8)) ∧ Below w.heap.size w w') → K (a.put o.dst v') w') :
    if Region.wanted o (yielded ops a.tmps) = true then Oper.wp Tryz.prog o a w K Q else E := by
  rw [if_pos (show Region.wanted o (yielded ops a.tmps) = true by simp [Region.wanted, hgd])]
  obtain ⟨i0, hi, hz0, hz1, hz2⟩ := info_parts info5
  have hxl : (xs.map (Value.int .u8)).length = n := by rw [List.length_map]; exact hc.length
  have hrl : (rs.map (Value.int .u8)).length = m := by rw [List.length_map]; exact hr.length
  have hrun := run_append_grow (P := Tryz.prog) w 90 o.type 5 i0 (.int .u8 0) Tryz.underlying90 hi hz0 ⟨g, 0, none⟩ n n (xs.map (Value.int .u8)) (by rw [hz1, hxl, Nat.mul_one]) (hc.cells _ rfl) ad m c (rs.map (Value.int .u8)) (by rw [hz1, hrl, Nat.mul_one]) (hr.cells _ rfl) (by omega) (by omega) (by have := next_far (need := n + m) (old := n) (by omega); rw [hz2]; omega)
  unfold Oper.wp
  simp only [execOp, ho, resolve, invoke, builtin, Sem.run_bind, Sem.run_pure, Result.andThen_ok, List.map_toArray, List.map_cons, List.map_nil, hs, hx, hrun]
  refine h _ _ ⟨?_, (Below.refl _ _).grown (made_grown w _ _ none) (Nat.le_refl _) (by simp)⟩
  exact made8 w w.heap.size (n + m) _ _ _ (by simp) (by rw [List.length_map, List.length_append, hc.length, hr.length]) (grownCap_ge w (n + m) n 5) (grownCap_le_maxLen w (n + m) n 5 (by unfold maxLen; omega)) (Nat.le_refl _)
theorem OutR.lt {w : World} {base i : Nat} {v : Value} {zs : List Int} (h : OutR w base i v zs) : ∀ b, v.ownBlock = some b → b < w.heap.size := by
  intro b hb
  rcases h with ⟨_, gh, rfl, _, h3, _⟩ | ⟨_, h1⟩
  · have e : gh = b := by simpa [Value.ownBlock] using hb
    omega
  · exact (h1.lt b hb).2
/-- append onto what is laid out so far, at a step of a region that draws -/
theorem step_out {w : World} {ops : Array Oper} {o : Oper} {a : Act} {K : Act → World → Prop} {Q : Exit → Act → World → Prop} {E : Prop} (hgd : o.guard = none) (sl x : Operand)
    (ho : o.op = .call { callee := .builtin .append, args := #[sl, x], argTypes := #[90, 90] })
    (base i n : Nat) (v : Value) (zs : List Int) (hs : a.eval sl = v) (hO : OutR w base i v zs) (hz : zs.length = n)
    (ad : Addr) (m c : Nat) (rs : List Int) (hx : a.eval x = .slice (some ad) m c) (hr : Row8 w (some ad) m c rs) (hm : 0 < m)
    (hbytes : n + m ≤ 140737488355328) (hbase : base ≤ w.heap.size)
    (h : ∀ v' w', Hid (w'.ownsRow base 5 1 v' (n + m) ((zs ++ rs).map (Value.int .u8)) ∧ Grew w w' v v') → K (a.put o.dst v') w') :
    if Region.wanted o (yielded ops a.tmps) = true then Oper.wp Tryz.prog o a w K Q else E := by
  rcases hO with ⟨_, gh, rfl, hb, hl, hc⟩ | ⟨_, ho'⟩
  · have h4 := hc.length
    obtain rfl : n = 4 := by omega
    refine step_growM hgd sl x ho gh 4 zs hs hc ad m c rs hx hr hm hbytes (fun v' w' H => h v' w' ?_)
    obtain ⟨q1, q2⟩ := unhide H
    exact hide ⟨own_low q1 hbase, ⟨⟨q2.os, q2.tape, q2.output, q2.size, fun k hk _ => q2.block k hk⟩, fun b hb => Or.inr (q1.lt b hb).1⟩⟩
  · subst hz
    exact step_app hgd sl x ho base _ v zs hs ho' (some ad) m c rs hx hr (by omega) hbase h
/-- a block as it was -/
def KB (v : World) (g : Nat) (u : World) : Prop := u.heap[g]? = v.heap[g]? ∧ g < u.heap.size
theorem KB.alloc {v u : World} {g : Nat} (h : KB v g u) (X : Obj) : KB v g (u.alloc X).drew := ⟨(heap_alloc_old u X h.2).trans h.1, by show g < (u.alloc X).heap.size; simp; have := h.2; omega⟩
theorem KB.below {v u u' : World} {g : Nat} (h : KB v g u) (hb : Below u.heap.size u u') : KB v g u' := ⟨(hb.block g h.2).trans h.1, Nat.lt_of_lt_of_le h.2 hb.size⟩
theorem KB.grew {v u u' : World} {g : Nat} {y y' : Value} (h : KB v g u) (hb : Grew u u' y y') (hn : some g ≠ y.ownBlock) : KB v g u' := ⟨(hb.far h.2 hn).trans h.1, Nat.lt_of_lt_of_le h.2 hb.grown.size⟩
theorem kbS {v u : World} {g : Nat} {P : World → Prop} (H : Hid (∀ u, KB v g u → P u)) (K : KB v g u) : P u ∧ Hid (KB v g u) := ⟨unhide H u K, hide K⟩
theorem flat_le : ∀ (L : List (List Int)) (k : Nat), (∀ z ∈ L, z.length ≤ k) → L.flatten.length ≤ L.length * k
  | [], k, _ => by simp
  | z :: r, k, h => by
    have h1 := h z List.mem_cons_self
    have h2 := flat_le r k (fun y hy => h y (List.mem_cons_of_mem _ hy))
    rw [List.flatten_cons, List.length_append, List.length_cons, Nat.succ_mul]
    omega
theorem outM_small {m : Md} (h : formedB m = true) (hf : ∀ v ∈ m.cs, fitB v = true) : ∀ i, i ≤ 3 → ∀ c ∈ outM m i, 0 ≤ c ∧ c ≤ 255
  | 0, _, c, hc => by simp [outM, headM] at hc; omega
  | i + 1, hi, c, hc => by
    have hc' : c ∈ outM m i ++ secM i (partsM m i) := hc
    obtain ⟨p1, p2⟩ := parts_small h hf i
    have hb : (bodyM (partsM m i)).length ≤ 10 + 100 * 43008 := by
      have e := flat_le (partsM m i) 43008 (fun z hz => (p2 z hz).2)
      have e1 := (encF_len 9 ((partsM m i).length : Int)).2
      have e2 := Nat.mul_le_mul_right 43008 p1
      unfold bodyM
      rw [List.length_append]
      omega
    rcases List.mem_append.1 hc' with hc | hc
    · exact outM_small h hf i (by omega) c hc
    · unfold secM at hc
      rcases List.mem_cons.1 hc with rfl | hc
      · omega
      · rcases List.mem_append.1 hc with hc | hc
        · exact encF_bytes 9 _ (by omega) (by omega) c hc
        · rw [← bodyP_all] at hc
          exact bodyP_small p1 (fun z hz => (p2 z hz).1) _ c hc
theorem own_slice {gh b n c : Nat} (h : (Value.slice (some ⟨gh, 0, none⟩) n c).ownBlock = some b) : gh = b := by simpa [Value.ownBlock] using h
theorem row8_own2 {w : World} {base n : Nat} {ao : Option Addr} {cap : Nat} {zs : List Int} (h : w.ownsRow base 5 1 (.slice ao n cap) n (zs.map (Value.int .u8))) (hs : ∀ c ∈ zs, 0 ≤ c ∧ c ≤ 255) (hz : zs.length = n) : Row8 w ao n cap zs := by
  rcases h.2 with ⟨h1, h0⟩ | ⟨g, cap', cur, h1, _⟩
  · have : zs = [] := List.eq_nil_of_length_eq_zero (by omega)
    subst this
    cases h1
    exact nilRow w
  · cases h1
    exact Row8.own h hs
theorem ne_grew {u u' : World} {y y' : Value} {g : Nat} (h : Grew u u' y y') (hn : some g ≠ y.ownBlock) (hl : g < u.heap.size) : some g ≠ y'.ownBlock := fun e => by
  rcases h.row g e.symm with h' | h'
  · exact hn h'.symm
  · omega
theorem OutR.ge {w : World} {base i : Nat} {v : Value} {zs : List Int} (h : OutR w base i v zs) : ∀ b, v.ownBlock = some b → base ≤ b := by
  intro b hb
  rcases h with ⟨_, gh, rfl, h2, _⟩ | ⟨_, h1⟩
  · have e : gh = b := by simpa [Value.ownBlock] using hb
    omega
  · exact (h1.lt b hb).1
theorem lay_next {w wr x6 x7 x8 : World} {X : Obj} {y v6 v8 : Value} {B g gs : Nat} {m : Md} {s1 s2 s3 : Value} {a1 a2 a3 : Option Addr} {c1 c2 c3 : Nat} (hS : Sees wr B g gs m s1 s2 s3 a1 c1 a2 c2 a3 c3) (hb : Below w.heap.size w wr) (hB : B ≤ w.heap.size)
    (hy : ∀ b, y.ownBlock = some b → w.heap.size ≤ b ∧ b < wr.heap.size ∧ b ≠ g ∧ b ≠ gs) (h6 : Grew (wr.alloc X).drew x6 y v6) (h7 : Below x6.heap.size x6 x7) (h8 : Grew x7 x8 v6 v8) :
    Sees x8 B g gs m s1 s2 s3 a1 c1 a2 c2 a3 c3 ∧ Below w.heap.size w x8 ∧ (∀ b, v8.ownBlock = some b → b ≠ g ∧ b ≠ gs) := by
  have G : Grew wr x8 y v8 := Grew.behind ((Below.refl _ _).alloc (Nat.le_refl _) _).drew ((h6.ahead h7).trans h8)
  have l1 := lt_of_row hS.box
  have l2 := lt_of_row hS.sec
  refine ⟨⟨(G.far l1 (fun e => (hy g e.symm).2.2.1 rfl)).trans hS.box, (G.far l2 (fun e => (hy gs e.symm).2.2.2 rfl)).trans hS.sec, hS.mod.to (fun b hb' => G.far (by have := hS.low; omega) (fun e => by have := (hy b e.symm).1; omega)) (fun _ h => h), Nat.le_trans hS.low G.grown.size⟩, hb.trans ((Below.refl _ _).grown G.grown hb.size (fun k e => (hy k e).1)), fun b hb' => ?_⟩
  rcases G.row b hb' with h | h
  · exact (hy b h).2.2
  · constructor <;> omega
theorem secNo_0 (w : World) : Calls Tryz.prog 119 #[.int .i64 0] w fun e w' => e = .returned (.int .u8 1) ∧ w' = w := secNo_any 0 w (by omega)
theorem secNo_1 (w : World) : Calls Tryz.prog 119 #[.int .i64 1] w fun e w' => e = .returned (.int .u8 2) ∧ w' = w := secNo_any 1 w (by omega)
theorem secNo_2 (w : World) : Calls Tryz.prog 119 #[.int .i64 2] w fun e w' => e = .returned (.int .u8 3) ∧ w' = w := secNo_any 2 w (by omega)
theorem bodyM_pos (L : List (List Int)) : 0 < (bodyM L).length := by
  have := (encF_len 9 (L.length : Int)).1
  unfold bodyM
  rw [List.length_append]
  omega
theorem body_form {w : World} {base : Nat} {v : Value} {zs : List Int} (h : w.ownsRow base 5 1 v zs.length (zs.map (Value.int .u8))) (hp : 0 < zs.length) : ∃ g n cap, v = .slice (some ⟨g, 0, none⟩) n cap ∧ zs.length = n := by
  rcases h.2 with ⟨_, h0⟩ | ⟨g, cap, cur, rfl, _⟩
  · omega
  · exact ⟨g, _, cap, rfl, rfl⟩
theorem conv_own {w u : World} {base g n cap : Nat} {zs : List Int} (h : w.ownsRow base 5 1 (.slice (some ⟨g, 0, none⟩) n cap) n (zs.map (Value.int .u8))) (hs : ∀ c ∈ zs, 0 ≤ c ∧ c ≤ 255) (hz : zs.length = n) (hp : 0 < n) (hu : u.heap[g]? = w.heap[g]?) :
    Sem.run Tryz.prog (convert 90 9 (.slice (some ⟨g, 0, none⟩) n cap)) u = .ok (.string (strOfNums zs)) u := by
  have r : Row8 u (some ⟨g, 0, none⟩) n cap zs := by
    have r0 := Row8.own h hs
    refine ⟨r0.length, r0.none, fun ad ha j v hj => ?_, r0.small, r0.le⟩
    cases ha
    have e : u.cell? ((⟨g, 0, none⟩ : Addr).add j) = w.cell? ((⟨g, 0, none⟩ : Addr).add j) := World.cell?_of_block (by rw [block_add]; exact hu)
    rw [e]
    exact r0.cells _ rfl j v hj
  obtain ⟨b, off, hb, hc⟩ := r.at hp
  cases hb
  have := conv_row (w := u) hz hc 0 n cap (by omega) 0
  rw [Nat.add_zero, List.drop_zero, List.take_of_length_le (by omega)] at this
  exact this
theorem size_strM (zs : List Int) : (strOfNums zs).size = zs.length := by simp [strOfNums, ByteArray.size]
theorem nums_strM : ∀ (zs : List Int), (∀ c ∈ zs, 0 ≤ c ∧ c ≤ 255) → nums (strOfNums zs) = zs := by
  intro zs h
  unfold nums strOfNums
  simp only [List.map_map]
  rw [show zs = zs.map id from (List.map_id zs).symm]
  simp only [List.map_map]
  refine List.map_congr_left fun c hc => ?_
  have := h c hc
  simp [UInt8.toNat_ofNat']
  omega
theorem head_rowM (u : World) (f : Nat × Nat) : Row8 (u.alloc (.cells #[.int .u8 83, .int .u8 67, .int .u8 77, .int .u8 49] 5 f)) (some ⟨u.heap.size, 0, none⟩) 4 4 headM ∧ Below u.heap.size u (u.alloc (.cells #[.int .u8 83, .int .u8 67, .int .u8 77, .int .u8 49] 5 f)) := by
  refine ⟨⟨rfl, (fun e => by cases e), fun ad ha j v hj => ?_, (by intro n hn; simp [headM] at hn; omega), Nat.le_refl _⟩, (Below.refl _ _).alloc (Nat.le_refl _) _⟩
  cases ha
  have hadd : (⟨u.heap.size, 0, none⟩ : Addr).add j = ⟨u.heap.size, j, none⟩ := by unfold Addr.add; split <;> simp_all
  rw [hadd, cell_of_row _ u.heap.size j _ 5 f (heap_alloc_new u _)]
  rw [← hj]
  simp [headM]
/-- what lay answers -/
def LayR (w w' : World) (e : Ending) (R : Bool) (zs : List Int) : Prop := ∃ (ao : Option Addr) (len cap : Nat), e = .returned (.tuple #[.slice ao len cap, .bool R]) ∧ Row8 w' ao len cap (if R = true then zs else []) ∧ Below w.heap.size w w' ∧ (∀ a, ao = some a → w.heap.size ≤ a.block) ∧ cap ≤ maxLen ∧ (R = true → w'.ownsRow w.heap.size 5 1 (.slice ao len cap) len (zs.map (Value.int .u8)))
set_option maxRecDepth 100000 in
set_option maxHeartbeats 8000000 in
theorem layM_any (m : Md) (a1 a2 a3 : Option Addr) (n1 c1 n2 c2 n3 c3 B : Nat) (w : World) (hn1 : m.cs.length = n1) (hn2 : m.fs.length = n2) (hn3 : m.xs.length = n3) (h : IsM w (fun b => b < B) m a1 c1 a2 c2 a3 c3) (hB : B ≤ w.heap.size) :
    Calls Tryz.prog 68 #[.agg #[.slice a1 n1 c1, .slice a2 n2 c2, .slice a3 n3 c3]] w fun e w' => LayR w w' e (rightM m) (encM m) := by
  have HL := h.len
  rw [hn1, hn2, hn3] at HL
  obtain ⟨l1, l2, l3⟩ := HL
  obtain ⟨g, hg⟩ : ∃ g, w.heap.size = g := ⟨_, rfl⟩
  have BX := BoxN.mk' w #[.slice a1 n1 c1, .slice a2 n2 c2, .slice a3 n3 c3] 47
  obtain ⟨w1, hw1⟩ : ∃ w1, w.alloc (.cells #[.slice a1 n1 c1, .slice a2 n2 c2, .slice a3 n3 c3] 47) = w1 := ⟨_, rfl⟩
  rw [hw1] at BX
  have H1 : Hid (w1.heap[g]? = some (.cells #[.slice a1 n1 c1, .slice a2 n2 c2, .slice a3 n3 c3] 47 (0, 0)) ∧ IsM w1 (fun b => b < B) m a1 c1 a2 c2 a3 c3 ∧ B ≤ w1.heap.size ∧ Below w.heap.size w w1) := hide ⟨by rw [← hg]; exact BX.row, h.later (BX.below.mono hB), by have := BX.size; omega, BX.below⟩
  have HN := hide (And.intro hn1 (And.intro hn2 hn3))
  obtain ⟨m0, m1, m2⟩ := row_cell3 (unhide H1).1
  have CF := hide (formedM_any m a1 a2 a3 n1 c1 n2 c2 n3 c3 B w1 hn1 hn2 hn3 (unhide H1).2.1 (unhide H1).2.2.1)
  have HFT := hide (cs_fit h.hc)
  have HG := hide hg
  have HBw := hide hB
  clear h hB BX hn1 hn2 hn3
  cases hF : formedB m with
  | false =>
    rw [hF] at CF
    have hR : rightM m = false := by unfold rightM; rw [hF]; rfl
    rw [hR]
    clear hR hF
    go_enter Tryz.func68, Tryz.ntmps68
    go_wp2_with fail
    go_step3
    go_wp2_with fail
    refine (unhide CF).mono ?_
    rintro e u ⟨rfl, b1⟩
    have B1 : Hid (Below w.heap.size w u) := hide ((unhide H1).2.2.2.trans (b1.mono (unhide H1).2.2.2.size))
    clear b1 CF
    go_wp2_with fail
    rw [Exit.noGoto_ret]
    go_ret2
    exact ⟨none, 0, 0, rfl, nilRow _, by first | exact unhide B1 | (rw [← unhide HG]; exact unhide B1), (fun a e => by cases e), by unfold maxLen; omega, (fun e => by cases e)⟩
  | true =>
    rw [hF] at CF
    have HF := hide hF
    have HPS := fun i => hide (parts_small hF (unhide HFT) i)
    obtain ⟨R, hR⟩ : ∃ R, rightM m = R := ⟨_, rfl⟩
    have HR := hide hR
    rw [hR]
    have HO3 : Hid (R = decide ((encM m).length ≤ 65536)) := hide (by rw [← hR]; unfold rightM; rw [hF]; rfl)
    clear hF hR
    have kc := fun (w : World) (C : Array Value) (n c : Nat) => Lib.run_convert_bytes_const (P := Tryz.prog) w 90 5 C n c Tryz.underlying90 Tryz.underlying5
    go_enter Tryz.func68, Tryz.ntmps68
    go_wp2_with fail
    go_step3
    go_wp2_with fail
    refine (unhide CF).mono ?_
    rintro e u ⟨rfl, b1⟩
    have H2 : Hid (u.heap[g]? = some (.cells #[.slice a1 n1 c1, .slice a2 n2 c2, .slice a3 n3 c3] 47 (0, 0)) ∧ IsM u (fun b => b < B) m a1 c1 a2 c2 a3 c3 ∧ B ≤ u.heap.size ∧ Below w.heap.size w u) := hide (by
      obtain ⟨q1, q2, q3, q4⟩ := unhide H1
      exact ⟨(b1.block g (lt_of_row q1)).trans q1, q2.later (b1.mono q3), Nat.le_trans q3 b1.size, q4.trans (b1.mono q4.size)⟩)
    clear b1 CF H1 m0 m1 m2 hw1
    go_wp2_with fail
    go_step3
    go_wp2_with fail
    clear kc
    obtain ⟨R1, b2⟩ := head_rowM u (4, 5)
    have hz2 : (u.alloc (.cells #[.int .u8 83, .int .u8 67, .int .u8 77, .int .u8 49] 5 (4, 5))).heap.size = u.heap.size + 1 := by simp
    obtain ⟨w2, hw2⟩ : ∃ w2, u.alloc (.cells #[.int .u8 83, .int .u8 67, .int .u8 77, .int .u8 49] 5 (4, 5)) = w2 := ⟨_, rfl⟩
    rw [hw2] at R1 b2 hz2 ⊢
    obtain ⟨gh, hgh⟩ : ∃ gh, u.heap.size = gh := ⟨_, rfl⟩
    rw [hgh] at R1 ⊢
    have H3 : Hid (w2.heap[g]? = some (.cells #[.slice a1 n1 c1, .slice a2 n2 c2, .slice a3 n3 c3] 47 (0, 0)) ∧ IsM w2 (fun b => b < B) m a1 c1 a2 c2 a3 c3 ∧ B ≤ w2.heap.size ∧ Below w.heap.size w w2 ∧ OutR w2 w.heap.size 0 (.slice (some ⟨gh, 0, none⟩) 4 4) (outM m 0)) := hide (by
      obtain ⟨q1, q2, q3, q4⟩ := unhide H2
      exact ⟨(b2.block g (lt_of_row q1)).trans q1, q2.later (b2.mono q3), Nat.le_trans q3 b2.size, q4.trans (b2.mono q4.size), Or.inl ⟨rfl, gh, rfl, by have := q4.size; omega, by omega, R1⟩⟩)
    have HGH : Hid (gh ≠ g ∧ gh < w2.heap.size) := hide ⟨by have := lt_of_row (unhide H2).1; omega, by omega⟩
    clear R1 b2 hz2 hw2 hgh H2
    refine (sections_any _).mono ?_
    rintro e w3 ⟨rfl, BS⟩
    obtain ⟨gs, hgs⟩ : ∃ gs, w2.heap.size = gs := ⟨_, rfl⟩
    rw [hgs]
    have H4 : Hid (Sees w3 B g gs m (.slice a1 n1 c1) (.slice a2 n2 c2) (.slice a3 n3 c3) a1 c1 a2 c2 a3 c3 ∧ Below w.heap.size w w3 ∧ OutR w3 w.heap.size 0 (.slice (some ⟨gh, 0, none⟩) 4 4) (outM m 0) ∧ (outM m 0).length ≤ 65600 + 21 * 0 ∧ ∀ b, (Value.slice (some ⟨gh, 0, none⟩) 4 4).ownBlock = some b → b ≠ g ∧ b ≠ gs) := hide (by
      obtain ⟨q1, q2, q3, q4, q5⟩ := unhide H3
      exact ⟨⟨(BS.below.block g (lt_of_row q1)).trans q1, by rw [← hgs]; exact BS.row, q2.later (BS.below.mono q3), Nat.le_trans q3 BS.below.size⟩, q4.trans (BS.below.mono q4.size), q5.later BS.below, by simp [outM, headM], fun b hb => by rw [← own_slice hb]; have := unhide HGH; omega⟩)
    clear BS hgs H3
    go_wp2_with fail
    go_loopw [4, 5, 18] (fun y z x wr => ∃ (i : Nat), x = .int .i64 (i : Int) ∧ z = .bool true ∧ Hid (i ≤ 3) ∧ Hid (Sees wr B g gs m (.slice a1 n1 c1) (.slice a2 n2 c2) (.slice a3 n3 c3) a1 c1 a2 c2 a3 c3 ∧ Below w.heap.size w wr ∧ OutR wr w.heap.size i y (outM m i) ∧ (outM m i).length ≤ 65600 + 21 * i ∧ ∀ b, y.ownBlock = some b → b ≠ g ∧ b ≠ gs)) (fun _ _ x _ => 3 - (intOf x).toNat)
    case atStart => exact ⟨0, rfl, rfl, hide (by omega), H4⟩
    case round =>
      clear H4
      obtain ⟨i, rfl, rfl, HI, HS⟩ := hrel
      obtain ⟨wo, hwo⟩ : ∃ wo, wo = wr := ⟨_, rfl⟩
      subst hwo
      obtain ⟨m0, m1, m2⟩ := row_cell3 (unhide HS).1.box
      rcases (show i = 0 ∨ i = 1 ∨ i = 2 ∨ i = 3 by have := unhide HI; omega) with rfl | rfl | rfl | hi3
      · have k0 : wo.cell? ⟨gs, 0, none⟩ = some (.int .i64 100) := sec_cells (unhide HS).1.sec 0 _ rfl
        have k1 : wo.cell? ⟨gs, 1, none⟩ = some (.func (.func 159) #[] #[]) := sec_cells (unhide HS).1.sec 1 _ rfl
        have k2 : wo.cell? ⟨gs, 2, none⟩ = some (.func (.func 160) #[] #[]) := sec_cells (unhide HS).1.sec 2 _ rfl
        have k3 : wo.cell? ⟨gs, 3, none⟩ = some (.func (.func 161) #[] #[]) := sec_cells (unhide HS).1.sec 3 _ rfl
        obtain ⟨q, hq⟩ : ∃ q, wo.heap.size = q := ⟨_, rfl⟩
        have BQ := BoxN.mk' wo #[.int .i64 100, .func (.func 159) #[] #[], .func (.func 160) #[] #[], .func (.func 161) #[] #[]] 195
        obtain ⟨w4, hw4⟩ : ∃ w4, wo.alloc (.cells #[.int .i64 100, .func (.func 159) #[] #[], .func (.func 160) #[] #[], .func (.func 161) #[] #[]] 195) = w4 := ⟨_, rfl⟩
        rw [hw4] at BQ
        have HQ : Hid (∀ u, Below w4.heap.size w4 u → u.heap[q]? = some (.cells #[.int .i64 100, .func (.func 159) #[] #[], .func (.func 160) #[] #[], .func (.func 161) #[] #[]] 195 (0, 0)) ∧ Sees u B g gs m (.slice a1 n1 c1) (.slice a2 n2 c2) (.slice a3 n3 c3) a1 c1 a2 c2 a3 c3 ∧ Below wo.heap.size wo u) := hide (fun u hu => by
          have z := BQ.size
          exact ⟨(hu.block q (by omega)).trans (by rw [← hq]; exact BQ.row), ((unhide HS).1.later BQ.below).later hu, BQ.below.trans (hu.mono (by omega))⟩)
        have HQ4 : Hid (wo.heap.size < w4.heap.size) := hide (by have := BQ.size; omega)
        obtain ⟨d0, d1, d2, d3⟩ := row_cell4 (unhide HQ w4 (Below.refl _ _)).1
        obtain ⟨e0, e1, e2⟩ := row_cell3 (unhide HQ w4 (Below.refl _ _)).2.1.box
        have HPA := hide (part0 (unhide HF) B a1 a2 a3 n1 c1 n2 c2 n3 c3 (unhide HN).1)
        have HPZ := HPS 0
        have HLn : Hid ((partsM m 0).length = n1) := hide (by have := unhide HN; unfold partsM; simp; omega)
        have hOL := (unhide HS).2.2.1.len
        obtain ⟨aO, cO, rfl⟩ := hOL
        have HOV := hide (fun k => over_long (m := m) (i := 0) (k := k) (by omega))
        obtain ⟨L, hL⟩ : ∃ L, partsM m 0 = L := ⟨_, rfl⟩
        rw [hL] at HPA HPZ HLn HOV
        obtain ⟨lO, hlO⟩ : ∃ lO, (outM m 0).length = lO := ⟨_, rfl⟩
        rw [hlO] at HOV HS ⊢
        have hO : lO ≤ 65700 := by have := (unhide HS).2.2.2.1; omega
        have HLO := hide hlO
        have hc100 : n1 ≤ 100 := by have := (unhide HPZ).1; have := unhide HLn; omega
        have HLL := hide hL
        clear BQ hL hlO HPS
        go_wp2_with fail
        refine (count1_any _ _ _ _ _ _ _ _ _ _).mono ?_
        rintro e u1 ⟨rfl, b1⟩
        have B1 := hide b1
        have w64 : IntKind.u64.wrap (n1 : Int) = (n1 : Int) := by rw [IntKind.wrap_u64]; omega
        obtain ⟨d0, d1, d2, d3⟩ := row_cell4 (unhide HQ u1 b1).1
        obtain ⟨e0, e1, e2⟩ := row_cell3 (unhide HQ u1 b1).2.1.box
        clear b1
        go_wp2_with fail
        refine (putUint_any none 0 0 (n1 : Int) [] u1 (nilRow _) (by omega) (by omega) (by omega)).mono ?_
        rintro e u2 ⟨rfl, o2, b2⟩
        have HB2 : Hid (Below w4.heap.size w4 u2 ∧ u2.ownsRow w4.heap.size 5 1 (.slice (some ⟨u1.heap.size, 0, none⟩) (0 + (encF 9 (n1 : Int)).length) (0 + 10)) (bodyP L 0).length ((bodyP L 0).map (Value.int .u8))) := hide (by
          have e9 : bodyP L 0 = encF 9 (n1 : Int) := by unfold bodyP; rw [unhide HLn]; simp
          rw [e9]
          refine ⟨(unhide B1).trans (b2.mono (unhide B1).size), own_low ?_ (unhide B1).size⟩
          simpa using o2)
        clear o2 b2 B1
        go_wp2_with fail
        go_loopw [5, 9, 31] (fun z y x v => ∃ (k : Nat), x = .int .i64 (k : Int) ∧ z = .bool true ∧ Hid (k ≤ n1) ∧ Hid (Below w4.heap.size w4 v ∧ v.ownsRow w4.heap.size 5 1 y (bodyP L k).length ((bodyP L k).map (Value.int .u8))) ∧ Hid (lO + (bodyP L k).length ≤ 65536 ∨ k = 0)) (fun _ _ x _ => n1 - (intOf x).toNat)
        case atStart => exact ⟨0, rfl, rfl, hide (by omega), by simpa using HB2, hide (Or.inr rfl)⟩
        case round =>
          clear HB2 d0 d1 d2 d3 e0 e1 e2 k0 k1 k2 k3 m0 m1 m2
          obtain ⟨k, rfl, rfl, HK, HY, HT⟩ := hrel
          obtain ⟨d0, d1, d2, d3⟩ := row_cell4 (unhide HQ _ (unhide HY).1).1
          obtain ⟨e0, e1, e2⟩ := row_cell3 (unhide HQ _ (unhide HY).1).2.1.box
          by_cases hlt : k < n1
          · have j1 : (k : Int) < (n1 : Int) := by omega
            have HK1 : Hid (k + 1 ≤ n1) := hide (by omega)
            obtain ⟨z, hz⟩ : ∃ z, L[k]? = some z := ⟨_, List.getElem?_eq_getElem (by have := unhide HLn; omega)⟩
            have CP := hide (unhide HPA k z hz _ (unhide HQ _ (unhide HY).1).2.1.mod (unhide HQ _ (unhide HY).1).2.1.low)
            obtain ⟨bl, hbl⟩ : ∃ bl, (bodyP L k).length = bl := ⟨_, rfl⟩
            have hb1 : bl ≤ 65536 := by
              rcases unhide HT with t | t
              · omega
              · rw [← hbl, t]
                unfold bodyP
                simp
                have := (encF_len 9 (L.length : Int)).2
                omega
            have hzl := ((unhide HPZ).2 z (List.mem_of_getElem? hz)).2
            have HZ := hide (And.intro hz hbl)
            rw [hbl] at HY
            clear hz hbl HT
            go_wp2_with fail
            refine (unhide CP).mono ?_
            rintro e u3 ⟨ao3, l3, p3, rfl, r3, b3, f3⟩
            have hr3 := r3.length
            obtain ⟨nb, hnb⟩ : ∃ nb, bl + l3 = nb := ⟨_, rfl⟩
            have hnb1 : nb ≤ 108544 := by omega
            have H3 := hide (And.intro r3 (And.intro b3 (And.intro (own_below (unhide HY).2 b3) ((unhide HY).1.trans (b3.mono (unhide HY).1.size)))))
            have HNB := hide (And.intro hnb hr3)
            have hbt : bl + l3 ≤ 140737489403904 := by omega
            have hbs : w4.heap.size ≤ u3.heap.size := (unhide H3).2.2.2.size
            clear r3 b3 f3 hr3 CP d0 d1 d2 d3 e0 e1 e2
            have w1a : IntKind.i64.wrap ((lO : Int) + (nb : Int)) = (lO : Int) + (nb : Int) := by rw [IntKind.wrap_i64]; omega
            by_cases hfit : lO + nb ≤ 65536
            · have j2 : (lO : Int) + (nb : Int) ≤ 65536 := by omega
              have jd : decide ((lO : Int) + (nb : Int) ≤ 65536) = true := decide_eq_true j2
              go_wp2_with (first | (at_builtin; refine wpl_app rfl (.tmp 34) (.tmp 39) rfl w4.heap.size bl u9 (bodyP L k) rfl (unhide H3).2.2.1 ao3 l3 p3 z rfl (unhide H3).1 hbt hbs ?_; intro v5 w5 o5; rw [hnb] at o5; obtain ⟨a5, p5, h5, _⟩ := slice_form (unhide o5).1; subst h5))
              have HY5 : Hid (Below w4.heap.size w4 w5 ∧ w5.ownsRow w4.heap.size 5 1 (.slice a5 nb p5) (bodyP L (k + 1)).length ((bodyP L (k + 1)).map (Value.int .u8))) := hide (by
                rw [bodyP_next L k z (unhide HZ).1, List.length_append, (unhide HZ).2, (unhide HNB).2, (unhide HNB).1]
                exact ⟨(unhide H3).2.2.2.trans ((unhide o5).2.below (unhide H3).2.2.1 hbs), (unhide o5).1⟩)
              have HT5 : Hid (lO + (bodyP L (k + 1)).length ≤ 65536 ∨ k + 1 = 0) := hide (Or.inl (by rw [bodyP_next L k z (unhide HZ).1, List.length_append, (unhide HZ).2, (unhide HNB).2, (unhide HNB).1]; exact hfit))
              go_roundw
              case rel => exact ⟨k + 1, by go_num, rfl, HK1, HY5, HT5⟩
              case measure => have := unhide HK1; simp [intOf]; omega
            · have j2 : ¬ (lO : Int) + (nb : Int) ≤ 65536 := by omega
              have jd : decide ((lO : Int) + (nb : Int) ≤ 65536) = false := decide_eq_false j2
              have HF0 : Hid (R = false) := hide (by
                rw [unhide HO3]
                refine decide_eq_false ?_
                have := unhide HOV (k + 1) (by rw [bodyP_next L k z (unhide HZ).1, List.length_append, (unhide HZ).2, (unhide HNB).2, (unhide HNB).1]; omega)
                omega)
              go_wp2_with (first | (at_builtin; refine wpl_app rfl (.tmp 34) (.tmp 39) rfl w4.heap.size bl u9 (bodyP L k) rfl (unhide H3).2.2.1 ao3 l3 p3 z rfl (unhide H3).1 hbt hbs ?_; intro v5 w5 o5; rw [hnb] at o5; obtain ⟨a5, p5, h5, _⟩ := slice_form (unhide o5).1; subst h5))
              have HB5 : Hid (Below w.heap.size w w5) := hide (by
                have x1 := (unhide H3).2.2.2.trans ((unhide o5).2.below (unhide H3).2.2.1 hbs)
                have x2 := (unhide HQ _ x1).2.2
                exact (unhide HS).2.1.trans (x2.mono (unhide HS).2.1.size))
              try rw [Exit.noGoto_ret]
              go_ret2
              refine ⟨none, 0, 0, ?_, by rw [unhide HF0]; exact nilRow _, by first | exact unhide HB5 | (rw [← unhide HG]; exact unhide HB5), (fun a e => by cases e), by unfold maxLen; omega, (fun e => by rw [unhide HF0] at e; cases e)⟩
              rw [unhide HF0]
              rfl
          · have j1 : ¬ (k : Int) < (n1 : Int) := by omega
            have hkn : k = n1 := by have := unhide HK; omega
            have HE : Hid (bodyP L k = bodyM L) := hide (by rw [hkn, ← unhide HLn]; exact bodyP_all L)
            rw [unhide HE] at HY HT
            obtain ⟨gB, nB, pB, rfl, hB⟩ := body_form (unhide HY).2 (bodyM_pos L)
            rw [hB] at HY HT
            have hnB : nB ≤ 65536 := by
              rcases unhide HT with t | t
              · omega
              · rw [← hB, ← unhide HE, t]; unfold bodyP; simp; have := (encF_len 9 (L.length : Int)).2; omega
            have HBS : Hid (∀ c ∈ bodyM L, 0 ≤ c ∧ c ≤ 255) := hide (by rw [← unhide HE]; exact bodyP_small (unhide HPZ).1 (fun z hz => ((unhide HPZ).2 z hz).1) k)
            obtain ⟨TB, hTB⟩ : ∃ TB, strOfNums (bodyM L) = TB := ⟨_, rfl⟩
            have HK8 : Hid (∀ u, KB wr gB u → Sem.run Tryz.prog (convert 90 9 (.slice (some ⟨gB, 0, none⟩) nB pB)) u = .ok (.string TB) u) := hide (fun u hu => by rw [← hTB]; exact conv_own (unhide HY).2 (unhide HBS) hB (by have := bodyM_pos L; omega) hu.1)
            have HTB : Hid (TB.size = nB ∧ nums TB = bodyM L) := hide (by rw [← hTB]; exact ⟨by rw [size_strM, hB], nums_strM _ (unhide HBS)⟩)
            have hTs : TB.size ≤ 65536 := by have := unhide HTB; omega
            have HgB : Hid (w4.heap.size ≤ gB ∧ gB < wr.heap.size) := hide ((unhide HY).2.lt gB rfl)
            have HOR : Hid (OutR wr w.heap.size 0 (.slice aO lO cO) (outM m 0)) := hide ((unhide HS).2.2.1.later (unhide HQ _ (unhide HY).1).2.2)
            have hbound : lO + nB ≤ 65536 ∨ nB ≤ 10 := by
              rcases unhide HT with t | t
              · exact Or.inl t
              · refine Or.inr ?_
                rw [← hB, ← unhide HE, t]; unfold bodyP; simp; exact (encF_len 9 (L.length : Int)).2
            have HBN := hide hB
            clear hTB HT d0 d1 d2 d3 e0 e1 e2 hB
            have q9 : 65536 + 10 ≤ 140737488355328 := by omega
            have HNE : Hid (some gB ≠ (Value.slice aO lO cO).ownBlock ∧ w.heap.size ≤ wr.heap.size) := hide ⟨fun e => by have := (unhide HS).2.2.1.lt gB e.symm; have := (unhide HgB).1; have := unhide HQ4; omega, by have := (unhide HOR); exact Nat.le_trans (unhide HS).2.1.size (unhide HQ _ (unhide HY).1).2.2.size⟩
            obtain ⟨eT, heT⟩ : ∃ eT, encF 9 (TB.size : Int) = eT := ⟨_, rfl⟩
            have heTl : 1 ≤ eT.length ∧ eT.length ≤ 10 := by rw [← heT]; exact encF_len 9 _
            have HTS : Hid (∀ c ∈ eT ++ nums TB, 0 ≤ c ∧ c ≤ 255) := hide (by rw [← heT]; exact tx_small TB (by omega))
            have CPT := hide (fun u => putText_any none 0 0 TB [] u (nilRow _) (by omega))
            rw [heT] at CPT
            simp only [Nat.zero_add, List.nil_append] at CPT
            have HET := hide heT
            clear heT
            go_upto_region 16 with fail
            go_region_held3 (fun u => Sem.run Tryz.prog (convert 90 9 (.slice (some ⟨gB, 0, none⟩) nB pB)) u = .ok (.string TB) u ∧ Hid (KB wr gB u))
              (first | assumption | exact kbS HK8 ⟨rfl, (unhide HgB).2⟩ | exact kbS HK8 (KB.alloc ⟨rfl, (unhide HgB).2⟩ _) | exact kbS HK8 (KB.grew (unhide (And.right (by assumption))) (unhide o6).2 (unhide HNE).1) | exact kbS HK8 (KB.below (unhide (And.right (by assumption))) b7) | exact kbS HK8 (KB.grew (unhide (And.right (by assumption))) (unhide o8).2 (ne_grew (unhide o6).2 (unhide HNE).1 (by have := (unhide HgB).2; simp; omega))))
              (first | (go_at_call 119; refine (secNo_0 _).mono ?_; rintro e x5 ⟨rfl, rfl⟩) | (go_at_call 120; refine (unhide CPT _).mono ?_; rintro e x7 ⟨g7, c7, hg7, rfl, o7, b7⟩) | (refine step_out (by rfl) (.tmp 50) (.tmp 53) (by rfl) w.heap.size 0 lO (.slice aO lO cO) (outM m 0) (by rfl) ((unhide HOR).later ((Below.refl _ _).alloc (Nat.le_refl _) _).drew) (unhide HLO) ⟨wr.heap.size, 0, none⟩ 1 1 [1] (by rfl) (row_one (heap_alloc_new wr _) (by omega) (by omega)) (by omega) (by omega) (by have := (unhide HNE).2; simp; omega) ?_; intro v6 x6 o6) | (refine step_app (by rfl) (.tmp 54) (.tmp 57) (by rfl) w.heap.size (lO + 1) v6 (outM m 0 ++ [1]) (by rfl) (own_below (unhide o6).1 b7) (some ⟨g7, 0, none⟩) (eT.length + TB.size) c7 (eT ++ nums TB) (by rfl) (Row8.own o7 (unhide HTS)) (by omega) (Nat.le_trans (Nat.le_trans (unhide HNE).2 (by simp)) (Nat.le_trans (unhide o6).2.grown.size b7.size)) ?_; intro v8 x8 o8))
            have HOx : Hid (outM m 0 ++ [1] ++ (eT ++ nums TB) = outM m 1) := hide (by
              show _ = outM m 0 ++ secM 0 (partsM m 0)
              rw [unhide HLL, ← unhide HET, (unhide HTB).2, (unhide HTB).1, ← unhide HBN]
              simp [secM])
            have H9 : Hid (Sees x8 B g gs m (.slice a1 n1 c1) (.slice a2 n2 c2) (.slice a3 n3 c3) a1 c1 a2 c2 a3 c3 ∧ Below w.heap.size w x8 ∧ OutR x8 w.heap.size 1 v8 (outM m 1) ∧ (outM m 1).length ≤ 65600 + 21 * 1 ∧ ∀ b, v8.ownBlock = some b → b ≠ g ∧ b ≠ gs) := hide (by
              have q5 := unhide HQ _ (unhide HY).1
              have q6 : Below w.heap.size w wr := (unhide HS).2.1.trans (q5.2.2.mono (unhide HS).2.1.size)
              obtain ⟨y1, y2, y3⟩ := lay_next q5.2.1 q6 (unhide HBw) (fun b hb => ⟨(unhide HOR).ge b hb, (unhide HOR).lt b hb, (unhide HS).2.2.2.2 b hb⟩) (unhide o6).2 b7 (unhide o8).2
              have y4 := (unhide o8).1
              rw [unhide HOx] at y4
              have y5 : lO + 1 + (eT.length + TB.size) = (outM m 1).length := by
                rw [← unhide HOx]
                simp only [List.length_append, List.length_cons, List.length_nil, nums_len, unhide HLO]
              have y6 := (unhide HTB).1
              have y7 := (unhide HS).2.2.2.1
              refine ⟨y1, y2, Or.inr ⟨by omega, by rw [← y5]; exact y4⟩, by rw [← y5]; rcases hbound with t | t <;> omega, y3⟩)
            clear o6 o7 o8 b7 hg7
            go_wp2_with fail
            go_roundw
            case rel => exact ⟨1, rfl, rfl, hide (by omega), H9⟩
            case measure => simp [intOf]
      · have k0 : wo.cell? ⟨gs, 4, none⟩ = some (.int .i64 24) := sec_cells (unhide HS).1.sec 4 _ rfl
        have k1 : wo.cell? ⟨gs, 5, none⟩ = some (.func (.func 162) #[] #[]) := sec_cells (unhide HS).1.sec 5 _ rfl
        have k2 : wo.cell? ⟨gs, 6, none⟩ = some (.func (.func 163) #[] #[]) := sec_cells (unhide HS).1.sec 6 _ rfl
        have k3 : wo.cell? ⟨gs, 7, none⟩ = some (.func (.func 164) #[] #[]) := sec_cells (unhide HS).1.sec 7 _ rfl
        obtain ⟨q, hq⟩ : ∃ q, wo.heap.size = q := ⟨_, rfl⟩
        have BQ := BoxN.mk' wo #[.int .i64 24, .func (.func 162) #[] #[], .func (.func 163) #[] #[], .func (.func 164) #[] #[]] 195
        obtain ⟨w4, hw4⟩ : ∃ w4, wo.alloc (.cells #[.int .i64 24, .func (.func 162) #[] #[], .func (.func 163) #[] #[], .func (.func 164) #[] #[]] 195) = w4 := ⟨_, rfl⟩
        rw [hw4] at BQ
        have HQ : Hid (∀ u, Below w4.heap.size w4 u → u.heap[q]? = some (.cells #[.int .i64 24, .func (.func 162) #[] #[], .func (.func 163) #[] #[], .func (.func 164) #[] #[]] 195 (0, 0)) ∧ Sees u B g gs m (.slice a1 n1 c1) (.slice a2 n2 c2) (.slice a3 n3 c3) a1 c1 a2 c2 a3 c3 ∧ Below wo.heap.size wo u) := hide (fun u hu => by
          have z := BQ.size
          exact ⟨(hu.block q (by omega)).trans (by rw [← hq]; exact BQ.row), ((unhide HS).1.later BQ.below).later hu, BQ.below.trans (hu.mono (by omega))⟩)
        have HQ4 : Hid (wo.heap.size < w4.heap.size) := hide (by have := BQ.size; omega)
        obtain ⟨d0, d1, d2, d3⟩ := row_cell4 (unhide HQ w4 (Below.refl _ _)).1
        obtain ⟨e0, e1, e2⟩ := row_cell3 (unhide HQ w4 (Below.refl _ _)).2.1.box
        have HPA := hide (part1 (unhide HF) B a1 a2 a3 n1 c1 n2 c2 n3 c3 (unhide HN).2.1)
        have HPZ := HPS 1
        have HLn : Hid ((partsM m 1).length = n2) := hide (by have := unhide HN; unfold partsM; simp; omega)
        have hOL := (unhide HS).2.2.1.len
        obtain ⟨aO, cO, rfl⟩ := hOL
        have HOV := hide (fun k => over_long (m := m) (i := 1) (k := k) (by omega))
        obtain ⟨L, hL⟩ : ∃ L, partsM m 1 = L := ⟨_, rfl⟩
        rw [hL] at HPA HPZ HLn HOV
        obtain ⟨lO, hlO⟩ : ∃ lO, (outM m 1).length = lO := ⟨_, rfl⟩
        rw [hlO] at HOV HS ⊢
        have hO : lO ≤ 65700 := by have := (unhide HS).2.2.2.1; omega
        have HLO := hide hlO
        have hc100 : n2 ≤ 100 := by have := (unhide HPZ).1; have := unhide HLn; omega
        have HLL := hide hL
        clear BQ hL hlO HPS
        go_wp2_with fail
        refine (count2_any _ _ _ _ _ _ _ _ _ _).mono ?_
        rintro e u1 ⟨rfl, b1⟩
        have B1 := hide b1
        have w64 : IntKind.u64.wrap (n2 : Int) = (n2 : Int) := by rw [IntKind.wrap_u64]; omega
        obtain ⟨d0, d1, d2, d3⟩ := row_cell4 (unhide HQ u1 b1).1
        obtain ⟨e0, e1, e2⟩ := row_cell3 (unhide HQ u1 b1).2.1.box
        clear b1
        go_wp2_with fail
        refine (putUint_any none 0 0 (n2 : Int) [] u1 (nilRow _) (by omega) (by omega) (by omega)).mono ?_
        rintro e u2 ⟨rfl, o2, b2⟩
        have HB2 : Hid (Below w4.heap.size w4 u2 ∧ u2.ownsRow w4.heap.size 5 1 (.slice (some ⟨u1.heap.size, 0, none⟩) (0 + (encF 9 (n2 : Int)).length) (0 + 10)) (bodyP L 0).length ((bodyP L 0).map (Value.int .u8))) := hide (by
          have e9 : bodyP L 0 = encF 9 (n2 : Int) := by unfold bodyP; rw [unhide HLn]; simp
          rw [e9]
          refine ⟨(unhide B1).trans (b2.mono (unhide B1).size), own_low ?_ (unhide B1).size⟩
          simpa using o2)
        clear o2 b2 B1
        go_wp2_with fail
        go_loopw [5, 9, 31] (fun z y x v => ∃ (k : Nat), x = .int .i64 (k : Int) ∧ z = .bool true ∧ Hid (k ≤ n2) ∧ Hid (Below w4.heap.size w4 v ∧ v.ownsRow w4.heap.size 5 1 y (bodyP L k).length ((bodyP L k).map (Value.int .u8))) ∧ Hid (lO + (bodyP L k).length ≤ 65536 ∨ k = 0)) (fun _ _ x _ => n2 - (intOf x).toNat)
        case atStart => exact ⟨0, rfl, rfl, hide (by omega), by simpa using HB2, hide (Or.inr rfl)⟩
        case round =>
          clear HB2 d0 d1 d2 d3 e0 e1 e2 k0 k1 k2 k3 m0 m1 m2
          obtain ⟨k, rfl, rfl, HK, HY, HT⟩ := hrel
          obtain ⟨d0, d1, d2, d3⟩ := row_cell4 (unhide HQ _ (unhide HY).1).1
          obtain ⟨e0, e1, e2⟩ := row_cell3 (unhide HQ _ (unhide HY).1).2.1.box
          by_cases hlt : k < n2
          · have j1 : (k : Int) < (n2 : Int) := by omega
            have HK1 : Hid (k + 1 ≤ n2) := hide (by omega)
            obtain ⟨z, hz⟩ : ∃ z, L[k]? = some z := ⟨_, List.getElem?_eq_getElem (by have := unhide HLn; omega)⟩
            have CP := hide (unhide HPA k z hz _ (unhide HQ _ (unhide HY).1).2.1.mod (unhide HQ _ (unhide HY).1).2.1.low)
            obtain ⟨bl, hbl⟩ : ∃ bl, (bodyP L k).length = bl := ⟨_, rfl⟩
            have hb1 : bl ≤ 65536 := by
              rcases unhide HT with t | t
              · omega
              · rw [← hbl, t]
                unfold bodyP
                simp
                have := (encF_len 9 (L.length : Int)).2
                omega
            have hzl := ((unhide HPZ).2 z (List.mem_of_getElem? hz)).2
            have HZ := hide (And.intro hz hbl)
            rw [hbl] at HY
            clear hz hbl HT
            go_wp2_with fail
            refine (unhide CP).mono ?_
            rintro e u3 ⟨ao3, l3, p3, rfl, r3, b3, f3⟩
            have hr3 := r3.length
            obtain ⟨nb, hnb⟩ : ∃ nb, bl + l3 = nb := ⟨_, rfl⟩
            have hnb1 : nb ≤ 108544 := by omega
            have H3 := hide (And.intro r3 (And.intro b3 (And.intro (own_below (unhide HY).2 b3) ((unhide HY).1.trans (b3.mono (unhide HY).1.size)))))
            have HNB := hide (And.intro hnb hr3)
            have hbt : bl + l3 ≤ 140737489403904 := by omega
            have hbs : w4.heap.size ≤ u3.heap.size := (unhide H3).2.2.2.size
            clear r3 b3 f3 hr3 CP d0 d1 d2 d3 e0 e1 e2
            have w1a : IntKind.i64.wrap ((lO : Int) + (nb : Int)) = (lO : Int) + (nb : Int) := by rw [IntKind.wrap_i64]; omega
            by_cases hfit : lO + nb ≤ 65536
            · have j2 : (lO : Int) + (nb : Int) ≤ 65536 := by omega
              have jd : decide ((lO : Int) + (nb : Int) ≤ 65536) = true := decide_eq_true j2
              go_wp2_with (first | (at_builtin; refine wpl_app rfl (.tmp 34) (.tmp 39) rfl w4.heap.size bl u9 (bodyP L k) rfl (unhide H3).2.2.1 ao3 l3 p3 z rfl (unhide H3).1 hbt hbs ?_; intro v5 w5 o5; rw [hnb] at o5; obtain ⟨a5, p5, h5, _⟩ := slice_form (unhide o5).1; subst h5))
              have HY5 : Hid (Below w4.heap.size w4 w5 ∧ w5.ownsRow w4.heap.size 5 1 (.slice a5 nb p5) (bodyP L (k + 1)).length ((bodyP L (k + 1)).map (Value.int .u8))) := hide (by
                rw [bodyP_next L k z (unhide HZ).1, List.length_append, (unhide HZ).2, (unhide HNB).2, (unhide HNB).1]
                exact ⟨(unhide H3).2.2.2.trans ((unhide o5).2.below (unhide H3).2.2.1 hbs), (unhide o5).1⟩)
              have HT5 : Hid (lO + (bodyP L (k + 1)).length ≤ 65536 ∨ k + 1 = 0) := hide (Or.inl (by rw [bodyP_next L k z (unhide HZ).1, List.length_append, (unhide HZ).2, (unhide HNB).2, (unhide HNB).1]; exact hfit))
              go_roundw
              case rel => exact ⟨k + 1, by go_num, rfl, HK1, HY5, HT5⟩
              case measure => have := unhide HK1; simp [intOf]; omega
            · have j2 : ¬ (lO : Int) + (nb : Int) ≤ 65536 := by omega
              have jd : decide ((lO : Int) + (nb : Int) ≤ 65536) = false := decide_eq_false j2
              have HF0 : Hid (R = false) := hide (by
                rw [unhide HO3]
                refine decide_eq_false ?_
                have := unhide HOV (k + 1) (by rw [bodyP_next L k z (unhide HZ).1, List.length_append, (unhide HZ).2, (unhide HNB).2, (unhide HNB).1]; omega)
                omega)
              go_wp2_with (first | (at_builtin; refine wpl_app rfl (.tmp 34) (.tmp 39) rfl w4.heap.size bl u9 (bodyP L k) rfl (unhide H3).2.2.1 ao3 l3 p3 z rfl (unhide H3).1 hbt hbs ?_; intro v5 w5 o5; rw [hnb] at o5; obtain ⟨a5, p5, h5, _⟩ := slice_form (unhide o5).1; subst h5))
              have HB5 : Hid (Below w.heap.size w w5) := hide (by
                have x1 := (unhide H3).2.2.2.trans ((unhide o5).2.below (unhide H3).2.2.1 hbs)
                have x2 := (unhide HQ _ x1).2.2
                exact (unhide HS).2.1.trans (x2.mono (unhide HS).2.1.size))
              try rw [Exit.noGoto_ret]
              go_ret2
              refine ⟨none, 0, 0, ?_, by rw [unhide HF0]; exact nilRow _, by first | exact unhide HB5 | (rw [← unhide HG]; exact unhide HB5), (fun a e => by cases e), by unfold maxLen; omega, (fun e => by rw [unhide HF0] at e; cases e)⟩
              rw [unhide HF0]
              rfl
          · have j1 : ¬ (k : Int) < (n2 : Int) := by omega
            have hkn : k = n2 := by have := unhide HK; omega
            have HE : Hid (bodyP L k = bodyM L) := hide (by rw [hkn, ← unhide HLn]; exact bodyP_all L)
            rw [unhide HE] at HY HT
            obtain ⟨gB, nB, pB, rfl, hB⟩ := body_form (unhide HY).2 (bodyM_pos L)
            rw [hB] at HY HT
            have hnB : nB ≤ 65536 := by
              rcases unhide HT with t | t
              · omega
              · rw [← hB, ← unhide HE, t]; unfold bodyP; simp; have := (encF_len 9 (L.length : Int)).2; omega
            have HBS : Hid (∀ c ∈ bodyM L, 0 ≤ c ∧ c ≤ 255) := hide (by rw [← unhide HE]; exact bodyP_small (unhide HPZ).1 (fun z hz => ((unhide HPZ).2 z hz).1) k)
            obtain ⟨TB, hTB⟩ : ∃ TB, strOfNums (bodyM L) = TB := ⟨_, rfl⟩
            have HK8 : Hid (∀ u, KB wr gB u → Sem.run Tryz.prog (convert 90 9 (.slice (some ⟨gB, 0, none⟩) nB pB)) u = .ok (.string TB) u) := hide (fun u hu => by rw [← hTB]; exact conv_own (unhide HY).2 (unhide HBS) hB (by have := bodyM_pos L; omega) hu.1)
            have HTB : Hid (TB.size = nB ∧ nums TB = bodyM L) := hide (by rw [← hTB]; exact ⟨by rw [size_strM, hB], nums_strM _ (unhide HBS)⟩)
            have hTs : TB.size ≤ 65536 := by have := unhide HTB; omega
            have HgB : Hid (w4.heap.size ≤ gB ∧ gB < wr.heap.size) := hide ((unhide HY).2.lt gB rfl)
            have HOR : Hid (OutR wr w.heap.size 1 (.slice aO lO cO) (outM m 1)) := hide ((unhide HS).2.2.1.later (unhide HQ _ (unhide HY).1).2.2)
            have hbound : lO + nB ≤ 65536 ∨ nB ≤ 10 := by
              rcases unhide HT with t | t
              · exact Or.inl t
              · refine Or.inr ?_
                rw [← hB, ← unhide HE, t]; unfold bodyP; simp; exact (encF_len 9 (L.length : Int)).2
            have HBN := hide hB
            clear hTB HT d0 d1 d2 d3 e0 e1 e2 hB
            have q9 : 65536 + 10 ≤ 140737488355328 := by omega
            have HNE : Hid (some gB ≠ (Value.slice aO lO cO).ownBlock ∧ w.heap.size ≤ wr.heap.size) := hide ⟨fun e => by have := (unhide HS).2.2.1.lt gB e.symm; have := (unhide HgB).1; have := unhide HQ4; omega, by have := (unhide HOR); exact Nat.le_trans (unhide HS).2.1.size (unhide HQ _ (unhide HY).1).2.2.size⟩
            obtain ⟨eT, heT⟩ : ∃ eT, encF 9 (TB.size : Int) = eT := ⟨_, rfl⟩
            have heTl : 1 ≤ eT.length ∧ eT.length ≤ 10 := by rw [← heT]; exact encF_len 9 _
            have HTS : Hid (∀ c ∈ eT ++ nums TB, 0 ≤ c ∧ c ≤ 255) := hide (by rw [← heT]; exact tx_small TB (by omega))
            have CPT := hide (fun u => putText_any none 0 0 TB [] u (nilRow _) (by omega))
            rw [heT] at CPT
            simp only [Nat.zero_add, List.nil_append] at CPT
            have HET := hide heT
            clear heT
            go_upto_region 16 with fail
            go_region_held3 (fun u => Sem.run Tryz.prog (convert 90 9 (.slice (some ⟨gB, 0, none⟩) nB pB)) u = .ok (.string TB) u ∧ Hid (KB wr gB u))
              (first | assumption | exact kbS HK8 ⟨rfl, (unhide HgB).2⟩ | exact kbS HK8 (KB.alloc ⟨rfl, (unhide HgB).2⟩ _) | exact kbS HK8 (KB.grew (unhide (And.right (by assumption))) (unhide o6).2 (unhide HNE).1) | exact kbS HK8 (KB.below (unhide (And.right (by assumption))) b7) | exact kbS HK8 (KB.grew (unhide (And.right (by assumption))) (unhide o8).2 (ne_grew (unhide o6).2 (unhide HNE).1 (by have := (unhide HgB).2; simp; omega))))
              (first | (go_at_call 119; refine (secNo_1 _).mono ?_; rintro e x5 ⟨rfl, rfl⟩) | (go_at_call 120; refine (unhide CPT _).mono ?_; rintro e x7 ⟨g7, c7, hg7, rfl, o7, b7⟩) | (refine step_out (by rfl) (.tmp 50) (.tmp 53) (by rfl) w.heap.size 1 lO (.slice aO lO cO) (outM m 1) (by rfl) ((unhide HOR).later ((Below.refl _ _).alloc (Nat.le_refl _) _).drew) (unhide HLO) ⟨wr.heap.size, 0, none⟩ 1 1 [2] (by rfl) (row_one (heap_alloc_new wr _) (by omega) (by omega)) (by omega) (by omega) (by have := (unhide HNE).2; simp; omega) ?_; intro v6 x6 o6) | (refine step_app (by rfl) (.tmp 54) (.tmp 57) (by rfl) w.heap.size (lO + 1) v6 (outM m 1 ++ [2]) (by rfl) (own_below (unhide o6).1 b7) (some ⟨g7, 0, none⟩) (eT.length + TB.size) c7 (eT ++ nums TB) (by rfl) (Row8.own o7 (unhide HTS)) (by omega) (Nat.le_trans (Nat.le_trans (unhide HNE).2 (by simp)) (Nat.le_trans (unhide o6).2.grown.size b7.size)) ?_; intro v8 x8 o8))
            have HOx : Hid (outM m 1 ++ [2] ++ (eT ++ nums TB) = outM m 2) := hide (by
              show _ = outM m 1 ++ secM 1 (partsM m 1)
              rw [unhide HLL, ← unhide HET, (unhide HTB).2, (unhide HTB).1, ← unhide HBN]
              simp [secM])
            have H9 : Hid (Sees x8 B g gs m (.slice a1 n1 c1) (.slice a2 n2 c2) (.slice a3 n3 c3) a1 c1 a2 c2 a3 c3 ∧ Below w.heap.size w x8 ∧ OutR x8 w.heap.size 2 v8 (outM m 2) ∧ (outM m 2).length ≤ 65600 + 21 * 2 ∧ ∀ b, v8.ownBlock = some b → b ≠ g ∧ b ≠ gs) := hide (by
              have q5 := unhide HQ _ (unhide HY).1
              have q6 : Below w.heap.size w wr := (unhide HS).2.1.trans (q5.2.2.mono (unhide HS).2.1.size)
              obtain ⟨y1, y2, y3⟩ := lay_next q5.2.1 q6 (unhide HBw) (fun b hb => ⟨(unhide HOR).ge b hb, (unhide HOR).lt b hb, (unhide HS).2.2.2.2 b hb⟩) (unhide o6).2 b7 (unhide o8).2
              have y4 := (unhide o8).1
              rw [unhide HOx] at y4
              have y5 : lO + 1 + (eT.length + TB.size) = (outM m 2).length := by
                rw [← unhide HOx]
                simp only [List.length_append, List.length_cons, List.length_nil, nums_len, unhide HLO]
              have y6 := (unhide HTB).1
              have y7 := (unhide HS).2.2.2.1
              refine ⟨y1, y2, Or.inr ⟨by omega, by rw [← y5]; exact y4⟩, by rw [← y5]; rcases hbound with t | t <;> omega, y3⟩)
            clear o6 o7 o8 b7 hg7
            go_wp2_with fail
            go_roundw
            case rel => exact ⟨2, rfl, rfl, hide (by omega), H9⟩
            case measure => simp [intOf]
      · have k0 : wo.cell? ⟨gs, 8, none⟩ = some (.int .i64 24) := sec_cells (unhide HS).1.sec 8 _ rfl
        have k1 : wo.cell? ⟨gs, 9, none⟩ = some (.func (.func 165) #[] #[]) := sec_cells (unhide HS).1.sec 9 _ rfl
        have k2 : wo.cell? ⟨gs, 10, none⟩ = some (.func (.func 166) #[] #[]) := sec_cells (unhide HS).1.sec 10 _ rfl
        have k3 : wo.cell? ⟨gs, 11, none⟩ = some (.func (.func 167) #[] #[]) := sec_cells (unhide HS).1.sec 11 _ rfl
        obtain ⟨q, hq⟩ : ∃ q, wo.heap.size = q := ⟨_, rfl⟩
        have BQ := BoxN.mk' wo #[.int .i64 24, .func (.func 165) #[] #[], .func (.func 166) #[] #[], .func (.func 167) #[] #[]] 195
        obtain ⟨w4, hw4⟩ : ∃ w4, wo.alloc (.cells #[.int .i64 24, .func (.func 165) #[] #[], .func (.func 166) #[] #[], .func (.func 167) #[] #[]] 195) = w4 := ⟨_, rfl⟩
        rw [hw4] at BQ
        have HQ : Hid (∀ u, Below w4.heap.size w4 u → u.heap[q]? = some (.cells #[.int .i64 24, .func (.func 165) #[] #[], .func (.func 166) #[] #[], .func (.func 167) #[] #[]] 195 (0, 0)) ∧ Sees u B g gs m (.slice a1 n1 c1) (.slice a2 n2 c2) (.slice a3 n3 c3) a1 c1 a2 c2 a3 c3 ∧ Below wo.heap.size wo u) := hide (fun u hu => by
          have z := BQ.size
          exact ⟨(hu.block q (by omega)).trans (by rw [← hq]; exact BQ.row), ((unhide HS).1.later BQ.below).later hu, BQ.below.trans (hu.mono (by omega))⟩)
        have HQ4 : Hid (wo.heap.size < w4.heap.size) := hide (by have := BQ.size; omega)
        obtain ⟨d0, d1, d2, d3⟩ := row_cell4 (unhide HQ w4 (Below.refl _ _)).1
        obtain ⟨e0, e1, e2⟩ := row_cell3 (unhide HQ w4 (Below.refl _ _)).2.1.box
        have HPA := hide (part2 (unhide HF) B a1 a2 a3 n1 c1 n2 c2 n3 c3 (unhide HN).2.2)
        have HPZ := HPS 2
        have HLn : Hid ((partsM m 2).length = n3) := hide (by have := unhide HN; unfold partsM; simp; omega)
        have hOL := (unhide HS).2.2.1.len
        obtain ⟨aO, cO, rfl⟩ := hOL
        have HOV := hide (fun k => over_long (m := m) (i := 2) (k := k) (by omega))
        obtain ⟨L, hL⟩ : ∃ L, partsM m 2 = L := ⟨_, rfl⟩
        rw [hL] at HPA HPZ HLn HOV
        obtain ⟨lO, hlO⟩ : ∃ lO, (outM m 2).length = lO := ⟨_, rfl⟩
        rw [hlO] at HOV HS ⊢
        have hO : lO ≤ 65700 := by have := (unhide HS).2.2.2.1; omega
        have HLO := hide hlO
        have hc100 : n3 ≤ 100 := by have := (unhide HPZ).1; have := unhide HLn; omega
        have HLL := hide hL
        clear BQ hL hlO HPS
        go_wp2_with fail
        refine (count3_any _ _ _ _ _ _ _ _ _ _).mono ?_
        rintro e u1 ⟨rfl, b1⟩
        have B1 := hide b1
        have w64 : IntKind.u64.wrap (n3 : Int) = (n3 : Int) := by rw [IntKind.wrap_u64]; omega
        obtain ⟨d0, d1, d2, d3⟩ := row_cell4 (unhide HQ u1 b1).1
        obtain ⟨e0, e1, e2⟩ := row_cell3 (unhide HQ u1 b1).2.1.box
        clear b1
        go_wp2_with fail
        refine (putUint_any none 0 0 (n3 : Int) [] u1 (nilRow _) (by omega) (by omega) (by omega)).mono ?_
        rintro e u2 ⟨rfl, o2, b2⟩
        have HB2 : Hid (Below w4.heap.size w4 u2 ∧ u2.ownsRow w4.heap.size 5 1 (.slice (some ⟨u1.heap.size, 0, none⟩) (0 + (encF 9 (n3 : Int)).length) (0 + 10)) (bodyP L 0).length ((bodyP L 0).map (Value.int .u8))) := hide (by
          have e9 : bodyP L 0 = encF 9 (n3 : Int) := by unfold bodyP; rw [unhide HLn]; simp
          rw [e9]
          refine ⟨(unhide B1).trans (b2.mono (unhide B1).size), own_low ?_ (unhide B1).size⟩
          simpa using o2)
        clear o2 b2 B1
        go_wp2_with fail
        go_loopw [5, 9, 31] (fun z y x v => ∃ (k : Nat), x = .int .i64 (k : Int) ∧ z = .bool true ∧ Hid (k ≤ n3) ∧ Hid (Below w4.heap.size w4 v ∧ v.ownsRow w4.heap.size 5 1 y (bodyP L k).length ((bodyP L k).map (Value.int .u8))) ∧ Hid (lO + (bodyP L k).length ≤ 65536 ∨ k = 0)) (fun _ _ x _ => n3 - (intOf x).toNat)
        case atStart => exact ⟨0, rfl, rfl, hide (by omega), by simpa using HB2, hide (Or.inr rfl)⟩
        case round =>
          clear HB2 d0 d1 d2 d3 e0 e1 e2 k0 k1 k2 k3 m0 m1 m2
          obtain ⟨k, rfl, rfl, HK, HY, HT⟩ := hrel
          obtain ⟨d0, d1, d2, d3⟩ := row_cell4 (unhide HQ _ (unhide HY).1).1
          obtain ⟨e0, e1, e2⟩ := row_cell3 (unhide HQ _ (unhide HY).1).2.1.box
          by_cases hlt : k < n3
          · have j1 : (k : Int) < (n3 : Int) := by omega
            have HK1 : Hid (k + 1 ≤ n3) := hide (by omega)
            obtain ⟨z, hz⟩ : ∃ z, L[k]? = some z := ⟨_, List.getElem?_eq_getElem (by have := unhide HLn; omega)⟩
            have CP := hide (unhide HPA k z hz _ (unhide HQ _ (unhide HY).1).2.1.mod (unhide HQ _ (unhide HY).1).2.1.low)
            obtain ⟨bl, hbl⟩ : ∃ bl, (bodyP L k).length = bl := ⟨_, rfl⟩
            have hb1 : bl ≤ 65536 := by
              rcases unhide HT with t | t
              · omega
              · rw [← hbl, t]
                unfold bodyP
                simp
                have := (encF_len 9 (L.length : Int)).2
                omega
            have hzl := ((unhide HPZ).2 z (List.mem_of_getElem? hz)).2
            have HZ := hide (And.intro hz hbl)
            rw [hbl] at HY
            clear hz hbl HT
            go_wp2_with fail
            refine (unhide CP).mono ?_
            rintro e u3 ⟨ao3, l3, p3, rfl, r3, b3, f3⟩
            have hr3 := r3.length
            obtain ⟨nb, hnb⟩ : ∃ nb, bl + l3 = nb := ⟨_, rfl⟩
            have hnb1 : nb ≤ 108544 := by omega
            have H3 := hide (And.intro r3 (And.intro b3 (And.intro (own_below (unhide HY).2 b3) ((unhide HY).1.trans (b3.mono (unhide HY).1.size)))))
            have HNB := hide (And.intro hnb hr3)
            have hbt : bl + l3 ≤ 140737489403904 := by omega
            have hbs : w4.heap.size ≤ u3.heap.size := (unhide H3).2.2.2.size
            clear r3 b3 f3 hr3 CP d0 d1 d2 d3 e0 e1 e2
            have w1a : IntKind.i64.wrap ((lO : Int) + (nb : Int)) = (lO : Int) + (nb : Int) := by rw [IntKind.wrap_i64]; omega
            by_cases hfit : lO + nb ≤ 65536
            · have j2 : (lO : Int) + (nb : Int) ≤ 65536 := by omega
              have jd : decide ((lO : Int) + (nb : Int) ≤ 65536) = true := decide_eq_true j2
              go_wp2_with (first | (at_builtin; refine wpl_app rfl (.tmp 34) (.tmp 39) rfl w4.heap.size bl u9 (bodyP L k) rfl (unhide H3).2.2.1 ao3 l3 p3 z rfl (unhide H3).1 hbt hbs ?_; intro v5 w5 o5; rw [hnb] at o5; obtain ⟨a5, p5, h5, _⟩ := slice_form (unhide o5).1; subst h5))
              have HY5 : Hid (Below w4.heap.size w4 w5 ∧ w5.ownsRow w4.heap.size 5 1 (.slice a5 nb p5) (bodyP L (k + 1)).length ((bodyP L (k + 1)).map (Value.int .u8))) := hide (by
                rw [bodyP_next L k z (unhide HZ).1, List.length_append, (unhide HZ).2, (unhide HNB).2, (unhide HNB).1]
                exact ⟨(unhide H3).2.2.2.trans ((unhide o5).2.below (unhide H3).2.2.1 hbs), (unhide o5).1⟩)
              have HT5 : Hid (lO + (bodyP L (k + 1)).length ≤ 65536 ∨ k + 1 = 0) := hide (Or.inl (by rw [bodyP_next L k z (unhide HZ).1, List.length_append, (unhide HZ).2, (unhide HNB).2, (unhide HNB).1]; exact hfit))
              go_roundw
              case rel => exact ⟨k + 1, by go_num, rfl, HK1, HY5, HT5⟩
              case measure => have := unhide HK1; simp [intOf]; omega
            · have j2 : ¬ (lO : Int) + (nb : Int) ≤ 65536 := by omega
              have jd : decide ((lO : Int) + (nb : Int) ≤ 65536) = false := decide_eq_false j2
              have HF0 : Hid (R = false) := hide (by
                rw [unhide HO3]
                refine decide_eq_false ?_
                have := unhide HOV (k + 1) (by rw [bodyP_next L k z (unhide HZ).1, List.length_append, (unhide HZ).2, (unhide HNB).2, (unhide HNB).1]; omega)
                omega)
              go_wp2_with (first | (at_builtin; refine wpl_app rfl (.tmp 34) (.tmp 39) rfl w4.heap.size bl u9 (bodyP L k) rfl (unhide H3).2.2.1 ao3 l3 p3 z rfl (unhide H3).1 hbt hbs ?_; intro v5 w5 o5; rw [hnb] at o5; obtain ⟨a5, p5, h5, _⟩ := slice_form (unhide o5).1; subst h5))
              have HB5 : Hid (Below w.heap.size w w5) := hide (by
                have x1 := (unhide H3).2.2.2.trans ((unhide o5).2.below (unhide H3).2.2.1 hbs)
                have x2 := (unhide HQ _ x1).2.2
                exact (unhide HS).2.1.trans (x2.mono (unhide HS).2.1.size))
              try rw [Exit.noGoto_ret]
              go_ret2
              refine ⟨none, 0, 0, ?_, by rw [unhide HF0]; exact nilRow _, by first | exact unhide HB5 | (rw [← unhide HG]; exact unhide HB5), (fun a e => by cases e), by unfold maxLen; omega, (fun e => by rw [unhide HF0] at e; cases e)⟩
              rw [unhide HF0]
              rfl
          · have j1 : ¬ (k : Int) < (n3 : Int) := by omega
            have hkn : k = n3 := by have := unhide HK; omega
            have HE : Hid (bodyP L k = bodyM L) := hide (by rw [hkn, ← unhide HLn]; exact bodyP_all L)
            rw [unhide HE] at HY HT
            obtain ⟨gB, nB, pB, rfl, hB⟩ := body_form (unhide HY).2 (bodyM_pos L)
            rw [hB] at HY HT
            have hnB : nB ≤ 65536 := by
              rcases unhide HT with t | t
              · omega
              · rw [← hB, ← unhide HE, t]; unfold bodyP; simp; have := (encF_len 9 (L.length : Int)).2; omega
            have HBS : Hid (∀ c ∈ bodyM L, 0 ≤ c ∧ c ≤ 255) := hide (by rw [← unhide HE]; exact bodyP_small (unhide HPZ).1 (fun z hz => ((unhide HPZ).2 z hz).1) k)
            obtain ⟨TB, hTB⟩ : ∃ TB, strOfNums (bodyM L) = TB := ⟨_, rfl⟩
            have HK8 : Hid (∀ u, KB wr gB u → Sem.run Tryz.prog (convert 90 9 (.slice (some ⟨gB, 0, none⟩) nB pB)) u = .ok (.string TB) u) := hide (fun u hu => by rw [← hTB]; exact conv_own (unhide HY).2 (unhide HBS) hB (by have := bodyM_pos L; omega) hu.1)
            have HTB : Hid (TB.size = nB ∧ nums TB = bodyM L) := hide (by rw [← hTB]; exact ⟨by rw [size_strM, hB], nums_strM _ (unhide HBS)⟩)
            have hTs : TB.size ≤ 65536 := by have := unhide HTB; omega
            have HgB : Hid (w4.heap.size ≤ gB ∧ gB < wr.heap.size) := hide ((unhide HY).2.lt gB rfl)
            have HOR : Hid (OutR wr w.heap.size 2 (.slice aO lO cO) (outM m 2)) := hide ((unhide HS).2.2.1.later (unhide HQ _ (unhide HY).1).2.2)
            have hbound : lO + nB ≤ 65536 ∨ nB ≤ 10 := by
              rcases unhide HT with t | t
              · exact Or.inl t
              · refine Or.inr ?_
                rw [← hB, ← unhide HE, t]; unfold bodyP; simp; exact (encF_len 9 (L.length : Int)).2
            have HBN := hide hB
            clear hTB HT d0 d1 d2 d3 e0 e1 e2 hB
            have q9 : 65536 + 10 ≤ 140737488355328 := by omega
            have HNE : Hid (some gB ≠ (Value.slice aO lO cO).ownBlock ∧ w.heap.size ≤ wr.heap.size) := hide ⟨fun e => by have := (unhide HS).2.2.1.lt gB e.symm; have := (unhide HgB).1; have := unhide HQ4; omega, by have := (unhide HOR); exact Nat.le_trans (unhide HS).2.1.size (unhide HQ _ (unhide HY).1).2.2.size⟩
            obtain ⟨eT, heT⟩ : ∃ eT, encF 9 (TB.size : Int) = eT := ⟨_, rfl⟩
            have heTl : 1 ≤ eT.length ∧ eT.length ≤ 10 := by rw [← heT]; exact encF_len 9 _
            have HTS : Hid (∀ c ∈ eT ++ nums TB, 0 ≤ c ∧ c ≤ 255) := hide (by rw [← heT]; exact tx_small TB (by omega))
            have CPT := hide (fun u => putText_any none 0 0 TB [] u (nilRow _) (by omega))
            rw [heT] at CPT
            simp only [Nat.zero_add, List.nil_append] at CPT
            have HET := hide heT
            clear heT
            go_upto_region 16 with fail
            go_region_held3 (fun u => Sem.run Tryz.prog (convert 90 9 (.slice (some ⟨gB, 0, none⟩) nB pB)) u = .ok (.string TB) u ∧ Hid (KB wr gB u))
              (first | assumption | exact kbS HK8 ⟨rfl, (unhide HgB).2⟩ | exact kbS HK8 (KB.alloc ⟨rfl, (unhide HgB).2⟩ _) | exact kbS HK8 (KB.grew (unhide (And.right (by assumption))) (unhide o6).2 (unhide HNE).1) | exact kbS HK8 (KB.below (unhide (And.right (by assumption))) b7) | exact kbS HK8 (KB.grew (unhide (And.right (by assumption))) (unhide o8).2 (ne_grew (unhide o6).2 (unhide HNE).1 (by have := (unhide HgB).2; simp; omega))))
              (first | (go_at_call 119; refine (secNo_2 _).mono ?_; rintro e x5 ⟨rfl, rfl⟩) | (go_at_call 120; refine (unhide CPT _).mono ?_; rintro e x7 ⟨g7, c7, hg7, rfl, o7, b7⟩) | (refine step_out (by rfl) (.tmp 50) (.tmp 53) (by rfl) w.heap.size 2 lO (.slice aO lO cO) (outM m 2) (by rfl) ((unhide HOR).later ((Below.refl _ _).alloc (Nat.le_refl _) _).drew) (unhide HLO) ⟨wr.heap.size, 0, none⟩ 1 1 [3] (by rfl) (row_one (heap_alloc_new wr _) (by omega) (by omega)) (by omega) (by omega) (by have := (unhide HNE).2; simp; omega) ?_; intro v6 x6 o6) | (refine step_app (by rfl) (.tmp 54) (.tmp 57) (by rfl) w.heap.size (lO + 1) v6 (outM m 2 ++ [3]) (by rfl) (own_below (unhide o6).1 b7) (some ⟨g7, 0, none⟩) (eT.length + TB.size) c7 (eT ++ nums TB) (by rfl) (Row8.own o7 (unhide HTS)) (by omega) (Nat.le_trans (Nat.le_trans (unhide HNE).2 (by simp)) (Nat.le_trans (unhide o6).2.grown.size b7.size)) ?_; intro v8 x8 o8))
            have HOx : Hid (outM m 2 ++ [3] ++ (eT ++ nums TB) = outM m 3) := hide (by
              show _ = outM m 2 ++ secM 2 (partsM m 2)
              rw [unhide HLL, ← unhide HET, (unhide HTB).2, (unhide HTB).1, ← unhide HBN]
              simp [secM])
            have H9 : Hid (Sees x8 B g gs m (.slice a1 n1 c1) (.slice a2 n2 c2) (.slice a3 n3 c3) a1 c1 a2 c2 a3 c3 ∧ Below w.heap.size w x8 ∧ OutR x8 w.heap.size 3 v8 (outM m 3) ∧ (outM m 3).length ≤ 65600 + 21 * 3 ∧ ∀ b, v8.ownBlock = some b → b ≠ g ∧ b ≠ gs) := hide (by
              have q5 := unhide HQ _ (unhide HY).1
              have q6 : Below w.heap.size w wr := (unhide HS).2.1.trans (q5.2.2.mono (unhide HS).2.1.size)
              obtain ⟨y1, y2, y3⟩ := lay_next q5.2.1 q6 (unhide HBw) (fun b hb => ⟨(unhide HOR).ge b hb, (unhide HOR).lt b hb, (unhide HS).2.2.2.2 b hb⟩) (unhide o6).2 b7 (unhide o8).2
              have y4 := (unhide o8).1
              rw [unhide HOx] at y4
              have y5 : lO + 1 + (eT.length + TB.size) = (outM m 3).length := by
                rw [← unhide HOx]
                simp only [List.length_append, List.length_cons, List.length_nil, nums_len, unhide HLO]
              have y6 := (unhide HTB).1
              have y7 := (unhide HS).2.2.2.1
              refine ⟨y1, y2, Or.inr ⟨by omega, by rw [← y5]; exact y4⟩, by rw [← y5]; rcases hbound with t | t <;> omega, y3⟩)
            clear o6 o7 o8 b7 hg7
            go_wp2_with fail
            go_roundw
            case rel => exact ⟨3, rfl, rfl, hide (by omega), H9⟩
            case measure => simp [intOf]
      · have j0 : ¬ (i : Int) < 3 := by omega
        subst hi3
        obtain ⟨aO, cO, rfl⟩ := (unhide HS).2.2.1.len
        have hown : wo.ownsRow w.heap.size 5 1 (.slice aO (outM m 3).length cO) (outM m 3).length ((outM m 3).map (Value.int .u8)) := by
          rcases (unhide HS).2.2.1 with ⟨h, _⟩ | ⟨_, h⟩
          · omega
          · exact h
        have HOW := hide hown
        obtain ⟨lO, hlO⟩ : ∃ lO, (outM m 3).length = lO := ⟨_, rfl⟩
        have hO : lO ≤ 65700 := by have := (unhide HS).2.2.2.1; omega
        rw [hlO] at HOW ⊢
        have HLO := hide hlO
        clear hown hlO m0 m1 m2
        have HBx := hide (unhide HS).2.1
        clear HS
        by_cases hbig : 65536 < lO
        · have j1 : (65536 : Int) < (lO : Int) := by omega
          have HF0 : Hid (R = false) := hide (by rw [unhide HO3]; refine decide_eq_false ?_; have := unhide HLO; unfold encM; omega)
          go_wp2_with fail
          try rw [Exit.noGoto_ret]
          go_ret2
          refine ⟨none, 0, 0, ?_, by rw [unhide HF0]; exact nilRow _, by first | exact unhide HBx | (rw [← unhide HG]; exact unhide HBx), (fun a e => by cases e), by unfold maxLen; omega, (fun e => by rw [unhide HF0] at e; cases e)⟩
          rw [unhide HF0]
          rfl
        · have j1 : ¬ (65536 : Int) < (lO : Int) := by omega
          have HF0 : Hid (R = true) := hide (by rw [unhide HO3]; refine decide_eq_true ?_; have := unhide HLO; unfold encM; omega)
          go_wp2_with fail
          try rw [Exit.noGoto_ret]
          go_ret2
          have hsm : ∀ c ∈ outM m 3, 0 ≤ c ∧ c ≤ 255 := outM_small (unhide HF) (unhide HFT) 3 (by omega)
          have how := unhide HOW
          have hln := unhide HLO
          rcases slice_form how with ⟨ao, cap, hv, _, _, hcap, _⟩
          cases hv
          have h8 := row8_own2 how hsm hln
          refine ⟨aO, lO, cO, by rw [unhide HF0]; rfl, by rw [unhide HF0, if_pos rfl]; exact h8, by first | exact unhide HBx | (rw [← unhide HG]; exact unhide HBx), fun a ha => (how.lt a.block (by rw [ha]; rfl)).1, hcap, fun _ => how⟩
end Go.Proofs.YtmnbfcpkaglniaaGreatDoor
