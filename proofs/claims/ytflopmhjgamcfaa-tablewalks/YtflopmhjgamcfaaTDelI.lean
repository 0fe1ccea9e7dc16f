/-
  slices.Delete of one pair, and Delete of a table of whole numbers; no conditions but that its keys rise.
-/
import Derived.Test.YtflopmhjgamcfaaTPutI
set_option linter.unusedSimpArgs false
namespace Go.Proofs.Ytflopmhjgamcfaa
open Go.RowKit
set_option linter.unusedVariables false

theorem run_room2 {P : Program} (w : World) (t ty e : TypeId) (i0 : TypeInfo) (ht : P.underlying t = some (.slice e)) (hi : P.info? e = some i0) (hs : i0.size = 2)
    (b sLen sCap : Nat) (a : Addr) (m c : Nat) (cur news : List Value) (T : TypeId) (hg : w.heap[b]? = some (.cells cur.toArray T (0, 0))) (hl : news.length = m * 2) (hnews : ∀ j u, news[j]? = some u → w.cell? (a.add j) = some u) (h1 : ∀ u ∈ news, u.oneCell' = true)
    (hroom : sLen + m ≤ sCap) (hfit : sLen * 2 + news.length ≤ cur.length) :
    (Builtin.append_ #[t, t] ty #[.slice (some ⟨b, 0, none⟩) sLen sCap, .slice (some a) m c]).run P w = .ok (.slice (some ⟨b, 0, none⟩) (sLen + m) sCap) (w.setRow b (splice cur (sLen * 2) news).toArray) := by
  have hfc := run_firstCells_some (P := P) (w := w) i0.size m a m c news (by rw [hs]; exact hl) hnews
  have hst := run_storeCells_at P b (sLen * 2) T news 0 cur.toArray w hg (by simpa using hfit) h1
  rw [hs] at hfc
  simp [Builtin.append_, run_underlying ht, sizeOf, typeInfo, hi, hs, Builtin.lenOf, hroom, hfc, add_at, hst, splice]

theorem step_room2 {P : Program} {w : World} {ops : Array Oper} {o : Oper} {a : Act} {K : Act → World → Prop} {Q : Exit → Act → World → Prop} {E : Prop} (hgd : o.guard = none) (s x : Operand) (t e : TypeId) (i0 : TypeInfo)
    (ho : o.op = .call { callee := .builtin .append, args := #[s, x], argTypes := #[t, t] }) (ht : P.underlying t = some (.slice e)) (hi : P.info? e = some i0) (hs2 : i0.size = 2)
    (b sLen sCap : Nat) (ad : Addr) (m c : Nat) (hs : a.eval s = .slice (some ⟨b, 0, none⟩) sLen sCap) (hx : a.eval x = .slice (some ad) m c) (cur news : List Value) (T : TypeId) (hg : w.heap[b]? = some (.cells cur.toArray T (0, 0))) (hl : news.length = m * 2) (hnews : ∀ j u, news[j]? = some u → w.cell? (ad.add j) = some u) (h1 : ∀ u ∈ news, u.oneCell' = true)
    (hroom : sLen + m ≤ sCap) (hfit : sLen * 2 + news.length ≤ cur.length)
    (h : ∀ w', Hid (Laid w w' b (splice cur (sLen * 2) news) T) → K (a.put o.dst (.slice (some ⟨b, 0, none⟩) (sLen + m) sCap)) w') :
    if Region.wanted o (yielded ops a.tmps) = true then Oper.wp P o a w K Q else E := by
  rw [if_pos (show Region.wanted o (yielded ops a.tmps) = true by simp [Region.wanted, hgd])]
  have hrun := run_room2 (P := P) w t o.type e i0 ht hi hs2 b sLen sCap ad m c cur news T hg hl hnews h1 hroom hfit
  unfold Oper.wp
  simp only [execOp, ho, resolve, invoke, builtin, Sem.run_bind, Sem.run_pure, Result.andThen_ok, List.map_toArray, List.map_cons, List.map_nil, hs, hx, hrun]
  exact h _ (laid_setRow hg _)

/-- clear of one element -/
theorem wpl_clear1 {P : Program} {w : World} {ops : Array Oper} {rest : List Oper} {o : Oper} {a : Act} {Q : Exit → Act → World → Prop} (hgd : o.guard = none) (x : Operand) (t e : TypeId) (z : Value)
    (ho : o.op = .call { callee := .builtin .clear, args := #[x], argTypes := #[t] }) (ht : P.underlying t = some (.slice e)) (hz : ∀ w, (zeroValue e).run P w = .ok z w) (z0 z1 : Value) (hzc : z.cells = #[z0, z1]) (h0 : z0.oneCell' = true) (h1 : z1.oneCell' = true)
    (b off c : Nat) (hx : a.eval x = .slice (some ⟨b, off, none⟩) 1 c) (cur : List Value) (T : TypeId) (hg : w.heap[b]? = some (.cells cur.toArray T (0, 0))) (hfit : off + 2 ≤ cur.length)
    (h : ∀ w', Hid (Laid w w' b (splice cur off [z0, z1]) T) → wpList P ops Q rest (a.put o.dst (.tuple #[])) w') : wpList P ops Q (o :: rest) a w := by
  refine wpList_plain hgd fun K hK => ?_
  have hst := run_storeCells_at P b off T [z0, z1] 0 cur.toArray w hg (by simpa using hfit) (one_two h0 h1)
  have hrun : (Builtin.clear_ #[t] o.type #[.slice (some ⟨b, off, none⟩) 1 c]).run P w = .ok (.tuple #[]) (w.setRow b (splice cur off [z0, z1]).toArray) := by
    have hzl : (Builtin.zeroCells #[z0, z1] 1).toList = [z0, z1] := by simp [Builtin.zeroCells, List.range_succ]
    simp [Builtin.clear_, run_underlying ht, hz, hzc, hzl, hst, splice]
  unfold Oper.wp
  simp only [execOp, ho, resolve, invoke, builtin, Sem.run_bind, Sem.run_pure, Result.andThen_ok, List.map_toArray, List.map_cons, List.map_nil, hx, hrun]
  exact hK _ _ (h _ (laid_setRow hg _))

theorem splice_del (cur : List Value) (l : List (Value × Value)) (z0 z1 : Value) (i : Nat) (hi : i < l.length) (hc : l.length * 2 ≤ cur.length) (ht : cur.take (l.length * 2) = cells2 l) :
    (splice (splice cur (i * 2) (cells2 (l.drop (i + 1)))) ((l.length - 1) * 2) [z0, z1]).take ((l.length - 1) * 2) = cells2 (l.take i ++ l.drop (i + 1)) ∧ (splice (splice cur (i * 2) (cells2 (l.drop (i + 1)))) ((l.length - 1) * 2) [z0, z1]).length = cur.length := by
  have hl : (cells2 (l.drop (i + 1))).length = (l.length - (i + 1)) * 2 := by rw [cells2_len, List.length_drop]
  have h1 : (splice cur (i * 2) (cells2 (l.drop (i + 1)))).length = cur.length := length_splice _ _ _ (by rw [hl]; omega)
  have hp : (cells2 (l.take i)).length = i * 2 := by rw [cells2_len, List.length_take, Nat.min_eq_left (by omega)]
  have hti : cur.take (i * 2) = cells2 (l.take i) := by rw [cells2_take, ← ht, List.take_take, Nat.min_eq_left (by omega)]
  refine ⟨?_, ?_⟩
  · have e1 : (splice (splice cur (i * 2) (cells2 (l.drop (i + 1)))) ((l.length - 1) * 2) [z0, z1]).take ((l.length - 1) * 2) = (splice cur (i * 2) (cells2 (l.drop (i + 1)))).take ((l.length - 1) * 2) := by
      conv => lhs; unfold splice
      have h2 : ((splice cur (i * 2) (cells2 (l.drop (i + 1)))).take ((l.length - 1) * 2)).length = (l.length - 1) * 2 := by rw [List.length_take, h1]; omega
      rw [show List.take ((l.length - 1) * 2) (splice cur (i * 2) (cells2 (l.drop (i + 1)))) = (splice cur (i * 2) (cells2 (l.drop (i + 1)))).take ((l.length - 1) * 2) from rfl]
      rw [List.take_append_of_le_length (by unfold splice at h2; omega), List.take_of_length_le (by unfold splice at h2; omega)]
      rfl
    rw [e1]
    unfold splice
    rw [hti, ← List.append_assoc, List.take_append_of_le_length (by rw [List.length_append, hp, hl]; omega), List.take_of_length_le (by rw [List.length_append, hp, hl]; omega), cells2_append]
  · rw [length_splice _ _ _ (by rw [h1]; simp; omega), h1]

set_option maxRecDepth 100000 in
set_option maxHeartbeats 1000000 in
theorem slDelete_I (base : Nat) (l : List (Value × Value)) (i b cap : Nat) (w : World) (ho : w.ownsRow base 71 2 (.slice (some ⟨b, 0, none⟩) l.length cap) l.length (cells2 l)) (hl1 : ∀ u ∈ cells2 l, u.oneCell' = true) (hi : i < l.length) (J : Int) (hJ : J = (i : Int) + 1) :
    Calls Try.prog 35 #[.slice (some ⟨b, 0, none⟩) l.length cap, .int .i64 i, .int .i64 J] w fun e w' => e = .returned (.slice (some ⟨b, 0, none⟩) (l.length - 1) cap) ∧ w'.ownsRow base 71 2 (.slice (some ⟨b, 0, none⟩) (l.length - 1) cap) (l.length - 1) (cells2 (l.take i ++ l.drop (i + 1))) ∧ w.grownBy w' (some b) := by
  obtain ⟨i0, hi0, hz0, hz1, hz2⟩ := info_parts infoI
  obtain ⟨cur, hbase, hg, hc, hm, hcs, htk⟩ : ∃ cur : List Value, base ≤ b ∧ w.heap[b]? = some (.cells cur.toArray 71 (0, 0)) ∧ l.length ≤ cap ∧ cap ≤ maxLen ∧ cur.length = cap * 2 ∧ cur.take (l.length * 2) = cells2 l := by
    rcases ho.2 with ⟨e, _⟩ | ⟨g, cap', cur, e, hb, hg, hc, hm, hs, ht⟩
    · cases e
    · cases e
      exact ⟨cur.toList, hb, by simpa using hg, hc, hm, by simpa using hs, ht⟩
  have hcm : cap ≤ 9223372036854775807 := by unfold maxLen at hm; omega
  have hsrc : ∀ (u : World) (ad : Addr), u.heap[b]? = some (.cells cur.toArray 71 (0, 0)) → (i + 1 < l.length → ad = ⟨b, (i + 1) * 2, none⟩) → ∀ j v, (cells2 (l.drop (i + 1)))[j]? = some v → u.cell? (ad.add j) = some v := fun u ad hu had j v hj => by
    have hlt : i + 1 < l.length := by
      have := (List.getElem?_eq_some_iff.1 hj).1
      rw [cells2_len, List.length_drop] at this
      omega
    rw [had hlt, add_off, cell_of_row u b _ _ _ (0, 0) hu]
    rw [cells2_drop, List.getElem?_drop, ← htk] at hj
    rw [List.getElem?_take] at hj
    split at hj
    · simpa using hj
    · cases hj
  have HP : Hid (∀ u ∈ cells2 (l.drop (i + 1)), u.oneCell' = true) := hide (fun u hu => hl1 u (by rw [cells2_drop] at hu; exact List.mem_of_mem_drop hu))
  have HG := hide hg
  have HS := hide hsrc
  obtain ⟨n, hn⟩ : ∃ n, l.length = n := ⟨_, rfl⟩
  have HC := hide (And.intro hbase (And.intro hcs (And.intro htk hm)))
  have HN := hide hn
  have HL : Hid ((cells2 (l.drop (i + 1))).length = (n - (i + 1)) * 2) := hide (by rw [cells2_len, List.length_drop, hn])
  have HF : Hid (i * 2 + (cells2 (l.drop (i + 1))).length ≤ cur.length) := hide (by rw [unhide HL, hcs]; omega)
  obtain ⟨ds, hds⟩ : ∃ ds, cells2 (l.drop (i + 1)) = ds := ⟨_, rfl⟩
  rw [hds] at HL HF HS HP
  have HDS := hide hds
  rw [hn] at hi hc ⊢
  rw [hn] at HS
  have i1 : (0 : Int) ≤ (i : Int) := by omega
  have i2 : (i : Int) ≤ (i : Int) + 1 := by omega
  have i3 : (i : Int) + 1 ≤ (n : Int) := by omega
  have i4 : (n : Int) ≤ (cap : Int) := by omega
  have i5 : ¬ ((i : Int) = (i : Int) + 1) := by omega
  have i6 : ((i : Int) + 1).toNat = i + 1 := by omega
  have i7 : (0 : Int) ≤ (i : Int) + 1 := by omega
  have i8 : ¬ (n = i) := by omega
  have i9 : ¬ (cap = i) := by omega
  have i10 : (i : Int) ≤ (cap : Int) := by omega
  have i11 : (i : Int) + 1 ≤ (cap : Int) := by omega
  subst hJ
  clear ho hl1 hg hsrc hbase hcs hm htk hn hds
  have fin : Hid (∀ w1 w2 : World, Laid w.drew w1 b (splice cur (i * 2) ds) 71 → Laid w1 w2 b (splice (splice cur (i * 2) ds) ((n - 1) * 2) [.int .i64 0, .int .i64 0]) 71 →
      w2.ownsRow base 71 2 (.slice (some ⟨b, 0, none⟩) (n - 1) cap) (n - 1) (cells2 (l.take i ++ l.drop (i + 1))) ∧ w.grownBy w2 (some b)) := hide (fun w1 w2 H1 H2 => by
    obtain ⟨hbase, hcs, htk, hm⟩ := unhide HC
    have hn := unhide HN
    obtain ⟨hs1, hs2⟩ := splice_del cur l (.int .i64 0) (.int .i64 0) i (by omega) (by omega) htk
    rw [unhide HDS, hn] at hs1 hs2
    refine ⟨⟨by rw [cells2_len, List.length_append, List.length_take, List.length_drop]; omega, .inr ⟨b, cap, _, rfl, hbase, H2.here, by omega, hm, by simp [hs2, hcs], by simpa using hs1⟩⟩, ⟨?_, ?_, ?_, ?_, fun k hk hne' => ?_⟩⟩
    · exact H2.os.trans H1.os
    · exact H2.tape.trans H1.tape
    · exact H2.output.trans H1.output
    · rw [H2.size, H1.size]
      exact Nat.le_refl _
    · have hk2 : k ≠ b := fun e => hne' (by rw [e])
      rw [H2.other k hk2, H1.other k hk2]
      rfl)
  by_cases hcp : cap = i + 1
  · subst hcp
    go_enter Try.func35, Try.ntmps35
    go_wp2_with fail
    go_region_held3 (fun _ => True)
      (exact trivial)
      ((refine step_room2 (by rfl) (.tmp 22) (.tmp 25) 68 71 i0 (by rfl) Try.underlying68 hi0 hz1 b i (i + 1) ⟨b, 0, none⟩ 0 0 (by rfl) (by rfl) cur ds 71 (unhide HG) (by have := unhide HL; omega) (unhide HS _ _ (unhide HG) (by omega)) (unhide HP) (by omega) (unhide HF) ?_; rw [show i + 0 = n - 1 by omega]; intro w1 H1))
    have hs1 : (splice cur (i * 2) ds).length = cur.length := length_splice _ _ _ (unhide HF)
    have HF1 : Hid ((n - 1) * 2 + 2 ≤ (splice cur (i * 2) ds).length) := hide (by rw [hs1]; have := (unhide HC).2.1; omega)
    clear hs1
    have j1 : ((n - 1 : Nat) : Int) ≤ (n : Int) := by omega
    have j2 : ¬ (i + 1 = n - 1) := by omega
    have j3 : (0 : Int) ≤ ((n - 1 : Nat) : Int) := by omega
    have j4 : n - (n - 1) = 1 := by omega
    have tok1 : True := trivial
    go_wp2_with (first | (have _t := tok1; refine wpl_clear1 rfl (.tmp 31) 68 71 _ rfl Try.underlying68 Try.zeroValue71 (.int .i64 0) (.int .i64 0) rfl rfl rfl b ((n - 1) * 2) (i + 1 - (n - 1)) (by simp [Act.eval, Act.put, j4]) (splice cur (i * 2) ds) 71 (unhide H1).here (unhide HF1) ?_; intro w2 H2; clear tok1))
    go_ret
    exact ⟨rfl, unhide fin w1 w2 (unhide H1) (unhide H2)⟩
  · go_enter Try.func35, Try.ntmps35
    go_wp2_with fail
    go_region_held3 (fun _ => True)
      (exact trivial)
      ((refine step_room2 (by rfl) (.tmp 22) (.tmp 25) 68 71 i0 (by rfl) Try.underlying68 hi0 hz1 b i cap ⟨b, (i + 1) * 2, none⟩ (n - (i + 1)) (cap - (i + 1)) (by rfl) (by rfl) cur ds 71 (unhide HG) (by have := unhide HL; omega) (unhide HS _ _ (unhide HG) (by intro _; rfl)) (unhide HP) (by omega) (unhide HF) ?_; rw [show i + (n - (i + 1)) = n - 1 by omega]; intro w1 H1))
    have hs1 : (splice cur (i * 2) ds).length = cur.length := length_splice _ _ _ (unhide HF)
    have HF1 : Hid ((n - 1) * 2 + 2 ≤ (splice cur (i * 2) ds).length) := hide (by rw [hs1]; have := (unhide HC).2.1; omega)
    clear hs1
    have j1 : ((n - 1 : Nat) : Int) ≤ (n : Int) := by omega
    have j2 : ¬ (cap = n - 1) := by omega
    have j3 : (0 : Int) ≤ ((n - 1 : Nat) : Int) := by omega
    have j4 : n - (n - 1) = 1 := by omega
    have tok1 : True := trivial
    go_wp2_with (first | (have _t := tok1; refine wpl_clear1 rfl (.tmp 31) 68 71 _ rfl Try.underlying68 Try.zeroValue71 (.int .i64 0) (.int .i64 0) rfl rfl rfl b ((n - 1) * 2) (cap - (n - 1)) (by simp [Act.eval, Act.put, j4]) (splice cur (i * 2) ds) 71 (unhide H1).here (unhide HF1) ?_; intro w2 H2; clear tok1))
    go_ret
    exact ⟨rfl, unhide fin w1 w2 (unhide H1) (unhide H2)⟩

set_option maxRecDepth 100000 in
set_option maxHeartbeats 800000 in
theorem delete_I {base g : Nat} {v : Value} {l : Prs} {w : World} (h : TabI w base g v l) (hg : some g ≠ v.ownBlock) (hr : RisesI l) (k : Int) :
    Calls Try.prog 24 #[.pointer (some ⟨g, 0, none⟩), .int .i64 k] w fun e w' => ∃ v', e = .returned (.bool (has l k)) ∧ TabI w' base g v' (delL l k) ∧ some g ≠ v'.ownBlock ∧ (∀ b, v'.ownBlock = some b → v.ownBlock = some b ∨ w.heap.size ≤ b) ∧ Turns w w' g v := by
  have CF := hide (find_I h hr k)
  have HH := hide h
  have HR := hide hr
  clear hr
  go_enter Try.func24, Try.ntmps24
  go_wp2_with fail
  refine (unhide CF).mono ?_
  rintro e w1 ⟨L, rfl, hL, hlow, q, rfl⟩
  have HL : Hid (L = low l k) := hide (low_eq (unhide HR) hL hlow)
  have c0 : (w.drewN q).cell? ⟨g, 0, none⟩ = some v := h.cell
  clear CF hlow h
  by_cases hk : (l.map Prod.fst)[L]? = some k
  · rw [decide_eq_true hk]
    have hhas : has l k = true := by
      unfold has
      rw [← unhide HL]
      exact decide_eq_true hk
    have hlt : L < l.length := by
      have := (List.getElem?_eq_some_iff.1 hk).1
      simpa using this
    obtain ⟨b, cap, hv⟩ : ∃ b cap, v = .slice (some ⟨b, 0, none⟩) l.length cap := by
      rcases (unhide HH).row.2 with ⟨rfl, hn⟩ | ⟨b, cap, cur, e, _⟩
      · rw [valsI_len] at hn; omega
      · rw [valsI_len] at e; exact ⟨b, cap, e⟩
    subst hv
    have ho : (w.drewN q).ownsRow base 71 2 (.slice (some ⟨b, 0, none⟩) (valsI l).length cap) (valsI l).length (cells2 (valsI l)) := by
      have := (unhide HH).row
      rw [valsI_len] at this ⊢
      exact this
    have CD := slDelete_I base (valsI l) L b cap (w.drewN q) ho (onesI l) (by rw [valsI_len]; exact hlt) ((L : Int) + 1) rfl
    rw [valsI_len] at CD
    have hmx : L + 1 ≤ 9223372036854775807 := by
      obtain ⟨ao, cap', _, _, hmax, _⟩ := own_shape (unhide HH).row
      rcases (unhide HH).row.2 with ⟨e, _⟩ | ⟨b', cap'', cur, e, _, _, hc, hm, _⟩
      · cases e
      · rw [valsI_len] at hc
        unfold maxLen at hm
        omega
    have HD := hide CD
    have HK := hide (And.intro hhas hlt)
    obtain ⟨n, hn⟩ : ∃ n, l.length = n := ⟨_, rfl⟩
    rw [hn] at c0 HD
    have HN := hide hn
    have hg' : g ≠ b := by rw [hn] at hg; exact fun e => hg (by rw [e]; rfl)
    clear CD ho hk hhas hn hg
    go_wp2_with fail
    refine (unhide HD).mono ?_
    rintro e w2 ⟨rfl, o2, g2⟩
    have gl : g < w.heap.size := (Array.getElem?_eq_some_iff.1 (unhide HH).here).1
    have e2 : w2.heap[g]? = some (.cells #[.slice (some ⟨b, 0, none⟩) n cap] 73 (0, 0)) := by
      have h1 := (unhide HH).here
      rw [unhide HN] at h1
      exact (g2.block g gl (fun e => hg' (Option.some.inj e))).trans h1
    have c2 : w2.cell? ⟨g, 0, none⟩ = some (.slice (some ⟨b, 0, none⟩) n cap) := by rw [cell_of_row w2 g 0 _ _ (0, 0) e2]; rfl
    have f2 := frozen_of e2
    have HO := hide (And.intro o2 (And.intro g2 e2))
    clear HD o2 g2 e2
    go_wp2_with fail
    go_ret
    obtain ⟨o2, g2, e2⟩ := unhide HO
    have hdel : delL l k = l.take L ++ l.drop (L + 1) := by
      unfold delL
      rw [if_pos (unhide HK).1, ← unhide HL]
    have hvals : valsI (l.take L ++ l.drop (L + 1)) = (valsI l).take L ++ (valsI l).drop (L + 1) := by simp [valsI, List.map_take, List.map_drop]
    have hlen : (l.take L ++ l.drop (L + 1)).length = n - 1 := by
      rw [List.length_append, List.length_take, List.length_drop]
      have := unhide HN
      omega
    rw [(unhide HK).1, hdel]
    refine ⟨.slice (some ⟨b, 0, none⟩) (n - 1) cap, rfl, ⟨?_, ?_⟩, (fun e => hg' (by simpa [Value.ownBlock] using e)), (fun c hc => .inl hc), ⟨g2.os, g2.tape, g2.output, ?_, fun j hj hj1 hj2 => ?_⟩⟩
    · have := heap_setCell_same w2 g 0 _ _ (.slice (some ⟨b, 0, none⟩) (n - 1) cap) e2
      exact this
    · rw [valsI_len, hlen, hvals]
      refine ⟨o2.1, ?_⟩
      rcases o2.2 with h | ⟨b', cap', cur, hv, hb', hg'', rest⟩
      · exact .inl h
      · refine .inr ⟨b', cap', cur, hv, hb', ?_, rest⟩
        cases hv
        rw [heap_setCell_other _ _ _ _ (Ne.symm hg')]
        exact hg''
    · have h1 := g2.size
      have h2 : (w.drewN q).heap.size = w.heap.size := rfl
      simp
      omega
    · rw [heap_setCell_other _ _ _ _ hj1, g2.block j hj (fun e => hj2 (by rw [e]; rfl))]
      rfl
  · rw [decide_eq_false hk]
    have hhas : has l k = false := by
      unfold has
      rw [← unhide HL]
      exact decide_eq_false hk
    have hdel : delL l k = l := by
      unfold delL
      rw [if_neg (by rw [hhas]; simp)]
    have HX := hide (And.intro hhas hdel)
    clear hhas hdel hk
    go_wp2_with fail
    go_ret
    rw [(unhide HX).1, (unhide HX).2]
    exact ⟨v, rfl, ⟨(unhide HH).here, (unhide HH).row⟩, hg, (fun c hc => .inl hc), ⟨rfl, rfl, rfl, Nat.le_refl _, fun j _ _ _ => rfl⟩⟩
end Go.Proofs.Ytflopmhjgamcfaa
