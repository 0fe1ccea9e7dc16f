/-
  The walks of the statements' wipe and over: a value's lists are written over, and behind them; conditions: lists of at most a million, the owner's own.
-/
import Derived.Test.YtocklblkopmjgaaXMid
import Derived.Test.YtocklblkopmjgaaWMany
import Derived.Deep.AppendLies
import Derived.OwnWalk
namespace Go.Proofs.Ytocklblkopmjgaa
open Go.RowKit
set_option linter.unusedVariables false
set_option linter.unusedSimpArgs false

theorem infoVx : (Try.prog.info? 27).map (fun i => (i.zero, i.size, i.bytes)) = some (some (.agg #[.int .i64 0, .int .i64 0, .string ⟨#[]⟩, .slice none 0 0, .slice none 0 0]), 5, 80) := by kernel_rfl
theorem infoSx : (Try.prog.info? 9).map (fun i => (i.zero, i.size, i.bytes)) = some (some (.string ⟨#[]⟩), 1, 16) := by kernel_rfl

theorem Ty.parts {w : World} {Q : Nat → Prop} {r : Nat} {k n : Int} {s : ByteArray} {al ak : Option Addr} {ll cl m ck : Nat} (h : Ty w Q r (.agg #[.int .i64 k, .int .i64 n, .string s, .slice al ll cl, .slice ak m ck])) : TyL w Q (Ty w Q (r - 1)) al ll cl ∧ TyK w Q ak m ck ∧ (r = 0 → ll = 0) := by
  cases r with
  | zero =>
    obtain ⟨_, _, _, e⟩ := h
    simp only [Value.agg.injEq, Array.mk.injEq, List.cons.injEq, Value.slice.injEq, and_true] at e
    obtain ⟨_, _, _, ⟨rfl, rfl, rfl⟩, rfl, rfl, rfl⟩ := e
    exact ⟨Or.inl ⟨rfl, rfl, rfl⟩, Or.inl ⟨rfl, rfl, rfl⟩, fun _ => rfl⟩
  | succ r =>
    obtain ⟨_, _, _, _, _, _, _, _, _, e, hl, hk⟩ := h
    simp only [Value.agg.injEq, Array.mk.injEq, List.cons.injEq, Value.slice.injEq, and_true] at e
    obtain ⟨_, _, _, ⟨rfl, rfl, rfl⟩, rfl, rfl, rfl⟩ := e
    exact ⟨hl, hk, fun h => by omega⟩

theorem Ty.shape {w : World} {Q : Nat → Prop} {r : Nat} {x : Value} (h : Ty w Q r x) : ∃ k n s al ll cl ak m ck, x = .agg #[.int .i64 k, .int .i64 n, .string s, .slice al ll cl, .slice ak m ck] := by
  cases r with
  | zero =>
    obtain ⟨k, n, s, e⟩ := h
    exact ⟨k, n, s, none, 0, 0, none, 0, 0, e⟩
  | succ r =>
    obtain ⟨k, n, s, al, ll, cl, ak, m, ck, e, _⟩ := h
    exact ⟨k, n, s, al, ll, cl, ak, m, ck, e⟩

/-- one more behind a row -/
theorem run_row (w : World) (t ty e : TypeId) (i : TypeInfo) (z : Value) (size bytes : Nat) (ht : Try.prog.underlying t = some (.slice e)) (hi : Try.prog.info? e = some i) (hz : i.zero = some z) (hsize : i.size = size) (hby : i.bytes = bytes) (hzs : z.cells.size = size) (hsz : 0 < size) (hbp : 0 < bytes)
    (Q : Nat → Prop) (lo n : Nat) (v : Value) (hrow : Row w Q lo e size v n) (ad : Addr) (news : List Value) (hl : news.length = size) (hnews : ∀ j u, news[j]? = some u → w.cell? (ad.add j) = some u) (h1 : ∀ u ∈ news, u.oneCell' = true) (hb8 : (n + 1) * bytes ≤ 140737488355328) (hlo : lo ≤ w.heap.size) :
    ∃ v' w', (Builtin.append_ #[t, t] ty #[v, .slice (some ad) 1 1]).run Try.prog w = .ok v' w' ∧ Row w' Q lo e size v' (n + 1) ∧ ((∃ b cs, w.heap[b]? = some (.cells cs e (0, 0)) ∧ (Q b ∨ lo ≤ b) ∧ n * size + size ≤ cs.size ∧ w' = w.setRow b (cs.toList.take (n * size) ++ news ++ cs.toList.drop (n * size + size)).toArray) ∨ Below w.heap.size w w') := by
  have hn1 : n + 1 ≤ 140737488355328 := Nat.le_trans (Nat.le_mul_of_pos_right _ hbp) hb8
  rcases hrow with ⟨rfl, rfl⟩ | ⟨b, cap, cs, rfl, hq, hg, hs, hnc, hcm⟩
  · obtain ⟨v', w', hr, own, gr, _⟩ := run_append_own (P := Try.prog) w w.heap.size t ty e i z size bytes ht hi hz hsize hby hzs hsz (.slice none 0 0) 0 [] (World.ownsRow_nil _ _ _ _) ad 1 1 news (by omega) hnews h1 (by unfold maxLen; omega) hb8 (Nat.le_refl _)
    refine ⟨v', w', hr, ?_, Or.inr ⟨gr.os, gr.tape, gr.output, gr.size, fun k hk => gr.block k hk (by simp [Value.ownBlock])⟩⟩
    rcases own.2 with ⟨_, e0⟩ | ⟨g, cap, cur, e1, hbg, hg, hnc, hcm, hsz', _⟩
    · omega
    · exact Or.inr ⟨g, cap, cur, e1, Or.inr (by omega), hg, hsz', by omega, hcm⟩
  · by_cases hlt : n + 1 ≤ cap
    · have hfit : n * size + size ≤ cs.size := by
        rw [hs]
        have : (n + 1) * size ≤ cap * size := Nat.mul_le_mul_right _ hlt
        rw [Nat.add_mul, Nat.one_mul] at this
        exact this
      subst hsize
      have hr := run_append_room (P := Try.prog) w t ty e i ht hi b n cap cs hg ad 1 1 news (by omega) hnews h1 hlt (by omega)
      rw [hl] at hr
      refine ⟨_, _, hr, Or.inr ⟨b, cap, _, rfl, hq, setRow_heap w b cs _ e _ hg, ?_, hlt, hcm⟩, Or.inl ⟨b, cs, hg, hq, hfit, rfl⟩⟩
      have hcl : cs.toList.length = cs.size := Array.length_toList
      simp only [List.size_toArray, List.length_append, List.length_take, List.length_drop, hl]
      omega
    · have hnn : n = cap := by omega
      subst hnn
      obtain ⟨v', w', hr, own, gr⟩ := run_append_arg_grows (P := Try.prog) w t ty e i z size bytes ht hi hz hsize hby hzs hsz ⟨b, 0, none⟩ n n cs.toList (by rw [Array.length_toList, hs]) (fun j u hu => by
        have hp : (⟨b, 0, none⟩ : Addr).add j = ⟨b, j, none⟩ := by unfold Addr.add; split <;> simp_all
        rw [hp, cell_of_row w b j cs e (0, 0) hg]
        simpa using hu) ad 1 1 news (by omega) hnews (by omega) (by unfold maxLen; omega) hb8
      refine ⟨v', w', hr, ?_, Or.inr ⟨gr.os, gr.tape, gr.output, gr.size, fun k hk => gr.block k hk (by simp)⟩⟩
      rcases own.2 with ⟨_, e0⟩ | ⟨g, cap, cur, e1, hbg, hg', hnc, hcm', hsz', _⟩
      · omega
      · exact Or.inr ⟨g, cap, cur, e1, Or.inr (by omega), hg', hsz', hnc, hcm'⟩

theorem Wiped.from_row {Q : Nat → Prop} {W w w' : World} {b : Nat} (hW : Wiped Q W w) (hb : Q b ∨ W.heap.size ≤ b) (ho : ∀ q, q ≠ b → w'.heap[q]? = w.heap[q]?) (hs : w'.heap.size = w.heap.size) (e1 : w'.os = w.os) (e2 : w'.tape = w.tape) (e3 : w'.output = w.output) (hc : Q b → VCh w w' b ∨ KCh w w' b) : Wiped Q W w' := by
  rcases hb with hb | hb
  · refine hW.trans ⟨e1, e2, e3, by omega, fun q hq => ?_⟩
    by_cases e : q = b
    · subst e; exact Or.inr ⟨hb, hc hb⟩
    · exact Or.inl (ho q e)
  · refine ⟨e1.trans hW.os, e2.trans hW.tape, e3.trans hW.output, by have := hW.size; omega, fun q hq => ?_⟩
    have hne : q ≠ b := by omega
    rcases hW.block q hq with e | ⟨hQ, ⟨cs, cs', h1, h2, h3⟩ | ⟨cs, cs', h1, h2, h3⟩⟩
    · exact Or.inl ((ho q hne).trans e)
    · exact Or.inr ⟨hQ, Or.inl ⟨cs, cs', h1, (ho q hne).trans h2, h3⟩⟩
    · exact Or.inr ⟨hQ, Or.inr ⟨cs, cs', h1, (ho q hne).trans h2, h3⟩⟩

theorem Wiped.on {Q : Nat → Prop} {W w w' : World} (hW : Wiped Q W w) (hb : Below w.heap.size w w') : Wiped Q W w' := hW.trans (Wiped.of_below hb)

theorem splice_at (cs : Array Value) (n : Nat) (s : ByteArray) (h : n * 5 + 5 ≤ cs.size) : (cs.toList.take (n * 5) ++ lf s ++ cs.toList.drop (n * 5 + 5)).toArray.size = cs.size ∧ ∀ i, (∀ j, j < 5 → (cs.toList.take (n * 5) ++ lf s ++ cs.toList.drop (n * 5 + 5)).toArray[i * 5 + j]? = cs[i * 5 + j]?) ∨ ∃ s', Grp (cs.toList.take (n * 5) ++ lf s ++ cs.toList.drop (n * 5 + 5)).toArray i (.int .i64 3) (.int .i64 0) (.string s') (.slice none 0 0) (.slice none 0 0) := by
  have hcl : cs.toList.length = cs.size := Array.length_toList
  have hl5 : (lf s).length = 5 := rfl
  have ht : (cs.toList.take (n * 5)).length = n * 5 := by rw [List.length_take]; omega
  refine ⟨by simp only [List.size_toArray, List.length_append, ht, hl5, List.length_drop]; omega, fun i => ?_⟩
  rcases Nat.lt_trichotomy i n with hi | hi | hi
  · refine Or.inl (fun j hj => ?_)
    rw [List.getElem?_toArray, List.append_assoc, List.getElem?_append_left (by omega), List.getElem?_take_of_lt (by omega)]
    simp
  · subst hi
    refine Or.inr ⟨s, ?_, ?_, ?_, ?_, ?_⟩
    · rw [List.getElem?_toArray, List.append_assoc, List.getElem?_append_right (by omega), ht, Nat.sub_self]; rfl
    · rw [List.getElem?_toArray, List.append_assoc, List.getElem?_append_right (by omega), ht, Nat.add_sub_cancel_left]; rfl
    · rw [List.getElem?_toArray, List.append_assoc, List.getElem?_append_right (by omega), ht, Nat.add_sub_cancel_left]; rfl
    · rw [List.getElem?_toArray, List.append_assoc, List.getElem?_append_right (by omega), ht, Nat.add_sub_cancel_left]; rfl
    · rw [List.getElem?_toArray, List.append_assoc, List.getElem?_append_right (by omega), ht, Nat.add_sub_cancel_left]; rfl
  · refine Or.inl (fun j hj => ?_)
    rw [List.getElem?_toArray, List.getElem?_append_right (by rw [List.length_append, ht, hl5]; omega), List.length_append, ht, hl5, List.getElem?_drop, show n * 5 + 5 + (i * 5 + j - (n * 5 + 5)) = i * 5 + j by omega]
    simp

/-- a leaf behind a row of values -/
theorem wpl_leaf {w : World} {ops : Array Oper} {rest : List Oper} {o : Oper} {a : Act} {Q' : Exit → Act → World → Prop} (hgd : o.guard = none) (sl x : Operand)
    (ho : o.op = .call { callee := .builtin .append, args := #[sl, x], argTypes := #[24, 24] })
    (Q : Nat → Prop) (lo n : Nat) (v : Value) (hs : a.eval sl = v) (hrow : Row w Q lo 27 5 v n) (ad : Addr) (s : ByteArray) (hx : a.eval x = .slice (some ad) 1 1) (hnews : ∀ j u, (lf s)[j]? = some u → w.cell? (ad.add j) = some u) (hn : (n + 1) * 80 ≤ 140737488355328) (hlo : lo ≤ w.heap.size)
    (h : ∀ v' w', Hid (Row w' Q lo 27 5 v' (n + 1) ∧ (∀ W : World, W.heap.size = lo → Wiped Q W w → Wiped Q W w') ∧ (∀ kv m, Row w Q lo 9 1 kv m → Row w' Q lo 9 1 kv m) ∧ lo ≤ w'.heap.size) → wpList Try.prog ops Q' rest (a.put o.dst v') w') :
    wpList Try.prog ops Q' (o :: rest) a w := by
  obtain ⟨iv, hiv, hz0, hz1, hz2⟩ := info_parts infoVx
  refine wpList_plain hgd fun K hK => ?_
  obtain ⟨v', w', hrun, hr, hw⟩ := run_row w 24 o.type 27 iv _ 5 80 Try.underlying24 hiv hz0 hz1 hz2 rfl (by omega) (by omega) Q lo n v hrow ad (lf s) rfl hnews (by intro u hu; simp [lf] at hu; rcases hu with rfl | rfl | rfl | rfl | rfl <;> rfl) hn hlo
  unfold Oper.wp
  simp only [execOp, ho, resolve, invoke, builtin, Sem.run_bind, Sem.run_pure, Result.andThen_ok, List.map_toArray, List.map_cons, List.map_nil, hs, hx, hrun]
  refine hK _ _ (h v' w' (hide ⟨hr, ?_⟩))
  rcases hw with ⟨b, cs, hg, hq, hfit, rfl⟩ | hb
  · obtain ⟨hsz, hgr⟩ := splice_at cs n s hfit
    have hg' := setRow_heap w b cs (cs.toList.take (n * 5) ++ lf s ++ cs.toList.drop (n * 5 + 5)).toArray 27 (0, 0) hg
    have hoth : ∀ q, q ≠ b → (w.setRow b (cs.toList.take (n * 5) ++ lf s ++ cs.toList.drop (n * 5 + 5)).toArray).heap[q]? = w.heap[q]? := fun q hqb => setRow_other w b q _ hqb
    have hss : (w.setRow b (cs.toList.take (n * 5) ++ lf s ++ cs.toList.drop (n * 5 + 5)).toArray).heap.size = w.heap.size := by simp [World.setRow]
    refine ⟨fun W hW hwp => ?_, fun kv m hk => ?_, by omega⟩
    · exact hwp.from_row (by rw [hW]; exact hq) hoth hss rfl rfl rfl (fun _ => Or.inl ⟨cs, _, hg, hg', hsz, hgr⟩)
    · rcases hk with hk | ⟨b', cap', cs', k1, k2, k3, k4⟩
      · exact Or.inl hk
      · have hne : b' ≠ b := fun e => by subst e; rw [hg] at k3; cases k3
        exact Or.inr ⟨b', cap', cs', k1, k2, (hoth b' hne).trans k3, k4⟩
  · exact ⟨fun W hW hwp => hwp.on hb, fun kv m hk => hk.later hb, Nat.le_trans hlo hb.size⟩

/-- a mark behind a row of keys -/
theorem wpl_mark {w : World} {ops : Array Oper} {rest : List Oper} {o : Oper} {a : Act} {Q' : Exit → Act → World → Prop} (hgd : o.guard = none) (sl x : Operand)
    (ho : o.op = .call { callee := .builtin .append, args := #[sl, x], argTypes := #[25, 25] })
    (Q : Nat → Prop) (lo n : Nat) (v : Value) (hs : a.eval sl = v) (hrow : Row w Q lo 9 1 v n) (ad : Addr) (s : ByteArray) (hx : a.eval x = .slice (some ad) 1 1) (hnews : ∀ j u, [Value.string s][j]? = some u → w.cell? (ad.add j) = some u) (hn : (n + 1) * 16 ≤ 140737488355328) (hlo : lo ≤ w.heap.size)
    (h : ∀ v' w', Hid (Row w' Q lo 9 1 v' (n + 1) ∧ (∀ W : World, W.heap.size = lo → Wiped Q W w → Wiped Q W w') ∧ (∀ kv m, Row w Q lo 27 5 kv m → Row w' Q lo 27 5 kv m) ∧ lo ≤ w'.heap.size) → wpList Try.prog ops Q' rest (a.put o.dst v') w') :
    wpList Try.prog ops Q' (o :: rest) a w := by
  obtain ⟨iv, hiv, hz0, hz1, hz2⟩ := info_parts infoSx
  refine wpList_plain hgd fun K hK => ?_
  obtain ⟨v', w', hrun, hr, hw⟩ := run_row w 25 o.type 9 iv _ 1 16 Try.underlying25 hiv hz0 hz1 hz2 rfl (by omega) (by omega) Q lo n v hrow ad [.string s] rfl hnews (by intro u hu; simp at hu; subst hu; rfl) hn hlo
  unfold Oper.wp
  simp only [execOp, ho, resolve, invoke, builtin, Sem.run_bind, Sem.run_pure, Result.andThen_ok, List.map_toArray, List.map_cons, List.map_nil, hs, hx, hrun]
  refine hK _ _ (h v' w' (hide ⟨hr, ?_⟩))
  rcases hw with ⟨b, cs, hg, hq, hfit, rfl⟩ | hb
  · have hcl : cs.toList.length = cs.size := Array.length_toList
    have hsz : (cs.toList.take (n * 1) ++ [Value.string s] ++ cs.toList.drop (n * 1 + 1)).toArray.size = cs.size := by
      simp only [List.size_toArray, List.length_append, List.length_take, List.length_drop, List.length_singleton]
      omega
    have hg' := setRow_heap w b cs (cs.toList.take (n * 1) ++ [Value.string s] ++ cs.toList.drop (n * 1 + 1)).toArray 9 (0, 0) hg
    have hoth : ∀ q, q ≠ b → (w.setRow b (cs.toList.take (n * 1) ++ [Value.string s] ++ cs.toList.drop (n * 1 + 1)).toArray).heap[q]? = w.heap[q]? := fun q hqb => setRow_other w b q _ hqb
    have hss : (w.setRow b (cs.toList.take (n * 1) ++ [Value.string s] ++ cs.toList.drop (n * 1 + 1)).toArray).heap.size = w.heap.size := by simp [World.setRow]
    refine ⟨fun W hW hwp => ?_, fun kv m hk => ?_, by omega⟩
    · exact hwp.from_row (by rw [hW]; exact hq) hoth hss rfl rfl rfl (fun _ => Or.inr ⟨cs, _, hg, hg', hsz⟩)
    · rcases hk with hk | ⟨b', cap', cs', k1, k2, k3, k4⟩
      · exact Or.inl hk
      · have hne : b' ≠ b := fun e => by subst e; rw [hg] at k3; cases k3
        exact Or.inr ⟨b', cap', cs', k1, k2, (hoth b' hne).trans k3, k4⟩
  · exact ⟨fun W hW hwp => hwp.on hb, fun kv m hk => hk.later hb, Nat.le_trans hlo hb.size⟩
end Go.Proofs.Ytocklblkopmjgaa
