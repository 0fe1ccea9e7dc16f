/-
  The walks of the statements' wipe and over: a value's lists are written over, and behind them; conditions: lists of at most a million, the owner's own.
  The walk of the statements' wipe and over; conditions: the lists are the owner's own, of at most a million.
-/
import Derived.Test.YtdaooapfokhfcaaGreatA05
import Derived.Test.YtdaooapfokhfcaaGreatA04
import Derived.Deep.AppendLies
import Derived.OwnWalk
namespace Go.Proofs.YtdaooapfokhfcaaGreat
open Go.RowKit
set_option linter.unusedVariables false
set_option linter.unusedSimpArgs false

theorem infoVx : (Tryz.prog.info? 32).map (fun i => (i.zero, i.size, i.bytes)) = some (some (.agg #[.int .i64 0, .int .i64 0, .string ⟨#[]⟩, .slice none 0 0, .slice none 0 0]), 5, 80) := by kernel_rfl
theorem infoSx : (Tryz.prog.info? 9).map (fun i => (i.zero, i.size, i.bytes)) = some (some (.string ⟨#[]⟩), 1, 16) := by kernel_rfl

theorem Ty.parts {w : World} {Q : Nat → Prop} {r : Nat} {k n : Int} {s : ByteArray} {al ak : Option Addr} {ll cl m ck : Nat} (h : Ty w Q r (.agg #[.int .i64 k, .int .i64 n, .string s, .slice al ll cl, .slice ak m ck])) : TyL w Q (Ty w Q (r - 1)) al ll cl ∧ TyK w Q ak m ck ∧ (r = 0 → ll = 0) := by
  cases r with
  | zero =>
    obtain ⟨_, _, _, e⟩ := h
    simp only [Value.agg.injEq, Array.mk.injEq, List.cons.injEq, Value.slice.injEq, and_true] at e
    obtain ⟨_, _, _, ⟨rfl, rfl, rfl⟩, rfl, rfl, rfl⟩ := e
    exact ⟨Or.inl ⟨rfl, rfl, rfl⟩, Or.inl ⟨rfl, rfl, rfl⟩, fun _ => rfl⟩
  | succ r =>
    obtain ⟨_, _, _, _, _, _, _, _, _, e, hl, hk⟩ := h
    simp only [Value.agg.injEq, Array.mk.injEq, List.cons.injEq, Value.slice.injEq, and_true] at e
    obtain ⟨_, _, _, ⟨rfl, rfl, rfl⟩, rfl, rfl, rfl⟩ := e
    exact ⟨hl, hk, fun h => by omega⟩

theorem Ty.shape {w : World} {Q : Nat → Prop} {r : Nat} {x : Value} (h : Ty w Q r x) : ∃ k n s al ll cl ak m ck, x = .agg #[.int .i64 k, .int .i64 n, .string s, .slice al ll cl, .slice ak m ck] := by
  cases r with
  | zero =>
    obtain ⟨k, n, s, e⟩ := h
    exact ⟨k, n, s, none, 0, 0, none, 0, 0, e⟩
  | succ r =>
    obtain ⟨k, n, s, al, ll, cl, ak, m, ck, e, _⟩ := h
    exact ⟨k, n, s, al, ll, cl, ak, m, ck, e⟩

/-- one more behind a row -/
theorem run_row (w : World) (t ty e : TypeId) (i : TypeInfo) (z : Value) (size bytes : Nat) (ht : Tryz.prog.underlying t = some (.slice e)) (hi : Tryz.prog.info? e = some i) (hz : i.zero = some z) (hsize : i.size = size) (hby : i.bytes = bytes) (hzs : z.cells.size = size) (hsz : 0 < size) (hbp : 0 < bytes)
    (Q : Nat → Prop) (lo n : Nat) (v : Value) (hrow : Row w Q lo e size v n) (ad : Addr) (news : List Value) (hl : news.length = size) (hnews : ∀ j u, news[j]? = some u → w.cell? (ad.add j) = some u) (h1 : ∀ u ∈ news, u.oneCell' = true) (hb8 : (n + 1) * bytes ≤ 140737488355328) (hlo : lo ≤ w.heap.size) :
    ∃ v' w', (Builtin.append_ #[t, t] ty #[v, .slice (some ad) 1 1]).run Tryz.prog w = .ok v' w' ∧ Row w' Q lo e size v' (n + 1) ∧ ((∃ b cs, w.heap[b]? = some (.cells cs e (0, 0)) ∧ (Q b ∨ lo ≤ b) ∧ n * size + size ≤ cs.size ∧ w' = w.setRow b (cs.toList.take (n * size) ++ news ++ cs.toList.drop (n * size + size)).toArray) ∨ Below w.heap.size w w') := by
  have hn1 : n + 1 ≤ 140737488355328 := Nat.le_trans (Nat.le_mul_of_pos_right _ hbp) hb8
  rcases hrow with ⟨rfl, rfl⟩ | ⟨b, cap, cs, rfl, hq, hg, hs, hnc, hcm⟩
  · obtain ⟨v', w', hr, own, gr, _⟩ := run_append_own (P := Tryz.prog) w w.heap.size t ty e i z size bytes ht hi hz hsize hby hzs hsz (.slice none 0 0) 0 [] (World.ownsRow_nil _ _ _ _) ad 1 1 news (by omega) hnews h1 (by unfold maxLen; omega) hb8 (Nat.le_refl _)
    refine ⟨v', w', hr, ?_, Or.inr ⟨gr.os, gr.tape, gr.output, gr.size, fun k hk => gr.block k hk (by simp [Value.ownBlock])⟩⟩
    rcases own.2 with ⟨_, e0⟩ | ⟨g, cap, cur, e1, hbg, hg, hnc, hcm, hsz', _⟩
    · omega
    · exact Or.inr ⟨g, cap, cur, e1, Or.inr (by omega), hg, hsz', by omega, hcm⟩
  · by_cases hlt : n + 1 ≤ cap
    · have hfit : n * size + size ≤ cs.size := by
        rw [hs]
        have : (n + 1) * size ≤ cap * size := Nat.mul_le_mul_right _ hlt
        rw [Nat.add_mul, Nat.one_mul] at this
        exact this
      subst hsize
      have hr := run_append_room (P := Tryz.prog) w t ty e i ht hi b n cap cs hg ad 1 1 news (by omega) hnews h1 hlt (by omega)
      rw [hl] at hr
      refine ⟨_, _, hr, Or.inr ⟨b, cap, _, rfl, hq, setRow_heap w b cs _ e _ hg, ?_, hlt, hcm⟩, Or.inl ⟨b, cs, hg, hq, hfit, rfl⟩⟩
      have hcl : cs.toList.length = cs.size := Array.length_toList
      simp only [List.size_toArray, List.length_append, List.length_take, List.length_drop, hl]
      omega
    · have hnn : n = cap := by omega
      subst hnn
      obtain ⟨v', w', hr, own, gr⟩ := run_append_arg_grows (P := Tryz.prog) w t ty e i z size bytes ht hi hz hsize hby hzs hsz ⟨b, 0, none⟩ n n cs.toList (by rw [Array.length_toList, hs]) (fun j u hu => by
        have hp : (⟨b, 0, none⟩ : Addr).add j = ⟨b, j, none⟩ := by unfold Addr.add; split <;> simp_all
        rw [hp, cell_of_row w b j cs e (0, 0) hg]
        simpa using hu) ad 1 1 news (by omega) hnews (by omega) (by unfold maxLen; omega) hb8
      refine ⟨v', w', hr, ?_, Or.inr ⟨gr.os, gr.tape, gr.output, gr.size, fun k hk => gr.block k hk (by simp)⟩⟩
      rcases own.2 with ⟨_, e0⟩ | ⟨g, cap, cur, e1, hbg, hg', hnc, hcm', hsz', _⟩
      · omega
      · exact Or.inr ⟨g, cap, cur, e1, Or.inr (by omega), hg', hsz', hnc, hcm'⟩

theorem Wiped.from_row {Q : Nat → Prop} {W w w' : World} {b : Nat} (hW : Wiped Q W w) (hb : Q b ∨ W.heap.size ≤ b) (ho : ∀ q, q ≠ b → w'.heap[q]? = w.heap[q]?) (hs : w'.heap.size = w.heap.size) (e1 : w'.os = w.os) (e2 : w'.tape = w.tape) (e3 : w'.output = w.output) (hc : Q b → VCh w w' b ∨ KCh w w' b) : Wiped Q W w' := by
  rcases hb with hb | hb
  · refine hW.trans ⟨e1, e2, e3, by omega, fun q hq => ?_⟩
    by_cases e : q = b
    · subst e; exact Or.inr ⟨hb, hc hb⟩
    · exact Or.inl (ho q e)
  · refine ⟨e1.trans hW.os, e2.trans hW.tape, e3.trans hW.output, by have := hW.size; omega, fun q hq => ?_⟩
    have hne : q ≠ b := by omega
    rcases hW.block q hq with e | ⟨hQ, ⟨cs, cs', h1, h2, h3⟩ | ⟨cs, cs', h1, h2, h3⟩⟩
    · exact Or.inl ((ho q hne).trans e)
    · exact Or.inr ⟨hQ, Or.inl ⟨cs, cs', h1, (ho q hne).trans h2, h3⟩⟩
    · exact Or.inr ⟨hQ, Or.inr ⟨cs, cs', h1, (ho q hne).trans h2, h3⟩⟩

theorem Wiped.on {Q : Nat → Prop} {W w w' : World} (hW : Wiped Q W w) (hb : Below w.heap.size w w') : Wiped Q W w' := hW.trans (Wiped.of_below hb)

theorem splice_at (cs : Array Value) (n : Nat) (s : ByteArray) (h : n * 5 + 5 ≤ cs.size) : (cs.toList.take (n * 5) ++ lf s ++ cs.toList.drop (n * 5 + 5)).toArray.size = cs.size ∧ ∀ i, (∀ j, j < 5 → (cs.toList.take (n * 5) ++ lf s ++ cs.toList.drop (n * 5 + 5)).toArray[i * 5 + j]? = cs[i * 5 + j]?) ∨ ∃ s', Grp (cs.toList.take (n * 5) ++ lf s ++ cs.toList.drop (n * 5 + 5)).toArray i (.int .i64 3) (.int .i64 0) (.string s') (.slice none 0 0) (.slice none 0 0) := by
  have hcl : cs.toList.length = cs.size := Array.length_toList
  have hl5 : (lf s).length = 5 := rfl
  have ht : (cs.toList.take (n * 5)).length = n * 5 := by rw [List.length_take]; omega
  refine ⟨by simp only [List.size_toArray, List.length_append, ht, hl5, List.length_drop]; omega, fun i => ?_⟩
  rcases Nat.lt_trichotomy i n with hi | hi | hi
  · refine Or.inl (fun j hj => ?_)
    rw [List.getElem?_toArray, List.append_assoc, List.getElem?_append_left (by omega), List.getElem?_take_of_lt (by omega)]
    simp
  · subst hi
    refine Or.inr ⟨s, ?_, ?_, ?_, ?_, ?_⟩
    · rw [List.getElem?_toArray, List.append_assoc, List.getElem?_append_right (by omega), ht, Nat.sub_self]; rfl
    · rw [List.getElem?_toArray, List.append_assoc, List.getElem?_append_right (by omega), ht, Nat.add_sub_cancel_left]; rfl
    · rw [List.getElem?_toArray, List.append_assoc, List.getElem?_append_right (by omega), ht, Nat.add_sub_cancel_left]; rfl
    · rw [List.getElem?_toArray, List.append_assoc, List.getElem?_append_right (by omega), ht, Nat.add_sub_cancel_left]; rfl
    · rw [List.getElem?_toArray, List.append_assoc, List.getElem?_append_right (by omega), ht, Nat.add_sub_cancel_left]; rfl
  · refine Or.inl (fun j hj => ?_)
    rw [List.getElem?_toArray, List.getElem?_append_right (by rw [List.length_append, ht, hl5]; omega), List.length_append, ht, hl5, List.getElem?_drop, show n * 5 + 5 + (i * 5 + j - (n * 5 + 5)) = i * 5 + j by omega]
    simp

/-- a leaf behind a row of values -/
theorem wpl_leaf {w : World} {ops : Array Oper} {rest : List Oper} {o : Oper} {a : Act} {Q' : Exit → Act → World → Prop} (hgd : o.guard = none) (sl x : Operand)
    (ho : o.op = .call { callee := .builtin .append, args := #[sl, x], argTypes := #[29, 29] })
    (Q : Nat → Prop) (lo n : Nat) (v : Value) (hs : a.eval sl = v) (hrow : Row w Q lo 32 5 v n) (ad : Addr) (s : ByteArray) (hx : a.eval x = .slice (some ad) 1 1) (hnews : ∀ j u, (lf s)[j]? = some u → w.cell? (ad.add j) = some u) (hn : (n + 1) * 80 ≤ 140737488355328) (hlo : lo ≤ w.heap.size)
    (h : ∀ v' w', Hid (Row w' Q lo 32 5 v' (n + 1) ∧ (∀ W : World, W.heap.size = lo → Wiped Q W w → Wiped Q W w') ∧ (∀ kv m, Row w Q lo 9 1 kv m → Row w' Q lo 9 1 kv m) ∧ lo ≤ w'.heap.size) → wpList Tryz.prog ops Q' rest (a.put o.dst v') w') :
    wpList Tryz.prog ops Q' (o :: rest) a w := by
  obtain ⟨iv, hiv, hz0, hz1, hz2⟩ := info_parts infoVx
  refine wpList_plain hgd fun K hK => ?_
  obtain ⟨v', w', hrun, hr, hw⟩ := run_row w 29 o.type 32 iv _ 5 80 Tryz.underlying29 hiv hz0 hz1 hz2 rfl (by omega) (by omega) Q lo n v hrow ad (lf s) rfl hnews (by intro u hu; simp [lf] at hu; rcases hu with rfl | rfl | rfl | rfl | rfl <;> rfl) hn hlo
  unfold Oper.wp
  simp only [execOp, ho, resolve, invoke, builtin, Sem.run_bind, Sem.run_pure, Result.andThen_ok, List.map_toArray, List.map_cons, List.map_nil, hs, hx, hrun]
  refine hK _ _ (h v' w' (hide ⟨hr, ?_⟩))
  rcases hw with ⟨b, cs, hg, hq, hfit, rfl⟩ | hb
  · obtain ⟨hsz, hgr⟩ := splice_at cs n s hfit
    have hg' := setRow_heap w b cs (cs.toList.take (n * 5) ++ lf s ++ cs.toList.drop (n * 5 + 5)).toArray 32 (0, 0) hg
    have hoth : ∀ q, q ≠ b → (w.setRow b (cs.toList.take (n * 5) ++ lf s ++ cs.toList.drop (n * 5 + 5)).toArray).heap[q]? = w.heap[q]? := fun q hqb => setRow_other w b q _ hqb
    have hss : (w.setRow b (cs.toList.take (n * 5) ++ lf s ++ cs.toList.drop (n * 5 + 5)).toArray).heap.size = w.heap.size := by simp [World.setRow]
    refine ⟨fun W hW hwp => ?_, fun kv m hk => ?_, by omega⟩
    · exact hwp.from_row (by rw [hW]; exact hq) hoth hss rfl rfl rfl (fun _ => Or.inl ⟨cs, _, hg, hg', hsz, hgr⟩)
    · rcases hk with hk | ⟨b', cap', cs', k1, k2, k3, k4⟩
      · exact Or.inl hk
      · have hne : b' ≠ b := fun e => by subst e; rw [hg] at k3; cases k3
        exact Or.inr ⟨b', cap', cs', k1, k2, (hoth b' hne).trans k3, k4⟩
  · exact ⟨fun W hW hwp => hwp.on hb, fun kv m hk => hk.later hb, Nat.le_trans hlo hb.size⟩

/-- a mark behind a row of keys -/
theorem wpl_mark {w : World} {ops : Array Oper} {rest : List Oper} {o : Oper} {a : Act} {Q' : Exit → Act → World → Prop} (hgd : o.guard = none) (sl x : Operand)
    (ho : o.op = .call { callee := .builtin .append, args := #[sl, x], argTypes := #[30, 30] })
    (Q : Nat → Prop) (lo n : Nat) (v : Value) (hs : a.eval sl = v) (hrow : Row w Q lo 9 1 v n) (ad : Addr) (s : ByteArray) (hx : a.eval x = .slice (some ad) 1 1) (hnews : ∀ j u, [Value.string s][j]? = some u → w.cell? (ad.add j) = some u) (hn : (n + 1) * 16 ≤ 140737488355328) (hlo : lo ≤ w.heap.size)
    (h : ∀ v' w', Hid (Row w' Q lo 9 1 v' (n + 1) ∧ (∀ W : World, W.heap.size = lo → Wiped Q W w → Wiped Q W w') ∧ (∀ kv m, Row w Q lo 32 5 kv m → Row w' Q lo 32 5 kv m) ∧ lo ≤ w'.heap.size) → wpList Tryz.prog ops Q' rest (a.put o.dst v') w') :
    wpList Tryz.prog ops Q' (o :: rest) a w := by
  obtain ⟨iv, hiv, hz0, hz1, hz2⟩ := info_parts infoSx
  refine wpList_plain hgd fun K hK => ?_
  obtain ⟨v', w', hrun, hr, hw⟩ := run_row w 30 o.type 9 iv _ 1 16 Tryz.underlying30 hiv hz0 hz1 hz2 rfl (by omega) (by omega) Q lo n v hrow ad [.string s] rfl hnews (by intro u hu; simp at hu; subst hu; rfl) hn hlo
  unfold Oper.wp
  simp only [execOp, ho, resolve, invoke, builtin, Sem.run_bind, Sem.run_pure, Result.andThen_ok, List.map_toArray, List.map_cons, List.map_nil, hs, hx, hrun]
  refine hK _ _ (h v' w' (hide ⟨hr, ?_⟩))
  rcases hw with ⟨b, cs, hg, hq, hfit, rfl⟩ | hb
  · have hcl : cs.toList.length = cs.size := Array.length_toList
    have hsz : (cs.toList.take (n * 1) ++ [Value.string s] ++ cs.toList.drop (n * 1 + 1)).toArray.size = cs.size := by
      simp only [List.size_toArray, List.length_append, List.length_take, List.length_drop, List.length_singleton]
      omega
    have hg' := setRow_heap w b cs (cs.toList.take (n * 1) ++ [Value.string s] ++ cs.toList.drop (n * 1 + 1)).toArray 9 (0, 0) hg
    have hoth : ∀ q, q ≠ b → (w.setRow b (cs.toList.take (n * 1) ++ [Value.string s] ++ cs.toList.drop (n * 1 + 1)).toArray).heap[q]? = w.heap[q]? := fun q hqb => setRow_other w b q _ hqb
    have hss : (w.setRow b (cs.toList.take (n * 1) ++ [Value.string s] ++ cs.toList.drop (n * 1 + 1)).toArray).heap.size = w.heap.size := by simp [World.setRow]
    refine ⟨fun W hW hwp => ?_, fun kv m hk => ?_, by omega⟩
    · exact hwp.from_row (by rw [hW]; exact hq) hoth hss rfl rfl rfl (fun _ => Or.inr ⟨cs, _, hg, hg', hsz⟩)
    · rcases hk with hk | ⟨b', cap', cs', k1, k2, k3, k4⟩
      · exact Or.inl hk
      · have hne : b' ≠ b := fun e => by subst e; rw [hg] at k3; cases k3
        exact Or.inr ⟨b', cap', cs', k1, k2, (hoth b' hne).trans k3, k4⟩
  · exact ⟨fun W hW hwp => hwp.on hb, fun kv m hk => hk.later hb, Nat.le_trans hlo hb.size⟩
end Go.Proofs.YtdaooapfokhfcaaGreat

namespace Go.Proofs.YtdaooapfokhfcaaGreat
open Go.RowKit
set_option linter.unusedVariables false
set_option linter.unusedSimpArgs false

def WipeAt (r : Nat) : Prop := ∀ (x : Value) (s : ByteArray) (Q : Nat → Prop) (w : World), Ty w Q r x → (∀ b, Q b → b < w.heap.size) →
    Calls Tryz.prog 71 #[x, .string s] w fun e w' => e = .returned (.tuple #[]) ∧ Wiped Q w w'

theorem lf_at (w : World) (s : ByteArray) : ∀ j u, (lf s)[j]? = some u → (w.alloc (.cells #[.int .i64 3, .int .i64 0, .string s, .slice none 0 0, .slice none 0 0] 32)).cell? ((⟨w.heap.size, 0, none⟩ : Addr).add j) = some u := fun j u hu =>
  World.news_of_block (heap_alloc_new w (.cells #[.int .i64 3, .int .i64 0, .string s, .slice none 0 0, .slice none 0 0] 32)) j u (by simpa [lf] using hu)

theorem mk_at (w : World) (s : ByteArray) : ∀ j u, [Value.string s][j]? = some u → (w.alloc (.cells #[.string s] 9)).cell? ((⟨w.heap.size, 0, none⟩ : Addr).add j) = some u := fun j u hu =>
  World.news_of_block (heap_alloc_new w (.cells #[.string s] 9)) j u (by simpa using hu)

set_option maxRecDepth 100000 in
set_option maxHeartbeats 2000000 in
theorem wipe_step (r : Nat) (ih : ∀ q, r = q + 1 → WipeAt q) : WipeAt r := by
  intro x s Q w hx hQ
  obtain ⟨k, n, t, al, ll, cl, ak, m, ck, rfl⟩ := hx.shape
  obtain ⟨w1, hw1⟩ : ∃ w1, w.alloc (.cells #[.int .i64 k, .int .i64 n, .string t, .slice al ll cl, .slice ak m ck] 32) = w1 := ⟨_, rfl⟩
  have BX := Box.mk' w (.int .i64 k) (.int .i64 n) (.string t) (.slice al ll cl) (.slice ak m ck)
  rw [hw1] at BX
  obtain ⟨g, hg⟩ : ∃ g, w.heap.size = g := ⟨_, rfl⟩
  have W01 : Wiped Q w w1 := Wiped.of_below BX.below
  have zb := BX.size
  have HT : Hid (∀ u, Wiped Q w1 u → u.heap[g]? = some (.cells #[.int .i64 k, .int .i64 n, .string t, .slice al ll cl, .slice ak m ck] 32 (0, 0)) ∧ (TyL u Q (Ty u Q (r - 1)) al ll cl ∧ TyK u Q ak m ck ∧ (r = 0 → ll = 0)) ∧ Wiped Q w u ∧ g < u.heap.size) := hide (fun u hu => by
    have h1 : u.heap[g]? = w1.heap[g]? := hu.far (by omega) (fun q => by have := hQ g q; omega)
    exact ⟨h1.trans (by rw [← hg]; exact BX.row), (Ty.wiped (W01.trans hu) _ _ hx).parts, W01.trans hu, by have := hu.size; omega⟩)
  have HQ := hide (And.intro hQ hg)
  have hbl : ll ≤ 1000000 ∧ 16 * m ≤ 140737488351232 := by
    obtain ⟨hl, hk, _⟩ := hx.parts
    constructor
    · rcases hl with ⟨_, rfl, _⟩ | ⟨_, _, _, _, _, _, _, _, h, _⟩
      · omega
      · exact h
    · rcases hk with ⟨_, rfl, _⟩ | ⟨_, _, _, _, _, _, _, _, h⟩
      · omega
      · exact h
  obtain ⟨hb1, hb2⟩ := hbl
  have HIH := hide ih
  have H1 : Hid (Wiped Q w1 w1) := hide (Wiped.refl _ _)
  have HZ := hide zb
  clear BX W01 hx hQ ih zb
  go_enter Tryz.func71, Tryz.ntmps71
  go_wp2_with fail
  go_loopw [4] (fun x wr => ∃ i : Nat, i ≤ ll ∧ x = .int .i64 i ∧ Hid (Wiped Q w1 wr)) (fun x _ => ll - (intOf x).toNat)
  case atStart => exact ⟨0, by omega, rfl, H1⟩
  case round =>
    clear H1
    obtain ⟨i, hi, rfl, HW⟩ := hrel
    obtain ⟨at0, ⟨hl, hk, h0⟩, hw, hgs⟩ := unhide HT wr (unhide HW)
    obtain ⟨c0, c1, c2, c3, c4⟩ := row_cell at0
    by_cases hlt : i < ll
    · rcases hl with ⟨_, hz, _⟩ | ⟨b, cs, rfl, hqb, hbb, hsz, hlc, hcm, _, hel⟩
      · omega
      obtain ⟨y0, y1, y2, y3, y4, ⟨q0, q1, q2, q3, q4⟩, hty⟩ := hel i hlt
      have hr0 : r ≠ 0 := fun h => by
        have := h0 h
        omega
      obtain ⟨q, hq⟩ : ∃ q, r = q + 1 := ⟨r - 1, by omega⟩
      rw [show r - 1 = q by omega] at hty
      obtain ⟨k', n', t', al', ll', cl', ak', m', ck', hs⟩ := hty.shape
      simp only [Value.agg.injEq, Array.mk.injEq, List.cons.injEq, and_true] at hs
      obtain ⟨rfl, rfl, rfl, rfl, rfl⟩ := hs
      have e0 : wr.cell? ⟨b, i * 5, none⟩ = some (.int .i64 k') := by rw [cell_of_row wr b (i * 5) cs _ (0, 0) hbb]; exact q0
      have e1 : wr.cell? ⟨b, i * 5 + 1, none⟩ = some (.int .i64 n') := by rw [cell_of_row wr b (i * 5 + 1) cs _ (0, 0) hbb]; exact q1
      have e2 : wr.cell? ⟨b, i * 5 + 2, none⟩ = some (.string t') := by rw [cell_of_row wr b (i * 5 + 2) cs _ (0, 0) hbb]; exact q2
      have e3 : wr.cell? ⟨b, i * 5 + 3, none⟩ = some (.slice al' ll' cl') := by rw [cell_of_row wr b (i * 5 + 3) cs _ (0, 0) hbb]; exact q3
      have e4 : wr.cell? ⟨b, i * 5 + 4, none⟩ = some (.slice ak' m' ck') := by rw [cell_of_row wr b (i * 5 + 4) cs _ (0, 0) hbb]; exact q4
      have CI := hide (unhide HIH q hq _ s Q wr hty (fun z hz => Nat.lt_of_lt_of_le ((unhide HQ).1 z hz) hw.size))
      have i1 : (i : Int) < (ll : Int) := by omega
      have i0 : (0 : Int) ≤ (i : Int) := by omega
      have hcl : cl ≤ 9223372036854775807 := by unfold maxLen at hcm; omega
      clear hel hk h0 hw hgs at0 hq q0 q1 q2 q3 q4 hty hbb hr0
      go_wp2_with fail
      refine (unhide CI).mono ?_
      rintro e w5 ⟨rfl, h5⟩
      have HW5 := hide ((unhide HW).trans h5)
      clear h5 CI
      go_wp2_with fail
      go_roundw
      case rel => exact ⟨i + 1, by omega, by go_num, HW5⟩
      case measure => simp [intOf]; omega
    · have i1 : ¬ (i : Int) < (ll : Int) := by omega
      clear hl hk h0 hw hgs at0
      go_wp2_with fail
      clear c0 c1 c2 c3 c4
      go_loopw [5] (fun x wr => ∃ i : Nat, i ≤ ll ∧ x = .int .i64 i ∧ Hid (Wiped Q w1 wr)) (fun x _ => ll - (intOf x).toNat)
      case atStart => exact ⟨0, by omega, rfl, HW⟩
      case round =>
        clear HW
        obtain ⟨i2, hi2, rfl, HW2⟩ := hrel
        obtain ⟨at0, ⟨hl, hk, h0⟩, hw, hgs⟩ := unhide HT wr (unhide HW2)
        obtain ⟨c0, c1, c2, c3, c4⟩ := row_cell at0
        by_cases hlt2 : i2 < ll
        · rcases hl with ⟨_, hz, _⟩ | ⟨b, cs, rfl, hqb, hbb, hsz, hlc, hcm, _, hel⟩
          · omega
          obtain ⟨y0, y1, y2, y3, y4, ⟨q0, q1, q2, q3, q4⟩, hty⟩ := hel i2 hlt2
          have e0 : wr.cell? ⟨b, i2 * 5, none⟩ = some y0 := by rw [cell_of_row wr b (i2 * 5) cs _ (0, 0) hbb]; exact q0
          have e1 : wr.cell? ⟨b, i2 * 5 + 1, none⟩ = some y1 := by rw [cell_of_row wr b (i2 * 5 + 1) cs _ (0, 0) hbb]; exact q1
          have e2 : wr.cell? ⟨b, i2 * 5 + 2, none⟩ = some y2 := by rw [cell_of_row wr b (i2 * 5 + 2) cs _ (0, 0) hbb]; exact q2
          have e3 : wr.cell? ⟨b, i2 * 5 + 3, none⟩ = some y3 := by rw [cell_of_row wr b (i2 * 5 + 3) cs _ (0, 0) hbb]; exact q3
          have e4 : wr.cell? ⟨b, i2 * 5 + 4, none⟩ = some y4 := by rw [cell_of_row wr b (i2 * 5 + 4) cs _ (0, 0) hbb]; exact q4
          have f0 := frozen_of_row wr b (i2 * 5) _ _ hbb
          have f1 := frozen_of_row wr b (i2 * 5 + 1) _ _ hbb
          have f2 := frozen_of_row wr b (i2 * 5 + 2) _ _ hbb
          have f3 := frozen_of_row wr b (i2 * 5 + 3) _ _ hbb
          have f4 := frozen_of_row wr b (i2 * 5 + 4) _ _ hbb
          have hwp := wipe_at (Q := Q) (i := i2) s hbb hqb (by rw [hsz]; omega)
          have HW5 := hide ((unhide HW2).trans hwp)
          have ia2 : (i2 : Int) < (ll : Int) := by omega
          have ib2 : (0 : Int) ≤ (i2 : Int) := by omega
          have hcl : cl ≤ 9223372036854775807 := by unfold maxLen at hcm; omega
          clear hel hk h0 hw hgs at0 q0 q1 q2 q3 q4 hty hbb hwp
          go_wp2_with fail
          go_roundw
          case rel => exact ⟨i2 + 1, by omega, by go_num, HW5⟩
          case measure => simp [intOf]; omega
        · have ia2 : ¬ (i2 : Int) < (ll : Int) := by omega
          clear hl hk h0 hw hgs at0
          go_wp2_with fail
          clear c0 c1 c2 c3 c4
          go_loopw [6] (fun x wr => ∃ i : Nat, i ≤ m ∧ x = .int .i64 i ∧ Hid (Wiped Q w1 wr)) (fun x _ => m - (intOf x).toNat)
          case atStart => exact ⟨0, by omega, rfl, HW2⟩
          case round =>
            clear HW2
            obtain ⟨i3, hi3, rfl, HW3⟩ := hrel
            obtain ⟨at0, ⟨hl, hk, h0⟩, hw, hgs⟩ := unhide HT wr (unhide HW3)
            obtain ⟨c0, c1, c2, c3, c4⟩ := row_cell at0
            by_cases hlt3 : i3 < m
            · rcases hk with ⟨_, hz, _⟩ | ⟨b, cs, rfl, hqb, hbb, hsz, hlc, hcm, _⟩
              · omega
              obtain ⟨y, hy⟩ : ∃ y, cs[i3]? = some y := ⟨_, Array.getElem?_eq_getElem (by omega)⟩
              have e0 : wr.cell? ⟨b, i3, none⟩ = some y := by rw [cell_of_row wr b i3 cs _ (0, 0) hbb]; exact hy
              have f0 := frozen_of_row wr b i3 _ _ hbb
              have HW5 := hide ((unhide HW3).trans (wipe_key (Q := Q) (i := i3) (.string s) hbb hqb))
              have ia3 : (i3 : Int) < (m : Int) := by omega
              have ib3 : (0 : Int) ≤ (i3 : Int) := by omega
              have hcl : ck ≤ 9223372036854775807 := by unfold maxLen at hcm; omega
              clear hl h0 hw hgs at0 hbb hy
              go_wp2_with fail
              go_roundw
              case rel => exact ⟨i3 + 1, by omega, by go_num, HW5⟩
              case measure => simp [intOf]; omega
            · have ia3 : ¬ (i3 : Int) < (m : Int) := by omega
              have HR : Hid (Row wr Q w1.heap.size 32 5 (.slice al ll cl) ll ∧ Row wr Q w1.heap.size 9 1 (.slice ak m ck) m ∧ Wiped Q w1 wr ∧ w1.heap.size ≤ wr.heap.size) := hide ⟨hl.row, hk.row, unhide HW3, (unhide HW3).size⟩
              clear hl hk h0 hw hgs at0 HW3
              go_wp2_with fail
              clear c0 c1 c2 c3 c4
              go_loopw [7, 8, 9] (fun lv kv x wr => ∃ (i nl nk : Nat), i ≤ 9 ∧ x = .int .i64 i ∧ nl ≤ 1000000 + i ∧ 16 * nk ≤ 140737488351232 + 16 * i ∧ Hid (Row wr Q w1.heap.size 32 5 lv nl ∧ Row wr Q w1.heap.size 9 1 kv nk ∧ Wiped Q w1 wr ∧ w1.heap.size ≤ wr.heap.size)) (fun _ _ x _ => 9 - (intOf x).toNat)
              case atStart => exact ⟨0, ll, m, by omega, rfl, by omega, by omega, HR⟩
              case round =>
                clear HR
                obtain ⟨i4, nl, nk, hi4, rfl, hnl, hnk, HR4⟩ := hrel
                obtain ⟨lv, hlv⟩ : ∃ lv, lv = u7 := ⟨_, rfl⟩
                obtain ⟨kv, hkv⟩ : ∃ kv, kv = u8 := ⟨_, rfl⟩
                subst hlv
                subst hkv
                by_cases hlt4 : i4 < 9
                · have ia4 : (i4 : Int) < 9 := by omega
                  have B1 : Below wr.heap.size wr (wr.alloc (.cells #[.int .i64 3, .int .i64 0, .string s, .slice none 0 0, .slice none 0 0] 32)) := (Below.refl _ _).alloc (Nat.le_refl _) _
                  have HB1 := hide B1
                  have L1 := hide (lf_at wr s)
                  have tokA : True := trivial
                  have tokB : True := trivial
                  clear B1
                  go_wp2_with (first
                    | (at_builtin; have _t := tokA; refine wpl_leaf rfl (.tmp 57) (.tmp 60) rfl Q w1.heap.size nl lv rfl ((unhide HR4).1.later (unhide HB1)) ⟨wr.heap.size, 0, none⟩ s rfl (unhide L1) (by omega) (by have := (unhide HB1).size; have := (unhide HR4).2.2.2; omega) ?_; intro v2 w2 H2; clear tokA; have HR2 : Hid (Row w2 Q w1.heap.size 32 5 v2 (nl + 1) ∧ Row w2 Q w1.heap.size 9 1 kv nk ∧ Wiped Q w1 w2 ∧ w1.heap.size ≤ w2.heap.size) := hide ⟨(unhide H2).1, (unhide H2).2.2.1 _ _ ((unhide HR4).2.1.later (unhide HB1)), (unhide H2).2.1 w1 rfl ((unhide HR4).2.2.1.on (unhide HB1)), (unhide H2).2.2.2⟩; clear H2; have HB2 : Hid (Below w2.heap.size w2 (w2.alloc (.cells #[.string s] 9))) := hide ((Below.refl _ _).alloc (Nat.le_refl _) _); have L2 := hide (mk_at w2 s))
                    | (at_builtin; have _t := tokB; refine wpl_mark rfl (.tmp 62) (.tmp 64) rfl Q w1.heap.size nk kv rfl ((unhide HR2).2.1.later (unhide HB2)) ⟨w2.heap.size, 0, none⟩ s rfl (unhide L2) (by omega) (by have := (unhide HB2).size; have := (unhide HR2).2.2.2; omega) ?_; intro v3 w3 H3; clear tokB))
                  have HR3 : Hid (Row w3 Q w1.heap.size 32 5 v2 (nl + 1) ∧ Row w3 Q w1.heap.size 9 1 v3 (nk + 1) ∧ Wiped Q w1 w3 ∧ w1.heap.size ≤ w3.heap.size) := hide ⟨(unhide H3).2.2.1 _ _ ((unhide HR2).1.later (unhide HB2)), (unhide H3).1, (unhide H3).2.1 w1 rfl ((unhide HR2).2.2.1.on (unhide HB2)), (unhide H3).2.2.2⟩
                  go_roundw
                  case rel => exact ⟨i4 + 1, nl + 1, nk + 1, by omega, by go_num, by omega, by omega, HR3⟩
                  case measure => simp [intOf]; omega
                · have ia4 : ¬ (i4 : Int) < 9 := by omega
                  go_wp2_with fail
                  go_end0
                  exact ⟨rfl, (unhide HT wr (unhide HR4).2.2.1).2.2.1⟩

theorem wipe_any : ∀ r, WipeAt r
  | 0 => wipe_step 0 (fun q h => by omega)
  | r + 1 => wipe_step (r + 1) (fun q h => by have : q = r := by omega
                                              rw [this]; exact wipe_any r)

set_option maxRecDepth 100000 in
set_option maxHeartbeats 400000 in
theorem over_any (v : Vl) (x : Value) (s : ByteArray) (Q : Nat → Prop) (w : World) (h : IsQ w Q v x) (hQ : ∀ b, Q b → b < w.heap.size) :
    Calls Tryz.prog 30 #[x, .string s] w fun e w' => e = .returned (.tuple #[]) ∧ Wiped Q w w' := by
  obtain ⟨k, n, t, l, ks, al, ak, cl, ck, hvv, hx⟩ := h.shape
  clear hvv
  obtain ⟨m, hm⟩ : ∃ m, ks.length = m := ⟨_, rfl⟩
  obtain ⟨ln, hln⟩ : ∃ ln, l.length = ln := ⟨_, rfl⟩
  rw [hm, hln] at hx
  subst hx
  obtain ⟨w1, hw1⟩ : ∃ w1, w.alloc (.cells #[.int .i64 k, .int .i64 n, .string t, .slice al ln cl, .slice ak m ck] 32) = w1 := ⟨_, rfl⟩
  have BX := Box.mk' w (.int .i64 k) (.int .i64 n) (.string t) (.slice al ln cl) (.slice ak m ck)
  rw [hw1] at BX
  have zb := BX.size
  obtain ⟨c0, c1, c2, c3, c4⟩ := row_cell BX.row
  have q1 : IsQ w1 Q v (.agg #[.int .i64 k, .int .i64 n, .string t, .slice al ln cl, .slice ak m ck]) := h.move (fun b hb => BX.below.block b (hQ b hb))
  have CF := hide (few_any v _ w1.heap.size w1 (q1.isV (fun b hb => by have := hQ b hb; omega)) (Nat.le_refl _))
  have HT : Hid (∀ u, Below w1.heap.size w1 u → u.heap[w.heap.size]? = some (.cells #[.int .i64 k, .int .i64 n, .string t, .slice al ln cl, .slice ak m ck] 32 (0, 0)) ∧ Ty u Q (dep v) (.agg #[.int .i64 k, .int .i64 n, .string t, .slice al ln cl, .slice ak m ck]) ∧ Wiped Q w u ∧ ∀ b, Q b → b < u.heap.size) := hide (fun u hu => by
    have hz := hu.size
    exact ⟨(hu.block _ (by omega)).trans BX.row, Ty.to (fun b hb => hu.block b (by have := hQ b hb; omega)) (fun _ h => h) _ _ q1.2, (Wiped.of_below BX.below).on hu, fun b hb => by have := hQ b hb; omega⟩)
  clear BX q1 h hQ hm hln
  cases hF : fewB v with
  | false =>
    rw [hF] at CF
    go_enter Tryz.func30, Tryz.ntmps30
    go_wp2_with fail
    refine (unhide CF).mono ?_
    rintro e u ⟨rfl, b⟩
    have HB := hide b
    clear b CF
    go_wp2_with fail
    go_end0
    exact ⟨rfl, (unhide HT u (unhide HB)).2.2.1⟩
  | true =>
    rw [hF] at CF
    go_enter Tryz.func30, Tryz.ntmps30
    go_wp2_with fail
    refine (unhide CF).mono ?_
    rintro e u ⟨rfl, b⟩
    have HB := hide b
    obtain ⟨a1, a2, a3, a4⟩ := unhide HT u b
    have CW := hide (wipe_any (dep v) _ s Q u a2 a4)
    have H3 := hide a3
    clear b CF c0 c1 c2 c3 c4
    obtain ⟨c0, c1, c2, c3, c4⟩ := row_cell a1
    clear a1 a2 a3 a4
    go_wp2_with fail
    refine (unhide CW).mono ?_
    rintro e u2 ⟨rfl, h2⟩
    have H4 := hide ((unhide H3).trans h2)
    clear h2 CW
    go_wp2_with fail
    go_end0
    exact ⟨rfl, unhide H4⟩
end Go.Proofs.YtdaooapfokhfcaaGreat
