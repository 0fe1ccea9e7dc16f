/-
  Rows that an owner writes over, and grows: append of several elements, in place or anew; no conditions.
-/
import Derived.Test.YtfdnhpmldnmncaaR16
import Derived.Test.YtfdnhpmldnmncaaR17
import Derived.Test.YtfdnhpmldnmncaaR46
import Derived.Test.YtfdnhpmldnmncaaR12
import Derived.Laws.AppendOwn
import Derived.ArgAppend
import Derived.Deep.AppendLies
import Derived.OwnWalk
namespace Go.Proofs.Ytfdnhpmldnmncaa
open Go.RowKit
set_option linter.unusedVariables false
set_option linter.unusedSimpArgs false

theorem infoVs : (Try.prog.info? 51).map (fun i => (i.zero, i.size, i.bytes)) = some (some (.agg #[.int .i64 0, .int .i64 0, .string ⟨#[]⟩, .slice none 0 0, .slice none 0 0]), 5, 80) := by kernel_rfl
theorem infoS9 : (Try.prog.info? 9).map (fun i => (i.zero, i.size, i.bytes)) = some (some (.string ⟨#[]⟩), 1, 16) := by kernel_rfl

theorem Ty.parts {w : World} {Q : Nat → Prop} {r : Nat} {k n : Int} {s : ByteArray} {al ak : Option Addr} {ll cl m ck : Nat} (h : Ty w Q r (.agg #[.int .i64 k, .int .i64 n, .string s, .slice al ll cl, .slice ak m ck])) : TyL w Q (Ty w Q (r - 1)) al ll cl ∧ TyK w Q ak m ck ∧ (r = 0 → ll = 0) := by
  cases r with
  | zero =>
    obtain ⟨_, _, _, e⟩ := h
    simp only [Value.agg.injEq, Array.mk.injEq, List.cons.injEq, Value.slice.injEq, and_true] at e
    obtain ⟨_, _, _, ⟨rfl, rfl, rfl⟩, rfl, rfl, rfl⟩ := e
    exact ⟨Or.inl ⟨rfl, rfl, rfl⟩, Or.inl ⟨rfl, rfl, rfl⟩, fun _ => rfl⟩
  | succ r =>
    obtain ⟨_, _, _, _, _, _, _, _, _, e, hl, hk⟩ := h
    simp only [Value.agg.injEq, Array.mk.injEq, List.cons.injEq, Value.slice.injEq, and_true] at e
    obtain ⟨_, _, _, ⟨rfl, rfl, rfl⟩, rfl, rfl, rfl⟩ := e
    exact ⟨hl, hk, fun h => by omega⟩

theorem Ty.shape {w : World} {Q : Nat → Prop} {r : Nat} {x : Value} (h : Ty w Q r x) : ∃ k n s al ll cl ak m ck, x = .agg #[.int .i64 k, .int .i64 n, .string s, .slice al ll cl, .slice ak m ck] := by
  cases r with
  | zero =>
    obtain ⟨k, n, s, e⟩ := h
    exact ⟨k, n, s, none, 0, 0, none, 0, 0, e⟩
  | succ r =>
    obtain ⟨k, n, s, al, ll, cl, ak, m, ck, e, _⟩ := h
    exact ⟨k, n, s, al, ll, cl, ak, m, ck, e⟩

/-- behind an append of some elements -/
def AftN (w w' : World) (Q : Nat → Prop) (lo : Nat) (e : TypeId) (size n c : Nat) (news : List Value) (v' : Value) : Prop :=
  Row w' Q lo e size v' (n + c) ∧ ((∃ b cs, w.heap[b]? = some (.cells cs e (0, 0)) ∧ (Q b ∨ lo ≤ b) ∧ n * size + c * size ≤ cs.size ∧ w' = w.setRow b (cs.toList.take (n * size) ++ news ++ cs.toList.drop (n * size + c * size)).toArray) ∨ Below w.heap.size w w')

theorem run_rowN (w : World) (t ty e : TypeId) (i : TypeInfo) (z : Value) (size bytes : Nat) (ht : Try.prog.underlying t = some (.slice e)) (hi : Try.prog.info? e = some i) (hz : i.zero = some z) (hsize : i.size = size) (hby : i.bytes = bytes) (hzs : z.cells.size = size) (hsz : 0 < size) (hbp : 0 < bytes)
    (Q : Nat → Prop) (lo n c : Nat) (v : Value) (hrow : Row w Q lo e size v n) (hc : 0 < c) (ad : Addr) (cc : Nat) (news : List Value) (hl : news.length = c * size) (hnews : ∀ j u, news[j]? = some u → w.cell? (ad.add j) = some u) (h1 : ∀ u ∈ news, u.oneCell' = true) (hb8 : (n + c) * bytes ≤ 140737488355328) (hlo : lo ≤ w.heap.size) :
    ∃ v' w', (Builtin.append_ #[t, t] ty #[v, .slice (some ad) c cc]).run Try.prog w = .ok v' w' ∧ AftN w w' Q lo e size n c news v' := by
  have hn1 : n + c ≤ 140737488355328 := Nat.le_trans (Nat.le_mul_of_pos_right _ hbp) hb8
  rcases hrow with ⟨rfl, rfl⟩ | ⟨b, cap, cs, rfl, hq, hg, hs, hnc, hcm⟩
  · obtain ⟨v', w', hr, own, gr, _⟩ := run_append_own (P := Try.prog) w w.heap.size t ty e i z size bytes ht hi hz hsize hby hzs hsz (.slice none 0 0) 0 [] (World.ownsRow_nil _ _ _ _) ad c cc news hl hnews h1 (by unfold maxLen; omega) hb8 (Nat.le_refl _)
    refine ⟨v', w', hr, ?_, Or.inr ⟨gr.os, gr.tape, gr.output, gr.size, fun k hk => gr.block k hk (by simp [Value.ownBlock])⟩⟩
    rcases own.2 with ⟨_, e0⟩ | ⟨g, cap, cur, e1, hbg, hg, hnc, hcm, hsz', _⟩
    · omega
    · exact Or.inr ⟨g, cap, cur, e1, Or.inr (by omega), hg, hsz', by omega, hcm⟩
  · by_cases hlt : n + c ≤ cap
    · have hfit : n * size + c * size ≤ cs.size := by
        rw [hs]
        have : (n + c) * size ≤ cap * size := Nat.mul_le_mul_right _ hlt
        rw [Nat.add_mul] at this
        exact this
      subst hsize
      have hr := run_append_room (P := Try.prog) w t ty e i ht hi b n cap cs hg ad c cc news hl hnews h1 hlt (by omega)
      rw [hl] at hr
      refine ⟨_, _, hr, Or.inr ⟨b, cap, _, rfl, hq, setRow_heap w b cs _ e _ hg, ?_, hlt, hcm⟩, Or.inl ⟨b, cs, hg, hq, hfit, rfl⟩⟩
      have hcl : cs.toList.length = cs.size := Array.length_toList
      simp only [List.size_toArray, List.length_append, List.length_take, List.length_drop, hl]
      omega
    · have hns : n * size ≤ cs.size := by rw [hs]; exact Nat.mul_le_mul_right _ hnc
      obtain ⟨v', w', hr, own, gr⟩ := run_append_arg_grows (P := Try.prog) w t ty e i z size bytes ht hi hz hsize hby hzs hsz ⟨b, 0, none⟩ n cap (cs.toList.take (n * size)) (by rw [List.length_take, Array.length_toList]; omega) (fun j u hu => by
        have hp : (⟨b, 0, none⟩ : Addr).add j = ⟨b, j, none⟩ := by unfold Addr.add; split <;> simp_all
        rw [hp, cell_of_row w b j cs e (0, 0) hg]
        rw [List.getElem?_take] at hu
        split at hu
        · simpa using hu
        · cases hu) ad c cc news hl hnews (by omega) (by unfold maxLen; omega) hb8
      refine ⟨v', w', hr, ?_, Or.inr ⟨gr.os, gr.tape, gr.output, gr.size, fun k hk => gr.block k hk (by simp)⟩⟩
      rcases own.2 with ⟨_, e0⟩ | ⟨g, cap, cur, e1, hbg, hg', hnc, hcm', hsz', _⟩
      · omega
      · exact Or.inr ⟨g, cap, cur, e1, Or.inr (by omega), hg', hsz', hnc, hcm'⟩

/-- append, as a step of a plain row of operations -/
theorem wpl_rowN {w : World} {ops : Array Oper} {rest : List Oper} {o : Oper} {a : Act} {Q' : Exit → Act → World → Prop} (hgd : o.guard = none) (sl x : Operand) (t e : TypeId) (i : TypeInfo) (z : Value) (size bytes : Nat)
    (ho : o.op = .call { callee := .builtin .append, args := #[sl, x], argTypes := #[t, t] }) (ht : Try.prog.underlying t = some (.slice e)) (hi : Try.prog.info? e = some i) (hz : i.zero = some z) (hsize : i.size = size) (hby : i.bytes = bytes) (hzs : z.cells.size = size) (hsz : 0 < size) (hbp : 0 < bytes)
    (Q : Nat → Prop) (lo n c : Nat) (v : Value) (hs : a.eval sl = v) (hrow : Row w Q lo e size v n) (hc : 0 < c) (ad : Addr) (cc : Nat) (news : List Value) (hx : a.eval x = .slice (some ad) c cc) (hl : news.length = c * size) (hnews : ∀ j u, news[j]? = some u → w.cell? (ad.add j) = some u) (h1 : ∀ u ∈ news, u.oneCell' = true) (hb8 : (n + c) * bytes ≤ 140737488355328) (hlo : lo ≤ w.heap.size)
    (h : ∀ v' w', Hid (AftN w w' Q lo e size n c news v') → wpList Try.prog ops Q' rest (a.put o.dst v') w') :
    wpList Try.prog ops Q' (o :: rest) a w := by
  refine wpList_plain hgd fun K hK => ?_
  obtain ⟨v', w', hrun, hr⟩ := run_rowN w t o.type e i z size bytes ht hi hz hsize hby hzs hsz hbp Q lo n c v hrow hc ad cc news hl hnews h1 hb8 hlo
  unfold Oper.wp
  simp only [execOp, ho, resolve, invoke, builtin, Sem.run_bind, Sem.run_pure, Result.andThen_ok, List.map_toArray, List.map_cons, List.map_nil, hs, hx, hrun]
  exact hK _ _ (h v' w' (hide hr))

/-- append, at a step of a region that draws -/
theorem step_rowN {w : World} {ops : Array Oper} {o : Oper} {a : Act} {K : Act → World → Prop} {Q' : Exit → Act → World → Prop} {E : Prop} (hgd : o.guard = none) (sl x : Operand) (t e : TypeId) (i : TypeInfo) (z : Value) (size bytes : Nat)
    (ho : o.op = .call { callee := .builtin .append, args := #[sl, x], argTypes := #[t, t] }) (ht : Try.prog.underlying t = some (.slice e)) (hi : Try.prog.info? e = some i) (hz : i.zero = some z) (hsize : i.size = size) (hby : i.bytes = bytes) (hzs : z.cells.size = size) (hsz : 0 < size) (hbp : 0 < bytes)
    (Q : Nat → Prop) (lo n c : Nat) (v : Value) (hs : a.eval sl = v) (hrow : Row w Q lo e size v n) (hc : 0 < c) (ad : Addr) (cc : Nat) (news : List Value) (hx : a.eval x = .slice (some ad) c cc) (hl : news.length = c * size) (hnews : ∀ j u, news[j]? = some u → w.cell? (ad.add j) = some u) (h1 : ∀ u ∈ news, u.oneCell' = true) (hb8 : (n + c) * bytes ≤ 140737488355328) (hlo : lo ≤ w.heap.size)
    (h : ∀ v' w', Hid (AftN w w' Q lo e size n c news v') → K (a.put o.dst v') w') :
    if Region.wanted o (yielded ops a.tmps) = true then Oper.wp Try.prog o a w K Q' else E := by
  have hw : Region.wanted o (yielded ops a.tmps) = true := by simp [Region.wanted, hgd]
  rw [if_pos hw]
  obtain ⟨v', w', hrun, hr⟩ := run_rowN w t o.type e i z size bytes ht hi hz hsize hby hzs hsz hbp Q lo n c v hrow hc ad cc news hl hnews h1 hb8 hlo
  unfold Oper.wp
  simp only [execOp, ho, resolve, invoke, builtin, Sem.run_bind, Sem.run_pure, Result.andThen_ok, List.map_toArray, List.map_cons, List.map_nil, hs, hx, hrun]
  exact h v' w' (hide hr)

theorem Wiped.from_row {Q : Nat → Prop} {W w w' : World} {b : Nat} (hW : Wiped Q W w) (hb : Q b ∨ W.heap.size ≤ b) (ho : ∀ q, q ≠ b → w'.heap[q]? = w.heap[q]?) (hs : w'.heap.size = w.heap.size) (e1 : w'.os = w.os) (e2 : w'.tape = w.tape) (e3 : w'.output = w.output) (hc : Q b → VCh w w' b ∨ KCh w w' b) : Wiped Q W w' := by
  rcases hb with hb | hb
  · refine hW.trans ⟨e1, e2, e3, by omega, fun q hq => ?_⟩
    by_cases e : q = b
    · subst e; exact Or.inr ⟨hb, hc hb⟩
    · exact Or.inl (ho q e)
  · refine ⟨e1.trans hW.os, e2.trans hW.tape, e3.trans hW.output, by have := hW.size; omega, fun q hq => ?_⟩
    have hne : q ≠ b := by omega
    rcases hW.block q hq with e | ⟨hQ, ⟨cs, cs', h1, h2, h3⟩ | ⟨cs, cs', h1, h2, h3⟩⟩
    · exact Or.inl ((ho q hne).trans e)
    · exact Or.inr ⟨hQ, Or.inl ⟨cs, cs', h1, (ho q hne).trans h2, h3⟩⟩
    · exact Or.inr ⟨hQ, Or.inr ⟨cs, cs', h1, (ho q hne).trans h2, h3⟩⟩

theorem Wiped.on {Q : Nat → Prop} {W w w' : World} (hW : Wiped Q W w) (hb : Below w.heap.size w w') : Wiped Q W w' := hW.trans (Wiped.of_below hb)

/-- a leaf is laid over an element -/
theorem Wiped.leaf {Q : Nat → Prop} {W w : World} {b i : Nat} {cs : Array Value} (k n : Int) (s : ByteArray) (hW : Wiped Q W w) (hb : w.heap[b]? = some (.cells cs 51 (0, 0))) (hq : Q b ∨ W.heap.size ≤ b) (hi : i * 5 + 5 ≤ cs.size) :
    Wiped Q W (((((w.setCell ⟨b, i * 5, none⟩ (.int .i64 k)).setCell ⟨b, i * 5 + 1, none⟩ (.int .i64 n)).setCell ⟨b, i * 5 + 2, none⟩ (.string s)).setCell ⟨b, i * 5 + 3, none⟩ (.slice none 0 0)).setCell ⟨b, i * 5 + 4, none⟩ (.slice none 0 0)) := by
  have h := wipe_at (Q := fun x => x = b) k n s hb rfl hi
  refine hW.from_row hq (fun q hqb => ?_) (by simp) h.os h.tape h.output (fun _ => ?_)
  · rw [heap_setCell_other _ _ _ _ hqb, heap_setCell_other _ _ _ _ hqb, heap_setCell_other _ _ _ _ hqb, heap_setCell_other _ _ _ _ hqb, heap_setCell_other _ _ _ _ hqb]
  · have h1 := heap_setCell_same w b (i * 5) _ 51 (.int .i64 k) hb
    have h2 := heap_setCell_same _ b (i * 5 + 1) _ 51 (.int .i64 n) h1
    have h3 := heap_setCell_same _ b (i * 5 + 2) _ 51 (.string s) h2
    have h4 := heap_setCell_same _ b (i * 5 + 3) _ 51 (.slice none 0 0) h3
    have h5 := heap_setCell_same _ b (i * 5 + 4) _ 51 (.slice none 0 0) h4
    obtain ⟨s1, s2, s3⟩ := setW5 cs i (.int .i64 k) (.int .i64 n) (.string s) (.slice none 0 0) (.slice none 0 0) hi
    refine Or.inl ⟨cs, _, hb, h5, s1, fun j => ?_⟩
    by_cases hk : j = i
    · subst hk; exact Or.inr ⟨k, n, s, s2⟩
    · exact Or.inl (s3 j hk)

theorem Wiped.key {Q : Nat → Prop} {W w : World} {b i : Nat} {cs : Array Value} (v : Value) (hW : Wiped Q W w) (hb : w.heap[b]? = some (.cells cs 9 (0, 0))) (hq : Q b ∨ W.heap.size ≤ b) : Wiped Q W (w.setCell ⟨b, i, none⟩ v) := by
  have B := (Below.refl 0 w).setCell (p := ⟨b, i, none⟩) (Nat.zero_le _) v
  exact hW.from_row hq (fun q hqb => heap_setCell_other _ _ _ _ hqb) (by simp) B.os B.tape B.output (fun _ => Or.inr ⟨cs, _, hb, heap_setCell_same w b i _ 9 v hb, by simp⟩)

/-- leaves behind a row of values -/
theorem AftN.leaves {w w' : World} {Q : Nat → Prop} {W : World} {n c : Nat} {k m : Int} {s : ByteArray} {v' : Value} (h : AftN w w' Q W.heap.size 51 5 n c (List.replicate c (lf k m s)).flatten v') (hW : Wiped Q W w) : Wiped Q W w' := by
  rcases h.2 with ⟨b, cs, hg, hq, hfit, rfl⟩ | hb
  · have hcl : cs.toList.length = cs.size := Array.length_toList
    have hnl : (List.replicate c (lf k m s)).flatten.length = c * 5 := by simp [lf]
    have ht : (cs.toList.take (n * 5)).length = n * 5 := by rw [List.length_take]; omega
    refine hW.from_row hq (fun q hqb => setRow_other w b q _ hqb) (by simp [World.setRow]) rfl rfl rfl (fun _ => Or.inl ⟨cs, _, hg, setRow_heap w b cs _ _ _ hg, ?_, fun i => ?_⟩)
    · simp only [List.size_toArray, List.length_append, ht, hnl, List.length_drop]; omega
    · rcases Nat.lt_or_ge i n with hi | hi
      · refine Or.inl (fun j hj => ?_)
        rw [List.getElem?_toArray, List.append_assoc, List.getElem?_append_left (by omega), List.getElem?_take_of_lt (by omega)]
        simp
      · rcases Nat.lt_or_ge i (n + c) with hi2 | hi2
        · have hf : ∀ j u, (lf k m s)[j]? = some u → (cs.toList.take (n * 5) ++ (List.replicate c (lf k m s)).flatten ++ cs.toList.drop (n * 5 + c * 5)).toArray[i * 5 + j]? = some u := fun j u hu => by
            have hj : j < 5 := (List.getElem?_eq_some_iff.1 hu).1
            rw [List.getElem?_toArray, List.append_assoc, List.getElem?_append_right (by omega), ht, List.getElem?_append_left (by omega), show i * 5 + j - n * 5 = (i - n) * 5 + j by omega]
            exact flatk_at (k := 5) _ (fun r hr => by rw [List.eq_of_mem_replicate hr]; rfl) (i - n) (lf k m s) j u (by rw [List.getElem?_replicate, if_pos (by omega)]) hu
          exact Or.inr ⟨k, m, s, by simpa using hf 0 _ rfl, hf 1 _ rfl, hf 2 _ rfl, hf 3 _ rfl, hf 4 _ rfl⟩
        · refine Or.inl (fun j hj => ?_)
          rw [List.getElem?_toArray, List.getElem?_append_right (by rw [List.length_append, ht, hnl]; omega), List.length_append, ht, hnl, List.getElem?_drop, show n * 5 + c * 5 + (i * 5 + j - (n * 5 + c * 5)) = i * 5 + j by omega]
          simp
  · exact hW.on hb

theorem AftN.keys {w w' : World} {Q : Nat → Prop} {W : World} {n c : Nat} {news : List Value} {v' : Value} (hl : news.length = c * 1) (h : AftN w w' Q W.heap.size 9 1 n c news v') (hW : Wiped Q W w) : Wiped Q W w' := by
  rcases h.2 with ⟨b, cs, hg, hq, hfit, rfl⟩ | hb
  · have hcl : cs.toList.length = cs.size := Array.length_toList
    refine hW.from_row hq (fun q hqb => setRow_other w b q _ hqb) (by simp [World.setRow]) rfl rfl rfl (fun _ => Or.inr ⟨cs, _, hg, setRow_heap w b cs _ _ _ hg, ?_⟩)
    simp only [List.size_toArray, List.length_append, List.length_take, List.length_drop, hl]
    omega
  · exact hW.on hb

theorem AftN.size {w w' : World} {Q : Nat → Prop} {lo : Nat} {e : TypeId} {size n c : Nat} {news : List Value} {v' : Value} (h : AftN w w' Q lo e size n c news v') : w.heap.size ≤ w'.heap.size := by
  rcases h.2 with ⟨b, cs, hg, hq, hfit, rfl⟩ | hb
  · simp [World.setRow]
  · exact hb.size

/-- a row of another type is as it was -/
theorem AftN.other {w w' : World} {Q : Nat → Prop} {lo : Nat} {e : TypeId} {size n c : Nat} {news : List Value} {v' : Value} (h : AftN w w' Q lo e size n c news v') {b : Nat} {cs : Array Value} {e2 : TypeId} (he : e2 ≠ e) (hb : w.heap[b]? = some (.cells cs e2 (0, 0))) : w'.heap[b]? = some (.cells cs e2 (0, 0)) := by
  rcases h.2 with ⟨b', cs', hg, hq, hfit, rfl⟩ | hb'
  · have hne : b ≠ b' := fun e0 => by
      subst e0
      rw [hg] at hb
      cases hb
      exact he rfl
    rw [setRow_other w b' b _ hne]
    exact hb
  · exact (hb'.block b (Array.getElem?_eq_some_iff.1 hb).1).trans hb

theorem Row.other {w w' : World} {Q : Nat → Prop} {lo : Nat} {e2 : TypeId} {s2 : Nat} {v : Value} {m : Nat} (h : Row w Q lo e2 s2 v m) (hw : ∀ (b : Nat) (cs : Array Value), w.heap[b]? = some (.cells cs e2 (0, 0)) → w'.heap[b]? = some (.cells cs e2 (0, 0))) : Row w' Q lo e2 s2 v m := by
  rcases h with h | ⟨b, cap, cs, h1, h2, h3, h4⟩
  · exact Or.inl h
  · exact Or.inr ⟨b, cap, cs, h1, h2, hw b cs h3, h4⟩
end Go.Proofs.Ytfdnhpmldnmncaa
