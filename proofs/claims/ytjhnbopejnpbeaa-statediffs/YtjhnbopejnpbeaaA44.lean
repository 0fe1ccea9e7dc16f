/-
  The walk of changes: two rows that are the same; no conditions but the form's own reach.
  Rows that an owner writes over, and grows: append of several elements, in place or anew; no conditions.
-/
import Derived.Test.YtjhnbopejnpbeaaA39
import Derived.Test.YtjhnbopejnpbeaaA11
import Derived.Test.YtjhnbopejnpbeaaA07
import Derived.Test.YtjhnbopejnpbeaaA09
import Derived.Laws.AppendOwn
import Derived.ArgAppend
import Derived.Deep.AppendLies
import Derived.OwnWalk
set_option linter.unusedVariables false
set_option linter.unusedSimpArgs false
namespace Go.Proofs.Ytjhnbopejnpbeaa
open Go.RowKit
set_option linter.unusedVariables false
set_option linter.unusedSimpArgs false

theorem below_drewC {B : Nat} {a w : World} (h : Below B a w) (q : Nat) : Below B a (w.drewN q) := ⟨h.os, h.tape, h.output, h.size, h.block⟩

set_option maxRecDepth 100000 in
set_option maxHeartbeats 2000000 in
theorem changes_same (ds : List Ch) (al bl : Option Addr) (n ca cb B : Nat) (w : World) (hn : ds.length = n) (h : IsH w (fun b => b < B) ds al ca) (h' : IsH w (fun b => b < B) ds bl cb) (hB : B ≤ w.heap.size) :
    Calls Try.prog 10 #[.slice al n ca, .slice bl n cb] w fun e w' => e = .returned (.bool true) ∧ Below w.heap.size w w' := by
  have hl := h.len
  have hl' := h'.len
  rw [hn] at hl hl'
  have HV : Hid (∀ u, Below w.heap.size w u → IsH u (fun b => b < B) ds al ca ∧ IsH u (fun b => b < B) ds bl cb) := hide (fun u hu => ⟨h.later (hu.mono hB), h'.later (hu.mono hB)⟩)
  have HN := hide hn
  clear h h' hn
  go_enter Try.func10, Try.ntmps10
  go_wp2_with fail
  go_loopw [5] (fun x wr => ∃ (i : Nat), x = .int .i64 (i : Int) ∧ Hid (i ≤ n ∧ Below w.heap.size w wr)) (fun x _ => n - (intOf x).toNat)
  case atStart => exact ⟨0, rfl, hide ⟨by omega, Below.refl _ _⟩⟩
  case round =>
    obtain ⟨i, rfl, HX⟩ := hrel
    obtain ⟨wq, hwq⟩ : ∃ wq, wq = wr := ⟨_, rfl⟩
    subst hwq
    by_cases hlt : i < n
    · have i1 : (i : Int) < (n : Int) := by omega
      have HI1 : Hid (i + 1 ≤ n) := hide (by omega)
      obtain ⟨⟨s, gg, v⟩, he⟩ : ∃ e, ds[i]? = some e := ⟨_, List.getElem?_eq_getElem (by have := unhide HN; omega)⟩
      obtain ⟨hv, hv'⟩ := unhide HV wq (unhide HX).2
      obtain ⟨a, x0, x1, x2, x3, x6, x4, x7, x5, x8, rfl, _, _, hc, hp⟩ := hv.elem i _ he
      obtain ⟨a', y0, y1, y2, y3, y6, y4, y7, y5, y8, rfl, _, _, hd, hp'⟩ := hv'.elem i _ he
      dsimp only at hc hp hd hp'
      focus
        have c0 : wq.cell? (a.add (i * 7)) = some (.string s) := hc 0 _ rfl
        have c1 : wq.cell? ⟨(a.add (i * 7)).block, (a.add (i * 7)).off + 1, none⟩ = some (.bool gg) := hc 1 _ rfl
        have c2 : wq.cell? ⟨(a.add (i * 7)).block, (a.add (i * 7)).off + 2, none⟩ = some (.int .i64 x0) := hc 2 _ rfl
        have c3 : wq.cell? ⟨(a.add (i * 7)).block, (a.add (i * 7)).off + 3, none⟩ = some (.int .i64 x1) := hc 3 _ rfl
        have c4 : wq.cell? ⟨(a.add (i * 7)).block, (a.add (i * 7)).off + 4, none⟩ = some (.string x2) := hc 4 _ rfl
        have c5 : wq.cell? ⟨(a.add (i * 7)).block, (a.add (i * 7)).off + 5, none⟩ = some (.slice x3 x4 x5) := hc 5 _ rfl
        have c6 : wq.cell? ⟨(a.add (i * 7)).block, (a.add (i * 7)).off + 6, none⟩ = some (.slice x6 x7 x8) := hc 6 _ rfl
        have d0 : wq.cell? (a'.add (i * 7)) = some (.string s) := hd 0 _ rfl
        have d1 : wq.cell? ⟨(a'.add (i * 7)).block, (a'.add (i * 7)).off + 1, none⟩ = some (.bool gg) := hd 1 _ rfl
        have d2 : wq.cell? ⟨(a'.add (i * 7)).block, (a'.add (i * 7)).off + 2, none⟩ = some (.int .i64 y0) := hd 2 _ rfl
        have d3 : wq.cell? ⟨(a'.add (i * 7)).block, (a'.add (i * 7)).off + 3, none⟩ = some (.int .i64 y1) := hd 3 _ rfl
        have d4 : wq.cell? ⟨(a'.add (i * 7)).block, (a'.add (i * 7)).off + 4, none⟩ = some (.string y2) := hd 4 _ rfl
        have d5 : wq.cell? ⟨(a'.add (i * 7)).block, (a'.add (i * 7)).off + 5, none⟩ = some (.slice y3 y4 y5) := hd 5 _ rfl
        have d6 : wq.cell? ⟨(a'.add (i * 7)).block, (a'.add (i * 7)).off + 6, none⟩ = some (.slice y6 y7 y8) := hd 6 _ rfl
        have hBr : B ≤ wq.heap.size := Nat.le_trans hB (unhide HX).2.size
        have hdr : Below wq.heap.size wq wq.drew := (Below.refl _ _).drew
        have CR := hide (alike_any (dep v) v v _ _ B wq.drew (Nat.le_refl _) (IsV.mono (hdr.mono hBr) hp) (IsV.mono (hdr.mono hBr) hp') (by have := hdr.size; omega))
        rw [(sameB_iff v v).2 rfl] at CR
        clear hc hd hp hp' hv hv' he hdr
        go_upto_region 6 with fail
        go_cut [6] from 12 to 56 (fun r wx => r = .bool true ∧ Hid (Below wq.heap.size wq wx))
        case first =>
          go_region_held3 (fun w' => w'.cell? ⟨(a.add (i * 7)).block, (a.add (i * 7)).off + 2, none⟩ = some (.int .i64 x0) ∧ w'.cell? ⟨(a.add (i * 7)).block, (a.add (i * 7)).off + 3, none⟩ = some (.int .i64 x1) ∧ w'.cell? ⟨(a.add (i * 7)).block, (a.add (i * 7)).off + 4, none⟩ = some (.string x2) ∧ w'.cell? ⟨(a.add (i * 7)).block, (a.add (i * 7)).off + 5, none⟩ = some (.slice x3 x4 x5) ∧ w'.cell? ⟨(a.add (i * 7)).block, (a.add (i * 7)).off + 6, none⟩ = some (.slice x6 x7 x8) ∧ w'.cell? ⟨(a'.add (i * 7)).block, (a'.add (i * 7)).off + 2, none⟩ = some (.int .i64 y0) ∧ w'.cell? ⟨(a'.add (i * 7)).block, (a'.add (i * 7)).off + 3, none⟩ = some (.int .i64 y1) ∧ w'.cell? ⟨(a'.add (i * 7)).block, (a'.add (i * 7)).off + 4, none⟩ = some (.string y2) ∧ w'.cell? ⟨(a'.add (i * 7)).block, (a'.add (i * 7)).off + 5, none⟩ = some (.slice y3 y4 y5) ∧ w'.cell? ⟨(a'.add (i * 7)).block, (a'.add (i * 7)).off + 6, none⟩ = some (.slice y6 y7 y8))
            (first | go_keep | (have hb6 := below_drew_of' b5; exact ⟨cell_later hb6 c2, cell_later hb6 c3, cell_later hb6 c4, cell_later hb6 c5, cell_later hb6 c6, cell_later hb6 d2, cell_later hb6 d3, cell_later hb6 d4, cell_later hb6 d5, cell_later hb6 d6⟩))
            (first | (go_at_call 29; refine (unhide CR).mono ?_; rintro e w5 ⟨rfl, b5⟩))
          have HX5 : Hid (Below wq.heap.size wq w5) := hide (below_drew_of' b5)
          clear b5 CR
          go_wp2_with fail
          go_meet
          exact ⟨rfl, HX5⟩
        case rest =>
          obtain ⟨rfl, HX5⟩ := hcut
          have HY : Hid (Below w.heap.size w wc) := hide ((unhide HX).2.trans ((unhide HX5).mono (unhide HX).2.size))
          have c0' := cell_later (unhide HX5) c0
          have d0' := cell_later (unhide HX5) d0
          have c1' := cell_later (unhide HX5) c1
          have d1' := cell_later (unhide HX5) d1
          clear c0 c1 c2 c3 c4 c5 c6 d0 d1 d2 d3 d4 d5 d6 CR
          have hss : (s.toList == s.toList) = true := by simp
          cases gg with
          | false =>
            go_upto_region 7 with fail
            go_quiet (fail)
            go_wp2_with fail
            go_roundw
            case rel => exact ⟨i + 1, by go_num, hide ⟨unhide HI1, below_drewC (unhide HY) _⟩⟩
            case measure => have := unhide HI1; simp [intOf]; omega
          | true =>
            go_upto_region 7 with fail
            go_quiet (fail)
            go_wp2_with fail
            go_roundw
            case rel => exact ⟨i + 1, by go_num, hide ⟨unhide HI1, below_drewC (unhide HY) _⟩⟩
            case measure => have := unhide HI1; simp [intOf]; omega
    · have i1 : ¬ (i : Int) < (n : Int) := by omega
      have HY := hide (unhide HX).2
      go_wp2_with fail
      go_ret
      exact ⟨rfl, unhide HY⟩
end Go.Proofs.Ytjhnbopejnpbeaa

namespace Go.Proofs.Ytjhnbopejnpbeaa
open Go.RowKit
set_option linter.unusedVariables false
set_option linter.unusedSimpArgs false

theorem flatk_at {k : Nat} : ∀ (rs : List (List Value)), (∀ r ∈ rs, r.length = k) → ∀ (i : Nat) (r : List Value) (j : Nat) (v : Value), rs[i]? = some r → r[j]? = some v → rs.flatten[i * k + j]? = some v
  | [], _, i, r, j, v, h, _ => by simp at h
  | x :: rs, hk, i, r, j, v, h, hv => by
    have hx := hk x List.mem_cons_self
    cases i with
    | zero =>
      simp at h
      subst h
      rw [List.flatten_cons, Nat.zero_mul, Nat.zero_add, List.getElem?_append_left (List.getElem?_eq_some_iff.1 hv).1]
      exact hv
    | succ i =>
      rw [List.flatten_cons, List.getElem?_append_right (by rw [hx, Nat.succ_mul]; omega), hx, show (i + 1) * k + j - k = i * k + j by rw [Nat.succ_mul]; omega]
      exact flatk_at rs (fun y hy => hk y (List.mem_cons_of_mem _ hy)) i r j v (by simpa using h) hv

theorem infoVs : (Try.prog.info? 34).map (fun i => (i.zero, i.size, i.bytes)) = some (some (.agg #[.int .i64 0, .int .i64 0, .string ⟨#[]⟩, .slice none 0 0, .slice none 0 0]), 5, 80) := by kernel_rfl
theorem infoS9 : (Try.prog.info? 9).map (fun i => (i.zero, i.size, i.bytes)) = some (some (.string ⟨#[]⟩), 1, 16) := by kernel_rfl

theorem Ty.parts {w : World} {Q : Nat → Prop} {r : Nat} {k n : Int} {s : ByteArray} {al ak : Option Addr} {ll cl m ck : Nat} (h : Ty w Q r (.agg #[.int .i64 k, .int .i64 n, .string s, .slice al ll cl, .slice ak m ck])) : TyL w Q (Ty w Q (r - 1)) al ll cl ∧ TyK w Q ak m ck ∧ (r = 0 → ll = 0) := by
  cases r with
  | zero =>
    obtain ⟨_, _, _, e⟩ := h
    simp only [Value.agg.injEq, Array.mk.injEq, List.cons.injEq, Value.slice.injEq, and_true] at e
    obtain ⟨_, _, _, ⟨rfl, rfl, rfl⟩, rfl, rfl, rfl⟩ := e
    exact ⟨Or.inl ⟨rfl, rfl, rfl⟩, Or.inl ⟨rfl, rfl, rfl⟩, fun _ => rfl⟩
  | succ r =>
    obtain ⟨_, _, _, _, _, _, _, _, _, e, hl, hk⟩ := h
    simp only [Value.agg.injEq, Array.mk.injEq, List.cons.injEq, Value.slice.injEq, and_true] at e
    obtain ⟨_, _, _, ⟨rfl, rfl, rfl⟩, rfl, rfl, rfl⟩ := e
    exact ⟨hl, hk, fun h => by omega⟩

theorem Ty.shape {w : World} {Q : Nat → Prop} {r : Nat} {x : Value} (h : Ty w Q r x) : ∃ k n s al ll cl ak m ck, x = .agg #[.int .i64 k, .int .i64 n, .string s, .slice al ll cl, .slice ak m ck] := by
  cases r with
  | zero =>
    obtain ⟨k, n, s, e⟩ := h
    exact ⟨k, n, s, none, 0, 0, none, 0, 0, e⟩
  | succ r =>
    obtain ⟨k, n, s, al, ll, cl, ak, m, ck, e, _⟩ := h
    exact ⟨k, n, s, al, ll, cl, ak, m, ck, e⟩

/-- behind an append of some elements -/
def AftN (w w' : World) (Q : Nat → Prop) (lo : Nat) (e : TypeId) (size n c : Nat) (news : List Value) (v' : Value) : Prop :=
  Row w' Q lo e size v' (n + c) ∧ ((∃ b cs, w.heap[b]? = some (.cells cs e (0, 0)) ∧ (Q b ∨ lo ≤ b) ∧ n * size + c * size ≤ cs.size ∧ w' = w.setRow b (cs.toList.take (n * size) ++ news ++ cs.toList.drop (n * size + c * size)).toArray) ∨ Below w.heap.size w w')

theorem run_rowN (w : World) (t ty e : TypeId) (i : TypeInfo) (z : Value) (size bytes : Nat) (ht : Try.prog.underlying t = some (.slice e)) (hi : Try.prog.info? e = some i) (hz : i.zero = some z) (hsize : i.size = size) (hby : i.bytes = bytes) (hzs : z.cells.size = size) (hsz : 0 < size) (hbp : 0 < bytes)
    (Q : Nat → Prop) (lo n c : Nat) (v : Value) (hrow : Row w Q lo e size v n) (hc : 0 < c) (ad : Addr) (cc : Nat) (news : List Value) (hl : news.length = c * size) (hnews : ∀ j u, news[j]? = some u → w.cell? (ad.add j) = some u) (h1 : ∀ u ∈ news, u.oneCell' = true) (hb8 : (n + c) * bytes ≤ 140737488355328) (hlo : lo ≤ w.heap.size) :
    ∃ v' w', (Builtin.append_ #[t, t] ty #[v, .slice (some ad) c cc]).run Try.prog w = .ok v' w' ∧ AftN w w' Q lo e size n c news v' := by
  have hn1 : n + c ≤ 140737488355328 := Nat.le_trans (Nat.le_mul_of_pos_right _ hbp) hb8
  rcases hrow with ⟨rfl, rfl⟩ | ⟨b, cap, cs, rfl, hq, hg, hs, hnc, hcm⟩
  · obtain ⟨v', w', hr, own, gr, _⟩ := run_append_own (P := Try.prog) w w.heap.size t ty e i z size bytes ht hi hz hsize hby hzs hsz (.slice none 0 0) 0 [] (World.ownsRow_nil _ _ _ _) ad c cc news hl hnews h1 (by unfold maxLen; omega) hb8 (Nat.le_refl _)
    refine ⟨v', w', hr, ?_, Or.inr ⟨gr.os, gr.tape, gr.output, gr.size, fun k hk => gr.block k hk (by simp [Value.ownBlock])⟩⟩
    rcases own.2 with ⟨_, e0⟩ | ⟨g, cap, cur, e1, hbg, hg, hnc, hcm, hsz', _⟩
    · omega
    · exact Or.inr ⟨g, cap, cur, e1, Or.inr (by omega), hg, hsz', by omega, hcm⟩
  · by_cases hlt : n + c ≤ cap
    · have hfit : n * size + c * size ≤ cs.size := by
        rw [hs]
        have : (n + c) * size ≤ cap * size := Nat.mul_le_mul_right _ hlt
        rw [Nat.add_mul] at this
        exact this
      subst hsize
      have hr := run_append_room (P := Try.prog) w t ty e i ht hi b n cap cs hg ad c cc news hl hnews h1 hlt (by omega)
      rw [hl] at hr
      refine ⟨_, _, hr, Or.inr ⟨b, cap, _, rfl, hq, setRow_heap w b cs _ e _ hg, ?_, hlt, hcm⟩, Or.inl ⟨b, cs, hg, hq, hfit, rfl⟩⟩
      have hcl : cs.toList.length = cs.size := Array.length_toList
      simp only [List.size_toArray, List.length_append, List.length_take, List.length_drop, hl]
      omega
    · have hns : n * size ≤ cs.size := by rw [hs]; exact Nat.mul_le_mul_right _ hnc
      obtain ⟨v', w', hr, own, gr⟩ := run_append_arg_grows (P := Try.prog) w t ty e i z size bytes ht hi hz hsize hby hzs hsz ⟨b, 0, none⟩ n cap (cs.toList.take (n * size)) (by rw [List.length_take, Array.length_toList]; omega) (fun j u hu => by
        have hp : (⟨b, 0, none⟩ : Addr).add j = ⟨b, j, none⟩ := by unfold Addr.add; split <;> simp_all
        rw [hp, cell_of_row w b j cs e (0, 0) hg]
        rw [List.getElem?_take] at hu
        split at hu
        · simpa using hu
        · cases hu) ad c cc news hl hnews (by omega) (by unfold maxLen; omega) hb8
      refine ⟨v', w', hr, ?_, Or.inr ⟨gr.os, gr.tape, gr.output, gr.size, fun k hk => gr.block k hk (by simp)⟩⟩
      rcases own.2 with ⟨_, e0⟩ | ⟨g, cap, cur, e1, hbg, hg', hnc, hcm', hsz', _⟩
      · omega
      · exact Or.inr ⟨g, cap, cur, e1, Or.inr (by omega), hg', hsz', hnc, hcm'⟩

/-- append, as a step of a plain row of operations -/
theorem wpl_rowN {w : World} {ops : Array Oper} {rest : List Oper} {o : Oper} {a : Act} {Q' : Exit → Act → World → Prop} (hgd : o.guard = none) (sl x : Operand) (t e : TypeId) (i : TypeInfo) (z : Value) (size bytes : Nat)
    (ho : o.op = .call { callee := .builtin .append, args := #[sl, x], argTypes := #[t, t] }) (ht : Try.prog.underlying t = some (.slice e)) (hi : Try.prog.info? e = some i) (hz : i.zero = some z) (hsize : i.size = size) (hby : i.bytes = bytes) (hzs : z.cells.size = size) (hsz : 0 < size) (hbp : 0 < bytes)
    (Q : Nat → Prop) (lo n c : Nat) (v : Value) (hs : a.eval sl = v) (hrow : Row w Q lo e size v n) (hc : 0 < c) (ad : Addr) (cc : Nat) (news : List Value) (hx : a.eval x = .slice (some ad) c cc) (hl : news.length = c * size) (hnews : ∀ j u, news[j]? = some u → w.cell? (ad.add j) = some u) (h1 : ∀ u ∈ news, u.oneCell' = true) (hb8 : (n + c) * bytes ≤ 140737488355328) (hlo : lo ≤ w.heap.size)
    (h : ∀ v' w', Hid (AftN w w' Q lo e size n c news v') → wpList Try.prog ops Q' rest (a.put o.dst v') w') :
    wpList Try.prog ops Q' (o :: rest) a w := by
  refine wpList_plain hgd fun K hK => ?_
  obtain ⟨v', w', hrun, hr⟩ := run_rowN w t o.type e i z size bytes ht hi hz hsize hby hzs hsz hbp Q lo n c v hrow hc ad cc news hl hnews h1 hb8 hlo
  unfold Oper.wp
  simp only [execOp, ho, resolve, invoke, builtin, Sem.run_bind, Sem.run_pure, Result.andThen_ok, List.map_toArray, List.map_cons, List.map_nil, hs, hx, hrun]
  exact hK _ _ (h v' w' (hide hr))

/-- append, at a step of a region that draws -/
theorem step_rowN {w : World} {ops : Array Oper} {o : Oper} {a : Act} {K : Act → World → Prop} {Q' : Exit → Act → World → Prop} {E : Prop} (hgd : o.guard = none) (sl x : Operand) (t e : TypeId) (i : TypeInfo) (z : Value) (size bytes : Nat)
    (ho : o.op = .call { callee := .builtin .append, args := #[sl, x], argTypes := #[t, t] }) (ht : Try.prog.underlying t = some (.slice e)) (hi : Try.prog.info? e = some i) (hz : i.zero = some z) (hsize : i.size = size) (hby : i.bytes = bytes) (hzs : z.cells.size = size) (hsz : 0 < size) (hbp : 0 < bytes)
    (Q : Nat → Prop) (lo n c : Nat) (v : Value) (hs : a.eval sl = v) (hrow : Row w Q lo e size v n) (hc : 0 < c) (ad : Addr) (cc : Nat) (news : List Value) (hx : a.eval x = .slice (some ad) c cc) (hl : news.length = c * size) (hnews : ∀ j u, news[j]? = some u → w.cell? (ad.add j) = some u) (h1 : ∀ u ∈ news, u.oneCell' = true) (hb8 : (n + c) * bytes ≤ 140737488355328) (hlo : lo ≤ w.heap.size)
    (h : ∀ v' w', Hid (AftN w w' Q lo e size n c news v') → K (a.put o.dst v') w') :
    if Region.wanted o (yielded ops a.tmps) = true then Oper.wp Try.prog o a w K Q' else E := by
  have hw : Region.wanted o (yielded ops a.tmps) = true := by simp [Region.wanted, hgd]
  rw [if_pos hw]
  obtain ⟨v', w', hrun, hr⟩ := run_rowN w t o.type e i z size bytes ht hi hz hsize hby hzs hsz hbp Q lo n c v hrow hc ad cc news hl hnews h1 hb8 hlo
  unfold Oper.wp
  simp only [execOp, ho, resolve, invoke, builtin, Sem.run_bind, Sem.run_pure, Result.andThen_ok, List.map_toArray, List.map_cons, List.map_nil, hs, hx, hrun]
  exact h v' w' (hide hr)

theorem Wiped.from_row {Q : Nat → Prop} {W w w' : World} {b : Nat} (hW : Wiped Q W w) (hb : Q b ∨ W.heap.size ≤ b) (ho : ∀ q, q ≠ b → w'.heap[q]? = w.heap[q]?) (hs : w'.heap.size = w.heap.size) (e1 : w'.os = w.os) (e2 : w'.tape = w.tape) (e3 : w'.output = w.output) (hc : Q b → VCh w w' b ∨ KCh w w' b) : Wiped Q W w' := by
  rcases hb with hb | hb
  · refine hW.trans ⟨e1, e2, e3, by omega, fun q hq => ?_⟩
    by_cases e : q = b
    · subst e; exact Or.inr ⟨hb, hc hb⟩
    · exact Or.inl (ho q e)
  · refine ⟨e1.trans hW.os, e2.trans hW.tape, e3.trans hW.output, by have := hW.size; omega, fun q hq => ?_⟩
    have hne : q ≠ b := by omega
    rcases hW.block q hq with e | ⟨hQ, ⟨cs, cs', h1, h2, h3⟩ | ⟨cs, cs', h1, h2, h3⟩⟩
    · exact Or.inl ((ho q hne).trans e)
    · exact Or.inr ⟨hQ, Or.inl ⟨cs, cs', h1, (ho q hne).trans h2, h3⟩⟩
    · exact Or.inr ⟨hQ, Or.inr ⟨cs, cs', h1, (ho q hne).trans h2, h3⟩⟩

theorem Wiped.on {Q : Nat → Prop} {W w w' : World} (hW : Wiped Q W w) (hb : Below w.heap.size w w') : Wiped Q W w' := hW.trans (Wiped.of_below hb)

/-- a leaf is laid over an element -/
theorem Wiped.leaf {Q : Nat → Prop} {W w : World} {b i : Nat} {cs : Array Value} (k n : Int) (s : ByteArray) (hW : Wiped Q W w) (hb : w.heap[b]? = some (.cells cs 34 (0, 0))) (hq : Q b ∨ W.heap.size ≤ b) (hi : i * 5 + 5 ≤ cs.size) :
    Wiped Q W (((((w.setCell ⟨b, i * 5, none⟩ (.int .i64 k)).setCell ⟨b, i * 5 + 1, none⟩ (.int .i64 n)).setCell ⟨b, i * 5 + 2, none⟩ (.string s)).setCell ⟨b, i * 5 + 3, none⟩ (.slice none 0 0)).setCell ⟨b, i * 5 + 4, none⟩ (.slice none 0 0)) := by
  have h := wipe_at (Q := fun x => x = b) k n s hb rfl hi
  refine hW.from_row hq (fun q hqb => ?_) (by simp) h.os h.tape h.output (fun _ => ?_)
  · rw [heap_setCell_other _ _ _ _ hqb, heap_setCell_other _ _ _ _ hqb, heap_setCell_other _ _ _ _ hqb, heap_setCell_other _ _ _ _ hqb, heap_setCell_other _ _ _ _ hqb]
  · have h1 := heap_setCell_same w b (i * 5) _ 34 (.int .i64 k) hb
    have h2 := heap_setCell_same _ b (i * 5 + 1) _ 34 (.int .i64 n) h1
    have h3 := heap_setCell_same _ b (i * 5 + 2) _ 34 (.string s) h2
    have h4 := heap_setCell_same _ b (i * 5 + 3) _ 34 (.slice none 0 0) h3
    have h5 := heap_setCell_same _ b (i * 5 + 4) _ 34 (.slice none 0 0) h4
    obtain ⟨s1, s2, s3⟩ := setW5 cs i (.int .i64 k) (.int .i64 n) (.string s) (.slice none 0 0) (.slice none 0 0) hi
    refine Or.inl ⟨cs, _, hb, h5, s1, fun j => ?_⟩
    by_cases hk : j = i
    · subst hk; exact Or.inr ⟨k, n, s, s2⟩
    · exact Or.inl (s3 j hk)

theorem Wiped.key {Q : Nat → Prop} {W w : World} {b i : Nat} {cs : Array Value} (v : Value) (hW : Wiped Q W w) (hb : w.heap[b]? = some (.cells cs 9 (0, 0))) (hq : Q b ∨ W.heap.size ≤ b) : Wiped Q W (w.setCell ⟨b, i, none⟩ v) := by
  have B := (Below.refl 0 w).setCell (p := ⟨b, i, none⟩) (Nat.zero_le _) v
  exact hW.from_row hq (fun q hqb => heap_setCell_other _ _ _ _ hqb) (by simp) B.os B.tape B.output (fun _ => Or.inr ⟨cs, _, hb, heap_setCell_same w b i _ 9 v hb, by simp⟩)

/-- leaves behind a row of values -/
theorem AftN.leaves {w w' : World} {Q : Nat → Prop} {W : World} {n c : Nat} {k m : Int} {s : ByteArray} {v' : Value} (h : AftN w w' Q W.heap.size 34 5 n c (List.replicate c (lf k m s)).flatten v') (hW : Wiped Q W w) : Wiped Q W w' := by
  rcases h.2 with ⟨b, cs, hg, hq, hfit, rfl⟩ | hb
  · have hcl : cs.toList.length = cs.size := Array.length_toList
    have hnl : (List.replicate c (lf k m s)).flatten.length = c * 5 := by simp [lf]
    have ht : (cs.toList.take (n * 5)).length = n * 5 := by rw [List.length_take]; omega
    refine hW.from_row hq (fun q hqb => setRow_other w b q _ hqb) (by simp [World.setRow]) rfl rfl rfl (fun _ => Or.inl ⟨cs, _, hg, setRow_heap w b cs _ _ _ hg, ?_, fun i => ?_⟩)
    · simp only [List.size_toArray, List.length_append, ht, hnl, List.length_drop]; omega
    · rcases Nat.lt_or_ge i n with hi | hi
      · refine Or.inl (fun j hj => ?_)
        rw [List.getElem?_toArray, List.append_assoc, List.getElem?_append_left (by omega), List.getElem?_take_of_lt (by omega)]
        simp
      · rcases Nat.lt_or_ge i (n + c) with hi2 | hi2
        · have hf : ∀ j u, (lf k m s)[j]? = some u → (cs.toList.take (n * 5) ++ (List.replicate c (lf k m s)).flatten ++ cs.toList.drop (n * 5 + c * 5)).toArray[i * 5 + j]? = some u := fun j u hu => by
            have hj : j < 5 := (List.getElem?_eq_some_iff.1 hu).1
            rw [List.getElem?_toArray, List.append_assoc, List.getElem?_append_right (by omega), ht, List.getElem?_append_left (by omega), show i * 5 + j - n * 5 = (i - n) * 5 + j by omega]
            exact flatk_at (k := 5) _ (fun r hr => by rw [List.eq_of_mem_replicate hr]; rfl) (i - n) (lf k m s) j u (by rw [List.getElem?_replicate, if_pos (by omega)]) hu
          exact Or.inr ⟨k, m, s, by simpa using hf 0 _ rfl, hf 1 _ rfl, hf 2 _ rfl, hf 3 _ rfl, hf 4 _ rfl⟩
        · refine Or.inl (fun j hj => ?_)
          rw [List.getElem?_toArray, List.getElem?_append_right (by rw [List.length_append, ht, hnl]; omega), List.length_append, ht, hnl, List.getElem?_drop, show n * 5 + c * 5 + (i * 5 + j - (n * 5 + c * 5)) = i * 5 + j by omega]
          simp
  · exact hW.on hb

theorem AftN.keys {w w' : World} {Q : Nat → Prop} {W : World} {n c : Nat} {news : List Value} {v' : Value} (hl : news.length = c * 1) (h : AftN w w' Q W.heap.size 9 1 n c news v') (hW : Wiped Q W w) : Wiped Q W w' := by
  rcases h.2 with ⟨b, cs, hg, hq, hfit, rfl⟩ | hb
  · have hcl : cs.toList.length = cs.size := Array.length_toList
    refine hW.from_row hq (fun q hqb => setRow_other w b q _ hqb) (by simp [World.setRow]) rfl rfl rfl (fun _ => Or.inr ⟨cs, _, hg, setRow_heap w b cs _ _ _ hg, ?_⟩)
    simp only [List.size_toArray, List.length_append, List.length_take, List.length_drop, hl]
    omega
  · exact hW.on hb

theorem AftN.size {w w' : World} {Q : Nat → Prop} {lo : Nat} {e : TypeId} {size n c : Nat} {news : List Value} {v' : Value} (h : AftN w w' Q lo e size n c news v') : w.heap.size ≤ w'.heap.size := by
  rcases h.2 with ⟨b, cs, hg, hq, hfit, rfl⟩ | hb
  · simp [World.setRow]
  · exact hb.size

/-- a row of another type is as it was -/
theorem AftN.other {w w' : World} {Q : Nat → Prop} {lo : Nat} {e : TypeId} {size n c : Nat} {news : List Value} {v' : Value} (h : AftN w w' Q lo e size n c news v') {b : Nat} {cs : Array Value} {e2 : TypeId} (he : e2 ≠ e) (hb : w.heap[b]? = some (.cells cs e2 (0, 0))) : w'.heap[b]? = some (.cells cs e2 (0, 0)) := by
  rcases h.2 with ⟨b', cs', hg, hq, hfit, rfl⟩ | hb'
  · have hne : b ≠ b' := fun e0 => by
      subst e0
      rw [hg] at hb
      cases hb
      exact he rfl
    rw [setRow_other w b' b _ hne]
    exact hb
  · exact (hb'.block b (Array.getElem?_eq_some_iff.1 hb).1).trans hb

theorem Row.other {w w' : World} {Q : Nat → Prop} {lo : Nat} {e2 : TypeId} {s2 : Nat} {v : Value} {m : Nat} (h : Row w Q lo e2 s2 v m) (hw : ∀ (b : Nat) (cs : Array Value), w.heap[b]? = some (.cells cs e2 (0, 0)) → w'.heap[b]? = some (.cells cs e2 (0, 0))) : Row w' Q lo e2 s2 v m := by
  rcases h with h | ⟨b, cap, cs, h1, h2, h3, h4⟩
  · exact Or.inl h
  · exact Or.inr ⟨b, cap, cs, h1, h2, hw b cs h3, h4⟩
end Go.Proofs.Ytjhnbopejnpbeaa
