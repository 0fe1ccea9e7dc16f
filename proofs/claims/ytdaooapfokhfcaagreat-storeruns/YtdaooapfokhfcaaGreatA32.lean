/-
  Entries in memory; no conditions.
  How the document's store lies in memory; what it leads back to; no conditions.
-/
import Derived.Test.YtdaooapfokhfcaaGreatA04
import Derived.Test.YtdaooapfokhfcaaGreatA31
namespace Go.Proofs.YtdaooapfokhfcaaGreat
open Go.RowKit
set_option linter.unusedVariables false

/-- an entry: a key and its value -/
abbrev En := ByteArray × Vl

/-- how entries lie in memory, their values' lists in blocks of P -/
structure EsF (w : World) (P : Nat → Prop) (es : List En) (al : Option Addr) (cl : Nat) (V : Nat → List Value) : Prop where
  nl : al = none → es.length = 0 ∧ cl = 0
  ll : es.length ≤ cl
  bl : 96 * es.length ≤ 140737488351232
  hl : ∀ a, al = some a → ∀ i e, es[i]? = some e → P a.block ∧ ∀ j v, (Value.string e.1 :: V i)[j]? = some v → w.cell? ((a.add (i * 6)).add j) = some v
  bt : ∀ e ∈ es, e.1.size ≤ 140737488351232
  hv : ∀ i e, es[i]? = some e → (V i).length = 5 ∧ IsP w P e.2 (.agg (V i).toArray)

def IsE (w : World) (P : Nat → Prop) (es : List En) (al : Option Addr) (cl : Nat) : Prop := ∃ V, EsF w P es al cl V

theorem IsE.to {w w' : World} {P Q : Nat → Prop} (hw : ∀ b, P b → w'.heap[b]? = w.heap[b]?) (hP : ∀ b, P b → Q b) {es : List En} {al : Option Addr} {cl : Nat} (h : IsE w P es al cl) : IsE w' Q es al cl := by
  obtain ⟨V, h⟩ := h
  refine ⟨V, h.nl, h.ll, h.bl, fun a ha i e he => ⟨hP _ (h.hl a ha i e he).1, fun j v hv => ?_⟩, h.bt, fun i e he => ⟨(h.hv i e he).1, (h.hv i e he).2.to hw hP⟩⟩
  have e : w'.cell? ((a.add (i * 6)).add j) = w.cell? ((a.add (i * 6)).add j) := World.cell?_of_block (by rw [block_add, block_add]; exact hw _ (h.hl a ha i e he).1)
  rw [e]
  exact (h.hl a ha i _ he).2 j v hv

theorem IsE.weak {w : World} {P Q : Nat → Prop} (hP : ∀ b, P b → Q b) {es : List En} {al : Option Addr} {cl : Nat} (h : IsE w P es al cl) : IsE w Q es al cl := h.to (fun _ _ => rfl) hP
theorem IsE.move {w w' : World} {P : Nat → Prop} (hw : ∀ b, P b → w'.heap[b]? = w.heap[b]?) {es : List En} {al : Option Addr} {cl : Nat} (h : IsE w P es al cl) : IsE w' P es al cl := h.to hw (fun _ h => h)
theorem IsE.later {w w' : World} {B : Nat} {es : List En} {al : Option Addr} {cl : Nat} (h : IsE w (fun b => b < B) es al cl) (hb : Below B w w') : IsE w' (fun b => b < B) es al cl := h.move (fun b hl => hb.block b hl)

theorem IsE.len {w : World} {P : Nat → Prop} {es : List En} {al : Option Addr} {cl : Nat} (h : IsE w P es al cl) : es.length ≤ cl ∧ es.length ≤ 140737488351232 ∧ (al = none → es.length = 0) := by
  obtain ⟨V, h⟩ := h
  exact ⟨h.ll, by have := h.bl; omega, fun e => (h.nl e).1⟩

/-- the cells of an entry -/
theorem IsE.elem {w : World} {P : Nat → Prop} {es : List En} {al : Option Addr} {cl : Nat} (h : IsE w P es al cl) (i : Nat) (e : En) (he : es[i]? = some e) :
    ∃ (a : Addr) (x0 x1 : Int) (x2 : ByteArray) (al' ak' : Option Addr) (ll' m' cl' ck' : Nat), al = some a ∧ P a.block ∧ e.1.size ≤ 140737488351232 ∧ (∀ j v, [Value.string e.1, .int .i64 x0, .int .i64 x1, .string x2, .slice al' ll' cl', .slice ak' m' ck'][j]? = some v → w.cell? ((a.add (i * 6)).add j) = some v) ∧ IsP w P e.2 (.agg #[.int .i64 x0, .int .i64 x1, .string x2, .slice al' ll' cl', .slice ak' m' ck']) := by
  obtain ⟨V, h⟩ := h
  cases al with
  | none => have := (h.nl rfl).1; have := (List.getElem?_eq_some_iff.1 he).1; omega
  | some a =>
    obtain ⟨_, hp⟩ := h.hv i e he
    obtain ⟨k', n', s', l', ks', al', ak', cl', ck', hy', hx⟩ := hp.shape
    have hVi : V i = [.int .i64 k', .int .i64 n', .string s', .slice al' l'.length cl', .slice ak' ks'.length ck'] := by
      have h1 := Value.agg.inj hx
      have h2 := congrArg Array.toList h1
      simpa using h2
    have hc := h.hl a rfl i e he
    rw [hVi] at hc hp
    exact ⟨a, k', n', s', al', ak', l'.length, ks'.length, cl', ck', rfl, hc.1, h.bt e (List.mem_of_getElem? he), hc.2, hp⟩
end Go.Proofs.YtdaooapfokhfcaaGreat

namespace Go.Proofs.YtdaooapfokhfcaaGreat
open Go.RowKit
set_option linter.unusedVariables false
set_option linter.unusedSimpArgs false

abbrev Us2 := List (ByteArray × (ThV × Option Vl))

/-- the cells of one that tells what stood where -/
def ucs (p : ByteArray × (ThV × Option Vl)) : List Value := .string p.1 :: (thV p.2.1 ++ [.bool p.2.2.isSome])
def cellsN (l : Us2) : List Value := l.flatMap ucs
theorem ucs_len (p : ByteArray × (ThV × Option Vl)) : (ucs p).length = 7 := rfl
theorem cellsN_cons (p : ByteArray × (ThV × Option Vl)) (l : Us2) : cellsN (p :: l) = ucs p ++ cellsN l := by simp [cellsN]
theorem cellsN_app (a b : Us2) : cellsN (a ++ b) = cellsN a ++ cellsN b := by simp [cellsN]
theorem cellsN_len : ∀ l : Us2, (cellsN l).length = l.length * 7
  | [] => rfl
  | p :: l => by rw [cellsN_cons, List.length_append, ucs_len, cellsN_len l, List.length_cons]; omega
theorem cellsN_at : ∀ (l : Us2) (i : Nat) (p : ByteArray × (ThV × Option Vl)), l[i]? = some p → ∀ j v, (ucs p)[j]? = some v → (cellsN l)[i * 7 + j]? = some v
  | [], i, p, h, _, _, _ => by simp at h
  | q :: l, 0, p, h, j, v, hv => by
    simp only [List.getElem?_cons_zero, Option.some.injEq] at h
    subst h
    rw [cellsN_cons, Nat.zero_mul, Nat.zero_add, List.getElem?_append_left (List.getElem?_eq_some_iff.1 hv).1]
    exact hv
  | q :: l, i + 1, p, h, j, v, hv => by
    rw [List.getElem?_cons_succ] at h
    have e : (i + 1) * 7 + j = (ucs q).length + (i * 7 + j) := by rw [ucs_len]; omega
    rw [cellsN_cons, e, List.getElem?_append_right (Nat.le_add_right _ _), Nat.add_sub_cancel_left]
    exact cellsN_at l i p h j v hv
theorem cellsN_take : ∀ (l : Us2) (i : Nat), i ≤ l.length → cellsN (l.take i) = (cellsN l).take (i * 7)
  | l, 0, _ => by simp [cellsN]
  | [], i + 1, h => by simp at h
  | p :: l, i + 1, h => by
    have e : (i + 1) * 7 = (ucs p).length + i * 7 := by rw [ucs_len]; omega
    rw [List.take_succ_cons, cellsN_cons, cellsN_cons, cellsN_take l i (by simpa using h), e, List.take_length_add_append]

structure Rx where
  r : Nat
  lv : Value
  lx : List (ByteArray × (ThV × Vl))
  uv : Value
  us : Us2
  mv : Value
  ms : List Nat

def Rx.own (t : Rx) (j : Nat) : Prop := j = t.r ∨ t.lv.ownBlock = some j ∨ t.uv.ownBlock = some j ∨ t.mv.ownBlock = some j
def Rx.X (t : Rx) : Xs := mapK Prod.snd t.lx
def Rx.U (t : Rx) : Us := mapK Prod.snd t.us

structure Rto (w : World) (V : Nat → Prop) (t : Rx) : Prop where
  box : w.heap[t.r]? = some (.cells #[t.lv, t.uv, t.mv] 56 (0, 0))
  row : w.ownsRow 0 77 6 t.lv t.lx.length (cellsV (mapK Prod.fst t.lx))
  ok : ∀ p ∈ t.lx, IsP w V p.2.2 (.agg (thV p.2.1).toArray)
  und : w.ownsRow 0 94 7 t.uv t.us.length (cellsN t.us)
  uok : ∀ p ∈ t.us, ∀ y, p.2.2 = some y → IsP w V y (.agg (thV p.2.1).toArray)
  mrk : w.ownsRow 0 3 1 t.mv t.ms.length (t.ms.map fun (m : Nat) => .int .i64 (m : Int))
  vs : ∀ j, V j → j < w.heap.size ∧ ¬ t.own j

section
variable {w w' w1 w2 : World} {V V' V1 V2 : Nat → Prop} {t t' t1 t2 : Rx}

theorem Rto.ty (h : Rto w V t) {j : Nat} (hj : t.own j) : ∃ T, tyOf w j T ∧ T ∈ [56, 77, 94, 3] := by
  rcases hj with rfl | hj | hj | hj
  · exact ⟨_, ⟨_, h.box⟩, by simp⟩
  · exact ⟨_, row_ty h.row hj, by simp⟩
  · exact ⟨_, row_ty h.und hj, by simp⟩
  · exact ⟨_, row_ty h.mrk hj, by simp⟩
theorem Rto.lt (h : Rto w V t) {j : Nat} (hj : t.own j) : j < w.heap.size := by
  obtain ⟨T, hT, _⟩ := h.ty hj
  exact hT.lt

theorem Rto.to (h : Rto w V t) (hw : ∀ j, t.own j ∨ V j → w'.heap[j]? = w.heap[j]?) (hV : ∀ j, V j → V' j) (hv : ∀ j, V' j → j < w'.heap.size ∧ ¬ t.own j) : Rto w' V' t :=
  ⟨(hw _ (.inl (.inl rfl))).trans h.box, row_to h.row (fun b hb => hw b (.inl (.inr (.inl hb)))), fun p hp => (h.ok p hp).to (fun b hb => hw b (.inr hb)) hV,
    row_to h.und (fun b hb => hw b (.inl (.inr (.inr (.inl hb))))), fun p hp y hy => (h.uok p hp y hy).to (fun b hb => hw b (.inr hb)) hV, row_to h.mrk (fun b hb => hw b (.inl (.inr (.inr (.inr hb))))), hv⟩

theorem Rto.later (h : Rto w V t) (hb : Below w.heap.size w w') : Rto w' V t :=
  h.to (fun j hj => hb.block j (by
    rcases hj with hj | hj
    · exact h.lt hj
    · exact (h.vs j hj).1)) (fun j hj => hj) (fun j hj => ⟨Nat.lt_of_lt_of_le (h.vs j hj).1 hb.size, (h.vs j hj).2⟩)

theorem Rto.up (h : Rto w V t) (hb : Below w.heap.size w w') : Rto w' (VUp w w' V) t :=
  h.to (fun j hj => hb.block j (by
    rcases hj with hj | hj
    · exact h.lt hj
    · exact (h.vs j hj).1)) (fun j hj => .inl hj) (fun j hj => by
    rcases hj with hj | ⟨h1, h2⟩
    · exact ⟨Nat.lt_of_lt_of_le (h.vs j hj).1 hb.size, (h.vs j hj).2⟩
    · exact ⟨h2, fun e => by have := h.lt e; omega⟩)

theorem Rto.other {G : Nat → Prop} (h : Rto w V t) (hf : Fr G w w') (h1 : ∀ j, G j → ¬ t.own j) (h2 : ∀ j, G j → ¬ V j) : Rto w' V t :=
  h.to (fun j hj => hf.block j (by
    rcases hj with hj | hj
    · exact h.lt hj
    · exact (h.vs j hj).1) (fun e => by
    rcases hj with hj | hj
    · exact h1 j e hj
    · exact h2 j e hj)) (fun j hj => hj) (fun j hj => ⟨Nat.lt_of_lt_of_le (h.vs j hj).1 hf.size, (h.vs j hj).2⟩)

theorem Rto.c0 (h : Rto w V t) : w.cell? ⟨t.r, 0, none⟩ = some t.lv := by rw [cell_of_row w t.r 0 _ _ (0, 0) h.box]; rfl
theorem Rto.c1 (h : Rto w V t) : w.cell? ⟨t.r, 1, none⟩ = some t.uv := by rw [cell_of_row w t.r 1 _ _ (0, 0) h.box]; rfl
theorem Rto.c2 (h : Rto w V t) : w.cell? ⟨t.r, 2, none⟩ = some t.mv := by rw [cell_of_row w t.r 2 _ _ (0, 0) h.box]; rfl
theorem Rto.rl (h : Rto w V t) : t.r < w.heap.size := (Array.getElem?_eq_some_iff.1 h.box).1

/-- what a doing leaves -/
structure RAdv (w w' : World) (V V' : Nat → Prop) (t t' : Rx) : Prop where
  fr : Fr t.own w w'
  own : ∀ j, t'.own j → t.own j ∨ w.heap.size ≤ j
  vs : ∀ j, V' j → V j ∨ w.heap.size ≤ j
  r : t'.r = t.r

theorem RAdv.refl (w : World) (V : Nat → Prop) (t : Rx) : RAdv w w V V t t := ⟨Fr.refl _ _, fun _ h => .inl h, fun _ h => .inl h, rfl⟩
theorem RAdv.trans (h : RAdv w w1 V V1 t t1) (h2 : RAdv w1 w2 V1 V2 t1 t2) : RAdv w w2 V V2 t t2 :=
  ⟨h.fr.trans h2.fr (fun j hj e => (h.own j e).resolve_right (by omega)), fun j hj => by
    have := h.fr.size
    rcases h2.own j hj with e | e
    · exact h.own j e
    · exact .inr (by omega), fun j hj => by
    have := h.fr.size
    rcases h2.vs j hj with e | e
    · exact h.vs j e
    · exact .inr (by omega), h2.r.trans h.r⟩
theorem RAdv.of (hb : Below w.heap.size w w') (t : Rx) (V : Nat → Prop) : RAdv w w' V (VUp w w' V) t t := ⟨Fr.of hb, fun _ h => .inl h, fun j hj => by
  rcases hj with h | ⟨h, _⟩
  · exact .inl h
  · exact .inr h, rfl⟩
theorem RAdv.of' (hb : Below w.heap.size w w') (t : Rx) (V : Nat → Prop) : RAdv w w' V V t t := ⟨Fr.of hb, fun _ h => .inl h, fun j hj => .inl hj, rfl⟩

/-- its entries have turned: a new row -/
theorem Rto.turnL {lv' : Value} {lx' : List (ByteArray × (ThV × Vl))} (h : Rto w V t) (hb : Below w.heap.size w w1) (hrow : w1.ownsRow w.heap.size 77 6 lv' lx'.length (cellsV (mapK Prod.fst lx'))) (hok : ∀ p ∈ lx', IsP w1 V1 p.2.2 (.agg (thV p.2.1).toArray)) (hV : ∀ j, V j → V1 j) (hV1 : ∀ j, V1 j → V j ∨ (w.heap.size ≤ j ∧ j < w1.heap.size ∧ lv'.ownBlock ≠ some j)) :
    Rto (w1.setCell ⟨t.r, 0, none⟩ lv') V1 { t with lv := lv', lx := lx' } ∧ RAdv w (w1.setCell ⟨t.r, 0, none⟩ lv') V V1 t { t with lv := lv', lx := lx' } := by
  have h1 := h.later hb
  have hr := h.rl
  have hne : ∀ j, j ≠ t.r → (w1.setCell ⟨t.r, 0, none⟩ lv').heap[j]? = w1.heap[j]? := fun j hj => heap_setCell_other _ _ _ _ hj
  have hT : ∀ j T, tyOf w1 j T → T ≠ 56 → (w1.setCell ⟨t.r, 0, none⟩ lv').heap[j]? = w1.heap[j]? := fun j T hj hT => hne j (ty_ne hj ⟨_, h1.box⟩ hT)
  have hbox := heap_setCell_same w1 t.r 0 _ _ lv' h1.box
  have own' : ∀ j, Rx.own { t with lv := lv', lx := lx' } j → t.own j ∨ w.heap.size ≤ j := fun j hj => by
    rcases hj with e | e | e | e
    · exact .inl (.inl e)
    · exact .inr (hrow.lt j e).1
    · exact .inl (.inr (.inr (.inl e)))
    · exact .inl (.inr (.inr (.inr e)))
  have hVne : ∀ j, V1 j → j ≠ t.r := fun j hj e => by
    rcases hV1 j hj with e2 | ⟨e2, _⟩
    · exact (h.vs j e2).2 (.inl e)
    · omega
  refine ⟨⟨hbox, own_low (row_to hrow (fun b hb' => hT b _ (row_ty hrow hb') (by decide))) (Nat.zero_le _), fun p hp => (hok p hp).move (fun b hb' => hne b (hVne b hb')), row_to h1.und (fun b hb' => hT b _ (row_ty h1.und hb') (by decide)), fun p hp y hy => ((h1.uok p hp y hy).weak hV).move (fun b hb' => hne b (hVne b hb')), row_to h1.mrk (fun b hb' => hT b _ (row_ty h1.mrk hb') (by decide)), fun j hj => ⟨?_, fun e => ?_⟩⟩, ⟨(Fr.of hb).trans (Fr.set t.r 0 lv' w1) (fun j _ e => .inl e), own', fun j hj => ?_, rfl⟩⟩
  · rw [sz_setCell]
    rcases hV1 j hj with e2 | ⟨_, e2, _⟩
    · exact Nat.lt_of_lt_of_le (h.vs j e2).1 hb.size
    · exact e2
  · rcases hV1 j hj with e2 | ⟨e2, _, e3⟩
    · rcases own' j e with e4 | e4
      · exact (h.vs j e2).2 e4
      · have := (h.vs j e2).1
        omega
    · rcases e with e | e | e | e
      · exact hVne j hj e
      · exact e3 e
      · have := h.lt (.inr (.inr (.inl e)))
        omega
      · have := h.lt (.inr (.inr (.inr e)))
        omega
  · rcases hV1 j hj with e2 | ⟨e2, _⟩
    · exact .inl e2
    · exact .inr e2

/-- what stood where has turned -/
theorem Rto.turnU {uv' : Value} {us' : Us2} (h : Rto w V t) (hf : Fr (fun j => t.uv.ownBlock = some j) w w1) (hrow : w1.ownsRow 0 94 7 uv' us'.length (cellsN us')) (hv : ∀ b, uv'.ownBlock = some b → t.uv.ownBlock = some b ∨ w.heap.size ≤ b) (hok : ∀ p ∈ us', ∀ y, p.2.2 = some y → IsP w1 V y (.agg (thV p.2.1).toArray)) :
    Rto (w1.setCell ⟨t.r, 1, none⟩ uv') V { t with uv := uv', us := us' } ∧ RAdv w (w1.setCell ⟨t.r, 1, none⟩ uv') V V t { t with uv := uv', us := us' } := by
  have hs1 : ∀ j T, tyOf w j T → T ≠ 94 → w1.heap[j]? = w.heap[j]? := fun j T hj hT => hf.block j hj.lt (fun e => ty_ne hj (row_ty h.und e) hT rfl)
  have hne : ∀ j, j ≠ t.r → (w1.setCell ⟨t.r, 1, none⟩ uv').heap[j]? = w1.heap[j]? := fun j hj => heap_setCell_other _ _ _ _ hj
  have hT : ∀ j T, tyOf w j T → T ≠ 56 → T ≠ 94 → (w1.setCell ⟨t.r, 1, none⟩ uv').heap[j]? = w.heap[j]? := fun j T hj h1 h2 => (hne j (ty_ne hj ⟨_, h.box⟩ h1)).trans (hs1 j T hj h2)
  have hVb : ∀ b, V b → (w1.setCell ⟨t.r, 1, none⟩ uv').heap[b]? = w.heap[b]? := fun b hb => (hne b (fun e => (h.vs b hb).2 (.inl e))).trans (hf.block b (h.vs b hb).1 (fun e => (h.vs b hb).2 (.inr (.inr (.inl e)))))
  have hbox := heap_setCell_same w1 t.r 1 _ _ uv' ((hs1 _ _ ⟨_, h.box⟩ (by decide)).trans h.box)
  have own' : ∀ j, Rx.own { t with uv := uv', us := us' } j → t.own j ∨ w.heap.size ≤ j := fun j hj => by
    rcases hj with e | e | e | e
    · exact .inl (.inl e)
    · exact .inl (.inr (.inl e))
    · rcases hv j e with e | e
      · exact .inl (.inr (.inr (.inl e)))
      · exact .inr e
    · exact .inl (.inr (.inr (.inr e)))
  refine ⟨⟨hbox, row_to h.row (fun b hb' => hT b _ (row_ty h.row hb') (by decide) (by decide)), fun p hp => (h.ok p hp).move hVb, row_to hrow (fun b hb' => hne b (fun e => ?_)), fun p hp y hy => (hok p hp y hy).move (fun b hb => hne b (fun e => (h.vs b hb).2 (.inl e))), row_to h.mrk (fun b hb' => hT b _ (row_ty h.mrk hb') (by decide) (by decide)), fun j hj => ⟨by rw [sz_setCell]; exact Nat.lt_of_lt_of_le (h.vs j hj).1 hf.size, fun e => ?_⟩⟩, ⟨(hf.mono (G := t.own) (fun j _ e => .inr (.inr (.inl e)))).trans (Fr.set t.r 1 uv' w1) (fun j _ e => .inl e), own', fun _ h => .inl h, rfl⟩⟩
  · have h1 : tyOf w1 t.r 56 := ⟨_, (hs1 _ _ ⟨_, h.box⟩ (by decide)).trans h.box⟩
    exact ty_ne h1 (row_ty hrow hb') (by decide) e.symm
  · rcases own' j e with e2 | e2
    · exact (h.vs j hj).2 e2
    · have := (h.vs j hj).1
      omega

/-- how many there were has turned -/
theorem Rto.turnM {mv' : Value} {ms' : List Nat} (h : Rto w V t) (hf : Fr (fun j => t.mv.ownBlock = some j) w w1) (hrow : w1.ownsRow 0 3 1 mv' ms'.length (ms'.map fun (m : Nat) => .int .i64 (m : Int))) (hv : ∀ b, mv'.ownBlock = some b → t.mv.ownBlock = some b ∨ w.heap.size ≤ b) :
    Rto (w1.setCell ⟨t.r, 2, none⟩ mv') V { t with mv := mv', ms := ms' } ∧ RAdv w (w1.setCell ⟨t.r, 2, none⟩ mv') V V t { t with mv := mv', ms := ms' } := by
  have hs1 : ∀ j T, tyOf w j T → T ≠ 3 → w1.heap[j]? = w.heap[j]? := fun j T hj hT => hf.block j hj.lt (fun e => ty_ne hj (row_ty h.mrk e) hT rfl)
  have hne : ∀ j, j ≠ t.r → (w1.setCell ⟨t.r, 2, none⟩ mv').heap[j]? = w1.heap[j]? := fun j hj => heap_setCell_other _ _ _ _ hj
  have hT : ∀ j T, tyOf w j T → T ≠ 56 → T ≠ 3 → (w1.setCell ⟨t.r, 2, none⟩ mv').heap[j]? = w.heap[j]? := fun j T hj h1 h2 => (hne j (ty_ne hj ⟨_, h.box⟩ h1)).trans (hs1 j T hj h2)
  have hVb : ∀ b, V b → (w1.setCell ⟨t.r, 2, none⟩ mv').heap[b]? = w.heap[b]? := fun b hb => (hne b (fun e => (h.vs b hb).2 (.inl e))).trans (hf.block b (h.vs b hb).1 (fun e => (h.vs b hb).2 (.inr (.inr (.inr e)))))
  have hbox := heap_setCell_same w1 t.r 2 _ _ mv' ((hs1 _ _ ⟨_, h.box⟩ (by decide)).trans h.box)
  have own' : ∀ j, Rx.own { t with mv := mv', ms := ms' } j → t.own j ∨ w.heap.size ≤ j := fun j hj => by
    rcases hj with e | e | e | e
    · exact .inl (.inl e)
    · exact .inl (.inr (.inl e))
    · exact .inl (.inr (.inr (.inl e)))
    · rcases hv j e with e | e
      · exact .inl (.inr (.inr (.inr e)))
      · exact .inr e
  refine ⟨⟨hbox, row_to h.row (fun b hb' => hT b _ (row_ty h.row hb') (by decide) (by decide)), fun p hp => (h.ok p hp).move hVb, row_to h.und (fun b hb' => hT b _ (row_ty h.und hb') (by decide) (by decide)), fun p hp y hy => (h.uok p hp y hy).move hVb, row_to hrow (fun b hb' => hne b (fun e => ?_)), fun j hj => ⟨by rw [sz_setCell]; exact Nat.lt_of_lt_of_le (h.vs j hj).1 hf.size, fun e => ?_⟩⟩, ⟨(hf.mono (G := t.own) (fun j _ e => .inr (.inr (.inr e)))).trans (Fr.set t.r 2 mv' w1) (fun j _ e => .inl e), own', fun _ h => .inl h, rfl⟩⟩
  · have h1 : tyOf w1 t.r 56 := ⟨_, (hs1 _ _ ⟨_, h.box⟩ (by decide)).trans h.box⟩
    exact ty_ne h1 (row_ty hrow hb') (by decide) e.symm
  · rcases own' j e with e2 | e2
    · exact (h.vs j hj).2 e2
    · have := (h.vs j hj).1
      omega

/-- a row cut short -/
theorem own_take {base : Nat} {T : TypeId} {σ n k cap : Nat} {b : Nat} {xs : List Value} (h : w.ownsRow base T σ (.slice (some ⟨b, 0, none⟩) n cap) n xs) (hk : k ≤ n) : w.ownsRow base T σ (.slice (some ⟨b, 0, none⟩) k cap) k (xs.take (k * σ)) := by
  rcases h.2 with ⟨e, _⟩ | ⟨g, c, cur, e, hb, hg, hc, hm, hs, ht⟩
  · cases e
  · cases e
    refine ⟨?_, .inr ⟨b, cap, cur, rfl, hb, hg, Nat.le_trans hk hc, hm, hs, ?_⟩⟩
    · rw [List.length_take, h.1]
      have := Nat.mul_le_mul_right σ hk
      omega
    · have := congrArg (List.take (k * σ)) ht
      simpa [List.take_take, Nat.min_eq_left (Nat.mul_le_mul_right σ hk)] using this
end
end Go.Proofs.YtdaooapfokhfcaaGreat
