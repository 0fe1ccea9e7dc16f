/-
  A value's bytes are bytes; no conditions but the form's own reach.
  The walks of many and few: how many parts a value has; no conditions but the form's own reach.
  A step of a region that draws: make; no conditions.
  Values whose lists are their owner's to write over: how their rows lie, and that writing over them leaves them so; no conditions.
  A value that is being made: a variable with two lists of its own that grow by one; no conditions.
-/
import Derived.Test.YtcknoeepdjhnoaaGreatDoorH05
import Derived.WalkSpells
import Derived.WalkSmall
import Derived.Deep.AppendLies
import Derived.OwnWalk
import Derived.Test.YtcknoeepdjhnoaaGreatDoorH02
import Derived.Laws.AppendOwn
import Derived.ArgAppend
import Derived.Laws.OwnMore
set_option linter.unusedVariables false
set_option linter.unusedSimpArgs false
namespace Go.Proofs.YtcknoeepdjhnoaaGreatDoor
open Go.RowKit

/-- numbers of 64 bits, texts and lists that a machine can hold -/
def fitL : List Vl → Bool
  | [] => true
  | .mk _ n s l ks :: r => (decide (-9223372036854775808 ≤ n ∧ n ≤ 9223372036854775807) && decide (s.size ≤ 140737488351232) && decide (l.length ≤ 140737488351232) && ks.all (fun t => decide (t.size ≤ 140737488351232)) && fitL l) && fitL r
def fitB : Vl → Bool
  | .mk _ n s l ks => decide (-9223372036854775808 ≤ n ∧ n ≤ 9223372036854775807) && decide (s.size ≤ 140737488351232) && decide (l.length ≤ 140737488351232) && ks.all (fun t => decide (t.size ≤ 140737488351232)) && fitL l
theorem fitL_nil : fitL [] = true := by simp only [fitL]
theorem fitL_cons (x : Vl) (r : List Vl) : fitL (x :: r) = (fitB x && fitL r) := by cases x; simp only [fitL, fitB]

theorem fit_of {w : World} {P : Nat → Prop} {kind n : Int} {s : ByteArray} {l : List Vl} {ks : List ByteArray} {al ak : Option Addr} {cl ck : Nat} {V : Nat → List Value} (h : VF w P kind n s l ks al ak cl ck V) (hl : fitL l = true) : fitB (.mk kind n s l ks) = true := by
  simp only [fitB, hl, Bool.and_true, Bool.and_eq_true, decide_eq_true_eq, List.all_eq_true]
  exact ⟨⟨⟨h.bn, h.bs⟩, h.bl⟩, h.bt⟩

theorem IsPL.fit {w : World} {P : Nat → Prop} : ∀ (l : List Vl) (V : Nat → List Value), IsPL w P l V → fitL l = true
  | [], _, _ => fitL_nil
  | .mk kind n s l ks :: r, V, h => by
    simp only [IsPL] at h
    obtain ⟨⟨al, ak, cl, ck, V', _, hf, hl⟩, hr⟩ := h
    rw [fitL_cons, fit_of hf (IsPL.fit l V' hl), IsPL.fit r _ hr]
    rfl

theorem IsP.fit {w : World} {P : Nat → Prop} {v : Vl} {x : Value} (h : IsP w P v x) : fitB v = true := by
  obtain ⟨al, ak, cl, ck, V, _, hf, hl⟩ := h
  cases v with
  | mk kind n s l ks => exact fit_of hf (IsPL.fit l V hl)

theorem IsV.fit {w : World} {B : Nat} {v : Vl} {x : Value} (h : IsV w B v x) : fitB v = true := IsP.fit h

theorem tx_small (s : ByteArray) (hs : s.size ≤ 140737488351232) : ∀ c ∈ tx s, 0 ≤ c ∧ c ≤ 255 := by
  intro c hc
  unfold tx at hc
  rcases List.mem_append.1 hc with h | h
  · exact encF9_bytes _ (by omega) (by omega) c h
  · exact nums_small s c h

theorem foldI_range {n : Int} (h : -9223372036854775808 ≤ n ∧ n ≤ 9223372036854775807) : 0 ≤ foldI n ∧ foldI n ≤ 18446744073709551615 := by
  unfold foldI
  split <;> omega

theorem encN_small {k n : Int} {s : ByteArray} {ll : Nat} {ks : List ByteArray} {body : List Int} (hf : formB k n s ll ks = true) (hn : -9223372036854775808 ≤ n ∧ n ≤ 9223372036854775807) (hs : s.size ≤ 140737488351232) (hl : ll ≤ 140737488351232) (hb : ∀ c ∈ body, 0 ≤ c ∧ c ≤ 255) : ∀ c ∈ encN k n s ll body, 0 ≤ c ∧ c ≤ 255 := by
  have hlen := encF9_bytes (ll : Int) (by omega) (by omega)
  have hfold := encF9_bytes (foldI n) (foldI_range hn).1 (foldI_range hn).2
  have htx := tx_small s hs
  intro c hc
  unfold encN at hc
  rcases form_zero hf with ⟨rfl, _⟩ | ⟨rfl, h01, _⟩ | ⟨rfl, _⟩ | ⟨rfl, _⟩ | ⟨rfl, _⟩ | ⟨rfl, _⟩
  · simp at hc; omega
  · simp at hc; omega
  · simp at hc
    rcases hc with rfl | hc
    · omega
    · exact hfold c hc
  · simp at hc
    rcases hc with rfl | hc
    · omega
    · exact htx c hc
  · simp at hc
    rcases hc with rfl | hc | hc
    · omega
    · exact hlen c hc
    · exact hb c hc
  · simp at hc
    rcases hc with rfl | hc | hc
    · omega
    · exact hlen c hc
    · exact hb c hc

theorem keyAt_small : ∀ (ks : List ByteArray) (i : Nat), (∀ t ∈ ks, t.size ≤ 140737488351232) → (keyAt ks i).size ≤ 140737488351232
  | [], _, _ => by show (0 : Nat) ≤ _; omega
  | t :: _, 0, h => h t (by simp)
  | _ :: r, i + 1, h => keyAt_small r i (fun t ht => h t (by simp [ht]))

theorem wencL_small : ∀ (r : Bool) (l : List Vl) (ks : List ByteArray) (d : Nat), okL d l = true → fitL l = true → (∀ t ∈ ks, t.size ≤ 140737488351232) → ∀ c ∈ wencL r l ks, 0 ≤ c ∧ c ≤ 255
  | _, [], _, _, _, _, _ => by simp [wencL_nil]
  | r, .mk k n s l q :: xs, ks, 0, ho, _, _ => by simp [okL] at ho
  | r, .mk k n s l q :: xs, ks, d + 1, ho, hf, hk => by
    rw [okL_cons, Bool.and_eq_true] at ho
    rw [fitL_cons, Bool.and_eq_true] at hf
    have ho1 := ho.1
    have hf1 := hf.1
    simp only [okB, Bool.and_eq_true] at ho1
    simp only [fitB, Bool.and_eq_true, decide_eq_true_eq, List.all_eq_true] at hf1
    obtain ⟨⟨⟨⟨hn, hs⟩, hl⟩, hq⟩, hfl⟩ := hf1
    have h1 := wencL_small (decide (k = 5)) l q d ho1.2 hfl hq
    have h2 := wencL_small r xs ks.tail (d + 1) ho.2 hf.2 (fun t ht => hk t (List.mem_of_mem_tail ht))
    intro c hc
    rw [wencL_cons] at hc
    simp only [wenc] at hc
    rcases List.mem_append.1 hc with hc | hc
    · rcases List.mem_append.1 hc with hc | hc
      · cases r with
        | false => simp at hc
        | true =>
          rw [if_pos rfl] at hc
          exact tx_small _ (keyAt_small ks 0 hk) c hc
      · exact encN_small ho1.1 hn hs hl h1 c hc
    · exact h2 c hc

theorem wenc_small (v : Vl) (d : Nat) (ho : okB d v = true) (hf : fitB v = true) : ∀ c ∈ wenc v, 0 ≤ c ∧ c ≤ 255 := by
  have h := wencL_small false [v] [] d (by rw [okL_cons, ho, okL_nil]; rfl) (by rw [fitL_cons, hf, fitL_nil]; rfl) (fun t ht => by cases ht)
  rw [wencL_cons, wencL_nil] at h
  simpa using h

theorem wenc_pos (v : Vl) (d : Nat) (ho : okB d v = true) : 1 ≤ (wenc v).length := by
  cases v with
  | mk k n s l ks =>
    cases d with
    | zero => simp [okB] at ho
    | succ d =>
      simp only [okB, Bool.and_eq_true] at ho
      rcases form_zero ho.1 with ⟨rfl, _⟩ | ⟨rfl, _⟩ | ⟨rfl, _⟩ | ⟨rfl, _⟩ | ⟨rfl, _⟩ | ⟨rfl, _⟩
      · rw [wenc0]; simp
      · rw [wenc1]; simp
      · rw [wenc2]; simp
      · rw [wenc3]; simp
      · rw [wenc4]; simp
      · rw [wenc5]; simp
end Go.Proofs.YtcknoeepdjhnoaaGreatDoor

namespace Go.Proofs.YtcknoeepdjhnoaaGreatDoor
open Go.RowKit

def cntL : List Vl → Nat
  | [] => 0
  | .mk _ _ _ l _ :: r => (1 + cntL l) + cntL r
def cnt : Vl → Nat
  | .mk _ _ _ l _ => 1 + cntL l
theorem cntL_nil : cntL [] = 0 := by simp only [cntL]
theorem cntL_cons (x : Vl) (r : List Vl) : cntL (x :: r) = cnt x + cntL r := by cases x; simp only [cntL, cnt]

theorem cntL_app (a b : List Vl) : cntL (a ++ b) = cntL a + cntL b := by
  induction a with
  | nil => simp [cntL_nil]
  | cons x r ih => simp [cntL_cons, ih]; omega

theorem cntL_next (l : List Vl) (i : Nat) (x : Vl) (h : l[i]? = some x) : cntL (l.take (i + 1)) = cntL (l.take i) + cnt x := by
  obtain ⟨hi, rfl⟩ := List.getElem?_eq_some_iff.1 h
  rw [List.take_succ_eq_append_getElem hi, cntL_app, cntL_cons, cntL_nil, Nat.add_zero]

theorem cntL_take_le (l : List Vl) (i : Nat) : cntL (l.take i) ≤ cntL l := by
  have h := cntL_app (l.take i) (l.drop i)
  rw [List.take_append_drop] at h
  omega

theorem cnt_pos (v : Vl) : 1 ≤ cnt v := by cases v; simp only [cnt]; omega

theorem len_cntL (l : List Vl) : l.length ≤ cntL l := by
  induction l with
  | nil => simp [cntL_nil]
  | cons x r ih => have := cnt_pos x; simp [cntL_cons]; omega

theorem dep_elem (l : List Vl) (i : Nat) (x : Vl) (h : l[i]? = some x) : dep x ≤ depL l := by
  have h1 := depL_next l i x h
  have h2 := depL_app (l.take (i + 1)) (l.drop (i + 1))
  rw [List.take_append_drop] at h2
  omega

end Go.Proofs.YtcknoeepdjhnoaaGreatDoor

namespace Go.Proofs.YtcknoeepdjhnoaaGreatDoor
open Go.RowKit

/-- 'make([]T, 0, n)', as one step of a region that draws -/
theorem step_make_own {P : Program} {ops : Array Oper} {o : Oper} {a : Act} {w : World} {K : Act → World → Prop} {Q : Exit → Act → World → Prop} {E : Prop}
    (hg : o.guard = none) (l c : Operand) (t : TypeId) (hop : o.op = Op.makeSlice t l c)
    (base : Nat) (e : TypeId) (i : TypeInfo) (z : Value) (size : Nat) (h1 : P.underlying t = some (.slice e)) (h2 : P.info? e = some i) (h3 : i.zero = some z) (h4 : i.size = size)
    (kl kc : IntKind) (C : Int) (n : Nat) (hl : a.eval l = .int kl 0) (hc : a.eval c = .int kc C) (hC : C = (n : Int)) (b2 : i.bytes * n ≤ 281474976710656) (b3 : n ≤ maxLen) (b4 : base ≤ w.heap.size)
    (hK : ∀ w', w'.ownsRow base e size (.slice (some ⟨w.heap.size, 0, none⟩) 0 n) 0 [] → w.grownBy w' none → K (a.put o.dst (.slice (some ⟨w.heap.size, 0, none⟩) 0 n)) w') :
    if Region.wanted o (yielded ops a.tmps) = true then Oper.wp P o a w K Q else E := by
  have hw : Region.wanted o (yielded ops a.tmps) = true := by simp [Region.wanted, hg]
  rw [if_pos hw]
  obtain ⟨w', hrun, r1, r2⟩ := run_make_own (P := P) w base t e i z size h1 h2 h3 h4 kl kc n b2 b3 b4
  subst hC
  unfold Oper.wp
  simp [execOp, hop, hl, hc, hrun, Result.andThen]
  exact hK w' r1 r2
end Go.Proofs.YtcknoeepdjhnoaaGreatDoor

namespace Go.Proofs.YtcknoeepdjhnoaaGreatDoor
open Go.RowKit
set_option linter.unusedVariables false
set_option linter.unusedSimpArgs false

/-- a value without lists -/
def Leaf (x : Value) : Prop := ∃ k n s, x = .agg #[.int .i64 k, .int .i64 n, .string s, .slice none 0 0, .slice none 0 0]

/-- five cells of a row -/
def Grp (cs : Array Value) (i : Nat) (y0 y1 y2 y3 y4 : Value) : Prop := cs[i * 5]? = some y0 ∧ cs[i * 5 + 1]? = some y1 ∧ cs[i * 5 + 2]? = some y2 ∧ cs[i * 5 + 3]? = some y3 ∧ cs[i * 5 + 4]? = some y4

/-- keys that may be written over -/
def TyK (w : World) (P : Nat → Prop) (ak : Option Addr) (m ck : Nat) : Prop :=
  (ak = none ∧ m = 0 ∧ ck = 0) ∨ ∃ b cs, ak = some ⟨b, 0, none⟩ ∧ P b ∧ w.heap[b]? = some (.cells cs 9 (0, 0)) ∧ cs.size = ck ∧ m ≤ ck ∧ ck ≤ maxLen ∧ 16 * m ≤ 140737488351232

/-- elements that may be written over -/
def TyL (w : World) (P : Nat → Prop) (R : Value → Prop) (al : Option Addr) (ll cl : Nat) : Prop :=
  (al = none ∧ ll = 0 ∧ cl = 0) ∨ ∃ b cs, al = some ⟨b, 0, none⟩ ∧ P b ∧ w.heap[b]? = some (.cells cs 42 (0, 0)) ∧ cs.size = cl * 5 ∧ ll ≤ cl ∧ cl ≤ maxLen ∧ ll ≤ 1000000 ∧ ∀ i, i < ll → ∃ y0 y1 y2 y3 y4, Grp cs i y0 y1 y2 y3 y4 ∧ R (.agg #[y0, y1, y2, y3, y4])

/-- a value that may be written over, so deep at most -/
def Ty (w : World) (P : Nat → Prop) : Nat → Value → Prop
  | 0, x => Leaf x
  | r + 1, x => ∃ k n s al ll cl ak m ck, x = .agg #[.int .i64 k, .int .i64 n, .string s, .slice al ll cl, .slice ak m ck] ∧ TyL w P (Ty w P r) al ll cl ∧ TyK w P ak m ck

theorem Ty.leaf {w : World} {P : Nat → Prop} {x : Value} (h : Leaf x) : ∀ r, Ty w P r x
  | 0 => h
  | r + 1 => by
    obtain ⟨k, n, s, rfl⟩ := h
    exact ⟨k, n, s, none, 0, 0, none, 0, 0, rfl, Or.inl ⟨rfl, rfl, rfl⟩, Or.inl ⟨rfl, rfl, rfl⟩⟩

theorem TyL.map {w : World} {P : Nat → Prop} {R R' : Value → Prop} {al : Option Addr} {ll cl : Nat} (h : TyL w P R al ll cl) (hR : ∀ x, R x → R' x) : TyL w P R' al ll cl := by
  rcases h with h | ⟨b, cs, h1, h2, h3, h4, h5, h6, h7, h8⟩
  · exact Or.inl h
  · refine Or.inr ⟨b, cs, h1, h2, h3, h4, h5, h6, h7, fun i hi => ?_⟩
    obtain ⟨y0, y1, y2, y3, y4, g, hr⟩ := h8 i hi
    exact ⟨y0, y1, y2, y3, y4, g, hR _ hr⟩

theorem Ty.mono {w : World} {P : Nat → Prop} : ∀ (r : Nat) (x : Value), Ty w P r x → Ty w P (r + 1) x
  | 0, x, h => Ty.leaf h 1
  | r + 1, x, h => by
    obtain ⟨k, n, s, al, ll, cl, ak, m, ck, e, hl, hk⟩ := h
    exact ⟨k, n, s, al, ll, cl, ak, m, ck, e, hl.map (fun x hx => Ty.mono r x hx), hk⟩

theorem Ty.le {w : World} {P : Nat → Prop} {r q : Nat} {x : Value} (h : Ty w P r x) (hq : r ≤ q) : Ty w P q x := by
  obtain ⟨d, rfl⟩ := Nat.exists_eq_add_of_le hq
  induction d with
  | zero => exact h
  | succ d ih => exact Ty.mono _ _ (ih (by omega))

theorem TyK.to {w w' : World} {P Q : Nat → Prop} (hw : ∀ b, P b → w'.heap[b]? = w.heap[b]?) (hP : ∀ b, P b → Q b) {ak : Option Addr} {m ck : Nat} (h : TyK w P ak m ck) : TyK w' Q ak m ck := by
  rcases h with h | ⟨b, cs, h1, h2, h3, h4⟩
  · exact Or.inl h
  · exact Or.inr ⟨b, cs, h1, hP b h2, (hw b h2).trans h3, h4⟩

theorem Ty.to {w w' : World} {P Q : Nat → Prop} (hw : ∀ b, P b → w'.heap[b]? = w.heap[b]?) (hP : ∀ b, P b → Q b) : ∀ (r : Nat) (x : Value), Ty w P r x → Ty w' Q r x
  | 0, x, h => h
  | r + 1, x, h => by
    obtain ⟨k, n, s, al, ll, cl, ak, m, ck, e, hl, hk⟩ := h
    refine ⟨k, n, s, al, ll, cl, ak, m, ck, e, ?_, hk.to hw hP⟩
    rcases hl with h | ⟨b, cs, h1, h2, h3, h4, h5, h6, h7, h8⟩
    · exact Or.inl h
    · refine Or.inr ⟨b, cs, h1, hP b h2, (hw b h2).trans h3, h4, h5, h6, h7, fun i hi => ?_⟩
      obtain ⟨y0, y1, y2, y3, y4, g, hr⟩ := h8 i hi
      exact ⟨y0, y1, y2, y3, y4, g, Ty.to hw hP r _ hr⟩

/-- a value as it lies, its lists its owner's -/
def IsQ (w : World) (P : Nat → Prop) (v : Vl) (x : Value) : Prop := IsP w P v x ∧ Ty w P (dep v) x
theorem IsQ.to {w w' : World} {P Q : Nat → Prop} (hw : ∀ b, P b → w'.heap[b]? = w.heap[b]?) (hP : ∀ b, P b → Q b) {v : Vl} {x : Value} (h : IsQ w P v x) : IsQ w' Q v x := ⟨h.1.to hw hP, Ty.to hw hP _ _ h.2⟩
theorem IsQ.weak {w : World} {P Q : Nat → Prop} (hP : ∀ b, P b → Q b) {v : Vl} {x : Value} (h : IsQ w P v x) : IsQ w Q v x := h.to (fun _ _ => rfl) hP
theorem IsQ.move {w w' : World} {P : Nat → Prop} (hw : ∀ b, P b → w'.heap[b]? = w.heap[b]?) {v : Vl} {x : Value} (h : IsQ w P v x) : IsQ w' P v x := h.to hw (fun _ h => h)
theorem IsQ.isV {w : World} {P : Nat → Prop} {B : Nat} (hP : ∀ b, P b → b < B) {v : Vl} {x : Value} (h : IsQ w P v x) : IsV w B v x := h.1.isV hP
theorem IsQ.shape {w : World} {P : Nat → Prop} {y : Vl} {x : Value} (h : IsQ w P y x) : ∃ kind n s l ks al ak cl ck, y = .mk kind n s l ks ∧ x = .agg #[.int .i64 kind, .int .i64 n, .string s, .slice al l.length cl, .slice ak ks.length ck] := h.1.shape

theorem dep_le {l : List Vl} {i : Nat} {y : Vl} (h : l[i]? = some y) : dep y ≤ depL l := by
  have h1 := depL_next l i y h
  have h2 := depL_app (l.take (i + 1)) (l.drop (i + 1))
  rw [List.take_append_drop] at h2
  omega

/-- the leaf that is written -/
def lf (k n : Int) (s : ByteArray) : List Value := [.int .i64 k, .int .i64 n, .string s, .slice none 0 0, .slice none 0 0]

end Go.Proofs.YtcknoeepdjhnoaaGreatDoor

namespace Go.Proofs.YtcknoeepdjhnoaaGreatDoor
open Go.RowKit

/-- rows of five cells, one behind the other -/
def flat (V : Nat → List Value) : Nat → List Value
  | 0 => []
  | i + 1 => flat V i ++ V i

theorem flat_len (V : Nat → List Value) : ∀ i, (∀ j, j < i → (V j).length = 5) → (flat V i).length = i * 5
  | 0, _ => rfl
  | i + 1, h => by
    simp only [flat, List.length_append]
    rw [flat_len V i (fun j hj => h j (by omega)), h i (by omega)]
    omega

theorem flat_at (V : Nat → List Value) : ∀ i, (∀ j, j < i → (V j).length = 5) → ∀ j, j < i → ∀ c v, (V j)[c]? = some v → (flat V i)[j * 5 + c]? = some v
  | 0, _, j, hj, _, _, _ => by omega
  | i + 1, h, j, hj, c, v, hc => by
    have hl := flat_len V i (fun j hj => h j (by omega))
    have h5 : c < 5 := by
      have := (List.getElem?_eq_some_iff.1 hc).1
      rw [h j hj] at this
      exact this
    simp only [flat]
    by_cases hji : j < i
    · rw [List.getElem?_append_left (by rw [hl]; omega)]
      exact flat_at V i (fun j hj => h j (by omega)) j hji c v hc
    · have e : j = i := by omega
      subst e
      rw [List.getElem?_append_right (by rw [hl]; omega), hl, show j * 5 + c - j * 5 = c by omega]
      exact hc

theorem flat_congr (V V' : Nat → List Value) : ∀ i, (∀ j, j < i → V j = V' j) → flat V i = flat V' i
  | 0, _ => rfl
  | i + 1, h => by simp only [flat]; rw [flat_congr V V' i (fun j hj => h j (by omega)), h i (by omega)]

/-- another row at i -/
def setV (V : Nat → List Value) (i : Nat) (cs : List Value) : Nat → List Value := fun j => if j = i then cs else V j

theorem setV_same (V : Nat → List Value) (i : Nat) (cs : List Value) : setV V i cs i = cs := by simp [setV]
theorem setV_other (V : Nat → List Value) (i : Nat) (cs : List Value) {j : Nat} (h : j < i) : setV V i cs j = V j := by simp [setV]; intro e; omega
theorem flat_set (V : Nat → List Value) (i : Nat) (cs : List Value) : flat (setV V i cs) (i + 1) = flat V i ++ cs := by
  simp only [flat]
  rw [setV_same, flat_congr (setV V i cs) V i (fun j hj => setV_other V i cs hj)]

/-- where the elements' own lists may lie -/
def Free (base top : Nat) (Lv Kv : Value) : Nat → Prop := fun b => base ≤ b ∧ b < top ∧ some b ≠ Lv.ownBlock ∧ some b ≠ Kv.ownBlock

/-- a value that is being made, its first i elements and its first j keys -/
structure Mid (w : World) (base gb : Nat) (k n : Int) (s : ByteArray) (l : List Vl) (ks : List ByteArray) (Lv Kv : Value) (i j : Nat) (V : Nat → List Value) : Prop where
  box : w.heap[gb]? = some (.cells #[.int .i64 k, .int .i64 n, .string s, Lv, Kv] 42 (0, 0))
  below : gb < base
  size : base ≤ w.heap.size
  ownL : w.ownsRow base 42 5 Lv i (flat V i)
  ownK : w.ownsRow base 9 1 Kv j ((ks.take j).map Value.string)
  apart : Lv.ownBlock = none ∨ Lv.ownBlock ≠ Kv.ownBlock
  row : ∀ c, c < i → (V c).length = 5
  el : ∀ c y, c < i → l[c]? = some y → IsQ w (Free base w.heap.size Lv Kv) y (.agg (V c).toArray)

theorem own_later {w w' : World} {base : Nat} {e : TypeId} {size : Nat} {v : Value} {n : Nat} {xs : List Value} (h : w.ownsRow base e size v n xs) (hb : ∀ b, b < w.heap.size → v.ownBlock = some b → w'.heap[b]? = w.heap[b]?) : w'.ownsRow base e size v n xs := by
  refine ⟨h.1, ?_⟩
  rcases h.2 with hn | ⟨g, cap, cur, rfl, hbs, hg, rest⟩
  · exact .inl hn
  · exact .inr ⟨g, cap, cur, rfl, hbs, (hb g (Array.getElem?_eq_some_iff.1 hg).1 rfl).trans hg, rest⟩

theorem Mid.later {w w' : World} {base gb : Nat} {k n : Int} {s : ByteArray} {l : List Vl} {ks : List ByteArray} {Lv Kv : Value} {i j : Nat} {V : Nat → List Value} (h : Mid w base gb k n s l ks Lv Kv i j V) (hb : Below w.heap.size w w') : Mid w' base gb k n s l ks Lv Kv i j V where
  box := (hb.block gb (Nat.lt_of_lt_of_le h.below h.size)).trans h.box
  below := h.below
  size := Nat.le_trans h.size hb.size
  ownL := own_later h.ownL (fun b hl _ => hb.block b hl)
  ownK := own_later h.ownK (fun b hl _ => hb.block b hl)
  apart := h.apart
  row := h.row
  el := fun c y hc hy => ((h.el c y hc hy).move (fun b hP => hb.block b hP.2.1)).weak (fun _ hP => ⟨hP.1, Nat.lt_of_lt_of_le hP.2.1 hb.size, hP.2.2⟩)

/-- an element more -/
theorem Mid.pushL {w w6 : World} {base gb lo g' cap : Nat} {k n : Int} {s : ByteArray} {l : List Vl} {ks : List ByteArray} {Lv Kv : Value} {i j : Nat} {V : Nat → List Value} {y : Vl} {cs : List Value}
    (h : Mid w base gb k n s l ks Lv Kv i j V) (hlo : base ≤ lo) (hL : ∀ b, Lv.ownBlock = some b → b < lo) (hK : ∀ b, Kv.ownBlock = some b → b < lo) (hy : l[i]? = some y) (hx : IsQ w (fun b => lo ≤ b ∧ b < w.heap.size) y (.agg cs.toArray)) (hcs : cs.length = 5)
    (hw6 : ∀ b, b < w.heap.size → some b ≠ Lv.ownBlock → w6.heap[b]? = w.heap[b]?) (hs6 : w.heap.size ≤ w6.heap.size) (hown : w6.ownsRow base 42 5 (.slice (some ⟨g', 0, none⟩) (i + 1) cap) (i + 1) (flat V i ++ cs)) (hat : Lv.ownBlock = some g' ∨ w.heap.size ≤ g') :
    Mid (w6.setCell ⟨gb, 3, none⟩ (.slice (some ⟨g', 0, none⟩) (i + 1) cap)) base gb k n s l ks (.slice (some ⟨g', 0, none⟩) (i + 1) cap) Kv (i + 1) j (setV V i cs) := by
  have hgb := h.below
  have hsz := h.size
  have hLb : ∀ b, Lv.ownBlock = some b → base ≤ b ∧ b < w.heap.size := h.ownL.lt
  have hKb : ∀ b, Kv.ownBlock = some b → base ≤ b ∧ b < w.heap.size := h.ownK.lt
  -- a block that is neither the variable's nor the old row stands
  have keep : ∀ b, b < w.heap.size → b ≠ gb → some b ≠ Lv.ownBlock → (w6.setCell ⟨gb, 3, none⟩ (.slice (some ⟨g', 0, none⟩) (i + 1) cap)).heap[b]? = w.heap[b]? := fun b hb hne hnr => by
    rw [heap_setCell_other _ _ _ _ (by simpa using hne), hw6 b hb hnr]
  have hgbL : some gb ≠ Lv.ownBlock := fun e => by have := (hLb gb e.symm).1; omega
  have hsz6 : (w6.setCell ⟨gb, 3, none⟩ (.slice (some ⟨g', 0, none⟩) (i + 1) cap)).heap.size = w6.heap.size := by simp
  have gK : Kv.ownBlock ≠ some g' := by
    rcases hat with hat | hat
    · rcases h.apart with ha | ha
      · rw [hat] at ha; cases ha
      · rw [← hat]; exact fun e => ha e.symm
    · intro e; have := (hKb g' e).2; omega
  have fr : ∀ b, base ≤ b → b < w.heap.size → some b ≠ Lv.ownBlock → b ≠ g' := fun b _ hb hn e => by
    rcases hat with hat | hat
    · exact hn (by rw [hat, e])
    · omega
  refine ⟨?_, h.below, by rw [hsz6]; omega, ?_, ?_, ?_, ?_, ?_⟩
  · have hb6 : w6.heap[gb]? = some (.cells #[.int .i64 k, .int .i64 n, .string s, Lv, Kv] 42 (0, 0)) := by
      rw [hw6 gb (by omega) hgbL]; exact h.box
    rw [heap_setCell_same w6 gb 3 _ _ _ hb6]
    rfl
  · rw [flat_set]
    refine own_later hown (fun b hb hbe => ?_)
    have e : b = g' := by simpa [Value.ownBlock] using hbe.symm
    have hg0 : base ≤ g' := (hown.lt g' rfl).1
    rw [heap_setCell_other _ _ _ _ (by simp; omega)]
  · refine own_later h.ownK (fun b hb hbe => keep b hb (fun e => by have := (hKb b hbe).1; omega) (fun e => ?_))
    rcases h.apart with ha | ha
    · rw [ha] at e; cases e
    · exact ha (e.symm.trans hbe.symm)
  · exact Or.inr (fun e => gK e.symm)
  · intro c hc
    by_cases e : c = i
    · subst e; rw [setV_same]; exact hcs
    · rw [setV_other V i cs (by omega)]; exact h.row c (by omega)
  · intro c z hc hz
    by_cases e : c = i
    · subst e
      rw [setV_same]
      have hzy : z = y := by rw [hy] at hz; exact (Option.some.inj hz).symm
      subst hzy
      refine (hx.move (fun b hP => keep b hP.2 (by omega) (fun e => by have := hL b e.symm; omega))).weak (fun b hP => ⟨by omega, by rw [hsz6]; omega, fun e => ?_, fun e => ?_⟩)
      · have e' : b = g' := by simpa [Value.ownBlock] using e
        rcases hat with hat | hat
        · have := hL g' hat; omega
        · omega
      · have := hK b e.symm; omega
    · rw [setV_other V i cs (by omega)]
      refine ((h.el c z (by omega) hz).move (fun b hP => keep b hP.2.1 (by have := hP.1; omega) hP.2.2.1)).weak (fun b hP => ⟨hP.1, by rw [hsz6]; have := hP.2.1; omega, fun e => ?_, hP.2.2.2⟩)
      have e' : b = g' := by simpa [Value.ownBlock] using e
      exact fr b hP.1 hP.2.1 hP.2.2.1 e'

/-- a key more -/
theorem Mid.pushK {w w6 : World} {base gb g' cap : Nat} {k n : Int} {s : ByteArray} {l : List Vl} {ks : List ByteArray} {Lv Kv : Value} {i j j' : Nat} {V : Nat → List Value}
    (h : Mid w base gb k n s l ks Lv Kv i j V)
    (hw6 : ∀ b, b < w.heap.size → some b ≠ Kv.ownBlock → w6.heap[b]? = w.heap[b]?) (hs6 : w.heap.size ≤ w6.heap.size) (hown : w6.ownsRow base 9 1 (.slice (some ⟨g', 0, none⟩) j' cap) j' ((ks.take j').map Value.string)) (hat : Kv.ownBlock = some g' ∨ w.heap.size ≤ g') :
    Mid (w6.setCell ⟨gb, 4, none⟩ (.slice (some ⟨g', 0, none⟩) j' cap)) base gb k n s l ks Lv (.slice (some ⟨g', 0, none⟩) j' cap) i j' V := by
  have hgb := h.below
  have hsz := h.size
  have hLb : ∀ b, Lv.ownBlock = some b → base ≤ b ∧ b < w.heap.size := h.ownL.lt
  have hKb : ∀ b, Kv.ownBlock = some b → base ≤ b ∧ b < w.heap.size := h.ownK.lt
  have keep : ∀ b, b < w.heap.size → b ≠ gb → some b ≠ Kv.ownBlock → (w6.setCell ⟨gb, 4, none⟩ (.slice (some ⟨g', 0, none⟩) j' cap)).heap[b]? = w.heap[b]? := fun b hb hne hnr => by
    rw [heap_setCell_other _ _ _ _ (by simpa using hne), hw6 b hb hnr]
  have hgbK : some gb ≠ Kv.ownBlock := fun e => by have := (hKb gb e.symm).1; omega
  have hsz6 : (w6.setCell ⟨gb, 4, none⟩ (.slice (some ⟨g', 0, none⟩) j' cap)).heap.size = w6.heap.size := by simp
  have gL : Lv.ownBlock ≠ some g' := by
    rcases hat with hat | hat
    · rcases h.apart with ha | ha
      · rw [ha]; exact fun e => by cases e
      · rw [← hat]; exact ha
    · intro e; have := (hLb g' e).2; omega
  refine ⟨?_, h.below, by rw [hsz6]; omega, ?_, ?_, Or.inr gL, h.row, ?_⟩
  · have hb6 : w6.heap[gb]? = some (.cells #[.int .i64 k, .int .i64 n, .string s, Lv, Kv] 42 (0, 0)) := by
      rw [hw6 gb (by omega) hgbK]; exact h.box
    rw [heap_setCell_same w6 gb 4 _ _ _ hb6]
    rfl
  · refine own_later h.ownL (fun b hb hbe => keep b hb (fun e => by have := (hLb b hbe).1; omega) (fun e => ?_))
    rcases h.apart with ha | ha
    · rw [ha] at hbe; cases hbe
    · exact ha (hbe.trans e)
  · refine own_later hown (fun b hb hbe => ?_)
    have e : b = g' := by simpa [Value.ownBlock] using hbe.symm
    have hg0 : base ≤ g' := (hown.lt g' rfl).1
    rw [heap_setCell_other _ _ _ _ (by simp; omega)]
  · intro c z hc hz
    refine ((h.el c z hc hz).move (fun b hP => keep b hP.2.1 (by have := hP.1; omega) hP.2.2.2)).weak (fun b hP => ⟨hP.1, by rw [hsz6]; have := hP.2.1; omega, hP.2.2.1, fun e => ?_⟩)
    have e' : b = g' := by simpa [Value.ownBlock] using e
    rcases hat with hat | hat
    · exact hP.2.2.2 (by rw [hat, e'])
    · have := hP.2.1; omega

/-- a row for the elements, none in it yet -/
theorem Mid.roomL {w w6 : World} {base gb g' cap : Nat} {k n : Int} {s : ByteArray} {l : List Vl} {ks : List ByteArray} {Kv : Value} {j : Nat} {V : Nat → List Value}
    (h : Mid w base gb k n s l ks (.slice none 0 0) Kv 0 j V)
    (hw6 : ∀ b, b < w.heap.size → w6.heap[b]? = w.heap[b]?) (hs6 : w.heap.size ≤ w6.heap.size) (hown : w6.ownsRow base 42 5 (.slice (some ⟨g', 0, none⟩) 0 cap) 0 []) (hat : w.heap.size ≤ g') :
    Mid (w6.setCell ⟨gb, 3, none⟩ (.slice (some ⟨g', 0, none⟩) 0 cap)) base gb k n s l ks (.slice (some ⟨g', 0, none⟩) 0 cap) Kv 0 j V := by
  have hgb := h.below
  have hsz := h.size
  have hKb : ∀ b, Kv.ownBlock = some b → base ≤ b ∧ b < w.heap.size := h.ownK.lt
  have hsz6 : (w6.setCell ⟨gb, 3, none⟩ (.slice (some ⟨g', 0, none⟩) 0 cap)).heap.size = w6.heap.size := by simp
  refine ⟨?_, h.below, by rw [hsz6]; omega, ?_, ?_, Or.inr (fun e => ?_), fun c hc => by omega, fun c y hc => by omega⟩
  · have hb6 : w6.heap[gb]? = some (.cells #[.int .i64 k, .int .i64 n, .string s, .slice none 0 0, Kv] 42 (0, 0)) := by
      rw [hw6 gb (by omega)]; exact h.box
    rw [heap_setCell_same w6 gb 3 _ _ _ hb6]
    rfl
  · refine own_later hown (fun b hb hbe => ?_)
    have e : b = g' := by simpa [Value.ownBlock] using hbe.symm
    rw [heap_setCell_other _ _ _ _ (by simp; omega)]
  · refine own_later h.ownK (fun b hb hbe => ?_)
    rw [heap_setCell_other _ _ _ _ (by have := (hKb b hbe).1; simp; omega), hw6 b hb]
  · have := (hKb g' e.symm).2
    omega

theorem slice_form {w : World} {base : Nat} {e : TypeId} {size : Nat} {v : Value} {n : Nat} {xs : List Value} (h : w.ownsRow base e size v n xs) : ∃ ao cap, v = .slice ao n cap ∧ (ao = none → n = 0 ∧ cap = 0) ∧ n ≤ cap ∧ cap ≤ maxLen ∧ ∀ a, ao = some a → v.ownBlock = some a.block ∧ a = ⟨a.block, 0, none⟩ := by
  rcases h.2 with ⟨rfl, rfl⟩ | ⟨g, cap, cur, rfl, hb, hg, h1, h2, _⟩
  · exact ⟨none, 0, rfl, fun _ => ⟨rfl, rfl⟩, Nat.le_refl _, by unfold maxLen; omega, fun a h => by cases h⟩
  · exact ⟨some ⟨g, 0, none⟩, cap, rfl, (fun e => by cases e), h1, h2, fun a h => by cases h; exact ⟨rfl, rfl⟩⟩

theorem five_set (w : World) (g : Nat) (T : TypeId) (c0 c1 c2 c3 c4 x0 x1 x2 x3 x4 : Value) (h : w.heap[g]? = some (.cells #[c0, c1, c2, c3, c4] T (0, 0))) :
    (((((w.setCell ⟨g, 0, none⟩ x0).setCell ⟨g, 1, none⟩ x1).setCell ⟨g, 2, none⟩ x2).setCell ⟨g, 3, none⟩ x3).setCell ⟨g, 4, none⟩ x4).heap[g]? = some (.cells #[x0, x1, x2, x3, x4] T (0, 0)) := by
  have h1 := heap_setCell_same w g 0 _ T x0 h
  have h2 := heap_setCell_same _ g 1 _ T x1 h1
  have h3 := heap_setCell_same _ g 2 _ T x2 h2
  have h4 := heap_setCell_same _ g 3 _ T x3 h3
  have h5 := heap_setCell_same _ g 4 _ T x4 h4
  rw [h5]
  rfl

theorem five_other (w : World) (g q : Nat) (x0 x1 x2 x3 x4 : Value) (h : q ≠ g) : (((((w.setCell ⟨g, 0, none⟩ x0).setCell ⟨g, 1, none⟩ x1).setCell ⟨g, 2, none⟩ x2).setCell ⟨g, 3, none⟩ x3).setCell ⟨g, 4, none⟩ x4).heap[q]? = w.heap[q]? := by
  rw [heap_setCell_other _ _ _ _ h, heap_setCell_other _ _ _ _ h, heap_setCell_other _ _ _ _ h, heap_setCell_other _ _ _ _ h, heap_setCell_other _ _ _ _ h]

theorem five_below {B g : Nat} {a w : World} (h : Below B a w) (hg : B ≤ g) (x0 x1 x2 x3 x4 : Value) : Below B a (((((w.setCell ⟨g, 0, none⟩ x0).setCell ⟨g, 1, none⟩ x1).setCell ⟨g, 2, none⟩ x2).setCell ⟨g, 3, none⟩ x3).setCell ⟨g, 4, none⟩ x4) :=
  ((((h.setCell (p := ⟨g, 0, none⟩) hg x0).setCell (p := ⟨g, 1, none⟩) hg x1).setCell (p := ⟨g, 2, none⟩) hg x2).setCell (p := ⟨g, 3, none⟩) hg x3).setCell (p := ⟨g, 4, none⟩) hg x4

/-- the value, when it is made -/
theorem Mid.made {w : World} {base gb : Nat} {k n : Int} {s : ByteArray} {l : List Vl} {ks : List ByteArray} {Lv Kv : Value} {i j : Nat} {V : Nat → List Value} (h : Mid w base gb k n s l ks Lv Kv i j V) (hi : i = l.length) (hj : j = ks.length)
    (bk : -9223372036854775808 ≤ k ∧ k ≤ 9223372036854775807) (bn : -9223372036854775808 ≤ n ∧ n ≤ 9223372036854775807) (bs : s.size ≤ 140737488351232) (bq : 16 * ks.length ≤ 140737488351232) (bt : ∀ t ∈ ks, t.size ≤ 140737488351232) (hbl : l.length ≤ 1000000) :
    IsQ w (fun b => base ≤ b ∧ b < w.heap.size) (.mk k n s l ks) (.agg #[.int .i64 k, .int .i64 n, .string s, Lv, Kv]) := by
  subst hi
  subst hj
  obtain ⟨al, cl, hLe, nl, ll, _, hLa⟩ := slice_form h.ownL
  obtain ⟨ak, ck, hKe, nk, lk, _, hKa⟩ := slice_form h.ownK
  have oL := h.ownL
  have oK := h.ownK
  rw [List.take_of_length_le (Nat.le_refl _)] at oK
  have e1 : (.agg #[.int .i64 k, .int .i64 n, .string s, Lv, Kv] : Value) = .agg #[.int .i64 k, .int .i64 n, .string s, .slice al l.length cl, .slice ak ks.length ck] := by rw [hLe, hKe]
  rw [e1]
  have hel := fun c y (hy : l[c]? = some y) => (h.el c y (List.getElem?_eq_some_iff.1 hy).1 hy).weak (Q := fun b => base ≤ b ∧ b < w.heap.size) (fun b hP => ⟨hP.1, hP.2.1⟩)
  refine ⟨IsP.of (V := V) ⟨bk, bn, bs, nl, nk, ll, lk, by omega, by omega, by omega, ?_, h.row, ?_, bt⟩ (fun c y hy => (hel c y hy).1), ?_⟩
  · intro a ha c hc
    obtain ⟨h1, h2⟩ := hLa a ha
    refine ⟨oL.lt _ h1, fun q v hv => ?_⟩
    have h5 : q < 5 := by have := (List.getElem?_eq_some_iff.1 hv).1; rw [h.row c hc] at this; exact this
    have hc' := oL.cells h1 (c * 5 + q) v (flat_at V l.length h.row c hc q v hv)
    have ea : (a.add (c * 5)).add q = (⟨a.block, 0, none⟩ : Addr).add (c * 5 + q) := by
      rw [h2]
      unfold Addr.add
      by_cases h0 : c * 5 = 0
      · by_cases h1 : q = 0
        · simp [h0, h1]
        · simp [h0, h1]
      · by_cases h1 : q = 0
        · simp [h0, h1]
        · simp [h0, h1]
    rw [ea]
    exact hc'
  · intro a ha c t ht
    obtain ⟨h1, h2⟩ := hKa a ha
    refine ⟨oK.lt _ h1, ?_⟩
    rw [h2]
    exact oK.cells h1 c (.string t) (by rw [List.getElem?_map, ht]; rfl)
  · show Ty w _ (1 + depL l) _
    rw [Nat.add_comm]
    refine ⟨k, n, s, al, l.length, cl, ak, ks.length, ck, rfl, ?_, ?_⟩
    · rcases oL.2 with ⟨e, hn⟩ | ⟨g, cap, cur, e, hb, hg, hnc, hcm, hsz, htk⟩
      · rw [hLe] at e
        simp only [Value.slice.injEq] at e
        exact Or.inl e
      · rw [hLe] at e
        simp only [Value.slice.injEq, true_and] at e
        obtain ⟨rfl, rfl⟩ := e
        refine Or.inr ⟨g, cur, rfl, ⟨hb, (Array.getElem?_eq_some_iff.1 hg).1⟩, hg, hsz, hnc, hcm, hbl, fun i hi => ?_⟩
        obtain ⟨y, hy⟩ : ∃ y, l[i]? = some y := ⟨_, List.getElem?_eq_getElem hi⟩
        have h5 := h.row i hi
        have hc : ∀ j v, (V i)[j]? = some v → cur[i * 5 + j]? = some v := fun j v hv => by
          have h1 := flat_at V l.length h.row i hi j v hv
          rw [← htk, List.getElem?_take] at h1
          split at h1
          · simpa using h1
          · cases h1
        have ht := (hel i y hy).2.le (dep_le hy)
        match hV : V i, h5 with
        | [y0, y1, y2, y3, y4], _ =>
          rw [hV] at hc ht
          exact ⟨y0, y1, y2, y3, y4, ⟨by simpa using hc 0 y0 rfl, hc 1 y1 rfl, hc 2 y2 rfl, hc 3 y3 rfl, hc 4 y4 rfl⟩, ht⟩
    · rcases oK.2 with ⟨e, hn⟩ | ⟨g, cap, cur, e, hb, hg, hnc, hcm, hsz, htk⟩
      · rw [hKe] at e
        simp only [Value.slice.injEq] at e
        exact Or.inl e
      · rw [hKe] at e
        simp only [Value.slice.injEq, true_and] at e
        obtain ⟨rfl, rfl⟩ := e
        exact Or.inr ⟨g, cur, rfl, ⟨hb, (Array.getElem?_eq_some_iff.1 hg).1⟩, hg, by rw [hsz, Nat.mul_one], hnc, hcm, by omega⟩
end Go.Proofs.YtcknoeepdjhnoaaGreatDoor
