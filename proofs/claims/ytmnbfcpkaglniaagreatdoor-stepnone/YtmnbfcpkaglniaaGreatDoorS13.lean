/-
  A value's bytes are bytes; no conditions but the form's own reach.
  The walks of many and few: how many parts a value has; no conditions but the form's own reach.
  A step of a region that draws: make; no conditions.
  Values whose lists are their owner's to write over: how their rows lie, and that writing over them leaves them so; no conditions.
-/
import Derived.Test.YtmnbfcpkaglniaaGreatDoorS09
import Derived.WalkSpells
import Derived.WalkSmall
import Derived.Deep.AppendLies
import Derived.OwnWalk
import Derived.Test.YtmnbfcpkaglniaaGreatDoorS06
import Derived.Laws.AppendOwn
import Derived.ArgAppend
set_option linter.unusedVariables false
set_option linter.unusedSimpArgs false
namespace Go.Proofs.YtmnbfcpkaglniaaGreatDoor
open Go.RowKit
/-- numbers of 64 bits, texts and lists that a machine can hold -/
def fitL : List Vl → Bool
  | [] => true
  | .mk _ n s l ks :: r => (decide (-9223372036854775808 ≤ n ∧ n ≤ 9223372036854775807) && decide (s.size ≤ 140737488351232) && decide (l.length ≤ 140737488351232) && ks.all (fun t => decide (t.size ≤ 140737488351232)) && fitL l) && fitL r
def fitB : Vl → Bool
  | .mk _ n s l ks => decide (-9223372036854775808 ≤ n ∧ n ≤ 9223372036854775807) && decide (s.size ≤ 140737488351232) && decide (l.length ≤ 140737488351232) && ks.all (fun t => decide (t.size ≤ 140737488351232)) && fitL l
theorem fitL_nil : fitL [] = true := by simp only [fitL]
theorem fitL_cons (x : Vl) (r : List Vl) : fitL (x :: r) = (fitB x && fitL r) := by cases x; simp only [fitL, fitB]
theorem fit_of {w : World} {P : Nat → Prop} {kind n : Int} {s : ByteArray} {l : List Vl} {ks : List ByteArray} {al ak : Option Addr} {cl ck : Nat} {V : Nat → List Value} (h : VF w P kind n s l ks al ak cl ck V) (hl : fitL l = true) : fitB (.mk kind n s l ks) = true := by
  simp only [fitB, hl, Bool.and_true, Bool.and_eq_true, decide_eq_true_eq, List.all_eq_true]
  exact ⟨⟨⟨h.bn, h.bs⟩, h.bl⟩, h.bt⟩
theorem IsPL.fit {w : World} {P : Nat → Prop} : ∀ (l : List Vl) (V : Nat → List Value), IsPL w P l V → fitL l = true
  | [], _, _ => fitL_nil
  | .mk kind n s l ks :: r, V, h => by
    simp only [IsPL] at h
    obtain ⟨⟨al, ak, cl, ck, V', _, hf, hl⟩, hr⟩ := h
    rw [fitL_cons, fit_of hf (IsPL.fit l V' hl), IsPL.fit r _ hr]
    rfl
theorem IsP.fit {w : World} {P : Nat → Prop} {v : Vl} {x : Value} (h : IsP w P v x) : fitB v = true := by
  obtain ⟨al, ak, cl, ck, V, _, hf, hl⟩ := h
  cases v with
  | mk kind n s l ks => exact fit_of hf (IsPL.fit l V hl)
theorem IsV.fit {w : World} {B : Nat} {v : Vl} {x : Value} (h : IsV w B v x) : fitB v = true := IsP.fit h
theorem tx_small (s : ByteArray) (hs : s.size ≤ 140737488351232) : ∀ c ∈ tx s, 0 ≤ c ∧ c ≤ 255 := by
  intro c hc
  unfold tx at hc
  rcases List.mem_append.1 hc with h | h
  · exact encF9_bytes _ (by omega) (by omega) c h
  · exact nums_small s c h
theorem foldI_range {n : Int} (h : -9223372036854775808 ≤ n ∧ n ≤ 9223372036854775807) : 0 ≤ foldI n ∧ foldI n ≤ 18446744073709551615 := by
  unfold foldI
  split <;> omega
theorem encN_small {k n : Int} {s : ByteArray} {ll : Nat} {ks : List ByteArray} {body : List Int} (hf : formB k n s ll ks = true) (hn : -9223372036854775808 ≤ n ∧ n ≤ 9223372036854775807) (hs : s.size ≤ 140737488351232) (hl : ll ≤ 140737488351232) (hb : ∀ c ∈ body, 0 ≤ c ∧ c ≤ 255) : ∀ c ∈ encN k n s ll body, 0 ≤ c ∧ c ≤ 255 := by
  have hlen := encF9_bytes (ll : Int) (by omega) (by omega)
  have hfold := encF9_bytes (foldI n) (foldI_range hn).1 (foldI_range hn).2
  have htx := tx_small s hs
  intro c hc
  unfold encN at hc
  rcases form_zero hf with ⟨rfl, _⟩ | ⟨rfl, h01, _⟩ | ⟨rfl, _⟩ | ⟨rfl, _⟩ | ⟨rfl, _⟩ | ⟨rfl, _⟩
  · simp at hc; omega
  · simp at hc; omega
  · simp at hc
    rcases hc with rfl | hc
    · omega
    · exact hfold c hc
  · simp at hc
    rcases hc with rfl | hc
    · omega
    · exact htx c hc
  · simp at hc
    rcases hc with rfl | hc | hc
    · omega
    · exact hlen c hc
    · exact hb c hc
  · simp at hc
    rcases hc with rfl | hc | hc
    · omega
    · exact hlen c hc
    · exact hb c hc
theorem keyAt_small : ∀ (ks : List ByteArray) (i : Nat), (∀ t ∈ ks, t.size ≤ 140737488351232) → (keyAt ks i).size ≤ 140737488351232
  | [], _, _ => by show (0 : Nat) ≤ _; omega
  | t :: _, 0, h => h t (by simp)
  | _ :: r, i + 1, h => keyAt_small r i (fun t ht => h t (by simp [ht]))
theorem wencL_small : ∀ (r : Bool) (l : List Vl) (ks : List ByteArray) (d : Nat), okL d l = true → fitL l = true → (∀ t ∈ ks, t.size ≤ 140737488351232) → ∀ c ∈ wencL r l ks, 0 ≤ c ∧ c ≤ 255
  | _, [], _, _, _, _, _ => by simp [wencL_nil]
  | r, .mk k n s l q :: xs, ks, 0, ho, _, _ => by simp [okL] at ho
  | r, .mk k n s l q :: xs, ks, d + 1, ho, hf, hk => by
    rw [okL_cons, Bool.and_eq_true] at ho
    rw [fitL_cons, Bool.and_eq_true] at hf
    have ho1 := ho.1
    have hf1 := hf.1
    simp only [okB, Bool.and_eq_true] at ho1
    simp only [fitB, Bool.and_eq_true, decide_eq_true_eq, List.all_eq_true] at hf1
    obtain ⟨⟨⟨⟨hn, hs⟩, hl⟩, hq⟩, hfl⟩ := hf1
    have h1 := wencL_small (decide (k = 5)) l q d ho1.2 hfl hq
    have h2 := wencL_small r xs ks.tail (d + 1) ho.2 hf.2 (fun t ht => hk t (List.mem_of_mem_tail ht))
    intro c hc
    rw [wencL_cons] at hc
    simp only [wenc] at hc
    rcases List.mem_append.1 hc with hc | hc
    · rcases List.mem_append.1 hc with hc | hc
      · cases r with
        | false => simp at hc
        | true =>
          rw [if_pos rfl] at hc
          exact tx_small _ (keyAt_small ks 0 hk) c hc
      · exact encN_small ho1.1 hn hs hl h1 c hc
    · exact h2 c hc
theorem wenc_small (v : Vl) (d : Nat) (ho : okB d v = true) (hf : fitB v = true) : ∀ c ∈ wenc v, 0 ≤ c ∧ c ≤ 255 := by
  have h := wencL_small false [v] [] d (by rw [okL_cons, ho, okL_nil]; rfl) (by rw [fitL_cons, hf, fitL_nil]; rfl) (fun t ht => by cases ht)
  rw [wencL_cons, wencL_nil] at h
  simpa using h
theorem wenc_pos (v : Vl) (d : Nat) (ho : okB d v = true) : 1 ≤ (wenc v).length := by
  cases v with
  | mk k n s l ks =>
    cases d with
    | zero => simp [okB] at ho
    | succ d =>
      simp only [okB, Bool.and_eq_true] at ho
      rcases form_zero ho.1 with ⟨rfl, _⟩ | ⟨rfl, _⟩ | ⟨rfl, _⟩ | ⟨rfl, _⟩ | ⟨rfl, _⟩ | ⟨rfl, _⟩
      · rw [wenc0]; simp
      · rw [wenc1]; simp
      · rw [wenc2]; simp
      · rw [wenc3]; simp
      · rw [wenc4]; simp
      · rw [wenc5]; simp
def cntL : List Vl → Nat
  | [] => 0
  | .mk _ _ _ l _ :: r => (1 + cntL l) + cntL r
def cnt : Vl → Nat
  | .mk _ _ _ l _ => 1 + cntL l
theorem cntL_nil : cntL [] = 0 := by simp only [cntL]
theorem cntL_cons (x : Vl) (r : List Vl) : cntL (x :: r) = cnt x + cntL r := by cases x; simp only [cntL, cnt]
theorem cntL_app (a b : List Vl) : cntL (a ++ b) = cntL a + cntL b := by
  induction a with
  | nil => simp [cntL_nil]
  | cons x r ih => simp [cntL_cons, ih]; omega
theorem cntL_next (l : List Vl) (i : Nat) (x : Vl) (h : l[i]? = some x) : cntL (l.take (i + 1)) = cntL (l.take i) + cnt x := by
  obtain ⟨hi, rfl⟩ := List.getElem?_eq_some_iff.1 h
  rw [List.take_succ_eq_append_getElem hi, cntL_app, cntL_cons, cntL_nil, Nat.add_zero]
theorem cntL_take_le (l : List Vl) (i : Nat) : cntL (l.take i) ≤ cntL l := by
  have h := cntL_app (l.take i) (l.drop i)
  rw [List.take_append_drop] at h
  omega
theorem cnt_pos (v : Vl) : 1 ≤ cnt v := by cases v; simp only [cnt]; omega
theorem len_cntL (l : List Vl) : l.length ≤ cntL l := by
  induction l with
  | nil => simp [cntL_nil]
  | cons x r ih => have := cnt_pos x; simp [cntL_cons]; omega
theorem cntL_wt : ∀ (l : List Vl), cntL l ≤ wtL l
  | [] => by simp [cntL_nil]
  | .mk _ _ s l ks :: r => by have := cntL_wt l; have := cntL_wt r; simp only [cntL, wtL]; omega
theorem cnt_wt (v : Vl) : cnt v ≤ wt v := by
  cases v with
  | mk k n s l ks => have := cntL_wt l; simp only [cnt, wt]; omega
theorem dep_elem (l : List Vl) (i : Nat) (x : Vl) (h : l[i]? = some x) : dep x ≤ depL l := by
  have h1 := depL_next l i x h
  have h2 := depL_app (l.take (i + 1)) (l.drop (i + 1))
  rw [List.take_append_drop] at h2
  omega
/-- 'make([]T, 0, n)', as one step of a region that draws -/
theorem step_make_own {P : Program} {ops : Array Oper} {o : Oper} {a : Act} {w : World} {K : Act → World → Prop} {Q : Exit → Act → World → Prop} {E : Prop}
    (hg : o.guard = none) (l c : Operand) (t : TypeId) (hop : o.op = Op.makeSlice t l c)
    (base : Nat) (e : TypeId) (i : TypeInfo) (z : Value) (size : Nat) (h1 : P.underlying t = some (.slice e)) (h2 : P.info? e = some i) (h3 : i.zero = some z) (h4 : i.size = size)
    (kl kc : IntKind) (C : Int) (n : Nat) (hl : a.eval l = .int kl 0) (hc : a.eval c = .int kc C) (hC : C = (n : Int)) (b2 : i.bytes * n ≤ 281474976710656) (b3 : n ≤ maxLen) (b4 : base ≤ w.heap.size)
    (hK : ∀ w', w'.ownsRow base e size (.slice (some ⟨w.heap.size, 0, none⟩) 0 n) 0 [] → w.grownBy w' none → K (a.put o.dst (.slice (some ⟨w.heap.size, 0, none⟩) 0 n)) w') :
    if Region.wanted o (yielded ops a.tmps) = true then Oper.wp P o a w K Q else E := by
  have hw : Region.wanted o (yielded ops a.tmps) = true := by simp [Region.wanted, hg]
  rw [if_pos hw]
  obtain ⟨w', hrun, r1, r2⟩ := run_make_own (P := P) w base t e i z size h1 h2 h3 h4 kl kc n b2 b3 b4
  subst hC
  unfold Oper.wp
  simp [execOp, hop, hl, hc, hrun, Result.andThen]
  exact hK w' r1 r2
set_option linter.unusedVariables false
set_option linter.unusedSimpArgs false
/-- a value without lists -/
def Leaf (x : Value) : Prop := ∃ k n s, x = .agg #[.int .i64 k, .int .i64 n, .string s, .slice none 0 0, .slice none 0 0]
/-- five cells of a row -/
def Grp (cs : Array Value) (i : Nat) (y0 y1 y2 y3 y4 : Value) : Prop := cs[i * 5]? = some y0 ∧ cs[i * 5 + 1]? = some y1 ∧ cs[i * 5 + 2]? = some y2 ∧ cs[i * 5 + 3]? = some y3 ∧ cs[i * 5 + 4]? = some y4
/-- keys that may be written over -/
def TyK (w : World) (P : Nat → Prop) (ak : Option Addr) (m ck : Nat) : Prop :=
  (ak = none ∧ m = 0 ∧ ck = 0) ∨ ∃ b cs, ak = some ⟨b, 0, none⟩ ∧ P b ∧ w.heap[b]? = some (.cells cs 9 (0, 0)) ∧ cs.size = ck ∧ m ≤ ck ∧ ck ≤ maxLen ∧ 16 * m ≤ 140737488351232
/-- elements that may be written over -/
def TyL (w : World) (P : Nat → Prop) (R : Value → Prop) (al : Option Addr) (ll cl : Nat) : Prop :=
  (al = none ∧ ll = 0 ∧ cl = 0) ∨ ∃ b cs, al = some ⟨b, 0, none⟩ ∧ P b ∧ w.heap[b]? = some (.cells cs 29 (0, 0)) ∧ cs.size = cl * 5 ∧ ll ≤ cl ∧ cl ≤ maxLen ∧ ll ≤ 1000000 ∧ ∀ i, i < ll → ∃ y0 y1 y2 y3 y4, Grp cs i y0 y1 y2 y3 y4 ∧ R (.agg #[y0, y1, y2, y3, y4])
/-- a value that may be written over, so deep at most -/
def Ty (w : World) (P : Nat → Prop) : Nat → Value → Prop
  | 0, x => Leaf x
  | r + 1, x => ∃ k n s al ll cl ak m ck, x = .agg #[.int .i64 k, .int .i64 n, .string s, .slice al ll cl, .slice ak m ck] ∧ TyL w P (Ty w P r) al ll cl ∧ TyK w P ak m ck
theorem Ty.leaf {w : World} {P : Nat → Prop} {x : Value} (h : Leaf x) : ∀ r, Ty w P r x
  | 0 => h
  | r + 1 => by
    obtain ⟨k, n, s, rfl⟩ := h
    exact ⟨k, n, s, none, 0, 0, none, 0, 0, rfl, Or.inl ⟨rfl, rfl, rfl⟩, Or.inl ⟨rfl, rfl, rfl⟩⟩
theorem TyL.map {w : World} {P : Nat → Prop} {R R' : Value → Prop} {al : Option Addr} {ll cl : Nat} (h : TyL w P R al ll cl) (hR : ∀ x, R x → R' x) : TyL w P R' al ll cl := by
  rcases h with h | ⟨b, cs, h1, h2, h3, h4, h5, h6, h7, h8⟩
  · exact Or.inl h
  · refine Or.inr ⟨b, cs, h1, h2, h3, h4, h5, h6, h7, fun i hi => ?_⟩
    obtain ⟨y0, y1, y2, y3, y4, g, hr⟩ := h8 i hi
    exact ⟨y0, y1, y2, y3, y4, g, hR _ hr⟩
theorem Ty.mono {w : World} {P : Nat → Prop} : ∀ (r : Nat) (x : Value), Ty w P r x → Ty w P (r + 1) x
  | 0, x, h => Ty.leaf h 1
  | r + 1, x, h => by
    obtain ⟨k, n, s, al, ll, cl, ak, m, ck, e, hl, hk⟩ := h
    exact ⟨k, n, s, al, ll, cl, ak, m, ck, e, hl.map (fun x hx => Ty.mono r x hx), hk⟩
theorem Ty.le {w : World} {P : Nat → Prop} {r q : Nat} {x : Value} (h : Ty w P r x) (hq : r ≤ q) : Ty w P q x := by
  obtain ⟨d, rfl⟩ := Nat.exists_eq_add_of_le hq
  induction d with
  | zero => exact h
  | succ d ih => exact Ty.mono _ _ (ih (by omega))
theorem TyK.to {w w' : World} {P Q : Nat → Prop} (hw : ∀ b, P b → w'.heap[b]? = w.heap[b]?) (hP : ∀ b, P b → Q b) {ak : Option Addr} {m ck : Nat} (h : TyK w P ak m ck) : TyK w' Q ak m ck := by
  rcases h with h | ⟨b, cs, h1, h2, h3, h4⟩
  · exact Or.inl h
  · exact Or.inr ⟨b, cs, h1, hP b h2, (hw b h2).trans h3, h4⟩
theorem Ty.to {w w' : World} {P Q : Nat → Prop} (hw : ∀ b, P b → w'.heap[b]? = w.heap[b]?) (hP : ∀ b, P b → Q b) : ∀ (r : Nat) (x : Value), Ty w P r x → Ty w' Q r x
  | 0, x, h => h
  | r + 1, x, h => by
    obtain ⟨k, n, s, al, ll, cl, ak, m, ck, e, hl, hk⟩ := h
    refine ⟨k, n, s, al, ll, cl, ak, m, ck, e, ?_, hk.to hw hP⟩
    rcases hl with h | ⟨b, cs, h1, h2, h3, h4, h5, h6, h7, h8⟩
    · exact Or.inl h
    · refine Or.inr ⟨b, cs, h1, hP b h2, (hw b h2).trans h3, h4, h5, h6, h7, fun i hi => ?_⟩
      obtain ⟨y0, y1, y2, y3, y4, g, hr⟩ := h8 i hi
      exact ⟨y0, y1, y2, y3, y4, g, Ty.to hw hP r _ hr⟩
/-- a value as it lies, its lists its owner's -/
def IsQ (w : World) (P : Nat → Prop) (v : Vl) (x : Value) : Prop := IsP w P v x ∧ Ty w P (dep v) x
theorem IsQ.to {w w' : World} {P Q : Nat → Prop} (hw : ∀ b, P b → w'.heap[b]? = w.heap[b]?) (hP : ∀ b, P b → Q b) {v : Vl} {x : Value} (h : IsQ w P v x) : IsQ w' Q v x := ⟨h.1.to hw hP, Ty.to hw hP _ _ h.2⟩
theorem IsQ.weak {w : World} {P Q : Nat → Prop} (hP : ∀ b, P b → Q b) {v : Vl} {x : Value} (h : IsQ w P v x) : IsQ w Q v x := h.to (fun _ _ => rfl) hP
theorem IsQ.move {w w' : World} {P : Nat → Prop} (hw : ∀ b, P b → w'.heap[b]? = w.heap[b]?) {v : Vl} {x : Value} (h : IsQ w P v x) : IsQ w' P v x := h.to hw (fun _ h => h)
theorem IsQ.isV {w : World} {P : Nat → Prop} {B : Nat} (hP : ∀ b, P b → b < B) {v : Vl} {x : Value} (h : IsQ w P v x) : IsV w B v x := h.1.isV hP
theorem IsQ.shape {w : World} {P : Nat → Prop} {y : Vl} {x : Value} (h : IsQ w P y x) : ∃ kind n s l ks al ak cl ck, y = .mk kind n s l ks ∧ x = .agg #[.int .i64 kind, .int .i64 n, .string s, .slice al l.length cl, .slice ak ks.length ck] := h.1.shape
theorem dep_le {l : List Vl} {i : Nat} {y : Vl} (h : l[i]? = some y) : dep y ≤ depL l := by
  have h1 := depL_next l i y h
  have h2 := depL_app (l.take (i + 1)) (l.drop (i + 1))
  rw [List.take_append_drop] at h2
  omega
/-- what writing over a row of elements leaves -/
def VCh (w w' : World) (b : Nat) : Prop := ∃ cs cs', w.heap[b]? = some (.cells cs 29 (0, 0)) ∧ w'.heap[b]? = some (.cells cs' 29 (0, 0)) ∧ cs'.size = cs.size ∧ ∀ i, (∀ j, j < 5 → cs'[i * 5 + j]? = cs[i * 5 + j]?) ∨ ∃ k n s, Grp cs' i (.int .i64 k) (.int .i64 n) (.string s) (.slice none 0 0) (.slice none 0 0)
def KCh (w w' : World) (b : Nat) : Prop := ∃ cs cs', w.heap[b]? = some (.cells cs 9 (0, 0)) ∧ w'.heap[b]? = some (.cells cs' 9 (0, 0)) ∧ cs'.size = cs.size
structure Wiped (Q : Nat → Prop) (w w' : World) : Prop where
  os : w'.os = w.os
  tape : w'.tape = w.tape
  output : w'.output = w.output
  size : w.heap.size ≤ w'.heap.size
  block : ∀ b, b < w.heap.size → w'.heap[b]? = w.heap[b]? ∨ (Q b ∧ (VCh w w' b ∨ KCh w w' b))
theorem Wiped.refl (Q : Nat → Prop) (w : World) : Wiped Q w w := ⟨rfl, rfl, rfl, Nat.le_refl _, fun _ _ => Or.inl rfl⟩
theorem Wiped.trans {Q : Nat → Prop} {w w1 w2 : World} (h : Wiped Q w w1) (h' : Wiped Q w1 w2) : Wiped Q w w2 := by
  refine ⟨h'.os.trans h.os, h'.tape.trans h.tape, h'.output.trans h.output, Nat.le_trans h.size h'.size, fun b hb => ?_⟩
  rcases h.block b hb with e | ⟨q, hv | hk⟩
  · rcases h'.block b (Nat.lt_of_lt_of_le hb h.size) with e' | ⟨q, ⟨cs, cs', h1, h2⟩ | ⟨cs, cs', h1, h2⟩⟩
    · exact Or.inl (e'.trans e)
    · exact Or.inr ⟨q, Or.inl ⟨cs, cs', e.symm.trans h1, h2⟩⟩
    · exact Or.inr ⟨q, Or.inr ⟨cs, cs', e.symm.trans h1, h2⟩⟩
  · obtain ⟨cs, cs', h1, h2, h3, h4⟩ := hv
    rcases h'.block b (Nat.lt_of_lt_of_le hb h.size) with e' | ⟨_, ⟨ds, ds', g1, g2, g3, g4⟩ | ⟨ds, ds', g1, g2, g3⟩⟩
    · exact Or.inr ⟨q, Or.inl ⟨cs, cs', h1, e'.trans h2, h3, h4⟩⟩
    · have e : cs' = ds := by rw [h2] at g1; cases g1; rfl
      subst e
      refine Or.inr ⟨q, Or.inl ⟨cs, ds', h1, g2, g3.trans h3, fun i => ?_⟩⟩
      rcases g4 i with a | a
      · rcases h4 i with c | ⟨k, n, s, c0, c1, c2, c3, c4⟩
        · exact Or.inl (fun j hj => (a j hj).trans (c j hj))
        · refine Or.inr ⟨k, n, s, ?_, ?_, ?_, ?_, ?_⟩
          · have := a 0 (by omega); rw [Nat.add_zero] at this; exact this.trans c0
          · exact (a 1 (by omega)).trans c1
          · exact (a 2 (by omega)).trans c2
          · exact (a 3 (by omega)).trans c3
          · exact (a 4 (by omega)).trans c4
      · exact Or.inr a
    · rw [h2] at g1; cases g1
  · obtain ⟨cs, cs', h1, h2, h3⟩ := hk
    rcases h'.block b (Nat.lt_of_lt_of_le hb h.size) with e' | ⟨_, ⟨ds, ds', g1, g2, g3, g4⟩ | ⟨ds, ds', g1, g2, g3⟩⟩
    · exact Or.inr ⟨q, Or.inr ⟨cs, cs', h1, e'.trans h2, h3⟩⟩
    · rw [h2] at g1; cases g1
    · have e : cs' = ds := by rw [h2] at g1; cases g1; rfl
      subst e
      exact Or.inr ⟨q, Or.inr ⟨cs, ds', h1, g2, g3.trans h3⟩⟩
theorem Wiped.of_below {Q : Nat → Prop} {w w' : World} (h : Below w.heap.size w w') : Wiped Q w w' := ⟨h.os, h.tape, h.output, h.size, fun b hb => Or.inl (h.block b hb)⟩
theorem Wiped.far {Q : Nat → Prop} {w w' : World} (h : Wiped Q w w') {b : Nat} (hb : b < w.heap.size) (hq : ¬ Q b) : w'.heap[b]? = w.heap[b]? := by
  rcases h.block b hb with e | ⟨q, _⟩
  · exact e
  · exact absurd q hq
theorem Wiped.below {Q : Nat → Prop} {w w' : World} {B : Nat} (h : Wiped Q w w') (hB : B ≤ w.heap.size) (hq : ∀ b, Q b → B ≤ b) : Below B w w' :=
  ⟨h.os, h.tape, h.output, h.size, fun k hk => h.far (by omega) (fun q => by have := hq k q; omega)⟩
theorem TyK.wiped {Q : Nat → Prop} {w w' : World} (h : Wiped Q w w') {ak : Option Addr} {m ck : Nat} (hk : TyK w Q ak m ck) : TyK w' Q ak m ck := by
  rcases hk with hk | ⟨b, cs, h1, h2, h3, h4, h5⟩
  · exact Or.inl hk
  · rcases h.block b (Array.getElem?_eq_some_iff.1 h3).1 with e | ⟨_, ⟨ds, ds', g1, g2, g3, g4⟩ | ⟨ds, ds', g1, g2, g3⟩⟩
    · exact Or.inr ⟨b, cs, h1, h2, e.trans h3, h4, h5⟩
    · rw [h3] at g1; cases g1
    · have e : cs = ds := by rw [h3] at g1; cases g1; rfl
      subst e
      exact Or.inr ⟨b, ds', h1, h2, g2, g3.trans h4, h5⟩
/-- what may be written over may still be when it was -/
theorem Ty.wiped {Q : Nat → Prop} {w w' : World} (h : Wiped Q w w') : ∀ (r : Nat) (x : Value), Ty w Q r x → Ty w' Q r x
  | 0, x, hx => hx
  | r + 1, x, hx => by
    obtain ⟨k, n, s, al, ll, cl, ak, m, ck, e, hl, hk⟩ := hx
    refine ⟨k, n, s, al, ll, cl, ak, m, ck, e, ?_, hk.wiped h⟩
    rcases hl with hl | ⟨b, cs, h1, h2, h3, h4, h5, h6, h7, h8⟩
    · exact Or.inl hl
    · rcases h.block b (Array.getElem?_eq_some_iff.1 h3).1 with e | ⟨_, ⟨ds, ds', g1, g2, g3, g4⟩ | ⟨ds, ds', g1, g2, g3⟩⟩
      · refine Or.inr ⟨b, cs, h1, h2, e.trans h3, h4, h5, h6, h7, fun i hi => ?_⟩
        obtain ⟨y0, y1, y2, y3, y4, g, hr⟩ := h8 i hi
        exact ⟨y0, y1, y2, y3, y4, g, Ty.wiped h r _ hr⟩
      · have e : cs = ds := by rw [h3] at g1; cases g1; rfl
        subst e
        refine Or.inr ⟨b, ds', h1, h2, g2, g3.trans h4, h5, h6, h7, fun i hi => ?_⟩
        rcases g4 i with a | ⟨k', n', s', c⟩
        · obtain ⟨y0, y1, y2, y3, y4, ⟨c0, c1, c2, c3, c4⟩, hr⟩ := h8 i hi
          refine ⟨y0, y1, y2, y3, y4, ⟨?_, (a 1 (by omega)).trans c1, (a 2 (by omega)).trans c2, (a 3 (by omega)).trans c3, (a 4 (by omega)).trans c4⟩, Ty.wiped h r _ hr⟩
          have := a 0 (by omega)
          rw [Nat.add_zero] at this
          exact this.trans c0
        · exact ⟨_, _, _, _, _, c, Ty.leaf ⟨_, _, _, rfl⟩ r⟩
      · rw [h3] at g1; cases g1
/-- the leaf that is written -/
def lf (k n : Int) (s : ByteArray) : List Value := [.int .i64 k, .int .i64 n, .string s, .slice none 0 0, .slice none 0 0]
/-- five cells are set -/
theorem setW5 (cs : Array Value) (i : Nat) (y0 y1 y2 y3 y4 : Value) (h : i * 5 + 5 ≤ cs.size) :
    (((((cs.setIfInBounds (i * 5) y0).setIfInBounds (i * 5 + 1) y1).setIfInBounds (i * 5 + 2) y2).setIfInBounds (i * 5 + 3) y3).setIfInBounds (i * 5 + 4) y4).size = cs.size ∧
    Grp (((((cs.setIfInBounds (i * 5) y0).setIfInBounds (i * 5 + 1) y1).setIfInBounds (i * 5 + 2) y2).setIfInBounds (i * 5 + 3) y3).setIfInBounds (i * 5 + 4) y4) i y0 y1 y2 y3 y4 ∧
    ∀ q, q ≠ i → ∀ j, j < 5 → (((((cs.setIfInBounds (i * 5) y0).setIfInBounds (i * 5 + 1) y1).setIfInBounds (i * 5 + 2) y2).setIfInBounds (i * 5 + 3) y3).setIfInBounds (i * 5 + 4) y4)[q * 5 + j]? = cs[q * 5 + j]? := by
  refine ⟨by simp, ⟨?_, ?_, ?_, ?_, ?_⟩, fun q hq j hj => ?_⟩
  · simp [Array.getElem?_setIfInBounds, show i * 5 < cs.size by omega]
  · simp [Array.getElem?_setIfInBounds, show i * 5 + 1 < cs.size by omega]
  · simp [Array.getElem?_setIfInBounds, show i * 5 + 2 < cs.size by omega]
  · simp [Array.getElem?_setIfInBounds, show i * 5 + 3 < cs.size by omega]
  · simp [Array.getElem?_setIfInBounds, show i * 5 + 4 < cs.size by omega]
  · have h0 : ¬ i * 5 = q * 5 + j := by omega
    have h1 : ¬ i * 5 + 1 = q * 5 + j := by omega
    have h2 : ¬ i * 5 + 2 = q * 5 + j := by omega
    have h3 : ¬ i * 5 + 3 = q * 5 + j := by omega
    have h4 : ¬ i * 5 + 4 = q * 5 + j := by omega
    rw [Array.getElem?_setIfInBounds_ne h4, Array.getElem?_setIfInBounds_ne h3, Array.getElem?_setIfInBounds_ne h2, Array.getElem?_setIfInBounds_ne h1, Array.getElem?_setIfInBounds_ne h0]
/-- an element is written over -/
theorem wipe_at {Q : Nat → Prop} {w : World} {b i : Nat} {cs : Array Value} (k n : Int) (s : ByteArray) (hb : w.heap[b]? = some (.cells cs 29 (0, 0))) (hq : Q b) (hi : i * 5 + 5 ≤ cs.size) :
    Wiped Q w (((((w.setCell ⟨b, i * 5, none⟩ (.int .i64 k)).setCell ⟨b, i * 5 + 1, none⟩ (.int .i64 n)).setCell ⟨b, i * 5 + 2, none⟩ (.string s)).setCell ⟨b, i * 5 + 3, none⟩ (.slice none 0 0)).setCell ⟨b, i * 5 + 4, none⟩ (.slice none 0 0)) := by
  have hlt := (Array.getElem?_eq_some_iff.1 hb).1
  have h1 := heap_setCell_same w b (i * 5) _ 29 (.int .i64 k) hb
  have h2 := heap_setCell_same _ b (i * 5 + 1) _ 29 (.int .i64 n) h1
  have h3 := heap_setCell_same _ b (i * 5 + 2) _ 29 (.string s) h2
  have h4 := heap_setCell_same _ b (i * 5 + 3) _ 29 (.slice none 0 0) h3
  have h5 := heap_setCell_same _ b (i * 5 + 4) _ 29 (.slice none 0 0) h4
  obtain ⟨s1, s2, s3⟩ := setW5 cs i (.int .i64 k) (.int .i64 n) (.string s) (.slice none 0 0) (.slice none 0 0) hi
  have B := ((((((Below.refl 0 w).setCell (p := ⟨b, i * 5, none⟩) (Nat.zero_le _) (.int .i64 k)).setCell (p := ⟨b, i * 5 + 1, none⟩) (Nat.zero_le _) (.int .i64 n)).setCell (p := ⟨b, i * 5 + 2, none⟩) (Nat.zero_le _) (.string s)).setCell (p := ⟨b, i * 5 + 3, none⟩) (Nat.zero_le _) (.slice none 0 0)).setCell (p := ⟨b, i * 5 + 4, none⟩) (Nat.zero_le _) (.slice none 0 0))
  refine ⟨B.os, B.tape, B.output, B.size, fun q _ => ?_⟩
  by_cases e : q = b
  · subst e
    refine Or.inr ⟨hq, Or.inl ⟨cs, _, hb, h5, s1, fun j => ?_⟩⟩
    by_cases hk : j = i
    · subst hk; exact Or.inr ⟨k, n, s, s2⟩
    · exact Or.inl (s3 j hk)
  · refine Or.inl ?_
    rw [heap_setCell_other _ _ _ _ e, heap_setCell_other _ _ _ _ e, heap_setCell_other _ _ _ _ e, heap_setCell_other _ _ _ _ e, heap_setCell_other _ _ _ _ e]
/-- a key is written over -/
theorem wipe_key {Q : Nat → Prop} {w : World} {b i : Nat} {cs : Array Value} (v : Value) (hb : w.heap[b]? = some (.cells cs 9 (0, 0))) (hq : Q b) : Wiped Q w (w.setCell ⟨b, i, none⟩ v) := by
  have h1 := heap_setCell_same w b i _ 9 v hb
  have B := (Below.refl 0 w).setCell (p := ⟨b, i, none⟩) (Nat.zero_le _) v
  refine ⟨B.os, B.tape, B.output, B.size, fun q _ => ?_⟩
  by_cases e : q = b
  · subst e
    exact Or.inr ⟨hq, Or.inr ⟨cs, _, hb, h1, by simp⟩⟩
  · exact Or.inl (heap_setCell_other _ _ _ _ e)
/-- a row that grows behind a value's own: its own, or a new one -/
def Row (w : World) (Q : Nat → Prop) (lo : Nat) (e : TypeId) (size : Nat) (v : Value) (n : Nat) : Prop :=
  (v = .slice none 0 0 ∧ n = 0) ∨ ∃ b cap cs, v = .slice (some ⟨b, 0, none⟩) n cap ∧ (Q b ∨ lo ≤ b) ∧ w.heap[b]? = some (.cells cs e (0, 0)) ∧ cs.size = cap * size ∧ n ≤ cap ∧ cap ≤ maxLen
theorem Row.later {w w' : World} {Q : Nat → Prop} {lo : Nat} {e : TypeId} {size : Nat} {v : Value} {n : Nat} (h : Row w Q lo e size v n) (hb : Below w.heap.size w w') : Row w' Q lo e size v n := by
  rcases h with h | ⟨b, cap, cs, h1, h2, h3, h4⟩
  · exact Or.inl h
  · exact Or.inr ⟨b, cap, cs, h1, h2, (hb.block b (Array.getElem?_eq_some_iff.1 h3).1).trans h3, h4⟩
theorem TyL.row {w : World} {Q : Nat → Prop} {lo : Nat} {R : Value → Prop} {al : Option Addr} {ll cl : Nat} (h : TyL w Q R al ll cl) : Row w Q lo 29 5 (.slice al ll cl) ll := by
  rcases h with ⟨rfl, rfl, rfl⟩ | ⟨b, cs, rfl, h2, h3, h4, h5, h6, _⟩
  · exact Or.inl ⟨rfl, rfl⟩
  · exact Or.inr ⟨b, cl, cs, rfl, Or.inl h2, h3, h4, h5, h6⟩
theorem TyK.row {w : World} {Q : Nat → Prop} {lo : Nat} {ak : Option Addr} {m ck : Nat} (h : TyK w Q ak m ck) : Row w Q lo 9 1 (.slice ak m ck) m := by
  rcases h with ⟨rfl, rfl, rfl⟩ | ⟨b, cs, rfl, h2, h3, h4, h5, h6, _⟩
  · exact Or.inl ⟨rfl, rfl⟩
  · exact Or.inr ⟨b, ck, cs, rfl, Or.inl h2, h3, by rw [Nat.mul_one]; exact h4, h5, h6⟩
end Go.Proofs.YtmnbfcpkaglniaaGreatDoor
