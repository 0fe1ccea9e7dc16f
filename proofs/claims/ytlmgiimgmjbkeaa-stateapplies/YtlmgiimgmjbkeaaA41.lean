/-
  The walk of state.Apply: the entries to which changes lead; conditions: the form's own reach.
-/
import Derived.Test.YtlmgiimgmjbkeaaA40
import Derived.Laws.ResultCell
set_option linter.unusedVariables false
set_option linter.unusedSimpArgs false
namespace Go.Proofs.Ytlmgiimgmjbkeaa
open Go.RowKit Go.Shelf
set_option linter.unusedVariables false
set_option linter.unusedSimpArgs false

def codeA (es : List En) (cs : List Ch) : Int := if rightE es then (if stepsE (keysH cs) then (if apB (es.length + cs.length) es cs then (if rightE (apL (es.length + cs.length) es cs) then 0 else 73) else 73) else 73) else 70
def applyL (es : List En) (cs : List Ch) : List En := if codeA es cs = 0 then apL (es.length + cs.length) es cs else []

def ApAns (b : Bool) (l : List En) (c : Int) (xs : List Eo) : Prop := if b then (if rightE l then c = 0 ∧ xs.map enOf = l else c = 73 ∧ xs = []) else c = 73 ∧ xs = []

/-- two results that lie in memory -/
theorem ret_cc {P : Program} {fn : Func} {p u : Tmp} {T U : TypeId} (h : fn.results = #[.cell p T, .cell u U]) (tmps : Array Value) (w : World) (g g' : Nat) (v v' : Value)
    (hp : tmps.getD p undef = .pointer (some ⟨g, 0, none⟩)) (hu : tmps.getD u undef = .pointer (some ⟨g', 0, none⟩)) (hv : (loadVar T ⟨g, 0, none⟩).run P w = .ok v w) (hv' : (loadVar U ⟨g', 0, none⟩).run P w = .ok v' w) :
    (results fn tmps).run P w = .ok (.tuple #[v, v']) w := by
  have hp' : tmps[p]?.getD undef = .pointer (some ⟨g, 0, none⟩) := by simpa using hp
  have hu' : tmps[u]?.getD undef = .pointer (some ⟨g', 0, none⟩) := by simpa using hu
  simp [results, h, hp', hu', asAddr, Result.andThen, hv, hv']

theorem loadSE (w : World) (g : Nat) (v : Value) (T : TypeId) (h : w.heap[g]? = some (.cells #[v] T (0, 0))) : (loadVar 22 ⟨g, 0, none⟩).run Try.prog w = .ok v w := by
  have hc : w.cell? ⟨g, 0, none⟩ = some v := by rw [cell_of_row w g 0 _ _ (0, 0) h]; rfl
  simp [loadVar, go_sem, hc]
theorem loadER (w : World) (g : Nat) (v : Value) (T : TypeId) (h : w.heap[g]? = some (.cells #[v] T (0, 0))) : (loadVar 26 ⟨g, 0, none⟩).run Try.prog w = .ok v w := by
  have hc : w.cell? ⟨g, 0, none⟩ = some v := by rw [cell_of_row w g 0 _ _ (0, 0) h]; rfl
  simp [loadVar, go_sem, hc]

theorem two_res {u : World} {g4 g5 : Nat} {a b : Value} {T U : TypeId} (h4 : u.heap[g4]? = some (.cells #[a] T (0, 0))) (h5 : u.heap[g5]? = some (.cells #[b] U (0, 0))) (hne : g4 ≠ g5) (c d : Value) :
    ((u.setCell ⟨g4, 0, none⟩ c).setCell ⟨g5, 0, none⟩ d).heap[g4]? = some (.cells #[c] T (0, 0)) ∧ ((u.setCell ⟨g4, 0, none⟩ c).setCell ⟨g5, 0, none⟩ d).heap[g5]? = some (.cells #[d] U (0, 0)) ∧ (∀ k, k ≠ g4 → k ≠ g5 → ((u.setCell ⟨g4, 0, none⟩ c).setCell ⟨g5, 0, none⟩ d).heap[k]? = u.heap[k]?) ∧ ((u.setCell ⟨g4, 0, none⟩ c).setCell ⟨g5, 0, none⟩ d).heap.size = u.heap.size := by
  have e4 := heap_setCell_same u g4 0 _ T c h4
  have e5 : (u.setCell ⟨g4, 0, none⟩ c).heap[g5]? = some (.cells #[b] U (0, 0)) := (heap_setCell_other _ _ _ _ (fun e => hne e.symm)).trans h5
  exact ⟨(heap_setCell_other _ _ _ _ hne).trans e4, heap_setCell_same _ g5 0 _ U d e5, fun k k4 k5 => (heap_setCell_other _ _ _ _ k5).trans (heap_setCell_other _ _ _ _ k4), by rw [sz_setCell, sz_setCell]⟩

theorem sdC_form (o : Option Cc) : ∃ k g t0 t1 t2 t3 t4 t5 t6 t7 t8 h, sdC o = [.string k, .bool g, .int .i64 t0, .int .i64 t1, .string t2, .slice t3 t4 t5, .slice t6 t7 t8, .bool h] ∧ h = o.isSome := by
  cases o with
  | none => exact ⟨_, _, _, _, _, _, _, _, _, _, _, false, rfl, rfl⟩
  | some c => exact ⟨_, _, _, _, _, _, _, _, _, _, _, true, rfl, rfl⟩

theorem its_attachC (l : List (Option Nat × Option Nat)) (CA : Nat → Ce) (CB : Nat → Cc) : l.attach.map (fun x => (x.1.1.map CA, x.1.2.map CB)) = l.map (fun x => (x.1.map CA, x.2.map CB)) := by
  have : l.attach.map ((fun x : Option Nat × Option Nat => (x.1.map CA, x.2.map CB)) ∘ Subtype.val) = l.map (fun x => (x.1.map CA, x.2.map CB)) := by rw [← List.map_map, List.attach_map_subtype_val]
  exact this

theorem outI_bt (es : List En) (cs : List Ch) (he : ∀ e ∈ es, e.1.size ≤ 140737488351232) (hc : ∀ e ∈ cs, e.1.size ≤ 140737488351232) (x : Option Nat × Option Nat) : ∀ e ∈ outI es cs x, e.1.size ≤ 140737488351232 := by
  obtain ⟨a, b⟩ := x
  intro e hm
  unfold outI lk at hm
  cases b with
  | none =>
    cases a with
    | none => cases hm
    | some i =>
      cases hi : es[i]? with
      | none => simp [hi, outA] at hm
      | some y => simp [hi, outA] at hm; subst hm; exact he _ (List.mem_of_getElem? hi)
  | some j =>
    cases hj : cs[j]? with
    | none =>
      cases a with
      | none => simp [hj, outA] at hm
      | some i =>
        cases hi : es[i]? with
        | none => simp [hi, hj, outA] at hm
        | some y => simp [hi, hj, outA] at hm; subst hm; exact he _ (List.mem_of_getElem? hi)
    | some y =>
      obtain ⟨k, g, v⟩ := y
      have hk := hc _ (List.mem_of_getElem? hj)
      have hm' : e ∈ (if g then [] else [(k, v)]) := by
        cases a with
        | none => simpa [hj, outA] using hm
        | some i => cases hi : es[i]? <;> simpa [hi, hj, outA] using hm
      cases g with
      | true => cases hm'
      | false => simp at hm'; subst hm'; exact hk

set_option maxRecDepth 100000 in
set_option maxHeartbeats 8000000 in
attribute [local go_sem] Oper.semAt_some in
theorem applyE_right (es : List En) (cs : List Ch) (al bl : Option Addr) (n cl m ck B : Nat) (w : World) (hn : es.length = n) (hm : cs.length = m) (h : IsE w (fun b => b < B) es al cl) (h' : IsH w (fun b => b < B) cs bl ck) (hB : B ≤ w.heap.size) (hmb : 104 * m ≤ 140737488355328) (hR : rightE es = true) (hS : stepsE (keysH cs) = true) :
    Calls Try.prog 14 #[.slice al n cl, .slice bl m ck] w fun e w' => ∃ sv xs c, e = .returned (.tuple #[sv, .int .i64 c]) ∧ EnN w' w.heap.size sv xs ∧ Below w.heap.size w w' ∧ ApAns (apB (n + m) es cs) (apL (n + m) es cs) c xs := by
  have hn128 := (right_len hR).1
  rw [hn] at hn128
  have CR : Hid (∀ u, Below w.heap.size w u → Calls Try.prog 20 #[.slice al n cl] u fun e w' => e = .returned (.bool true) ∧ Below u.heap.size u w') := hide (fun u hu => by
    have := rightE_any es al n cl B u hn (h.later (hu.mono hB)) (Nat.le_trans hB hu.size)
    rw [hR] at this
    exact this)
  have CR' : Hid (∀ u, Below w.heap.size w u → Calls Try.prog 32 #[.slice bl m ck, .func (.func 33) #[] #[]] u fun e w' => e = .returned (.bool true) ∧ Below u.heap.size u w') := hide (fun u hu => by
    have := risingC_any cs bl m ck B u hm (h'.later (hu.mono hB)) (Nat.le_trans hB hu.size)
    rw [hS] at this
    exact this)
  obtain ⟨CA, hCA, hVA⟩ := h.rwE hB
  obtain ⟨CB, hCB, hVB⟩ := h'.rwC hB
  have HEA : Hid (∀ W, Below w.heap.size w W → ∀ i e, es[i]? = some e → (CA i).1 = e.1 ∧ IsV W B e.2 (.agg (ceL (CA i)).tail.toArray) ∧ entB e = true) := hide (fun W hW i e he => ⟨(hVA i e he).1, IsV.mono (hW.mono hB) (hVA i e he).2, (right_len hR).2 e (List.mem_of_getElem? he)⟩)
  have HEB : Hid (∀ W, Below w.heap.size w W → ∀ i e, cs[i]? = some e → (CB i).1 = e.1 ∧ (CB i).2.1 = e.2.1 ∧ IsV W B e.2.2 (.agg (ccL (CB i)).tail.tail.toArray)) := hide (fun W hW i e he => ⟨(hVB i e he).1, (hVB i e he).2.1, IsV.mono (hW.mono hB) (hVB i e he).2.2⟩)
  have HRW := hide (And.intro hCA hCB)
  have HN := hide (And.intro hn hm)
  have HB := hide hB
  have HMB := hide hmb
  have HBT : Hid (∀ x, ∀ e ∈ outI es cs x, e.1.size ≤ 140737488351232) := hide (outI_bt es cs (fun e he => by have := (right_len hR).2 e he; unfold entB at this; simp only [Bool.and_eq_true, decide_eq_true_eq] at this; have := this.1.2; omega) (by obtain ⟨V, h'⟩ := h'; exact h'.bt))
  have HAP : Hid ((sdN (keysE es) (keysH cs) (n + m) 0 0).flatMap (outI es cs) = apL (n + m) es cs ∧ (sdN (keysE es) (keysH cs) (n + m) 0 0).all (leadI es cs) = apB (n + m) es cs) := hide ⟨sdN_out es cs _, sdN_lead es cs _⟩
  obtain ⟨its, hits⟩ : ∃ its, sdN (keysE es) (keysH cs) (n + m) 0 0 = its := ⟨_, rfl⟩
  rw [hits] at HAP
  have HIT := hide hits
  obtain ⟨AL, hAL⟩ : ∃ AL, apL (n + m) es cs = AL := ⟨_, rfl⟩
  obtain ⟨AB, hAB⟩ : ∃ AB, apB (n + m) es cs = AB := ⟨_, rfl⟩
  rw [hAL, hAB] at HAP
  rw [hAL, hAB]
  clear h h' hR hS hCA hCB hVA hVB hn hm hB hits hmb hAL hAB
  obtain ⟨g4, hg4⟩ : ∃ g4, w.heap.size = g4 := ⟨_, rfl⟩
  obtain ⟨v1, hv1⟩ : ∃ v1, w.alloc (.cells #[.slice none 0 0] 22) = v1 := ⟨_, rfl⟩
  obtain ⟨g5, hg5⟩ : ∃ g5, v1.heap.size = g5 := ⟨_, rfl⟩
  obtain ⟨v2, hv2⟩ : ∃ v2, v1.alloc (.cells #[.int .i64 0] 26) = v2 := ⟨_, rfl⟩
  have n4 : v1.heap[g4]? = some (.cells #[.slice none 0 0] 22 (0, 0)) := by rw [← hv1, ← hg4]; exact heap_alloc_new w _
  have x1 : Below w.heap.size w v1 := by rw [← hv1]; exact (Below.refl _ _).alloc (Nat.le_refl _) _
  have n5 : v2.heap[g5]? = some (.cells #[.int .i64 0] 26 (0, 0)) := by rw [← hv2, ← hg5]; exact heap_alloc_new v1 _
  have x2 : Below v1.heap.size v1 v2 := by rw [← hv2]; exact (Below.refl _ _).alloc (Nat.le_refl _) _
  have hs1 : v1.heap.size = w.heap.size + 1 := by rw [← hv1]; simp
  have HV0 : Hid (Below w.heap.size w v2 ∧ v2.heap[g4]? = some (.cells #[.slice none 0 0] 22 (0, 0)) ∧ v2.heap[g5]? = some (.cells #[.int .i64 0] 26 (0, 0)) ∧ w.heap.size ≤ g4 ∧ w.heap.size ≤ g5 ∧ g4 ≠ g5) := hide ⟨x1.trans (x2.mono x1.size), (x2.block g4 (Array.getElem?_eq_some_iff.1 n4).1).trans n4, n5, by omega, by omega, by omega⟩
  have C1 := hide (unhide CR v2 (unhide HV0).1)
  clear n4 n5 x1 x2 hs1
  refine (callsIn_wide (n := 5)).1 ?_
  refine callsIn_of_wp_marks Try.func14 rfl trivial ?_ rfl
  simp only [Try.ntmps14, List.size_toArray, List.length_cons, List.length_nil, Nat.reduceAdd, Nat.reduceSub, Array.replicate_succ, Array.replicate_zero, List.push_toArray, List.append_toArray, List.nil_append, List.cons_append]
  refine wpIn_wide.2 ?_
  go_wp2_with fail
  refine (unhide C1).mono ?_
  rintro e u1 ⟨rfl, b1⟩
  have B1 : Hid (Below w.heap.size w u1 ∧ Below v2.heap.size v2 u1) := hide ⟨(unhide HV0).1.trans (b1.mono (unhide HV0).1.size), b1⟩
  have C2 := hide (unhide CR' u1 (unhide B1).1)
  clear b1 C1
  go_wp2_with fail
  refine (unhide C2).mono ?_
  rintro e u2 ⟨rfl, b2⟩
  have B2 : Hid (Below w.heap.size w u2 ∧ Below v2.heap.size v2 u2) := hide ⟨(unhide B1).1.trans (b2.mono (unhide B1).1.size), (unhide B1).2.trans (b2.mono (unhide B1).2.size)⟩
  clear b2 C2 CR CR' B1
  obtain ⟨w1, hw1⟩ : ∃ w1, u2.alloc (.cells #[.slice none 0 0] 22) = w1 := ⟨_, rfl⟩
  obtain ⟨go, hgo⟩ : ∃ go, u2.heap.size = go := ⟨_, rfl⟩
  have N1 : w1.heap[go]? = some (.cells #[.slice none 0 0] 22 (0, 0)) := by rw [← hw1, ← hgo]; exact heap_alloc_new u2 _
  have X1 : Below u2.heap.size u2 w1 := by rw [← hw1]; exact (Below.refl _ _).alloc (Nat.le_refl _) _
  have hgl : go < w1.heap.size := (Array.getElem?_eq_some_iff.1 N1).1
  have HB1 : Hid (Below w.heap.size w w1 ∧ w1.heap[go]? = some (.cells #[.slice none 0 0] 22 (0, 0)) ∧ w.heap.size ≤ go ∧ go < w1.heap.size ∧ w1.heap[g4]? = some (.cells #[.slice none 0 0] 22 (0, 0)) ∧ w1.heap[g5]? = some (.cells #[.int .i64 0] 26 (0, 0)) ∧ g4 < go ∧ g5 < go) := hide (by
    obtain ⟨q1, q2, q3, q4, q5, q6⟩ := unhide HV0
    have l4 := (Array.getElem?_eq_some_iff.1 q2).1
    have l5 := (Array.getElem?_eq_some_iff.1 q3).1
    have s1 := (unhide B2).2.size
    exact ⟨(unhide B2).1.trans (X1.mono (unhide B2).1.size), N1, by have := (unhide B2).1.size; omega, hgl, (X1.block g4 (by omega)).trans (((unhide B2).2.block g4 l4).trans q2), (X1.block g5 (by omega)).trans (((unhide B2).2.block g5 l5).trans q3), by omega, by omega⟩)
  have CS := hide (sidesC_call al bl n cl m ck w1)
  clear N1 X1 hgl B2
  go_wp2_with fail
  refine (unhide CS).mono ?_
  rintro e w7 ⟨p1, p2, p3, p4, rfl, hS, hp, b7⟩
  have H7 : Hid (Below w.heap.size w w7 ∧ w7.heap[go]? = some (.cells #[.slice none 0 0] 22 (0, 0)) ∧ SidesC w7 al n cl bl m ck p1 p2 p3 p4 ∧ (go < p1 ∧ go < p2 ∧ go < p3 ∧ go < p4) ∧ w7.heap[g4]? = some (.cells #[.slice none 0 0] 22 (0, 0)) ∧ w7.heap[g5]? = some (.cells #[.int .i64 0] 26 (0, 0))) := hide (by
    obtain ⟨f1, f2, f3, f4, f5, f6, f7, f8⟩ := unhide HB1
    exact ⟨f1.trans (b7.mono f1.size), (b7.block go f4).trans f2, hS, by omega, (b7.block g4 (by omega)).trans f5, (b7.block g5 (by omega)).trans f6⟩)
  have HGG : Hid (w.heap.size ≤ go ∧ w.heap.size ≤ g4 ∧ w.heap.size ≤ g5 ∧ go < w7.heap.size ∧ g4 ≠ g5) := hide ⟨(unhide HB1).2.2.1, (unhide HV0).2.2.2.1, (unhide HV0).2.2.2.2.1, (Array.getElem?_eq_some_iff.1 (unhide H7).2.1).1, (unhide HV0).2.2.2.2.2⟩
  have HGL : Hid (go < w7.heap.size ∧ g4 < w7.heap.size ∧ g5 < w7.heap.size) := hide ⟨(Array.getElem?_eq_some_iff.1 (unhide H7).2.1).1, (Array.getElem?_eq_some_iff.1 (unhide H7).2.2.2.2.1).1, (Array.getElem?_eq_some_iff.1 (unhide H7).2.2.2.2.2).1⟩
  have HGN : Hid (g4 ≠ go ∧ g5 ≠ go) := hide (by have := (unhide HB1).2.2.2.2.2.2; omega)
  clear hS hp b7 CS HB1 hw1 hgo HV0 hg4 hv1 hg5 hv2
  let en : { x // x ∈ its } → Option Ce × Option Cc := fun x => (x.1.1.map CA, x.1.2.map CB)
  have HSQ := hide (sides_stopsC en (5 - 1) (by decide) its.attach p1 p2 p3 p4 n cl m ck al bl (keysE es) (keysH cs) CA CB (fun b => b < w7.heap.size ∧ b ≠ go) (fun T => T = 55 ∨ T = 68) ⟨Or.inl rfl, Or.inr rfl⟩ w7 (unhide H7).2.2.1 (by
      obtain ⟨l1, l2, l3, l4⟩ := (unhide H7).2.2.1.lt
      obtain ⟨g1, g2, g3, g4⟩ := (unhide H7).2.2.2.1
      exact ⟨⟨l1, by omega⟩, ⟨l2, by omega⟩, ⟨l3, by omega⟩, ⟨l4, by omega⟩⟩) (fun b hb => hb.1) (by have := unhide HN; simp [keysE]; omega) (by have := unhide HN; simp [keysH]; omega) (by omega) (by have := unhide HMB; omega)
      (((unhide HRW).1.to (fun b hb => (unhide H7).1.block b (Nat.lt_of_lt_of_le hb (unhide HB)))).weak (fun b hb => by have h1 := (unhide H7).1.size; have h2 := unhide HB; have h3 := (unhide HGG).1; exact ⟨by omega, by omega⟩))
      (((unhide HRW).2.to (fun b hb => (unhide H7).1.block b (Nat.lt_of_lt_of_le hb (unhide HB)))).weak (fun b hb => by have h1 := (unhide H7).1.size; have h2 := unhide HB; have h3 := (unhide HGG).1; exact ⟨by omega, by omega⟩))
      (by rw [unhide HIT]; exact its_attachC its CA CB))
  go_wp2_with fail
  refine (wpIn_wide (n := 5)).1 ?_
  refine wpIn_rangeFunc_ownH rfl (by decide) (gf := 52) (lb := #[.pointer (some ⟨p1, 0, none⟩), .pointer (some ⟨p2, 0, none⟩), .pointer (some ⟨p3, 0, none⟩), .pointer (some ⟨p4, 0, none⟩)]) rfl trivial (enters_of Try.func52 (by kernel_rfl) rfl)
    (unhide HSQ) (fun h1 h2 => h1.trans h2) (fun W j o o' hj ho hc _ => ⟨fun b hb => World.putObj_heap_other (by have := hb.1; omega), fun b c T f _ hb => (World.putObj_heap_other (fun e => by subst e; rw [hb] at ho; cases ho; cases hc)).trans hb⟩) (Below.refl _ _) (fun _ => rfl)
    (fun pre W => ApI w w7 W go g4 g5 B es cs (pre.map Subtype.val)) (fun c pre W => c = .ret ∧ W.heap[g4]? = some (.cells #[.slice none 0 0] 22 (0, 0)) ∧ W.heap[g5]? = some (.cells #[.int .i64 73] 26 (0, 0)) ∧ Below w.heap.size w W ∧ (pre.map Subtype.val).all (leadI es cs) = false) ?hI ?hIx ?h0
    (fun x a' W => ∃ b7 b8, a' = { tmps := #[.slice al n cl, .slice bl m ck, undef, undef, .pointer (some ⟨g4, 0, none⟩), .pointer (some ⟨g5, 0, none⟩), .pointer (some ⟨go, 0, none⟩), .pointer (some ⟨b7, 0, none⟩), .pointer (some ⟨b8, 0, none⟩), .slice al n cl, .bool true, .bool false, .slice bl m ck, .bool true, .bool false, .slice al n cl, .slice bl m ck, .func (.func 52) #[] #[.pointer (some ⟨p1, 0, none⟩), .pointer (some ⟨p2, 0, none⟩), .pointer (some ⟨p3, 0, none⟩), .pointer (some ⟨p4, 0, none⟩)], .agg (sdE (x.1.1.map CA)).toArray, .agg (sdC (x.1.2.map CB)).toArray, undef, undef, undef, undef, undef, undef, undef, undef, undef, undef, undef, undef, undef, undef, undef, undef, undef, undef, undef, undef, undef, undef, undef, undef, undef, undef, undef, undef, undef, undef, undef], defers := [] } ∧ W.heap[b7]? = some (.cells (sdE (x.1.1.map CA)).toArray 55 (0, 0)) ∧ W.heap[b8]? = some (.cells (sdC (x.1.2.map CB)).toArray 68 (0, 0))) ?hAx ?assign ?body ?done ?stop
  case hI => exact fun pre W W' row hs hg hr => hs.grown (unhide H7).1.size hg hr
  case hIx =>
    rintro c pre W W' row ⟨h1, h2, h3, h4, h5⟩ hg hr
    have hne : ∀ b c T f, W.heap[b]? = some (.cells c T f) → some b ≠ row := fun b c T f hb e => by
      obtain ⟨_, o, ho, hc⟩ := hr b e.symm
      rw [hb] at ho
      cases ho
      cases hc
    exact ⟨h1, (hg.block g4 (Array.getElem?_eq_some_iff.1 h2).1 (hne _ _ _ _ h2)).trans h2, (hg.block g5 (Array.getElem?_eq_some_iff.1 h3).1 (hne _ _ _ _ h3)).trans h3, h4.grown hg (by have := h4.size; omega) (fun k hk => by have a1 := (hr k hk).1; have := (unhide H7).1.size; omega), h5⟩
  case h0 => exact ⟨⟨_, [], (unhide H7).2.1, EnP.nil _ _ _ (Nat.le_trans (unhide HB) (unhide H7).1.size) (Nat.le_trans (unhide HB) (unhide H7).1.size), rfl, Nat.le_refl _⟩, (unhide H7).2.2.2.2.1, (unhide H7).2.2.2.2.2, rfl, (unhide H7).1, Nat.le_refl _⟩
  case hAx =>
    rintro x a' _ W W' row ⟨b7, b8, h1, h2, h3⟩ hg hr
    have hne : ∀ b c T f, W.heap[b]? = some (.cells c T f) → some b ≠ row := fun b c T f hb e => by
      obtain ⟨_, o, ho, hc⟩ := hr b e.symm
      rw [hb] at ho
      cases ho
      cases hc
    exact ⟨b7, b8, h1, (hg.block b7 (Array.getElem?_eq_some_iff.1 h2).1 (hne _ _ _ _ h2)).trans h2, (hg.block b8 (Array.getElem?_eq_some_iff.1 h3).1 (hne _ _ _ _ h3)).trans h3⟩
  case assign =>
    rintro j pre x W K hD hK
    obtain ⟨xk, xt0, xt1, xt2, xt3, xt4, xt5, xt6, xt7, xt8, xg, hxf, hxg⟩ := sdE_form (x.1.1.map CA)
    obtain ⟨yk, yg, yt0, yt1, yt2, yt3, yt4, yt5, yt6, yt7, yt8, yh, hyf, hyg⟩ := sdC_form (x.1.2.map CB)
    obtain ⟨b7, hb7⟩ : ∃ b7, W.heap.size = b7 := ⟨_, rfl⟩
    obtain ⟨Wa, hWa⟩ : ∃ Wa, W.alloc (.cells #[.string xk, .int .i64 xt0, .int .i64 xt1, .string xt2, .slice xt3 xt4 xt5, .slice xt6 xt7 xt8, .bool xg] 55) = Wa := ⟨_, rfl⟩
    obtain ⟨b8, hb8⟩ : ∃ b8, Wa.heap.size = b8 := ⟨_, rfl⟩
    obtain ⟨Wb, hWb⟩ : ∃ Wb, Wa.alloc (.cells #[.string yk, .bool yg, .int .i64 yt0, .int .i64 yt1, .string yt2, .slice yt3 yt4 yt5, .slice yt6 yt7 yt8, .bool yh] 68) = Wb := ⟨_, rfl⟩
    have n1 : Wa.heap[b7]? = some (.cells #[.string xk, .int .i64 xt0, .int .i64 xt1, .string xt2, .slice xt3 xt4 xt5, .slice xt6 xt7 xt8, .bool xg] 55 (0, 0)) := by rw [← hWa, ← hb7]; exact heap_alloc_new W _
    have x1 : Below W.heap.size W Wa := by rw [← hWa]; exact (Below.refl _ _).alloc (Nat.le_refl _) _
    have n2 : Wb.heap[b8]? = some (.cells #[.string yk, .bool yg, .int .i64 yt0, .int .i64 yt1, .string yt2, .slice yt3 yt4 yt5, .slice yt6 yt7 yt8, .bool yh] 68 (0, 0)) := by rw [← hWb, ← hb8]; exact heap_alloc_new Wa _
    have x2 : Below Wa.heap.size Wa Wb := by rw [← hWb]; exact (Below.refl _ _).alloc (Nat.le_refl _) _
    have xx : Below W.heap.size W Wb := x1.trans (x2.mono x1.size)
    have ko : KeepsFrom w7.heap.size W Wb := by rw [← hWb, ← hWa]; exact ((KeepsOthers.alloc _ _).trans (KeepsOthers.alloc _ _)).from _
    have HKK : Hid (∀ a', a' = { tmps := #[.slice al n cl, .slice bl m ck, undef, undef, .pointer (some ⟨g4, 0, none⟩), .pointer (some ⟨g5, 0, none⟩), .pointer (some ⟨go, 0, none⟩), .pointer (some ⟨b7, 0, none⟩), .pointer (some ⟨b8, 0, none⟩), .slice al n cl, .bool true, .bool false, .slice bl m ck, .bool true, .bool false, .slice al n cl, .slice bl m ck, .func (.func 52) #[] #[.pointer (some ⟨p1, 0, none⟩), .pointer (some ⟨p2, 0, none⟩), .pointer (some ⟨p3, 0, none⟩), .pointer (some ⟨p4, 0, none⟩)], .agg #[.string xk, .int .i64 xt0, .int .i64 xt1, .string xt2, .slice xt3 xt4 xt5, .slice xt6 xt7 xt8, .bool xg], .agg #[.string yk, .bool yg, .int .i64 yt0, .int .i64 yt1, .string yt2, .slice yt3 yt4 yt5, .slice yt6 yt7 yt8, .bool yh], undef, undef, undef, undef, undef, undef, undef, undef, undef, undef, undef, undef, undef, undef, undef, undef, undef, undef, undef, undef, undef, undef, undef, undef, undef, undef, undef, undef, undef, undef, undef], defers := [] } → K a' Wb) := hide (fun a' ha => hK a' _ ko (KeepS.of_below xx (fun b hb => by have := hb.1; have := hD.size; omega)) (hD.later xx) ⟨b7, b8, by rw [ha, hxf, hyf], by rw [hxf]; exact (x2.block b7 (Array.getElem?_eq_some_iff.1 n1).1).trans n1, by rw [hyf]; exact n2⟩)
    clear n1 n2 x1 x2 xx ko hD hK hxg hyg
    dsimp only [en]
    rw [hxf, hyf]
    clear hxf hyf
    gi_wp2
    exact unhide HKK _ rfl
  case body =>
    rintro j pre ⟨⟨oa, ob⟩, hx⟩ a' W hj ⟨rr, hrr⟩ hD ⟨b7, b8, rfl, hb7, hb8⟩ hlt
    have HLT : Hid (pre.length < n + m) := hide (by have h1 := sdN_len (keysE es) (keysH cs) (n + m) 0 0; rw [unhide HIT] at h1; rw [List.length_attach] at hlt; omega)
    have hmem := sdN_mem (keysE es) (keysH cs) (n + m) 0 0 (oa, ob) (by rw [unhide HIT]; exact hx)
    have hnone := sdN_none (keysE es) (keysH cs) (n + m) 0 0 (oa, ob) (by rw [unhide HIT]; exact hx)
    have hDb := hD.below
    dsimp only at hmem hnone hb7 hb8 ⊢
    have HD := hide hD
    clear hlt hD hrr
    cases oa with
    | none =>
      cases ob with
      | none => exact absurd ⟨rfl, rfl⟩ hnone
      | some jj =>
        obtain ⟨⟨yk', yg', yv⟩, hey⟩ : ∃ e, cs[jj]? = some e := ⟨_, List.getElem?_eq_getElem (by have := unhide HN; have := hmem.2 jj rfl; simp only [keysH, List.length_map] at this; omega)⟩
        obtain ⟨hky, hgy, hv2⟩ := unhide HEB W hDb jj _ hey
        obtain ⟨yk, yg, yt0, yt1, yt2, yt3, yt4, yt5, yt6, yt7, yt8, hepy⟩ : ∃ yk yg yt0 yt1 yt2 yt3 yt4 yt5 yt6 yt7 yt8, CB jj = (yk, yg, yt0, yt1, yt2, yt3, yt4, yt5, yt6, yt7, yt8) := ⟨_, _, _, _, _, _, _, _, _, _, _, rfl⟩
        rw [hepy] at hky hgy hv2
        obtain rfl : yk = yk' := hky
        obtain rfl : yg = yg' := hgy
        dsimp only [ccL, List.tail_cons] at hv2
        simp only [Option.map_some, Option.map_none, hepy, sdE, sdC] at hb7 hb8 ⊢
        obtain ⟨z70, z71, z72, z73, z74, z75, z76⟩ := row_cell7 hb7
        obtain ⟨z80, z81, z82, z83, z84, z85, z86, z87⟩ := row_cell8 hb8
        have CC0 := leads_any ⟨#[]⟩ 0 0 ⟨#[]⟩ none 0 0 none 0 0 false yk yt0 yt1 yt2 yt3 yt4 yt5 yt6 yt7 yt8 yg true vl0 yv B W (fun e => by cases e) (fun _ => hv2) (Nat.le_trans (unhide HB) hDb.size)
        have HLE : Hid (leadI es cs (none, some jj) = leadsB false vl0 yg true yv) := hide (by simp [leadI, lk, leadE, hey])
        have HOE : Hid (outI es cs (none, some jj) = if yg then [] else [(yk, yv)]) := hide (by simp [outI, lk, outA, hey])
        have HV2 := hv2
        obtain ⟨L, hL⟩ : ∃ L, leadsB false vl0 yg true yv = L := ⟨_, rfl⟩
        rw [hL] at CC0 HLE
        have HLB := hide hL
        have CC := hide CC0
        clear hmem hnone CC0 hDb hey hepy hv2 hL hj
        cases L with
        | false =>
          have HLD := HLE
          have HBB := hide (And.intro hb7 hb8)
          obtain ⟨V, hV⟩ : ∃ V, V = W := ⟨_, rfl⟩
          subst hV
          gi_wp2_with fail
          refine ⟨trivial, callsIn_wide.2 ((unhide CC).mono ?_)⟩
          rintro e W ⟨rfl, bW⟩
          have HKV : Hid (KeepsFrom w7.heap.size V W ∧ KeepS (fun b => b < w7.heap.size ∧ b ≠ go) (fun T => T = 55 ∨ T = 68) V W) := hide ⟨⟨bW.size, fun k o _ hk _ => (bW.block k (Array.getElem?_eq_some_iff.1 hk).1).trans hk⟩, KeepS.of_below bW (fun b hb => by have := hb.1; have := (unhide HD).size; omega)⟩
          have HD2 := hide ((unhide HD).later bW)
          have hb7 := (bW.block b7 (Array.getElem?_eq_some_iff.1 (unhide HBB).1).1).trans (unhide HBB).1
          have hb8 := (bW.block b8 (Array.getElem?_eq_some_iff.1 (unhide HBB).2).1).trans (unhide HBB).2
          have HVS := hide (fun (y : Vl) (x : Value) (hv : IsV V B y x) => IsV.mono (bW.mono (Nat.le_trans (unhide HB) (unhide HD).below.size)) hv)
          clear HD bW CC z70 z71 z72 z73 z74 z75 z76 z80 z81 z82 z83 z84 z85 z86 z87
          have HD := HD2
          clear HD2
          obtain ⟨z70, z71, z72, z73, z74, z75, z76⟩ := row_cell7 hb7
          obtain ⟨z80, z81, z82, z83, z84, z85, z86, z87⟩ := row_cell8 hb8
          obtain ⟨⟨sv, ps, h1, h2, h3, h4⟩, r4, r5, hl, h5, h6⟩ := unhide HD
          have hg4l : g4 < W.heap.size := (Array.getElem?_eq_some_iff.1 r4).1
          have HT := hide (two_res r4 r5 (unhide HGG).2.2.2.2 (.slice none 0 0) (.int .i64 73))
          have c4 : W.cell? ⟨g4, 0, none⟩ = some (.slice none 0 0) := by rw [cell_of_row W g4 0 _ _ (0, 0) r4]; rfl
          have f4 := frozen_of_row W g4 0 _ _ r4
          have e5 : (W.setCell ⟨g4, 0, none⟩ (.slice none 0 0)).heap[g5]? = _ := (heap_setCell_other _ _ _ _ (Ne.symm (unhide HGG).2.2.2.2)).trans r5
          have c5 : (W.setCell ⟨g4, 0, none⟩ (.slice none 0 0)).cell? ⟨g5, 0, none⟩ = some (.int .i64 0) := by rw [cell_of_row _ g5 0 _ _ (0, 0) e5]; rfl
          have f5 := frozen_of_row _ g5 0 _ _ e5
          have HBE : Hid (Below w.heap.size w ((W.setCell ⟨g4, 0, none⟩ (.slice none 0 0)).setCell ⟨g5, 0, none⟩ (.int .i64 73))) := hide ((h5.setCell (p := ⟨g4, 0, none⟩) (unhide HGG).2.1 _).setCell (p := ⟨g5, 0, none⟩) (unhide HGG).2.2.1 _)
          clear e5 h1 h2 h3 h4 r4 r5 hl h5 h6 hb7 hb8 hg4l z70 z71 z72 z73 z74 z75 z76 z80 z81 z82 z83 z84 z85 z86 z87
          gi_wp2_with fail
          obtain ⟨t4, t5, _⟩ := unhide HT
          exact ⟨(unhide HKV).1.trans (((KeepsOthers.setCell _ _ _).trans (KeepsOthers.setCell _ _ _)).from _), rfl, t4, t5, unhide HBE, by rw [List.map_append, List.map_singleton, List.all_append, List.all_cons, show leadI es cs (Subtype.val (⟨(none, some jj), hx⟩ : { x // x ∈ its })) = false from unhide HLD]; simp⟩
        | true =>
          have HLD := HLE
          cases yg with
          | true =>
            have HOUT : Hid (outI es cs (none, some jj) = []) := hide (by rw [unhide HOE]; rfl)
            have HBB := hide (And.intro hb7 hb8)
            obtain ⟨V, hV⟩ : ∃ V, V = W := ⟨_, rfl⟩
            subst hV
            gi_wp2_with fail
            refine ⟨trivial, callsIn_wide.2 ((unhide CC).mono ?_)⟩
            rintro e W ⟨rfl, bW⟩
            have HKV : Hid (KeepsFrom w7.heap.size V W ∧ KeepS (fun b => b < w7.heap.size ∧ b ≠ go) (fun T => T = 55 ∨ T = 68) V W) := hide ⟨⟨bW.size, fun k o _ hk _ => (bW.block k (Array.getElem?_eq_some_iff.1 hk).1).trans hk⟩, KeepS.of_below bW (fun b hb => by have := hb.1; have := (unhide HD).size; omega)⟩
            have HD2 := hide ((unhide HD).later bW)
            have hb7 := (bW.block b7 (Array.getElem?_eq_some_iff.1 (unhide HBB).1).1).trans (unhide HBB).1
            have hb8 := (bW.block b8 (Array.getElem?_eq_some_iff.1 (unhide HBB).2).1).trans (unhide HBB).2
            have HVS := hide (fun (y : Vl) (x : Value) (hv : IsV V B y x) => IsV.mono (bW.mono (Nat.le_trans (unhide HB) (unhide HD).below.size)) hv)
            clear HD bW CC z70 z71 z72 z73 z74 z75 z76 z80 z81 z82 z83 z84 z85 z86 z87
            have HD := HD2
            clear HD2
            obtain ⟨z70, z71, z72, z73, z74, z75, z76⟩ := row_cell7 hb7
            obtain ⟨z80, z81, z82, z83, z84, z85, z86, z87⟩ := row_cell8 hb8
            obtain ⟨⟨sv, ps, h1, h2, h3, h4⟩, r4, r5, hl, h5, h6⟩ := unhide HD
            clear hb7 hb8 h1 h2 h3 h4 r4 r5 hl h5 h6
            gi_wp2_with fail
            obtain ⟨⟨sv, ps, h1, h2, h3, h4⟩, r4, r5, hl, h5, h6⟩ := unhide HD
            exact ⟨(unhide HKV).1, (unhide HKV).2, by show ApI w w7 W go g4 g5 B es cs ((pre ++ [(⟨(none, some jj), hx⟩ : { x // x ∈ its })]).map Subtype.val); rw [List.map_append, List.map_singleton]; exact ⟨⟨sv, ps, h1, h2, by rw [List.flatMap_append, List.flatMap_singleton, show outI es cs (Subtype.val (⟨(none, some jj), hx⟩ : { x // x ∈ its })) = [] from unhide HOUT, List.append_nil]; exact h3, by rw [List.length_append]; omega⟩, r4, r5, by rw [List.all_append, hl, List.all_cons, show leadI es cs (Subtype.val (⟨(none, some jj), hx⟩ : { x // x ∈ its })) = true from unhide HLD]; rfl, h5, h6⟩⟩
          | false =>
            have HOUT : Hid (outI es cs (none, some jj) = [(yk, yv)]) := hide (by rw [unhide HOE]; rfl)
            have HBB := hide (And.intro hb7 hb8)
            obtain ⟨V, hV⟩ : ∃ V, V = W := ⟨_, rfl⟩
            subst hV
            gi_wp2_with fail
            refine ⟨trivial, callsIn_wide.2 ((unhide CC).mono ?_)⟩
            rintro e W ⟨rfl, bW⟩
            have HKV : Hid (KeepsFrom w7.heap.size V W ∧ KeepS (fun b => b < w7.heap.size ∧ b ≠ go) (fun T => T = 55 ∨ T = 68) V W) := hide ⟨⟨bW.size, fun k o _ hk _ => (bW.block k (Array.getElem?_eq_some_iff.1 hk).1).trans hk⟩, KeepS.of_below bW (fun b hb => by have := hb.1; have := (unhide HD).size; omega)⟩
            have HD2 := hide ((unhide HD).later bW)
            have hb7 := (bW.block b7 (Array.getElem?_eq_some_iff.1 (unhide HBB).1).1).trans (unhide HBB).1
            have hb8 := (bW.block b8 (Array.getElem?_eq_some_iff.1 (unhide HBB).2).1).trans (unhide HBB).2
            have HVS := hide (fun (y : Vl) (x : Value) (hv : IsV V B y x) => IsV.mono (bW.mono (Nat.le_trans (unhide HB) (unhide HD).below.size)) hv)
            clear HD bW CC z70 z71 z72 z73 z74 z75 z76 z80 z81 z82 z83 z84 z85 z86 z87
            have HD := HD2
            clear HD2
            obtain ⟨z70, z71, z72, z73, z74, z75, z76⟩ := row_cell7 hb7
            obtain ⟨z80, z81, z82, z83, z84, z85, z86, z87⟩ := row_cell8 hb8
            obtain ⟨⟨sv, ps, h1, h2, h3, h4⟩, r4, r5, hl, h5, h6⟩ := unhide HD
            obtain ⟨q, hq⟩ : ∃ q, ps.length = q := ⟨_, rfl⟩
            obtain ⟨so, sc, hsv⟩ : ∃ so sc, sv = .slice so q sc := by
              have := h2.row
              rw [hq] at this
              rcases this.2 with ⟨e, e2⟩ | ⟨b, cap, cur, e, _⟩
              · exact ⟨none, 0, by rw [e, e2]⟩
              · exact ⟨_, _, e⟩
            subst hsv
            have hqb : (q + 1) * 96 ≤ 140737488355328 := by have := unhide HLT; have := unhide HMB; rw [List.length_map] at h4; omega
            have hgol : go < W.heap.size := (Array.getElem?_eq_some_iff.1 h1).1
            have hgn : some go ≠ (Value.slice so q sc).ownBlock := fun e => by have := (h2.row.lt go e.symm).1; have := (unhide HGG).2.2.2.1; omega
            obtain ⟨CS, hCS⟩ : ∃ CS, cellsN ps = CS := ⟨_, rfl⟩
            obtain ⟨lo, hlo⟩ : ∃ lo, w7.heap.size = lo := ⟨_, rfl⟩
            obtain ⟨h3s, hh3s⟩ : ∃ h3s, W.heap.size = h3s := ⟨_, rfl⟩
            obtain ⟨W4, hW4⟩ : ∃ W4, W.alloc (.cells #[.string yk, .int .i64 yt0, .int .i64 yt1, .string yt2, .slice yt3 yt4 yt5, .slice yt6 yt7 yt8] 48) = W4 := ⟨_, rfl⟩
            have X4 : Below W.heap.size W W4 := by rw [← hW4]; exact (Below.refl _ _).alloc (Nat.le_refl _) _
            have at4 : W4.heap[h3s]? = some (.cells #[.string yk, .int .i64 yt0, .int .i64 yt1, .string yt2, .slice yt3 yt4 yt5, .slice yt6 yt7 yt8] 48 (0, 0)) := by rw [← hW4, ← hh3s]; exact heap_alloc_new W _
            have HOW : Hid (W4.ownsRow lo 48 6 (.slice so q sc) q CS) := hide (by
              have := row_to (w' := W4) h2.row (fun b hb => by
                obtain ⟨c, hc⟩ := row_ty h2.row hb
                exact X4.block b (Array.getElem?_eq_some_iff.1 hc).1)
              rw [hq, hCS, hlo] at this
              exact this)
            have hloW : lo ≤ W4.heap.size := by have := X4.size; omega
            obtain ⟨iv, hiv, hz0, hz1, hz2⟩ := info_parts infoEnN
            have HI := hide (And.intro hiv (And.intro hz0 (And.intro hz1 hz2)))
            have cz : W.cell? ⟨go, 0, none⟩ = some (.slice so q sc) := by rw [cell_of_row W go 0 _ _ (0, 0) h1]; rfl
            have HG4 : Hid (W4.heap[go]? = some (.cells #[.slice so q sc] 22 (0, 0)) ∧ go < W4.heap.size ∧ some go ≠ (Value.slice so q sc).ownBlock) := hide ⟨(X4.block go hgol).trans h1, Nat.lt_of_lt_of_le hgol X4.size, hgn⟩
            have HEND : Hid (∀ (W5 : World) (g cap : Nat), W5.ownsRow lo 48 6 (.slice (some ⟨g, 0, none⟩) (q + 1) cap) (q + 1) (CS ++ [.string yk, .int .i64 yt0, .int .i64 yt1, .string yt2, .slice yt3 yt4 yt5, .slice yt6 yt7 yt8]) → W4.grownBy W5 (Value.slice so q sc).ownBlock → KeepsFrom w7.heap.size W (W5.setCell ⟨go, 0, none⟩ (.slice (some ⟨g, 0, none⟩) (q + 1) cap)) ∧ KeepS (fun b => b < w7.heap.size ∧ b ≠ go) (fun T => T = 55 ∨ T = 68) W (W5.setCell ⟨go, 0, none⟩ (.slice (some ⟨g, 0, none⟩) (q + 1) cap)) ∧ ApI w w7 (W5.setCell ⟨go, 0, none⟩ (.slice (some ⟨g, 0, none⟩) (q + 1) cap)) go g4 g5 B es cs ((pre ++ [(⟨(none, some jj), hx⟩ : { x // x ∈ its })]).map Subtype.val)) := hide (by
              intro W5 g cap o5 g5'
              rw [← hlo, ← hCS] at o5
              rw [List.map_append, List.map_singleton]
              exact ApI.push (c := (yt0, yt1, yt2, yt3, yt4, yt5, yt6, yt7, yt8)) (y := yv) h1 h2 h3 h4 r4 r5 hl h5 h6 hq (unhide HGG).1 (unhide HGL) (unhide HGN) (unhide HB) (unhide HOUT) (unhide HLD) X4 (unhide HVS _ _ HV2) o5 g5')
            clear h1 h2 h3 h4 r4 r5 hl h5 h6 hgol hgn hiv hz0 hz1 hz2 hb7 hb8 hq hCS hlo X4
            gi_wp2_with (gi_at_builtin; refine wpListIn_append_own W4 rfl _ _ 22 rfl lo 48 iv (.agg #[.string ⟨#[]⟩, .int .i64 0, .int .i64 0, .string ⟨#[]⟩, .slice none 0 0, .slice none 0 0]) 6 96 Try.underlying22 (unhide HI).1 (unhide HI).2.1 (unhide HI).2.2.1 (unhide HI).2.2.2 rfl (by decide) (.slice so q sc) q CS (by rfl) (unhide HOW) ⟨h3s, 0, none⟩ 1 1 [.string yk, .int .i64 yt0, .int .i64 yt1, .string yt2, .slice yt3 yt4 yt5, .slice yt6 yt7 yt8] (by rfl) (by rfl) (World.news_of_block at4) (by simp [Value.oneCell']) (by unfold maxLen; omega) hqb hloW ?_; intro v5 W5 hown5 hgrow5 _; obtain ⟨g, cap, rfl⟩ := ownsRow_succ hown5; have e5 : W5.heap[go]? = some (.cells #[.slice so q sc] 22 (0, 0)) := (hgrow5.block go (unhide HG4).2.1 (unhide HG4).2.2).trans (unhide HG4).1; have cz5 : W5.cell? ⟨go, 0, none⟩ = some (.slice so q sc) := (cell_of_row W5 go 0 _ _ (0, 0) e5).trans rfl; have fz5 := frozen_of_row W5 go 0 _ _ e5; have RR := hide (unhide HEND W5 g cap hown5 hgrow5); clear hown5 hgrow5 e5 HEND HI HOW HG4 at4)
            exact ⟨(unhide HKV).1.trans (unhide RR).1, (unhide HKV).2.trans (unhide RR).2.1, (unhide RR).2.2⟩
    | some ii =>
      cases ob with
      | none =>
        obtain ⟨⟨xk', xv⟩, hex⟩ : ∃ e, es[ii]? = some e := ⟨_, List.getElem?_eq_getElem (by have := unhide HN; have := hmem.1 ii rfl; simp only [keysE, List.length_map] at this; omega)⟩
        obtain ⟨hkx, hv1, hentx⟩ := unhide HEA W hDb ii _ hex
        obtain ⟨xk, xt0, xt1, xt2, xt3, xt4, xt5, xt6, xt7, xt8, hepx⟩ : ∃ xk xt0 xt1 xt2 xt3 xt4 xt5 xt6 xt7 xt8, CA ii = (xk, xt0, xt1, xt2, xt3, xt4, xt5, xt6, xt7, xt8) := ⟨_, _, _, _, _, _, _, _, _, _, rfl⟩
        rw [hepx] at hkx hv1
        obtain rfl : xk = xk' := hkx
        dsimp only [ceL, List.tail_cons] at hv1
        simp only [Option.map_some, Option.map_none, hepx, sdE, sdC] at hb7 hb8 ⊢
        obtain ⟨z70, z71, z72, z73, z74, z75, z76⟩ := row_cell7 hb7
        obtain ⟨z80, z81, z82, z83, z84, z85, z86, z87⟩ := row_cell8 hb8
        have CC0 := leads_any xk xt0 xt1 xt2 xt3 xt4 xt5 xt6 xt7 xt8 true ⟨#[]⟩ 0 0 ⟨#[]⟩ none 0 0 none 0 0 false false xv vl0 B W (fun _ => hv1) (fun e => by cases e) (Nat.le_trans (unhide HB) hDb.size)
        have HLD : Hid (leadI es cs (some ii, none) = true) := hide (by simp [leadI, lk, leadE, hex])
        have HOUT : Hid (outI es cs (some ii, none) = [(xk, xv)]) := hide (by simp [outI, lk, outA, hex])
        have HV1 := hv1
        rw [show leadsB true xv false false vl0 = true from rfl] at CC0
        have CC := hide CC0
        clear hmem hnone CC0 hDb hex hentx hepx hv1 hj
        have HBB := hide (And.intro hb7 hb8)
        obtain ⟨V, hV⟩ : ∃ V, V = W := ⟨_, rfl⟩
        subst hV
        gi_wp2_with fail
        refine ⟨trivial, callsIn_wide.2 ((unhide CC).mono ?_)⟩
        rintro e W ⟨rfl, bW⟩
        have HKV : Hid (KeepsFrom w7.heap.size V W ∧ KeepS (fun b => b < w7.heap.size ∧ b ≠ go) (fun T => T = 55 ∨ T = 68) V W) := hide ⟨⟨bW.size, fun k o _ hk _ => (bW.block k (Array.getElem?_eq_some_iff.1 hk).1).trans hk⟩, KeepS.of_below bW (fun b hb => by have := hb.1; have := (unhide HD).size; omega)⟩
        have HD2 := hide ((unhide HD).later bW)
        have hb7 := (bW.block b7 (Array.getElem?_eq_some_iff.1 (unhide HBB).1).1).trans (unhide HBB).1
        have hb8 := (bW.block b8 (Array.getElem?_eq_some_iff.1 (unhide HBB).2).1).trans (unhide HBB).2
        have HVS := hide (fun (y : Vl) (x : Value) (hv : IsV V B y x) => IsV.mono (bW.mono (Nat.le_trans (unhide HB) (unhide HD).below.size)) hv)
        clear HD bW CC z70 z71 z72 z73 z74 z75 z76 z80 z81 z82 z83 z84 z85 z86 z87
        have HD := HD2
        clear HD2
        obtain ⟨z70, z71, z72, z73, z74, z75, z76⟩ := row_cell7 hb7
        obtain ⟨z80, z81, z82, z83, z84, z85, z86, z87⟩ := row_cell8 hb8
        obtain ⟨⟨sv, ps, h1, h2, h3, h4⟩, r4, r5, hl, h5, h6⟩ := unhide HD
        obtain ⟨q, hq⟩ : ∃ q, ps.length = q := ⟨_, rfl⟩
        obtain ⟨so, sc, hsv⟩ : ∃ so sc, sv = .slice so q sc := by
          have := h2.row
          rw [hq] at this
          rcases this.2 with ⟨e, e2⟩ | ⟨b, cap, cur, e, _⟩
          · exact ⟨none, 0, by rw [e, e2]⟩
          · exact ⟨_, _, e⟩
        subst hsv
        have hqb : (q + 1) * 96 ≤ 140737488355328 := by have := unhide HLT; have := unhide HMB; rw [List.length_map] at h4; omega
        have hgol : go < W.heap.size := (Array.getElem?_eq_some_iff.1 h1).1
        have hgn : some go ≠ (Value.slice so q sc).ownBlock := fun e => by have := (h2.row.lt go e.symm).1; have := (unhide HGG).2.2.2.1; omega
        obtain ⟨CS, hCS⟩ : ∃ CS, cellsN ps = CS := ⟨_, rfl⟩
        obtain ⟨lo, hlo⟩ : ∃ lo, w7.heap.size = lo := ⟨_, rfl⟩
        obtain ⟨h3s, hh3s⟩ : ∃ h3s, W.heap.size = h3s := ⟨_, rfl⟩
        obtain ⟨W4, hW4⟩ : ∃ W4, W.alloc (.cells #[.string xk, .int .i64 xt0, .int .i64 xt1, .string xt2, .slice xt3 xt4 xt5, .slice xt6 xt7 xt8] 48) = W4 := ⟨_, rfl⟩
        have X4 : Below W.heap.size W W4 := by rw [← hW4]; exact (Below.refl _ _).alloc (Nat.le_refl _) _
        have at4 : W4.heap[h3s]? = some (.cells #[.string xk, .int .i64 xt0, .int .i64 xt1, .string xt2, .slice xt3 xt4 xt5, .slice xt6 xt7 xt8] 48 (0, 0)) := by rw [← hW4, ← hh3s]; exact heap_alloc_new W _
        have HOW : Hid (W4.ownsRow lo 48 6 (.slice so q sc) q CS) := hide (by
          have := row_to (w' := W4) h2.row (fun b hb => by
            obtain ⟨c, hc⟩ := row_ty h2.row hb
            exact X4.block b (Array.getElem?_eq_some_iff.1 hc).1)
          rw [hq, hCS, hlo] at this
          exact this)
        have hloW : lo ≤ W4.heap.size := by have := X4.size; omega
        obtain ⟨iv, hiv, hz0, hz1, hz2⟩ := info_parts infoEnN
        have HI := hide (And.intro hiv (And.intro hz0 (And.intro hz1 hz2)))
        have cz : W.cell? ⟨go, 0, none⟩ = some (.slice so q sc) := by rw [cell_of_row W go 0 _ _ (0, 0) h1]; rfl
        have HG4 : Hid (W4.heap[go]? = some (.cells #[.slice so q sc] 22 (0, 0)) ∧ go < W4.heap.size ∧ some go ≠ (Value.slice so q sc).ownBlock) := hide ⟨(X4.block go hgol).trans h1, Nat.lt_of_lt_of_le hgol X4.size, hgn⟩
        have HEND : Hid (∀ (W5 : World) (g cap : Nat), W5.ownsRow lo 48 6 (.slice (some ⟨g, 0, none⟩) (q + 1) cap) (q + 1) (CS ++ [.string xk, .int .i64 xt0, .int .i64 xt1, .string xt2, .slice xt3 xt4 xt5, .slice xt6 xt7 xt8]) → W4.grownBy W5 (Value.slice so q sc).ownBlock → KeepsFrom w7.heap.size W (W5.setCell ⟨go, 0, none⟩ (.slice (some ⟨g, 0, none⟩) (q + 1) cap)) ∧ KeepS (fun b => b < w7.heap.size ∧ b ≠ go) (fun T => T = 55 ∨ T = 68) W (W5.setCell ⟨go, 0, none⟩ (.slice (some ⟨g, 0, none⟩) (q + 1) cap)) ∧ ApI w w7 (W5.setCell ⟨go, 0, none⟩ (.slice (some ⟨g, 0, none⟩) (q + 1) cap)) go g4 g5 B es cs ((pre ++ [(⟨(some ii, none), hx⟩ : { x // x ∈ its })]).map Subtype.val)) := hide (by
          intro W5 g cap o5 g5'
          rw [← hlo, ← hCS] at o5
          rw [List.map_append, List.map_singleton]
          exact ApI.push (c := (xt0, xt1, xt2, xt3, xt4, xt5, xt6, xt7, xt8)) (y := xv) h1 h2 h3 h4 r4 r5 hl h5 h6 hq (unhide HGG).1 (unhide HGL) (unhide HGN) (unhide HB) (unhide HOUT) (unhide HLD) X4 (unhide HVS _ _ HV1) o5 g5')
        clear h1 h2 h3 h4 r4 r5 hl h5 h6 hgol hgn hiv hz0 hz1 hz2 hb7 hb8 hq hCS hlo X4
        gi_wp2_with (gi_at_builtin; refine wpListIn_append_own W4 rfl _ _ 22 rfl lo 48 iv (.agg #[.string ⟨#[]⟩, .int .i64 0, .int .i64 0, .string ⟨#[]⟩, .slice none 0 0, .slice none 0 0]) 6 96 Try.underlying22 (unhide HI).1 (unhide HI).2.1 (unhide HI).2.2.1 (unhide HI).2.2.2 rfl (by decide) (.slice so q sc) q CS (by rfl) (unhide HOW) ⟨h3s, 0, none⟩ 1 1 [.string xk, .int .i64 xt0, .int .i64 xt1, .string xt2, .slice xt3 xt4 xt5, .slice xt6 xt7 xt8] (by rfl) (by rfl) (World.news_of_block at4) (by simp [Value.oneCell']) (by unfold maxLen; omega) hqb hloW ?_; intro v5 W5 hown5 hgrow5 _; obtain ⟨g, cap, rfl⟩ := ownsRow_succ hown5; have e5 : W5.heap[go]? = some (.cells #[.slice so q sc] 22 (0, 0)) := (hgrow5.block go (unhide HG4).2.1 (unhide HG4).2.2).trans (unhide HG4).1; have cz5 : W5.cell? ⟨go, 0, none⟩ = some (.slice so q sc) := (cell_of_row W5 go 0 _ _ (0, 0) e5).trans rfl; have fz5 := frozen_of_row W5 go 0 _ _ e5; have RR := hide (unhide HEND W5 g cap hown5 hgrow5); clear hown5 hgrow5 e5 HEND HI HOW HG4 at4)
        exact ⟨(unhide HKV).1.trans (unhide RR).1, (unhide HKV).2.trans (unhide RR).2.1, (unhide RR).2.2⟩
      | some jj =>
        obtain ⟨⟨xk', xv⟩, hex⟩ : ∃ e, es[ii]? = some e := ⟨_, List.getElem?_eq_getElem (by have := unhide HN; have := hmem.1 ii rfl; simp only [keysE, List.length_map] at this; omega)⟩
        obtain ⟨hkx, hv1, hentx⟩ := unhide HEA W hDb ii _ hex
        obtain ⟨xk, xt0, xt1, xt2, xt3, xt4, xt5, xt6, xt7, xt8, hepx⟩ : ∃ xk xt0 xt1 xt2 xt3 xt4 xt5 xt6 xt7 xt8, CA ii = (xk, xt0, xt1, xt2, xt3, xt4, xt5, xt6, xt7, xt8) := ⟨_, _, _, _, _, _, _, _, _, _, rfl⟩
        rw [hepx] at hkx hv1
        obtain rfl : xk = xk' := hkx
        dsimp only [ceL, List.tail_cons] at hv1
        obtain ⟨⟨yk', yg', yv⟩, hey⟩ : ∃ e, cs[jj]? = some e := ⟨_, List.getElem?_eq_getElem (by have := unhide HN; have := hmem.2 jj rfl; simp only [keysH, List.length_map] at this; omega)⟩
        obtain ⟨hky, hgy, hv2⟩ := unhide HEB W hDb jj _ hey
        obtain ⟨yk, yg, yt0, yt1, yt2, yt3, yt4, yt5, yt6, yt7, yt8, hepy⟩ : ∃ yk yg yt0 yt1 yt2 yt3 yt4 yt5 yt6 yt7 yt8, CB jj = (yk, yg, yt0, yt1, yt2, yt3, yt4, yt5, yt6, yt7, yt8) := ⟨_, _, _, _, _, _, _, _, _, _, _, rfl⟩
        rw [hepy] at hky hgy hv2
        obtain rfl : yk = yk' := hky
        obtain rfl : yg = yg' := hgy
        dsimp only [ccL, List.tail_cons] at hv2
        simp only [Option.map_some, Option.map_none, hepx, hepy, sdE, sdC] at hb7 hb8 ⊢
        obtain ⟨z70, z71, z72, z73, z74, z75, z76⟩ := row_cell7 hb7
        obtain ⟨z80, z81, z82, z83, z84, z85, z86, z87⟩ := row_cell8 hb8
        have CC0 := leads_any xk xt0 xt1 xt2 xt3 xt4 xt5 xt6 xt7 xt8 true yk yt0 yt1 yt2 yt3 yt4 yt5 yt6 yt7 yt8 yg true xv yv B W (fun _ => hv1) (fun _ => hv2) (Nat.le_trans (unhide HB) hDb.size)
        have HLE : Hid (leadI es cs (some ii, some jj) = leadsB true xv yg true yv) := hide (by simp [leadI, lk, leadE, hex, hey])
        have HOE : Hid (outI es cs (some ii, some jj) = if yg then [] else [(yk, yv)]) := hide (by simp [outI, lk, outA, hex, hey])
        have HV2 := hv2
        obtain ⟨L, hL⟩ : ∃ L, leadsB true xv yg true yv = L := ⟨_, rfl⟩
        rw [hL] at CC0 HLE
        have HLB := hide hL
        have CC := hide CC0
        clear hmem hnone CC0 hDb hey hepy hv2 hL hj hex hentx hepx hv1
        cases L with
        | false =>
          have HLD := HLE
          have HBB := hide (And.intro hb7 hb8)
          obtain ⟨V, hV⟩ : ∃ V, V = W := ⟨_, rfl⟩
          subst hV
          gi_wp2_with fail
          refine ⟨trivial, callsIn_wide.2 ((unhide CC).mono ?_)⟩
          rintro e W ⟨rfl, bW⟩
          have HKV : Hid (KeepsFrom w7.heap.size V W ∧ KeepS (fun b => b < w7.heap.size ∧ b ≠ go) (fun T => T = 55 ∨ T = 68) V W) := hide ⟨⟨bW.size, fun k o _ hk _ => (bW.block k (Array.getElem?_eq_some_iff.1 hk).1).trans hk⟩, KeepS.of_below bW (fun b hb => by have := hb.1; have := (unhide HD).size; omega)⟩
          have HD2 := hide ((unhide HD).later bW)
          have hb7 := (bW.block b7 (Array.getElem?_eq_some_iff.1 (unhide HBB).1).1).trans (unhide HBB).1
          have hb8 := (bW.block b8 (Array.getElem?_eq_some_iff.1 (unhide HBB).2).1).trans (unhide HBB).2
          have HVS := hide (fun (y : Vl) (x : Value) (hv : IsV V B y x) => IsV.mono (bW.mono (Nat.le_trans (unhide HB) (unhide HD).below.size)) hv)
          clear HD bW CC z70 z71 z72 z73 z74 z75 z76 z80 z81 z82 z83 z84 z85 z86 z87
          have HD := HD2
          clear HD2
          obtain ⟨z70, z71, z72, z73, z74, z75, z76⟩ := row_cell7 hb7
          obtain ⟨z80, z81, z82, z83, z84, z85, z86, z87⟩ := row_cell8 hb8
          obtain ⟨⟨sv, ps, h1, h2, h3, h4⟩, r4, r5, hl, h5, h6⟩ := unhide HD
          have hg4l : g4 < W.heap.size := (Array.getElem?_eq_some_iff.1 r4).1
          have HT := hide (two_res r4 r5 (unhide HGG).2.2.2.2 (.slice none 0 0) (.int .i64 73))
          have c4 : W.cell? ⟨g4, 0, none⟩ = some (.slice none 0 0) := by rw [cell_of_row W g4 0 _ _ (0, 0) r4]; rfl
          have f4 := frozen_of_row W g4 0 _ _ r4
          have e5 : (W.setCell ⟨g4, 0, none⟩ (.slice none 0 0)).heap[g5]? = _ := (heap_setCell_other _ _ _ _ (Ne.symm (unhide HGG).2.2.2.2)).trans r5
          have c5 : (W.setCell ⟨g4, 0, none⟩ (.slice none 0 0)).cell? ⟨g5, 0, none⟩ = some (.int .i64 0) := by rw [cell_of_row _ g5 0 _ _ (0, 0) e5]; rfl
          have f5 := frozen_of_row _ g5 0 _ _ e5
          have HBE : Hid (Below w.heap.size w ((W.setCell ⟨g4, 0, none⟩ (.slice none 0 0)).setCell ⟨g5, 0, none⟩ (.int .i64 73))) := hide ((h5.setCell (p := ⟨g4, 0, none⟩) (unhide HGG).2.1 _).setCell (p := ⟨g5, 0, none⟩) (unhide HGG).2.2.1 _)
          clear e5 h1 h2 h3 h4 r4 r5 hl h5 h6 hb7 hb8 hg4l z70 z71 z72 z73 z74 z75 z76 z80 z81 z82 z83 z84 z85 z86 z87
          gi_wp2_with fail
          obtain ⟨t4, t5, _⟩ := unhide HT
          exact ⟨(unhide HKV).1.trans (((KeepsOthers.setCell _ _ _).trans (KeepsOthers.setCell _ _ _)).from _), rfl, t4, t5, unhide HBE, by rw [List.map_append, List.map_singleton, List.all_append, List.all_cons, show leadI es cs (Subtype.val (⟨(some ii, some jj), hx⟩ : { x // x ∈ its })) = false from unhide HLD]; simp⟩
        | true =>
          have HLD := HLE
          cases yg with
          | true =>
            have HOUT : Hid (outI es cs (some ii, some jj) = []) := hide (by rw [unhide HOE]; rfl)
            have HBB := hide (And.intro hb7 hb8)
            obtain ⟨V, hV⟩ : ∃ V, V = W := ⟨_, rfl⟩
            subst hV
            gi_wp2_with fail
            refine ⟨trivial, callsIn_wide.2 ((unhide CC).mono ?_)⟩
            rintro e W ⟨rfl, bW⟩
            have HKV : Hid (KeepsFrom w7.heap.size V W ∧ KeepS (fun b => b < w7.heap.size ∧ b ≠ go) (fun T => T = 55 ∨ T = 68) V W) := hide ⟨⟨bW.size, fun k o _ hk _ => (bW.block k (Array.getElem?_eq_some_iff.1 hk).1).trans hk⟩, KeepS.of_below bW (fun b hb => by have := hb.1; have := (unhide HD).size; omega)⟩
            have HD2 := hide ((unhide HD).later bW)
            have hb7 := (bW.block b7 (Array.getElem?_eq_some_iff.1 (unhide HBB).1).1).trans (unhide HBB).1
            have hb8 := (bW.block b8 (Array.getElem?_eq_some_iff.1 (unhide HBB).2).1).trans (unhide HBB).2
            have HVS := hide (fun (y : Vl) (x : Value) (hv : IsV V B y x) => IsV.mono (bW.mono (Nat.le_trans (unhide HB) (unhide HD).below.size)) hv)
            clear HD bW CC z70 z71 z72 z73 z74 z75 z76 z80 z81 z82 z83 z84 z85 z86 z87
            have HD := HD2
            clear HD2
            obtain ⟨z70, z71, z72, z73, z74, z75, z76⟩ := row_cell7 hb7
            obtain ⟨z80, z81, z82, z83, z84, z85, z86, z87⟩ := row_cell8 hb8
            obtain ⟨⟨sv, ps, h1, h2, h3, h4⟩, r4, r5, hl, h5, h6⟩ := unhide HD
            clear hb7 hb8 h1 h2 h3 h4 r4 r5 hl h5 h6
            gi_wp2_with fail
            obtain ⟨⟨sv, ps, h1, h2, h3, h4⟩, r4, r5, hl, h5, h6⟩ := unhide HD
            exact ⟨(unhide HKV).1, (unhide HKV).2, by show ApI w w7 W go g4 g5 B es cs ((pre ++ [(⟨(some ii, some jj), hx⟩ : { x // x ∈ its })]).map Subtype.val); rw [List.map_append, List.map_singleton]; exact ⟨⟨sv, ps, h1, h2, by rw [List.flatMap_append, List.flatMap_singleton, show outI es cs (Subtype.val (⟨(some ii, some jj), hx⟩ : { x // x ∈ its })) = [] from unhide HOUT, List.append_nil]; exact h3, by rw [List.length_append]; omega⟩, r4, r5, by rw [List.all_append, hl, List.all_cons, show leadI es cs (Subtype.val (⟨(some ii, some jj), hx⟩ : { x // x ∈ its })) = true from unhide HLD]; rfl, h5, h6⟩⟩
          | false =>
            have HOUT : Hid (outI es cs (some ii, some jj) = [(yk, yv)]) := hide (by rw [unhide HOE]; rfl)
            have HBB := hide (And.intro hb7 hb8)
            obtain ⟨V, hV⟩ : ∃ V, V = W := ⟨_, rfl⟩
            subst hV
            gi_wp2_with fail
            refine ⟨trivial, callsIn_wide.2 ((unhide CC).mono ?_)⟩
            rintro e W ⟨rfl, bW⟩
            have HKV : Hid (KeepsFrom w7.heap.size V W ∧ KeepS (fun b => b < w7.heap.size ∧ b ≠ go) (fun T => T = 55 ∨ T = 68) V W) := hide ⟨⟨bW.size, fun k o _ hk _ => (bW.block k (Array.getElem?_eq_some_iff.1 hk).1).trans hk⟩, KeepS.of_below bW (fun b hb => by have := hb.1; have := (unhide HD).size; omega)⟩
            have HD2 := hide ((unhide HD).later bW)
            have hb7 := (bW.block b7 (Array.getElem?_eq_some_iff.1 (unhide HBB).1).1).trans (unhide HBB).1
            have hb8 := (bW.block b8 (Array.getElem?_eq_some_iff.1 (unhide HBB).2).1).trans (unhide HBB).2
            have HVS := hide (fun (y : Vl) (x : Value) (hv : IsV V B y x) => IsV.mono (bW.mono (Nat.le_trans (unhide HB) (unhide HD).below.size)) hv)
            clear HD bW CC z70 z71 z72 z73 z74 z75 z76 z80 z81 z82 z83 z84 z85 z86 z87
            have HD := HD2
            clear HD2
            obtain ⟨z70, z71, z72, z73, z74, z75, z76⟩ := row_cell7 hb7
            obtain ⟨z80, z81, z82, z83, z84, z85, z86, z87⟩ := row_cell8 hb8
            obtain ⟨⟨sv, ps, h1, h2, h3, h4⟩, r4, r5, hl, h5, h6⟩ := unhide HD
            obtain ⟨q, hq⟩ : ∃ q, ps.length = q := ⟨_, rfl⟩
            obtain ⟨so, sc, hsv⟩ : ∃ so sc, sv = .slice so q sc := by
              have := h2.row
              rw [hq] at this
              rcases this.2 with ⟨e, e2⟩ | ⟨b, cap, cur, e, _⟩
              · exact ⟨none, 0, by rw [e, e2]⟩
              · exact ⟨_, _, e⟩
            subst hsv
            have hqb : (q + 1) * 96 ≤ 140737488355328 := by have := unhide HLT; have := unhide HMB; rw [List.length_map] at h4; omega
            have hgol : go < W.heap.size := (Array.getElem?_eq_some_iff.1 h1).1
            have hgn : some go ≠ (Value.slice so q sc).ownBlock := fun e => by have := (h2.row.lt go e.symm).1; have := (unhide HGG).2.2.2.1; omega
            obtain ⟨CS, hCS⟩ : ∃ CS, cellsN ps = CS := ⟨_, rfl⟩
            obtain ⟨lo, hlo⟩ : ∃ lo, w7.heap.size = lo := ⟨_, rfl⟩
            obtain ⟨h3s, hh3s⟩ : ∃ h3s, W.heap.size = h3s := ⟨_, rfl⟩
            obtain ⟨W4, hW4⟩ : ∃ W4, W.alloc (.cells #[.string yk, .int .i64 yt0, .int .i64 yt1, .string yt2, .slice yt3 yt4 yt5, .slice yt6 yt7 yt8] 48) = W4 := ⟨_, rfl⟩
            have X4 : Below W.heap.size W W4 := by rw [← hW4]; exact (Below.refl _ _).alloc (Nat.le_refl _) _
            have at4 : W4.heap[h3s]? = some (.cells #[.string yk, .int .i64 yt0, .int .i64 yt1, .string yt2, .slice yt3 yt4 yt5, .slice yt6 yt7 yt8] 48 (0, 0)) := by rw [← hW4, ← hh3s]; exact heap_alloc_new W _
            have HOW : Hid (W4.ownsRow lo 48 6 (.slice so q sc) q CS) := hide (by
              have := row_to (w' := W4) h2.row (fun b hb => by
                obtain ⟨c, hc⟩ := row_ty h2.row hb
                exact X4.block b (Array.getElem?_eq_some_iff.1 hc).1)
              rw [hq, hCS, hlo] at this
              exact this)
            have hloW : lo ≤ W4.heap.size := by have := X4.size; omega
            obtain ⟨iv, hiv, hz0, hz1, hz2⟩ := info_parts infoEnN
            have HI := hide (And.intro hiv (And.intro hz0 (And.intro hz1 hz2)))
            have cz : W.cell? ⟨go, 0, none⟩ = some (.slice so q sc) := by rw [cell_of_row W go 0 _ _ (0, 0) h1]; rfl
            have HG4 : Hid (W4.heap[go]? = some (.cells #[.slice so q sc] 22 (0, 0)) ∧ go < W4.heap.size ∧ some go ≠ (Value.slice so q sc).ownBlock) := hide ⟨(X4.block go hgol).trans h1, Nat.lt_of_lt_of_le hgol X4.size, hgn⟩
            have HEND : Hid (∀ (W5 : World) (g cap : Nat), W5.ownsRow lo 48 6 (.slice (some ⟨g, 0, none⟩) (q + 1) cap) (q + 1) (CS ++ [.string yk, .int .i64 yt0, .int .i64 yt1, .string yt2, .slice yt3 yt4 yt5, .slice yt6 yt7 yt8]) → W4.grownBy W5 (Value.slice so q sc).ownBlock → KeepsFrom w7.heap.size W (W5.setCell ⟨go, 0, none⟩ (.slice (some ⟨g, 0, none⟩) (q + 1) cap)) ∧ KeepS (fun b => b < w7.heap.size ∧ b ≠ go) (fun T => T = 55 ∨ T = 68) W (W5.setCell ⟨go, 0, none⟩ (.slice (some ⟨g, 0, none⟩) (q + 1) cap)) ∧ ApI w w7 (W5.setCell ⟨go, 0, none⟩ (.slice (some ⟨g, 0, none⟩) (q + 1) cap)) go g4 g5 B es cs ((pre ++ [(⟨(some ii, some jj), hx⟩ : { x // x ∈ its })]).map Subtype.val)) := hide (by
              intro W5 g cap o5 g5'
              rw [← hlo, ← hCS] at o5
              rw [List.map_append, List.map_singleton]
              exact ApI.push (c := (yt0, yt1, yt2, yt3, yt4, yt5, yt6, yt7, yt8)) (y := yv) h1 h2 h3 h4 r4 r5 hl h5 h6 hq (unhide HGG).1 (unhide HGL) (unhide HGN) (unhide HB) (unhide HOUT) (unhide HLD) X4 (unhide HVS _ _ HV2) o5 g5')
            clear h1 h2 h3 h4 r4 r5 hl h5 h6 hgol hgn hiv hz0 hz1 hz2 hb7 hb8 hq hCS hlo X4
            gi_wp2_with (gi_at_builtin; refine wpListIn_append_own W4 rfl _ _ 22 rfl lo 48 iv (.agg #[.string ⟨#[]⟩, .int .i64 0, .int .i64 0, .string ⟨#[]⟩, .slice none 0 0, .slice none 0 0]) 6 96 Try.underlying22 (unhide HI).1 (unhide HI).2.1 (unhide HI).2.2.1 (unhide HI).2.2.2 rfl (by decide) (.slice so q sc) q CS (by rfl) (unhide HOW) ⟨h3s, 0, none⟩ 1 1 [.string yk, .int .i64 yt0, .int .i64 yt1, .string yt2, .slice yt3 yt4 yt5, .slice yt6 yt7 yt8] (by rfl) (by rfl) (World.news_of_block at4) (by simp [Value.oneCell']) (by unfold maxLen; omega) hqb hloW ?_; intro v5 W5 hown5 hgrow5 _; obtain ⟨g, cap, rfl⟩ := ownsRow_succ hown5; have e5 : W5.heap[go]? = some (.cells #[.slice so q sc] 22 (0, 0)) := (hgrow5.block go (unhide HG4).2.1 (unhide HG4).2.2).trans (unhide HG4).1; have cz5 : W5.cell? ⟨go, 0, none⟩ = some (.slice so q sc) := (cell_of_row W5 go 0 _ _ (0, 0) e5).trans rfl; have fz5 := frozen_of_row W5 go 0 _ _ e5; have RR := hide (unhide HEND W5 g cap hown5 hgrow5); clear hown5 hgrow5 e5 HEND HI HOW HG4 at4)
            exact ⟨(unhide HKV).1.trans (unhide RR).1, (unhide HKV).2.trans (unhide RR).2.1, (unhide RR).2.2⟩
  case done =>
    rintro D ys W hD rfl hI hK
    obtain ⟨⟨sv, ps, h1, h2, h3, h4⟩, r4, r5, hl, h5, h6⟩ := hI
    rw [List.attach_map_subtype_val] at h3 h4 hl
    have hAB : AB = true := by rw [← (unhide HAP).2]; exact hl
    have hps : ps.map enOf = AL := by rw [h3]; exact (unhide HAP).1
    obtain ⟨q, hq⟩ : ∃ q, ps.length = q := ⟨_, rfl⟩
    have hqn : q ≤ n + m := by have h9 := sdN_len (keysE es) (keysH cs) (n + m) 0 0; rw [unhide HIT] at h9; omega
    obtain ⟨oal, ocl, hsv, hE⟩ := h2.isE (fun p hp => by
      have : enOf p ∈ ps.map enOf := List.mem_map_of_mem hp
      rw [h3, List.mem_flatMap] at this
      obtain ⟨x, _, hx⟩ := this
      exact unhide HBT x _ hx) (by have := unhide HMB; omega)
    rw [hps] at hE
    rw [hq] at hsv
    subst hsv
    have hlen : AL.length = q := by rw [← hps, List.length_map, hq]
    have CRT := rightE_any AL oal q ocl W.heap.size W hlen hE (Nat.le_refl _)
    have HDD : Hid (w7.heap.size ≤ D ∧ W.heap[D]? = some (.deferred (some []))) := hide ⟨hD, hK⟩
    have c0 : W.cell? ⟨go, 0, none⟩ = some (.slice oal q ocl) := by rw [cell_of_row W go 0 _ _ (0, 0) h1]; rfl
    have HW : Hid (W.heap[go]? = some (.cells #[.slice oal q ocl] 22 (0, 0)) ∧ W.heap[g4]? = some (.cells #[.slice none 0 0] 22 (0, 0)) ∧ W.heap[g5]? = some (.cells #[.int .i64 0] 26 (0, 0)) ∧ Below w.heap.size w W ∧ w7.heap.size ≤ W.heap.size) := hide ⟨h1, r4, r5, h5, h6⟩
    have HE := hide hE
    have HAB := hide hAB
    clear h1 h2 h3 h4 r4 r5 hl h5 h6 hE hAB hps hq hD hK
    cases hRR : rightE AL with
    | false =>
      rw [hRR] at CRT
      have CC := hide CRT
      have HRR := hide hRR
      clear CRT hRR
      go_wp2_with fail
      refine (unhide CC).mono ?_
      rintro e u3 ⟨rfl, b3⟩
      obtain ⟨q1, q2, q3, q4, q5⟩ := unhide HW
      have r4 := (b3.block g4 (Array.getElem?_eq_some_iff.1 q2).1).trans q2
      have r5 := (b3.block g5 (Array.getElem?_eq_some_iff.1 q3).1).trans q3
      have HT := hide (two_res r4 r5 (unhide HGG).2.2.2.2 (.slice none 0 0) (.int .i64 73))
      have c4 : u3.cell? ⟨g4, 0, none⟩ = some (.slice none 0 0) := by rw [cell_of_row u3 g4 0 _ _ (0, 0) r4]; rfl
      have f4 := frozen_of_row u3 g4 0 _ _ r4
      have e5 : (u3.setCell ⟨g4, 0, none⟩ (.slice none 0 0)).heap[g5]? = _ := (heap_setCell_other _ _ _ _ (Ne.symm (unhide HGG).2.2.2.2)).trans r5
      have c5 : (u3.setCell ⟨g4, 0, none⟩ (.slice none 0 0)).cell? ⟨g5, 0, none⟩ = some (.int .i64 0) := by rw [cell_of_row _ g5 0 _ _ (0, 0) e5]; rfl
      have f5 := frozen_of_row _ g5 0 _ _ e5
      have HBE : Hid (Below w.heap.size w ((u3.setCell ⟨g4, 0, none⟩ (.slice none 0 0)).setCell ⟨g5, 0, none⟩ (.int .i64 73))) := hide (((q4.trans (b3.mono q4.size)).setCell (p := ⟨g4, 0, none⟩) (unhide HGG).2.1 _).setCell (p := ⟨g5, 0, none⟩) (unhide HGG).2.2.1 _)
      have HD3 : Hid (u3.heap[D]? = some (.deferred (some []))) := hide ((b3.block D (Array.getElem?_eq_some_iff.1 (unhide HDD).2).1).trans (unhide HDD).2)
      clear e5 q1 q2 q3 q4 q5 r4 r5 b3 CC c0
      go_wp2_with fail
      obtain ⟨W9, hW9⟩ : ∃ W9, (u3.setCell ⟨g4, 0, none⟩ (.slice none 0 0)).setCell ⟨g5, 0, none⟩ (.int .i64 73) = W9 := ⟨_, rfl⟩
      rw [hW9] at HT HBE ⊢
      obtain ⟨t4, t5, t6, t7⟩ := unhide HT
      have hDne : D ≠ g4 ∧ D ≠ g5 := by have := unhide HGL; have := (unhide HDD).1; omega
      have hKK : W9.heap[D]? = some (.deferred (some [])) := (t6 D hDne.1 hDne.2).trans (unhide HD3)
      refine ⟨by simp, .inl ⟨_, _, rfl, run_takeDeferred hKK, ?_⟩⟩
      have o4 : (W9.putObj D (.deferred none)).heap[g4]? = some (.cells #[.slice none 0 0] 22 (0, 0)) := (World.putObj_heap_other (fun e => hDne.1 e.symm)).trans t4
      have o5 : (W9.putObj D (.deferred none)).heap[g5]? = some (.cells #[.int .i64 73] 26 (0, 0)) := (World.putObj_heap_other (fun e => hDne.2 e.symm)).trans t5
      have hbe := unhide HBE
      exact ⟨_, ret_cc rfl _ _ g4 g5 _ _ rfl rfl (loadSE _ _ _ _ o4) (loadER _ _ _ _ o5), _, [], 73, rfl, EnN.nil _ _, hbe.grown (grownBy_putObj' _ _ _) (by have := hbe.size; omega) (fun k hk => by cases hk; have := (unhide H7).1.size; have := (unhide HDD).1; omega), by unfold ApAns; rw [unhide HAB, unhide HRR]; simp⟩
    | true =>
      rw [hRR] at CRT
      have CC := hide CRT
      have hent := (right_len hRR).2
      have hq128 : q ≤ 128 := by have := (right_len hRR).1; omega
      have HO : Hid (∀ u, Below W.heap.size W u → Calls Try.prog 36 #[.slice oal q ocl] u fun e w' => ∃ sv xs, e = .returned sv ∧ EnN w' u.heap.size sv xs ∧ xs.map (fun p => (p.1, p.2.2)) = AL ∧ Below u.heap.size u w') := hide (fun u hu => own_any AL oal q ocl W.heap.size u hlen ((unhide HE).later hu) hu.size hent hq128)
      have HRR := hide hRR
      clear CRT hRR hent
      go_wp2_with fail
      refine (unhide CC).mono ?_
      rintro e u3 ⟨rfl, b3⟩
      have B3 := hide b3
      have CO := hide (unhide HO u3 b3)
      have c03 : u3.cell? ⟨go, 0, none⟩ = some (.slice oal q ocl) := by
        obtain ⟨q1, _⟩ := unhide HW
        rw [cell_of_row u3 go 0 _ _ (0, 0) ((b3.block go (Array.getElem?_eq_some_iff.1 q1).1).trans q1)]
        rfl
      clear b3 CC c0 HO
      go_wp2_with fail
      refine (unhide CO).mono ?_
      rintro e u4 ⟨osv, oxs, rfl, hN, hx, b4⟩
      obtain ⟨q1, q2, q3, q4, q5⟩ := unhide HW
      have b34 : Below W.heap.size W u4 := (unhide B3).trans (b4.mono (unhide B3).size)
      have r4 := (b34.block g4 (Array.getElem?_eq_some_iff.1 q2).1).trans q2
      have r5 := (b34.block g5 (Array.getElem?_eq_some_iff.1 q3).1).trans q3
      have hone : osv.oneCell' = true := by
        rcases hN.row.2 with ⟨rfl, _⟩ | ⟨b, cap, cur, rfl, _⟩ <;> rfl
      obtain ⟨oso, osq, osc, rfl⟩ : ∃ oso osq osc, osv = .slice oso osq osc := by
        rcases hN.row.2 with ⟨e, _⟩ | ⟨b, cap, cur, e, _⟩
        · exact ⟨_, _, _, e⟩
        · exact ⟨_, _, _, e⟩
      have HT := hide (two_res r4 r5 (unhide HGG).2.2.2.2 (.slice oso osq osc) (.int .i64 0))
      have c4 : u4.cell? ⟨g4, 0, none⟩ = some (.slice none 0 0) := by rw [cell_of_row u4 g4 0 _ _ (0, 0) r4]; rfl
      have f4 := frozen_of_row u4 g4 0 _ _ r4
      have e5 : (u4.setCell ⟨g4, 0, none⟩ (.slice oso osq osc)).heap[g5]? = _ := (heap_setCell_other _ _ _ _ (Ne.symm (unhide HGG).2.2.2.2)).trans r5
      have c5 : (u4.setCell ⟨g4, 0, none⟩ (.slice oso osq osc)).cell? ⟨g5, 0, none⟩ = some (.int .i64 0) := by rw [cell_of_row _ g5 0 _ _ (0, 0) e5]; rfl
      have f5 := frozen_of_row _ g5 0 _ _ e5
      have HBE : Hid (Below w.heap.size w ((u4.setCell ⟨g4, 0, none⟩ (.slice oso osq osc)).setCell ⟨g5, 0, none⟩ (.int .i64 0))) := hide (((q4.trans (b34.mono q4.size)).setCell (p := ⟨g4, 0, none⟩) (unhide HGG).2.1 _).setCell (p := ⟨g5, 0, none⟩) (unhide HGG).2.2.1 _)
      have HD3 : Hid (u4.heap[D]? = some (.deferred (some []))) := hide ((b34.block D (Array.getElem?_eq_some_iff.1 (unhide HDD).2).1).trans (unhide HDD).2)
      have HNN : Hid (EnN u4 u3.heap.size (.slice oso osq osc) oxs ∧ oxs.map (fun p => (p.1, p.2.2)) = AL ∧ w7.heap.size ≤ u3.heap.size ∧ D < u3.heap.size ∧ w.heap.size ≤ u3.heap.size) := hide ⟨hN, hx, by have := (unhide B3).size; omega, by have := (Array.getElem?_eq_some_iff.1 (unhide HDD).2).1; have := (unhide B3).size; omega, by have := (unhide B3).size; have := q4.size; omega⟩
      clear e5 q1 q2 q3 q4 q5 r4 r5 b4 b34 CO c03 hN hx hone
      go_wp2_with fail
      obtain ⟨W9, hW9⟩ : ∃ W9, (u4.setCell ⟨g4, 0, none⟩ (.slice oso osq osc)).setCell ⟨g5, 0, none⟩ (.int .i64 0) = W9 := ⟨_, rfl⟩
      rw [hW9] at HT HBE ⊢
      obtain ⟨t4, t5, t6, t7⟩ := unhide HT
      have hDne : D ≠ g4 ∧ D ≠ g5 := by have := unhide HGL; have := (unhide HDD).1; omega
      have hKK : W9.heap[D]? = some (.deferred (some [])) := (t6 D hDne.1 hDne.2).trans (unhide HD3)
      refine ⟨by simp, .inl ⟨_, _, rfl, run_takeDeferred hKK, ?_⟩⟩
      have o4 : (W9.putObj D (.deferred none)).heap[g4]? = some (.cells #[.slice oso osq osc] 22 (0, 0)) := (World.putObj_heap_other (fun e => hDne.1 e.symm)).trans t4
      have o5 : (W9.putObj D (.deferred none)).heap[g5]? = some (.cells #[.int .i64 0] 26 (0, 0)) := (World.putObj_heap_other (fun e => hDne.2 e.symm)).trans t5
      have hbe := unhide HBE
      obtain ⟨hN, hx, k1, k2, k3⟩ := unhide HNN
      have hfin : EnN (W9.putObj D (.deferred none)) w.heap.size (.slice oso osq osc) oxs := hN.to k3 (by have := (grownBy_putObj' W9 D (.deferred none)).size; omega) (fun b hb _ _ => (World.putObj_heap_other (by omega)).trans (t6 b (by have := unhide HGL; omega) (by have := unhide HGL; omega)))
      exact ⟨_, ret_cc rfl _ _ g4 g5 _ _ rfl rfl (loadSE _ _ _ _ o4) (loadER _ _ _ _ o5), _, oxs, 0, rfl, hfin, hbe.grown (grownBy_putObj' _ _ _) (by have := hbe.size; omega) (fun k hk => by cases hk; have := (unhide H7).1.size; have := (unhide HDD).1; omega), by unfold ApAns; rw [unhide HAB, unhide HRR]; simp; exact hx⟩
  case stop =>
    rintro D c pre W hD hpre ⟨rfl, r4, r5, h5, hl⟩ hK
    have hAB : AB = false := by
      rw [← (unhide HAP).2]
      obtain ⟨t, ht⟩ := hpre
      have e := congrArg (List.map Subtype.val) ht
      rw [List.map_append, List.attach_map_subtype_val] at e
      rw [← e, List.all_append, hl]
      rfl
    have HAB := hide hAB
    have HF := hide (And.intro r4 (And.intro r5 (And.intro h5 hK)))
    have HD := hide hD
    clear r4 r5 h5 hl hK hD hAB hpre
    gi_wp2
    obtain ⟨r4, r5, h5, hK⟩ := unhide HF
    have hD := unhide HD
    have hgl := unhide HGL
    refine ⟨by simp, .inl ⟨_, _, rfl, run_takeDeferred hK, ?_⟩⟩
    have o4 : (W.putObj D (.deferred none)).heap[g4]? = some (.cells #[.slice none 0 0] 22 (0, 0)) := (World.putObj_heap_other (by omega)).trans r4
    have o5 : (W.putObj D (.deferred none)).heap[g5]? = some (.cells #[.int .i64 73] 26 (0, 0)) := (World.putObj_heap_other (by omega)).trans r5
    exact ⟨_, ret_cc rfl _ _ g4 g5 _ _ rfl rfl (loadSE _ _ _ _ o4) (loadER _ _ _ _ o5), _, [], 73, rfl, EnN.nil _ _, h5.grown (grownBy_putObj' _ _ _) (by have := h5.size; omega) (fun k hk => by cases hk; have := (unhide H7).1.size; omega), by unfold ApAns; rw [unhide HAB]; simp⟩
end Go.Proofs.Ytlmgiimgmjbkeaa
