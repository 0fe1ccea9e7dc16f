/-
  store's Entries; conditions: the form's own reach.
-/
import Derived.Test.YtdaooapfokhfcaaGreatA30
namespace Go.Proofs.YtdaooapfokhfcaaGreat
open Go.RowKit Go.Shelf
set_option linter.unusedVariables false
set_option linter.unusedSimpArgs false

/-- a block of cells -/
def isC (w : World) (b : Nat) : Prop := ∃ c T f, w.heap[b]? = some (.cells c T f)

theorem cell_isC {w : World} {a : Addr} {v : Value} (h : w.cell? a = some v) : isC w a.block := by
  unfold World.cell? at h
  split at h
  · rename_i c T f e
    exact ⟨c, T, f, e⟩
  · cases h

theorem VF.isC {w : World} {P : Nat → Prop} {kind n : Int} {s : ByteArray} {l : List Vl} {ks : List ByteArray} {al ak : Option Addr} {cl ck : Nat} {V : Nat → List Value} (h : VF w P kind n s l ks al ak cl ck V) : VF w (fun b => P b ∧ isC w b) kind n s l ks al ak cl ck V where
  bk := h.bk
  bn := h.bn
  bs := h.bs
  nl := h.nl
  nk := h.nk
  ll := h.ll
  lk := h.lk
  bl := h.bl
  bc := h.bc
  bq := h.bq
  hl := fun a ha i hi => ⟨⟨(h.hl a ha i hi).1, by
    have h5 := h.hv i hi
    have h0 := (h.hl a ha i hi).2 0 _ (List.getElem?_eq_getElem (by omega))
    have := cell_isC h0
    rwa [block_add, block_add] at this⟩, (h.hl a ha i hi).2⟩
  hv := h.hv
  hk := fun a ha i t ht => ⟨⟨(h.hk a ha i t ht).1, by
    have := cell_isC (h.hk a ha i t ht).2
    rwa [block_add] at this⟩, (h.hk a ha i t ht).2⟩
  bt := h.bt

theorem IsPL.isC {w : World} {P : Nat → Prop} : ∀ (l : List Vl) (V : Nat → List Value), IsPL w P l V → IsPL w (fun b => P b ∧ isC w b) l V
  | [], V, _ => by simp only [IsPL]
  | .mk kind n s l ks :: r, V, h => by
    simp only [IsPL] at h ⊢
    obtain ⟨⟨al, ak, cl, ck, V', hx, hf, hl⟩, hr⟩ := h
    exact ⟨⟨al, ak, cl, ck, V', hx, hf.isC, IsPL.isC l V' hl⟩, IsPL.isC r _ hr⟩

theorem Ty.isC {w : World} {P : Nat → Prop} : ∀ (r : Nat) (x : Value), Ty w P r x → Ty w (fun b => P b ∧ isC w b) r x
  | 0, x, h => h
  | r + 1, x, h => by
    obtain ⟨k, n, s, al, ll, cl, ak, m, ck, e, hl, hk⟩ := h
    refine ⟨k, n, s, al, ll, cl, ak, m, ck, e, ?_, ?_⟩
    · rcases hl with h | ⟨b, cs, h1, h2, h3, h4, h5, h6, h7, h8⟩
      · exact Or.inl h
      · refine Or.inr ⟨b, cs, h1, ⟨h2, _, _, _, h3⟩, h3, h4, h5, h6, h7, fun i hi => ?_⟩
        obtain ⟨y0, y1, y2, y3, y4, g, hr⟩ := h8 i hi
        exact ⟨y0, y1, y2, y3, y4, g, Ty.isC r _ hr⟩
    · rcases hk with h | ⟨b, cs, h1, h2, h3, h4⟩
      · exact Or.inl h
      · exact Or.inr ⟨b, cs, h1, ⟨h2, _, _, _, h3⟩, h3, h4⟩

theorem IsQ.isC {w : World} {P : Nat → Prop} {v : Vl} {x : Value} (h : IsQ w P v x) : IsQ w (fun b => P b ∧ isC w b) v x := by
  obtain ⟨⟨al, ak, cl, ck, V, hx, hf, hl⟩, ht⟩ := h
  exact ⟨⟨al, ak, cl, ck, V, hx, hf.isC, IsPL.isC v.l V hl⟩, Ty.isC _ _ ht⟩

/-- entries that came out, each its owner's, all from block lo on -/
structure EnO (w : World) (lo : Nat) (sv : Value) (es : List (ByteArray × (ThV × Vl))) : Prop where
  row : w.ownsRow lo 77 6 sv es.length (cellsV (mapK Prod.fst es))
  el : ∀ p ∈ es, IsQ w (fun b => (lo ≤ b ∧ b < w.heap.size ∧ some b ≠ sv.ownBlock) ∧ isC w b) p.2.2 (.agg (thV p.2.1).toArray)
  rg : ∃ m : Nat → Nat, (∀ i, m i ≤ m (i + 1)) ∧ ∀ (i : Nat) (p : ByteArray × (ThV × Vl)), es[i]? = some p → IsQ w (fun b => ((lo ≤ b ∧ b < w.heap.size ∧ some b ≠ sv.ownBlock) ∧ isC w b) ∧ m i ≤ b ∧ b < m (i + 1)) p.2.2 (.agg (thV p.2.1).toArray)

theorem EnO.to {w w' : World} {lo lo' : Nat} {sv : Value} {es : List (ByteArray × (ThV × Vl))} (h : EnO w lo sv es) (hl : lo' ≤ lo) (hs : w.heap.size ≤ w'.heap.size) (hw : ∀ b, lo ≤ b → b < w.heap.size → isC w b → w'.heap[b]? = w.heap[b]?) : EnO w' lo' sv es := by
  have key : ∀ b, ((lo ≤ b ∧ b < w.heap.size ∧ some b ≠ sv.ownBlock) ∧ isC w b) → ((lo' ≤ b ∧ b < w'.heap.size ∧ some b ≠ sv.ownBlock) ∧ isC w' b) := fun b hb => by
    refine ⟨⟨by have := hb.1.1; omega, by have := hb.1.2.1; omega, hb.1.2.2⟩, ?_⟩
    obtain ⟨c, T, f, e⟩ := hb.2
    exact ⟨c, T, f, (hw b hb.1.1 hb.1.2.1 hb.2).trans e⟩
  obtain ⟨m, hm, hr⟩ := h.rg
  refine ⟨own_low (row_to h.row (fun b hb => hw b (h.row.lt b hb).1 (h.row.lt b hb).2 ?_)) hl, fun p hp => (h.el p hp).to (fun b hb => hw b hb.1.1 hb.1.2.1 hb.2) key, m, hm, fun i p hp => (hr i p hp).to (fun b hb => hw b hb.1.1.1 hb.1.1.2.1 hb.1.2) (fun b hb => ⟨key b hb.1, hb.2⟩)⟩
  obtain ⟨c, hc⟩ := row_ty h.row hb
  exact ⟨_, _, _, hc⟩

theorem EnO.later {w w' : World} {lo : Nat} {sv : Value} {es : List (ByteArray × (ThV × Vl))} (h : EnO w lo sv es) (hb : Below w.heap.size w w') : EnO w' lo sv es := h.to (Nat.le_refl _) hb.size (fun b _ hl _ => hb.block b hl)

theorem EnO.nil (w : World) (lo : Nat) : EnO w lo (.slice none 0 0) [] := ⟨World.ownsRow_nil _ _ _ _, (fun p hp => by cases hp), fun i => i, fun i => Nat.le_succ i, fun i p hp => by cases hp⟩

/-- one more -/
theorem EnO.push {w w4 w5 : World} {lo g cap n : Nat} {sv : Value} {es : List (ByteArray × (ThV × Vl))} {k : ByteArray} {c : ThV} {y : Vl} (h : EnO w lo sv es) (hn : es.length = n) (hb : Below w.heap.size w w4) (hlo : lo ≤ w.heap.size) (hq : IsQ w4 (fun b => w.heap.size ≤ b ∧ b < w4.heap.size) y (.agg (thV c).toArray)) (ho : w5.ownsRow lo 77 6 (.slice (some ⟨g, 0, none⟩) (n + 1) cap) (n + 1) (cellsV (mapK Prod.fst es) ++ pcV (k, c))) (hg : w4.grownBy w5 sv.ownBlock) (hat : sv.ownBlock = some g ∨ g = w4.heap.size) :
    EnO w5 lo (.slice (some ⟨g, 0, none⟩) (n + 1) cap) (es ++ [(k, (c, y))]) := by
  have hl : (es ++ [(k, (c, y))]).length = n + 1 := by simp [hn]
  have hne : ∀ b, b < w4.heap.size → some b ≠ sv.ownBlock → some b ≠ (Value.slice (some ⟨g, 0, none⟩) (n + 1) cap).ownBlock := fun b h1 h2 e => by
    have e2 : b = g := by
      have : (Value.slice (some ⟨g, 0, none⟩) (n + 1) cap).ownBlock = some g := rfl
      rw [this] at e
      exact Option.some.inj e
    rcases hat with hat | hat
    · rw [e2] at h2
      exact h2 hat.symm
    · omega
  have hnb : ∀ b, w.heap.size ≤ b → some b ≠ sv.ownBlock := fun b h1 e => by
    have := (h.row.lt b e.symm).2
    omega
  have zb := hb.size
  have old : ∀ (P : Nat → Prop) (p : ByteArray × (ThV × Vl)), IsQ w4 (fun b => ((lo ≤ b ∧ b < w4.heap.size ∧ some b ≠ sv.ownBlock) ∧ isC w4 b) ∧ P b) p.2.2 (.agg (thV p.2.1).toArray) → IsQ w5 (fun b => ((lo ≤ b ∧ b < w5.heap.size ∧ some b ≠ (Value.slice (some ⟨g, 0, none⟩) (n + 1) cap).ownBlock) ∧ isC w5 b) ∧ P b) p.2.2 (.agg (thV p.2.1).toArray) := fun P p h4 => by
    refine h4.to (fun b hb' => hg.block b hb'.1.1.2.1 hb'.1.1.2.2) (fun b hb' => ⟨⟨⟨hb'.1.1.1, Nat.lt_of_lt_of_le hb'.1.1.2.1 hg.size, hne b hb'.1.1.2.1 hb'.1.1.2.2⟩, ?_⟩, hb'.2⟩)
    obtain ⟨c', T, f, e⟩ := hb'.1.2
    exact ⟨c', T, f, (hg.block b hb'.1.1.2.1 hb'.1.1.2.2).trans e⟩
  have new : IsQ w5 (fun b => ((lo ≤ b ∧ b < w5.heap.size ∧ some b ≠ (Value.slice (some ⟨g, 0, none⟩) (n + 1) cap).ownBlock) ∧ isC w5 b) ∧ w.heap.size ≤ b ∧ b < w4.heap.size) y (.agg (thV c).toArray) := by
    refine hq.isC.to (fun b hb' => hg.block b hb'.1.2 (hnb b hb'.1.1)) (fun b hb' => ⟨⟨⟨Nat.le_trans hlo hb'.1.1, Nat.lt_of_lt_of_le hb'.1.2 hg.size, hne b hb'.1.2 (hnb b hb'.1.1)⟩, ?_⟩, hb'.1⟩)
    obtain ⟨c', T, f, e⟩ := hb'.2
    exact ⟨c', T, f, (hg.block b hb'.1.2 (hnb b hb'.1.1)).trans e⟩
  have h4 := h.later hb
  refine ⟨?_, fun p hp => ?_, ?_⟩
  · rw [hl, mapK_snoc, cellsV_app]
    have e : cellsV [((k, (c, y)).1, Prod.fst (k, (c, y)).2)] = pcV (k, c) := by simp [cellsV]
    rw [e]
    exact ho
  · rcases List.mem_append.1 hp with hp | hp
    · exact (old (fun _ => True) p ((h4.el p hp).weak (fun b hb => ⟨hb, trivial⟩))).weak (fun b hb => hb.1)
    · rw [List.mem_singleton] at hp
      subst hp
      exact new.weak (fun b hb => hb.1)
  · obtain ⟨m, hm, hr⟩ := h.rg
    refine ⟨fun i => if i ≤ n then min (m i) w.heap.size else w4.heap.size, fun i => ?_, fun i p hp => ?_⟩
    · dsimp only
      have := hm i
      split <;> split <;> omega
    · have hle : i ≤ n := by
        have := (List.getElem?_eq_some_iff.1 hp).1
        rw [hl] at this
        omega
      dsimp only
      rw [if_pos hle]
      by_cases hi : i < n
      · rw [if_pos (show i + 1 ≤ n by omega)]
        rw [List.getElem?_append_left (by omega)] at hp
        have h5 := (hr i p hp).to (w' := w4) (Q := fun b => ((lo ≤ b ∧ b < w4.heap.size ∧ some b ≠ sv.ownBlock) ∧ isC w4 b) ∧ (min (m i) w.heap.size ≤ b ∧ b < min (m (i + 1)) w.heap.size)) (fun b hb' => hb.block b hb'.1.1.2.1) (fun b hb' => by
          refine ⟨⟨⟨hb'.1.1.1, by have := hb'.1.1.2.1; omega, hb'.1.1.2.2⟩, ?_⟩, by have := hb'.2.1; omega, by have := hb'.2.2; have := hb'.1.1.2.1; omega⟩
          obtain ⟨c', T, f, e⟩ := hb'.1.2
          exact ⟨c', T, f, (hb.block b hb'.1.1.2.1).trans e⟩)
        exact old _ p h5
      · have e : i = n := by omega
        subst e
        rw [if_neg (by omega)]
        rw [List.getElem?_append_right (by omega), hn, Nat.sub_self] at hp
        cases hp
        exact new.weak (fun b hb => ⟨hb.1, by have := hb.2.1; omega, hb.2.2⟩)

theorem infoEn : (Tryz.prog.info? 77).map (fun i => (i.zero, i.size, i.bytes)) = some (some (.agg #[.string ⟨#[]⟩, .int .i64 0, .int .i64 0, .string ⟨#[]⟩, .slice none 0 0, .slice none 0 0]), 6, 96) := by kernel_rfl

set_option maxRecDepth 100000 in
set_option maxHeartbeats 2000000 in
attribute [local go_sem] Oper.semAt_some in
theorem entries_store {w : World} {V : Nat → Prop} {t : Sx} {X : Xs} {Bs : List Xs} (h : Stt w V t X Bs) :
    Calls Tryz.prog 26 #[.pointer (some ⟨t.s, 0, none⟩)] w fun e w' => ∃ sv es, e = .returned sv ∧ mapK Prod.snd es = X ∧ EnO w' w.heap.size sv es ∧ Below w.heap.size w w' := by
  obtain ⟨w1, hw1⟩ : ∃ w1, w.alloc (.cells #[.slice none 0 0] 38) = w1 := ⟨_, rfl⟩
  obtain ⟨go, hgo⟩ : ∃ go, w.heap.size = go := ⟨_, rfl⟩
  have N1 : w1.heap[go]? = some (.cells #[.slice none 0 0] 38 (0, 0)) := by rw [← hw1, ← hgo]; exact heap_alloc_new w _
  have B1 : Below w.heap.size w w1 := by rw [← hw1]; exact (Below.refl _ _).alloc (Nat.le_refl _) _
  have s1 := h.later B1
  have CR := hide (rows_any s1.sto)
  have CA := hide (all_V s1.sto.tab (mapK_rk _ h.sto.rk) (by rw [mapK_len]; have := h.lenL; omega))
  have HE : Hid (∀ u, Below w.heap.size w u → ∀ x ∈ t.l, IsV u u.heap.size x.2.2 (.agg (thV x.2.1).toArray) ∧ rightB x.2.2 = true ∧ KeyOk x.1) := hide (fun u hu x hx => by
    have su := (h.later hu).sto
    have ok := su.ok x.1 x.2 hx
    exact ⟨ok.is.isV (fun b hb => (su.vs b hb).1), ok.right, ok.key⟩)
  have HX : Hid (mapK Prod.snd t.l = X) := hide h.ent
  have hll := h.lenL
  have HB1 := hide (And.intro B1 N1)
  clear h s1 B1 N1
  obtain ⟨s, g, v0, l0, Wg, mv, ms⟩ := t
  dsimp only at CR CA HE HX hll ⊢
  refine (callsIn_wide (n := 5)).1 ?_
  refine callsIn_of_wp_marks Tryz.func26 rfl trivial ?_ rfl
  simp only [Tryz.ntmps26, List.size_toArray, List.length_cons, List.length_nil, Nat.reduceAdd, Nat.reduceSub, Array.replicate_succ, Array.replicate_zero, List.push_toArray, List.append_toArray, List.nil_append, List.cons_append]
  refine wpIn_wide.2 ?_
  go_wp2_with (first | (go_at_call 41; refine (unhide CR).mono ?_; rintro e u1 ⟨rfl, hu1⟩; obtain rfl := hu1.symm; clear hu1) | (go_at_call 66; refine (unhide CA).mono ?_; rintro e w7 ⟨f, G, v', rfl, ⟨rfl, hsG, hsrow, hslow⟩, b7⟩))
  have B7 : Below w.heap.size w w7 := (unhide HB1).1.trans (b7.mono (unhide HB1).1.size)
  have N7 : w7.heap[go]? = some (.cells #[.slice none 0 0] 38 (0, 0)) := (b7.block go (Array.getElem?_eq_some_iff.1 (unhide HB1).2).1).trans (unhide HB1).2
  let en : { x // x ∈ l0 } → ByteArray × ThV := fun x => (x.1.1, x.1.2.1)
  have hatt : l0.attach.map en = mapK Prod.fst l0 := by
    show List.map ((fun p : ByteArray × (ThV × Vl) => (p.1, p.2.1)) ∘ Subtype.val) l0.attach = _
    rw [← List.map_map, List.attach_map_subtype_val]
    rfl
  have hsrow' : w7.ownsRow w1.heap.size 104 6 v' l0.attach.length (cellsV (l0.attach.map en)) := by
    rw [hatt]
    rw [mapK_len] at hsrow
    rw [List.length_attach]
    exact hsrow
  have hP : ∀ b, v'.ownBlock = some b → b < w7.heap.size ∧ w1.heap.size ≤ b := fun b hb => ⟨(hsrow.lt b hb).2, (hsrow.lt b hb).1⟩
  have hg1 : go < w1.heap.size := (Array.getElem?_eq_some_iff.1 (unhide HB1).2).1
  have H7 := hide (And.intro B7 (And.intro N7 hP))
  have HSQ := hide (And.intro hsG hsrow')
  have HG1 := hide hg1
  clear B7 N7 hsrow hsrow' hsG hslow b7 CA CR hatt hP hg1 HB1
  refine (wpIn_wide (n := 5)).1 ?_
  refine wpIn_rangeFunc_ownH rfl (by decide) (gf := 108) (lb := #[.pointer (some ⟨G, 0, none⟩)]) rfl trivial (enters_of Tryz.func108 (by kernel_rfl) rfl)
    (iter_stopsV en _ (by decide) l0.attach G v' w1.heap.size w7 (unhide HSQ).1 (unhide HSQ).2) (fun h1 h2 b hb => (h2 b hb).trans (h1 b hb)) (fun W j o o' hj _ _ _ b hb => World.putObj_heap_other (by have := ((unhide H7).2.2 b hb).1; omega)) (Below.refl _ _) (fun _ => rfl)
    (fun pre W => ∃ sv es, W.heap[go]? = some (.cells #[sv] 38 (0, 0)) ∧ EnO W w7.heap.size sv es ∧ mapK Prod.snd es = mapK Prod.snd (pre.map Subtype.val) ∧ es.length = pre.length ∧ Below w.heap.size w W ∧ w7.heap.size ≤ W.heap.size ∧ KeepV v' w7 W) (fun _ _ _ => False) ?hI (fun _ _ _ _ _ hs _ _ => hs) ?h0
    (fun x a' W => ∃ bu, a' = { tmps := #[.pointer (some ⟨s, 0, none⟩), undef, .slice none 0 0, .pointer (some ⟨go, 0, none⟩), .string x.1.1, .pointer (some ⟨bu, 0, none⟩), .pointer (some ⟨s, 0, none⟩), .pointer (some ⟨g, 0, none⟩), .func (.func 108) #[] #[.pointer (some ⟨G, 0, none⟩)], .string x.1.1, .agg (thV x.1.2.1).toArray, undef, undef, undef, undef, undef, undef, undef, undef, undef], defers := [] } ∧ W.heap[bu]? = some (.cells (thV x.1.2.1).toArray 32 (0, 0)) ∧ w7.heap.size ≤ bu) ?hAx ?assign ?body ?done ?stop
  case hI =>
    rintro pre W W' row ⟨sv, es, h1, h2, h3, h4, h5, h6, h7⟩ hg hr
    have hne : ∀ b, isC W b → some b ≠ row := fun b hb e => by
      obtain ⟨_, o, ho, hc⟩ := hr b e.symm
      obtain ⟨c, T, f, hh⟩ := hb
      rw [hh] at ho
      cases ho
      cases hc
    refine ⟨sv, es, (hg.block go (Array.getElem?_eq_some_iff.1 h1).1 (hne _ ⟨_, _, _, h1⟩)).trans h1, h2.to (Nat.le_refl _) hg.size (fun b _ hl hc => hg.block b hl (hne b hc)), h3, h4, h5.grown hg (by have := h5.size; omega) (fun k hk => by have a1 := (hr k hk).1; have a2 := (unhide H7).1.size; omega), by have := hg.size; omega, fun b hb => ?_⟩
    have a1 := ((unhide H7).2.2 b hb).1
    exact (hg.block b (by omega) (fun e => by have := (hr b e.symm).1; omega)).trans (h7 b hb)
  case h0 => exact ⟨_, [], (unhide H7).2.1, EnO.nil _ _, rfl, rfl, (unhide H7).1, Nat.le_refl _, fun _ _ => rfl⟩
  case hAx =>
    rintro x a' _ W W' row ⟨bu, h1, h2, h3⟩ hg hr
    refine ⟨bu, h1, (hg.block bu (Array.getElem?_eq_some_iff.1 h2).1 (fun e => ?_)).trans h2, h3⟩
    obtain ⟨_, o, ho, hc⟩ := hr bu e.symm
    rw [h2] at ho
    cases ho
    cases hc
  case assign =>
    rintro j pre ⟨⟨k, ⟨⟨c0, c1, c2, c3, c4, c5, c6, c7, c8⟩, oo⟩⟩, hx⟩ W K ⟨sv, es, h1, h2, h3, h4, h5, h6, h7⟩ hK
    have hb : Below W.heap.size W (W.alloc (.cells #[.int .i64 c0, .int .i64 c1, .string c2, .slice c3 c4 c5, .slice c6 c7 c8] 32)) := (Below.refl _ _).alloc (Nat.le_refl _) _
    have hk : KeepV v' W (W.alloc (.cells #[.int .i64 c0, .int .i64 c1, .string c2, .slice c3 c4 c5, .slice c6 c7 c8] 32)) := fun b hb' => hb.block b (Nat.lt_of_lt_of_le ((unhide H7).2.2 b hb').1 h6)
    have HKK : Hid (∀ a', a' = { tmps := #[.pointer (some ⟨s, 0, none⟩), undef, .slice none 0 0, .pointer (some ⟨go, 0, none⟩), .string k, .pointer (some ⟨W.heap.size, 0, none⟩), .pointer (some ⟨s, 0, none⟩), .pointer (some ⟨g, 0, none⟩), .func (.func 108) #[] #[.pointer (some ⟨G, 0, none⟩)], .string k, .agg #[.int .i64 c0, .int .i64 c1, .string c2, .slice c3 c4 c5, .slice c6 c7 c8], undef, undef, undef, undef, undef, undef, undef, undef, undef], defers := [] } → K a' (W.alloc (.cells #[.int .i64 c0, .int .i64 c1, .string c2, .slice c3 c4 c5, .slice c6 c7 c8] 32))) := hide (fun a' ha => hK a' _ ((KeepsOthers.alloc _ _).from _) hk ⟨sv, es, (hb.block go (Array.getElem?_eq_some_iff.1 h1).1).trans h1, h2.later hb, h3, h4, h5.trans (hb.mono h5.size), Nat.le_trans h6 hb.size, fun b hb' => (hk b hb').trans (h7 b hb')⟩ ⟨W.heap.size, ha, heap_alloc_new W _, h6⟩)
    clear h1 h2 h3 h4 h5 h6 h7 hb hk hK
    dsimp only [en, encPV, thV]
    gi_wp2
    exact unhide HKK _ rfl
  case body =>
    rintro j pre ⟨x, hx⟩ a' W hj ⟨rr, hrr⟩ ⟨sv, es, h1, h2, h3, h4, h5, h6, h7⟩ ⟨bu, rfl, hbu, hbl⟩ hlt
    obtain ⟨n, hn⟩ : ∃ n, es.length = n := ⟨_, rfl⟩
    obtain ⟨so, sc, hsv⟩ : ∃ so sc, sv = .slice so n sc := by
      have := h2.row
      rw [hn] at this
      rcases this.2 with ⟨e, e2⟩ | ⟨b, cap, cur, e, _⟩
      · exact ⟨none, 0, by rw [e, e2]⟩
      · exact ⟨_, _, e⟩
    subst hsv
    have hx3 := unhide HE W h5 x hx
    obtain ⟨k, ⟨⟨c0, c1, c2, c3, c4, c5, c6, c7, c8⟩, y⟩⟩ := x
    dsimp only [thV] at hbu hx3 ⊢
    have hnb : n < 1000 := by
      rw [List.length_attach] at hlt
      omega
    have HCl : Hid (∀ u, Calls Tryz.prog 45 #[.string k] u fun e w' => e = .returned (.string k) ∧ Below u.heap.size u w') := hide (fun u => str_clone k u (by have := hx3.2.2.2; omega))
    have HCo : Hid (∀ u, Below W.heap.size W u → Calls Tryz.prog 49 #[.agg #[.int .i64 c0, .int .i64 c1, .string c2, .slice c3 c4 c5, .slice c6 c7 c8]] u fun e w' => ∃ d : ThV, e = .returned (.agg (thV d).toArray) ∧ Below u.heap.size u w' ∧ IsQ w' (fun b => u.heap.size ≤ b ∧ b < w'.heap.size) y (.agg (thV d).toArray)) := hide (fun u hu => by
      refine (copy_any y _ u.heap.size u ((hx3.1.mono hu).lift hu.size) (Nat.le_refl _)).mono ?_
      rintro e w' ⟨x', rfl, b, q, -⟩
      have hq := q hx3.2.1
      obtain ⟨d, rfl⟩ := isP_th hq.1
      exact ⟨d, rfl, b, hq⟩)
    have hgol : go < W.heap.size := (Array.getElem?_eq_some_iff.1 h1).1
    have hbul : bu < W.heap.size := (Array.getElem?_eq_some_iff.1 hbu).1
    have hgw : go < w7.heap.size := (Array.getElem?_eq_some_iff.1 (unhide H7).2.1).1
    have hgn : some go ≠ (Value.slice so n sc).ownBlock := fun e => by have := (h2.row.lt go e.symm).1; omega
    have hbn : some bu ≠ (Value.slice so n sc).ownBlock := fun e => ty_ne ⟨_, hbu⟩ (row_ty h2.row e.symm) (by decide) rfl
    have HGO : Hid (go < W.heap.size ∧ some go ≠ (Value.slice so n sc).ownBlock ∧ bu < W.heap.size ∧ some bu ≠ (Value.slice so n sc).ownBlock ∧ ∀ u, Below W.heap.size W u → u.frozen? ⟨go, 0, none⟩ = false) := hide ⟨hgol, hgn, hbul, hbn, fun u hu => frozen_of_row u go 0 _ _ ((hu.block go hgol).trans h1)⟩
    obtain ⟨CS, hCS⟩ : ∃ CS, cellsV (mapK Prod.fst es) = CS := ⟨_, rfl⟩
    obtain ⟨lo, hlo⟩ : ∃ lo, w7.heap.size = lo := ⟨_, rfl⟩
    have HOW : Hid (∀ u, Below W.heap.size W u → u.ownsRow lo 77 6 (.slice so n sc) n CS) := hide (fun u hu => by
      have := (h2.later hu).row
      rw [hn, hCS, hlo] at this
      exact this)
    have hloW : lo ≤ W.heap.size := by omega
    obtain ⟨iv, hiv, hz0, hz1, hz2⟩ := info_parts infoEn
    have HI := hide (And.intro hiv (And.intro hz0 (And.intro hz1 hz2)))
    have HS0 : Hid (W.drew.cell? ⟨go, 0, none⟩ = some (.slice so n sc) ∧ W.drew.cell? ⟨bu, 0, none⟩ = some (.int .i64 c0) ∧ W.drew.cell? ⟨bu, 1, none⟩ = some (.int .i64 c1) ∧ W.drew.cell? ⟨bu, 2, none⟩ = some (.string c2) ∧ W.drew.cell? ⟨bu, 3, none⟩ = some (.slice c3 c4 c5) ∧ W.drew.cell? ⟨bu, 4, none⟩ = some (.slice c6 c7 c8)) := hide ⟨by rw [cell_of_row _ go 0 _ _ (0, 0) (show W.drew.heap[go]? = _ from h1)]; rfl, by rw [cell_of_row _ bu 0 _ _ (0, 0) (show W.drew.heap[bu]? = _ from hbu)]; rfl, by rw [cell_of_row _ bu 1 _ _ (0, 0) (show W.drew.heap[bu]? = _ from hbu)]; rfl, by rw [cell_of_row _ bu 2 _ _ (0, 0) (show W.drew.heap[bu]? = _ from hbu)]; rfl, by rw [cell_of_row _ bu 3 _ _ (0, 0) (show W.drew.heap[bu]? = _ from hbu)]; rfl, by rw [cell_of_row _ bu 4 _ _ (0, 0) (show W.drew.heap[bu]? = _ from hbu)]; rfl⟩
    have HA := hide (And.intro h1 (And.intro h2 (And.intro h3 (And.intro h4 (And.intro h5 (And.intro h6 h7))))))
    have HN := hide (And.intro hn (And.intro hCS hlo))
    clear h1 h2 h3 h4 h5 h6 h7 hx3 hgol hbul hgw hgn hbn hiv hz0 hz1 hz2 hbu hbl hrr hn hCS hlo hlt
    gi_wp2_with fail
    refine till_in (S := fun w' => w'.cell? ⟨go, 0, none⟩ = some (.slice so n sc) ∧ w'.cell? ⟨bu, 0, none⟩ = some (.int .i64 c0) ∧ w'.cell? ⟨bu, 1, none⟩ = some (.int .i64 c1) ∧ w'.cell? ⟨bu, 2, none⟩ = some (.string c2) ∧ w'.cell? ⟨bu, 3, none⟩ = some (.slice c3 c4 c5) ∧ w'.cell? ⟨bu, 4, none⟩ = some (.slice c6 c7 c8)) 8 (by kernel_rfl) ?nd ?nq ?_
    case nd =>
      intro i o ho c
      have : i < 9 := by
        have := (Array.getElem?_eq_some_iff.1 ho).1
        exact this
      rcases (show i = 0 ∨ i = 1 ∨ i = 2 ∨ i = 3 ∨ i = 4 ∨ i = 5 ∨ i = 6 ∨ i = 7 ∨ i = 8 by omega) with rfl | rfl | rfl | rfl | rfl | rfl | rfl | rfl | rfl <;> (cases ho; intro e; cases e)
    case nq =>
      rintro ⟨a, w, h⟩
      exact h
    refine till_take 0 (v := .slice so n sc) (some 11) rfl rfl rfl (by kernel_rfl) (by kernel_rfl) (by kernel_rfl) (by kernel_rfl) (fun _ _ _ h => h) (Or.inl ⟨by rfl, fun u hu => by obtain ⟨b0, b1, b2, b3, b4, b5⟩ := hu; go_simp⟩) (unhide HS0) ?_
    try simp only [Act.put, List.setIfInBounds_toArray, List.set_cons_zero, List.set_cons_succ]
    refine till_take 1 (v := .string k) (some 12) rfl rfl rfl (by kernel_rfl) (by kernel_rfl) (by kernel_rfl) (by kernel_rfl) (fun _ _ _ h => h) (Or.inl ⟨by rfl, fun u hu => by obtain ⟨b0, b1, b2, b3, b4, b5⟩ := hu; go_simp⟩) (unhide HS0) ?_
    try simp only [Act.put, List.setIfInBounds_toArray, List.set_cons_zero, List.set_cons_succ]
    refine till_take 3 (v := .agg #[.int .i64 c0, .int .i64 c1, .string c2, .slice c3 c4 c5, .slice c6 c7 c8]) (some 14) rfl rfl rfl (by kernel_rfl) (by kernel_rfl) (by kernel_rfl) (by kernel_rfl) (fun _ _ _ h => h) (Or.inl ⟨by rfl, fun u hu => by obtain ⟨b0, b1, b2, b3, b4, b5⟩ := hu; go_simp⟩) (unhide HS0) ?_
    try simp only [Act.put, List.setIfInBounds_toArray, List.set_cons_zero, List.set_cons_succ]
    refine till_one 2 (by kernel_rfl) rfl (fun K hK => ?_)
    go_simp
    refine (unhide HCl W.drew).mono ?_
    rintro e W2 ⟨rfl, b2⟩
    have X2 : Below W.heap.size W W2 := below_drew_of' b2
    have HS2 : Hid (W2.cell? ⟨go, 0, none⟩ = some (.slice so n sc) ∧ W2.cell? ⟨bu, 0, none⟩ = some (.int .i64 c0) ∧ W2.cell? ⟨bu, 1, none⟩ = some (.int .i64 c1) ∧ W2.cell? ⟨bu, 2, none⟩ = some (.string c2) ∧ W2.cell? ⟨bu, 3, none⟩ = some (.slice c3 c4 c5) ∧ W2.cell? ⟨bu, 4, none⟩ = some (.slice c6 c7 c8)) := hide ⟨cell_later X2 ((unhide HS0).1), cell_later X2 ((unhide HS0).2.1), cell_later X2 ((unhide HS0).2.2.1), cell_later X2 ((unhide HS0).2.2.2.1), cell_later X2 ((unhide HS0).2.2.2.2.1), cell_later X2 ((unhide HS0).2.2.2.2.2)⟩
    have H2 := hide X2
    clear b2 X2
    go_wp2_with fail
    refine hK.out _ _ (Or.inr (unhide HS2)) ?_
    clear hK K HS0
    try simp only [Act.put, List.setIfInBounds_toArray, List.set_cons_zero, List.set_cons_succ]
    refine till_one 4 (by kernel_rfl) rfl (fun K hK => ?_)
    have CC := hide (unhide HCo W2 (unhide H2))
    go_simp
    refine (unhide CC).mono ?_
    rintro e W3 ⟨⟨d0, d1, d2, d3, d4, d5, d6, d7, d8⟩, rfl, b3, q3⟩
    dsimp only [thV] at q3 ⊢
    have HS3 : Hid (W3.cell? ⟨go, 0, none⟩ = some (.slice so n sc) ∧ W3.cell? ⟨bu, 0, none⟩ = some (.int .i64 c0) ∧ W3.cell? ⟨bu, 1, none⟩ = some (.int .i64 c1) ∧ W3.cell? ⟨bu, 2, none⟩ = some (.string c2) ∧ W3.cell? ⟨bu, 3, none⟩ = some (.slice c3 c4 c5) ∧ W3.cell? ⟨bu, 4, none⟩ = some (.slice c6 c7 c8)) := hide ⟨cell_later b3 ((unhide HS2).1), cell_later b3 ((unhide HS2).2.1), cell_later b3 ((unhide HS2).2.2.1), cell_later b3 ((unhide HS2).2.2.2.1), cell_later b3 ((unhide HS2).2.2.2.2.1), cell_later b3 ((unhide HS2).2.2.2.2.2)⟩
    have H3 := hide (And.intro ((unhide H2).trans (b3.mono (unhide H2).size)) (q3.weak (Q := fun b => W.heap.size ≤ b ∧ b < W3.heap.size) (fun b hb => ⟨by have := hb.1; have := (unhide H2).size; omega, hb.2⟩)))
    clear b3 q3 CC
    go_wp2_with fail
    refine hK.out _ _ (Or.inr (unhide HS3)) ?_
    clear hK K HS2
    try simp only [Act.put, List.setIfInBounds_toArray, List.set_cons_zero, List.set_cons_succ]
    refine till_one 5 (by kernel_rfl) rfl (fun K hK => ?_)
    obtain ⟨b0, b1, b2, b3, b4, b5⟩ := unhide HS3
    go_simp
    refine hK.out _ _ (Or.inr (unhide HS3)) ?_
    clear hK K b0 b1 b2 b3 b4 b5
    try simp only [Act.put, List.setIfInBounds_toArray, List.set_cons_zero, List.set_cons_succ]
    refine till_one 6 (by kernel_rfl) rfl (fun K hK => ?_)
    go_simp
    obtain ⟨W4, hW4⟩ : ∃ W4, W3.alloc (.cells #[.string k, .int .i64 d0, .int .i64 d1, .string d2, .slice d3 d4 d5, .slice d6 d7 d8] 77) = W4 := ⟨_, rfl⟩
    have X4 : Below W3.heap.size W3 W4 := by rw [← hW4]; exact (Below.refl _ _).alloc (Nat.le_refl _) _
    have at4 : W4.heap[W3.heap.size]? = some (.cells #[.string k, .int .i64 d0, .int .i64 d1, .string d2, .slice d3 d4 d5, .slice d6 d7 d8] 77 (0, 0)) := by rw [← hW4]; exact heap_alloc_new W3 _
    rw [hW4]
    have HS4 : Hid (W4.cell? ⟨go, 0, none⟩ = some (.slice so n sc) ∧ W4.cell? ⟨bu, 0, none⟩ = some (.int .i64 c0) ∧ W4.cell? ⟨bu, 1, none⟩ = some (.int .i64 c1) ∧ W4.cell? ⟨bu, 2, none⟩ = some (.string c2) ∧ W4.cell? ⟨bu, 3, none⟩ = some (.slice c3 c4 c5) ∧ W4.cell? ⟨bu, 4, none⟩ = some (.slice c6 c7 c8)) := hide ⟨cell_later X4 ((unhide HS3).1), cell_later X4 ((unhide HS3).2.1), cell_later X4 ((unhide HS3).2.2.1), cell_later X4 ((unhide HS3).2.2.2.1), cell_later X4 ((unhide HS3).2.2.2.2.1), cell_later X4 ((unhide HS3).2.2.2.2.2)⟩
    have H4 : Hid (Below W.heap.size W W4 ∧ IsQ W4 (fun b => W.heap.size ≤ b ∧ b < W4.heap.size) y (.agg #[.int .i64 d0, .int .i64 d1, .string d2, .slice d3 d4 d5, .slice d6 d7 d8])) := hide ⟨(unhide H3).1.trans (X4.mono (unhide H3).1.size), ((unhide H3).2.move (fun b hb => X4.block b hb.2)).weak (fun b hb => ⟨hb.1, Nat.lt_of_lt_of_le hb.2 X4.size⟩)⟩
    obtain ⟨h3s, hh3s⟩ : ∃ h3s, W3.heap.size = h3s := ⟨_, rfl⟩
    rw [hh3s] at at4 ⊢
    refine hK.out _ _ (Or.inr (unhide HS4)) ?_
    clear hK K hW4 X4 hh3s HS3 H3 H2
    try simp only [Act.put, List.setIfInBounds_toArray, List.set_cons_zero, List.set_cons_succ]
    refine till_one 7 (by kernel_rfl) rfl (fun K hK => ?_)
    refine step_append_lies _ (by rfl) _ _ 38 (by rfl) lo 77 iv (.agg #[.string ⟨#[]⟩, .int .i64 0, .int .i64 0, .string ⟨#[]⟩, .slice none 0 0, .slice none 0 0]) 6 96 Tryz.underlying38 (unhide HI).1 (unhide HI).2.1 (unhide HI).2.2.1 (unhide HI).2.2.2 rfl (by omega) (.slice so n sc) n CS (by rfl) (unhide HOW W4 (unhide H4).1) ⟨h3s, 0, none⟩ 1 1 [.string k, .int .i64 d0, .int .i64 d1, .string d2, .slice d3 d4 d5, .slice d6 d7 d8] (by rfl) (by rfl) (World.news_of_block at4) (by simp [Value.oneCell']) (by omega) (by unfold maxLen; omega) (by omega) (Nat.le_trans hloW (unhide H4).1.size) _ rfl ?_
    intro g5 cap5 W5 hown5 hgrow5 hat5 hlt5
    change K (Act.put _ (some 18) _) W5
    have cz5 : W5.cell? ⟨go, 0, none⟩ = some (.slice so n sc) := (hgrow5.cell_far ⟨go, 0, none⟩ (Nat.lt_of_lt_of_le (unhide HGO).1 (unhide H4).1.size) (unhide HGO).2.1).trans ((unhide HS4).1)
    have HS5 : Hid (W5.cell? ⟨go, 0, none⟩ = some (.slice so n sc) ∧ W5.cell? ⟨bu, 0, none⟩ = some (.int .i64 c0) ∧ W5.cell? ⟨bu, 1, none⟩ = some (.int .i64 c1) ∧ W5.cell? ⟨bu, 2, none⟩ = some (.string c2) ∧ W5.cell? ⟨bu, 3, none⟩ = some (.slice c3 c4 c5) ∧ W5.cell? ⟨bu, 4, none⟩ = some (.slice c6 c7 c8)) := hide ⟨cz5, (hgrow5.cell_far ⟨bu, 0, none⟩ (Nat.lt_of_lt_of_le (unhide HGO).2.2.1 (unhide H4).1.size) (unhide HGO).2.2.2.1).trans ((unhide HS4).2.1), (hgrow5.cell_far ⟨bu, 1, none⟩ (Nat.lt_of_lt_of_le (unhide HGO).2.2.1 (unhide H4).1.size) (unhide HGO).2.2.2.1).trans ((unhide HS4).2.2.1), (hgrow5.cell_far ⟨bu, 2, none⟩ (Nat.lt_of_lt_of_le (unhide HGO).2.2.1 (unhide H4).1.size) (unhide HGO).2.2.2.1).trans ((unhide HS4).2.2.2.1), (hgrow5.cell_far ⟨bu, 3, none⟩ (Nat.lt_of_lt_of_le (unhide HGO).2.2.1 (unhide H4).1.size) (unhide HGO).2.2.2.1).trans ((unhide HS4).2.2.2.2.1), (hgrow5.cell_far ⟨bu, 4, none⟩ (Nat.lt_of_lt_of_le (unhide HGO).2.2.1 (unhide H4).1.size) (unhide HGO).2.2.2.1).trans ((unhide HS4).2.2.2.2.2)⟩
    have f5 : W5.frozen? ⟨go, 0, none⟩ = false := (hgrow5.frozen_far ⟨go, 0, none⟩ (Nat.lt_of_lt_of_le (unhide HGO).1 (unhide H4).1.size) (unhide HGO).2.1).trans ((unhide HGO).2.2.2.2 W4 (unhide H4).1)
    have H5 := hide (And.intro hown5 (And.intro hgrow5 hat5))
    refine hK.out _ _ (Or.inr (unhide HS5)) ?_
    clear hK K hown5 hgrow5 hat5 hlt5 HS4 cz5
    try simp only [Act.put, List.setIfInBounds_toArray, List.set_cons_zero, List.set_cons_succ]
    refine till_one 8 (by kernel_rfl) rfl (fun K hK => ?_)
    obtain ⟨b0, b1, b2, b3, b4, b5⟩ := unhide HS5
    go_simp
    refine hK.out _ _ (Or.inl (by first | rfl | trivial)) ?_
    clear hK K b0 b1 b2 b3 b4 b5 f5
    try simp only [Act.put, List.setIfInBounds_toArray, List.set_cons_zero, List.set_cons_succ]
    refine till_done (by kernel_rfl) ?_ _
    obtain ⟨h1, h2, h3, h4, h5, h6, h7⟩ := unhide HA
    obtain ⟨hn, hCS, hlo⟩ := unhide HN
    obtain ⟨o5, g5', a5⟩ := unhide H5
    obtain ⟨b4, q4⟩ := unhide H4
    obtain ⟨gw1, gn, bl, bn, gf⟩ := unhide HGO
    have hpush := h2.push (k := k) (c := (d0, d1, d2, d3, d4, d5, d6, d7, d8)) (y := y) hn b4 h6 q4 (by rw [hCS, hlo]; exact o5) g5' a5
    have hgw : go < w7.heap.size := (Array.getElem?_eq_some_iff.1 (unhide H7).2.1).1
    have e1 : (W5.setCell ⟨go, 0, none⟩ (.slice (some ⟨g5, 0, none⟩) (n + 1) cap5)).heap[go]? = some (.cells #[.slice (some ⟨g5, 0, none⟩) (n + 1) cap5] 38 (0, 0)) := heap_setCell_same W5 go 0 _ _ _ ((g5'.block go (Nat.lt_of_lt_of_le gw1 b4.size) gn).trans ((b4.block go gw1).trans h1))
    have hoth : ∀ b, b ≠ go → (W5.setCell ⟨go, 0, none⟩ (.slice (some ⟨g5, 0, none⟩) (n + 1) cap5)).heap[b]? = W5.heap[b]? := fun b hb => heap_setCell_other _ _ _ _ hb
    have hfr : Fr (fun j => j = go ∨ (Value.slice so n sc).ownBlock = some j) W (W5.setCell ⟨go, 0, none⟩ (.slice (some ⟨g5, 0, none⟩) (n + 1) cap5)) := (Fr.of b4).trans (G' := fun j => j = go ∨ (Value.slice so n sc).ownBlock = some j) ⟨g5'.os, g5'.tape, g5'.output, by rw [sz_setCell]; exact g5'.size, fun j hj hnn => (hoth j (fun e => hnn (.inl e))).trans (g5'.block j hj (fun e => hnn (.inr e.symm)))⟩ (fun _ _ e => e)
    have kv : KeepV v' W (W5.setCell ⟨go, 0, none⟩ (.slice (some ⟨g5, 0, none⟩) (n + 1) cap5)) := fun b hb => by
      have hb1 := (unhide H7).2.2 b hb
      have hg1 := unhide HG1
      refine hfr.block b (by omega) (fun e => ?_)
      rcases e with e | e
      · omega
      · have := (h2.row.lt b e).1
        omega
    have ko : KeepsOthers W (W5.setCell ⟨go, 0, none⟩ (.slice (some ⟨g5, 0, none⟩) (n + 1) cap5)) := ⟨hfr.size, fun b o hb ho => (hfr.block b (Array.getElem?_eq_some_iff.1 hb).1 (fun e => by
      rcases e with e | e
      · rw [e, h1] at hb
        cases hb
        cases ho
      · obtain ⟨c, hc⟩ := row_ty h2.row e
        rw [hc] at hb
        cases hb
        cases ho)).trans hb⟩
    have hwg : w.heap.size ≤ go := by omega
    have hF : Hid (KeepsFrom w7.heap.size W (W5.setCell ⟨go, 0, none⟩ (.slice (some ⟨g5, 0, none⟩) (n + 1) cap5)) ∧ KeepV v' W (W5.setCell ⟨go, 0, none⟩ (.slice (some ⟨g5, 0, none⟩) (n + 1) cap5)) ∧ ∃ sv es, (W5.setCell ⟨go, 0, none⟩ (.slice (some ⟨g5, 0, none⟩) (n + 1) cap5)).heap[go]? = some (.cells #[sv] 38 (0, 0)) ∧ EnO (W5.setCell ⟨go, 0, none⟩ (.slice (some ⟨g5, 0, none⟩) (n + 1) cap5)) w7.heap.size sv es ∧ mapK Prod.snd es = mapK Prod.snd ((pre ++ [(⟨(k, (c0, c1, c2, c3, c4, c5, c6, c7, c8), y), hx⟩ : { x // x ∈ l0 })]).map Subtype.val) ∧ es.length = (pre ++ [(⟨(k, (c0, c1, c2, c3, c4, c5, c6, c7, c8), y), hx⟩ : { x // x ∈ l0 })]).length ∧ Below w.heap.size w (W5.setCell ⟨go, 0, none⟩ (.slice (some ⟨g5, 0, none⟩) (n + 1) cap5)) ∧ w7.heap.size ≤ (W5.setCell ⟨go, 0, none⟩ (.slice (some ⟨g5, 0, none⟩) (n + 1) cap5)).heap.size ∧ KeepV v' w7 (W5.setCell ⟨go, 0, none⟩ (.slice (some ⟨g5, 0, none⟩) (n + 1) cap5))) := hide ⟨ko.from _, kv, _, _, e1, hpush.to (Nat.le_refl _) (by rw [sz_setCell]; exact Nat.le_refl _) (fun b hb _ _ => hoth b (by omega)), by rw [mapK_snoc, h3, List.map_append, List.map_singleton, mapK_snoc], by simp [h4], h5.trans (hfr.below h5.size (fun j hj => by
      rcases hj with hj | hj
      · omega
      · have h8 := (h2.row.lt j hj).1
        have h9 := (unhide H7).1.size
        omega)), Nat.le_trans h6 hfr.size, fun b hb => (kv b hb).trans (h7 b hb)⟩
    obtain ⟨W6, hW6⟩ : ∃ W6, W5.setCell ⟨go, 0, none⟩ (.slice (some ⟨g5, 0, none⟩) (n + 1) cap5) = W6 := ⟨_, rfl⟩
    rw [hW6] at hF ⊢
    exact unhide hF
  case done =>
    rintro D ys W hD rfl ⟨sv, es, h1, h2, h3, h4, h5, h6, h7⟩ hK
    have hg : W.grownBy (W.putObj D (.deferred none)) (some D) := grownBy_putObj' _ _ _
    have hne : ∀ b, isC W b → some b ≠ some D := fun b hb e => by
      cases e
      obtain ⟨c, T, f, hh⟩ := hb
      rw [hh] at hK
      cases hK
    have f1 := h2.to (w' := W.putObj D (.deferred none)) (lo' := w.heap.size) (unhide H7).1.size hg.size (fun b _ hl hc => hg.block b hl (hne b hc))
    have f2 : Below w.heap.size w (W.putObj D (.deferred none)) := h5.grown hg (by have := h5.size; omega) (fun k hk => by cases hk; have := (unhide H7).1.size; omega)
    rw [List.attach_map_subtype_val, unhide HX] at h3
    have c0 : W.cell? ⟨go, 0, none⟩ = some sv := by rw [cell_of_row W go 0 _ _ (0, 0) h1]; rfl
    have hsv : sv.oneCell' = true := by
      rcases h2.row.2 with ⟨rfl, _⟩ | ⟨b, cap, cur, rfl, _⟩ <;> rfl
    have HF := hide (And.intro h3 (And.intro f1 f2))
    clear h1 h2 h3 h4 h5 h6 h7 hg hne f1 f2
    go_wp2_with fail
    refine ⟨by simp, .inl ⟨_, _, rfl, run_takeDeferred hK, ?_⟩⟩
    obtain ⟨h3, f1, f2⟩ := unhide HF
    exact ⟨_, results_tmp rfl _ _ _, sv, es, rfl, h3, f1, f2⟩
  case stop =>
    rintro D c pre W _ _ h _
    exact h.elim

end Go.Proofs.YtdaooapfokhfcaaGreat
