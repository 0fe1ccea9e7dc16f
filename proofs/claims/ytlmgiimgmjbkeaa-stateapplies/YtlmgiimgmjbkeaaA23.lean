/-
  The walk of the document's copied: a value in new memory; conditions: at most 5000 parts, the form's own reach.
  The walk of the document's Copy; conditions: the form's own reach.
-/
import Derived.Test.YtlmgiimgmjbkeaaA09
import Derived.Test.YtlmgiimgmjbkeaaA21
import Derived.Test.YtlmgiimgmjbkeaaA22
import Derived.Test.YtlmgiimgmjbkeaaA15
set_option linter.unusedVariables false
set_option linter.unusedSimpArgs false
namespace Go.Proofs.Ytlmgiimgmjbkeaa
open Go.RowKit
set_option linter.unusedVariables false
set_option linter.unusedSimpArgs false

theorem run_nilnil (w : World) (t ty e : TypeId) (i : TypeInfo) (ht : Try.prog.underlying t = some (.slice e)) (hi : Try.prog.info? e = some i) :
    (Builtin.append_ #[t, t] ty #[.slice none 0 0, .slice none 0 0]).run Try.prog w = .ok (.slice none 0 0) w := by
  simp [Builtin.append_, run_underlying ht, sizeOf, typeInfo, hi, Builtin.lenOf, Builtin.firstCells, storeCells]

/-- append of texts onto nothing -/
theorem wpl_nilS {w : World} {ops : Array Oper} {rest : List Oper} {o : Oper} {a : Act} {Q' : Exit → Act → World → Prop} (hgd : o.guard = none) (sl x : Operand)
    (ho : o.op = .call { callee := .builtin .append, args := #[sl, x], argTypes := #[32, 32] }) (ks : List ByteArray) (ak : Option Addr) (m ck : Nat) (hs : a.eval sl = .slice none 0 0) (hx : a.eval x = .slice ak m ck) (hm : ks.length = m) (hnone : ak = none → m = 0 ∧ ck = 0) (hK : IsK w ks ak ck) (hb : 16 * m ≤ 140737488351232)
    (h : ∀ v' w', Hid (w'.ownsRow w.heap.size 9 1 v' m (ks.map Value.string) ∧ Below w.heap.size w w') → wpList Try.prog ops Q' rest (a.put o.dst v') w') :
    wpList Try.prog ops Q' (o :: rest) a w := by
  refine wpList_plain hgd fun K hK' => ?_
  obtain ⟨i0, hi, hz0, hz1, hz2⟩ := info_parts infoSc
  have key : ∃ v' w', (Builtin.append_ #[32, 32] o.type #[.slice none 0 0, .slice ak m ck]).run Try.prog w = .ok v' w' ∧ w'.ownsRow w.heap.size 9 1 v' m (ks.map Value.string) ∧ Below w.heap.size w w' := by
    cases ak with
    | none =>
      obtain ⟨rfl, rfl⟩ := hnone rfl
      obtain rfl : ks = [] := List.eq_nil_of_length_eq_zero hm
      exact ⟨_, _, run_nilnil w _ _ 9 i0 Try.underlying32 hi, World.ownsRow_nil _ _ _ _, Below.refl _ _⟩
    | some ad =>
      obtain ⟨v', w', hr, own, gr, _⟩ := run_append_own (P := Try.prog) w w.heap.size 32 o.type 9 i0 (.string ⟨#[]⟩) 1 16 Try.underlying32 hi hz0 hz1 hz2 rfl (by omega) (.slice none 0 0) 0 [] (World.ownsRow_nil _ _ _ _) ad m ck (ks.map Value.string) (by simp [hm]) (fun j u hu => by
        rw [List.getElem?_map] at hu
        obtain ⟨t, ht, rfl⟩ := Option.map_eq_some_iff.1 hu
        exact hK.cell ad rfl j t ht) (fun u hu => by
        obtain ⟨t, _, rfl⟩ := List.mem_map.1 hu
        rfl) (by unfold maxLen; omega) (by omega) (Nat.le_refl _)
      refine ⟨v', w', hr, by simpa using own, ⟨gr.os, gr.tape, gr.output, gr.size, fun k hk => gr.block k hk (by simp [Value.ownBlock])⟩⟩
  obtain ⟨v', w', hrun, hr⟩ := key
  unfold Oper.wp
  simp only [execOp, ho, resolve, invoke, builtin, Sem.run_bind, Sem.run_pure, Result.andThen_ok, List.map_toArray, List.map_cons, List.map_nil, hs, hx, hrun]
  exact hK' _ _ (h v' w' (hide hr))

/-- all keys at once -/
theorem Mid.allK {w w6 : World} {base gb m : Nat} {k n : Int} {s : ByteArray} {l : List Vl} {ks : List ByteArray} {Lv sv : Value} {i : Nat} {V : Nat → List Value} (h : Mid w base gb k n s l ks Lv (.slice none 0 0) i 0 V) (hb : Below w.heap.size w w6) (hm : ks.length = m)
    (ho : w6.ownsRow w.heap.size 9 1 sv m (ks.map Value.string)) : Mid (w6.setCell ⟨gb, 4, none⟩ sv) base gb k n s l ks Lv sv i m V := by
  rcases ho.2 with ⟨rfl, rfl⟩ | ⟨g, cap, cur, rfl, hg, _⟩
  · have h6 := h.later hb
    exact h6.later (same_set h6.box rfl)
  · refine h.pushK (fun b hl _ => hb.block b hl) hb.size ?_ (Or.inr hg)
    rw [List.take_of_length_le (by omega)]
    exact own_base ho h.size

def CpdAt (b : Nat) : Prop := ∀ (v : Vl) (x : Value) (B : Nat) (w : World), dep v ≤ b → cnt v ≤ 5000 → IsV w B v x → B ≤ w.heap.size →
    Calls Try.prog 49 #[x] w fun e w' => ∃ x', e = .returned x' ∧ IsQ w' (fun b => w.heap.size ≤ b ∧ b < w'.heap.size) v x' ∧ Below w.heap.size w w'

theorem cpd_zero : CpdAt 0 := by
  intro v x B w h
  have := dep_pos v
  omega

set_option maxRecDepth 100000 in
set_option maxHeartbeats 2000000 in
theorem cpd_step (b : Nat) (ih : CpdAt b) : CpdAt (b + 1) := by
  intro v x B w hd hc5 hv hBs
  obtain ⟨k, n, s, l, ks, al, ak, cl, ck, rfl, rfl⟩ := hv.shape
  obtain ⟨m, hm⟩ : ∃ m, ks.length = m := ⟨_, rfl⟩
  obtain ⟨ln, hln⟩ : ∃ ln, l.length = ln := ⟨_, rfl⟩
  have hbd : ((-9223372036854775808 ≤ k ∧ k ≤ 9223372036854775807) ∧ (-9223372036854775808 ≤ n ∧ n ≤ 9223372036854775807) ∧ s.size ≤ 140737488351232 ∧ 16 * ks.length ≤ 140737488351232 ∧ ∀ t ∈ ks, t.size ≤ 140737488351232) ∧ (ak = none → ks.length = 0 ∧ ck = 0) := by
    obtain ⟨_, _, _, _, _, V, hf, _⟩ := IsP.at hv
    exact ⟨⟨hf.bk, hf.bn, hf.bs, hf.bq, hf.bt⟩, hf.nk⟩
  obtain ⟨HBD, hak⟩ := hbd
  have HBD := hide HBD
  have hm16 := (unhide HBD).2.2.2.1
  rw [hm] at hak hm16
  have HAK := hide hak
  have hlb : ln ≤ 5000 := by have := len_cntL l; simp only [cnt] at hc5; omega
  have HCN : Hid (cntL l ≤ 5000) := hide (by simp only [cnt] at hc5; omega)
  rw [hm, hln] at hv
  rw [hm, hln]
  obtain ⟨g, hg⟩ : ∃ g, w.heap.size = g := ⟨_, rfl⟩
  have HL := hide (And.intro hm hln)
  have hdl : ∀ i y, l[i]? = some y → dep y ≤ b := fun i y h => by have h1 := dep_elem l i y h; simp only [dep] at hd; omega
  have HD := hide hdl
  have HV : Hid (∀ u, Below g w u → IsV u B (.mk k n s l ks) (.agg #[.int .i64 k, .int .i64 n, .string s, .slice al ln cl, .slice ak m ck])) := hide (fun u hu => hv.mono (hu.mono (by omega)))
  have hBg : B ≤ g := by omega
  have T3 := Three.mk' w g hg #[.int .i64 k, .int .i64 n, .string s, .slice al ln cl, .slice ak m ck] #[.int .i64 0, .int .i64 0, .string ⟨#[]⟩, .slice none 0 0, .slice none 0 0] #[.int .i64 k, .int .i64 n, .string s, .slice none 0 0, .slice none 0 0]
  clear hv hm hln hdl hd hc5 hak
  go_enter Try.func49, Try.ntmps49
  go_upto_region 2 with fail
  obtain ⟨w3, hw3⟩ : ∃ w3, ((w.alloc (.cells #[.int .i64 k, .int .i64 n, .string s, .slice al ln cl, .slice ak m ck] 34)).alloc (.cells #[.int .i64 0, .int .i64 0, .string ⟨#[]⟩, .slice none 0 0, .slice none 0 0] 34)).alloc (.cells #[.int .i64 k, .int .i64 n, .string s, .slice none 0 0, .slice none 0 0] 34) = w3 := ⟨_, rfl⟩
  rw [hw3] at T3 ⊢
  obtain ⟨gb, hgb⟩ : ∃ gb, g + 1 + 1 = gb := ⟨_, rfl⟩
  rw [hgb]
  have HC1 : Hid (Cp w w3 g gb #[.int .i64 k, .int .i64 n, .string s, .slice al ln cl, .slice ak m ck] #[.int .i64 0, .int .i64 0, .string ⟨#[]⟩, .slice none 0 0, .slice none 0 0]) := hide ⟨T3.at0, T3.at1, by omega, by have := T3.size; omega, T3.below⟩
  have HM1 : Hid (Mid w3 (gb + 1) gb k n s l ks (.slice none 0 0) (.slice none 0 0) 0 0 (fun _ => [])) := hide ⟨by rw [← hgb]; exact T3.at2, by omega, by have := T3.size; omega, World.ownsRow_nil _ _ _ _, World.ownsRow_nil _ _ _ _, Or.inl rfl, fun c h => by omega, fun c y h => by omega⟩
  clear T3 hw3 hgb
  obtain ⟨c0, c1, c2, c3, c4⟩ := row_cell (unhide HC1).at0
  obtain ⟨d0, d1, d2, d3, d4⟩ := row_cell (unhide HM1).box
  have tokA : True := trivial
  go_upto_region 3 with (first | (have _t := tokA; at_builtin; refine wpl_nilS rfl (.tmp 14) (.tmp 16) rfl ks ak m ck rfl rfl (unhide HL).1 (unhide HAK) (unhide HV w3 (unhide HC1).below).keys.1 (by omega) ?_; intro sv w4 H4; clear tokA; obtain ⟨ao, cp, rfl, hsl⟩ := slice_form (unhide H4).1; clear hsl; have M4 := (unhide HM1).later (unhide H4).2; have k4 := (row_cell M4.box).2.2.2.2; have f4 : w4.frozen? ⟨gb, 4, none⟩ = false := frozen_of_row w4 gb 4 _ _ M4.box; clear M4 c0 c1 c2 c3 c4 d0 d1 d2 d3 d4))
  have HC2 := hide (((unhide HC1).later (unhide H4).2).set (f := 4) (.slice ao m cp))
  have HM2 := hide ((unhide HM1).allK (unhide H4).2 (unhide HL).1 (unhide H4).1)
  obtain ⟨w5, hw5⟩ : ∃ w5, w4.setCell ⟨gb, 4, none⟩ (.slice ao m cp) = w5 := ⟨_, rfl⟩
  rw [hw5] at HC2 HM2 ⊢
  clear hw5 k4 f4 H4 HC1 HM1
  go_wp2_with fail
  go_loopw [4] (fun x wr => ∃ (i : Nat) (Lv : Value) (V : Nat → List Value), i ≤ ln ∧ x = .int .i64 i ∧ Hid (Cp w wr g gb #[.int .i64 k, .int .i64 n, .string s, .slice al ln cl, .slice ak m ck] #[.int .i64 0, .int .i64 0, .string ⟨#[]⟩, .slice none 0 0, .slice none 0 0]) ∧ Hid (Mid wr (gb + 1) gb k n s l ks Lv (.slice ao m cp) i m V)) (fun x _ => ln - (intOf x).toNat)
  case atStart => exact ⟨0, _, _, Nat.zero_le _, rfl, HC2, HM2⟩
  case round =>
    clear HC2 HM2
    obtain ⟨i, Lv, V, hi, rfl, HCr, HMr⟩ := hrel
    obtain ⟨c0, c1, c2, c3, c4⟩ := row_cell (unhide HCr).at0
    by_cases hlt : i < ln
    · have i1 : (i : Int) < (ln : Int) := by omega
      have i0 : (0 : Int) ≤ (i : Int) := by omega
      obtain ⟨y, hy⟩ : ∃ y, l[i]? = some y := ⟨_, List.getElem?_eq_getElem (by have := (unhide HL).2; omega)⟩
      obtain ⟨a, y0, y1, y2, al', ak', ll', m', cl', ck', rfl, hab, hce, hve⟩ := (unhide HV wr (unhide HCr).below).elem i y hy
      have e0 : wr.cell? (a.add (i * 5)) = some (.int .i64 y0) := hce 0 _ rfl
      have e1 : wr.cell? ⟨(a.add (i * 5)).block, (a.add (i * 5)).off + 1, none⟩ = some (.int .i64 y1) := hce 1 _ rfl
      have e2 : wr.cell? ⟨(a.add (i * 5)).block, (a.add (i * 5)).off + 2, none⟩ = some (.string y2) := hce 2 _ rfl
      have e3 : wr.cell? ⟨(a.add (i * 5)).block, (a.add (i * 5)).off + 3, none⟩ = some (.slice al' ll' cl') := hce 3 _ rfl
      have e4 : wr.cell? ⟨(a.add (i * 5)).block, (a.add (i * 5)).off + 4, none⟩ = some (.slice ak' m' ck') := hce 4 _ rfl
      have HY := hide hy
      have HLb : Hid (∀ q, Lv.ownBlock = some q → gb + 1 ≤ q ∧ q < wr.heap.size) := hide (unhide HMr).ownL.lt
      obtain ⟨iv, hiv, hz0, hz1, hz2⟩ := info_parts infoVc
      have HI := hide (And.intro hiv (And.intro hz0 (And.intro hz1 hz2)))
      have CR := hide (ih y _ B wr (unhide HD i y hy) (by have h1 := cntL_next l i y hy; have h2 := cntL_take_le l (i + 1); have h3 := unhide HCN; omega) hve (by have := (unhide HCr).size; have := (unhide HCr).low; omega))
      clear hy hce hve hiv hz0 hz1 hz2
      go_wp2_with fail
      refine (unhide CR).mono ?_
      rintro e w5 ⟨x5, rfl, h5, b5⟩
      obtain ⟨k5, n5, s5, l5, ks5, al5, ak5, cl5, ck5, hy5, rfl⟩ := h5.shape
      obtain ⟨lc5, hlc5⟩ : ∃ lc5, l5.length = lc5 := ⟨_, rfl⟩
      obtain ⟨mc5, hmc5⟩ : ∃ mc5, ks5.length = mc5 := ⟨_, rfl⟩
      rw [hlc5, hmc5] at h5 ⊢
      have H5 := hide (And.intro h5 b5)
      clear b5 h5 hy5 hlc5 hmc5 CR c0 c1 c2 c3 c4 e0 e1 e2 e3 e4
      go_upto_region 7 with fail
      obtain ⟨gx, hgx⟩ : ∃ gx, w5.heap.size = gx := ⟨_, rfl⟩
      obtain ⟨w6, hw6⟩ : ∃ w6, w5.alloc (.cells #[.int .i64 k5, .int .i64 n5, .string s5, .slice al5 lc5 cl5, .slice ak5 mc5 ck5] 34) = w6 := ⟨_, rfl⟩
      have HX : Hid (w6.heap[gx]? = some (.cells #[.int .i64 k5, .int .i64 n5, .string s5, .slice al5 lc5 cl5, .slice ak5 mc5 ck5] 34 (0, 0)) ∧ Below w5.heap.size w5 w6) := hide (by
        rw [← hw6, ← hgx]
        exact ⟨heap_alloc_new w5 _, (Below.refl _ _).alloc (Nat.le_refl _) _⟩)
      simp only [hgx]
      rw [hw6]
      clear hgx hw6
      have HM6 := hide (((unhide HMr).later (unhide H5).2).later (unhide HX).2)
      obtain ⟨c0, c1, c2, c3, c4⟩ := row_cell (unhide HX).1
      obtain ⟨d0, d1, d2, d3, d4⟩ := row_cell (unhide HM6).box
      have tokB : True := trivial
      go_upto_region 5 with (first | (have _t := tokB; at_builtin; refine wpl_oneG rfl (.tmp 33) (.tmp 35) 31 34 iv (.agg #[.int .i64 0, .int .i64 0, .string ⟨#[]⟩, .slice none 0 0, .slice none 0 0]) 5 80 Try.underlying31 (unhide HI).1 (unhide HI).2.1 (unhide HI).2.2.1 (unhide HI).2.2.2 rfl (by omega) rfl (gb + 1) i Lv (flat V i) [.int .i64 k5, .int .i64 n5, .string s5, .slice al5 lc5 cl5, .slice ak5 mc5 ck5] rfl (by simp [Value.oneCell']) rfl (unhide HM6).ownL rfl (by unfold maxLen; omega) (by omega) (unhide HM6).size ?_; intro v8 w8 H8; clear tokB; obtain ⟨q8, p8, rfl, hsl⟩ := slice_form (unhide H8).1; clear hsl; have b8 := ((unhide H8).2.1.block gb (by have := (unhide HM6).size; omega) (fun e => by have := ((unhide HM6).ownL.lt gb e.symm).1; omega)).trans (unhide HM6).box; have k3 := (row_cell b8).2.2.2.1; have f3 : w8.frozen? ⟨gb, 3, none⟩ = false := frozen_of_row w8 gb 3 _ _ b8; clear b8 c0 c1 c2 c3 c4 d0 d1 d2 d3 d4))
      obtain ⟨g8, rfl⟩ : ∃ g8, q8 = some ⟨g8, 0, none⟩ := by
        rcases (unhide H8).1.2 with ⟨_, h0⟩ | ⟨g8, _, _, h0, _⟩
        · omega
        · cases h0
          exact ⟨g8, rfl⟩
      obtain ⟨w9, hw9⟩ : ∃ w9, w8.setCell ⟨gb, 3, none⟩ (.slice (some ⟨g8, 0, none⟩) (i + 1) p8) = w9 := ⟨_, rfl⟩
      have HC8 : Hid (Cp w w9 g gb #[.int .i64 k, .int .i64 n, .string s, .slice (some a) ln cl, .slice ak m ck] #[.int .i64 0, .int .i64 0, .string ⟨#[]⟩, .slice none 0 0, .slice none 0 0]) := hide (by
        rw [← hw9]
        exact (((unhide HCr).later (unhide H5).2).later (unhide HX).2).push (unhide H8).2.1 (fun q e => (unhide HLb q e).1))
      have HM8 : Hid (Mid w9 (gb + 1) gb k n s l ks (.slice (some ⟨g8, 0, none⟩) (i + 1) p8) (.slice ao m cp) (i + 1) m (setV V i [.int .i64 k5, .int .i64 n5, .string s5, .slice al5 lc5 cl5, .slice ak5 mc5 ck5])) := hide (by
        rw [← hw9]
        obtain ⟨h5, b5⟩ := unhide H5
        obtain ⟨hown8, hgrow8, hat8⟩ := unhide H8
        have X6 := (unhide HX).2
        have M5 := (unhide HMr).later b5
        refine M5.pushL (lo := wr.heap.size) (unhide HMr).size (fun q e => (unhide HLb q e).2) (fun q e => ((unhide HMr).ownK.lt q e).2) (unhide HY) h5 rfl (fun q hq hne => ?_) (by have := X6.size; have := hgrow8.size; omega) hown8 ?_
        · rw [hgrow8.block q (by have := X6.size; omega) hne, X6.block q hq]
        · rcases hat8 g8 rfl with e | e
          · exact Or.inl e
          · exact Or.inr (by have := X6.size; omega))
      rw [hw9]
      have HI1 : Hid (i + 1 ≤ ln) := hide (by omega)
      clear hw9 k3 f3
      go_wp2_with fail
      go_roundw
      case rel => exact ⟨i + 1, _, _, unhide HI1, by go_num, HC8, HM8⟩
      case measure => have := unhide HI1; simp [intOf]; omega
    · have i1 : ¬ (i : Int) < (ln : Int) := by omega
      have hii : i = ln := by omega
      have hlow := (unhide HCr).low
      obtain ⟨z0, z1, z2, z3, z4⟩ := row_cell (unhide HCr).at1
      obtain ⟨d0, d1, d2, d3, d4⟩ := row_cell (unhide HMr).box
      have fz : ∀ q, wr.frozen? ⟨g + 1, q, none⟩ = false := fun q => frozen_of_row wr (g + 1) q _ _ (unhide HCr).at1
      obtain ⟨aL, cL, eL, _⟩ := slice_form (unhide HMr).ownL
      subst eL
      have HF : Hid (∀ u : World, u.heap.size = wr.heap.size → (∀ q, q ≠ g + 1 → u.heap[q]? = wr.heap[q]?) → IsQ u (fun q => g ≤ q ∧ q < u.heap.size) (.mk k n s l ks) (.agg #[.int .i64 k, .int .i64 n, .string s, .slice aL i cL, .slice ao m cp])) := hide (fun u hu hq => by
        obtain ⟨bk, bn, bs, bq, bt⟩ := unhide HBD
        have hp := (unhide HMr).made (by rw [(unhide HL).2]; exact hii) (unhide HL).1.symm bk bn bs bq bt (by rw [(unhide HL).2]; omega)
        exact (hp.move (fun q hP => hq q (by omega))).weak (fun q hP => ⟨by omega, by omega⟩))
      have fz0 := fz 0
      have fz1 := fz 1
      have fz2 := fz 2
      have fz3 := fz 3
      have fz4 := fz 4
      clear fz
      go_wp2_with fail
      subst hii
      have R9 := five_set wr (g + 1) 34 _ _ _ _ _ (.int .i64 k) (.int .i64 n) (.string s) (.slice aL i cL) (.slice ao m cp) (unhide HCr).at1
      have O9 := five_other wr (g + 1) (x0 := .int .i64 k) (x1 := .int .i64 n) (x2 := .string s) (x3 := .slice aL i cL) (x4 := .slice ao m cp)
      have S9 : (((((wr.setCell ⟨g + 1, 0, none⟩ (.int .i64 k)).setCell ⟨g + 1, 1, none⟩ (.int .i64 n)).setCell ⟨g + 1, 2, none⟩ (.string s)).setCell ⟨g + 1, 3, none⟩ (.slice aL (i : Nat) cL)).setCell ⟨g + 1, 4, none⟩ (.slice ao m cp)).heap.size = wr.heap.size := by simp
      have B9 := five_below (g := g + 1) (unhide HCr).below (by omega) (.int .i64 k) (.int .i64 n) (.string s) (.slice aL i cL) (.slice ao m cp)
      obtain ⟨w9, hw9⟩ : ∃ w9, (((((wr.setCell ⟨g + 1, 0, none⟩ (.int .i64 k)).setCell ⟨g + 1, 1, none⟩ (.int .i64 n)).setCell ⟨g + 1, 2, none⟩ (.string s)).setCell ⟨g + 1, 3, none⟩ (.slice aL (i : Nat) cL)).setCell ⟨g + 1, 4, none⟩ (.slice ao m cp)) = w9 := ⟨_, rfl⟩
      rw [hw9] at R9 S9 B9 ⊢
      have I9 := unhide HF w9 S9 (fun q hq => by rw [← hw9]; exact O9 q hq)
      obtain ⟨r0, r1, r2, r3, r4⟩ := row_cell R9
      refine bodyPost_ret (v := .agg #[.int .i64 k, .int .i64 n, .string s, .slice aL i cL, .slice ao m cp]) (by simp [results, Try.results49, go_sem, r0, r1, r2, r3, r4]) rfl ?_
      first | exact ⟨_, rfl, I9, B9⟩ | (rw [← hg] at I9 B9; exact ⟨_, rfl, I9, B9⟩)

theorem cpd_any : ∀ b, CpdAt b
  | 0 => cpd_zero
  | b + 1 => cpd_step b (cpd_any b)
end Go.Proofs.Ytlmgiimgmjbkeaa

namespace Go.Proofs.Ytlmgiimgmjbkeaa
open Go.RowKit
set_option linter.unusedVariables false
set_option linter.unusedSimpArgs false

set_option maxRecDepth 100000 in
set_option maxHeartbeats 400000 in
theorem copyD_any (v : Vl) (x : Value) (B : Nat) (w : World) (hv : IsV w B v x) (hBs : B ≤ w.heap.size) :
    Calls Try.prog 27 #[x] w fun e w' => ∃ x', e = .returned x' ∧ Below w.heap.size w w' ∧ (rightB v = true → IsQ w' (fun b => w.heap.size ≤ b ∧ b < w'.heap.size) v x') ∧ (rightB v = false → x' = .agg #[.int .i64 0, .int .i64 0, .string ⟨#[]⟩, .slice none 0 0, .slice none 0 0]) := by
  obtain ⟨k, n, s, l, ks, al, ak, cl, ck, hvv, hx⟩ := hv.shape
  clear hvv
  obtain ⟨m, hm⟩ : ∃ m, ks.length = m := ⟨_, rfl⟩
  obtain ⟨ln, hln⟩ : ∃ ln, l.length = ln := ⟨_, rfl⟩
  rw [hm, hln] at hx
  subst hx
  have TW := Two.mk' w 34 #[.int .i64 k, .int .i64 n, .string s, .slice al ln cl, .slice ak m ck] #[.int .i64 0, .int .i64 0, .string ⟨#[]⟩, .slice none 0 0, .slice none 0 0]
  obtain ⟨w2, hw2⟩ : ∃ w2, (w.alloc (.cells #[.int .i64 k, .int .i64 n, .string s, .slice al ln cl, .slice ak m ck] 34)).alloc (.cells #[.int .i64 0, .int .i64 0, .string ⟨#[]⟩, .slice none 0 0, .slice none 0 0] 34) = w2 := ⟨_, rfl⟩
  rw [hw2] at TW
  obtain ⟨g, hg⟩ : ∃ g, w.heap.size = g := ⟨_, rfl⟩
  rw [hg] at TW
  have HT : Hid (∀ u, Below w2.heap.size w2 u → u.heap[g]? = some (.cells #[.int .i64 k, .int .i64 n, .string s, .slice al ln cl, .slice ak m ck] 34 (0, 0)) ∧ u.heap[g + 1]? = some (.cells #[.int .i64 0, .int .i64 0, .string ⟨#[]⟩, .slice none 0 0, .slice none 0 0] 34 (0, 0)) ∧ IsV u B v (.agg #[.int .i64 k, .int .i64 n, .string s, .slice al ln cl, .slice ak m ck]) ∧ B ≤ u.heap.size ∧ Below w.heap.size w u ∧ g + 2 ≤ u.heap.size) :=
    hide (fun u hu => by
      have h1 : Below w.heap.size w u := TW.below.trans (hu.mono (by have := TW.size; omega))
      have h2 := TW.size
      have h3 := hu.size
      exact ⟨(TW.later hu).1, (TW.later hu).2, hv.mono (h1.mono hBs), by omega, h1, by omega⟩)
  obtain ⟨c0, c1, c2, c3, c4⟩ := row_cell TW.at0
  have CF := hide (right_ref v _ B w2 (unhide HT w2 (Below.refl _ _)).2.2.1 (unhide HT w2 (Below.refl _ _)).2.2.2.1)
  clear TW hv hm hln
  cases hF : rightB v with
  | false =>
    rw [hF] at CF
    clear hF
    go_enter Try.func27, Try.ntmps27
    go_wp2_with fail
    refine (unhide CF).mono ?_
    rintro e u3 ⟨rfl, b3⟩
    have H3 := hide b3
    clear b3 CF c0 c1 c2 c3 c4
    obtain ⟨c0, c1, c2, c3, c4⟩ := row_cell (unhide HT u3 (unhide H3)).1
    have ATX := (unhide HT u3 (unhide H3)).2.1
    obtain ⟨z0, z1, z2, z3, z4⟩ := row_cell ATX
    have fz : ∀ q, u3.frozen? ⟨g + 1, q, none⟩ = false := fun q => frozen_of_row u3 (g + 1) q _ _ ATX
    have fz0 := fz 0
    have fz1 := fz 1
    have fz2 := fz 2
    have fz3 := fz 3
    have fz4 := fz 4
    have HAT := hide ATX
    clear fz ATX
    go_wp2_with fail
    have ATX := unhide HAT
    have BW := (unhide HT u3 (unhide H3)).2.2.2.2.1
    have R9 := five_set u3 (g + 1) 34 _ _ _ _ _ (.int .i64 0) (.int .i64 0) (.string ⟨#[]⟩) (.slice none 0 0) (.slice none 0 0) ATX
    have O9 := five_other u3 (g + 1) (x0 := .int .i64 0) (x1 := .int .i64 0) (x2 := .string ⟨#[]⟩) (x3 := .slice none 0 0) (x4 := .slice none 0 0)
    have S9 : (((((u3.setCell ⟨g + 1, 0, none⟩ (.int .i64 0)).setCell ⟨g + 1, 1, none⟩ (.int .i64 0)).setCell ⟨g + 1, 2, none⟩ (.string ⟨#[]⟩)).setCell ⟨g + 1, 3, none⟩ (.slice none 0 0)).setCell ⟨g + 1, 4, none⟩ (.slice none 0 0)).heap.size = u3.heap.size := by simp
    obtain ⟨w9, hw9⟩ : ∃ w9, (((((u3.setCell ⟨g + 1, 0, none⟩ (.int .i64 0)).setCell ⟨g + 1, 1, none⟩ (.int .i64 0)).setCell ⟨g + 1, 2, none⟩ (.string ⟨#[]⟩)).setCell ⟨g + 1, 3, none⟩ (.slice none 0 0)).setCell ⟨g + 1, 4, none⟩ (.slice none 0 0)) = w9 := ⟨_, rfl⟩
    rw [hw9] at R9 S9 ⊢
    have B9 : Below w.heap.size w w9 := by rw [← hw9]; exact five_below BW (by omega) _ _ _ _ _
    obtain ⟨r0, r1, r2, r3, r4⟩ := row_cell R9
    refine bodyPost_ret (v := .agg #[.int .i64 0, .int .i64 0, .string ⟨#[]⟩, .slice none 0 0, .slice none 0 0]) (by simp [results, Try.results27, go_sem, r0, r1, r2, r3, r4]) rfl ?_
    first | exact ⟨_, rfl, B9, (fun h => by cases h), fun _ => rfl⟩ | (rw [hg] at B9; exact ⟨_, rfl, B9, (fun h => by cases h), fun _ => rfl⟩) | exact ⟨rfl, B9⟩ | (rw [hg] at B9; exact ⟨rfl, B9⟩)
  | true =>
    rw [hF] at CF
    have hcn : cnt v ≤ 5000 := by have h := few_right hF; unfold fewB at h; exact of_decide_eq_true h
    have CD := fun u hu => hide (cpd_any (dep v) v _ B u (Nat.le_refl _) hcn (unhide HT u hu).2.2.1 (unhide HT u hu).2.2.2.1)
    clear hF hcn
    go_enter Try.func27, Try.ntmps27
    go_wp2_with fail
    refine (unhide CF).mono ?_
    rintro e u3 ⟨rfl, b3⟩
    have H3 := hide b3
    clear b3 CF c0 c1 c2 c3 c4
    obtain ⟨c0, c1, c2, c3, c4⟩ := row_cell (unhide HT u3 (unhide H3)).1
    go_wp2_with fail
    refine (unhide (CD u3 (unhide H3))).mono ?_
    rintro e u4 ⟨x4, rfl, p4, b4⟩
    obtain ⟨k4, n4, s4, l4, ks4, al4, ak4, cl4, ck4, hv4, rfl⟩ := p4.shape
    clear hv4
    obtain ⟨lc, hlc⟩ : ∃ lc, l4.length = lc := ⟨_, rfl⟩
    obtain ⟨mc, hmc⟩ : ∃ mc, ks4.length = mc := ⟨_, rfl⟩
    rw [hlc, hmc] at p4 ⊢
    have X4 := (unhide H3).trans (b4.mono (unhide H3).size)
    have H4 := hide (And.intro X4 (And.intro p4 b4.size))
    have ATX := (unhide HT u4 X4).2.1
    obtain ⟨z0, z1, z2, z3, z4⟩ := row_cell ATX
    have fz : ∀ q, u4.frozen? ⟨g + 1, q, none⟩ = false := fun q => frozen_of_row u4 (g + 1) q _ _ ATX
    have fz0 := fz 0
    have fz1 := fz 1
    have fz2 := fz 2
    have fz3 := fz 3
    have fz4 := fz 4
    have HAT := hide ATX
    clear fz ATX p4 b4 X4 CD hlc hmc c0 c1 c2 c3 c4
    go_wp2_with fail
    have ATX := unhide HAT
    have BW := (unhide HT u4 (unhide H4).1).2.2.2.2.1
    have g3 := (unhide HT u3 (unhide H3)).2.2.2.2.2
    have R9 := five_set u4 (g + 1) 34 _ _ _ _ _ (.int .i64 k4) (.int .i64 n4) (.string s4) (.slice al4 lc cl4) (.slice ak4 mc ck4) ATX
    have O9 := five_other u4 (g + 1) (x0 := .int .i64 k4) (x1 := .int .i64 n4) (x2 := .string s4) (x3 := .slice al4 lc cl4) (x4 := .slice ak4 mc ck4)
    have S9 : (((((u4.setCell ⟨g + 1, 0, none⟩ (.int .i64 k4)).setCell ⟨g + 1, 1, none⟩ (.int .i64 n4)).setCell ⟨g + 1, 2, none⟩ (.string s4)).setCell ⟨g + 1, 3, none⟩ (.slice al4 lc cl4)).setCell ⟨g + 1, 4, none⟩ (.slice ak4 mc ck4)).heap.size = u4.heap.size := by simp
    obtain ⟨w9, hw9⟩ : ∃ w9, (((((u4.setCell ⟨g + 1, 0, none⟩ (.int .i64 k4)).setCell ⟨g + 1, 1, none⟩ (.int .i64 n4)).setCell ⟨g + 1, 2, none⟩ (.string s4)).setCell ⟨g + 1, 3, none⟩ (.slice al4 lc cl4)).setCell ⟨g + 1, 4, none⟩ (.slice ak4 mc ck4)) = w9 := ⟨_, rfl⟩
    rw [hw9] at R9 S9 ⊢
    have B9 : Below w.heap.size w w9 := by rw [← hw9]; exact five_below BW (by omega) _ _ _ _ _
    obtain ⟨r0, r1, r2, r3, r4⟩ := row_cell R9
    refine bodyPost_ret (v := .agg #[.int .i64 k4, .int .i64 n4, .string s4, .slice al4 lc cl4, .slice ak4 mc ck4]) (by simp [results, Try.results27, go_sem, r0, r1, r2, r3, r4]) rfl ?_
    have Q9 : IsQ w9 (fun b => w.heap.size ≤ b ∧ b < w9.heap.size) v (.agg #[.int .i64 k4, .int .i64 n4, .string s4, .slice al4 lc cl4, .slice ak4 mc ck4]) := ((unhide H4).2.1.move (fun q hq => by rw [← hw9]; exact O9 q (by have := hq.1; omega))).weak (fun q hq => ⟨by have := hq.1; omega, by have := hq.2; omega⟩)
    first | exact ⟨_, rfl, B9, (fun _ => Q9), fun h => by cases h⟩ | (rw [hg] at B9 Q9; exact ⟨_, rfl, B9, (fun _ => Q9), fun h => by cases h⟩) | exact ⟨_, rfl, B9, Q9⟩ | (rw [hg] at B9 Q9; exact ⟨_, rfl, B9, Q9⟩)

end Go.Proofs.Ytlmgiimgmjbkeaa
