/-
  The walk of copied: a value in new memory, if it has few parts; conditions: the form's own reach.
  What is done, as it lies in memory, one Op behind the other; no conditions.
  A store that was made behind a world w0: what its calls answer, and what it has then; conditions: the form's own reach.
-/
import Derived.Test.YtdaooapfokhfcaaGreatA37
import Derived.Test.YtdaooapfokhfcaaGreatA19
import Derived.Test.YtdaooapfokhfcaaGreatA00
import Derived.Test.YtdaooapfokhfcaaGreatA04
import Derived.Test.YtdaooapfokhfcaaGreatA31
import Derived.Test.YtdaooapfokhfcaaGreatA32
namespace Go.Proofs.YtdaooapfokhfcaaGreat
open Go.RowKit

set_option maxRecDepth 100000 in
set_option maxHeartbeats 400000 in
theorem copied_two (v : Vl) (x : Value) (B : Nat) (w : World) (hv : IsV w B v x) (hBs : B ≤ w.heap.size) :
    Calls Tryz.prog 28 #[x] w fun e w' => ∃ x', e = .returned x' ∧ IsV w' w'.heap.size v x' ∧ Below w.heap.size w w' ∧ (fewB v = true → IsQ w' (fun b => w.heap.size ≤ b ∧ b < w'.heap.size) v x') ∧ (fewB v = false → x' = x) := by
  obtain ⟨k, n, s, l, ks, al, ak, cl, ck, hvv, hx⟩ := hv.shape
  clear hvv
  obtain ⟨m, hm⟩ : ∃ m, ks.length = m := ⟨_, rfl⟩
  obtain ⟨ln, hln⟩ : ∃ ln, l.length = ln := ⟨_, rfl⟩
  rw [hm, hln] at hx
  subst hx
  have TW := Two.mk' w 32 #[.int .i64 k, .int .i64 n, .string s, .slice al ln cl, .slice ak m ck] #[.int .i64 0, .int .i64 0, .string ⟨#[]⟩, .slice none 0 0, .slice none 0 0]
  obtain ⟨w2, hw2⟩ : ∃ w2, (w.alloc (.cells #[.int .i64 k, .int .i64 n, .string s, .slice al ln cl, .slice ak m ck] 32)).alloc (.cells #[.int .i64 0, .int .i64 0, .string ⟨#[]⟩, .slice none 0 0, .slice none 0 0] 32) = w2 := ⟨_, rfl⟩
  rw [hw2] at TW
  obtain ⟨g, hg⟩ : ∃ g, w.heap.size = g := ⟨_, rfl⟩
  rw [hg] at TW
  have HT : Hid (∀ u, Below w2.heap.size w2 u → u.heap[g]? = some (.cells #[.int .i64 k, .int .i64 n, .string s, .slice al ln cl, .slice ak m ck] 32 (0, 0)) ∧ u.heap[g + 1]? = some (.cells #[.int .i64 0, .int .i64 0, .string ⟨#[]⟩, .slice none 0 0, .slice none 0 0] 32 (0, 0)) ∧ IsV u B v (.agg #[.int .i64 k, .int .i64 n, .string s, .slice al ln cl, .slice ak m ck]) ∧ B ≤ u.heap.size ∧ Below w.heap.size w u ∧ g + 2 ≤ u.heap.size) :=
    hide (fun u hu => by
      have h1 : Below w.heap.size w u := TW.below.trans (hu.mono (by have := TW.size; omega))
      have h2 := TW.size
      have h3 := hu.size
      exact ⟨(TW.later hu).1, (TW.later hu).2, hv.mono (h1.mono hBs), by omega, h1, by omega⟩)
  obtain ⟨c0, c1, c2, c3, c4⟩ := row_cell TW.at0
  have CF := hide (few_any v _ B w2 (unhide HT w2 (Below.refl _ _)).2.2.1 (unhide HT w2 (Below.refl _ _)).2.2.2.1)
  clear TW hv hm hln
  cases hF : fewB v with
  | false =>
    rw [hF] at CF
    clear hF
    go_enter Tryz.func28, Tryz.ntmps28
    go_wp2_with fail
    refine (unhide CF).mono ?_
    rintro e u3 ⟨rfl, b3⟩
    have H3 := hide b3
    clear b3 CF c0 c1 c2 c3 c4
    obtain ⟨c0, c1, c2, c3, c4⟩ := row_cell (unhide HT u3 (unhide H3)).1
    have ATX := (unhide HT u3 (unhide H3)).2.1
    obtain ⟨z0, z1, z2, z3, z4⟩ := row_cell ATX
    have fz : ∀ q, u3.frozen? ⟨g + 1, q, none⟩ = false := fun q => frozen_of_row u3 (g + 1) q _ _ ATX
    have fz0 := fz 0
    have fz1 := fz 1
    have fz2 := fz 2
    have fz3 := fz 3
    have fz4 := fz 4
    have HAT := hide ATX
    clear fz ATX
    go_wp2_with fail
    have ATX := unhide HAT
    have BW := (unhide HT u3 (unhide H3)).2.2.2.2.1
    have VV := (unhide HT u3 (unhide H3)).2.2.1
    have BU := (unhide HT u3 (unhide H3)).2.2.2.1
    have R9 := five_set u3 (g + 1) 32 _ _ _ _ _ (.int .i64 k) (.int .i64 n) (.string s) (.slice al ln cl) (.slice ak m ck) ATX
    have O9 := five_other u3 (g + 1) (x0 := .int .i64 k) (x1 := .int .i64 n) (x2 := .string s) (x3 := .slice al ln cl) (x4 := .slice ak m ck)
    have S9 : (((((u3.setCell ⟨g + 1, 0, none⟩ (.int .i64 k)).setCell ⟨g + 1, 1, none⟩ (.int .i64 n)).setCell ⟨g + 1, 2, none⟩ (.string s)).setCell ⟨g + 1, 3, none⟩ (.slice al ln cl)).setCell ⟨g + 1, 4, none⟩ (.slice ak m ck)).heap.size = u3.heap.size := by simp
    obtain ⟨w9, hw9⟩ : ∃ w9, (((((u3.setCell ⟨g + 1, 0, none⟩ (.int .i64 k)).setCell ⟨g + 1, 1, none⟩ (.int .i64 n)).setCell ⟨g + 1, 2, none⟩ (.string s)).setCell ⟨g + 1, 3, none⟩ (.slice al ln cl)).setCell ⟨g + 1, 4, none⟩ (.slice ak m ck)) = w9 := ⟨_, rfl⟩
    rw [hw9] at R9 S9 ⊢
    have B9 : Below w.heap.size w w9 := by rw [← hw9]; exact five_below BW (by omega) _ _ _ _ _
    obtain ⟨r0, r1, r2, r3, r4⟩ := row_cell R9
    refine bodyPost_ret (v := .agg #[.int .i64 k, .int .i64 n, .string s, .slice al ln cl, .slice ak m ck]) (by simp [results, Tryz.results28, go_sem, r0, r1, r2, r3, r4]) rfl ?_
    have V9 : IsV w9 w9.heap.size v (.agg #[.int .i64 k, .int .i64 n, .string s, .slice al ln cl, .slice ak m ck]) := IsV.lift (by omega) (VV.mono (by rw [← hw9]; exact five_below (Below.refl _ _) (by omega) _ _ _ _ _))
    first | exact ⟨_, rfl, V9, B9, (fun h => by cases h), fun _ => rfl⟩ | (rw [hg] at B9; exact ⟨_, rfl, V9, B9, (fun h => by cases h), fun _ => rfl⟩)
  | true =>
    rw [hF] at CF
    have hcn : cnt v ≤ 5000 := by unfold fewB at hF; exact of_decide_eq_true hF
    have CD := fun u hu => hide (deep_any (dep v) v _ B u (Nat.le_refl _) hcn (unhide HT u hu).2.2.1 (unhide HT u hu).2.2.2.1)
    clear hF hcn
    go_enter Tryz.func28, Tryz.ntmps28
    go_wp2_with fail
    refine (unhide CF).mono ?_
    rintro e u3 ⟨rfl, b3⟩
    have H3 := hide b3
    clear b3 CF c0 c1 c2 c3 c4
    obtain ⟨c0, c1, c2, c3, c4⟩ := row_cell (unhide HT u3 (unhide H3)).1
    go_wp2_with fail
    refine (unhide (CD u3 (unhide H3))).mono ?_
    rintro e u4 ⟨x4, rfl, p4, b4⟩
    obtain ⟨k4, n4, s4, l4, ks4, al4, ak4, cl4, ck4, hv4, rfl⟩ := p4.shape
    clear hv4
    obtain ⟨lc, hlc⟩ : ∃ lc, l4.length = lc := ⟨_, rfl⟩
    obtain ⟨mc, hmc⟩ : ∃ mc, ks4.length = mc := ⟨_, rfl⟩
    rw [hlc, hmc] at p4 ⊢
    have X4 := (unhide H3).trans (b4.mono (unhide H3).size)
    have H4 := hide (And.intro X4 (And.intro p4 b4.size))
    have ATX := (unhide HT u4 X4).2.1
    obtain ⟨z0, z1, z2, z3, z4⟩ := row_cell ATX
    have fz : ∀ q, u4.frozen? ⟨g + 1, q, none⟩ = false := fun q => frozen_of_row u4 (g + 1) q _ _ ATX
    have fz0 := fz 0
    have fz1 := fz 1
    have fz2 := fz 2
    have fz3 := fz 3
    have fz4 := fz 4
    have HAT := hide ATX
    clear fz ATX p4 b4 X4 CD hlc hmc c0 c1 c2 c3 c4
    go_wp2_with fail
    have ATX := unhide HAT
    have BW := (unhide HT u4 (unhide H4).1).2.2.2.2.1
    have g3 := (unhide HT u3 (unhide H3)).2.2.2.2.2
    have R9 := five_set u4 (g + 1) 32 _ _ _ _ _ (.int .i64 k4) (.int .i64 n4) (.string s4) (.slice al4 lc cl4) (.slice ak4 mc ck4) ATX
    have O9 := five_other u4 (g + 1) (x0 := .int .i64 k4) (x1 := .int .i64 n4) (x2 := .string s4) (x3 := .slice al4 lc cl4) (x4 := .slice ak4 mc ck4)
    have S9 : (((((u4.setCell ⟨g + 1, 0, none⟩ (.int .i64 k4)).setCell ⟨g + 1, 1, none⟩ (.int .i64 n4)).setCell ⟨g + 1, 2, none⟩ (.string s4)).setCell ⟨g + 1, 3, none⟩ (.slice al4 lc cl4)).setCell ⟨g + 1, 4, none⟩ (.slice ak4 mc ck4)).heap.size = u4.heap.size := by simp
    obtain ⟨w9, hw9⟩ : ∃ w9, (((((u4.setCell ⟨g + 1, 0, none⟩ (.int .i64 k4)).setCell ⟨g + 1, 1, none⟩ (.int .i64 n4)).setCell ⟨g + 1, 2, none⟩ (.string s4)).setCell ⟨g + 1, 3, none⟩ (.slice al4 lc cl4)).setCell ⟨g + 1, 4, none⟩ (.slice ak4 mc ck4)) = w9 := ⟨_, rfl⟩
    rw [hw9] at R9 S9 ⊢
    have B9 : Below w.heap.size w w9 := by rw [← hw9]; exact five_below BW (by omega) _ _ _ _ _
    obtain ⟨r0, r1, r2, r3, r4⟩ := row_cell R9
    refine bodyPost_ret (v := .agg #[.int .i64 k4, .int .i64 n4, .string s4, .slice al4 lc cl4, .slice ak4 mc ck4]) (by simp [results, Tryz.results28, go_sem, r0, r1, r2, r3, r4]) rfl ?_
    have V9 : IsV w9 w9.heap.size v (.agg #[.int .i64 k4, .int .i64 n4, .string s4, .slice al4 lc cl4, .slice ak4 mc ck4]) := IsQ.isV (fun q hq => by have := hq.2; omega) ((unhide H4).2.1.move (fun q hq => by rw [← hw9]; exact O9 q (by have := hq.1; omega)))
    have Q9 : IsQ w9 (fun b => w.heap.size ≤ b ∧ b < w9.heap.size) v (.agg #[.int .i64 k4, .int .i64 n4, .string s4, .slice al4 lc cl4, .slice ak4 mc ck4]) := ((unhide H4).2.1.move (fun q hq => by rw [← hw9]; exact O9 q (by have := hq.1; omega))).weak (fun q hq => ⟨by have := hq.1; omega, by have := hq.2; omega⟩)
    first | exact ⟨_, rfl, V9, B9, (fun _ => Q9), fun h => by cases h⟩ | (rw [hg] at B9 Q9; exact ⟨_, rfl, V9, B9, (fun _ => Q9), fun h => by cases h⟩)

end Go.Proofs.YtdaooapfokhfcaaGreat

namespace Go.Proofs.YtdaooapfokhfcaaGreat
open Go.RowKit
set_option linter.unusedVariables false

/-- what is done -/
structure Opx where
  kd : Int
  key : ByteArray
  v : Vl

/-- the cells of one -/
structure OpAt (w : World) (B : Nat) (p : Addr) (o : Opx) (b off : Nat) (x0 x1 : Int) (x2 : ByteArray) (x3 : Option Addr) (x4 x5 : Nat) (x6 : Option Addr) (x7 x8 : Nat) : Prop where
  at' : p = ⟨b, off, none⟩
  lt : b < B
  k : w.cell? ⟨b, off, none⟩ = some (.int .i64 o.kd)
  s : w.cell? ⟨b, off + 1, none⟩ = some (.string o.key)
  c0 : w.cell? ⟨b, off + 2, none⟩ = some (.int .i64 x0)
  c1 : w.cell? ⟨b, off + 3, none⟩ = some (.int .i64 x1)
  c2 : w.cell? ⟨b, off + 4, none⟩ = some (.string x2)
  c3 : w.cell? ⟨b, off + 5, none⟩ = some (.slice x3 x4 x5)
  c4 : w.cell? ⟨b, off + 6, none⟩ = some (.slice x6 x7 x8)
  bk : -9223372036854775808 ≤ o.kd ∧ o.kd ≤ 9223372036854775807
  bs : o.key.size ≤ 140737488351232
  is : IsV w B o.v (.agg #[.int .i64 x0, .int .i64 x1, .string x2, .slice x3 x4 x5, .slice x6 x7 x8])

structure OpsF (w : World) (B : Nat) (ao : Option Addr) (n : Nat) (os : List Opx) : Prop where
  length : os.length = n
  bl : n ≤ 1400000000000
  cell : ∀ i o, os[i]? = some o → ∃ a b off x0 x1 x2 x3 x4 x5 x6 x7 x8, ao = some a ∧ OpAt w B (a.add (i * 7)) o b off x0 x1 x2 x3 x4 x5 x6 x7 x8

theorem OpsF.later {w u : World} {B : Nat} {ao : Option Addr} {n : Nat} {os : List Opx} (h : OpsF w B ao n os) (hb : Below B w u) : OpsF u B ao n os :=
  ⟨h.length, h.bl, fun i t ht => by
    obtain ⟨a, b, off, x0, x1, x2, x3, x4, x5, x6, x7, x8, ha, p⟩ := h.cell i t ht
    have hlt := p.lt
    exact ⟨a, b, off, x0, x1, x2, x3, x4, x5, x6, x7, x8, ha, p.at', p.lt, (hb.cell hlt).trans p.k, (hb.cell hlt).trans p.s, (hb.cell hlt).trans p.c0, (hb.cell hlt).trans p.c1, (hb.cell hlt).trans p.c2, (hb.cell hlt).trans p.c3, (hb.cell hlt).trans p.c4, p.bk, p.bs, p.is.mono hb⟩⟩
end Go.Proofs.YtdaooapfokhfcaaGreat

namespace Go.Proofs.YtdaooapfokhfcaaGreat
open Go.RowKit
set_option linter.unusedVariables false
set_option linter.unusedSimpArgs false

/-- entries that came out, as they lie -/
theorem EnO.isE {w : World} {lo : Nat} {sv : Value} {es : List (ByteArray × (ThV × Vl))} (h : EnO w lo sv es) (hl : 96 * es.length ≤ 140737488351232) (hk : ∀ p ∈ es, p.1.size ≤ 140737488351232) : ∃ al cl, sv = .slice al es.length cl ∧ IsE w (fun b => lo ≤ b ∧ b < w.heap.size) (mapK Prod.snd es) al cl := by
  have hlen : (mapK Prod.snd es).length = es.length := mapK_len _ _
  have hget : ∀ (i : Nat) (e : En), (mapK Prod.snd es)[i]? = some e → ∃ p, es[i]? = some p ∧ e = (p.1, p.2.2) := fun i e he => by
    unfold mapK at he
    rw [List.getElem?_map] at he
    obtain ⟨p, hp, rfl⟩ := Option.map_eq_some_iff.1 he
    exact ⟨p, hp, rfl⟩
  rcases h.row.2 with ⟨e, e2⟩ | ⟨b, cap, cur, e, hb, hg, hc, hm, hs, ht⟩
  · refine ⟨none, 0, by rw [e, e2], fun i => match es[i]? with | some p => thV p.2.1 | none => [], fun _ => ⟨by rw [hlen]; exact e2, rfl⟩, by rw [hlen, e2]; exact Nat.le_refl _, by rw [hlen]; exact hl, (fun a ha => by cases ha), ?_, fun i q hq => ?_⟩
    · intro q hq
      obtain ⟨p, hp, rfl⟩ := List.mem_map.1 hq
      exact hk p hp
    · obtain ⟨p, hp, rfl⟩ := hget i q hq
      have := (List.getElem?_eq_some_iff.1 hp).1
      omega
  · refine ⟨some ⟨b, 0, none⟩, cap, e, fun i => match es[i]? with | some p => thV p.2.1 | none => [], (fun e => by cases e), by rw [hlen]; exact hc, by rw [hlen]; exact hl, ?_, ?_, ?_⟩
    · intro a ha i q hq
      cases ha
      obtain ⟨p, hp, rfl⟩ := hget i q hq
      refine ⟨⟨hb, (Array.getElem?_eq_some_iff.1 hg).1⟩, fun j v hv => ?_⟩
      rw [hp] at hv
      have h1 : (mapK Prod.fst es)[i]? = some (p.1, p.2.1) := by unfold mapK; rw [List.getElem?_map, hp]; rfl
      have h2 := cellsV_at (mapK Prod.fst es) i _ h1 j v hv
      have h3 := h.row.cells (show sv.ownBlock = some b by rw [e]; rfl) _ _ h2
      have e4 : ((⟨b, 0, none⟩ : Addr).add (i * 6)).add j = (⟨b, 0, none⟩ : Addr).add (i * 6 + j) := by
        rw [add_offR, add_offR, add_offR]
        simp only [Nat.zero_add]
      rw [e4]
      exact h3
    · intro q hq
      obtain ⟨p, hp, rfl⟩ := List.mem_map.1 hq
      exact hk p hp
    · intro i q hq
      obtain ⟨p, hp, rfl⟩ := hget i q hq
      rw [hp]
      exact ⟨rfl, (h.el p (List.mem_of_getElem? hp)).1.weak (fun b hb => ⟨hb.1.1, hb.1.2.1⟩)⟩

/-- a store that was made behind w0 -/
def Live (w0 w : World) (s : Nat) (X : Xs) (Bs : List Xs) : Prop := ∃ V t, t.s = s ∧ Stt w V t X Bs ∧ (∀ j, t.own j ∨ V j → w0.heap.size ≤ j) ∧ Below w0.heap.size w0 w

section
variable {w0 w w' : World} {s : Nat} {X B : Xs} {Bs : List Xs}

theorem Live.later (h : Live w0 w s X Bs) (hb : Below w.heap.size w w') : Live w0 w' s X Bs := by
  obtain ⟨V, t, h1, h2, h3, h4⟩ := h
  exact ⟨V, t, h1, h2.later hb, h3, h4.trans (hb.mono h4.size)⟩

theorem Live.below (h : Live w0 w s X Bs) : Below w0.heap.size w0 w := by
  obtain ⟨V, t, h1, h2, h3, h4⟩ := h
  exact h4

theorem live_adv {V V' : Nat → Prop} {t t' : Sx} {X' : Xs} {Bs' : List Xs} (h3 : ∀ j, t.own j ∨ V j → w0.heap.size ≤ j) (h4 : Below w0.heap.size w0 w) (hs : Stt w' V' t' X' Bs') (ha : Adv w w' V V' t t') : Live w0 w' t.s X' Bs' := by
  refine ⟨V', t', ha.s, hs, fun j hj => ?_, h4.trans (ha.fr.below h4.size (fun j hj => h3 j (.inl hj)))⟩
  have := h4.size
  rcases hj with hj | hj
  · rcases ha.own j hj with e | e
    · exact h3 j (.inl e)
    · omega
  · rcases ha.vs j hj with e | e
    · exact h3 j (.inr e)
    · omega

/-- what is said of its entries -/
theorem Live.facts (h : Live w0 w s X Bs) : Rk X ∧ (∀ p ∈ X, KeyOk p.1 ∧ rightB p.2 = true) ∧ X.length ≤ 128 := by
  obtain ⟨V, t, h1, h2, h3, h4⟩ := h
  exact ⟨h2.rk, h2.key, h2.len⟩

theorem live_new (hb : Below w0.heap.size w0 w) : Calls Tryz.prog 5 #[] w fun e w' => ∃ s, e = .returned (.pointer (some ⟨s, 0, none⟩)) ∧ Live w0 w' s [] [] ∧ Below w.heap.size w w' := by
  refine (store_new w).mono ?_
  rintro e w' ⟨t, rfl, hs, h1, h2, h3, h4, h5⟩
  refine ⟨t.s, rfl, ⟨_, t, rfl, ⟨hs, by unfold Sx.X; rw [h1]; rfl, by rw [h2]; rfl, by simp, by simp [tot], by rw [h3]; trivial⟩, fun j hj => ?_, hb.trans (h5.mono hb.size)⟩, h5⟩
  rcases hj with hj | hj
  · have := h4 j hj
    have := hb.size
    omega
  · exact hj.elim

theorem live_put {P : Nat → Prop} (h : Live w0 w s X Bs) (k : ByteArray) (v : Vl) (x : Value) (hv : IsP w P v x) (hP : ∀ j, P j → j < w0.heap.size) :
    Calls Tryz.prog 9 #[.pointer (some ⟨s, 0, none⟩), .string k, x] w fun e w' => e = .returned (.int .i64 (putE X k v)) ∧ Live w0 w' s (putX X k v) Bs := by
  obtain ⟨V, t, rfl, h2, h3, h4⟩ := h
  refine (put_store h2 k v x hv (fun j hj => ⟨Nat.lt_of_lt_of_le (hP j hj) h4.size, fun e => ?_⟩)).mono ?_
  · have h5 := h3 j (.inl e)
    have h6 := hP j hj
    omega
  · rintro e w' ⟨rfl, V', t', a, b⟩
    exact ⟨rfl, live_adv h3 h4 a b⟩

theorem live_get (h : Live w0 w s X Bs) (k : ByteArray) : Calls Tryz.prog 17 #[.pointer (some ⟨s, 0, none⟩), .string k] w fun e w' => ∃ x, e = .returned (.tuple #[x, .bool (lookK X k).isSome]) ∧ Below w.heap.size w w' ∧ IsQ w' (fun b => w.heap.size ≤ b ∧ b < w'.heap.size) ((lookK X k).getD vz) x := by
  obtain ⟨V, t, rfl, h2, h3, h4⟩ := h
  exact get_store h2 k

theorem live_after (h : Live w0 w s X Bs) (k : ByteArray) : Calls Tryz.prog 18 #[.pointer (some ⟨s, 0, none⟩), .string k] w fun e w' => e = .returned (.tuple #[.string ((aft X k).getD ⟨#[]⟩), .bool (aft X k).isSome]) ∧ Below w.heap.size w w' := by
  obtain ⟨V, t, rfl, h2, h3, h4⟩ := h
  exact after_store h2 k

theorem live_len (h : Live w0 w s X Bs) : Calls Tryz.prog 15 #[.pointer (some ⟨s, 0, none⟩)] w fun e w' => e = .returned (.int .i64 (X.length : Int)) ∧ w' = w := by
  obtain ⟨V, t, rfl, h2, h3, h4⟩ := h
  exact len_store h2

theorem live_weight (h : Live w0 w s X Bs) : Calls Tryz.prog 23 #[.pointer (some ⟨s, 0, none⟩)] w fun e w' => e = .returned (.int .i64 (tot X : Int)) ∧ w' = w := by
  obtain ⟨V, t, rfl, h2, h3, h4⟩ := h
  exact weight_store h2

theorem live_open (h : Live w0 w s X Bs) : Calls Tryz.prog 25 #[.pointer (some ⟨s, 0, none⟩)] w fun e w' => e = .returned (.int .i64 (Bs.length : Int)) ∧ w' = w := by
  obtain ⟨V, t, rfl, h2, h3, h4⟩ := h
  exact open_store h2

theorem live_checkpoint (h : Live w0 w s X Bs) (hb : Bs.length ≤ 2000000000000) : Calls Tryz.prog 24 #[.pointer (some ⟨s, 0, none⟩)] w fun e w' => e = .returned (.int .i64 ((Bs.length + 1 : Nat) : Int)) ∧ Live w0 w' s X (X :: Bs) := by
  obtain ⟨V, t, rfl, h2, h3, h4⟩ := h
  refine (checkpoint_store h2 hb).mono ?_
  rintro e w' ⟨rfl, t', a, b⟩
  exact ⟨rfl, live_adv h3 h4 a b⟩

theorem live_rollback (h : Live w0 w s X (B :: Bs)) : Calls Tryz.prog 19 #[.pointer (some ⟨s, 0, none⟩)] w fun e w' => e = .returned (.int .i64 0) ∧ Live w0 w' s B Bs := by
  obtain ⟨V, t, rfl, h2, h3, h4⟩ := h
  refine (rollback_some h2).mono ?_
  rintro e w' ⟨rfl, t', a, b⟩
  exact ⟨rfl, live_adv h3 h4 a b⟩

theorem live_commit (h : Live w0 w s X (B :: Bs)) : Calls Tryz.prog 20 #[.pointer (some ⟨s, 0, none⟩)] w fun e w' => e = .returned (.int .i64 0) ∧ Live w0 w' s X Bs := by
  obtain ⟨V, t, rfl, h2, h3, h4⟩ := h
  refine (commit_some h2).mono ?_
  rintro e w' ⟨rfl, t', a, b⟩
  exact ⟨rfl, live_adv h3 h4 a b⟩

theorem live_rollback0 (h : Live w0 w s X []) : Calls Tryz.prog 19 #[.pointer (some ⟨s, 0, none⟩)] w fun e w' => e = .returned (.int .i64 63) ∧ Below w.heap.size w w' := by
  obtain ⟨V, t, rfl, h2, h3, h4⟩ := h
  exact rollback_none h2

theorem live_commit0 (h : Live w0 w s X []) : Calls Tryz.prog 20 #[.pointer (some ⟨s, 0, none⟩)] w fun e w' => e = .returned (.int .i64 63) ∧ Below w.heap.size w w' := by
  obtain ⟨V, t, rfl, h2, h3, h4⟩ := h
  exact commit_none h2

theorem stt_entries {V : Nat → Prop} {t : Sx} (h2 : Stt w V t X Bs) : Calls Tryz.prog 26 #[.pointer (some ⟨t.s, 0, none⟩)] w fun e w' => ∃ al cl, e = .returned (.slice al X.length cl) ∧ IsE w' (fun b => w.heap.size ≤ b ∧ b < w'.heap.size) X al cl ∧ Below w.heap.size w w' := by
  refine (entries_store h2).mono ?_
  rintro e w' ⟨sv, es, rfl, e1, e2, b⟩
  have hl : es.length = X.length := by rw [← e1]; exact (mapK_len _ _).symm
  obtain ⟨al, cl, rfl, hE⟩ := e2.isE (by have := h2.len; omega) (fun p hp => by
    have := (h2.key (p.1, p.2.2) (by rw [← e1]; exact List.mem_map.2 ⟨p, hp, rfl⟩)).1.2
    dsimp only at this
    omega)
  rw [e1] at hE
  rw [hl]
  exact ⟨al, cl, rfl, hE, b⟩

theorem live_entries (h : Live w0 w s X Bs) : Calls Tryz.prog 26 #[.pointer (some ⟨s, 0, none⟩)] w fun e w' => ∃ al cl, e = .returned (.slice al X.length cl) ∧ IsE w' (fun b => b < w'.heap.size) X al cl ∧ Below w.heap.size w w' := by
  obtain ⟨V, t, rfl, h2, h3, h4⟩ := h
  refine (stt_entries h2).mono ?_
  rintro e w' ⟨al, cl, rfl, hE, b⟩
  exact ⟨al, cl, rfl, hE.weak (fun b hb => hb.2), b⟩
end

/-- the first one -/
theorem put_first {k : ByteArray} {v : Vl} (hk : keyB k = true) (hr : rightB v = true) : putE [] k v = 0 ∧ putX [] k v = [(k, v)] := by
  have h1 := ew_le k v ((keyB_iff k).1 hk).2
  have hf : fitX [] k v = true := by
    unfold fitX
    rw [Bool.and_eq_true, decide_eq_true_eq, decide_eq_true_eq]
    constructor
    · simp [putK]
    · simp [putK, tot]
      omega
  constructor
  · unfold putE
    rw [if_pos hk, if_pos hr, if_pos hf]
  · unfold putX
    rw [if_pos ⟨hk, hr, hf⟩]
    rfl
end Go.Proofs.YtdaooapfokhfcaaGreat
