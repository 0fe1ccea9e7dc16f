/-
  Layer 12, the document's own look: fault, at; conditions: the form's own reach.
-/
import Derived.Test.YtcknoeepdjhnoaaGreatDoorH38
import Derived.Test.YtcknoeepdjhnoaaGreatDoorH39
import Derived.Test.YtcknoeepdjhnoaaGreatDoorH05
import Derived.Test.YtcknoeepdjhnoaaGreatDoorH34
set_option linter.unusedVariables false
set_option linter.unusedSimpArgs false
namespace Go.Proofs.YtcknoeepdjhnoaaGreatDoor
open Go.RowKit
set_option linter.unusedVariables false
set_option linter.unusedSimpArgs false

theorem cell_up {w w' : World} {p : Addr} {v : Value} (hb : Below w.heap.size w w') (h : w.cell? p = some v) : w'.cell? p = some v := (World.cell?_of_block (hb.block p.block (World.block_lt_of_cell? _ _ h))).trans h

theorem set2K {w : World} {q : Nat} {z0 z1 : Value} {T : TypeId} (h : w.heap[q]? = some (.cells #[z0, z1] T (0, 0))) (y0 y1 : Value) :
    ((w.setCell ⟨q, 0, none⟩ y0).setCell ⟨q, 1, none⟩ y1).heap[q]? = some (.cells #[y0, y1] T (0, 0)) := by
  have e0 := heap_setCell_same w q 0 _ T y0 h
  simp only [List.setIfInBounds_toArray, List.set_cons_zero, List.set_cons_succ] at e0
  have e1 := heap_setCell_same _ q 1 _ T y1 e0
  simpa only [List.setIfInBounds_toArray, List.set_cons_zero, List.set_cons_succ] using e1

theorem StK.later {w w' : World} {B g : Nat} {x : Kv} {m : Md} {fn : Fn} {ps : List Int} {L qh ch qw cw : Nat} {s : Sv} {lw : Int} (h : StK w B g x m fn ps L qh ch qw cw s lw) (hb : Below w.heap.size w w') : StK w' B g x m fn ps L qh ch qw cw s lw :=
  ⟨h.see.later hb, own_below h.oh hb, own_below h.ow hb, h.low, h.bg, h.pg⟩

theorem rchs_one (L t n : Int) (s : Sv) : rchs L t [n] s = rch L n t s := by
  unfold rchs rchs
  split
  · rename_i h
    rw [← h]
  · rfl
theorem rchs_two (L t n k : Int) (s : Sv) : rchs L t [n, k] s = if (rch L n t s).2 = 0 then rch L k t (rch L n t s).1 else rch L n t s := by
  conv => lhs; unfold rchs
  rw [rchs_one]
theorem rch_high {L a t : Int} {s : Sv} (h : ∀ b' z, s.1.lookup b' = some z → 0 ≤ z) (ht : 0 ≤ t) : ∀ b' z, (rch L a t s).1.1.lookup b' = some z → 0 ≤ z := by
  unfold rch
  split
  · exact h
  · split
    · split
      · exact h
      · exact h
    · intro b' z hz
      rw [lookup_cons'] at hz
      split at hz
      · cases hz
        exact ht
      · exact h b' z hz

/-- what looking at a place comes to -/
def atR (b : Bo) (a : Int) (s : Sv) : Sv × Int := if (b.pas s a).2 = 0 then rchs b.L (b.pas s a).1 (b.lds a) s else (s, (b.pas s a).2)

set_option maxRecDepth 100000 in
set_option maxHeartbeats 16000000 in
theorem faultK_any {w : World} {B g : Nat} {x : Kv} {m : Md} {fn : Fn} {ps : List Int} {hv wv : Value} {lw : Int} (h : SeeK w B g x m fn ps hv wv lw) (e0 at0 : Int) :
    Calls Tryz.prog 26 #[.pointer (some ⟨g, 0, none⟩), .int .i64 e0, .int .i64 at0] w fun e w' => e = .returned (.agg #[.int .i64 e0, .int .i64 (x.f : Int), .int .i64 at0]) ∧ Below w.heap.size w w' := by
  obtain ⟨G, hG⟩ : ∃ G, w.heap.size = G := ⟨_, rfl⟩
  obtain ⟨w1, hw1⟩ : ∃ w1, w.alloc (.cells #[.int .i64 0, .int .i64 0, .int .i64 0] 31) = w1 := ⟨_, rfl⟩
  have A1 : w1.heap[G]? = some (.cells #[.int .i64 0, .int .i64 0, .int .i64 0] 31 (0, 0)) := by rw [← hw1, ← hG]; exact heap_alloc_new _ _
  have B1 : Below w.heap.size w w1 := by rw [← hw1]; exact (Below.refl _ _).alloc (Nat.le_refl _) _
  obtain ⟨j0, j1, j3, j5, j6, j7, j8⟩ := (h.later B1).at
  have c0 : w1.cell? ⟨G, 0, none⟩ = some (.int .i64 0) := by rw [cell_of_row w1 _ 0 _ _ (0, 0) A1]; rfl
  have c1 : w1.cell? ⟨G, 1, none⟩ = some (.int .i64 0) := by rw [cell_of_row w1 _ 1 _ _ (0, 0) A1]; rfl
  have c2 : w1.cell? ⟨G, 2, none⟩ = some (.int .i64 0) := by rw [cell_of_row w1 _ 2 _ _ (0, 0) A1]; rfl
  have f0 := frozen_of_row w1 G 0 _ _ A1
  have f1 := frozen_of_row w1 G 1 _ _ A1
  have f2 := frozen_of_row w1 G 2 _ _ A1
  have HA := hide (And.intro A1 B1)
  have HG := hide hG
  clear h A1 B1 j0 j1 j5 j6 j7 j8
  go_enter Tryz.func26, Tryz.ntmps26
  go_wp2_with fail
  (try simp only [Exit.inBlock, Exit.then])
  refine bodyPost_ret (ret_c1 rfl _ _ G _ _ _ rfl (set3 (unhide HA).1 _ _ _) Tryz.underlying31 rfl size_flt) rfl ?_
  exact ⟨rfl, set3_below (unhide HA).2 (by have := unhide HG; omega) _ _ _⟩

set_option maxRecDepth 100000 in
set_option maxHeartbeats 16000000 in
theorem atK_any {w : World} {B g : Nat} {x : Kv} {m : Md} {fn : Fn} {ps : List Int} {L qh ch qw cw : Nat} {s : Sv} {lw : Int} (h : StK w B g x m fn ps L qh ch qw cw s lw) (hL : L ≤ 4000) (b : Bo) (hb : b = boF m fn) (hps : ps = b.ps) (hLb : (L : Int) = b.L) (hf : Fit b) (hls : (lsF fn.2.2.2).2.2.2 = 0) (p : Nat) (hp : (p : Int) ∈ ps) (hi : Inv ps b.sk s) (y : Int) (hlk : s.1.lookup (p : Int) = some y) (hlw : 0 ≤ lw ∧ lw ≤ (L : Int)) :
    Calls Tryz.prog 48 #[.pointer (some ⟨g, 0, none⟩), .int .i64 (p : Int)] w fun e w' => e = .returned (.int .i64 (atR b (p : Int) s).2) ∧ ∃ q : Nat, q ≤ L ∧ StK w' B g x m fn ps L qh ch qw cw (atR b (p : Int) s).1 (q : Int) ∧ Below g w w' ∧ ∀ k, k < w.heap.size → k ≠ g → k ≠ qh → k ≠ qw → w'.heap[k]? = w.heap[k]? := by
  obtain ⟨⟨op, av⟩, hi1, hi2, hi3⟩ := hf.at (hps ▸ hp)
  obtain ⟨pp, lo, sk, tt⟩ := fn
  have hTk := lsF_at hls (k := b.ps.idxOf (p : Int)) (a := (p : Int)) (i := (op, av)) (by rw [hb] at hi3 ⊢; exact hi3) (by rw [hb] at hi1 ⊢; exact hi1)
  have hbL : ((lsF tt).2.1) = b.ps := by rw [hb]; rfl
  have hbS : b.L = (tt.size : Int) := by rw [hb]; rfl
  have hbm : b.m = m := by rw [hb]; rfl
  have hbk : b.sk = sk := by rw [hb]; rfl
  simp only [hbL] at hTk
  rw [← hbS] at hTk
  have hpn := h.see.lf
  obtain ⟨ad, hae, hab, hts, f0, f1, f2, f3⟩ := h.see.mod.func x.f pp lo sk tt hpn
  have hnm := hf.nam _ hi2
  have hsm := hf.sml _ hi2
  rw [hbm] at hnm hsm
  simp only [] at hsm
  have hfl := hf.lds (b.ps.idxOf (p : Int)) (op, av) hi2
  have hyb := (hi.high _ _ hlk).2
  have hs1 := hf.s1
  have hinn := hf.snd.inn
  -- the place behind
  have hbh0 : bhd b.ps b.L (b.ps.idxOf (p : Int)) = b.L ∨ bhd b.ps b.L (b.ps.idxOf (p : Int)) ∈ b.ps := by
    unfold bhd
    split
    · rename_i hk
      obtain ⟨z, hz⟩ : ∃ z, b.ps[b.ps.idxOf (p : Int) + 1]? = some z := ⟨_, List.getElem?_eq_getElem hk⟩
      rw [getD_of hz]
      exact .inr (List.mem_of_getElem? hz)
    · exact .inl rfl
  obtain ⟨bh, hbh, hbl⟩ : ∃ bh : Nat, bhd b.ps b.L (b.ps.idxOf (p : Int)) = (bh : Int) ∧ bh ≤ L := by
    rcases hbh0 with e | e
    · exact ⟨L, by omega, Nat.le_refl _⟩
    · have := hinn _ e
      exact ⟨(bhd b.ps b.L (b.ps.idxOf (p : Int))).toNat, by omega, by omega⟩
  have htrg : op = 5 ∨ op = 6 → ∃ n : Nat, av = (n : Int) ∧ n ≤ L := fun e => by
    have := hinn _ (hf.trg _ hi2 e)
    simp only [] at this
    exact ⟨av.toNat, by omega, by omega⟩
  rw [hbh] at hTk
  have HAT : Hid (atR b (p : Int) s = if (pasI m sk (op, av) y).2 = 0 then rchs (L : Int) (pasI m sk (op, av) y).1 (lds b.ps b.L (b.ps.idxOf (p : Int)) (op, av)) s else (s, (pasI m sk (op, av) y).2)) := hide (by
    unfold atR Bo.pas Bo.lds
    rw [hlk, Option.getD_some, getD_of hi1, hbm, hbk, hLb])
  have hlds : lds b.ps b.L (b.ps.idxOf (p : Int)) (op, av) = if op = 9 then [] else if op = 5 then [av] else if op = 6 then [(bh : Int), av] else [(bh : Int)] := by
    unfold lds
    rw [hbh]
  rw [hlds] at HAT
  have CT : Hid (∀ u qb cp, Row8 u (some ⟨qb, 0, none⟩) tt.size cp (zsT tt) → cp ≤ 9223372036854775807 → Calls Tryz.prog 44 #[.slice (some ⟨qb, 0, none⟩) tt.size cp, .int .i64 (p : Int)] u fun e w' => e = .returned (.tuple #[.agg #[.int .i64 op, .int .i64 av], .int .i64 (bh : Int), .int .i64 0]) ∧ Below u.heap.size u w') := hide (fun u qb cp hr hc => by
    have := rtake_any (some ⟨qb, 0, none⟩) tt.size cp (zsT tt) (p : Int) u hr hc
    rw [hTk] at this
    exact this)
  have hpL : p < L := by have := hinn _ (hps ▸ hp); omega
  obtain ⟨j0, j1, j3, j5, j6, j7, j8⟩ := h.see.at
  rw [hae] at j1
  have hl2 := h.see.l2
  have hfi : (x.f : Int) < (x.n2 : Int) := by have := (List.getElem?_eq_some_iff.1 hpn).1; omega
  have hfb : x.n2 ≤ 140737488351232 := by have := h.see.mod.len; omega
  have qhb := (h.oh.lt qh rfl)
  have qwb := (h.ow.lt qw rfl)
  have hN0 : ∀ b' z, s.1.lookup b' = some z → 0 ≤ z := fun b' z hz => (hi.high b' z hz).2.1
  rw [hbk] at hyb hs1
  have HK := hide h
  have HX := hide (And.intro hN0 (And.intro hlw (And.intro qhb.2 (And.intro qwb.2 hbl))))
  have HTG := hide htrg
  have HLK := hide hlk
  have HDN : Hid (∀ (u : World) (r : Sv × Int), StK u B g x m (pp, lo, sk, tt) ps L qh ch qw cw s lw → Below w.heap.size w u → atR b (p : Int) s = r → r.1 = s → ∃ q : Nat, q ≤ L ∧ StK u B g x m (pp, lo, sk, tt) ps L qh ch qw cw (atR b (p : Int) s).1 (q : Int) ∧ Below g w u ∧ ∀ k, k < w.heap.size → k ≠ g → k ≠ qh → k ≠ qw → u.heap[k]? = w.heap[k]?) := hide (fun u r hu hd e1 e2 => ⟨lw.toNat, by omega, by
    have : ((lw.toNat : Nat) : Int) = lw := by omega
    rw [this, e1, e2]
    exact hu, hd.mono (Nat.le_of_lt (Array.getElem?_eq_some_iff.1 h.see.box).1), fun k hk _ _ _ => hd.block k hk⟩)
  have HNM := hide hnm
  have HAE := hide hae
  have HPN := hide hpn
  obtain ⟨n2, hn2⟩ : ∃ n, x.n2 = n := ⟨_, rfl⟩
  obtain ⟨c2, hc2⟩ : ∃ n, x.c2 = n := ⟨_, rfl⟩
  obtain ⟨fi, hxf⟩ : ∃ n, x.f = n := ⟨_, rfl⟩
  rw [hn2, hc2] at j1
  rw [hxf] at j3 f3 f2 hfi HPN
  rw [hn2] at hfi hfb
  have hf0 : (0 : Int) ≤ (fi : Int) := by omega
  have HJ := hide (And.intro j1 (And.intro j3 f3))
  have HR := hide (And.intro hn2 (And.intro hc2 (And.intro hxf f2)))
  clear h hi hf hb hps hLb hls hp hlk hi1 hi2 hi3 hTk hbL hbS hbm hbk hpn hae hab f0 f1 f2 f3 hfl hinn hbh0 hbh hlds hl2 hn2 hc2 hxf j0 j1 j3 j5 j6 j7 j8 hnm htrg hlw hN0 qhb qwb
  go_enter Tryz.func48, Tryz.ntmps48
  go_upto_region 1 with fail
  go_cut [5, 6] from 12 to 30 (fun x5 x6 wx => ∃ gi : Nat, x5 = .pointer (some ⟨gi, 0, none⟩) ∧ x6 = .int .i64 (bh : Int) ∧ Hid (wx.heap[gi]? = some (.cells #[.int .i64 op, .int .i64 av] 75 (0, 0)) ∧ Below w.heap.size w wx ∧ w.heap.size ≤ gi))
  case first =>
    obtain ⟨W0, hW0⟩ : ∃ W0, w.drew = W0 := ⟨_, rfl⟩
    have HB0 : Hid (Below w.heap.size w W0) := hide (by rw [← hW0]; exact ⟨rfl, rfl, rfl, Nat.le_refl _, fun _ _ => rfl⟩)
    have HS0 : Hid (W0.cell? ⟨g, 1, none⟩ = some (.slice (some ad) n2 c2) ∧ W0.cell? ⟨g, 3, none⟩ = some (.int .i64 (fi : Int)) ∧ W0.cell? ⟨(ad.add (fi * 4)).block, (ad.add (fi * 4)).off + 3, none⟩ = some (.string tt)) := hide ⟨cell_up (unhide HB0) (unhide HJ).1, cell_up (unhide HB0) (unhide HJ).2.1, cell_up (unhide HB0) (unhide HJ).2.2⟩
    refine till_begin (S := fun w' => w'.cell? ⟨g, 1, none⟩ = some (.slice (some ad) n2 c2) ∧ w'.cell? ⟨g, 3, none⟩ = some (.int .i64 (fi : Int)) ∧ w'.cell? ⟨(ad.add (fi * 4)).block, (ad.add (fi * 4)).off + 3, none⟩ = some (.string tt)) 22 (by kernel_rfl) ?_
    rw [hW0]
    clear hW0
    refine till_take 0 (v := .pointer (some ⟨g, 0, none⟩)) (some 13) rfl rfl rfl (by kernel_rfl) (by kernel_rfl) (by kernel_rfl) (by kernel_rfl) (fun _ _ _ h => h) (Or.inl ⟨by rfl, fun u hu => by obtain ⟨b0, b1, b2⟩ := hu; go_simp⟩) (unhide HS0) ?_
    try simp only [Act.put, List.setIfInBounds_toArray, List.set_cons_zero, List.set_cons_succ]
    refine till_take 1 (v := .pointer (some ⟨g, 0, none⟩)) (some 14) rfl rfl rfl (by kernel_rfl) (by kernel_rfl) (by kernel_rfl) (by kernel_rfl) (fun _ _ _ h => h) (Or.inl ⟨by rfl, fun u hu => by obtain ⟨b0, b1, b2⟩ := hu; go_simp⟩) (unhide HS0) ?_
    try simp only [Act.put, List.setIfInBounds_toArray, List.set_cons_zero, List.set_cons_succ]
    refine till_take 2 (v := .pointer (some ⟨g, 0, none⟩)) (some 15) rfl rfl rfl (by kernel_rfl) (by kernel_rfl) (by kernel_rfl) (by kernel_rfl) (fun _ _ _ h => h) (Or.inl ⟨by rfl, fun u hu => by obtain ⟨b0, b1, b2⟩ := hu; go_simp⟩) (unhide HS0) ?_
    try simp only [Act.put, List.setIfInBounds_toArray, List.set_cons_zero, List.set_cons_succ]
    refine till_take 3 (v := .pointer (some ⟨g, 1, none⟩)) (some 16) rfl rfl rfl (by kernel_rfl) (by kernel_rfl) (by kernel_rfl) (by kernel_rfl) (fun _ _ _ h => h) (Or.inl ⟨by rfl, fun u hu => by obtain ⟨b0, b1, b2⟩ := hu; go_simp⟩) (unhide HS0) ?_
    try simp only [Act.put, List.setIfInBounds_toArray, List.set_cons_zero, List.set_cons_succ]
    refine till_take 4 (v := .slice (some ad) n2 c2) (some 17) rfl rfl rfl (by kernel_rfl) (by kernel_rfl) (by kernel_rfl) (by kernel_rfl) (fun _ _ _ h => h) (Or.inl ⟨by rfl, fun u hu => by obtain ⟨b0, b1, b2⟩ := hu; go_simp⟩) (unhide HS0) ?_
    try simp only [Act.put, List.setIfInBounds_toArray, List.set_cons_zero, List.set_cons_succ]
    refine till_take 5 (v := .pointer (some ⟨g, 0, none⟩)) (some 18) rfl rfl rfl (by kernel_rfl) (by kernel_rfl) (by kernel_rfl) (by kernel_rfl) (fun _ _ _ h => h) (Or.inl ⟨by rfl, fun u hu => by obtain ⟨b0, b1, b2⟩ := hu; go_simp⟩) (unhide HS0) ?_
    try simp only [Act.put, List.setIfInBounds_toArray, List.set_cons_zero, List.set_cons_succ]
    refine till_take 6 (v := .pointer (some ⟨g, 0, none⟩)) (some 19) rfl rfl rfl (by kernel_rfl) (by kernel_rfl) (by kernel_rfl) (by kernel_rfl) (fun _ _ _ h => h) (Or.inl ⟨by rfl, fun u hu => by obtain ⟨b0, b1, b2⟩ := hu; go_simp⟩) (unhide HS0) ?_
    try simp only [Act.put, List.setIfInBounds_toArray, List.set_cons_zero, List.set_cons_succ]
    refine till_take 7 (v := .pointer (some ⟨g, 3, none⟩)) (some 20) rfl rfl rfl (by kernel_rfl) (by kernel_rfl) (by kernel_rfl) (by kernel_rfl) (fun _ _ _ h => h) (Or.inl ⟨by rfl, fun u hu => by obtain ⟨b0, b1, b2⟩ := hu; go_simp⟩) (unhide HS0) ?_
    try simp only [Act.put, List.setIfInBounds_toArray, List.set_cons_zero, List.set_cons_succ]
    refine till_take 8 (v := .int .i64 (fi : Int)) (some 21) rfl rfl rfl (by kernel_rfl) (by kernel_rfl) (by kernel_rfl) (by kernel_rfl) (fun _ _ _ h => h) (Or.inl ⟨by rfl, fun u hu => by obtain ⟨b0, b1, b2⟩ := hu; go_simp⟩) (unhide HS0) ?_
    try simp only [Act.put, List.setIfInBounds_toArray, List.set_cons_zero, List.set_cons_succ]
    refine till_take 9 (v := .pointer (some (ad.add (fi * 4)))) (some 22) rfl rfl rfl (by kernel_rfl) (by kernel_rfl) (by kernel_rfl) (by kernel_rfl) (fun _ _ _ h => h) (Or.inl ⟨by rfl, fun u hu => by obtain ⟨b0, b1, b2⟩ := hu; go_simp⟩) (unhide HS0) ?_
    try simp only [Act.put, List.setIfInBounds_toArray, List.set_cons_zero, List.set_cons_succ]
    refine till_take 10 (v := .pointer (some ⟨(ad.add (fi * 4)).block, (ad.add (fi * 4)).off + 3, none⟩)) (some 23) rfl rfl rfl (by kernel_rfl) (by kernel_rfl) (by kernel_rfl) (by kernel_rfl) (fun _ _ _ h => h) (Or.inl ⟨by rfl, fun u hu => by obtain ⟨b0, b1, b2⟩ := hu; go_simp⟩) (unhide HS0) ?_
    try simp only [Act.put, List.setIfInBounds_toArray, List.set_cons_zero, List.set_cons_succ]
    refine till_take 11 (v := .string tt) (some 24) rfl rfl rfl (by kernel_rfl) (by kernel_rfl) (by kernel_rfl) (by kernel_rfl) (fun _ _ _ h => h) (Or.inl ⟨by rfl, fun u hu => by obtain ⟨b0, b1, b2⟩ := hu; go_simp⟩) (unhide HS0) ?_
    try simp only [Act.put, List.setIfInBounds_toArray, List.set_cons_zero, List.set_cons_succ]
    refine till_take 13 (v := .int .i64 (p : Int)) (some 26) rfl rfl rfl (by kernel_rfl) (by kernel_rfl) (by kernel_rfl) (by kernel_rfl) (fun _ _ _ h => h) (Or.inl ⟨by rfl, fun u hu => by obtain ⟨b0, b1, b2⟩ := hu; go_simp⟩) (unhide HS0) ?_
    try simp only [Act.put, List.setIfInBounds_toArray, List.set_cons_zero, List.set_cons_succ]
    refine till_two 12 19 (by kernel_rfl) rfl rfl (fun K hK => ?_) (fun K hK => ?_)
    · have hcv := Lib.run_convert_string_bytes (P := Tryz.prog) W0 9 59 5 tt Tryz.underlying9 Tryz.underlying59 Tryz.underlying5
      go_simp
      clear hcv
      have hfr := freshT_of W0 5 tt hts
      obtain ⟨W1, hW1⟩ : ∃ u, Lib.bytesWorld W0 5 tt = u := ⟨_, rfl⟩
      obtain ⟨cp, hcp⟩ : ∃ c, grownCap W0 tt.size 0 5 = c := ⟨_, rfl⟩
      obtain ⟨qb, hqb⟩ : ∃ c, W0.heap.size = c := ⟨_, rfl⟩
      rw [hW1, hcp] at hfr
      have HFR : Hid (Row8 W1 (some ⟨qb, 0, none⟩) tt.size cp (zsT tt) ∧ cp ≤ 9223372036854775807) := hide ⟨by rw [← hqb]; exact hfr.row, hfr.cap⟩
      have HB1 : Hid (Below w.heap.size w W1) := hide ((unhide HB0).trans (hfr.below.mono (unhide HB0).size))
      have HS1 : Hid (W1.cell? ⟨g, 1, none⟩ = some (.slice (some ad) n2 c2) ∧ W1.cell? ⟨g, 3, none⟩ = some (.int .i64 (fi : Int)) ∧ W1.cell? ⟨(ad.add (fi * 4)).block, (ad.add (fi * 4)).off + 3, none⟩ = some (.string tt)) := hide ⟨cell_up (unhide HB1) (unhide HJ).1, cell_up (unhide HB1) (unhide HJ).2.1, cell_up (unhide HB1) (unhide HJ).2.2⟩
      try rw [hW1]
      try rw [hcp]
      try rw [hqb]
      clear hfr hW1 hcp hqb
      refine hK.out _ _ (Or.inr (unhide HS1)) ?_
      clear hK K
      try simp only [Act.put, List.setIfInBounds_toArray, List.set_cons_zero, List.set_cons_succ]
      refine till_two 14 19 (by kernel_rfl) rfl rfl (fun K hK => ?_) (fun K hK => ?_)
      · go_simp
        refine (unhide CT W1 qb cp (unhide HFR).1 (unhide HFR).2).mono ?_
        rintro e W2 ⟨rfl, d2⟩
        have HD := hide d2
        have HB2 : Hid (Below w.heap.size w W2) := hide ((unhide HB1).trans (d2.mono (unhide HB1).size))
        have HS2 : Hid (W2.cell? ⟨g, 1, none⟩ = some (.slice (some ad) n2 c2) ∧ W2.cell? ⟨g, 3, none⟩ = some (.int .i64 (fi : Int)) ∧ W2.cell? ⟨(ad.add (fi * 4)).block, (ad.add (fi * 4)).off + 3, none⟩ = some (.string tt)) := hide ⟨cell_up (unhide HB2) (unhide HJ).1, cell_up (unhide HB2) (unhide HJ).2.1, cell_up (unhide HB2) (unhide HJ).2.2⟩
        clear d2
        go_wp2_with fail
        refine hK.out _ _ (Or.inr (unhide HS2)) ?_
        clear hK K
        try simp only [Act.put, List.setIfInBounds_toArray, List.set_cons_zero, List.set_cons_succ]
        refine till_take 15 (v := .tuple #[.agg #[.int .i64 op, .int .i64 av], .int .i64 (bh : Int), .int .i64 0]) (some 12) rfl rfl rfl (by kernel_rfl) (by kernel_rfl) (by kernel_rfl) (by kernel_rfl) (fun _ _ _ h => h) (Or.inl ⟨by rfl, fun u hu => by obtain ⟨b0, b1, b2⟩ := hu; go_simp⟩) (unhide HS2) ?_
        try simp only [Act.put, List.setIfInBounds_toArray, List.set_cons_zero, List.set_cons_succ]
        refine till_take 16 (v := .agg #[.int .i64 op, .int .i64 av]) (some 28) rfl rfl rfl (by kernel_rfl) (by kernel_rfl) (by kernel_rfl) (by kernel_rfl) (fun _ _ _ h => h) (Or.inl ⟨by rfl, fun u hu => by obtain ⟨b0, b1, b2⟩ := hu; go_simp⟩) (unhide HS2) ?_
        try simp only [Act.put, List.setIfInBounds_toArray, List.set_cons_zero, List.set_cons_succ]
        refine till_take 17 (v := .int .i64 (bh : Int)) (some 29) rfl rfl rfl (by kernel_rfl) (by kernel_rfl) (by kernel_rfl) (by kernel_rfl) (fun _ _ _ h => h) (Or.inl ⟨by rfl, fun u hu => by obtain ⟨b0, b1, b2⟩ := hu; go_simp⟩) (unhide HS2) ?_
        try simp only [Act.put, List.setIfInBounds_toArray, List.set_cons_zero, List.set_cons_succ]
        refine till_take 18 (v := .int .i64 0) (some 30) rfl rfl rfl (by kernel_rfl) (by kernel_rfl) (by kernel_rfl) (by kernel_rfl) (fun _ _ _ h => h) (Or.inl ⟨by rfl, fun u hu => by obtain ⟨b0, b1, b2⟩ := hu; go_simp⟩) (unhide HS2) ?_
        try simp only [Act.put, List.setIfInBounds_toArray, List.set_cons_zero, List.set_cons_succ]
        refine till_one 19 (by kernel_rfl) rfl (fun K hK => ?_)
        go_simp
        obtain ⟨gi, hgi⟩ : ∃ gi, W2.heap.size = gi := ⟨_, rfl⟩
        obtain ⟨W3, hW3⟩ : ∃ u, W2.alloc (.cells #[.int .i64 0, .int .i64 0] 75) = u := ⟨_, rfl⟩
        have HA : Hid (W3.heap[gi]? = some (.cells #[.int .i64 0, .int .i64 0] 75 (0, 0)) ∧ Below W2.heap.size W2 W3 ∧ w.heap.size ≤ gi ∧ W3.heap.size = gi + 1) := hide (by rw [← hW3, ← hgi]; exact ⟨heap_alloc_new _ _, (Below.refl _ _).alloc (Nat.le_refl _) _, (unhide HB2).size, by simp⟩)
        have HB3 : Hid (Below w.heap.size w W3) := hide ((unhide HB2).trans ((unhide HA).2.1.mono (unhide HB2).size))
        have HS3 : Hid (W3.cell? ⟨g, 1, none⟩ = some (.slice (some ad) n2 c2) ∧ W3.cell? ⟨g, 3, none⟩ = some (.int .i64 (fi : Int)) ∧ W3.cell? ⟨(ad.add (fi * 4)).block, (ad.add (fi * 4)).off + 3, none⟩ = some (.string tt)) := hide ⟨cell_up (unhide HB3) (unhide HJ).1, cell_up (unhide HB3) (unhide HJ).2.1, cell_up (unhide HB3) (unhide HJ).2.2⟩
        try rw [hgi]
        try rw [hW3]
        clear hgi hW3
        refine hK.out _ _ (Or.inr (unhide HS3)) ?_
        clear hK K
        try simp only [Act.put, List.setIfInBounds_toArray, List.set_cons_zero, List.set_cons_succ]
        have ER : Hid (W3.heap[gi]? = some (.cells #[.int .i64 0, .int .i64 0] 75 (0, 0))) := hide ((unhide HA).1)
        have c0z : W3.cell? ⟨gi, 0, none⟩ = some (.int .i64 0) := by rw [cell_of_row _ _ 0 _ _ (0, 0) (unhide ER)]; rfl
        have c1z : W3.cell? ⟨gi, 1, none⟩ = some (.int .i64 0) := by rw [cell_of_row _ _ 1 _ _ (0, 0) (unhide ER)]; rfl
        have fz0 := frozen_of_row W3 gi 0 _ _ (unhide ER)
        have fz1 := frozen_of_row W3 gi 1 _ _ (unhide ER)
        obtain ⟨W9, hW9⟩ : ∃ u, (W3.setCell ⟨gi, 0, none⟩ (.int .i64 op)).setCell ⟨gi, 1, none⟩ (.int .i64 av) = u := ⟨_, rfl⟩
        have HF9 : Hid (W9.heap[gi]? = some (.cells #[.int .i64 op, .int .i64 av] 75 (0, 0)) ∧ Below w.heap.size w W9 ∧ w.heap.size ≤ gi) := hide (by rw [← hW9]; exact ⟨set2K (unhide ER) _ _, ((unhide HB3).setCell (p := ⟨gi, 0, none⟩) (unhide HA).2.2.1 _).setCell (p := ⟨gi, 1, none⟩) (unhide HA).2.2.1 _, (unhide HA).2.2.1⟩)
        have HB9 : Hid (Below w.heap.size w W9) := hide (unhide HF9).2.1
        have HS9 : Hid (W9.cell? ⟨g, 1, none⟩ = some (.slice (some ad) n2 c2) ∧ W9.cell? ⟨g, 3, none⟩ = some (.int .i64 (fi : Int)) ∧ W9.cell? ⟨(ad.add (fi * 4)).block, (ad.add (fi * 4)).off + 3, none⟩ = some (.string tt)) := hide ⟨cell_up (unhide HB9) (unhide HJ).1, cell_up (unhide HB9) (unhide HJ).2.1, cell_up (unhide HB9) (unhide HJ).2.2⟩
        refine till_one 20 (by kernel_rfl) rfl (fun K hK => ?_)
        go_simp
        try rw [hW9]
        refine hK.out _ _ (Or.inr (unhide HS9)) ?_
        clear hK K c0z c1z fz0 fz1
        try simp only [Act.put, List.setIfInBounds_toArray, List.set_cons_zero, List.set_cons_succ]
        refine till_one 21 (by kernel_rfl) rfl (fun K hK => ?_)
        go_simp
        refine hK.out _ _ (Or.inr (unhide HS9)) ?_
        clear hK K
        try simp only [Act.put, List.setIfInBounds_toArray, List.set_cons_zero, List.set_cons_succ]
        refine till_one 22 (by kernel_rfl) rfl (fun K hK => ?_)
        go_simp
        refine hK.out _ _ (Or.inl (by first | rfl | trivial)) ?_
        clear hK K
        try simp only [Act.put, List.setIfInBounds_toArray, List.set_cons_zero, List.set_cons_succ]
        refine till_done (by kernel_rfl) ?_ _
        go_wp2_with fail
        go_meet
        exact ⟨gi, rfl, rfl, HF9⟩
      · go_simp
        obtain ⟨gi, hgi⟩ : ∃ gi, W1.heap.size = gi := ⟨_, rfl⟩
        obtain ⟨W2, hW2⟩ : ∃ u, W1.alloc (.cells #[.int .i64 0, .int .i64 0] 75) = u := ⟨_, rfl⟩
        have HA : Hid (W2.heap[gi]? = some (.cells #[.int .i64 0, .int .i64 0] 75 (0, 0)) ∧ Below W1.heap.size W1 W2 ∧ w.heap.size ≤ gi ∧ W2.heap.size = gi + 1) := hide (by rw [← hW2, ← hgi]; exact ⟨heap_alloc_new _ _, (Below.refl _ _).alloc (Nat.le_refl _) _, (unhide HB1).size, by simp⟩)
        have HB2 : Hid (Below w.heap.size w W2) := hide ((unhide HB1).trans ((unhide HA).2.1.mono (unhide HB1).size))
        have HS2 : Hid (W2.cell? ⟨g, 1, none⟩ = some (.slice (some ad) n2 c2) ∧ W2.cell? ⟨g, 3, none⟩ = some (.int .i64 (fi : Int)) ∧ W2.cell? ⟨(ad.add (fi * 4)).block, (ad.add (fi * 4)).off + 3, none⟩ = some (.string tt)) := hide ⟨cell_up (unhide HB2) (unhide HJ).1, cell_up (unhide HB2) (unhide HJ).2.1, cell_up (unhide HB2) (unhide HJ).2.2⟩
        try rw [hgi]
        try rw [hW2]
        clear hgi hW2
        refine hK.out _ _ (Or.inr (unhide HS2)) ?_
        clear hK K
        try simp only [Act.put, List.setIfInBounds_toArray, List.set_cons_zero, List.set_cons_succ]
        refine till_one 14 (by kernel_rfl) rfl (fun K hK => ?_)
        go_simp
        refine (unhide CT W2 qb cp ((unhide HFR).1.later (unhide HA).2.1) (unhide HFR).2).mono ?_
        rintro e W3 ⟨rfl, d2⟩
        have HD := hide d2
        have HB3 : Hid (Below w.heap.size w W3) := hide ((unhide HB2).trans (d2.mono (unhide HB2).size))
        have HS3 : Hid (W3.cell? ⟨g, 1, none⟩ = some (.slice (some ad) n2 c2) ∧ W3.cell? ⟨g, 3, none⟩ = some (.int .i64 (fi : Int)) ∧ W3.cell? ⟨(ad.add (fi * 4)).block, (ad.add (fi * 4)).off + 3, none⟩ = some (.string tt)) := hide ⟨cell_up (unhide HB3) (unhide HJ).1, cell_up (unhide HB3) (unhide HJ).2.1, cell_up (unhide HB3) (unhide HJ).2.2⟩
        clear d2
        go_wp2_with fail
        refine hK.out _ _ (Or.inr (unhide HS3)) ?_
        clear hK K
        try simp only [Act.put, List.setIfInBounds_toArray, List.set_cons_zero, List.set_cons_succ]
        refine till_take 15 (v := .tuple #[.agg #[.int .i64 op, .int .i64 av], .int .i64 (bh : Int), .int .i64 0]) (some 12) rfl rfl rfl (by kernel_rfl) (by kernel_rfl) (by kernel_rfl) (by kernel_rfl) (fun _ _ _ h => h) (Or.inl ⟨by rfl, fun u hu => by obtain ⟨b0, b1, b2⟩ := hu; go_simp⟩) (unhide HS3) ?_
        try simp only [Act.put, List.setIfInBounds_toArray, List.set_cons_zero, List.set_cons_succ]
        refine till_take 16 (v := .agg #[.int .i64 op, .int .i64 av]) (some 28) rfl rfl rfl (by kernel_rfl) (by kernel_rfl) (by kernel_rfl) (by kernel_rfl) (fun _ _ _ h => h) (Or.inl ⟨by rfl, fun u hu => by obtain ⟨b0, b1, b2⟩ := hu; go_simp⟩) (unhide HS3) ?_
        try simp only [Act.put, List.setIfInBounds_toArray, List.set_cons_zero, List.set_cons_succ]
        refine till_take 17 (v := .int .i64 (bh : Int)) (some 29) rfl rfl rfl (by kernel_rfl) (by kernel_rfl) (by kernel_rfl) (by kernel_rfl) (fun _ _ _ h => h) (Or.inl ⟨by rfl, fun u hu => by obtain ⟨b0, b1, b2⟩ := hu; go_simp⟩) (unhide HS3) ?_
        try simp only [Act.put, List.setIfInBounds_toArray, List.set_cons_zero, List.set_cons_succ]
        refine till_take 18 (v := .int .i64 0) (some 30) rfl rfl rfl (by kernel_rfl) (by kernel_rfl) (by kernel_rfl) (by kernel_rfl) (fun _ _ _ h => h) (Or.inl ⟨by rfl, fun u hu => by obtain ⟨b0, b1, b2⟩ := hu; go_simp⟩) (unhide HS3) ?_
        try simp only [Act.put, List.setIfInBounds_toArray, List.set_cons_zero, List.set_cons_succ]
        have ER : Hid (W3.heap[gi]? = some (.cells #[.int .i64 0, .int .i64 0] 75 (0, 0))) := hide (((unhide HD).block gi (by have := (unhide HA).2.2.2; omega)).trans (unhide HA).1)
        have c0z : W3.cell? ⟨gi, 0, none⟩ = some (.int .i64 0) := by rw [cell_of_row _ _ 0 _ _ (0, 0) (unhide ER)]; rfl
        have c1z : W3.cell? ⟨gi, 1, none⟩ = some (.int .i64 0) := by rw [cell_of_row _ _ 1 _ _ (0, 0) (unhide ER)]; rfl
        have fz0 := frozen_of_row W3 gi 0 _ _ (unhide ER)
        have fz1 := frozen_of_row W3 gi 1 _ _ (unhide ER)
        obtain ⟨W9, hW9⟩ : ∃ u, (W3.setCell ⟨gi, 0, none⟩ (.int .i64 op)).setCell ⟨gi, 1, none⟩ (.int .i64 av) = u := ⟨_, rfl⟩
        have HF9 : Hid (W9.heap[gi]? = some (.cells #[.int .i64 op, .int .i64 av] 75 (0, 0)) ∧ Below w.heap.size w W9 ∧ w.heap.size ≤ gi) := hide (by rw [← hW9]; exact ⟨set2K (unhide ER) _ _, ((unhide HB3).setCell (p := ⟨gi, 0, none⟩) (unhide HA).2.2.1 _).setCell (p := ⟨gi, 1, none⟩) (unhide HA).2.2.1 _, (unhide HA).2.2.1⟩)
        have HB9 : Hid (Below w.heap.size w W9) := hide (unhide HF9).2.1
        have HS9 : Hid (W9.cell? ⟨g, 1, none⟩ = some (.slice (some ad) n2 c2) ∧ W9.cell? ⟨g, 3, none⟩ = some (.int .i64 (fi : Int)) ∧ W9.cell? ⟨(ad.add (fi * 4)).block, (ad.add (fi * 4)).off + 3, none⟩ = some (.string tt)) := hide ⟨cell_up (unhide HB9) (unhide HJ).1, cell_up (unhide HB9) (unhide HJ).2.1, cell_up (unhide HB9) (unhide HJ).2.2⟩
        refine till_one 20 (by kernel_rfl) rfl (fun K hK => ?_)
        go_simp
        try rw [hW9]
        refine hK.out _ _ (Or.inr (unhide HS9)) ?_
        clear hK K c0z c1z fz0 fz1
        try simp only [Act.put, List.setIfInBounds_toArray, List.set_cons_zero, List.set_cons_succ]
        refine till_one 21 (by kernel_rfl) rfl (fun K hK => ?_)
        go_simp
        refine hK.out _ _ (Or.inr (unhide HS9)) ?_
        clear hK K
        try simp only [Act.put, List.setIfInBounds_toArray, List.set_cons_zero, List.set_cons_succ]
        refine till_one 22 (by kernel_rfl) rfl (fun K hK => ?_)
        go_simp
        refine hK.out _ _ (Or.inl (by first | rfl | trivial)) ?_
        clear hK K
        try simp only [Act.put, List.setIfInBounds_toArray, List.set_cons_zero, List.set_cons_succ]
        refine till_done (by kernel_rfl) ?_ _
        go_wp2_with fail
        go_meet
        exact ⟨gi, rfl, rfl, HF9⟩
    · go_simp
      obtain ⟨gi, hgi⟩ : ∃ gi, W0.heap.size = gi := ⟨_, rfl⟩
      obtain ⟨W1, hW1⟩ : ∃ u, W0.alloc (.cells #[.int .i64 0, .int .i64 0] 75) = u := ⟨_, rfl⟩
      have HA : Hid (W1.heap[gi]? = some (.cells #[.int .i64 0, .int .i64 0] 75 (0, 0)) ∧ Below W0.heap.size W0 W1 ∧ w.heap.size ≤ gi ∧ W1.heap.size = gi + 1) := hide (by rw [← hW1, ← hgi]; exact ⟨heap_alloc_new _ _, (Below.refl _ _).alloc (Nat.le_refl _) _, (unhide HB0).size, by simp⟩)
      have HB1 : Hid (Below w.heap.size w W1) := hide ((unhide HB0).trans ((unhide HA).2.1.mono (unhide HB0).size))
      have HS1 : Hid (W1.cell? ⟨g, 1, none⟩ = some (.slice (some ad) n2 c2) ∧ W1.cell? ⟨g, 3, none⟩ = some (.int .i64 (fi : Int)) ∧ W1.cell? ⟨(ad.add (fi * 4)).block, (ad.add (fi * 4)).off + 3, none⟩ = some (.string tt)) := hide ⟨cell_up (unhide HB1) (unhide HJ).1, cell_up (unhide HB1) (unhide HJ).2.1, cell_up (unhide HB1) (unhide HJ).2.2⟩
      try rw [hgi]
      try rw [hW1]
      clear hgi hW1
      refine hK.out _ _ (Or.inr (unhide HS1)) ?_
      clear hK K
      try simp only [Act.put, List.setIfInBounds_toArray, List.set_cons_zero, List.set_cons_succ]
      refine till_one 12 (by kernel_rfl) rfl (fun K hK => ?_)
      have hcv := Lib.run_convert_string_bytes (P := Tryz.prog) W1 9 59 5 tt Tryz.underlying9 Tryz.underlying59 Tryz.underlying5
      go_simp
      clear hcv
      have hfr := freshT_of W1 5 tt hts
      obtain ⟨W2, hW2⟩ : ∃ u, Lib.bytesWorld W1 5 tt = u := ⟨_, rfl⟩
      obtain ⟨cp, hcp⟩ : ∃ c, grownCap W1 tt.size 0 5 = c := ⟨_, rfl⟩
      obtain ⟨qb, hqb⟩ : ∃ c, W1.heap.size = c := ⟨_, rfl⟩
      rw [hW2, hcp] at hfr
      have HV := hide hfr.below
      have HFR : Hid (Row8 W2 (some ⟨qb, 0, none⟩) tt.size cp (zsT tt) ∧ cp ≤ 9223372036854775807) := hide ⟨by rw [← hqb]; exact hfr.row, hfr.cap⟩
      have HB2 : Hid (Below w.heap.size w W2) := hide ((unhide HB1).trans (hfr.below.mono (unhide HB1).size))
      have HS2 : Hid (W2.cell? ⟨g, 1, none⟩ = some (.slice (some ad) n2 c2) ∧ W2.cell? ⟨g, 3, none⟩ = some (.int .i64 (fi : Int)) ∧ W2.cell? ⟨(ad.add (fi * 4)).block, (ad.add (fi * 4)).off + 3, none⟩ = some (.string tt)) := hide ⟨cell_up (unhide HB2) (unhide HJ).1, cell_up (unhide HB2) (unhide HJ).2.1, cell_up (unhide HB2) (unhide HJ).2.2⟩
      try rw [hW2]
      try rw [hcp]
      try rw [hqb]
      clear hfr hW2 hcp hqb
      refine hK.out _ _ (Or.inr (unhide HS2)) ?_
      clear hK K
      try simp only [Act.put, List.setIfInBounds_toArray, List.set_cons_zero, List.set_cons_succ]
      refine till_one 14 (by kernel_rfl) rfl (fun K hK => ?_)
      go_simp
      refine (unhide CT W2 qb cp (unhide HFR).1 (unhide HFR).2).mono ?_
      rintro e W3 ⟨rfl, d2⟩
      have HD := hide d2
      have HB3 : Hid (Below w.heap.size w W3) := hide ((unhide HB2).trans (d2.mono (unhide HB2).size))
      have HS3 : Hid (W3.cell? ⟨g, 1, none⟩ = some (.slice (some ad) n2 c2) ∧ W3.cell? ⟨g, 3, none⟩ = some (.int .i64 (fi : Int)) ∧ W3.cell? ⟨(ad.add (fi * 4)).block, (ad.add (fi * 4)).off + 3, none⟩ = some (.string tt)) := hide ⟨cell_up (unhide HB3) (unhide HJ).1, cell_up (unhide HB3) (unhide HJ).2.1, cell_up (unhide HB3) (unhide HJ).2.2⟩
      clear d2
      go_wp2_with fail
      refine hK.out _ _ (Or.inr (unhide HS3)) ?_
      clear hK K
      try simp only [Act.put, List.setIfInBounds_toArray, List.set_cons_zero, List.set_cons_succ]
      refine till_take 15 (v := .tuple #[.agg #[.int .i64 op, .int .i64 av], .int .i64 (bh : Int), .int .i64 0]) (some 12) rfl rfl rfl (by kernel_rfl) (by kernel_rfl) (by kernel_rfl) (by kernel_rfl) (fun _ _ _ h => h) (Or.inl ⟨by rfl, fun u hu => by obtain ⟨b0, b1, b2⟩ := hu; go_simp⟩) (unhide HS3) ?_
      try simp only [Act.put, List.setIfInBounds_toArray, List.set_cons_zero, List.set_cons_succ]
      refine till_take 16 (v := .agg #[.int .i64 op, .int .i64 av]) (some 28) rfl rfl rfl (by kernel_rfl) (by kernel_rfl) (by kernel_rfl) (by kernel_rfl) (fun _ _ _ h => h) (Or.inl ⟨by rfl, fun u hu => by obtain ⟨b0, b1, b2⟩ := hu; go_simp⟩) (unhide HS3) ?_
      try simp only [Act.put, List.setIfInBounds_toArray, List.set_cons_zero, List.set_cons_succ]
      refine till_take 17 (v := .int .i64 (bh : Int)) (some 29) rfl rfl rfl (by kernel_rfl) (by kernel_rfl) (by kernel_rfl) (by kernel_rfl) (fun _ _ _ h => h) (Or.inl ⟨by rfl, fun u hu => by obtain ⟨b0, b1, b2⟩ := hu; go_simp⟩) (unhide HS3) ?_
      try simp only [Act.put, List.setIfInBounds_toArray, List.set_cons_zero, List.set_cons_succ]
      refine till_take 18 (v := .int .i64 0) (some 30) rfl rfl rfl (by kernel_rfl) (by kernel_rfl) (by kernel_rfl) (by kernel_rfl) (fun _ _ _ h => h) (Or.inl ⟨by rfl, fun u hu => by obtain ⟨b0, b1, b2⟩ := hu; go_simp⟩) (unhide HS3) ?_
      try simp only [Act.put, List.setIfInBounds_toArray, List.set_cons_zero, List.set_cons_succ]
      have ER : Hid (W3.heap[gi]? = some (.cells #[.int .i64 0, .int .i64 0] 75 (0, 0))) := hide (((unhide HD).block gi (by have := (unhide HA).2.2.2; have := (unhide HV).size; omega)).trans (((unhide HV).block gi (by have := (unhide HA).2.2.2; omega)).trans (unhide HA).1))
      have c0z : W3.cell? ⟨gi, 0, none⟩ = some (.int .i64 0) := by rw [cell_of_row _ _ 0 _ _ (0, 0) (unhide ER)]; rfl
      have c1z : W3.cell? ⟨gi, 1, none⟩ = some (.int .i64 0) := by rw [cell_of_row _ _ 1 _ _ (0, 0) (unhide ER)]; rfl
      have fz0 := frozen_of_row W3 gi 0 _ _ (unhide ER)
      have fz1 := frozen_of_row W3 gi 1 _ _ (unhide ER)
      obtain ⟨W9, hW9⟩ : ∃ u, (W3.setCell ⟨gi, 0, none⟩ (.int .i64 op)).setCell ⟨gi, 1, none⟩ (.int .i64 av) = u := ⟨_, rfl⟩
      have HF9 : Hid (W9.heap[gi]? = some (.cells #[.int .i64 op, .int .i64 av] 75 (0, 0)) ∧ Below w.heap.size w W9 ∧ w.heap.size ≤ gi) := hide (by rw [← hW9]; exact ⟨set2K (unhide ER) _ _, ((unhide HB3).setCell (p := ⟨gi, 0, none⟩) (unhide HA).2.2.1 _).setCell (p := ⟨gi, 1, none⟩) (unhide HA).2.2.1 _, (unhide HA).2.2.1⟩)
      have HB9 : Hid (Below w.heap.size w W9) := hide (unhide HF9).2.1
      have HS9 : Hid (W9.cell? ⟨g, 1, none⟩ = some (.slice (some ad) n2 c2) ∧ W9.cell? ⟨g, 3, none⟩ = some (.int .i64 (fi : Int)) ∧ W9.cell? ⟨(ad.add (fi * 4)).block, (ad.add (fi * 4)).off + 3, none⟩ = some (.string tt)) := hide ⟨cell_up (unhide HB9) (unhide HJ).1, cell_up (unhide HB9) (unhide HJ).2.1, cell_up (unhide HB9) (unhide HJ).2.2⟩
      refine till_one 20 (by kernel_rfl) rfl (fun K hK => ?_)
      go_simp
      try rw [hW9]
      refine hK.out _ _ (Or.inr (unhide HS9)) ?_
      clear hK K c0z c1z fz0 fz1
      try simp only [Act.put, List.setIfInBounds_toArray, List.set_cons_zero, List.set_cons_succ]
      refine till_one 21 (by kernel_rfl) rfl (fun K hK => ?_)
      go_simp
      refine hK.out _ _ (Or.inr (unhide HS9)) ?_
      clear hK K
      try simp only [Act.put, List.setIfInBounds_toArray, List.set_cons_zero, List.set_cons_succ]
      refine till_one 22 (by kernel_rfl) rfl (fun K hK => ?_)
      go_simp
      refine hK.out _ _ (Or.inl (by first | rfl | trivial)) ?_
      clear hK K
      try simp only [Act.put, List.setIfInBounds_toArray, List.set_cons_zero, List.set_cons_succ]
      refine till_done (by kernel_rfl) ?_ _
      go_wp2_with fail
      go_meet
      exact ⟨gi, rfl, rfl, HF9⟩
  case rest =>
    obtain ⟨gi, rfl, rfl, HC⟩ := hcut
    clear CT HJ
    have CM := hide (movesK_any ((unhide HK).see.later (unhide HC).2.1) op av (unhide HNM))
    have c0 : wc.cell? ⟨gi, 0, none⟩ = some (.int .i64 op) := by rw [cell_of_row _ _ 0 _ _ (0, 0) (unhide HC).1]; rfl
    have c1 : wc.cell? ⟨gi, 1, none⟩ = some (.int .i64 av) := by rw [cell_of_row _ _ 1 _ _ (0, 0) (unhide HC).1]; rfl
    obtain ⟨TK, hTK⟩ : ∃ t, tkI m (op, av) = t := ⟨_, rfl⟩
    obtain ⟨GV, hGV⟩ : ∃ t, gvsI op = t := ⟨_, rfl⟩
    rw [hTK, hGV] at CM hsm
    have HPA : Hid (pasI m sk (op, av) y = if y < TK then (0, 124) else if sk < y - TK + GV then (0, 125) else (y - TK + GV, 0)) := hide (by
      unfold pasI
      simp only [hTK, hGV])
    clear hTK hGV
    have gil : gi < wc.heap.size := (Array.getElem?_eq_some_iff.1 (unhide HC).1).1
    go_wp2_with fail
    refine (unhide CM).mono ?_
    rintro e w2 ⟨rfl, d2⟩
    have HD : Hid (Below w.heap.size w w2) := hide ((unhide HC).2.1.trans (d2.mono (unhide HC).2.1.size))
    have HBX : Hid (w2.heap[gi]? = some (.cells #[.int .i64 op, .int .i64 av] 75 (0, 0))) := hide ((d2.block gi gil).trans (unhide HC).1)
    have hgg := (unhide HC).2.2
    clear d2 CM c0 c1 HC gil
    have HK2 := hide ((unhide HK).later (unhide HD))
    obtain ⟨k0, k1, k3, k5, k6, k7, k8⟩ := (unhide HK2).see.at
    obtain ⟨ce, fz⟩ := own_cell (unhide HK2).oh (HV_at s L p hpL)
    rw [(unhide HLK), Option.getD_some] at ce
    have f2 := cell_up (unhide HD) (unhide HR).2.2.2
    rw [unhide HAE, (unhide HR).1, (unhide HR).2.1] at k1
    rw [(unhide HR).2.2.1] at k3
    have p0 : (p : Int) < (L : Int) := by omega
    have p1 : (0 : Int) ≤ (p : Int) := by omega
    have c0 : w2.cell? ⟨gi, 0, none⟩ = some (.int .i64 op) := by rw [cell_of_row _ _ 0 _ _ (0, 0) (unhide HBX)]; rfl
    have c1 : w2.cell? ⟨gi, 1, none⟩ = some (.int .i64 av) := by rw [cell_of_row _ _ 1 _ _ (0, 0) (unhide HBX)]; rfl
    clear k0 k5 k7 k8 fz
    by_cases hu : y < TK
    · have HE : Hid (atR b (p : Int) s = (s, 124)) := hide (by
        rw [unhide HAT, unhide HPA, if_pos hu, if_neg (by decide)])
      go_wp2_with fail
      go_ret
      exact ⟨by first | (rw [unhide HE]; rfl) | rw [unhide HE], unhide HDN _ _ (unhide HK2) (unhide HD) (unhide HE) rfl⟩
    · have nu : ¬ y < TK := hu
      obtain ⟨t, ht⟩ : ∃ t, y - TK + GV = t := ⟨_, rfl⟩
      have htb : 0 ≤ t ∧ t ≤ 41 := by omega
      rw [ht] at HPA
      by_cases hov : sk < t
      · have HE : Hid (atR b (p : Int) s = (s, 125)) := hide (by
          rw [unhide HAT, unhide HPA, if_neg hu, if_pos hov, if_neg (by decide)])
        go_upto_region 7 with fail
        try rw [ht]
        go_quiet (fail)
        go_wp2_with fail
        go_ret
        exact ⟨by first | (rw [unhide HE]; rfl) | rw [unhide HE], unhide HDN _ _ ((unhide HK2).later (below_drewN (Below.refl _ _) _)) (below_drewN (unhide HD) _) (unhide HE) rfl⟩
      · have nov : ¬ sk < t := hov
        have HE : Hid (atR b (p : Int) s = rchs (L : Int) t (if op = 9 then [] else if op = 5 then [av] else if op = 6 then [(bh : Int), av] else [(bh : Int)]) s) := hide (by
          rw [unhide HAT, unhide HPA, if_neg hu, if_neg hov, if_pos rfl])
        clear HAT HPA
        have CL : Hid (∀ u (s' : Sv) (q n : Nat), StK u B g x m (pp, lo, sk, tt) ps L qh ch qw cw s' (q : Int) → q ≤ L → n ≤ L → (∀ b' z, s'.1.lookup b' = some z → 0 ≤ z) → Calls Tryz.prog 80 #[.pointer (some ⟨g, 0, none⟩), .int .i64 (n : Int), .int .i64 t] u fun e w' => e = .returned (.int .i64 (rch (L : Int) (n : Int) t s').2) ∧ ∃ q' : Nat, q' ≤ L ∧ StK w' B g x m (pp, lo, sk, tt) ps L qh ch qw cw (rch (L : Int) (n : Int) t s').1 (q' : Int) ∧ Below g u w' ∧ ∀ k, k ≠ g → k ≠ qh → k ≠ qw → w'.heap[k]? = u.heap[k]?) := hide (fun u s' q n hu hq hn h0 => by
          refine (leadsK_any hu hL n t hn h0 ⟨by omega, by omega⟩).mono ?_
          rintro e w' ⟨rfl, lw', h1, h2, h3, h4, h5⟩
          refine ⟨rfl, lw'.toNat, by omega, ?_, h4, h5⟩
          have : ((lw'.toNat : Nat) : Int) = lw' := by omega
          rw [this]
          exact h3)
        obtain ⟨lq, hlq⟩ : ∃ q : Nat, lw = (q : Int) := ⟨lw.toNat, by have := (unhide HX).2.1; omega⟩
        subst hlq
        have hlqL : lq ≤ L := by have := (unhide HX).2.1; omega
        have hbhl := (unhide HX).2.2.2.2
        have gne : gi ≠ g ∧ gi ≠ qh ∧ gi ≠ qw := by
          have h1 := (unhide HX).2.2.1
          have h2 := (unhide HX).2.2.2.1
          have h3 := (Array.getElem?_eq_some_iff.1 (unhide HK).see.box).1
          omega
        by_cases o9 : op = 9
        · subst o9
          have HE2 : Hid (atR b (p : Int) s = (s, 0)) := hide (by rw [unhide HE, if_pos rfl]; rfl)
          go_upto_region 7 with fail
          try rw [ht]
          go_quiet (fail)
          go_wp2_with fail
          go_ret
          exact ⟨by first | (rw [unhide HE2]; rfl) | rw [unhide HE2], unhide HDN _ _ ((unhide HK2).later (below_drewN (Below.refl _ _) _)) (below_drewN (unhide HD) _) (unhide HE2) rfl⟩
        · have q9 : (op == 9) = false := by simpa using o9
          by_cases o5 : op = 5
          · subst o5
            obtain ⟨n, hn, hnL⟩ := unhide HTG (.inl rfl)
            subst hn
            have HE2 : Hid (atR b (p : Int) s = rch (L : Int) (n : Int) t s) := hide (by rw [unhide HE, if_neg (by decide), if_pos rfl, rchs_one])
            go_upto_region 7 with fail
            try rw [ht]
            go_quiet (fail)
            go_wp2_with fail
            refine (unhide CL _ s lq n ((unhide HK2).later (below_drewN (Below.refl _ _) _)) hlqL hnL (unhide HX).1).mono ?_
            rintro e w4 ⟨rfl, q', hq', h4, b4, o4⟩
            have HF : Hid (∃ q : Nat, q ≤ L ∧ StK w4 B g x m (pp, lo, sk, tt) ps L qh ch qw cw (rch (L : Int) (n : Int) t s).1 (q : Int) ∧ Below g w w4 ∧ ∀ k, k < w.heap.size → k ≠ g → k ≠ qh → k ≠ qw → w4.heap[k]? = w.heap[k]?) := hide ⟨q', hq', h4, (below_drewN ((unhide HD).mono (Nat.le_of_lt (Array.getElem?_eq_some_iff.1 (unhide HK).see.box).1)) _).trans b4, fun k hk h1 h2 h3 => (o4 k h1 h2 h3).trans ((below_drewN (unhide HD) _).block k hk)⟩
            clear h4 b4 o4
            go_wp2_with fail
            go_ret
            exact ⟨by first | (rw [unhide HE2]; rfl) | rw [unhide HE2], by rw [unhide HE2]; exact unhide HF⟩
          · have q5 : (op == 5) = false := by simpa using o5
            by_cases o6 : op = 6
            · subst o6
              obtain ⟨n, hn, hnL⟩ := unhide HTG (.inr rfl)
              subst hn
              obtain ⟨r1, hr1⟩ : ∃ r, (rch (L : Int) (bh : Int) t s) = r := ⟨_, rfl⟩
              have HE2 : Hid (atR b (p : Int) s = if r1.2 = 0 then rch (L : Int) (n : Int) t r1.1 else r1) := hide (by rw [unhide HE, if_neg (by decide), if_neg (by decide), if_pos rfl, rchs_two, hr1])
              have hr0 : ∀ b' z, r1.1.1.lookup b' = some z → 0 ≤ z := by rw [← hr1]; exact rch_high (unhide HX).1 htb.1
              have HR1 := hide hr1
              have HR0 := hide hr0
              clear hr1 hr0
              go_upto_region 7 with fail
              try rw [ht]
              go_quiet (fail)
              go_wp2_with fail
              refine (unhide CL _ s lq bh ((unhide HK2).later (below_drewN (Below.refl _ _) _)) hlqL hbhl (unhide HX).1).mono ?_
              rintro e w4 ⟨rfl, q', hq', h4, b4, o4⟩
              rw [unhide HR1] at h4 ⊢
              have HBX4 : Hid (w4.heap[gi]? = some (.cells #[.int .i64 6, .int .i64 (n : Int)] 75 (0, 0))) := hide ((o4 gi gne.1 gne.2.1 gne.2.2).trans (unhide HBX))
              have HF : Hid (StK w4 B g x m (pp, lo, sk, tt) ps L qh ch qw cw r1.1 (q' : Int) ∧ Below g w w4 ∧ ∀ k, k < w.heap.size → k ≠ g → k ≠ qh → k ≠ qw → w4.heap[k]? = w.heap[k]?) := hide ⟨h4, (below_drewN ((unhide HD).mono (Nat.le_of_lt (Array.getElem?_eq_some_iff.1 (unhide HK).see.box).1)) _).trans b4, fun k hk h1 h2 h3 => (o4 k h1 h2 h3).trans ((below_drewN (unhide HD) _).block k hk)⟩
              clear h4 b4 o4 c0 c1 ce f2 k1 k3 k6
              have c0 : w4.cell? ⟨gi, 0, none⟩ = some (.int .i64 6) := by rw [cell_of_row _ _ 0 _ _ (0, 0) (unhide HBX4)]; rfl
              have c1 : w4.cell? ⟨gi, 1, none⟩ = some (.int .i64 (n : Int)) := by rw [cell_of_row _ _ 1 _ _ (0, 0) (unhide HBX4)]; rfl
              obtain ⟨s1, e1⟩ := r1
              simp only [] at HE2 HR0 HF ⊢
              by_cases he : e1 = 0
              · subst he
                have HE3 : Hid (atR b (p : Int) s = rch (L : Int) (n : Int) t s1) := hide (by rw [unhide HE2, if_pos rfl])
                go_wp2_with fail
                refine (unhide CL _ s1 q' n (unhide HF).1 hq' hnL (unhide HR0)).mono ?_
                rintro e w5 ⟨rfl, q5, hq5, h5, b5, o5'⟩
                have HF5 : Hid (∃ q : Nat, q ≤ L ∧ StK w5 B g x m (pp, lo, sk, tt) ps L qh ch qw cw (rch (L : Int) (n : Int) t s1).1 (q : Int) ∧ Below g w w5 ∧ ∀ k, k < w.heap.size → k ≠ g → k ≠ qh → k ≠ qw → w5.heap[k]? = w.heap[k]?) := hide ⟨q5, hq5, h5, (unhide HF).2.1.trans b5, fun k hk h1 h2 h3 => (o5' k h1 h2 h3).trans ((unhide HF).2.2 k hk h1 h2 h3)⟩
                clear h5 b5 o5' c0 c1
                go_wp2_with fail
                go_ret
                exact ⟨by first | (rw [unhide HE3]; rfl) | rw [unhide HE3], by rw [unhide HE3]; exact unhide HF5⟩
              · have qe : (e1 == 0) = false := by simpa using he
                have HE3 : Hid (atR b (p : Int) s = (s1, e1)) := hide (by rw [unhide HE2, if_neg he])
                go_wp2_with fail
                go_ret
                exact ⟨by first | (rw [unhide HE3]; rfl) | rw [unhide HE3], by rw [unhide HE3]; exact ⟨q', hq', unhide HF⟩⟩
            · have q6 : (op == 6) = false := by simpa using o6
              have m5 : (op != 5) = true := by simpa using o5
              have m9 : (op != 9) = true := by simpa using o9
              have HE2 : Hid (atR b (p : Int) s = rch (L : Int) (bh : Int) t s) := hide (by rw [unhide HE, if_neg o9, if_neg o5, if_neg o6, rchs_one])
              obtain ⟨r1, hr1⟩ : ∃ r, (rch (L : Int) (bh : Int) t s) = r := ⟨_, rfl⟩
              have HR1 := hide hr1
              rw [hr1] at HE2
              clear hr1
              go_upto_region 7 with fail
              try rw [ht]
              go_quiet (fail)
              go_wp2_with fail
              refine (unhide CL _ s lq bh ((unhide HK2).later (below_drewN (Below.refl _ _) _)) hlqL hbhl (unhide HX).1).mono ?_
              rintro e w4 ⟨rfl, q', hq', h4, b4, o4⟩
              rw [unhide HR1] at h4 ⊢
              have HBX4 : Hid (w4.heap[gi]? = some (.cells #[.int .i64 op, .int .i64 av] 75 (0, 0))) := hide ((o4 gi gne.1 gne.2.1 gne.2.2).trans (unhide HBX))
              have HF : Hid (StK w4 B g x m (pp, lo, sk, tt) ps L qh ch qw cw r1.1 (q' : Int) ∧ Below g w w4 ∧ ∀ k, k < w.heap.size → k ≠ g → k ≠ qh → k ≠ qw → w4.heap[k]? = w.heap[k]?) := hide ⟨h4, (below_drewN ((unhide HD).mono (Nat.le_of_lt (Array.getElem?_eq_some_iff.1 (unhide HK).see.box).1)) _).trans b4, fun k hk h1 h2 h3 => (o4 k h1 h2 h3).trans ((below_drewN (unhide HD) _).block k hk)⟩
              clear h4 b4 o4 c0 c1 ce f2 k1 k3 k6
              have c0 : w4.cell? ⟨gi, 0, none⟩ = some (.int .i64 op) := by rw [cell_of_row _ _ 0 _ _ (0, 0) (unhide HBX4)]; rfl
              have c1 : w4.cell? ⟨gi, 1, none⟩ = some (.int .i64 av) := by rw [cell_of_row _ _ 1 _ _ (0, 0) (unhide HBX4)]; rfl
              obtain ⟨s1, e1⟩ := r1
              simp only [] at HE2 HF ⊢
              by_cases he : e1 = 0
              · subst he
                go_wp2_with fail
                go_ret
                exact ⟨by first | (rw [unhide HE2]; rfl) | rw [unhide HE2], by rw [unhide HE2]; exact ⟨q', hq', unhide HF⟩⟩
              · have qe : (e1 == 0) = false := by simpa using he
                go_wp2_with fail
                go_ret
                exact ⟨by first | (rw [unhide HE2]; rfl) | rw [unhide HE2], by rw [unhide HE2]; exact ⟨q', hq', unhide HF⟩⟩
end Go.Proofs.YtcknoeepdjhnoaaGreatDoor
