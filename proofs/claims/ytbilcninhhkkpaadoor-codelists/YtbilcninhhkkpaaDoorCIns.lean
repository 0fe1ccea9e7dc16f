/-
  Instructions (layer 8): what is wrong with one, its bytes; the walks of fault and lay; conditions: the package's variables.
-/
import Derived.Test.YtbilcninhhkkpaaDoorCApp
namespace Go.Proofs.YtbilcninhhkkpaaDoor
open Go.RowKit

theorem below_drewN {B : Nat} {a w : World} (h : Below B a w) (q : Nat) : Below B a (w.drewN q) := ⟨h.os, h.tape, h.output, h.size, h.block⟩

def opdOf : DataW Unit → Int × Int
  | .agg [.lit (.int _ a), .lit (.int _ b)] => (a, b)
  | _ => (0, 0)

/-- of each sort of operand, in how many bytes it stands and how great it may be -/
def OPD : List (Int × Int) := match (Rows.laid_scruple_code_operands : DataW Unit) with
  | .agg ps => ps.map opdOf
  | _ => []

theorem OPD_len : OPD.length = 6 := by kernel_rfl
theorem OPD_is : OPD = [(0, 0), (1, 99), (1, 31), (2, 3999), (1, 23), (1, 40)] := by kernel_rfl

/-- both tables in memory -/
structure Tab2 (w : World) : Prop where
  tab : Tab w
  big : 1 < w.heap.size
  cell : ∀ k p, OPD[k]? = some p → w.cell? ⟨1, k * 2, none⟩ = some (.int .i64 p.1) ∧ w.cell? ⟨1, k * 2 + 1, none⟩ = some (.int .i64 p.2)

theorem Tab2.later {B : Nat} {w w' : World} (h : Tab2 w) (hb : Below B w w') (hB : 1 < B) (hs : w.heap.size ≤ w'.heap.size) : Tab2 w' := by
  refine ⟨h.tab.later hb (by omega) hs, Nat.lt_of_lt_of_le h.big hs, fun k x hx => ?_⟩
  have e1 : w'.cell? ⟨1, k * 2, none⟩ = w.cell? ⟨1, k * 2, none⟩ := World.cell?_of_block (hb.block 1 (by omega))
  have e2 : w'.cell? ⟨1, k * 2 + 1, none⟩ = w.cell? ⟨1, k * 2 + 1, none⟩ := World.cell?_of_block (hb.block 1 (by omega))
  rw [e1, e2]
  exact h.cell k x hx

theorem Tab2.below {w w' : World} (h : Tab2 w) (hb : Below w.heap.size w w') : Tab2 w' := h.later hb h.big hb.size

/-- the sort of an operation's operand -/
def srt (op : Int) : Nat := (infoA op).1.2.1.toNat
def siz (k : Nat) : Nat := (OPD.getD k (0, 0)).1.toNat
def mst (k : Nat) : Int := (OPD.getD k (0, 0)).2

theorem ops_sort : ∀ i : Fin 41, 0 ≤ (OPS.getD (i.val + 1) blank).2.1 ∧ (OPS.getD (i.val + 1) blank).2.1 ≤ 5 := by decide +kernel

theorem infoA_in (op : Int) (h : 1 ≤ op ∧ op ≤ 41) : infoA op = (OPS.getD op.toNat blank, true) := by
  unfold infoA
  rw [if_pos h]

theorem srt_is (op : Int) (h : 1 ≤ op ∧ op ≤ 41) : (OPS.getD op.toNat blank).2.1 = (srt op : Int) ∧ srt op ≤ 5 := by
  have := ops_sort ⟨op.toNat - 1, by omega⟩
  simp only [show op.toNat - 1 + 1 = op.toNat by omega] at this
  unfold srt
  rw [infoA_in op h]
  simp only []
  omega

theorem opd_at (k : Nat) (h : k ≤ 5) : OPD[k]? = some ((siz k : Int), mst k) ∧ siz k ≤ 2 ∧ 0 ≤ mst k ∧ mst k ≤ 3999 ∧ (siz k = 0 → mst k = 0) ∧ (siz k = 1 → mst k ≤ 255) := by
  unfold siz mst
  rw [OPD_is]
  match k, h with
  | 0, _ => decide
  | 1, _ => decide
  | 2, _ => decide
  | 3, _ => decide
  | 4, _ => decide
  | 5, _ => decide

/-- what is wrong with an instruction -/
def faultI (op a : Int) : Int := if 1 ≤ op ∧ op ≤ 41 then (if 0 ≤ a ∧ a ≤ mst (srt op) then 0 else 81) else 80

/-- the bytes of an operand -/
def tailB (a : Int) : Nat → List Int
  | 1 => [a % 256]
  | 2 => [a / 256, a % 256]
  | _ => []

/-- the bytes of an instruction -/
def insB (op a : Int) : List Int := op :: tailB a (siz (srt op))

theorem tailB_len (a : Int) (k : Nat) (h : k ≤ 2) : (tailB a k).length = k := by
  match k, h with
  | 0, _ => rfl
  | 1, _ => rfl
  | 2, _ => rfl

theorem fault_ok {op a : Int} (h : faultI op a = 0) : (1 ≤ op ∧ op ≤ 41) ∧ 0 ≤ a ∧ a ≤ mst (srt op) := by
  unfold faultI at h
  split at h
  · rename_i h1
    split at h
    · rename_i h2; exact ⟨h1, h2⟩
    · omega
  · omega

theorem insB_len (op a : Int) (h : faultI op a = 0) : (insB op a).length = 1 + siz (srt op) := by
  have h1 := fault_ok h
  have h2 := (opd_at (srt op) (srt_is op h1.1).2).2.1
  simp [insB, tailB_len a _ h2]
  omega

theorem insB_small (op a : Int) (h : faultI op a = 0) : ∀ c ∈ insB op a, 0 ≤ c ∧ c ≤ 255 := by
  have h1 := fault_ok h
  have h2 := opd_at (srt op) (srt_is op h1.1).2
  intro c hc
  unfold insB at hc
  rcases List.mem_cons.1 hc with rfl | hc
  · omega
  · generalize siz (srt op) = k at *
    match k, h2.2.1 with
    | 0, _ => cases hc
    | 1, _ => simp [tailB] at hc; omega
    | 2, _ => simp [tailB] at hc; omega

set_option maxRecDepth 100000 in
set_option maxHeartbeats 800000 in
theorem fault_any (op a : Int) (w : World) (h : Tab2 w) :
    Calls Tryd.prog 26 #[.agg #[.int .i64 op, .int .i64 a]] w fun e w' => e = .returned (.int .i64 (faultI op a)) ∧ Below w.heap.size w w' := by
  obtain ⟨w1, hw1⟩ : ∃ w1, w.alloc (.cells #[.int .i64 op, .int .i64 a] 42) = w1 := ⟨_, rfl⟩
  have B1 : Below w.heap.size w w1 := by rw [← hw1]; exact (Below.refl _ _).alloc (Nat.le_refl _) _
  have A1 : w1.heap[w.heap.size]? = some (.cells #[.int .i64 op, .int .i64 a] 42 (0, 0)) := by rw [← hw1]; exact heap_alloc_new _ _
  have Z1 : w1.heap.size = w.heap.size + 1 := by rw [← hw1]; simp
  have C1 := hide (info_any op w1 (h.below B1).tab)
  have c0 : w1.cell? ⟨w.heap.size, 0, none⟩ = some (.int .i64 op) := by rw [cell_of_row w1 _ 0 _ _ (0, 0) A1]; rfl
  have hbig := h.big
  have HT := hide h
  have H1 := hide (And.intro B1 (And.intro A1 Z1))
  obtain ⟨F, hF⟩ : ∃ F, faultI op a = F := ⟨_, rfl⟩
  rw [hF]
  clear h B1 A1 Z1
  by_cases hin : 1 ≤ op ∧ op ≤ 41
  · have e1 := infoA_in op hin
    have e2 := srt_is op hin
    have e3 := opd_at (srt op) e2.2
    rw [e1] at C1
    generalize OPS.getD op.toNat blank = x at *
    obtain ⟨xn, xa, xb, xc, xd, xf⟩ := x
    simp only [infV] at C1 e2
    obtain ⟨k, hk⟩ : ∃ k, srt op = k := ⟨_, rfl⟩
    rw [hk] at e2 e3
    obtain ⟨rfl, k5⟩ := e2
    obtain ⟨m, hm⟩ : ∃ m, mst k = m := ⟨_, rfl⟩
    rw [hm] at e3
    have HF : Hid ((0 ≤ a ∧ a ≤ m → F = 0) ∧ (¬ (0 ≤ a ∧ a ≤ m) → F = 81)) := hide (by
      rw [← hF]
      unfold faultI
      rw [if_pos hin, hk, hm]
      exact ⟨fun h => if_pos h, fun h => if_neg h⟩)
    have HO := hide e3.1
    clear e1 e3 hF hk hm hin
    go_enter Tryd.func26, Tryd.ntmps26
    go_wp2_with fail
    refine (unhide C1).mono ?_
    rintro e w2 ⟨rfl, B2⟩
    have H2 := hide B2
    clear B2 C1
    go_upto_region 4 with fail
    obtain ⟨w3, hw3⟩ : ∃ w3, w3 = w2.alloc (.cells #[.string xn, .int .i64 (k : Int), .int .i64 xb, .int .i64 xc, .int .i64 xd, .int .i64 xf] 25) := ⟨_, rfl⟩
    rw [← hw3]
    have A3 : w3.heap[w2.heap.size]? = some (.cells #[.string xn, .int .i64 (k : Int), .int .i64 xb, .int .i64 xc, .int .i64 xd, .int .i64 xf] 25 (0, 0)) := by rw [hw3]; exact heap_alloc_new w2 _
    have B3 : Below w1.heap.size w1 w3 := by rw [hw3]; exact (unhide H2).alloc (unhide H2).size _
    have X3 : Hid (Below w.heap.size w w3) := hide ((unhide H1).1.trans (B3.mono (unhide H1).1.size))
    have d1 : w3.cell? ⟨w2.heap.size, 1, none⟩ = some (.int .i64 (k : Int)) := by rw [cell_of_row w3 _ 1 _ _ (0, 0) A3]; rfl
    have A3' := (B3.block w.heap.size (by have := (unhide H1).2.2; omega)).trans (unhide H1).2.1
    have c1 : w3.cell? ⟨w.heap.size, 1, none⟩ = some (.int .i64 a) := by rw [cell_of_row w3 _ 1 _ _ (0, 0) A3']; rfl
    have t1 : w3.cell? ⟨1, k * 2 + 1, none⟩ = some (.int .i64 m) := (((unhide HT).below (unhide X3)).cell k _ (unhide HO)).2
    have k6 : (k : Int) < 6 := by omega
    clear hw3 A3 A3' B3 c0 hw1
    by_cases h0 : a < 0
    · have HE : Hid (F = 81) := hide ((unhide HF).2 (by omega))
      clear HF
      go_quiet (fail)
      go_wp2_with fail
      go_ret
      exact ⟨by rw [unhide HE]; rfl, below_drewN (unhide X3) _⟩
    · by_cases h1 : m < a
      · have HE : Hid (F = 81) := hide ((unhide HF).2 (by omega))
        clear HF
        go_quiet (fail)
        go_wp2_with fail
        go_ret
        exact ⟨by rw [unhide HE]; rfl, below_drewN (unhide X3) _⟩
      · have HE : Hid (F = 0) := hide ((unhide HF).1 (by omega))
        clear HF
        go_quiet (fail)
        go_wp2_with fail
        go_ret
        exact ⟨by rw [unhide HE]; rfl, below_drewN (unhide X3) _⟩
  · have e1 : infoA op = (blank, false) := by unfold infoA; rw [if_neg hin]
    rw [e1] at C1
    simp only [infV, blank] at C1
    have HE : Hid (F = 80) := hide (by rw [← hF]; unfold faultI; rw [if_neg hin])
    clear e1 hF hin
    go_enter Tryd.func26, Tryd.ntmps26
    go_wp2_with fail
    refine (unhide C1).mono ?_
    rintro e w2 ⟨rfl, B2⟩
    have H2 := hide B2
    clear B2 C1
    go_wp2_with fail
    go_ret
    refine ⟨by rw [unhide HE]; rfl, (unhide H1).1.trans (((unhide H2).mono (unhide H1).1.size).alloc ?_ _)⟩
    exact Nat.le_trans (unhide H1).1.size (unhide H2).size

theorem tab2_grew {w w' : World} {v v' : Value} {base n : Nat} {xs : List Value} (h : Tab2 w) (hg : Grew w w' v v') (ho : w.ownsRow base 5 1 v n xs) (hb : base ≤ w.heap.size) (h1 : 1 < base) : Tab2 w' :=
  h.later (hg.below ho hb) h1 hg.grown.size

set_option maxRecDepth 100000 in
set_option maxHeartbeats 1000000 in
theorem lay_nat (base N : Nat) (sv : Value) (xs : List Int) (k0 : Nat) (a : Int) (w : World) (h : Tab2 w) (hf : faultI (k0 : Int) a = 0) (hown : w.ownsRow base 5 1 sv N (xs.map (Value.int .u8))) (hbase : base ≤ w.heap.size) (hb1 : 1 < base) (hlim : N + 3 ≤ 140737489403904) :
    Calls Tryd.prog 27 #[sv, .agg #[.int .i64 (k0 : Int), .int .i64 a]] w fun e w' => ∃ sv', e = .returned sv' ∧ w'.ownsRow base 5 1 sv' (N + (insB (k0 : Int) a).length) ((xs ++ insB (k0 : Int) a).map (Value.int .u8)) ∧ Grew w w' sv sv' := by
  have hfo := fault_ok hf
  have hlen := insB_len _ a hf
  have hss := srt_is _ hfo.1
  have hoo := opd_at _ hss.2
  have hops := getD_ops k0 (by omega)
  simp only [Int.toNat_natCast] at hss
  have hib : insB (k0 : Int) a = (k0 : Int) :: tailB a (siz (srt (k0 : Int))) := rfl
  generalize srt (k0 : Int) = sk at *
  obtain ⟨S, hS⟩ : ∃ S, siz sk = S := ⟨_, rfl⟩
  rw [hS] at hib hoo hlen
  obtain ⟨I, hI⟩ : ∃ I, insB (k0 : Int) a = I := ⟨_, rfl⟩
  rw [hI] at hib hlen
  rw [hI]
  have HIB := hide hib
  obtain ⟨w1, hw1⟩ : ∃ w1, w.alloc (.cells #[.int .i64 (k0 : Int), .int .i64 a] 42) = w1 := ⟨_, rfl⟩
  have B1 : Below w.heap.size w w1 := by rw [← hw1]; exact (Below.refl _ _).alloc (Nat.le_refl _) _
  have A1 : w1.heap[w.heap.size]? = some (.cells #[.int .i64 (k0 : Int), .int .i64 a] 42 (0, 0)) := by rw [← hw1]; exact heap_alloc_new _ _
  have Z1 : w1.heap.size = w.heap.size + 1 := by rw [← hw1]; simp
  have own1 : w1.ownsRow base 5 1 sv N (xs.map (Value.int .u8)) := by rw [← hw1]; exact hown.alloc _
  obtain ⟨g, hg⟩ : ∃ g, w.heap.size = g := ⟨_, rfl⟩
  have z1g : w1.heap.size = g + 1 := by omega
  have hgn : some g ≠ sv.ownBlock := fun e => by have := (hown.lt g e.symm).2; omega
  rw [hg] at A1
  have c0 : w1.cell? ⟨g, 0, none⟩ = some (.int .i64 (k0 : Int)) := by rw [cell_of_row w1 _ 0 _ _ (0, 0) A1]; rfl
  have hwr : IntKind.u8.wrap (k0 : Int) = (k0 : Int) := by rw [IntKind.wrap_u8]; omega
  obtain ⟨⟨xn, xa, xb, xc, xd, xf⟩, hx⟩ : ∃ x, OPS.getD k0 blank = x := ⟨_, rfl⟩
  rw [hx] at hops hss
  simp only [] at hss
  have HT : Hid (Tab2 w1) := hide (h.below B1)
  obtain ⟨wb, hwb⟩ : ∃ wb, w1.alloc (.cells #[.int .u8 (k0 : Int)] 5) = wb := ⟨_, rfl⟩
  have Bb : Below w1.heap.size w1 wb := by rw [← hwb]; exact (Below.refl _ _).alloc (Nat.le_refl _) _
  have Ab : wb.heap[g + 1]? = some (.cells #[.int .u8 (k0 : Int)] 5 (0, 0)) := by rw [← hwb, ← z1g]; exact heap_alloc_new _ _
  have Zb : wb.heap.size = g + 1 + 1 := by rw [← hwb, ← z1g]; simp
  have HH := hide (And.intro B1 (And.intro A1 (And.intro hgn (And.intro Bb (And.intro Ab (own_below own1 Bb))))))
  have hxa := hss.1
  subst hxa
  have HO := hide (And.intro hops hoo.1)
  have hS2 := hoo.2.1
  have HA := hide (And.intro hfo hoo)
  have hop0 : (0 : Int) ≤ (k0 : Int) ∧ (k0 : Int) ≤ 41 := by omega
  have hop1 : (k0 : Int) < 42 := by omega
  have sk5 : (sk : Int) < 6 := by omega
  have hbb : base ≤ wb.heap.size := by omega
  clear h hown B1 A1 own1 Z1 hops hss hfo hgn hf hx hS hib hoo Bb Ab
  have tok1 : True := trivial
  go_enter Tryd.func27, Tryd.ntmps27
  go_wp2_with (first | (at_builtin; have _t := tok1; refine wpl_app rfl (.tmp 6) (.tmp 10) rfl base N sv xs rfl (unhide HH).2.2.2.2.2 (some ⟨g + 1, 0, none⟩) 1 1 [(k0 : Int)] rfl (row_one (unhide HH).2.2.2.2.1 hop0.1 (by omega)) (by omega) hbb ?_; clear tok1; intro v2 w2 H2; have tb : Tab2 wb := (unhide HT).below (unhide HH).2.2.2.1; have t2 : Tab2 w2 := tab2_grew tb (unhide H2).2 (unhide HH).2.2.2.2.2 hbb hb1; have zw2 : wb.heap.size ≤ w2.heap.size := (unhide H2).2.grown.size; have r2 : w2.heap[g]? = some (.cells #[.int .i64 (k0 : Int), .int .i64 a] 42 (0, 0)) := ((unhide H2).2.far (b := g) (by omega) (unhide HH).2.2.1).trans (((unhide HH).2.2.2.1.block g (by omega)).trans (unhide HH).2.1); have d0 : w2.cell? ⟨g, 0, none⟩ = some (.int .i64 (k0 : Int)) := (by rw [cell_of_row w2 _ 0 _ _ (0, 0) r2]; rfl); have t0 : w2.cell? ⟨0, k0 * 6 + 1, none⟩ = some (.int .i64 (sk : Int)) := t2.tab.cell k0 _ (unhide HO).1 1 _ rfl; have t1 : w2.cell? ⟨1, sk * 2, none⟩ = some (.int .i64 (S : Int)) := (t2.cell sk _ (unhide HO).2).1; have R2 := hide r2; clear tb t2 r2 c0))
  clear t0 t1 d0 hwb hw1
  have HB : Hid (Below w.heap.size w wb) := hide ((unhide HH).1.trans ((unhide HH).2.2.2.1.mono (unhide HH).1.size))
  have HBX : Hid (wb.heap[g]? = some (.cells #[.int .i64 (k0 : Int), .int .i64 a] 42 (0, 0))) := hide (((unhide HH).2.2.2.1.block g (by omega)).trans (unhide HH).2.1)
  have HL : Hid (N + 1 + S = N + I.length ∧ xs ++ [(k0 : Int)] ++ tailB a S = xs ++ I) := hide ⟨by omega, by rw [unhide HIB]; simp⟩
  have HM : Hid (0 ≤ a ∧ a ≤ 3999 ∧ (S = 1 → a ≤ 255)) := hide ⟨(unhide HA).1.2.1, by have := (unhide HA).1.2.2; have := (unhide HA).2.2.2.2.1; omega, fun e => by have := (unhide HA).1.2.2; have := (unhide HA).2.2.2.2.2.2 e; omega⟩
  go_loopw [0, 5] (fun v x wr => ∃ (l n : Nat) (zs : List Int), x = .int .i64 (l : Int) ∧ Hid (l ≤ 2 ∧ n + l = N + I.length) ∧ Hid (wr.ownsRow base 5 1 v n (zs.map (Value.int .u8)) ∧ Grew wb wr sv v ∧ zs ++ tailB a l = xs ++ I)) (fun _ x _ => (intOf x).toNat)
  case atStart => exact ⟨S, N + 1, xs ++ [(k0 : Int)], rfl, hide ⟨hS2, (unhide HL).1⟩, hide ⟨(unhide H2).1, (unhide H2).2, (unhide HL).2⟩⟩
  case round =>
    clear H2 zw2 R2
    obtain ⟨l, n, zs, rfl, HX, HY⟩ := hrel
    obtain ⟨wq, hwq⟩ : ∃ wq, wq = wr := ⟨_, rfl⟩
    subst hwq
    have zq : wb.heap.size ≤ wq.heap.size := (unhide HY).2.1.grown.size
    have rq : wq.heap[g]? = some (.cells #[.int .i64 (k0 : Int), .int .i64 a] 42 (0, 0)) := ((unhide HY).2.1.far (b := g) (by omega) (unhide HH).2.2.1).trans (unhide HBX)
    have d1 : wq.cell? ⟨g, 1, none⟩ = some (.int .i64 a) := by rw [cell_of_row wq _ 1 _ _ (0, 0) rq]; rfl
    clear rq
    have hbq : base ≤ wq.heap.size := by omega
    match l, HX, HY with
    | 0, HX, HY =>
      go_wp2_with fail
      go_ret
      refine ⟨_, rfl, ?_, Grew.behind (by rw [← hg] at *; exact unhide HB) (unhide HY).2.1⟩
      have h1 := (unhide HY).1
      have h2 := (unhide HY).2.2
      simp only [tailB, List.append_nil] at h2
      have h3 := (unhide HX).2
      rw [Nat.add_zero] at h3
      rw [h2, h3] at h1
      exact h1
    | 1, HX, HY =>
      obtain ⟨c, hc⟩ : ∃ c, a % 256 = c := ⟨_, rfl⟩
      have hw8 : IntKind.u8.wrap a = c := by rw [IntKind.wrap_u8]; omega
      have hc0 : 0 ≤ c ∧ c ≤ 255 := by omega
      obtain ⟨wc, hwc⟩ : ∃ wc, wq.alloc (.cells #[.int .u8 c] 5) = wc := ⟨_, rfl⟩
      have Bc : Hid (Below wq.heap.size wq wc ∧ wc.heap[wq.heap.size]? = some (.cells #[.int .u8 c] 5 (0, 0))) := hide (by rw [← hwc]; exact ⟨(Below.refl _ _).alloc (Nat.le_refl _) _, heap_alloc_new _ _⟩)
      have Zc : wc.heap.size = wq.heap.size + 1 := by rw [← hwc]; simp
      have hn1 : n + 1 ≤ 140737489403904 := by have := (unhide HX).2; omega
      have HC := hide hc
      clear hc
      have tok2 : True := trivial
      go_wp2_with (first | (at_builtin; have _t := tok2; refine wpl_app rfl (.tmp 24) (.tmp 32) rfl base n u0 zs rfl (own_below (unhide HY).1 (unhide Bc).1) (some ⟨wq.heap.size, 0, none⟩) 1 1 [c] rfl (row_one (unhide Bc).2 hc0.1 hc0.2) hn1 (by omega) ?_; clear tok2; intro v3 w3 H3))
      go_roundw
      case rel => exact ⟨0, n + 1, zs ++ [c], by go_num, hide ⟨by omega, by have := (unhide HX).2; omega⟩, hide ⟨(unhide H3).1, (unhide HY).2.1.trans (Grew.behind (unhide Bc).1 (unhide H3).2), by have := (unhide HY).2.2; rw [← this]; simp [tailB, ← unhide HC]⟩⟩
      case measure => simp [intOf]
    | 2, HX, HY =>
      obtain ⟨c, hc⟩ : ∃ c, a / 256 = c := ⟨_, rfl⟩
      have hw8 : IntKind.u8.wrap c = c := by have := (unhide HM); rw [IntKind.wrap_u8]; omega
      have hc0 : 0 ≤ c ∧ c ≤ 255 := by have := (unhide HM); omega
      obtain ⟨wc, hwc⟩ : ∃ wc, wq.alloc (.cells #[.int .u8 c] 5) = wc := ⟨_, rfl⟩
      have Bc : Hid (Below wq.heap.size wq wc ∧ wc.heap[wq.heap.size]? = some (.cells #[.int .u8 c] 5 (0, 0))) := hide (by rw [← hwc]; exact ⟨(Below.refl _ _).alloc (Nat.le_refl _) _, heap_alloc_new _ _⟩)
      have Zc : wc.heap.size = wq.heap.size + 1 := by rw [← hwc]; simp
      have hn1 : n + 1 ≤ 140737489403904 := by have := (unhide HX).2; omega
      have HC := hide hc
      have tok2 : True := trivial
      go_wp2_with (first | (at_builtin; have _t := tok2; refine wpl_app rfl (.tmp 24) (.tmp 32) rfl base n u0 zs rfl (own_below (unhide HY).1 (unhide Bc).1) (some ⟨wq.heap.size, 0, none⟩) 1 1 [c] rfl (row_one (unhide Bc).2 hc0.1 hc0.2) hn1 (by omega) ?_; clear tok2; intro v3 w3 H3))
      go_roundw
      case rel => exact ⟨1, n + 1, zs ++ [c], by go_num, hide ⟨by omega, by have := (unhide HX).2; omega⟩, hide ⟨(unhide H3).1, (unhide HY).2.1.trans (Grew.behind (unhide Bc).1 (unhide H3).2), by have := (unhide HY).2.2; rw [← this]; simp [tailB, ← unhide HC]⟩⟩
      case measure => simp [intOf]
    | l + 3, HX, _ => exact absurd (unhide HX).1 (by omega)

theorem lay_any (base N : Nat) (sv : Value) (xs : List Int) (op a : Int) (w : World) (h : Tab2 w) (hf : faultI op a = 0) (hown : w.ownsRow base 5 1 sv N (xs.map (Value.int .u8))) (hbase : base ≤ w.heap.size) (hb1 : 1 < base) (hlim : N + 3 ≤ 140737489403904) :
    Calls Tryd.prog 27 #[sv, .agg #[.int .i64 op, .int .i64 a]] w fun e w' => ∃ sv', e = .returned sv' ∧ w'.ownsRow base 5 1 sv' (N + (insB op a).length) ((xs ++ insB op a).map (Value.int .u8)) ∧ Grew w w' sv sv' := by
  obtain ⟨k0, rfl⟩ : ∃ k0 : Nat, op = (k0 : Int) := ⟨op.toNat, by have := (fault_ok hf).1; omega⟩
  exact lay_nat base N sv xs k0 a w h hf hown hbase hb1 hlim
end Go.Proofs.YtbilcninhhkkpaaDoor
