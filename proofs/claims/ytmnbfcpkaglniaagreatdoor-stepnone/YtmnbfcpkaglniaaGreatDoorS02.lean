/-
  The walks of PutUint, PutInt behind no bytes, and small facts on texts made of bytes; no conditions.
  Instructions (layer 8): what is wrong with one, its bytes; the walks of fault and lay; conditions: the package's variables.
  The walk of code.Put: an instruction behind bytes, in new memory; conditions: the package's variables, the bytes at most 2^47.
  Laws for arrays in memory, whole: a load, a store, of whatever cells; rows of bytes; no conditions.
  Laws for variables that hold whole arrays or structs: made, written, with the worlds behind them as letters; no conditions.
-/
import Derived.Test.YtmnbfcpkaglniaaGreatDoorS01
import Derived.Laws.BytesArg
import Derived.Deep.QuietTactic
import Derived.BigQuiet
import Derived.WalkSmall
import Derived.Test.YtmnbfcpkaglniaaGreatDoorS00
import Derived.Test.YtmnbfcpkaglniaaGreatDoorRows
import Derived.WalkKit
import Derived.WalkSpells
import Derived.OpenShut
import Derived.Deep.WholeRow
import Derived.Deep.MidRow
import Derived.Laws.Tables
import Derived.Laws.ResultCell
import Derived.Laws.CopyOwn
set_option linter.unusedVariables false
set_option linter.unusedSimpArgs false
namespace Go.Proofs.YtmnbfcpkaglniaaGreatDoor
open Go.RowKit
theorem nilRow (w : World) : Row8 w none 0 0 [] := ⟨rfl, fun _ => ⟨rfl, rfl⟩, (fun ad h => by cases h), (fun n h => by cases h), Nat.le_refl _⟩
theorem putUint_nil (n : Int) (w : World) (h0 : 0 ≤ n) (h1 : n ≤ 18446744073709551615) :
    Calls Tryz.prog 118 #[.slice none 0 0, .int .u64 n] w fun e w' => e = .returned (.slice (some ⟨w.heap.size, 0, none⟩) (encF 9 n).length 10) ∧
      Row8 w' (some ⟨w.heap.size, 0, none⟩) (encF 9 n).length 10 (encF 9 n) ∧ Below w.heap.size w w' := by
  refine (putUint_any none 0 0 n [] w (nilRow w) (by decide) h0 h1).mono ?_
  rintro e w' ⟨rfl, hown, hb⟩
  simp only [Nat.zero_add, List.nil_append] at *
  exact ⟨trivial, Row8.own hown (encF9_bytes n h0 h1), hb⟩
theorem putInt_nil (n : Int) (w : World) (h0 : -9223372036854775808 ≤ n) (h1 : n ≤ 9223372036854775807) :
    Calls Tryz.prog 246 #[.slice none 0 0, .int .i64 n] w fun e w' => e = .returned (.slice (some ⟨w.heap.size, 0, none⟩) (encF 9 (foldI n)).length 10) ∧
      Row8 w' (some ⟨w.heap.size, 0, none⟩) (encF 9 (foldI n)).length 10 (encF 9 (foldI n)) ∧ Below w.heap.size w w' := by
  have f0 : 0 ≤ foldI n := by unfold foldI; split <;> omega
  have f1 : foldI n ≤ 18446744073709551615 := by unfold foldI; split <;> omega
  refine (putInt_any none 0 0 n [] w (nilRow w) (by decide) h0 h1).mono ?_
  rintro e w' ⟨rfl, hown, hb⟩
  simp only [Nat.zero_add, List.nil_append] at *
  exact ⟨trivial, Row8.own hown (encF9_bytes _ f0 f1), hb⟩
/-- string(b[i:j]) -/
theorem conv_row {w : World} {b off : Nat} {len : Nat} {zs : List Int} (hz : zs.length = len) (hc : ∀ j, j < len → w.cell? ⟨b, off + j, none⟩ = some (.int .u8 (zs.getD j 0))) (i n cap : Nat) (hi : i + n ≤ len) :
    ∀ q, Sem.run Tryz.prog (convert 90 9 (.slice (some ⟨b, off + i, none⟩) n cap)) (w.drewN q) = .ok (.string (strOfNums ((zs.drop i).take n))) (w.drewN q) := by
  intro q
  refine run_convert_bytes_arg (P := Tryz.prog) (w.drewN q) 90 5 Tryz.underlying90 Tryz.underlying5 b (off + i) n cap _ (by simp; omega) ?_ 9 Tryz.underlying9
  intro j hj
  have h := hc (i + j) (by omega)
  rw [← Nat.add_assoc] at h
  have e : ((zs.drop i).take n).getD j 0 = zs.getD (i + j) 0 := by simp [List.getD, List.getElem?_drop, hj]
  rw [e]
  simpa using h
theorem str_inj (xs ys : List Int) (hx : ∀ n ∈ xs, 0 ≤ n ∧ n ≤ 255) (hy : ∀ n ∈ ys, 0 ≤ n ∧ n ≤ 255) (h : strOfNums xs = strOfNums ys) : xs = ys := by
  have e := congrArg (fun s : ByteArray => s.data.toList.map fun c => (c.toNat : Int)) h
  simp only [strOfNums_data, List.map_map] at e
  have key : ∀ zs : List Int, (∀ n ∈ zs, 0 ≤ n ∧ n ≤ 255) → zs.map ((fun c : UInt8 => (c.toNat : Int)) ∘ fun n => UInt8.ofNat n.toNat) = zs := by
    intro zs hz
    conv => rhs; rw [← List.map_id zs]
    apply List.map_congr_left
    intro n hn
    have := hz n hn
    simp
    omega
  rw [key xs hx, key ys hy] at e
  exact e
/-- Go's == of two texts -/
theorem str_beq (a b : ByteArray) : (a.toList == b.toList) = true ↔ a = b := by
  rw [beq_iff_eq, ByteArray.toList_eq, ByteArray.toList_eq]
  exact ⟨Go.WideShapes.bytes_inj, fun h => by rw [h]⟩
theorem encF_prefix (f : Nat) (n m : Int) (h : (encF f m).take (encF f n).length = encF f n) : n = m := by
  induction f generalizing n m with
  | zero => simp [encF] at h; omega
  | succ f ih =>
    simp only [encF] at h
    by_cases hn : n < 128
    · by_cases hm : m < 128
      · simp [hn, hm] at h; omega
      · simp [hn, hm] at h; omega
    · by_cases hm : m < 128
      · simp [hn, hm] at h; omega
      · simp only [hn, hm, if_false, List.length_cons, List.take_succ_cons, List.cons.injEq] at h
        have := ih (n / 128) (m / 128) h.2
        omega
theorem below_drewN {B : Nat} {a w : World} (h : Below B a w) (q : Nat) : Below B a (w.drewN q) := ⟨h.os, h.tape, h.output, h.size, h.block⟩
def opdOf : DataW Unit → Int × Int
  | .agg [.lit (.int _ a), .lit (.int _ b)] => (a, b)
  | _ => (0, 0)
/-- of each sort of operand, in how many bytes it stands and how great it may be -/
def OPD : List (Int × Int) := match (Rows.laid_scruple_code_operands : DataW Unit) with
  | .agg ps => ps.map opdOf
  | _ => []
theorem OPD_len : OPD.length = 6 := by kernel_rfl
theorem OPD_is : OPD = [(0, 0), (1, 99), (1, 31), (2, 3999), (1, 23), (1, 40)] := by kernel_rfl
/-- both tables in memory -/
structure Tab2 (w : World) : Prop where
  tab : Tab w
  big : 1 < w.heap.size
  cell : ∀ k p, OPD[k]? = some p → w.cell? ⟨0, k * 2, none⟩ = some (.int .i64 p.1) ∧ w.cell? ⟨0, k * 2 + 1, none⟩ = some (.int .i64 p.2)
theorem Tab2.later {B : Nat} {w w' : World} (h : Tab2 w) (hb : Below B w w') (hB : 1 < B) (hs : w.heap.size ≤ w'.heap.size) : Tab2 w' := by
  refine ⟨h.tab.later hb (by omega) hs, Nat.lt_of_lt_of_le h.big hs, fun k x hx => ?_⟩
  have e1 : w'.cell? ⟨0, k * 2, none⟩ = w.cell? ⟨0, k * 2, none⟩ := World.cell?_of_block (hb.block 0 (by omega))
  have e2 : w'.cell? ⟨0, k * 2 + 1, none⟩ = w.cell? ⟨0, k * 2 + 1, none⟩ := World.cell?_of_block (hb.block 0 (by omega))
  rw [e1, e2]
  exact h.cell k x hx
theorem Tab2.below {w w' : World} (h : Tab2 w) (hb : Below w.heap.size w w') : Tab2 w' := h.later hb h.big hb.size
/-- the sort of an operation's operand -/
def srt (op : Int) : Nat := (infoA op).1.2.1.toNat
def siz (k : Nat) : Nat := (OPD.getD k (0, 0)).1.toNat
def mst (k : Nat) : Int := (OPD.getD k (0, 0)).2
theorem ops_sort : ∀ i : Fin 41, 0 ≤ (OPS.getD (i.val + 1) blank).2.1 ∧ (OPS.getD (i.val + 1) blank).2.1 ≤ 5 := by decide +kernel
theorem infoA_in (op : Int) (h : 1 ≤ op ∧ op ≤ 41) : infoA op = (OPS.getD op.toNat blank, true) := by
  unfold infoA
  rw [if_pos h]
theorem srt_is (op : Int) (h : 1 ≤ op ∧ op ≤ 41) : (OPS.getD op.toNat blank).2.1 = (srt op : Int) ∧ srt op ≤ 5 := by
  have := ops_sort ⟨op.toNat - 1, by omega⟩
  simp only [show op.toNat - 1 + 1 = op.toNat by omega] at this
  unfold srt
  rw [infoA_in op h]
  simp only []
  omega
theorem opd_at (k : Nat) (h : k ≤ 5) : OPD[k]? = some ((siz k : Int), mst k) ∧ siz k ≤ 2 ∧ 0 ≤ mst k ∧ mst k ≤ 3999 ∧ (siz k = 0 → mst k = 0) ∧ (siz k = 1 → mst k ≤ 255) := by
  unfold siz mst
  rw [OPD_is]
  match k, h with
  | 0, _ => decide
  | 1, _ => decide
  | 2, _ => decide
  | 3, _ => decide
  | 4, _ => decide
  | 5, _ => decide
/-- what is wrong with an instruction -/
def faultI (op a : Int) : Int := if 1 ≤ op ∧ op ≤ 41 then (if 0 ≤ a ∧ a ≤ mst (srt op) then 0 else 81) else 80
/-- the bytes of an operand -/
def tailB (a : Int) : Nat → List Int
  | 1 => [a % 256]
  | 2 => [a / 256, a % 256]
  | _ => []
/-- the bytes of an instruction -/
def insB (op a : Int) : List Int := op :: tailB a (siz (srt op))
theorem tailB_len (a : Int) (k : Nat) (h : k ≤ 2) : (tailB a k).length = k := by
  match k, h with
  | 0, _ => rfl
  | 1, _ => rfl
  | 2, _ => rfl
theorem fault_ok {op a : Int} (h : faultI op a = 0) : (1 ≤ op ∧ op ≤ 41) ∧ 0 ≤ a ∧ a ≤ mst (srt op) := by
  unfold faultI at h
  split at h
  · rename_i h1
    split at h
    · rename_i h2; exact ⟨h1, h2⟩
    · omega
  · omega
theorem insB_len (op a : Int) (h : faultI op a = 0) : (insB op a).length = 1 + siz (srt op) := by
  have h1 := fault_ok h
  have h2 := (opd_at (srt op) (srt_is op h1.1).2).2.1
  simp [insB, tailB_len a _ h2]
  omega
theorem insB_small (op a : Int) (h : faultI op a = 0) : ∀ c ∈ insB op a, 0 ≤ c ∧ c ≤ 255 := by
  have h1 := fault_ok h
  have h2 := opd_at (srt op) (srt_is op h1.1).2
  intro c hc
  unfold insB at hc
  rcases List.mem_cons.1 hc with rfl | hc
  · omega
  · generalize siz (srt op) = k at *
    match k, h2.2.1 with
    | 0, _ => cases hc
    | 1, _ => simp [tailB] at hc; omega
    | 2, _ => simp [tailB] at hc; omega
set_option maxRecDepth 100000 in
set_option maxHeartbeats 800000 in
theorem fault_any (op a : Int) (w : World) (h : Tab2 w) :
    Calls Tryz.prog 51 #[.agg #[.int .i64 op, .int .i64 a]] w fun e w' => e = .returned (.int .i64 (faultI op a)) ∧ Below w.heap.size w w' := by
  obtain ⟨w1, hw1⟩ : ∃ w1, w.alloc (.cells #[.int .i64 op, .int .i64 a] 36) = w1 := ⟨_, rfl⟩
  have B1 : Below w.heap.size w w1 := by rw [← hw1]; exact (Below.refl _ _).alloc (Nat.le_refl _) _
  have A1 : w1.heap[w.heap.size]? = some (.cells #[.int .i64 op, .int .i64 a] 36 (0, 0)) := by rw [← hw1]; exact heap_alloc_new _ _
  have Z1 : w1.heap.size = w.heap.size + 1 := by rw [← hw1]; simp
  have C1 := hide (info_any op w1 (h.below B1).tab)
  have c0 : w1.cell? ⟨w.heap.size, 0, none⟩ = some (.int .i64 op) := by rw [cell_of_row w1 _ 0 _ _ (0, 0) A1]; rfl
  have hbig := h.big
  have HT := hide h
  have H1 := hide (And.intro B1 (And.intro A1 Z1))
  obtain ⟨F, hF⟩ : ∃ F, faultI op a = F := ⟨_, rfl⟩
  rw [hF]
  clear h B1 A1 Z1
  by_cases hin : 1 ≤ op ∧ op ≤ 41
  · have e1 := infoA_in op hin
    have e2 := srt_is op hin
    have e3 := opd_at (srt op) e2.2
    rw [e1] at C1
    generalize OPS.getD op.toNat blank = x at *
    obtain ⟨xn, xa, xb, xc, xd, xf⟩ := x
    simp only [infV] at C1 e2
    obtain ⟨k, hk⟩ : ∃ k, srt op = k := ⟨_, rfl⟩
    rw [hk] at e2 e3
    obtain ⟨rfl, k5⟩ := e2
    obtain ⟨m, hm⟩ : ∃ m, mst k = m := ⟨_, rfl⟩
    rw [hm] at e3
    have HF : Hid ((0 ≤ a ∧ a ≤ m → F = 0) ∧ (¬ (0 ≤ a ∧ a ≤ m) → F = 81)) := hide (by
      rw [← hF]
      unfold faultI
      rw [if_pos hin, hk, hm]
      exact ⟨fun h => if_pos h, fun h => if_neg h⟩)
    have HO := hide e3.1
    clear e1 e3 hF hk hm hin
    go_enter Tryz.func51, Tryz.ntmps51
    go_wp2_with fail
    refine (unhide C1).mono ?_
    rintro e w2 ⟨rfl, B2⟩
    have H2 := hide B2
    clear B2 C1
    go_upto_region 4 with fail
    obtain ⟨w3, hw3⟩ : ∃ w3, w3 = w2.alloc (.cells #[.string xn, .int .i64 (k : Int), .int .i64 xb, .int .i64 xc, .int .i64 xd, .int .i64 xf] 98) := ⟨_, rfl⟩
    rw [← hw3]
    have A3 : w3.heap[w2.heap.size]? = some (.cells #[.string xn, .int .i64 (k : Int), .int .i64 xb, .int .i64 xc, .int .i64 xd, .int .i64 xf] 98 (0, 0)) := by rw [hw3]; exact heap_alloc_new w2 _
    have B3 : Below w1.heap.size w1 w3 := by rw [hw3]; exact (unhide H2).alloc (unhide H2).size _
    have X3 : Hid (Below w.heap.size w w3) := hide ((unhide H1).1.trans (B3.mono (unhide H1).1.size))
    have d1 : w3.cell? ⟨w2.heap.size, 1, none⟩ = some (.int .i64 (k : Int)) := by rw [cell_of_row w3 _ 1 _ _ (0, 0) A3]; rfl
    have A3' := (B3.block w.heap.size (by have := (unhide H1).2.2; omega)).trans (unhide H1).2.1
    have c1 : w3.cell? ⟨w.heap.size, 1, none⟩ = some (.int .i64 a) := by rw [cell_of_row w3 _ 1 _ _ (0, 0) A3']; rfl
    have t1 : w3.cell? ⟨0, k * 2 + 1, none⟩ = some (.int .i64 m) := (((unhide HT).below (unhide X3)).cell k _ (unhide HO)).2
    have k6 : (k : Int) < 6 := by omega
    clear hw3 A3 A3' B3 c0 hw1
    by_cases h0 : a < 0
    · have HE : Hid (F = 81) := hide ((unhide HF).2 (by omega))
      clear HF
      go_quiet (fail)
      go_wp2_with fail
      go_ret
      exact ⟨by rw [unhide HE]; rfl, below_drewN (unhide X3) _⟩
    · by_cases h1 : m < a
      · have HE : Hid (F = 81) := hide ((unhide HF).2 (by omega))
        clear HF
        go_quiet (fail)
        go_wp2_with fail
        go_ret
        exact ⟨by rw [unhide HE]; rfl, below_drewN (unhide X3) _⟩
      · have HE : Hid (F = 0) := hide ((unhide HF).1 (by omega))
        clear HF
        go_quiet (fail)
        go_wp2_with fail
        go_ret
        exact ⟨by rw [unhide HE]; rfl, below_drewN (unhide X3) _⟩
  · have e1 : infoA op = (blank, false) := by unfold infoA; rw [if_neg hin]
    rw [e1] at C1
    simp only [infV, blank] at C1
    have HE : Hid (F = 80) := hide (by rw [← hF]; unfold faultI; rw [if_neg hin])
    clear e1 hF hin
    go_enter Tryz.func51, Tryz.ntmps51
    go_wp2_with fail
    refine (unhide C1).mono ?_
    rintro e w2 ⟨rfl, B2⟩
    have H2 := hide B2
    clear B2 C1
    go_wp2_with fail
    go_ret
    refine ⟨by rw [unhide HE]; rfl, (unhide H1).1.trans (((unhide H2).mono (unhide H1).1.size).alloc ?_ _)⟩
    exact Nat.le_trans (unhide H1).1.size (unhide H2).size
/-- and as a row of bytes -/
theorem own_row {w : World} {base n : Nat} {ao : Option Addr} {len cap : Nat} {zs : List Int} (h : w.ownsRow base 5 1 (.slice ao len cap) n (zs.map (Value.int .u8))) (hs : ∀ c ∈ zs, 0 ≤ c ∧ c ≤ 255) : Row8 w ao len cap zs ∧ len = n ∧ (∀ a, ao = some a → base ≤ a.block) := by
  have h1 := h.1
  rcases h.2 with ⟨e, e2⟩ | ⟨g, c, cur, e, hb, _⟩
  · cases e
    subst e2
    rw [Nat.zero_mul, List.length_map] at h1
    have : zs = [] := List.eq_nil_of_length_eq_zero h1
    subst this
    exact ⟨nilRow _, rfl, fun a h => by cases h⟩
  · cases e
    exact ⟨Row8.own h hs, rfl, fun a h => by cases h; exact hb⟩
theorem ins_cells {w : World} {g : Nat} {op a : Int} (h : w.heap[g]? = some (.cells #[.int .i64 op, .int .i64 a] 36 (0, 0))) : w.cell? ⟨g, 0, none⟩ = some (.int .i64 op) ∧ w.cell? ⟨g, 1, none⟩ = some (.int .i64 a) :=
  ⟨by rw [cell_of_row w _ 0 _ _ (0, 0) h]; rfl, by rw [cell_of_row w _ 1 _ _ (0, 0) h]; rfl⟩
/-- a whole array out of the block that holds it -/
theorem wpList_load_arr {P : Program} {w : World} {ops : Array Oper} {rest : List Oper} {o : Oper} {a : Act} {Q : Exit → Act → World → Prop} (hgd : o.guard = none) (T : TypeId) (x : Operand) (ho : o.op = .load T x)
    (g : Nat) (c : Array Value) (n : Nat) (e : TypeId) (hx : a.eval x = .pointer (some ⟨g, 0, none⟩)) (hb : w.heap[g]? = some (.cells c T (0, 0))) (hu : P.underlying T = some (.array n e)) (hi : (P.info? T).map (·.size) = some c.size)
    (h : wpList P ops Q rest (a.put o.dst (.agg c)) w) : wpList P ops Q (o :: rest) a w := by
  refine wpList_load_mid hgd T x ho g 0 hx c.toList (.array n e) ?_ hu rfl (by simpa using hi) (by simpa using h)
  intro j v hv
  rw [Nat.zero_add, cell_of_row w g j c T (0, 0) hb]
  simpa using hv
/-- a whole array into the block that holds one of its size -/
theorem wpList_store_arr {P : Program} {w : World} {ops : Array Oper} {rest : List Oper} {o : Oper} {a : Act} {Q : Exit → Act → World → Prop} (hgd : o.guard = none) (T : TypeId) (x y : Operand) (ho : o.op = .store T x y)
    (g : Nat) (c c' : Array Value) (hx : a.eval x = .pointer (some ⟨g, 0, none⟩)) (hy : a.eval y = .agg c') (hb : w.heap[g]? = some (.cells c T (0, 0))) (hs : c.size = c'.size) (hi : (P.info? T).map (·.size) = some c'.size) (h1 : c'.all (·.oneCell') = true)
    (h : wpList P ops Q rest (a.put o.dst undef) (w.setRow g c')) : wpList P ops Q (o :: rest) a w := by
  refine wpList_plain hgd fun K hK => ?_
  have hv := run_storeVar_row (P := P) w g T T c c' hb hi hs h1
  have hrun : (Instr.storeAt T (.pointer (some ⟨g, 0, none⟩)) (.agg c')).run P w = .ok () (w.setRow g c') := by
    simp only [Instr.storeAt, Instr.sureAddr, Sem.run_bind, Sem.run_pure, Result.andThen]
    exact hv
  unfold Oper.wp
  simp [execOp, ho, hx, hy, hrun, Result.andThen]
  exact hK _ _ h
/-- a new variable of an array's type; the world behind it is a letter -/
theorem wpList_alloc_arr {P : Program} {w : World} {ops : Array Oper} {rest : List Oper} {o : Oper} {a : Act} {Q : Exit → Act → World → Prop} (hgd : o.guard = none) (T : TypeId) (ho : o.op = .alloc T)
    (i : TypeInfo) (z : Value) (hi : P.info? T = some i) (hz : i.zero = some z)
    (h : ∀ w', Hid (w' = w.alloc (.cells z.cells T)) → wpList P ops Q rest (a.put o.dst (.pointer (some ⟨w.heap.size, 0, none⟩))) w') : wpList P ops Q (o :: rest) a w := by
  refine wpList_plain hgd fun K hK => ?_
  unfold Oper.wp
  simp [execOp, ho, Instr.alloc, zeroValue, typeInfo, hi, hz, Result.andThen]
  exact hK _ _ (h _ rfl)
/-- an array that is built; its cells are a term of one's own -/
theorem wpList_build_arr {P : Program} {w : World} {ops : Array Oper} {rest : List Oper} {o : Oper} {a : Act} {Q : Exit → Act → World → Prop} (hgd : o.guard = none) (T : TypeId) (parts : Array (Nat × Operand)) (ho : o.op = .build T parts)
    (vals : Array (Nat × Value)) (hp : (parts.map fun (i, x) => (i, a.eval x)) = vals) (c : Array Value) (hb : P.built T vals.toList = some c)
    (h : wpList P ops Q rest (a.put o.dst (.agg c)) w) : wpList P ops Q (o :: rest) a w := by
  refine wpList_plain hgd fun K hK => ?_
  have hrun := run_build (P := P) w T vals c hb
  unfold Oper.wp
  simp [execOp, ho, hp, hrun, Result.andThen]
  exact hK _ _ h
theorem block_new {w w' : World} {c : Array Value} {T : TypeId} (h : Hid (w' = w.alloc (.cells c T))) : w'.heap[w.heap.size]? = some (.cells c T (0, 0)) ∧ w'.heap.size = w.heap.size + 1 ∧ Below w.heap.size w w' := by
  have e : w' = w.alloc (.cells c T) := h
  subst e
  exact ⟨heap_alloc_new w _, by simp, (Below.refl _ _).alloc (Nat.le_refl _) _⟩
/-- two results, the first an array that lies in memory -/
theorem ret_cell_tmp {P : Program} {fn : Func} {p u : Tmp} {T : TypeId} (h : fn.results = #[.cell p T, .tmp u]) (tmps : Array Value) (w : World) (g : Nat) (c : Array Value) (n : Nat) (e : TypeId)
    (hp : tmps.getD p undef = .pointer (some ⟨g, 0, none⟩)) (hb : w.heap[g]? = some (.cells c T (0, 0))) (hu : P.underlying T = some (.array n e)) (hi : (P.info? T).map (·.size) = some c.size) :
    (results fn tmps).run P w = .ok (.tuple #[.agg c, tmps.getD u undef]) w := by
  rw [results_cell_tmp h, hp]
  have hl := run_loadVar_row (P := P) w g T T c (0, 0) _ hb hu rfl hi
  simp [asAddr, Result.andThen, hl]
/-- one result, an array that lies in memory -/
theorem ret_cell {P : Program} {fn : Func} {p : Tmp} {T : TypeId} (h : fn.results = #[.cell p T]) (tmps : Array Value) (w : World) (g : Nat) (c : Array Value) (n : Nat) (e : TypeId)
    (hp : tmps.getD p undef = .pointer (some ⟨g, 0, none⟩)) (hb : w.heap[g]? = some (.cells c T (0, 0))) (hu : P.underlying T = some (.array n e)) (hi : (P.info? T).map (·.size) = some c.size) :
    (results fn tmps).run P w = .ok (.agg c) w := by
  have hl := run_loadVar_row (P := P) w g T T c (0, 0) _ hb hu rfl hi
  have hp' : tmps[p]?.getD undef = .pointer (some ⟨g, 0, none⟩) := by simpa using hp
  simp [results, h, hp', asAddr, hl]
/-- an array of bytes in memory -/
def Arr8 (w : World) (g : Nat) (T : TypeId) (xs : List Int) : Prop := w.heap[g]? = some (.cells (xs.map (Value.int .u8)).toArray T (0, 0))
theorem Arr8.cell {w : World} {g : Nat} {T : TypeId} {xs : List Int} (h : Arr8 w g T xs) (j : Nat) (hj : j < xs.length) : w.cell? ⟨g, j, none⟩ = some (.int .u8 (xs.getD j 0)) := by
  rw [cell_of_row w g j _ T (0, 0) h]
  simp [List.getD, hj]
theorem Arr8.free {w : World} {g : Nat} {T : TypeId} {xs : List Int} (h : Arr8 w g T xs) (j : Nat) : w.frozen? ⟨g, j, none⟩ = false := frozen_of_row w g j _ T h
theorem Arr8.set {w : World} {g : Nat} {T : TypeId} {xs : List Int} (h : Arr8 w g T xs) (j : Nat) (x : Int) : Arr8 (w.setCell ⟨g, j, none⟩ (.int .u8 x)) g T (xs.set j x) := by
  have := heap_setCell_same w g j _ T (.int .u8 x) h
  unfold Arr8
  rw [this]
  simp [List.map_set]
theorem bytes_one (xs : List Int) : (xs.map (Value.int .u8)).toArray.all (·.oneCell') = true :=
  all_oneCell_toArray (by intro v hv; obtain ⟨n, _, rfl⟩ := List.mem_map.1 hv; rfl)
theorem take_set_next (xs : List Int) (t : Nat) (x : Int) (h : t < xs.length) : (xs.set t x).take (t + 1) = xs.take t ++ [x] := by
  rw [List.take_succ_eq_append_getElem (by simpa using h), List.take_set_of_le (Nat.le_refl t)]
  simp
/-- a new block -/
structure Made (w w' : World) (c : Array Value) (T : TypeId) : Prop where
  at' : w'.heap[w.heap.size]? = some (.cells c T (0, 0))
  size : w'.heap.size = w.heap.size + 1
  below : Below w.heap.size w w'
/-- a block that was written over -/
structure Put (w w' : World) (g : Nat) (c : Array Value) (T : TypeId) : Prop where
  at' : w'.heap[g]? = some (.cells c T (0, 0))
  size : w'.heap.size = w.heap.size
  other : ∀ k, k ≠ g → w'.heap[k]? = w.heap[k]?
  below : ∀ (B : Nat) (a : World), Below B a w → B ≤ g → Below B a w'
theorem Made.mk' {w : World} {c : Array Value} {T : TypeId} : Made w (w.alloc (.cells c T)) c T :=
  ⟨heap_alloc_new w _, by simp, (Below.refl _ _).alloc (Nat.le_refl _) _⟩
theorem Put.mk' {w : World} {g : Nat} {c c' : Array Value} {T : TypeId} (hb : w.heap[g]? = some (.cells c T (0, 0))) : Put w (w.setRow g c') g c' T :=
  ⟨setRow_heap w g c c' T _ hb, by simp, fun k hk => setRow_other w g k c' hk, fun _ _ h hB => below_setRow h hB c'⟩
theorem wpList_new_arr {P : Program} {w : World} {ops : Array Oper} {rest : List Oper} {o : Oper} {a : Act} {Q : Exit → Act → World → Prop} (hgd : o.guard = none) (T : TypeId) (ho : o.op = .alloc T)
    (i : TypeInfo) (z : Array Value) (hi : P.info? T = some i) (hz : i.zero = some (.agg z))
    (h : ∀ w', Hid (Made w w' z T) → wpList P ops Q rest (a.put o.dst (.pointer (some ⟨w.heap.size, 0, none⟩))) w') : wpList P ops Q (o :: rest) a w := by
  refine wpList_alloc_arr hgd T ho i (.agg z) hi hz fun w' e => ?_
  have e' : w' = w.alloc (.cells z T) := e
  subst e'
  exact h _ Made.mk'
theorem wpList_put_arr {P : Program} {w : World} {ops : Array Oper} {rest : List Oper} {o : Oper} {a : Act} {Q : Exit → Act → World → Prop} (hgd : o.guard = none) (T : TypeId) (x y : Operand) (ho : o.op = .store T x y)
    (g : Nat) (c c' : Array Value) (hx : a.eval x = .pointer (some ⟨g, 0, none⟩)) (hy : a.eval y = .agg c') (hb : w.heap[g]? = some (.cells c T (0, 0))) (hs : c.size = c'.size) (hi : (P.info? T).map (·.size) = some c'.size) (h1 : c'.all (·.oneCell') = true)
    (h : ∀ w', Hid (Put w w' g c' T) → wpList P ops Q rest (a.put o.dst undef) w') : wpList P ops Q (o :: rest) a w :=
  wpList_store_arr hgd T x y ho g c c' hx hy hb hs hi h1 (h _ (Put.mk' hb))
theorem size_is {P : Program} {e : TypeId} {n : Nat} (h : (P.info? e).map (·.size) = some n) (w : World) : (sizeOf e).run P w = .ok n w := by
  cases hq : P.info? e with
  | none => rw [hq] at h; cases h
  | some i => rw [hq] at h; simp at h; simp [sizeOf, typeInfo, hq, h, Result.andThen]
/-- an element of an array of integers that is no variable -/
theorem run_index_arr {P : Program} (w : World) (t e : TypeId) (n : Nat) (cs : Array Value) (k k' : IntKind) (i : Nat) (v : Value) (h : P.underlying t = some (.array n e)) (he : P.underlying e = some (.int k')) (hs : (P.info? e).map (·.size) = some 1) (hi : i < n) (hv : cs[i]? = some v) :
    (Instr.index t (.agg cs) (.int k (i : Int))).run P w = .ok v w := by
  have h1 : (0 : Int) ≤ (i : Int) ∧ (i : Int) < (n : Int) := by omega
  simp [Instr.index, run_underlying h, asIntOf, h1, size_is hs, part, isAgg, run_underlying he, hv, Result.andThen]
  omega
/-- a cell of the world behind -/
theorem Put.cell {w w' : World} {g : Nat} {c : Array Value} {T : TypeId} (h : Put w w' g c T) {p : Addr} (hp : p.block ≠ g) : w'.cell? p = w.cell? p := World.cell?_of_block (w := w) (h.other p.block hp)
end Go.Proofs.YtmnbfcpkaglniaaGreatDoor
