/-
  The walks of the document's own Put and Encode; conditions: the lengths together are below 2^47.
  The digits of a digest as numbers: what a digit says, or -1, and back; no conditions.
  The walks of math/bits.RotateLeft32, hash.right and hash.turns: words turned to the right; condition: by 1 to 31 places.
  Laws for arrays in memory, whole: a load, a store, of whatever cells; rows of bytes; no conditions.
-/
import Derived.Test.YtpdfggjhedgdlaaDoorA24
import Derived.Test.YtpdfggjhedgdlaaDoorA00
import Derived.WalkKit
import Derived.WalkSpells
import Derived.OpenShut
import Derived.Test.YtpdfggjhedgdlaaDoorRows
import Derived.Deep.QuietTactic
import Derived.BigQuiet
import Derived.WalkSmall
import Derived.Laws.BitsAllLaws
import Derived.Deep.WholeRow
import Derived.Deep.MidRow
import Derived.Laws.Tables
import Derived.Laws.ResultCell
import Derived.Laws.CopyOwn
namespace Go.Proofs.YtpdfggjhedgdlaaDoor
open Go.RowKit
set_option linter.unusedVariables false
set_option linter.unusedSimpArgs false

set_option maxRecDepth 100000 in
set_option maxHeartbeats 1000000 in
theorem put_f (ab : Option Addr) (lb cb : Nat) (zs : List Int) (v : Vl) (x : Value) (B : Nat) (w : World) (hz : Row8 w ab lb cb zs) (hv : IsV w B v x) (hBs : B ≤ w.heap.size) (hb : lb + 43018 ≤ 140737489403904) :
    Calls Tryd.prog 28 #[.slice ab lb cb, x] w fun e w' => ∃ (ao : Option Addr) (len cap : Nat), e = .returned (.tuple #[.slice ao len cap, .int .i64 (codeR v)]) ∧ Row8 w' ao len cap (if rightB v = true then zs ++ wenc v else []) ∧ Below w.heap.size w w' ∧ (∀ a, ao = some a → w.heap.size ≤ a.block) ∧ cap ≤ maxLen := by
  have hfit := hv.fit
  obtain ⟨k, n, s, l, ks, al, ak, cl, ck, hvv, hx⟩ := hv.shape
  clear hvv
  obtain ⟨m, hm⟩ : ∃ m, ks.length = m := ⟨_, rfl⟩
  obtain ⟨ln, hln⟩ : ∃ ln, l.length = ln := ⟨_, rfl⟩
  rw [hm, hln] at hx
  subst hx
  obtain ⟨w1, hw1⟩ : ∃ w1, w.alloc (.cells #[.int .i64 k, .int .i64 n, .string s, .slice al ln cl, .slice ak m ck] 40) = w1 := ⟨_, rfl⟩
  have BX := Box.mk' w (.int .i64 k) (.int .i64 n) (.string s) (.slice al ln cl) (.slice ak m ck)
  rw [hw1] at BX
  obtain ⟨g, hg⟩ : ∃ g, w.heap.size = g := ⟨_, rfl⟩
  have z1 := BX.size
  have z1g : w1.heap.size = g + 1 := by omega
  have HRW : Hid (∀ u, Below w1.heap.size w1 u → u.heap[g]? = some (.cells #[.int .i64 k, .int .i64 n, .string s, .slice al ln cl, .slice ak m ck] 40 (0, 0)) ∧ IsV u B v (.agg #[.int .i64 k, .int .i64 n, .string s, .slice al ln cl, .slice ak m ck]) ∧ Row8 u ab lb cb zs ∧ Below w.heap.size w u) := hide (fun u hu => ⟨by rw [← hg]; exact (hu.block _ (by omega)).trans BX.row, hv.mono ((BX.below.mono hBs).trans (hu.mono (by omega))), (hz.later BX.below).later hu, BX.below.trans (hu.mono (by omega))⟩)
  have CR := hide (right_ref v _ B w1 (unhide HRW w1 (Below.refl _ _)).2.1 (by omega))
  obtain ⟨c0, c1, c2, c3, c4⟩ := row_cell (unhide HRW w1 (Below.refl _ _)).1
  clear BX hv hz z1 hm hln
  cases hR : rightB v with
  | false =>
    rw [hR] at CR
    have HC : Hid (codeR v = 40) := hide (by simp [codeR, hR])
    clear hR
    go_enter Tryd.func28, Tryd.ntmps28
    go_wp2_with fail
    refine (unhide CR).mono ?_
    rintro e w2 ⟨rfl, b2⟩
    have H2 := hide b2
    clear b2 CR
    go_wp2_with fail
    go_ret2
    refine ⟨none, 0, 0, by rw [unhide HC]; rfl, by simpa using nilRow _, ?_, (fun a h => by cases h), by unfold maxLen; omega⟩
    have h := (unhide HRW _ (unhide H2)).2.2.2
    first | exact h | (rw [← hg]; exact h)
  | true =>
    rw [hR] at CR
    have hw2 := right_wt hR
    have hlen := wenc_len v
    have hlb : (wenc v).length ≤ 43008 := by omega
    have hpos := wenc_pos v 8 hw2.1
    have hsm := wenc_small v 8 hw2.1 hfit
    have HS := hide (And.intro hsm hw2.1)
    have HC : Hid (codeR v = 0) := hide (by simp [codeR, hR])
    obtain ⟨Z, hZ⟩ : ∃ Z, wenc v = Z := ⟨_, rfl⟩
    have CL : Hid (∀ u sv, Below w1.heap.size w1 u → u.ownsRow w1.heap.size 5 1 sv (0 + lb) (([] ++ zs).map (Value.int .u8)) → Calls Tryd.prog 53 #[sv, .agg #[.int .i64 k, .int .i64 n, .string s, .slice al ln cl, .slice ak m ck]] u fun e w' => Laid w1.heap.size sv lb zs Z u e w') := hide (fun u sv hu ho => by
      rw [Nat.zero_add, List.nil_append] at ho
      have h := put_f_any 8 v _ B w1.heap.size u sv lb zs hw2.1 (unhide HRW u hu).2.1 (by omega) hu.size ho (unhide HRW u hu).2.2.1.small (by omega)
      rw [hZ] at h
      exact h)
    rw [hZ] at hlb hpos HS
    rw [if_pos rfl, hZ]
    clear hR hw2 hlen hsm hZ hfit
    go_enter Tryd.func28, Tryd.ntmps28
    go_wp2_with fail
    refine (unhide CR).mono ?_
    rintro e w2 ⟨rfl, b2⟩
    have H2 := hide b2
    clear b2 CR c0 c1 c2 c3 c4
    obtain ⟨c0, c1, c2, c3, c4⟩ := row_cell (unhide HRW w2 (unhide H2)).1
    go_upto_region 5 with fail
    refine till_begin (S := fun w' => w'.cell? ⟨g, 0, none⟩ = some (.int .i64 k) ∧ w'.cell? ⟨g, 1, none⟩ = some (.int .i64 n) ∧ w'.cell? ⟨g, 2, none⟩ = some (.string s) ∧ w'.cell? ⟨g, 3, none⟩ = some (.slice al ln cl) ∧ w'.cell? ⟨g, 4, none⟩ = some (.slice ak m ck)) 6 (by kernel_rfl) ?_
    obtain ⟨wd, hwd⟩ : ∃ wd, w2.drew = wd := ⟨_, rfl⟩
    have HD : Hid (Below w1.heap.size w1 wd) := hide (by rw [← hwd]; exact (unhide H2).drew)
    have B2d : Below w2.heap.size w2 wd := by rw [← hwd]; exact (Below.refl _ _).drew
    have HS1 := And.intro (cell_later B2d c0) (And.intro (cell_later B2d c1) (And.intro (cell_later B2d c2) (And.intro (cell_later B2d c3) (cell_later B2d c4))))
    rw [hwd]
    clear hwd B2d c0 c1 c2 c3 c4
    refine till_take 0 (v := .slice none 0 0) (some 12) rfl rfl rfl (by kernel_rfl) (by kernel_rfl) (by kernel_rfl) (by kernel_rfl) (fun _ _ _ h => h) (Or.inl ⟨by rfl, fun u hu => by obtain ⟨t0, t1, t2, t3, t4⟩ := hu; go_simp⟩) HS1 ?_
    try simp only [Act.put, List.setIfInBounds_toArray, List.set_cons_zero, List.set_cons_succ]
    refine till_take 1 (v := .slice ab lb cb) (some 13) rfl rfl rfl (by kernel_rfl) (by kernel_rfl) (by kernel_rfl) (by kernel_rfl) (fun _ _ _ h => h) (Or.inl ⟨by rfl, fun u hu => by obtain ⟨t0, t1, t2, t3, t4⟩ := hu; go_simp⟩) HS1 ?_
    try simp only [Act.put, List.setIfInBounds_toArray, List.set_cons_zero, List.set_cons_succ]
    refine till_take 3 (v := .agg #[.int .i64 k, .int .i64 n, .string s, .slice al ln cl, .slice ak m ck]) (some 15) rfl rfl rfl (by kernel_rfl) (by kernel_rfl) (by kernel_rfl) (by kernel_rfl) (fun _ _ _ h => h) (Or.inl ⟨by rfl, fun u hu => by obtain ⟨t0, t1, t2, t3, t4⟩ := hu; go_simp⟩) HS1 ?_
    try simp only [Act.put, List.setIfInBounds_toArray, List.set_cons_zero, List.set_cons_succ]
    refine till_one 2 (by kernel_rfl) rfl (fun K hK => ?_)
    refine step_app (by rfl) _ _ (by rfl) w1.heap.size 0 (.slice none 0 0) [] (by rfl) (World.ownsRow_nil _ _ _ _) ab lb cb zs (by rfl) (unhide HRW wd (unhide HD)).2.2.1 (by omega) (unhide HD).size ?_
    intro v2 wa HA
    change K (Act.put _ (some 14) _) wa
    have Xa : Below wd.heap.size wd wa := ⟨(unhide HA).2.grown.os, (unhide HA).2.grown.tape, (unhide HA).2.grown.output, (unhide HA).2.grown.size, fun q hq => (unhide HA).2.grown.block q hq (by simp [Value.ownBlock])⟩
    have XA := hide ((unhide HD).trans (Xa.mono (unhide HD).size))
    have HSa := And.intro (cell_later Xa HS1.1) (And.intro (cell_later Xa HS1.2.1) (And.intro (cell_later Xa HS1.2.2.1) (And.intro (cell_later Xa HS1.2.2.2.1) (cell_later Xa HS1.2.2.2.2))))
    have CC := hide (unhide CL wa v2 (unhide XA) (unhide HA).1)
    have hov : ∀ q, v2.ownBlock = some q → w1.heap.size ≤ q := fun q e => ((unhide HA).1.lt q e).1
    have HOV := hide hov
    refine hK.out _ _ (Or.inr HSa) ?_
    clear hK K Xa hov
    try simp only [Act.put, List.setIfInBounds_toArray, List.set_cons_zero, List.set_cons_succ]
    refine till_one 4 (by kernel_rfl) rfl (fun K hK => ?_)
    go_simp
    refine (unhide CC).mono ?_
    rintro e we ⟨v6, rfl, own6, gr6⟩
    have Xe : Below w1.heap.size w1 we := (unhide XA).trans (gr6.below (unhide HA).1 (unhide XA).size)
    have hne : some g ≠ v2.ownBlock := fun e => by have := unhide HOV g e.symm; omega
    have kp : ∀ q x, wa.cell? ⟨g, q, none⟩ = some x → we.cell? ⟨g, q, none⟩ = some x := fun q x hx => (World.cell?_of_block (gr6.far (b := g) (by have := (unhide XA).size; omega) hne)).trans hx
    have HSe := And.intro (kp _ _ HSa.1) (And.intro (kp _ _ HSa.2.1) (And.intro (kp _ _ HSa.2.2.1) (And.intro (kp _ _ HSa.2.2.2.1) (kp _ _ HSa.2.2.2.2))))
    have hsz : ∀ c ∈ zs ++ Z, 0 ≤ c ∧ c ≤ 255 := fun c hc => by
      rcases List.mem_append.1 hc with h | h
      · exact (unhide HRW w1 (Below.refl _ _)).2.2.1.small c h
      · exact (unhide HS).1 c h
    obtain ⟨g5, cp5, rfl, hg5, r5, m5⟩ := row_of own6 hsz (by omega)
    have HE := hide (And.intro Xe (And.intro r5 (And.intro hg5 m5)))
    clear own6 gr6 kp hne CC Xe r5 m5 hsz
    go_wp2_with fail
    refine hK.out _ _ (Or.inr HSe) ?_
    clear hK K
    try simp only [Act.put, List.setIfInBounds_toArray, List.set_cons_zero, List.set_cons_succ]
    have FIN : ∀ e', e' = .returned (.tuple #[.slice (some ⟨g5, 0, none⟩) (lb + Z.length) cp5, .int .i64 0]) → ∃ (ao : Option Addr) (len cap : Nat), e' = Ending.returned (.tuple #[.slice ao len cap, .int .i64 (codeR v)]) ∧ Row8 we ao len cap (zs ++ Z) ∧ Below w.heap.size w we ∧ (∀ a, ao = some a → w.heap.size ≤ a.block) ∧ cap ≤ maxLen := fun e' he' => by
      obtain ⟨Xe, r5, hg5, m5⟩ := unhide HE
      refine ⟨_, _, _, by rw [unhide HC]; exact he', r5, ?_, (fun a h => by cases h; show _ ≤ g5; omega), m5⟩
      exact (unhide HRW _ Xe).2.2.2
    have HFIN := hide FIN
    clear FIN
    refine till_one 5 (by kernel_rfl) rfl (fun K hK => ?_)
    go_simp
    refine hK.out _ _ (Or.inr HSe) ?_
    clear hK K
    try simp only [Act.put, List.setIfInBounds_toArray, List.set_cons_zero, List.set_cons_succ]
    refine till_one 6 (by kernel_rfl) rfl (fun K hK => ?_)
    go_simp
    refine hK.out _ _ (Or.inl rfl) ?_
    clear hK K
    try simp only [Act.put, List.setIfInBounds_toArray, List.set_cons_zero, List.set_cons_succ]
    refine till_done (by kernel_rfl) ?_ _
    go_wp2_with fail
    go_ret2
    have h := unhide HFIN _ rfl
    first | exact h | (rw [hg] at h; exact h)

end Go.Proofs.YtpdfggjhedgdlaaDoor

namespace Go.Proofs.YtpdfggjhedgdlaaDoor
open Go.RowKit


/-- what a digit says -/
def digI (c : Int) : Int := if 48 ≤ c ∧ c ≤ 57 then c - 48 else if 97 ≤ c ∧ c ≤ 102 then c - 87 else -1

/-- the digit of a number below 16 -/
def hexC (n : Int) : Int := if n < 10 then n + 48 else n + 87

theorem dig_hex (n : Int) (h0 : 0 ≤ n) (h1 : n < 16) : digI (hexC n) = n := by
  unfold digI hexC; split <;> split <;> (try split) <;> omega

theorem hex_dig (c : Int) (h : 0 ≤ digI c) : hexC (digI c) = c := by
  unfold digI hexC at *; split at h <;> (try split at h) <;> (try split) <;> (try split) <;> (try split) <;> omega

theorem dig_eq (c : Int) (k : Nat) (hk : k < 16) (h : hexC k = c) : digI c = k := by
  rw [← h, dig_hex _ (by omega) (by omega)]

theorem dig_none (c : Int) (h : ∀ k : Nat, k < 16 → hexC k ≠ c) : digI c = -1 := by
  by_cases hd : 0 ≤ digI c
  · exfalso
    have e := hex_dig c hd
    have hb : digI c < 16 := by unfold digI; split <;> (try split) <;> omega
    exact h (digI c).toNat (by omega) (by rw [show ((digI c).toNat : Int) = digI c from by omega]; exact e)
  · unfold digI at *; split at hd <;> (try split at hd) <;> omega

/-- the sixteen digits -/
theorem digs_at (k : Nat) (h : k < (⟨#[48, 49, 50, 51, 52, 53, 54, 55, 56, 57, 97, 98, 99, 100, 101, 102]⟩ : ByteArray).size) :
    (((⟨#[48, 49, 50, 51, 52, 53, 54, 55, 56, 57, 97, 98, 99, 100, 101, 102]⟩ : ByteArray)[k]'h).toNat : Int) = hexC k := by
  have h' : k < 16 := h
  match k, h, h' with
  | 0, _, _ => rfl
  | 1, _, _ => rfl
  | 2, _, _ => rfl
  | 3, _, _ => rfl
  | 4, _, _ => rfl
  | 5, _, _ => rfl
  | 6, _, _ => rfl
  | 7, _, _ => rfl
  | 8, _, _ => rfl
  | 9, _, _ => rfl
  | 10, _, _ => rfl
  | 11, _, _ => rfl
  | 12, _, _ => rfl
  | 13, _, _ => rfl
  | 14, _, _ => rfl
  | 15, _, _ => rfl
  | k + 16, _, h => omega

theorem ret_intH {k : IntKind} {a b : Int} (h : a = b) : Ending.returned (.int k a) = .returned (.int k b) := by rw [h]

end Go.Proofs.YtpdfggjhedgdlaaDoor

namespace Go.Proofs.YtpdfggjhedgdlaaDoor
open Go.RowKit

/-- a word, turned to the right by n places -/
def rotR (x : Int) (n : Nat) : Int := bits .or .u32 (IntKind.u32.wrap (x * 2 ^ (32 - n))) (x / 2 ^ n)

theorem and_all : ∀ n : Fin 32, 1 ≤ n.val → bits .and .u64 (IntKind.u64.wrap (-(n.val : Int))) 31 = 32 - (n.val : Int) := by decide +kernel

set_option maxRecDepth 100000 in
set_option maxHeartbeats 400000 in
theorem rotL_any (x : Int) (n : Nat) (w : World) (h1 : 1 ≤ n) (h2 : n ≤ 31) :
    Calls Tryd.prog 84 #[.int .u32 x, .int .i64 (-(n : Int))] w fun e w' => e = .returned (.int .u32 (rotR x n)) ∧ w' = w := by
  have e0 := and_all ⟨n, by omega⟩ h1
  simp only at e0
  have e1 : 32 - (32 - (n : Int)) = (n : Int) := by omega
  have e2 : (32 - (n : Int)).toNat = 32 - n := by omega
  have e3 : IntKind.u64.wrap (32 - (32 - (n : Int))) = (n : Int) := by rw [IntKind.wrap_u64]; omega
  have i1 : (0 : Int) ≤ (n : Int) := by omega
  have i2 : (n : Int) ≤ 32 := by omega
  have i3 : (0 : Int) ≤ 32 - (n : Int) := by omega
  have i4 : 32 - (n : Int) ≤ 32 := by omega
  go_enter Tryd.func84, Tryd.ntmps84
  go_wp2_with fail
  go_ret
  exact ⟨rfl, rfl⟩

theorem rightH_any (x N : Int) (w : World) (h1 : 1 ≤ N) (h2 : N ≤ 31) :
    Calls Tryd.prog 77 #[.int .u32 x, .int .i64 N] w fun e w' => e = .returned (.int .u32 (rotR x N.toNat)) ∧ w' = w := by
  obtain ⟨n, rfl⟩ : ∃ n : Nat, N = n := ⟨N.toNat, by omega⟩
  have C := fun w => hide (rotL_any x n w (by omega) (by omega))
  go_enter Tryd.func77, Tryd.ntmps77
  go_wp2_with fail
  refine (unhide (C _)).mono ?_
  rintro e w1 ⟨rfl, rfl⟩
  go_wp2_with fail
  go_ret
  exact ⟨rfl, rfl⟩

/-- three turns, laid over each other -/
def turns3 (x : Int) (a b c : Nat) : Int := bits .xor .u32 (bits .xor .u32 (rotR x a) (rotR x b)) (rotR x c)

theorem turns_any (x N M O : Int) (w : World) (h1 : 1 ≤ N) (h2 : N ≤ 31) (h3 : 1 ≤ M) (h4 : M ≤ 31) (h5 : 1 ≤ O) (h6 : O ≤ 31) :
    Calls Tryd.prog 69 #[.int .u32 x, .int .i64 N, .int .i64 M, .int .i64 O] w fun e w' => e = .returned (.int .u32 (turns3 x N.toNat M.toNat O.toNat)) ∧ w' = w := by
  have C1 := fun w => hide (rightH_any x N w h1 h2)
  have C2 := fun w => hide (rightH_any x M w h3 h4)
  have C3 := fun w => hide (rightH_any x O w h5 h6)
  unfold turns3
  go_enter Tryd.func69, Tryd.ntmps69
  go_wp2_with fail
  refine (unhide (C1 _)).mono ?_
  rintro e w1 ⟨rfl, rfl⟩
  go_wp2_with fail
  refine (unhide (C2 _)).mono ?_
  rintro e w2 ⟨rfl, rfl⟩
  go_wp2_with fail
  refine (unhide (C3 _)).mono ?_
  rintro e w3 ⟨rfl, rfl⟩
  go_wp2_with fail
  go_ret
  exact ⟨rfl, rfl⟩

theorem bits_bounds (op : BinOp) (a b : Int) : 0 ≤ bits op .u32 a b ∧ bits op .u32 a b ≤ 4294967295 := by
  unfold bits
  simp only [IntKind.wrap_u32']
  omega

theorem rotR_bounds (x : Int) (n : Nat) : 0 ≤ rotR x n ∧ rotR x n ≤ 4294967295 := bits_bounds _ _ _
theorem turns3_bounds (x : Int) (a b c : Nat) : 0 ≤ turns3 x a b c ∧ turns3 x a b c ≤ 4294967295 := bits_bounds _ _ _
end Go.Proofs.YtpdfggjhedgdlaaDoor

namespace Go.Proofs.YtpdfggjhedgdlaaDoor
open Go.RowKit

/-- a whole array out of the block that holds it -/
theorem wpList_load_arr {P : Program} {w : World} {ops : Array Oper} {rest : List Oper} {o : Oper} {a : Act} {Q : Exit → Act → World → Prop} (hgd : o.guard = none) (T : TypeId) (x : Operand) (ho : o.op = .load T x)
    (g : Nat) (c : Array Value) (n : Nat) (e : TypeId) (hx : a.eval x = .pointer (some ⟨g, 0, none⟩)) (hb : w.heap[g]? = some (.cells c T (0, 0))) (hu : P.underlying T = some (.array n e)) (hi : (P.info? T).map (·.size) = some c.size)
    (h : wpList P ops Q rest (a.put o.dst (.agg c)) w) : wpList P ops Q (o :: rest) a w := by
  refine wpList_load_mid hgd T x ho g 0 hx c.toList (.array n e) ?_ hu rfl (by simpa using hi) (by simpa using h)
  intro j v hv
  rw [Nat.zero_add, cell_of_row w g j c T (0, 0) hb]
  simpa using hv

/-- a whole array into the block that holds one of its size -/
theorem wpList_store_arr {P : Program} {w : World} {ops : Array Oper} {rest : List Oper} {o : Oper} {a : Act} {Q : Exit → Act → World → Prop} (hgd : o.guard = none) (T : TypeId) (x y : Operand) (ho : o.op = .store T x y)
    (g : Nat) (c c' : Array Value) (hx : a.eval x = .pointer (some ⟨g, 0, none⟩)) (hy : a.eval y = .agg c') (hb : w.heap[g]? = some (.cells c T (0, 0))) (hs : c.size = c'.size) (hi : (P.info? T).map (·.size) = some c'.size) (h1 : c'.all (·.oneCell') = true)
    (h : wpList P ops Q rest (a.put o.dst undef) (w.setRow g c')) : wpList P ops Q (o :: rest) a w := by
  refine wpList_plain hgd fun K hK => ?_
  have hv := run_storeVar_row (P := P) w g T T c c' hb hi hs h1
  have hrun : (Instr.storeAt T (.pointer (some ⟨g, 0, none⟩)) (.agg c')).run P w = .ok () (w.setRow g c') := by
    simp only [Instr.storeAt, Instr.sureAddr, Sem.run_bind, Sem.run_pure, Result.andThen]
    exact hv
  unfold Oper.wp
  simp [execOp, ho, hx, hy, hrun, Result.andThen]
  exact hK _ _ h

/-- a new variable of an array's type; the world behind it is a letter -/
theorem wpList_alloc_arr {P : Program} {w : World} {ops : Array Oper} {rest : List Oper} {o : Oper} {a : Act} {Q : Exit → Act → World → Prop} (hgd : o.guard = none) (T : TypeId) (ho : o.op = .alloc T)
    (i : TypeInfo) (z : Value) (hi : P.info? T = some i) (hz : i.zero = some z)
    (h : ∀ w', Hid (w' = w.alloc (.cells z.cells T)) → wpList P ops Q rest (a.put o.dst (.pointer (some ⟨w.heap.size, 0, none⟩))) w') : wpList P ops Q (o :: rest) a w := by
  refine wpList_plain hgd fun K hK => ?_
  unfold Oper.wp
  simp [execOp, ho, Instr.alloc, zeroValue, typeInfo, hi, hz, Result.andThen]
  exact hK _ _ (h _ rfl)

/-- an array that is built; its cells are a term of one's own -/
theorem wpList_build_arr {P : Program} {w : World} {ops : Array Oper} {rest : List Oper} {o : Oper} {a : Act} {Q : Exit → Act → World → Prop} (hgd : o.guard = none) (T : TypeId) (parts : Array (Nat × Operand)) (ho : o.op = .build T parts)
    (vals : Array (Nat × Value)) (hp : (parts.map fun (i, x) => (i, a.eval x)) = vals) (c : Array Value) (hb : P.built T vals.toList = some c)
    (h : wpList P ops Q rest (a.put o.dst (.agg c)) w) : wpList P ops Q (o :: rest) a w := by
  refine wpList_plain hgd fun K hK => ?_
  have hrun := run_build (P := P) w T vals c hb
  unfold Oper.wp
  simp [execOp, ho, hp, hrun, Result.andThen]
  exact hK _ _ h

theorem block_new {w w' : World} {c : Array Value} {T : TypeId} (h : Hid (w' = w.alloc (.cells c T))) : w'.heap[w.heap.size]? = some (.cells c T (0, 0)) ∧ w'.heap.size = w.heap.size + 1 ∧ Below w.heap.size w w' := by
  have e : w' = w.alloc (.cells c T) := h
  subst e
  exact ⟨heap_alloc_new w _, by simp, (Below.refl _ _).alloc (Nat.le_refl _) _⟩

/-- two results, the first an array that lies in memory -/
theorem ret_cell_tmp {P : Program} {fn : Func} {p u : Tmp} {T : TypeId} (h : fn.results = #[.cell p T, .tmp u]) (tmps : Array Value) (w : World) (g : Nat) (c : Array Value) (n : Nat) (e : TypeId)
    (hp : tmps.getD p undef = .pointer (some ⟨g, 0, none⟩)) (hb : w.heap[g]? = some (.cells c T (0, 0))) (hu : P.underlying T = some (.array n e)) (hi : (P.info? T).map (·.size) = some c.size) :
    (results fn tmps).run P w = .ok (.tuple #[.agg c, tmps.getD u undef]) w := by
  rw [results_cell_tmp h, hp]
  have hl := run_loadVar_row (P := P) w g T T c (0, 0) _ hb hu rfl hi
  simp [asAddr, Result.andThen, hl]

/-- one result, an array that lies in memory -/
theorem ret_cell {P : Program} {fn : Func} {p : Tmp} {T : TypeId} (h : fn.results = #[.cell p T]) (tmps : Array Value) (w : World) (g : Nat) (c : Array Value) (n : Nat) (e : TypeId)
    (hp : tmps.getD p undef = .pointer (some ⟨g, 0, none⟩)) (hb : w.heap[g]? = some (.cells c T (0, 0))) (hu : P.underlying T = some (.array n e)) (hi : (P.info? T).map (·.size) = some c.size) :
    (results fn tmps).run P w = .ok (.agg c) w := by
  have hl := run_loadVar_row (P := P) w g T T c (0, 0) _ hb hu rfl hi
  have hp' : tmps[p]?.getD undef = .pointer (some ⟨g, 0, none⟩) := by simpa using hp
  simp [results, h, hp', asAddr, hl]

/-- an array of bytes in memory -/
def Arr8 (w : World) (g : Nat) (T : TypeId) (xs : List Int) : Prop := w.heap[g]? = some (.cells (xs.map (Value.int .u8)).toArray T (0, 0))

theorem Arr8.cell {w : World} {g : Nat} {T : TypeId} {xs : List Int} (h : Arr8 w g T xs) (j : Nat) (hj : j < xs.length) : w.cell? ⟨g, j, none⟩ = some (.int .u8 (xs.getD j 0)) := by
  rw [cell_of_row w g j _ T (0, 0) h]
  simp [List.getD, hj]

theorem Arr8.free {w : World} {g : Nat} {T : TypeId} {xs : List Int} (h : Arr8 w g T xs) (j : Nat) : w.frozen? ⟨g, j, none⟩ = false := frozen_of_row w g j _ T h

theorem Arr8.set {w : World} {g : Nat} {T : TypeId} {xs : List Int} (h : Arr8 w g T xs) (j : Nat) (x : Int) : Arr8 (w.setCell ⟨g, j, none⟩ (.int .u8 x)) g T (xs.set j x) := by
  have := heap_setCell_same w g j _ T (.int .u8 x) h
  unfold Arr8
  rw [this]
  simp [List.map_set]

theorem bytes_one (xs : List Int) : (xs.map (Value.int .u8)).toArray.all (·.oneCell') = true :=
  all_oneCell_toArray (by intro v hv; obtain ⟨n, _, rfl⟩ := List.mem_map.1 hv; rfl)

theorem take_set_next (xs : List Int) (t : Nat) (x : Int) (h : t < xs.length) : (xs.set t x).take (t + 1) = xs.take t ++ [x] := by
  rw [List.take_succ_eq_append_getElem (by simpa using h), List.take_set_of_le (Nat.le_refl t)]
  simp
end Go.Proofs.YtpdfggjhedgdlaaDoor
