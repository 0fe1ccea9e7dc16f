/-
  A region that draws its order and closes with a store over a cell that it has read: the read may be taken first, since the store waits for it; no conditions.
  The bytes of a number as a list ('encF'), what a slice of bytes holds ('Row8'), and small facts on both; no conditions.
  The walks of num's writers: withRoom, layUint, fold, PutUint, PutInt: what each lays, in new memory; no conditions beyond the sizes that every reading has.
-/
import Derived.Test.YtmnbfcpkaglniaaGreatDoorS00
import Derived.Deep.RegionHeld3
import Derived.WalkKit
import Derived.WalkSpells
import Derived.OpenShut
import Derived.Test.YtmnbfcpkaglniaaGreatDoorRows
import Derived.Laws.Bits128
import Derived.Laws.BitsAllLaws
set_option linter.unusedVariables false
set_option linter.unusedSimpArgs false
namespace Go.Proofs.YtmnbfcpkaglniaaGreatDoor
open Go.RowKit
section
variable {P : Program} {ops : Array Oper} {Q : Exit → Act → World → Prop} {md : Region.Mode} {S : World → Prop} {z : Nat}
/-- whatever order is picked from here on, S holding behind each operation but number z -/
def Till (P : Program) (md : Region.Mode) (ops : Array Oper) (Q : Exit → Act → World → Prop) (S : World → Prop) (z : Nat) : Nat → Array Bool → Act → World → Prop
  | 0, listed, a, w => Region.ready md ops listed = [] ∧ Q .normal a w
  | f + 1, listed, a, w => (Region.ready md ops listed = [] → Q .normal a w) ∧ ∀ i ∈ Region.ready md ops listed, wpOp P ops Q i (fun a' w' => (i = z ∨ S w') ∧ Till P md ops Q S z f (listed.setIfInBounds i true) a' w') a w
theorem Till.any : ∀ (f : Nat) (listed : Array Bool) (a : Act) (w : World), Till P md ops Q S z f listed a w → wpAny P md ops Q f listed a w
  | 0, _, _, _, h => h
  | f + 1, _, _, _, h => ⟨h.1, fun i hi => wpOp_mono (fun a' w' h' => Till.any f _ a' w' h'.2) (h.2 i hi)⟩
theorem Till.first {i : Nat} {oi oz : Oper} {v : Value} (hi : ops[i]? = some oi) (hz : ops[z]? = some oz) (hwait : ∃ e ∈ oz.after, Region.binds md e = true ∧ e.on = i)
    (hsel : ∀ (j : Nat) (o : Oper) cs b, ops[j]? = some o → o.op ≠ .select cs b) (hQ : ∀ c a w, Q (.panic c) (a.put oi.dst v) w → Q (.panic c) a w) :
    ∀ (f : Nat) (listed : Array Bool) (a : Act) (w : World),
      (∀ j oj, ops[j]? = some oj → j ≠ i → listed.getD j true = false → (∀ e ∈ oj.after, Region.binds md e = true → e.on ≠ i) → oi.apart ops oj = true) →
      i ∈ Region.ready md ops listed → YieldsIf P ops S oi v a → S w →
      Till P md ops Q S z f (listed.setIfInBounds i true) (a.put oi.dst v) w → Till P md ops Q S z (f + 1) listed a w := by
  intro f
  induction f with
  | zero =>
    intro listed a w _ hr hy hS H
    refine ⟨fun h => (by rw [h] at hr; cases hr), fun j hj => ?_⟩
    by_cases e : j = i
    · rw [e]
      exact hy.wpOp hi hS ⟨Or.inr hS, H⟩
    · exact absurd (ready_mono hj e) (by rw [H.1]; simp)
  | succ f ih =>
    intro listed a w hfree hr hy hS H
    refine ⟨fun h => (by rw [h] at hr; cases hr), fun j hj => ?_⟩
    by_cases e : j = i
    · rw [e]
      exact hy.wpOp hi hS ⟨Or.inr hS, H⟩
    · obtain ⟨hun, oj, hoj, hall⟩ := mem_ready.1 hj
      have hi0 := (mem_ready.1 hr).1
      -- nobody who may come up now waits for number i
      have hnot : ∀ x ∈ oj.after, Region.binds md x = true → x.on ≠ i := fun x hx hb he => by
        have h1 := hall x hx hb
        rw [he] at h1
        rcases Nat.lt_or_ge i listed.size with hl | hl
        · simp [hl] at hi0 h1
          rw [hi0] at h1
          cases h1
        · simp [Array.getElem?_eq_none hl] at h1
      have hjz : j ≠ z := fun he => by
        obtain ⟨x, hx, hb, hon⟩ := hwait
        rw [he] at hoj
        rw [hoj] at hz
        cases hz
        exact hnot x hx hb hon
      have h2 := wpOp_putIf hoj (hfree j oj hoj e hun hnot) (fun cs b => hsel i oi cs b hi) (fun cs b => hsel j oj cs b hoj) hQ hy (H.2 j (ready_mono hj e))
      refine wpOp_mono (fun a' w' h3 => ?_) h2
      obtain ⟨hy', hS', hT⟩ := h3
      have hSw : S w' := hS'.resolve_left hjz
      refine ⟨Or.inr hSw, ih (listed.setIfInBounds j true) a' w' (fun k ok hk hki hu hno => hfree k ok hk hki ?_ hno) (ready_mono hr (Ne.symm e)) hy' hSw ?_⟩
      · by_cases hjk : j = k
        · rw [← hjk]; exact hun
        · rw [getD_set_ne true hjk] at hu; exact hu
      · rw [Array.setIfInBounds_comm _ _ e]
        exact hT
/-- number i first -/
theorem till_take {f : Nat} {listed : Array Bool} {a : Act} {w : World} (i : Nat) {oi oz : Oper} {v : Value} (d : Option Tmp) (hi : ops[i]? = some oi) (hd : oi.dst = d) (hz : ops[z]? = some oz) (hwait : (oz.after.any fun e => Region.binds md e && e.on == i) = true)
    (hs : Region.noSelect ops = true) (hf : Region.free md ops listed i = true) (hr : (Region.ready md ops listed).contains i = true)
    (hQ : ∀ c a w, Q (.panic c) (a.put d v) w → Q (.panic c) a w) (hy : YieldsIf P ops S oi v a) (hS : S w)
    (h : Till P md ops Q S z f (listed.setIfInBounds i true) (a.put d v) w) : Till P md ops Q S z (f + 1) listed a w := by
  subst hd
  refine Till.first hi hz ?_ (Region.noSelect_spec hs) hQ f listed a w (Region.free_spec hi hf) (by simpa using hr) hy hS h
  rw [Array.any_eq_true] at hwait
  obtain ⟨k, hk, hx⟩ := hwait
  rw [Bool.and_eq_true, beq_iff_eq] at hx
  exact ⟨_, Array.getElem_mem hk, hx.1, hx.2⟩
/-- one alone may come up -/
theorem till_one {f : Nat} {listed : Array Bool} {a : Act} {w : World} (i : Nat) {o : Oper} (hr : Region.ready md ops listed = [i]) (ho : ops[i]? = some o)
    (h : ∀ K' : Act → World → Prop, Shut (∀ a w, (i = z ∨ S w) → Till P md ops Q S z f (listed.setIfInBounds i true) a w → K' a w) → if Region.wanted o (yielded ops a.tmps) = true then Oper.wp P o a w K' Q else K' (a.put o.dst undef) w) :
    Till P md ops Q S z (f + 1) listed a w := by
  refine ⟨fun e => (by rw [e] at hr; cases hr), fun j hj => ?_⟩
  rw [hr, List.mem_singleton] at hj
  subst hj
  exact wpOp_step ho (fun K' hK => h K' (fun a w hS hT => hK a w ⟨hS, hT⟩))
/-- two may come up -/
theorem till_two {f : Nat} {listed : Array Bool} {a : Act} {w : World} (i j : Nat) {oi oj : Oper} (hr : Region.ready md ops listed = [i, j]) (hi : ops[i]? = some oi) (hj : ops[j]? = some oj)
    (h1 : ∀ K' : Act → World → Prop, Shut (∀ a w, (i = z ∨ S w) → Till P md ops Q S z f (listed.setIfInBounds i true) a w → K' a w) → if Region.wanted oi (yielded ops a.tmps) = true then Oper.wp P oi a w K' Q else K' (a.put oi.dst undef) w)
    (h2 : ∀ K' : Act → World → Prop, Shut (∀ a w, (j = z ∨ S w) → Till P md ops Q S z f (listed.setIfInBounds j true) a w → K' a w) → if Region.wanted oj (yielded ops a.tmps) = true then Oper.wp P oj a w K' Q else K' (a.put oj.dst undef) w) :
    Till P md ops Q S z (f + 1) listed a w := by
  refine ⟨fun e => (by rw [e] at hr; cases hr), fun k hk => ?_⟩
  rw [hr, List.mem_cons, List.mem_singleton] at hk
  rcases hk with e | e
  · rw [e]
    exact wpOp_step hi (fun K' hK => h1 K' (fun a w hS hT => hK a w ⟨hS, hT⟩))
  · rw [e]
    exact wpOp_step hj (fun K' hK => h2 K' (fun a w hS hT => hK a w ⟨hS, hT⟩))
theorem till_done {listed : Array Bool} {a : Act} {w : World} (hr : Region.ready md ops listed = []) (h : Q .normal a w) : ∀ f, Till P md ops Q S z f listed a w
  | 0 => ⟨hr, h⟩
  | _ + 1 => ⟨fun _ => h, by rw [hr]; simp⟩
theorem till_begin {id : Nat} {a : Act} {w : World} (z : Nat) (hm : P.follows .mixedOrders = true) (h : Till P .any ops Q S z ops.size (Array.replicate ops.size false) a w.drew) : (Code.region id ops true).wp P Q a w :=
  wp_region_any hm (Till.any _ _ _ _ h)
end
/-- the bytes of a number, in at most f + 1 groups -/
def encF : Nat → Int → List Int
  | 0, n => [n]
  | f + 1, n => if n < 128 then [n] else (n % 128 + 128) :: encF f (n / 128)
theorem encF_small (f : Nat) (n : Int) (h : n < 128) : encF f n = [n] := by
  cases f <;> simp [encF, h]
theorem encF_great (f : Nat) (n : Int) (h : ¬ n < 128) : encF (f + 1) n = (n % 128 + 128) :: encF f (n / 128) := by
  simp [encF, h]
theorem encF_len (f : Nat) (n : Int) : 1 ≤ (encF f n).length ∧ (encF f n).length ≤ f + 1 := by
  induction f generalizing n with
  | zero => simp [encF]
  | succ f ih =>
    simp only [encF]
    split
    · simp
    · have := ih (n / 128); simp; omega
/-- a slice of bytes whose elements are zs -/
structure Row8 (w : World) (ao : Option Addr) (len cap : Nat) (zs : List Int) : Prop where
  length : zs.length = len
  none : ao = none → len = 0 ∧ cap = 0
  cells : ∀ ad, ao = some ad → ∀ j u, (zs.map (Value.int .u8))[j]? = some u → w.cell? (ad.add j) = some u
  small : ∀ n ∈ zs, 0 ≤ n ∧ n ≤ 255
  le : len ≤ cap
theorem Row8.later {w w' : World} {ao : Option Addr} {len cap : Nat} {zs : List Int} (h : Row8 w ao len cap zs) (hb : Below w.heap.size w w') : Row8 w' ao len cap zs :=
  ⟨h.length, h.none, fun ad ha j u hj => cell_later hb (h.cells ad ha j u hj), h.small, h.le⟩
theorem Row8.later' {B : Nat} {w w' : World} {ao : Option Addr} {len cap : Nat} {zs : List Int} (h : Row8 w ao len cap zs) (hb : Below B w w') (hB : ∀ ad, ao = some ad → 0 < len → ad.block < B) : Row8 w' ao len cap zs :=
  ⟨h.length, h.none, fun ad ha j u hj => by
    have hl : j < zs.length := by
      have := List.getElem?_eq_some_iff.1 hj
      simpa using this.1
    have hz := h.length
    have hblk : (ad.add j).block = ad.block := by unfold Addr.add; split <;> rfl
    rw [hb.cell (p := ad.add j) (by rw [hblk]; exact hB ad ha (by omega))]
    exact h.cells ad ha j u hj, h.small, h.le⟩
theorem Row8.at {w : World} {ao : Option Addr} {len cap : Nat} {zs : List Int} (h : Row8 w ao len cap zs) (hp : 0 < len) :
    ∃ b off, ao = some ⟨b, off, Option.none⟩ ∧ ∀ j, j < len → w.cell? ⟨b, off + j, Option.none⟩ = some (.int .u8 (zs.getD j 0)) := by
  have hz := h.length
  cases ao with
  | none => have := (h.none rfl).1; omega
  | some ad =>
    have hc : ∀ i, i < zs.length → w.cell? (ad.add i) = some (.int .u8 (zs.getD i 0)) := by
      intro i hi
      refine h.cells ad rfl i _ ?_
      simp [hi]
    obtain ⟨b, off, rfl, hcc⟩ := ints_at hc (by omega)
    exact ⟨b, off, rfl, fun j hj => hcc j (by omega)⟩
theorem Row8.block {w : World} {ao : Option Addr} {len cap : Nat} {zs : List Int} (h : Row8 w ao len cap zs) (ad : Addr) (ha : ao = some ad) (hp : 0 < len) : ad.block < w.heap.size := by
  obtain ⟨b, off, rfl, hc⟩ := h.at hp
  cases ha
  exact World.block_lt_of_cell? _ _ (hc 0 hp)
/-- a row that the call itself owns, as a slice of bytes -/
theorem Row8.own {w : World} {base g n cap : Nat} {zs : List Int} (h : w.ownsRow base 5 1 (.slice (some ⟨g, 0, Option.none⟩) n cap) n (zs.map (Value.int .u8))) (hs : ∀ n ∈ zs, 0 ≤ n ∧ n ≤ 255) :
    Row8 w (some ⟨g, 0, Option.none⟩) n cap zs := by
  have hl : zs.length = n := by simpa using h.1
  refine ⟨hl, (fun e => by cases e), fun ad ha j u hj => ?_, hs, ?_⟩
  · cases ha
    exact h.cells (g := g) rfl j u hj
  · rcases h.2 with ⟨e, _⟩ | ⟨g', cap', cur, e, _, _, hle, _⟩
    · cases e
    · cases e; exact hle
theorem encF_bytes (f : Nat) (n : Int) (h0 : 0 ≤ n) (h : n < 128 ^ f * 128) : ∀ c ∈ encF f n, 0 ≤ c ∧ c ≤ 255 := by
  induction f generalizing n with
  | zero => intro c hc; simp [encF] at hc; simp at h; omega
  | succ f ih =>
    intro c hc
    simp only [encF] at hc
    split at hc
    · simp at hc; omega
    · simp at hc
      rcases hc with rfl | hc
      · omega
      · refine ih (n / 128) (by omega) ?_ c hc
        have : n < 128 * (128 ^ f * 128) := by rw [Int.pow_succ] at h; omega
        omega
theorem encF9_bytes (n : Int) (h0 : 0 ≤ n) (h : n ≤ 18446744073709551615) : ∀ c ∈ encF 9 n, 0 ≤ c ∧ c ≤ 255 :=
  encF_bytes 9 n h0 (by have e : (128 : Int) ^ 9 * 128 = 1180591620717411303424 := by decide
                        omega)
theorem info5 : (Tryz.prog.info? 5).map (fun i => (i.zero, i.size, i.bytes)) = some (some (.int .u8 0), 1, 1) := by kernel_rfl
set_option maxRecDepth 100000 in
set_option maxHeartbeats 400000 in
theorem withRoom_any (ao : Option Addr) (len cap r : Nat) (zs : List Int) (w : World) (hr : Row8 w ao len cap zs) (hm : len + r ≤ 281474976710656) :
    Calls Tryz.prog 169 #[.slice ao len cap, .int .i64 r] w fun e w' => e = .returned (.slice (some ⟨w.heap.size, 0, none⟩) len (len + r)) ∧
      w'.ownsRow w.heap.size 5 1 (.slice (some ⟨w.heap.size, 0, none⟩) len (len + r)) len (zs.map (Value.int .u8)) ∧ Below w.heap.size w w' := by
  obtain ⟨i0, hi, hz0, hz1, hz2⟩ := info_parts info5
  go_enter Tryz.func169, Tryz.ntmps169
  go_wp2_with (first
    | (at_make; refine wpList_make_own _ rfl _ _ 90 rfl w.heap.size 5 i0 (.int .u8 0) 1 Tryz.underlying90 hi hz0 hz1 _ _ _ (len + r) rfl rfl (by omega) (by rw [hz2]; omega) (by unfold maxLen; omega) (Nat.le_refl _) ?_; intro w1 hown1 hgrow1)
    | (at_builtin; refine wpList_append_fits_any _ rfl (.tmp 9) (.tmp 10) 90 rfl w.heap.size 5 i0 1 Tryz.underlying90 hi hz1 w.heap.size 0 (len + r) [] rfl hown1 ao len cap (zs.map (Value.int .u8)) rfl (by simp [hr.length]) hr.none (fun ad ha j u hj => hgrow1.cell (hr.cells ad ha j u hj) (by simp)) (ints_oneCell _ _) (by omega) ?_; intro w2 hown2 hgrow2; simp only [Nat.zero_add, List.nil_append] at hown2))
  go_ret
  exact ⟨by simp, hown2, ((Below.refl _ _).grown hgrow1 (Nat.le_refl _) (by simp)).grown hgrow2 hgrow1.size (by simp)⟩
theorem enc_step (j : Nat) (m : Int) (hj : j < 9) (hm : ¬ m < 128) : encF (9 - j) m = (m % 128 + 128) :: encF (9 - (j + 1)) (m / 128) := by
  have e : 9 - j = 9 - (j + 1) + 1 := by omega
  rw [e, encF_great _ _ hm]
theorem enc_last (j : Nat) (m : Int) (h : m < 128 ∨ j = 9) : encF (9 - j) m = [m] := by
  rcases h with h | rfl
  · exact encF_small _ _ h
  · rfl
theorem ret_val {a b : Value} (h : a = b) : Ending.returned a = .returned b := by rw [h]
set_option maxRecDepth 100000 in
set_option maxHeartbeats 800000 in
theorem layUint_any (g k cap : Nat) (n : Int) (xs : List Value) (w : World) (base : Nat) (h0 : 0 ≤ n) (h1 : n ≤ 18446744073709551615) (hb : base ≤ w.heap.size) (hg : base ≤ g)
    (hown : w.ownsRow base 5 1 (.slice (some ⟨g, 0, none⟩) k cap) k xs) (hroom : k + 10 ≤ cap) :
    Calls Tryz.prog 168 #[.slice (some ⟨g, 0, none⟩) k cap, .int .u64 n] w fun e w' => e = .returned (.slice (some ⟨g, 0, none⟩) (k + (encF 9 n).length) cap) ∧
      w'.ownsRow base 5 1 (.slice (some ⟨g, 0, none⟩) (k + (encF 9 n).length) cap) (k + (encF 9 n).length) (xs ++ (encF 9 n).map (Value.int .u8)) ∧ Below base w w' := by
  obtain ⟨i0, hi, hz0, hz1, hz2⟩ := info_parts info5
  go_enter Tryz.func168, Tryz.ntmps168
  go_wp2
  go_loopw [0, 1, 5] (fun v x i wr => ∃ (j : Nat) (m : Int) (ys : List Value), j ≤ 9 ∧ i = .int .i64 j ∧ x = .int .u64 m ∧ 0 ≤ m ∧ m ≤ 18446744073709551615 ∧ v = .slice (some ⟨g, 0, none⟩) (k + j) cap ∧
      wr.ownsRow base 5 1 (.slice (some ⟨g, 0, none⟩) (k + j) cap) (k + j) ys ∧ Hid (xs ++ (encF 9 n).map (Value.int .u8) = ys ++ (encF (9 - j) m).map (Value.int .u8)) ∧ Hid ((encF 9 n).length = j + (encF (9 - j) m).length) ∧ Hid (m < 128 ^ (9 - j) * 128) ∧ Below base w wr)
    (fun _ _ i _ => 9 - (intOf i).toNat)
  case atStart => exact ⟨0, n, xs, by omega, rfl, rfl, h0, h1, rfl, hown, hide rfl, hide (by simp), hide (by have e : (128 : Int) ^ 9 * 128 = 1180591620717411303424 := by decide
                                                                                                             show n < 128 ^ 9 * 128
                                                                                                             omega), Below.refl _ _⟩
  case round =>
    obtain ⟨j, m, ys, hj, rfl, rfl, m0, m1, rfl, hown', HE, HL, HM, hbel⟩ := hrel
    have hsz := hbel.size
    by_cases hj9 : j < 9
    · by_cases hm : m < 128
      · go_wp2_with (first | (at_builtin; refine wpList_append_fits _ rfl (.tmp 19) (.tmp 22) 90 rfl base 5 i0 1 Tryz.underlying90 hi hz1 g (k + j) cap ys rfl (hown'.alloc _) ⟨wr.heap.size, 0, none⟩ 1 1 [.int .u8 m] rfl rfl (cell_one_new _ _ _) (by intro u hu; simp at hu; subst hu; rfl) (by omega) ?_; intro w1 hown1 hgrow1))
        go_ret
        have e := enc_last j m (Or.inl hm)
        have eL : k + (encF 9 n).length = k + j + 1 := by rw [unhide HL, e]; simp; omega
        have eX : xs ++ (encF 9 n).map (Value.int .u8) = ys ++ [.int .u8 m] := by rw [unhide HE, e]; rfl
        rw [eL, eX]
        exact ⟨rfl, hown1, (hbel.alloc (by omega) _).grown hgrow1 (by simp; omega) (by simp; omega)⟩
      · have hor := u8_or128_right (m % 128) (by omega) (by omega)
        go_wp2_with (first | (at_builtin; refine wpList_append_fits _ rfl (.tmp 9) (.tmp 14) 90 rfl base 5 i0 1 Tryz.underlying90 hi hz1 g (k + j) cap ys rfl (hown'.alloc _) ⟨wr.heap.size, 0, none⟩ 1 1 [.int .u8 (m % 128 + 128)] rfl rfl (cell_one_new _ _ _) (by intro u hu; simp at hu; subst hu; rfl) (by omega) ?_; intro w1 hown1 hgrow1))
        go_roundw
        case rel =>
          have e := enc_step j m hj9 hm
          refine ⟨j + 1, m / 128, ys ++ [.int .u8 (m % 128 + 128)], by omega, by go_num, by go_num, by omega, by omega, rfl, hown1, hide ?_, hide ?_, hide ?_, (hbel.alloc (by omega) _).grown hgrow1 (by simp; omega) (by simp; omega)⟩
          · rw [unhide HE, e]; simp
          · rw [unhide HL, e]; simp; omega
          · have hm' := unhide HM
            have e9 : 9 - j = 9 - (j + 1) + 1 := by omega
            rw [e9, Int.pow_succ] at hm'
            omega
        case measure => simp [intOf]; omega
    · have hj' : j = 9 := by omega
      subst hj'
      have hm : m < 128 := by have := unhide HM; simpa using this
      go_wp2_with (first | (at_builtin; refine wpList_append_fits _ rfl (.tmp 19) (.tmp 22) 90 rfl base 5 i0 1 Tryz.underlying90 hi hz1 g (k + 9) cap ys rfl (hown'.alloc _) ⟨wr.heap.size, 0, none⟩ 1 1 [.int .u8 m] rfl rfl (cell_one_new _ _ _) (by intro u hu; simp at hu; subst hu; rfl) (by omega) ?_; intro w1 hown1 hgrow1))
      go_ret
      have e := enc_last 9 m (Or.inr rfl)
      have eL : k + (encF 9 n).length = k + 9 + 1 := by rw [unhide HL, e]; simp
      have eX : xs ++ (encF 9 n).map (Value.int .u8) = ys ++ [.int .u8 m] := by rw [unhide HE, e]; rfl
      rw [eL, eX]
      exact ⟨rfl, hown1, (hbel.alloc (by omega) _).grown hgrow1 (by simp; omega) (by simp; omega)⟩
set_option maxRecDepth 100000 in
set_option maxHeartbeats 400000 in
theorem putUint_any (ao : Option Addr) (len cap : Nat) (n : Int) (zs : List Int) (w : World) (hr : Row8 w ao len cap zs) (hm : len + 10 ≤ 281474976710656) (h0 : 0 ≤ n) (h1 : n ≤ 18446744073709551615) :
    Calls Tryz.prog 118 #[.slice ao len cap, .int .u64 n] w fun e w' => e = .returned (.slice (some ⟨w.heap.size, 0, none⟩) (len + (encF 9 n).length) (len + 10)) ∧
      w'.ownsRow w.heap.size 5 1 (.slice (some ⟨w.heap.size, 0, none⟩) (len + (encF 9 n).length) (len + 10)) (len + (encF 9 n).length) ((zs ++ encF 9 n).map (Value.int .u8)) ∧ Below w.heap.size w w' := by
  go_enter Tryz.func118, Tryz.ntmps118
  go_wp2_with fail
  refine (withRoom_any ao len cap 10 zs w hr hm).mono ?_
  rintro e w1 ⟨rfl, hown, hb1⟩
  go_wp2_with fail
  have hs := hb1.size
  refine (layUint_any w.heap.size len (len + 10) n (zs.map (Value.int .u8)) w1 w.heap.size h0 h1 hs (Nat.le_refl _) hown (Nat.le_refl _)).mono ?_
  rintro e w2 ⟨rfl, hown2, hb2⟩
  rw [← List.map_append] at hown2
  go_wp2_with fail
  go_ret
  exact ⟨rfl, hown2, hb1.trans hb2⟩
theorem not_i64 (n : Int) (h0 : -9223372036854775808 ≤ n) (h1 : n ≤ 9223372036854775807) : bits .xor .i64 (-1) n = -n - 1 := by
  show IntKind.i64.wrap ((BitVec.ofInt 64 (-1) ^^^ BitVec.ofInt 64 n).toNat : Int) = _
  have e : BitVec.ofInt 64 (-1) = BitVec.allOnes 64 := by decide
  rw [e, BitVec.allOnes_xor, BitVec.toNat_not, BitVec.toNat_ofInt, IntKind.wrap_i64]
  omega
/-- numbers with a sign, taken in turn -/
def foldI (n : Int) : Int := if n < 0 then -2 * n - 1 else 2 * n
def unfoldI (n : Int) : Int := if n % 2 = 1 then -(n / 2) - 1 else n / 2
theorem foldI_neg (n : Int) (h : n < 0) : foldI n = -2 * n - 1 := by simp [foldI, h]
theorem foldI_pos (n : Int) (h : ¬ n < 0) : foldI n = 2 * n := by rw [foldI, if_neg h]
theorem ret_int {k : IntKind} {a b : Int} (h : a = b) : Ending.returned (.int k a) = .returned (.int k b) := by rw [h]
set_option maxRecDepth 100000 in
set_option maxHeartbeats 400000 in
theorem fold_any (n : Int) (w : World) (h0 : -9223372036854775808 ≤ n) (h1 : n ≤ 9223372036854775807) :
    Calls Tryz.prog 264 #[.int .i64 n] w fun e w' => e = .returned (.int .u64 (foldI n)) ∧ w' = w := by
  by_cases hn : n < 0
  · have hx := not_i64 n h0 h1
    go_enter Tryz.func264, Tryz.ntmps264
    go_wp2
    go_ret
    exact ⟨ret_int (by rw [foldI_neg n hn]; simp only [IntKind.wrap_u64]; omega), rfl⟩
  · go_enter Tryz.func264, Tryz.ntmps264
    go_wp2
    go_ret
    exact ⟨ret_int (by rw [foldI_pos n (by omega)]), rfl⟩
set_option maxRecDepth 100000 in
set_option maxHeartbeats 400000 in
theorem putInt_any (ao : Option Addr) (len cap : Nat) (n : Int) (zs : List Int) (w : World) (hr : Row8 w ao len cap zs) (hm : len + 10 ≤ 281474976710656) (h0 : -9223372036854775808 ≤ n) (h1 : n ≤ 9223372036854775807) :
    Calls Tryz.prog 246 #[.slice ao len cap, .int .i64 n] w fun e w' => e = .returned (.slice (some ⟨w.heap.size, 0, none⟩) (len + (encF 9 (foldI n)).length) (len + 10)) ∧
      w'.ownsRow w.heap.size 5 1 (.slice (some ⟨w.heap.size, 0, none⟩) (len + (encF 9 (foldI n)).length) (len + 10)) (len + (encF 9 (foldI n)).length) ((zs ++ encF 9 (foldI n)).map (Value.int .u8)) ∧ Below w.heap.size w w' := by
  have f0 : 0 ≤ foldI n := by unfold foldI; split <;> omega
  have f1 : foldI n ≤ 18446744073709551615 := by unfold foldI; split <;> omega
  go_enter Tryz.func246, Tryz.ntmps246
  go_wp2_with fail
  refine (fold_any n _ h0 h1).mono ?_
  rintro e w1 ⟨rfl, rfl⟩
  go_wp2_with fail
  refine (putUint_any ao len cap (foldI n) zs _ hr hm f0 f1).mono ?_
  rintro e w2 ⟨rfl, hown2, hb2⟩
  go_wp2_with fail
  go_ret
  exact ⟨rfl, hown2, hb2⟩
end Go.Proofs.YtmnbfcpkaglniaaGreatDoor
