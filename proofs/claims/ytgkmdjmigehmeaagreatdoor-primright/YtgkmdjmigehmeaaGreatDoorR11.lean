/-
  A value's bytes are bytes; no conditions but the form's own reach.
-/
import Derived.Test.YtgkmdjmigehmeaaGreatDoorR05
import Derived.Test.YtgkmdjmigehmeaaGreatDoorR10
import Derived.Test.YtgkmdjmigehmeaaGreatDoorR06
import Derived.Test.YtgkmdjmigehmeaaGreatDoorR07
import Derived.Test.YtgkmdjmigehmeaaGreatDoorR02
import Derived.Test.YtgkmdjmigehmeaaGreatDoorR08
namespace Go.Proofs.YtgkmdjmigehmeaaGreatDoor
set_option linter.unusedVariables false
set_option linter.unusedSimpArgs false
set_option maxRecDepth 100000
set_option maxHeartbeats 16000000
open Go.RowKit
def fitL : List Vl → Bool
 | [] => true
 | .mk _ n s l ks :: r => (decide (-9223372036854775808 ≤ n ∧ n ≤ 9223372036854775807) && decide (s.size ≤ 140737488351232) && decide (l.length ≤ 140737488351232) && ks.all (fun t => decide (t.size ≤ 140737488351232)) && fitL l) && fitL r
def fitB : Vl → Bool
 | .mk _ n s l ks => decide (-9223372036854775808 ≤ n ∧ n ≤ 9223372036854775807) && decide (s.size ≤ 140737488351232) && decide (l.length ≤ 140737488351232) && ks.all (fun t => decide (t.size ≤ 140737488351232)) && fitL l
theorem fitL_nil : fitL [] = true := by simp only [fitL]
theorem fitL_cons (x : Vl) (r : List Vl) : fitL (x :: r) = (fitB x && fitL r) := by cases x; simp only [fitL, fitB]
theorem fit_of {w : World} {P : Nat → Prop} {kind n : Int} {s : ByteArray} {l : List Vl} {ks : List ByteArray} {al ak : Option Addr} {cl ck : Nat} {V : Nat → List Value} (h : VF w P kind n s l ks al ak cl ck V) (hl : fitL l = true) : fitB (.mk kind n s l ks) = true := by
 simp only [fitB, hl, Bool.and_true, Bool.and_eq_true, decide_eq_true_eq, List.all_eq_true]
 exact ⟨⟨⟨h.bn, h.bs⟩, h.bl⟩, h.bt⟩
theorem IsPL.fit {w : World} {P : Nat → Prop} : ∀ (l : List Vl) (V : Nat → List Value), IsPL w P l V → fitL l = true
 | [], _, _ => fitL_nil
 | .mk kind n s l ks :: r, V, h => by
  simp only [IsPL] at h
  obtain ⟨⟨al, ak, cl, ck, V', _, hf, hl⟩, hr⟩ := h
  rw [fitL_cons, fit_of hf (IsPL.fit l V' hl), IsPL.fit r _ hr]
  rfl
theorem IsP.fit {w : World} {P : Nat → Prop} {v : Vl} {x : Value} (h : IsP w P v x) : fitB v = true := by
 obtain ⟨al, ak, cl, ck, V, _, hf, hl⟩ := h
 cases v with
 | mk kind n s l ks => exact fit_of hf (IsPL.fit l V hl)
theorem IsV.fit {w : World} {B : Nat} {v : Vl} {x : Value} (h : IsV w B v x) : fitB v = true := IsP.fit h
theorem tx_small (s : ByteArray) (hs : s.size ≤ 140737488351232) : ∀ c ∈ tx s, 0 ≤ c ∧ c ≤ 255 := by
 intro c hc
 unfold tx at hc
 rcases List.mem_append.1 hc with h | h
 ·exact encF9_bytes _ (by omega) (by omega) c h
 ·exact nums_small s c h
theorem foldI_range {n : Int} (h : -9223372036854775808 ≤ n ∧ n ≤ 9223372036854775807) : 0 ≤ foldI n ∧ foldI n ≤ 18446744073709551615 := by
 unfold foldI
 split <;> omega
theorem encN_small {k n : Int} {s : ByteArray} {ll : Nat} {ks : List ByteArray} {body : List Int} (hf : formB k n s ll ks = true) (hn : -9223372036854775808 ≤ n ∧ n ≤ 9223372036854775807) (hs : s.size ≤ 140737488351232) (hl : ll ≤ 140737488351232) (hb : ∀ c ∈ body, 0 ≤ c ∧ c ≤ 255) : ∀ c ∈ encN k n s ll body, 0 ≤ c ∧ c ≤ 255 := by
 have hlen := encF9_bytes (ll : Int) (by omega) (by omega)
 have hfold := encF9_bytes (foldI n) (foldI_range hn).1 (foldI_range hn).2
 have htx := tx_small s hs
 intro c hc
 unfold encN at hc
 rcases form_zero hf with ⟨rfl, _⟩ | ⟨rfl, h01, _⟩ | ⟨rfl, _⟩ | ⟨rfl, _⟩ | ⟨rfl, _⟩ | ⟨rfl, _⟩
 ·simp at hc; omega
 ·simp at hc; omega
 ·simp at hc
  rcases hc with rfl | hc
  ·omega
  ·exact hfold c hc
 ·simp at hc
  rcases hc with rfl | hc
  ·omega
  ·exact htx c hc
 ·simp at hc
  rcases hc with rfl | hc | hc
  ·omega
  ·exact hlen c hc
  ·exact hb c hc
 ·simp at hc
  rcases hc with rfl | hc | hc
  ·omega
  ·exact hlen c hc
  ·exact hb c hc
theorem keyAt_small : ∀ (ks : List ByteArray) (i : Nat), (∀ t ∈ ks, t.size ≤ 140737488351232) → (keyAt ks i).size ≤ 140737488351232
 | [], _, _ => by show (0 : Nat) ≤ _; omega
 | t :: _, 0, h => h t (by simp)
 | _ :: r, i + 1, h => keyAt_small r i (fun t ht => h t (by simp [ht]))
theorem wencL_small : ∀ (r : Bool) (l : List Vl) (ks : List ByteArray) (d : Nat), okL d l = true → fitL l = true → (∀ t ∈ ks, t.size ≤ 140737488351232) → ∀ c ∈ wencL r l ks, 0 ≤ c ∧ c ≤ 255
 | _, [], _, _, _, _, _ => by simp [wencL_nil]
 | r, .mk k n s l q :: xs, ks, 0, ho, _, _ => by simp [okL] at ho
 | r, .mk k n s l q :: xs, ks, d + 1, ho, hf, hk => by
  rw [okL_cons, Bool.and_eq_true] at ho
  rw [fitL_cons, Bool.and_eq_true] at hf
  have ho1 := ho.1
  have hf1 := hf.1
  simp only [okB, Bool.and_eq_true] at ho1
  simp only [fitB, Bool.and_eq_true, decide_eq_true_eq, List.all_eq_true] at hf1
  obtain ⟨⟨⟨⟨hn, hs⟩, hl⟩, hq⟩, hfl⟩ := hf1
  have h1 := wencL_small (decide (k = 5)) l q d ho1.2 hfl hq
  have h2 := wencL_small r xs ks.tail (d + 1) ho.2 hf.2 (fun t ht => hk t (List.mem_of_mem_tail ht))
  intro c hc
  rw [wencL_cons] at hc
  simp only [wenc] at hc
  rcases List.mem_append.1 hc with hc | hc
  ·rcases List.mem_append.1 hc with hc | hc
   ·cases r with
    | false => simp at hc
    | true =>
     rw [if_pos rfl] at hc
     exact tx_small _ (keyAt_small ks 0 hk) c hc
   ·exact encN_small ho1.1 hn hs hl h1 c hc
  ·exact h2 c hc
theorem wenc_small (v : Vl) (d : Nat) (ho : okB d v = true) (hf : fitB v = true) : ∀ c ∈ wenc v, 0 ≤ c ∧ c ≤ 255 := by
 have h := wencL_small false [v] [] d (by rw [okL_cons, ho, okL_nil]; rfl) (by rw [fitL_cons, hf, fitL_nil]; rfl) (fun t ht => by cases ht)
 rw [wencL_cons, wencL_nil] at h
 simpa using h
theorem wenc_pos (v : Vl) (d : Nat) (ho : okB d v = true) : 1 ≤ (wenc v).length := by
 cases v with
 | mk k n s l ks =>
  cases d with
  | zero => simp [okB] at ho
  | succ d =>
   simp only [okB, Bool.and_eq_true] at ho
   rcases form_zero ho.1 with ⟨rfl, _⟩ | ⟨rfl, _⟩ | ⟨rfl, _⟩ | ⟨rfl, _⟩ | ⟨rfl, _⟩ | ⟨rfl, _⟩
   ·rw [wenc0]; simp
   ·rw [wenc1]; simp
   ·rw [wenc2]; simp
   ·rw [wenc3]; simp
   ·rw [wenc4]; simp
   ·rw [wenc5]; simp
def wenc0R (v : Vl) : List Int := if rightB v = true then wenc v else []
def codeR (v : Vl) : Int := if rightB v = true then 0 else 40
theorem right_wt {v : Vl} (h : rightB v = true) : okB 8 v = true ∧ wt v ≤ 2048 := by
 unfold rightB at h
 rw [Bool.and_eq_true, decide_eq_true_eq] at h
 exact h
theorem row_of {w : World} {base n : Nat} {v : Value} {zs : List Int} (h : w.ownsRow base 5 1 v n (zs.map (Value.int .u8))) (hs : ∀ c ∈ zs, 0 ≤ c ∧ c ≤ 255) (hn : 0 < n) : ∃ g cap, v = .slice (some ⟨g, 0, none⟩) n cap ∧ base ≤ g ∧ Row8 w (some ⟨g, 0, none⟩) n cap zs ∧ cap ≤ maxLen := by
 obtain ⟨g, cap, rfl, hb⟩ := own_form h hn
 refine ⟨g, cap, rfl, hb, Row8.own h hs, ?_⟩
 obtain ⟨_, c2, e, _, _, h2, _⟩ := slice_form h
 cases e
 exact h2
theorem own_low {w : World} {base lo : Nat} {e : TypeId} {size : Nat} {v : Value} {n : Nat} {xs : List Value} (h : w.ownsRow base e size v n xs) (hb : lo ≤ base) : w.ownsRow lo e size v n xs := by
 refine ⟨h.1, ?_⟩
 rcases h.2 with hn | ⟨g, cap, cur, e, hbs, rest⟩
 ·exact .inl hn
 ·exact .inr ⟨g, cap, cur, e, Nat.le_trans hb hbs, rest⟩
theorem put_any (ab : Option Addr) (lb cb : Nat) (zs : List Int) (v : Vl) (x : Value) (B : Nat) (w : World) (hz : Row8 w ab lb cb zs) (hv : IsV w B v x) (hBs : B ≤ w.heap.size) (hb : lb + 43008 ≤ 140737489403904) :
  Calls Tryz.prog 44 #[.slice ab lb cb, x] w fun e w' => ∃ (ao : Option Addr) (len cap : Nat), e = .returned (.tuple #[.slice ao len cap, .int .i64 (codeR v)]) ∧ Row8 w' ao len cap (if rightB v = true then zs ++ wenc v else []) ∧ Below w.heap.size w w' ∧ (∀ a, ao = some a → w.heap.size ≤ a.block) ∧ cap ≤ maxLen ∧ (rightB v = true → w'.ownsRow w.heap.size 5 1 (.slice ao len cap) len ((zs ++ wenc v).map (Value.int .u8))) := by
 have hfit := hv.fit
 obtain ⟨k, n, s, l, ks, al, ak, cl, ck, hvv, hx⟩ := hv.shape
 clear hvv
 obtain ⟨m, hm⟩ : ∃ m, ks.length = m := ⟨_, rfl⟩
 obtain ⟨ln, hln⟩ : ∃ ln, l.length = ln := ⟨_, rfl⟩
 rw [hm, hln] at hx
 subst hx
 obtain ⟨w1, hw1⟩ : ∃ w1, w.alloc (.cells #[.int .i64 k, .int .i64 n, .string s, .slice al ln cl, .slice ak m ck] 25) = w1 := ⟨_, rfl⟩
 have BX := Box.mk' w (.int .i64 k) (.int .i64 n) (.string s) (.slice al ln cl) (.slice ak m ck)
 rw [hw1] at BX
 obtain ⟨g, hg⟩ : ∃ g, w.heap.size = g := ⟨_, rfl⟩
 have z1 := BX.size
 have z1g : w1.heap.size = g + 1 := by omega
 have HRW : Hid (∀ u, Below w1.heap.size w1 u → u.heap[g]? = some (.cells #[.int .i64 k, .int .i64 n, .string s, .slice al ln cl, .slice ak m ck] 25 (0, 0)) ∧ IsV u B v (.agg #[.int .i64 k, .int .i64 n, .string s, .slice al ln cl, .slice ak m ck]) ∧ Row8 u ab lb cb zs ∧ Below w.heap.size w u) := hide (fun u hu => ⟨by rw [← hg]; exact (hu.block _ (by omega)).trans BX.row, hv.mono ((BX.below.mono hBs).trans (hu.mono (by omega))), (hz.later BX.below).later hu, BX.below.trans (hu.mono (by omega))⟩)
 have CR := hide (right_code v _ B w1 (uh HRW w1 (Below.refl _ _)).2.1 (by omega))
 obtain ⟨c0, c1, c2, c3, c4⟩ := row_cell (uh HRW w1 (Below.refl _ _)).1
 clear BX hv hz z1 hm hln
 cases hR : rightB v with
 | false =>
  rw [hR] at CR
  have HC : Hid (codeR v = 40) := hide (by simp [codeR, hR])
  clear hR
  go_enter Tryz.func44, Tryz.ntmps44
  go_wp2_with fail
  refine (uh CR).mono ?_
  rintro e w2 ⟨rfl, b2⟩
  have H2 := hide b2
  clear b2 CR
  go_wp2_with fail
  go_ret2
  refine ⟨none, 0, 0, by rw [uh HC]; rfl, by simpa using nilRow _, ?_, (fun a h => by cases h), by unfold maxLen; omega⟩
  have h := (uh HRW _ (uh H2)).2.2.2
  first | exact h | (rw [← hg]; exact h)
 | true =>
  rw [hR] at CR
  have hw2 := right_wt hR
  have hlen := wenc_len v
  have hlb : (wenc v).length ≤ 43008 := by omega
  have hpos := wenc_pos v 8 hw2.1
  have hsm := wenc_small v 8 hw2.1 hfit
  have HS := hide (And.intro hsm hw2.1)
  have HC : Hid (codeR v = 0) := hide (by simp [codeR, hR])
  obtain ⟨Z, hZ⟩ : ∃ Z, wenc v = Z := ⟨_, rfl⟩
  have CL : Hid (∀ u, Below w1.heap.size w1 u → Calls Tryz.prog 95 #[.slice none 0 0, .agg #[.int .i64 k, .int .i64 n, .string s, .slice al ln cl, .slice ak m ck]] u fun e w' => ∃ sv', e = .returned sv' ∧ w'.ownsRow u.heap.size 5 1 sv' (0 + Z.length) (([] ++ Z).map (Value.int .u8)) ∧ Grew u w' (.slice none 0 0) sv') := hide (fun u hu => by
   have h := lay_any 8 v _ B u.heap.size u (.slice none 0 0) 0 [] hw2.1 (uh HRW u hu).2.1 (by have := hu.size; omega) (Nat.le_refl _) (World.ownsRow_nil _ _ _ _) (by omega)
   rw [hZ] at h
   exact h)
  rw [hZ] at hlb hpos HS
  rw [if_pos rfl, hZ]
  clear hR hw2 hlen hsm hZ hfit
  go_enter Tryz.func44, Tryz.ntmps44
  go_wp2_with fail
  refine (uh CR).mono ?_
  rintro e w2 ⟨rfl, b2⟩
  have H2 := hide b2
  clear b2 CR c0 c1 c2 c3 c4
  obtain ⟨c0, c1, c2, c3, c4⟩ := row_cell (uh HRW w2 (uh H2)).1
  go_wp2_with fail
  refine (uh CL w2 (uh H2)).mono ?_
  rintro e w3 ⟨sv3, rfl, own3, gr3⟩
  rw [Nat.zero_add, List.nil_append] at own3
  obtain ⟨g3, cp3, rfl, hg3, r3, _⟩ := row_of own3 (uh HS).1 (by omega)
  have b3 : Below w2.heap.size w2 w3 := ⟨gr3.grown.os, gr3.grown.tape, gr3.grown.output, gr3.grown.size, fun q hq => gr3.grown.block q hq (by simp [Value.ownBlock])⟩
  have X3 : Below w1.heap.size w1 w3 := (uh H2).trans (b3.mono (uh H2).size)
  obtain ⟨h3, hh3⟩ : ∃ h3, w3.heap.size = h3 := ⟨_, rfl⟩
  obtain ⟨w4, hw4⟩ : ∃ w4, w3.alloc (.cells #[.slice ab lb cb, .slice (some ⟨g3, 0, none⟩) Z.length cp3] 40) = w4 := ⟨_, rfl⟩
  have b4 : Below w3.heap.size w3 w4 := by rw [← hw4]; exact (Below.refl _ _).alloc (Nat.le_refl _) _
  have at4 : w4.heap[h3]? = some (.cells #[.slice ab lb cb, .slice (some ⟨g3, 0, none⟩) Z.length cp3] 40 (0, 0)) := by rw [← hw4, ← hh3]; exact heap_alloc_new _ _
  have CCt := hide (concat_two h3 40 ab (some ⟨g3, 0, none⟩) lb cb Z.length cp3 zs Z w4 at4 (((uh HRW w3 X3).2.2.1).later b4) (r3.later b4) (by omega))
  have X4 := hide (X3.trans (b4.mono X3.size))
  clear own3 gr3 r3 b3 X3 b4 at4 c0 c1 c2 c3 c4 CL
  go_wp2_with fail
  refine (uh CCt).mono ?_
  rintro e w5 ⟨sv5, rfl, own5, b5⟩
  have hsz : ∀ c ∈ zs ++ Z, 0 ≤ c ∧ c ≤ 255 := fun c hc => by
   rcases List.mem_append.1 hc with h | h
   ·exact (uh HRW w1 (Below.refl _ _)).2.2.1.small c h
   ·exact (uh HS).1 c h
  obtain ⟨g5, cp5, rfl, hg5, r5, m5⟩ := row_of own5 hsz (by omega)
  have X5 := hide ((uh X4).trans (b5.mono (uh X4).size))
  have H5 := hide r5
  have M5 := hide (And.intro m5 own5)
  have hz4 := (uh X4).size
  clear own5 b5 r5 m5 hsz CCt
  go_wp2_with fail
  go_ret2
  refine ⟨_, _, _, by rw [uh HC]; rfl, uh H5, ?_, (fun a h => by cases h; show _ ≤ g5; omega), (uh M5).1, fun _ => own_low (uh M5).2 (by omega)⟩
  have h := (uh HRW _ (uh X5)).2.2.2
  first | exact h | (rw [← hg]; exact h)
theorem encode_any (v : Vl) (x : Value) (B : Nat) (w : World) (hv : IsV w B v x) (hBs : B ≤ w.heap.size) :
  Calls Tryz.prog 23 #[x] w fun e w' => ∃ (ao : Option Addr) (len cap : Nat), e = .returned (.tuple #[.slice ao len cap, .int .i64 (codeR v)]) ∧ Row8 w' ao len cap (wenc0R v) ∧ Below w.heap.size w w' ∧ (∀ a, ao = some a → w.heap.size ≤ a.block) ∧ cap ≤ maxLen := by
 obtain ⟨k, n, s, l, ks, al, ak, cl, ck, hvv, hx⟩ := hv.shape
 clear hvv
 obtain ⟨m, hm⟩ : ∃ m, ks.length = m := ⟨_, rfl⟩
 obtain ⟨ln, hln⟩ : ∃ ln, l.length = ln := ⟨_, rfl⟩
 rw [hm, hln] at hx
 subst hx
 obtain ⟨w1, hw1⟩ : ∃ w1, w.alloc (.cells #[.int .i64 k, .int .i64 n, .string s, .slice al ln cl, .slice ak m ck] 25) = w1 := ⟨_, rfl⟩
 have BX := Box.mk' w (.int .i64 k) (.int .i64 n) (.string s) (.slice al ln cl) (.slice ak m ck)
 rw [hw1] at BX
 obtain ⟨c0, c1, c2, c3, c4⟩ := row_cell BX.row
 have z1 := BX.size
 have CP := hide (put_any none 0 0 [] v _ B w1 (nilRow _) (hv.mono (BX.below.mono hBs)) (by omega) (by omega))
 rw [List.nil_append] at CP
 have HW : Hid ((if rightB v = true then wenc v else []) = wenc0R v) := hide rfl
 obtain ⟨Z, hZ⟩ : ∃ Z, wenc0R v = Z := ⟨_, rfl⟩
 rw [uh HW, hZ] at CP
 obtain ⟨C, hC⟩ : ∃ C, codeR v = C := ⟨_, rfl⟩
 rw [hC] at CP
 rw [hZ, hC]
 have HB := hide BX.below
 clear BX hv hm hln hZ hC HW
 go_enter Tryz.func23, Tryz.ntmps23
 go_wp2_with fail
 refine (uh CP).mono ?_
 rintro e w2 ⟨ao, len, cap, rfl, r2, b2, n2⟩
 have H2 := hide (And.intro r2 (And.intro b2 n2))
 clear r2 b2 n2 CP
 go_wp2_with fail
 go_ret2
 exact ⟨ao, len, cap, rfl, (uh H2).1, (uh HB).trans ((uh H2).2.1.mono (by omega)), (fun a h => by have := (uh H2).2.2.1 a h; omega), (uh H2).2.2.2.1⟩
def fewB (v : Vl) : Bool := decide (cnt v ≤ 5000)
theorem few_right {v : Vl} (h : rightB v = true) : fewB v = true := by
 unfold rightB at h
 rw [Bool.and_eq_true, decide_eq_true_eq] at h
 have := cnt_wt v
 unfold fewB
 exact decide_eq_true (by omega)
theorem copy_any (v : Vl) (x : Value) (B : Nat) (w : World) (hv : IsV w B v x) (hBs : B ≤ w.heap.size) :
  Calls Tryz.prog 107 #[x] w fun e w' => ∃ x', e = .returned x' ∧ Below w.heap.size w w' ∧ (rightB v = true → IsQ w' (fun b => w.heap.size ≤ b ∧ b < w'.heap.size) v x') ∧ (rightB v = false → x' = .agg #[.int .i64 0, .int .i64 0, .string ⟨#[]⟩, .slice none 0 0, .slice none 0 0]) := by
 obtain ⟨k, n, s, l, ks, al, ak, cl, ck, hvv, hx⟩ := hv.shape
 clear hvv
 obtain ⟨m, hm⟩ : ∃ m, ks.length = m := ⟨_, rfl⟩
 obtain ⟨ln, hln⟩ : ∃ ln, l.length = ln := ⟨_, rfl⟩
 rw [hm, hln] at hx
 subst hx
 have TW := Two.mk' w 25 #[.int .i64 k, .int .i64 n, .string s, .slice al ln cl, .slice ak m ck] #[.int .i64 0, .int .i64 0, .string ⟨#[]⟩, .slice none 0 0, .slice none 0 0]
 obtain ⟨w2, hw2⟩ : ∃ w2, (w.alloc (.cells #[.int .i64 k, .int .i64 n, .string s, .slice al ln cl, .slice ak m ck] 25)).alloc (.cells #[.int .i64 0, .int .i64 0, .string ⟨#[]⟩, .slice none 0 0, .slice none 0 0] 25) = w2 := ⟨_, rfl⟩
 rw [hw2] at TW
 obtain ⟨g, hg⟩ : ∃ g, w.heap.size = g := ⟨_, rfl⟩
 rw [hg] at TW
 have HT : Hid (∀ u, Below w2.heap.size w2 u → u.heap[g]? = some (.cells #[.int .i64 k, .int .i64 n, .string s, .slice al ln cl, .slice ak m ck] 25 (0, 0)) ∧ u.heap[g + 1]? = some (.cells #[.int .i64 0, .int .i64 0, .string ⟨#[]⟩, .slice none 0 0, .slice none 0 0] 25 (0, 0)) ∧ IsV u B v (.agg #[.int .i64 k, .int .i64 n, .string s, .slice al ln cl, .slice ak m ck]) ∧ B ≤ u.heap.size ∧ Below w.heap.size w u ∧ g + 2 ≤ u.heap.size) :=
  hide (fun u hu => by
   have h1 : Below w.heap.size w u := TW.below.trans (hu.mono (by have := TW.size; omega))
   have h2 := TW.size
   have h3 := hu.size
   exact ⟨(TW.later hu).1, (TW.later hu).2, hv.mono (h1.mono hBs), by omega, h1, by omega⟩)
 obtain ⟨c0, c1, c2, c3, c4⟩ := row_cell TW.at0
 have CF := hide (right_code v _ B w2 (uh HT w2 (Below.refl _ _)).2.2.1 (uh HT w2 (Below.refl _ _)).2.2.2.1)
 clear TW hv hm hln
 cases hF : rightB v with
 | false =>
  rw [hF] at CF
  clear hF
  go_enter Tryz.func107, Tryz.ntmps107
  go_wp2_with fail
  refine (uh CF).mono ?_
  rintro e u3 ⟨rfl, b3⟩
  have H3 := hide b3
  clear b3 CF c0 c1 c2 c3 c4
  obtain ⟨c0, c1, c2, c3, c4⟩ := row_cell (uh HT u3 (uh H3)).1
  have ATX := (uh HT u3 (uh H3)).2.1
  obtain ⟨z0, z1, z2, z3, z4⟩ := row_cell ATX
  have fz : ∀ q, u3.frozen? ⟨g + 1, q, none⟩ = false := fun q => frozen_of_row u3 (g + 1) q _ _ ATX
  have fz0 := fz 0
  have fz1 := fz 1
  have fz2 := fz 2
  have fz3 := fz 3
  have fz4 := fz 4
  have HAT := hide ATX
  clear fz ATX
  go_wp2_with fail
  have ATX := uh HAT
  have BW := (uh HT u3 (uh H3)).2.2.2.2.1
  have R9 := five_set u3 (g + 1) 25 _ _ _ _ _ (.int .i64 0) (.int .i64 0) (.string ⟨#[]⟩) (.slice none 0 0) (.slice none 0 0) ATX
  have O9 := five_other u3 (g + 1) (x0 := .int .i64 0) (x1 := .int .i64 0) (x2 := .string ⟨#[]⟩) (x3 := .slice none 0 0) (x4 := .slice none 0 0)
  have S9 : (((((u3.setCell ⟨g + 1, 0, none⟩ (.int .i64 0)).setCell ⟨g + 1, 1, none⟩ (.int .i64 0)).setCell ⟨g + 1, 2, none⟩ (.string ⟨#[]⟩)).setCell ⟨g + 1, 3, none⟩ (.slice none 0 0)).setCell ⟨g + 1, 4, none⟩ (.slice none 0 0)).heap.size = u3.heap.size := by simp
  obtain ⟨w9, hw9⟩ : ∃ w9, (((((u3.setCell ⟨g + 1, 0, none⟩ (.int .i64 0)).setCell ⟨g + 1, 1, none⟩ (.int .i64 0)).setCell ⟨g + 1, 2, none⟩ (.string ⟨#[]⟩)).setCell ⟨g + 1, 3, none⟩ (.slice none 0 0)).setCell ⟨g + 1, 4, none⟩ (.slice none 0 0)) = w9 := ⟨_, rfl⟩
  rw [hw9] at R9 S9 ⊢
  have B9 : Below w.heap.size w w9 := by rw [← hw9]; exact five_below BW (by omega) _ _ _ _ _
  obtain ⟨r0, r1, r2, r3, r4⟩ := row_cell R9
  refine bodyPost_ret (v := .agg #[.int .i64 0, .int .i64 0, .string ⟨#[]⟩, .slice none 0 0, .slice none 0 0]) (by simp [results, Tryz.results107, go_sem, r0, r1, r2, r3, r4]) rfl ?_
  first | exact ⟨_, rfl, B9, (fun h => by cases h), fun _ => rfl⟩ | (rw [hg] at B9; exact ⟨_, rfl, B9, (fun h => by cases h), fun _ => rfl⟩) | exact ⟨rfl, B9⟩ | (rw [hg] at B9; exact ⟨rfl, B9⟩)
 | true =>
  rw [hF] at CF
  have hcn : cnt v ≤ 5000 := by have h := few_right hF; unfold fewB at h; exact of_decide_eq_true h
  have CD := fun u hu => hide (cln_any (dep v) v _ B u (Nat.le_refl _) hcn (uh HT u hu).2.2.1 (uh HT u hu).2.2.2.1)
  clear hF hcn
  go_enter Tryz.func107, Tryz.ntmps107
  go_wp2_with fail
  refine (uh CF).mono ?_
  rintro e u3 ⟨rfl, b3⟩
  have H3 := hide b3
  clear b3 CF c0 c1 c2 c3 c4
  obtain ⟨c0, c1, c2, c3, c4⟩ := row_cell (uh HT u3 (uh H3)).1
  go_wp2_with fail
  refine (uh (CD u3 (uh H3))).mono ?_
  rintro e u4 ⟨x4, rfl, p4, b4⟩
  obtain ⟨k4, n4, s4, l4, ks4, al4, ak4, cl4, ck4, hv4, rfl⟩ := p4.shape
  clear hv4
  obtain ⟨lc, hlc⟩ : ∃ lc, l4.length = lc := ⟨_, rfl⟩
  obtain ⟨mc, hmc⟩ : ∃ mc, ks4.length = mc := ⟨_, rfl⟩
  rw [hlc, hmc] at p4 ⊢
  have X4 := (uh H3).trans (b4.mono (uh H3).size)
  have H4 := hide (And.intro X4 (And.intro p4 b4.size))
  have ATX := (uh HT u4 X4).2.1
  obtain ⟨z0, z1, z2, z3, z4⟩ := row_cell ATX
  have fz : ∀ q, u4.frozen? ⟨g + 1, q, none⟩ = false := fun q => frozen_of_row u4 (g + 1) q _ _ ATX
  have fz0 := fz 0
  have fz1 := fz 1
  have fz2 := fz 2
  have fz3 := fz 3
  have fz4 := fz 4
  have HAT := hide ATX
  clear fz ATX p4 b4 X4 CD hlc hmc c0 c1 c2 c3 c4
  go_wp2_with fail
  have ATX := uh HAT
  have BW := (uh HT u4 (uh H4).1).2.2.2.2.1
  have g3 := (uh HT u3 (uh H3)).2.2.2.2.2
  have R9 := five_set u4 (g + 1) 25 _ _ _ _ _ (.int .i64 k4) (.int .i64 n4) (.string s4) (.slice al4 lc cl4) (.slice ak4 mc ck4) ATX
  have O9 := five_other u4 (g + 1) (x0 := .int .i64 k4) (x1 := .int .i64 n4) (x2 := .string s4) (x3 := .slice al4 lc cl4) (x4 := .slice ak4 mc ck4)
  have S9 : (((((u4.setCell ⟨g + 1, 0, none⟩ (.int .i64 k4)).setCell ⟨g + 1, 1, none⟩ (.int .i64 n4)).setCell ⟨g + 1, 2, none⟩ (.string s4)).setCell ⟨g + 1, 3, none⟩ (.slice al4 lc cl4)).setCell ⟨g + 1, 4, none⟩ (.slice ak4 mc ck4)).heap.size = u4.heap.size := by simp
  obtain ⟨w9, hw9⟩ : ∃ w9, (((((u4.setCell ⟨g + 1, 0, none⟩ (.int .i64 k4)).setCell ⟨g + 1, 1, none⟩ (.int .i64 n4)).setCell ⟨g + 1, 2, none⟩ (.string s4)).setCell ⟨g + 1, 3, none⟩ (.slice al4 lc cl4)).setCell ⟨g + 1, 4, none⟩ (.slice ak4 mc ck4)) = w9 := ⟨_, rfl⟩
  rw [hw9] at R9 S9 ⊢
  have B9 : Below w.heap.size w w9 := by rw [← hw9]; exact five_below BW (by omega) _ _ _ _ _
  obtain ⟨r0, r1, r2, r3, r4⟩ := row_cell R9
  refine bodyPost_ret (v := .agg #[.int .i64 k4, .int .i64 n4, .string s4, .slice al4 lc cl4, .slice ak4 mc ck4]) (by simp [results, Tryz.results107, go_sem, r0, r1, r2, r3, r4]) rfl ?_
  have Q9 : IsQ w9 (fun b => w.heap.size ≤ b ∧ b < w9.heap.size) v (.agg #[.int .i64 k4, .int .i64 n4, .string s4, .slice al4 lc cl4, .slice ak4 mc ck4]) := ((uh H4).2.1.move (fun q hq => by rw [← hw9]; exact O9 q (by have := hq.1; omega))).weak (fun q hq => ⟨by have := hq.1; omega, by have := hq.2; omega⟩)
  first | exact ⟨_, rfl, B9, (fun _ => Q9), fun h => by cases h⟩ | (rw [hg] at B9 Q9; exact ⟨_, rfl, B9, (fun _ => Q9), fun h => by cases h⟩) | exact ⟨_, rfl, B9, Q9⟩ | (rw [hg] at B9 Q9; exact ⟨_, rfl, B9, Q9⟩)
structure Shows (w : World) (ao : Option Addr) (len cap size : Nat) (xs : List Value) : Prop where
 length : xs.length = len * size
 none : ao = none → len = 0 ∧ cap = 0
 cells : ∀ a, ao = some a → ∀ j u, xs[j]? = some u → w.cell? (a.add j) = some u
 one : ∀ u ∈ xs, u.oneCell' = true
theorem made0 (w : World) (e : TypeId) (size : Nat) : (w.alloc (.cells #[] e)).ownsRow w.heap.size e size (.slice (some ⟨w.heap.size, 0, none⟩) 0 0) 0 [] :=
 World.ownsRow_made (base := w.heap.size) w #[] 0 (Nat.le_refl _) (Nat.zero_le _) (by simp)
theorem cloneS (ao : Option Addr) (len cap : Nat) (xs : List Value) (w : World) (h : Shows w ao len cap 1 xs) (hb : len * 16 ≤ 140737488355328) :
  Calls Tryz.prog 133 #[.slice ao len cap] w fun e w' => ∃ v', e = .returned v' ∧ w'.ownsRow w.heap.size 9 1 v' len xs ∧ Below w.heap.size w w' := by
 cases ao with
 | none =>
  obtain ⟨rfl, rfl⟩ := h.none rfl
  obtain rfl : xs = [] := List.eq_nil_of_length_eq_zero (by simpa using h.length)
  clear h
  have he : ∀ w : World, (binOp .eql 23 (.slice none 0 0) (.slice none 0 0)).run Tryz.prog w = .ok (.bool true) w := fun _ => rfl
  go_enter Tryz.func133, Tryz.ntmps133
  go_wp2_with fail
  go_ret
  exact ⟨_, rfl, World.ownsRow_nil _ _ _ _, Below.refl _ _⟩
 | some a =>
  obtain ⟨i0, hi, hz0, hz1, hz2⟩ := info_parts infoSc
  have HI := hide (And.intro hi (And.intro hz0 (And.intro hz1 hz2)))
  have B1 : Below w.heap.size w (w.alloc (.cells #[] 9)) := (Below.refl _ _).alloc (Nat.le_refl _) _
  have HB1 := hide B1
  have HM := hide (made0 w 9 1)
  have HC : Hid (∀ j u, xs[j]? = some u → (w.alloc (.cells #[] 9)).cell? (a.add j) = some u) := hide (fun j u hu => by
   have h1 := h.cells a rfl j u hu
   rw [B1.cell (World.block_lt_of_cell? _ _ (by rw [h1]))]
   exact h1)
  have HX := hide (And.intro h.length h.one)
  have he : ∀ w : World, (binOp .eql 23 (.slice (some a) len cap) (.slice none 0 0)).run Tryz.prog w = .ok (.bool false) w := fun _ => rfl
  clear hi hz0 hz1 hz2 B1 h
  go_enter Tryz.func133, Tryz.ntmps133
  go_wp2_with (first | (at_builtin; refine wpList_append_own _ rfl (.tmp 5) (.tmp 6) 23 rfl w.heap.size 9 i0 (.string ⟨#[]⟩) 1 16 Tryz.underlying23 (uh HI).1 (uh HI).2.1 (uh HI).2.2.1 (uh HI).2.2.2 rfl (by omega) _ 0 [] rfl (uh HM) a len cap xs rfl (uh HX).1 (uh HC) (uh HX).2 (by unfold maxLen; omega) (by omega) (by simp) ?_; intro v2 w2 hown2 hgrow2 _; have H2 := hide (And.intro hown2 hgrow2); clear hown2 hgrow2))
  go_ret
  obtain ⟨ho, hg⟩ := uh H2
  refine ⟨_, rfl, by simpa using ho, (uh HB1).grown hg (by simp) (fun k hk => ?_)⟩
  cases hk
  exact Nat.le_refl _
theorem cloneV (ao : Option Addr) (len cap : Nat) (xs : List Value) (w : World) (h : Shows w ao len cap 5 xs) (hb : len * 80 ≤ 140737488355328) :
  Calls Tryz.prog 110 #[.slice ao len cap] w fun e w' => ∃ v', e = .returned v' ∧ w'.ownsRow w.heap.size 25 5 v' len xs ∧ Below w.heap.size w w' := by
 cases ao with
 | none =>
  obtain ⟨rfl, rfl⟩ := h.none rfl
  obtain rfl : xs = [] := List.eq_nil_of_length_eq_zero (by simpa using h.length)
  clear h
  have he : ∀ w : World, (binOp .eql 22 (.slice none 0 0) (.slice none 0 0)).run Tryz.prog w = .ok (.bool true) w := fun _ => rfl
  go_enter Tryz.func110, Tryz.ntmps110
  go_wp2_with fail
  go_ret
  exact ⟨_, rfl, World.ownsRow_nil _ _ _ _, Below.refl _ _⟩
 | some a =>
  obtain ⟨i0, hi, hz0, hz1, hz2⟩ := info_parts infoVc
  have HI := hide (And.intro hi (And.intro hz0 (And.intro hz1 hz2)))
  have B1 : Below w.heap.size w (w.alloc (.cells #[] 25)) := (Below.refl _ _).alloc (Nat.le_refl _) _
  have HB1 := hide B1
  have HM := hide (made0 w 25 5)
  have HC : Hid (∀ j u, xs[j]? = some u → (w.alloc (.cells #[] 25)).cell? (a.add j) = some u) := hide (fun j u hu => by
   have h1 := h.cells a rfl j u hu
   rw [B1.cell (World.block_lt_of_cell? _ _ (by rw [h1]))]
   exact h1)
  have HX := hide (And.intro h.length h.one)
  have he : ∀ w : World, (binOp .eql 22 (.slice (some a) len cap) (.slice none 0 0)).run Tryz.prog w = .ok (.bool false) w := fun _ => rfl
  clear hi hz0 hz1 hz2 B1 h
  go_enter Tryz.func110, Tryz.ntmps110
  go_wp2_with (first | (at_builtin; refine wpList_append_own _ rfl (.tmp 5) (.tmp 6) 22 rfl w.heap.size 25 i0 (.agg #[.int .i64 0, .int .i64 0, .string ⟨#[]⟩, .slice none 0 0, .slice none 0 0]) 5 80 Tryz.underlying22 (uh HI).1 (uh HI).2.1 (uh HI).2.2.1 (uh HI).2.2.2 rfl (by omega) _ 0 [] rfl (uh HM) a len cap xs rfl (uh HX).1 (uh HC) (uh HX).2 (by unfold maxLen; omega) (by omega) (by simp) ?_; intro v2 w2 hown2 hgrow2 _; have H2 := hide (And.intro hown2 hgrow2); clear hown2 hgrow2))
  go_ret
  obtain ⟨ho, hg⟩ := uh H2
  refine ⟨_, rfl, by simpa using ho, (uh HB1).grown hg (by simp) (fun k hk => ?_)⟩
  cases hk
  exact Nat.le_refl _
theorem add_at0 (b j : Nat) : (⟨b, 0, none⟩ : Addr).add j = ⟨b, j, none⟩ := by
 unfold Addr.add
 split <;> simp_all
end Go.Proofs.YtgkmdjmigehmeaaGreatDoor
