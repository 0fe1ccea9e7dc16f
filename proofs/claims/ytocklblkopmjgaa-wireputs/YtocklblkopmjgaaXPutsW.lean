/-
  The walk of the statement WirePuts: every Put and Length answers what the document's own does, what is handed in stays, what came out is its owner's; conditions: the bytes ahead and the values are each at most 2^47 - 4096.
-/
import Derived.Test.YtocklblkopmjgaaXPutsA
import Derived.Test.YtocklblkopmjgaaXLent
import Derived.Test.YtocklblkopmjgaaWSame
import Derived.Deep.RegionHeld3
namespace Go.Proofs.Ytocklblkopmjgaa
open Go.RowKit
set_option linter.unusedVariables false
set_option linter.unusedSimpArgs false

abbrev lst5 (l : Value) : Value := .agg #[.int .i64 5, .int .i64 0, .string ⟨#[]⟩, l, .slice none 0 0]

theorem sm_selfp (v : Vl) : smB v v = true := by
  have := (sameB_iff v v).2 rfl
  simp [smB, this]

theorem conv8p {w : World} {ao : Option Addr} {len cap : Nat} {zs : List Int} (h : Row8 w ao len cap zs) : Sem.run Try.prog (convert 44 9 (.slice ao len cap)) w = .ok (.string (strOfNums zs)) w := by
  have hl := h.length
  by_cases h0 : len = 0
  · subst h0
    obtain rfl := List.eq_nil_of_length_eq_zero hl
    have hz : (strOfNums []) = ByteArray.empty := by rfl
    rw [hz, run_convert_bytes_string w 44 9 5 _ 0 cap Try.underlying44 Try.underlying5 Try.underlying9]
    cases ao <;> simp [Conv.bytesToString, loadCells]
    all_goals rfl
  · obtain ⟨b, off, rfl, hc⟩ := h.at (by omega)
    have h1 := conv_row hl hc 0 len cap (by omega) 0
    rw [List.drop_zero, List.take_of_length_le (by omega)] at h1
    exact h1

theorem Row8.keep {w w' : World} {ao : Option Addr} {len cap : Nat} {zs : List Int} (h : Row8 w ao len cap zs) (hb : ∀ ad, ao = some ad → 0 < len → w'.heap[ad.block]? = w.heap[ad.block]?) : Row8 w' ao len cap zs := by
  refine ⟨h.length, h.none, fun ad ha j u hj => ?_, h.small, h.le⟩
  have hl : 0 < len := by
    have h1 := (List.getElem?_eq_some_iff.1 hj).1
    rw [List.length_map, h.length] at h1
    omega
  have e : w'.cell? (ad.add j) = w.cell? (ad.add j) := World.cell?_of_block (by rw [block_add]; exact hb ad ha hl)
  rw [e]
  exact h.cells ad ha j u hj

theorem e0p : (⟨#[]⟩ : ByteArray).size = 0 := rfl

theorem right_unitp : rightB (.mk 0 0 ⟨#[]⟩ [] []) = true := by
  simp [rightB, okB, formB, formM, okL_nil, wt, keysW, wtL_nil, e0p]

theorem plain_p (w : World) (P : Nat → Prop) : IsP w P (.mk 0 0 ⟨#[]⟩ [] []) (.agg #[.int .i64 0, .int .i64 0, .string ⟨#[]⟩, .slice none 0 0, .slice none 0 0]) := by
  have h := heap_alloc_new w (.cells #[.int .i64 0, .int .i64 0, .string ⟨#[]⟩, .slice none 0 0, .slice none 0 0] 27)
  have hs : (w.alloc (.cells #[.int .i64 0, .int .i64 0, .string ⟨#[]⟩, .slice none 0 0, .slice none 0 0] 27)).heap.size = w.heap.size + 1 := by simp
  generalize w.alloc (.cells #[.int .i64 0, .int .i64 0, .string ⟨#[]⟩, .slice none 0 0, .slice none 0 0] 27) = u at h hs
  have M : Mid u (w.heap.size + 1) w.heap.size 0 0 ⟨#[]⟩ [] [] (.slice none 0 0) (.slice none 0 0) 0 0 (fun _ => []) := ⟨h, by omega, by omega, World.ownsRow_nil _ _ _ _, World.ownsRow_nil _ _ _ _, Or.inl rfl, fun c h => by omega, fun c y h => by omega⟩
  exact (M.made rfl rfl (by omega) (by omega) (by rw [e0p]; omega) (by simp) (by simp) (by simp)).1.to (fun b hb => by omega) (fun b hb => by omega)

theorem keepP {v w1 w2 : World} {P : World → Prop} (H : Hid (∀ w', Below v.heap.size v w' → P w')) (h : Below v.heap.size v w1) (hb : Below w1.heap.size w1 w2) : Below v.heap.size v w2 ∧ P w2 :=
  ⟨h.trans (hb.mono h.size), unhide H _ (h.trans (hb.mono h.size))⟩

theorem wenc_most {v : Vl} (h : rightB v = true) : (wenc v).length ≤ 43008 := by
  have h1 := right_wt h
  have h2 := wenc_len v
  omega

theorem cell_lt {w : World} {p : Addr} {v : Value} (h : w.cell? p = some v) : p.block < w.heap.size := by
  unfold World.cell? at h
  cases hb : w.heap[p.block]? with
  | none => rw [hb] at h; cases h
  | some x => exact (Array.getElem?_eq_some_iff.1 hb).1

theorem Row8.lt {w : World} {a : Addr} {len cap : Nat} {zs : List Int} (h : Row8 w (some a) len cap zs) (hl : 0 < len) : a.block < w.heap.size := by
  have h1 := h.cells a rfl 0 (.int .u8 (zs[0]'(by have := h.length; omega))) (by simp)
  have h2 := cell_lt h1
  rwa [block_add] at h2

theorem own_row {w : World} {lo : Nat} {base n : Nat} {v : Value} {xs : List Value} (h : w.ownsRow base 5 1 v n xs) : Row w (fun b => base ≤ b ∧ b < w.heap.size) lo 5 1 v n := by
  rcases h.2 with h | ⟨g, cap, cur, h1, h2, h3, h4, h5, h6, _⟩
  · exact Or.inl h
  · exact Or.inr ⟨g, cap, cur, h1, Or.inl ⟨h2, (Array.getElem?_eq_some_iff.1 h3).1⟩, h3, h6, h4, h5⟩

set_option maxRecDepth 100000 in
set_option maxHeartbeats 4000000 in
theorem puts_walk (ab : Option Addr) (lb cb : Nat) (zs : List Int) (av : Option Addr) (nv cv : Nat) (l : List Vl) (w : World) (hz : Row8 w ab lb cb zs) (hcb : cb ≤ maxLen) (hlb : lb ≤ 140737488351232) (hl : l.length = nv) (hv : IsV w w.heap.size (.mk 5 0 ⟨#[]⟩ l []) (lst5 (.slice av nv cv))) (hnv : nv ≤ 140737488351232) :
    Calls Try.prog 6 #[.slice ab lb cb, .slice av nv cv] w fun e w' => e = .returned (.bool true) ∧ Below w.heap.size w w' := by
  have HEL : Hid (∀ i y, l[i]? = some y → ∃ (a : Addr) (x0 x1 : Int) (x2 : ByteArray) (al' ak' : Option Addr) (ll' m' cl' ck' : Nat), av = some a ∧ ∀ u, Below w.heap.size w u → u.cell? (a.add (i * 5)) = some (.int .i64 x0) ∧ u.cell? ⟨(a.add (i * 5)).block, (a.add (i * 5)).off + 1, none⟩ = some (.int .i64 x1) ∧ u.cell? ⟨(a.add (i * 5)).block, (a.add (i * 5)).off + 2, none⟩ = some (.string x2) ∧ u.cell? ⟨(a.add (i * 5)).block, (a.add (i * 5)).off + 3, none⟩ = some (.slice al' ll' cl') ∧ u.cell? ⟨(a.add (i * 5)).block, (a.add (i * 5)).off + 4, none⟩ = some (.slice ak' m' ck') ∧ IsV u u.heap.size y (.agg #[.int .i64 x0, .int .i64 x1, .string x2, .slice al' ll' cl', .slice ak' m' ck'])) := hide (fun i y hy => by
    obtain ⟨a, x0, x1, x2, al', ak', ll', m', cl', ck', e, hab, hce, hve⟩ := hv.elem i y hy
    refine ⟨a, x0, x1, x2, al', ak', ll', m', cl', ck', e, fun u hu => ?_⟩
    have hcell : ∀ j v, [Value.int .i64 x0, .int .i64 x1, .string x2, .slice al' ll' cl', .slice ak' m' ck'][j]? = some v → u.cell? ((a.add (i * 5)).add j) = some v := fun j v hj => by
      have e1 : u.cell? ((a.add (i * 5)).add j) = w.cell? ((a.add (i * 5)).add j) := World.cell?_of_block (by rw [block_add, block_add]; exact hu.block _ hab)
      rw [e1]
      exact hce j v hj
    exact ⟨hcell 0 _ rfl, hcell 1 _ rfl, hcell 2 _ rfl, hcell 3 _ rfl, hcell 4 _ rfl, (hve.mono hu).lift hu.size⟩)
  have hcv : nv ≤ cv := by
    obtain ⟨_, _, _, _, _, _, _, _, _, _, e1, e2, vf, _⟩ := hv.inv
    cases e1
    have h1 := vf.ll
    simp only [lst5, Value.agg.injEq, Array.mk.injEq, List.cons.injEq, Value.slice.injEq, and_true, true_and] at e2
    omega
  have HZ : Hid (∀ u, Below w.heap.size w u → Row8 u ab lb cb zs) := hide (fun u hu => hz.later hu)
  have HSM := hide (And.intro hz.small hz.length)
  have HL := hide hl
  have CC : Hid (∀ (u : World) (y : Vl) (x : Value), IsV u u.heap.size y x → Calls Try.prog 22 #[x] u fun e w' => ∃ x', e = .returned x' ∧ IsV w' w'.heap.size y x' ∧ Below u.heap.size u w' ∧ (fewB y = true → IsQ w' (fun b => u.heap.size ≤ b ∧ b < w'.heap.size) y x')) := hide (fun u y x h => copied_any y x _ u h (Nat.le_refl _))
  have CL : Hid (∀ u, Below w.heap.size w u → Calls Try.prog 23 #[.slice ab lb cb] u fun e w' => e = .returned (.tuple #[.slice (some ⟨u.heap.size, 0, none⟩) lb (lb + 40), .slice (some ⟨u.heap.size, 0, none⟩) (lb + 40) (lb + 40)]) ∧ Bys w' u.heap.size (zs ++ marks lb) ∧ Below u.heap.size u w') := hide (fun u hu => lent4 ab lb cb zs u (hz.later hu) (by omega))
  have CP : Hid (∀ (u : World) (G : Nat) (y : Vl) (x : Value), Bys u G (zs ++ marks lb) → IsV u u.heap.size y x → Calls Try.prog 24 #[.slice (some ⟨G, 0, none⟩) lb (lb + 40), x] u fun e w' => ∃ (ao : Option Addr) (len cap : Nat), e = .returned (.tuple #[.slice ao len cap, .int .i64 (codeR y)]) ∧ Row8 w' ao len cap (if rightB y = true then zs ++ wenc y else []) ∧ Below u.heap.size u w' ∧ (∀ a, ao = some a → u.heap.size ≤ a.block) ∧ cap ≤ maxLen ∧ (rightB y = true → w'.ownsRow u.heap.size 5 1 (.slice ao len cap) len ((zs ++ wenc y).map (Value.int .u8))) ∧ (rightB y = false → ao = none ∧ len = 0 ∧ cap = 0)) := hide (fun u G y x h hx => by
    have hr : Row8 u (some ⟨G, 0, none⟩) zs.length (lb + 40) zs := h.row hz.small (lb + 40) (by have := hz.length; omega)
    rw [hz.length] at hr
    exact put_any (some ⟨G, 0, none⟩) lb (lb + 40) zs y x _ u hr hx (Nat.le_refl _) (by omega))
  have CR : Hid (∀ (u : World) (y : Vl) (x : Value), Below w.heap.size w u → IsV u u.heap.size y x → Calls Try.prog 25 #[.slice ab lb cb, x] u fun e w' => ∃ (ao : Option Addr) (len cap : Nat), e = .returned (.tuple #[.slice ao len cap, .int .i64 (codeR y)]) ∧ Row8 w' ao len cap (if rightB y = true then zs ++ wenc y else []) ∧ Below u.heap.size u w' ∧ (∀ a, ao = some a → u.heap.size ≤ a.block)) := hide (fun u y x hu hx => (put_f ab lb cb zs y x _ u (hz.later hu) hx (Nat.le_refl _) (by omega)).mono fun e w' ⟨a, b, c, h1, h2, h3, h4, _⟩ => ⟨a, b, c, h1, h2, h3, h4⟩)
  have CS : Hid (∀ (u : World) (q : Vl) (y y' : Value), IsV u u.heap.size q y → IsV u u.heap.size q y' → Calls Try.prog 26 #[y, y'] u fun e w' => e = .returned (.bool true) ∧ Below u.heap.size u w') := hide (fun u q y y' h h' => by
    have := same_any q q y y' _ u h h' (Nat.le_refl _)
    rw [sm_selfp] at this
    exact this)
  have CK : Hid (∀ (u : World) (G : Nat), Below w.heap.size w u → Bys u G (zs ++ marks lb) → Calls Try.prog 27 #[.slice (some ⟨G, 0, none⟩) (lb + 40) (lb + 40), .slice ab lb cb] u fun e w' => e = .returned (.bool true) ∧ Below u.heap.size u w') := hide (fun u G hu h => still4 G ab lb cb zs u (hz.later hu) hcb (by omega) h)
  have CN : Hid (∀ (u : World) (y : Vl) (x : Value), IsV u u.heap.size y x → Calls Try.prog 28 #[x] u fun e w' => e = .returned (.int .i64 ((wenc0R y).length : Int)) ∧ Below u.heap.size u w') := hide (fun u y x h => length_any y x _ u h (Nat.le_refl _))
  have CM : Hid (∀ (u : World) (y : Vl) (x : Value), IsV u u.heap.size y x → Calls Try.prog 29 #[x] u fun e w' => e = .returned (.int .i64 ((wenc0R y).length : Int)) ∧ Below u.heap.size u w') := hide (fun u y x h => length_f y x _ u h (Nat.le_refl _))
  have CE : Hid (∀ u, Below w.heap.size w u → Calls Try.prog 24 #[.slice ab lb cb, .agg #[.int .i64 0, .int .i64 0, .string ⟨#[]⟩, .slice none 0 0, .slice none 0 0]] u fun e w' => ∃ (ao : Option Addr) (cap : Nat), e = .returned (.tuple #[.slice ao (lb + 1) cap, .int .i64 0]) ∧ Below u.heap.size u w') := hide (fun u hu => by
    refine (put_any ab lb cb zs (.mk 0 0 ⟨#[]⟩ [] []) _ _ u (hz.later hu) (plain_p u (fun b => b < u.heap.size)) (Nat.le_refl _) (by omega)).mono ?_
    rintro e w' ⟨ao, len, cap, rfl, r, b, _⟩
    have h1 := r.length
    rw [if_pos right_unitp, List.length_append, hz.length, wenc0] at h1
    have h2 : len = lb + 1 := by simpa using h1.symm
    subst h2
    exact ⟨ao, cap, by simp [codeR, right_unitp], b⟩)
  clear hz hv hl
  go_enter Try.func6, Try.ntmps6
  go_wp2_with fail
  go_loopw [5] (fun x wr => ∃ i : Nat, i ≤ nv ∧ x = .int .i64 i ∧ Hid (Below w.heap.size w wr)) (fun x _ => nv - (intOf x).toNat)
  case atStart => exact ⟨0, by omega, rfl, hide (Below.refl _ _)⟩
  case round =>
    obtain ⟨i, hi, rfl, HB⟩ := hrel
    by_cases hlt : i < nv
    · obtain ⟨y, hy⟩ : ∃ y, l[i]? = some y := ⟨_, List.getElem?_eq_getElem (by have := unhide HL; omega)⟩
      obtain ⟨a, x0, x1, x2, al', ak', ll', m', cl', ck', rfl, hel⟩ := unhide HEL i y hy
      have HE := hide hel
      obtain ⟨e0, e1, e2, e3, e4, hve⟩ := hel wr (unhide HB)
      have i1 : (i : Int) < (nv : Int) := by omega
      have i0 : (0 : Int) ≤ (i : Int) := by omega
      have C1 := hide (unhide CC wr y _ hve)
      clear hy hel hve
      go_wp2_with fail
      refine (unhide C1).mono ?_
      rintro e u1 ⟨xc, rfl, v1, b1, q1⟩
      obtain ⟨k1, n1, s1, l1, ks1, al1, ak1, cl1, ck1, hy1, rfl⟩ := v1.shape
      clear hy1
      obtain ⟨lc1, hlc1⟩ : ∃ lc1, l1.length = lc1 := ⟨_, rfl⟩
      obtain ⟨mc1, hmc1⟩ : ∃ mc1, ks1.length = mc1 := ⟨_, rfl⟩
      rw [hlc1, hmc1] at v1 q1 ⊢
      clear hlc1 hmc1
      have Z1 := hide (And.intro v1 (And.intro b1 q1))
      clear v1 b1 q1 C1 e0 e1 e2 e3 e4
      go_upto_region 5 with fail
      obtain ⟨A1, hA1⟩ : ∃ A, u1.heap.size = A := ⟨_, rfl⟩
      have N1 : (u1.alloc (.cells #[.int .i64 k1, .int .i64 n1, .string s1, .slice al1 lc1 cl1, .slice ak1 mc1 ck1] 27)).heap[A1]? = some (.cells #[.int .i64 k1, .int .i64 n1, .string s1, .slice al1 lc1 cl1, .slice ak1 mc1 ck1] 27 (0, 0)) ∧ Below A1 u1 (u1.alloc (.cells #[.int .i64 k1, .int .i64 n1, .string s1, .slice al1 lc1 cl1, .slice ak1 mc1 ck1] 27)) ∧ (u1.alloc (.cells #[.int .i64 k1, .int .i64 n1, .string s1, .slice al1 lc1 cl1, .slice ak1 mc1 ck1] 27)).heap.size = A1 + 1 := by
        subst hA1
        exact ⟨heap_alloc_new u1 _, (Below.refl _ _).alloc (Nat.le_refl _) _, by simp⟩
      simp only [hA1]
      obtain ⟨w1, hw1⟩ : ∃ w1, u1.alloc (.cells #[.int .i64 k1, .int .i64 n1, .string s1, .slice al1 lc1 cl1, .slice ak1 mc1 ck1] 27) = w1 := ⟨_, rfl⟩
      rw [hw1] at N1 ⊢
      have HW : Hid (∀ u, Below w1.heap.size w1 u → u.heap[A1]? = some (.cells #[.int .i64 k1, .int .i64 n1, .string s1, .slice al1 lc1 cl1, .slice ak1 mc1 ck1] 27 (0, 0)) ∧ Below w.heap.size w u ∧ IsV u A1 y (.agg #[.int .i64 k1, .int .i64 n1, .string s1, .slice al1 lc1 cl1, .slice ak1 mc1 ck1]) ∧ (fewB y = true → IsQ u (fun b => wr.heap.size ≤ b ∧ b < A1) y (.agg #[.int .i64 k1, .int .i64 n1, .string s1, .slice al1 lc1 cl1, .slice ak1 mc1 ck1]))) := hide (fun u hu => by
        obtain ⟨v1, b1, q1⟩ := unhide Z1
        have hz1 := N1.2.2
        have bu : Below A1 u1 u := N1.2.1.trans (hu.mono (by omega))
        have hb := (unhide HB).size
        have hb1 := b1.size
        refine ⟨(hu.block A1 (by omega)).trans N1.1, ((unhide HB).trans (b1.mono hb)).trans (bu.mono (by omega)), ?_, fun hf => ?_⟩
        · rw [hA1] at v1
          exact v1.mono bu
        · exact ((q1 hf).move (fun c hc => bu.block c (by have := hc.2; omega))).weak (fun c hc => ⟨hc.1, by have := hc.2; omega⟩))
      have HZ1 : Hid (w1.heap.size = A1 + 1 ∧ wr.heap.size ≤ A1 ∧ w.heap.size ≤ wr.heap.size) := hide ⟨N1.2.2, by rw [← hA1]; exact (unhide Z1).2.1.size, (unhide HB).size⟩
      have C2 := hide (unhide CL w1 (unhide HW w1 (Below.refl _ _)).2.1)
      obtain ⟨G2, hG2⟩ : ∃ G, w1.heap.size = G := ⟨_, rfl⟩
      rw [hG2] at C2
      clear hw1 N1 Z1 hA1
      go_wp2_with fail
      refine (unhide C2).mono ?_
      rintro e u2 ⟨rfl, y2, b2⟩
      rw [← hG2] at b2
      have X2 := hide (And.intro b2 (And.intro y2 y2.lt))
      have HV : Hid (∀ u, Below w1.heap.size w1 u → IsV u u.heap.size y (.agg #[.int .i64 k1, .int .i64 n1, .string s1, .slice al1 lc1 cl1, .slice ak1 mc1 ck1])) := hide (fun u hu => (unhide HW u hu).2.2.1.lift (by have := hu.size; have := (unhide HZ1).1; omega))
      have C3 := hide (unhide CP u2 G2 y _ y2 (unhide HV u2 b2))
      obtain ⟨c0, c1, c2, c3, c4⟩ := row_cell (unhide HW u2 b2).1
      obtain ⟨Z, hZ⟩ : ∃ Z, (if rightB y = true then zs ++ wenc y else []) = Z := ⟨_, rfl⟩
      obtain ⟨C, hC⟩ : ∃ C, codeR y = C := ⟨_, rfl⟩
      rw [hZ, hC] at C3
      clear y2 b2 C2
      go_wp2_with fail
      refine (unhide C3).mono ?_
      rintro e u3 ⟨a3, l3, p3, rfl, r3, b3, n3, m3, o3, z3⟩
      have B3 : Hid (Below w1.heap.size w1 u3) := hide ((unhide X2).1.trans (b3.mono (unhide X2).1.size))
      have Y3 : Bys u3 G2 (zs ++ marks lb) := (b3.block G2 (unhide X2).2.2).trans (unhide X2).2.1
      have X3 := hide (And.intro r3 (And.intro b3 (And.intro n3 (And.intro m3 (And.intro o3 z3)))))
      have C4 := hide (unhide CP u3 G2 y _ Y3 (unhide HV u3 (unhide B3)))
      rw [hZ, hC] at C4
      clear r3 b3 n3 m3 o3 z3 C3 Y3 c0 c1 c2 c3 c4
      obtain ⟨c0, c1, c2, c3, c4⟩ := row_cell (unhide HW u3 (unhide B3)).1
      go_wp2_with fail
      refine (unhide C4).mono ?_
      rintro e u4 ⟨a4, l4, p4, rfl, r4, b4, n4, m4, _, _⟩
      have B4 : Hid (Below w1.heap.size w1 u4) := hide ((unhide B3).trans (b4.mono (unhide B3).size))
      have X4 := hide (And.intro r4 (And.intro b4 n4))
      obtain ⟨e0, e1, e2, e3, e4, hve⟩ := unhide HE u4 (unhide HW u4 (unhide B4)).2.1
      have C5 := hide (unhide CR u4 y _ (unhide HW u4 (unhide B4)).2.1 hve)
      rw [hZ, hC] at C5
      clear r4 b4 n4 m4 C4 hve c0 c1 c2 c3 c4
      go_wp2_with fail
      refine (unhide C5).mono ?_
      rintro e u5 ⟨a5, l5, p5, rfl, r5, b5, n5⟩
      have B5 : Hid (Below w1.heap.size w1 u5) := hide ((unhide B4).trans (b5.mono (unhide B4).size))
      have X5 := hide (And.intro r5 (And.intro b5 n5))
      obtain ⟨T, hT⟩ : ∃ T, strOfNums Z = T := ⟨_, rfl⟩
      obtain ⟨N, hN⟩ : ∃ N : Int, ((wenc0R y).length : Int) = N := ⟨_, rfl⟩
      have HK : Hid (∀ w', Below u5.heap.size u5 w' → (w'.cell? ⟨A1, 0, none⟩ = some (.int .i64 k1) ∧ w'.cell? ⟨A1, 1, none⟩ = some (.int .i64 n1) ∧ w'.cell? ⟨A1, 2, none⟩ = some (.string s1) ∧ w'.cell? ⟨A1, 3, none⟩ = some (.slice al1 lc1 cl1) ∧ w'.cell? ⟨A1, 4, none⟩ = some (.slice ak1 mc1 ck1)) ∧ (w'.cell? (a.add (i * 5)) = some (.int .i64 x0) ∧ w'.cell? ⟨(a.add (i * 5)).block, (a.add (i * 5)).off + 1, none⟩ = some (.int .i64 x1) ∧ w'.cell? ⟨(a.add (i * 5)).block, (a.add (i * 5)).off + 2, none⟩ = some (.string x2) ∧ w'.cell? ⟨(a.add (i * 5)).block, (a.add (i * 5)).off + 3, none⟩ = some (.slice al' ll' cl') ∧ w'.cell? ⟨(a.add (i * 5)).block, (a.add (i * 5)).off + 4, none⟩ = some (.slice ak' m' ck')) ∧
          Sem.run Try.prog (convert 44 9 (.slice a3 l3 p3)) w' = .ok (.string T) w' ∧ Sem.run Try.prog (convert 44 9 (.slice a5 l5 p5)) w' = .ok (.string T) w') := hide (fun w' hb => by
        have hb1 : Below w1.heap.size w1 w' := (unhide B5).trans (hb.mono (unhide B5).size)
        obtain ⟨f0, f1, f2, f3, f4, _⟩ := unhide HE w' (unhide HW w' hb1).2.1
        refine ⟨row_cell (unhide HW w' hb1).1, ⟨f0, f1, f2, f3, f4⟩, ?_, ?_⟩
        · have h1 := (((unhide X3).1.later (unhide X4).2.1).later (unhide X5).2.1).later hb
          rw [← hT]
          exact conv8p h1
        · rw [← hT]
          exact conv8p ((unhide X5).1.later hb))
      have D1 : ∀ u, Below u5.heap.size u5 u → Hid (Calls Try.prog 26 #[.agg #[.int .i64 k1, .int .i64 n1, .string s1, .slice al1 lc1 cl1, .slice ak1 mc1 ck1], .agg #[.int .i64 x0, .int .i64 x1, .string x2, .slice al' ll' cl', .slice ak' m' ck']] u fun e w' => e = .returned (.bool true) ∧ Below u.heap.size u w') := fun u hb => by
        have hb1 : Below w1.heap.size w1 u := (unhide B5).trans (hb.mono (unhide B5).size)
        exact hide (unhide CS u y _ _ (unhide HV u hb1) (unhide HE u (unhide HW u hb1).2.1).2.2.2.2.2)
      have D2 : ∀ u, Below u5.heap.size u5 u → Hid (Calls Try.prog 27 #[.slice (some ⟨G2, 0, none⟩) (lb + 40) (lb + 40), .slice ab lb cb] u fun e w' => e = .returned (.bool true) ∧ Below u.heap.size u w') := fun u hb => by
        have hb1 : Below w1.heap.size w1 u := (unhide B5).trans (hb.mono (unhide B5).size)
        have b2 : Below u2.heap.size u2 u := (unhide X3).2.1.trans (((unhide X4).2.1.trans (((unhide X5).2.1.trans (hb.mono (unhide X5).2.1.size)).mono (unhide X4).2.1.size)).mono (unhide X3).2.1.size)
        exact hide (unhide CK u G2 (unhide HW u hb1).2.1 ((b2.block G2 (unhide X2).2.2).trans (unhide X2).2.1))
      have D3 : ∀ u, Below u5.heap.size u5 u → Hid (Calls Try.prog 28 #[.agg #[.int .i64 k1, .int .i64 n1, .string s1, .slice al1 lc1 cl1, .slice ak1 mc1 ck1]] u fun e w' => e = .returned (.int .i64 N) ∧ Below u.heap.size u w') := fun u hb => by
        have hb1 : Below w1.heap.size w1 u := (unhide B5).trans (hb.mono (unhide B5).size)
        rw [← hN]
        exact hide (unhide CN u y _ (unhide HV u hb1))
      have D4 : ∀ u, Below u5.heap.size u5 u → Hid (Calls Try.prog 29 #[.agg #[.int .i64 x0, .int .i64 x1, .string x2, .slice al' ll' cl', .slice ak' m' ck']] u fun e w' => e = .returned (.int .i64 N) ∧ Below u.heap.size u w') := fun u hb => by
        have hb1 : Below w1.heap.size w1 u := (unhide B5).trans (hb.mono (unhide B5).size)
        rw [← hN]
        exact hide (unhide CM u y _ (unhide HE u (unhide HW u hb1).2.1).2.2.2.2.2)
      have HT := hide hT
      clear r5 b5 n5 C5 e0 e1 e2 e3 e4 hT hN hC
      go_upto_region 9 with fail
      go_region_held (fun w' => Below u5.heap.size u5 w' ∧ (w'.cell? ⟨A1, 0, none⟩ = some (.int .i64 k1) ∧ w'.cell? ⟨A1, 1, none⟩ = some (.int .i64 n1) ∧ w'.cell? ⟨A1, 2, none⟩ = some (.string s1) ∧ w'.cell? ⟨A1, 3, none⟩ = some (.slice al1 lc1 cl1) ∧ w'.cell? ⟨A1, 4, none⟩ = some (.slice ak1 mc1 ck1)) ∧ (w'.cell? (a.add (i * 5)) = some (.int .i64 x0) ∧ w'.cell? ⟨(a.add (i * 5)).block, (a.add (i * 5)).off + 1, none⟩ = some (.int .i64 x1) ∧ w'.cell? ⟨(a.add (i * 5)).block, (a.add (i * 5)).off + 2, none⟩ = some (.string x2) ∧ w'.cell? ⟨(a.add (i * 5)).block, (a.add (i * 5)).off + 3, none⟩ = some (.slice al' ll' cl') ∧ w'.cell? ⟨(a.add (i * 5)).block, (a.add (i * 5)).off + 4, none⟩ = some (.slice ak' m' ck')) ∧
          Sem.run Try.prog (convert 44 9 (.slice a3 l3 p3)) w' = .ok (.string T) w' ∧ Sem.run Try.prog (convert 44 9 (.slice a5 l5 p5)) w' = .ok (.string T) w')
        (first | assumption | exact ⟨(Below.refl _ _).drew, unhide HK _ (Below.refl _ _).drew⟩ | (refine keepP HK (And.left (by assumption)) (by assumption); done) | (refine keepP HK ?_ ?_ <;> assumption))
        (first | (go_at_call 26; refine (unhide (D1 _ (And.left (by assumption)))).mono ?_; rintro e w6 ⟨rfl, hb6⟩) | (go_at_call 27; refine (unhide (D2 _ (And.left (by assumption)))).mono ?_; rintro e w7 ⟨rfl, hb7⟩) | (go_at_call 28; refine (unhide (D3 _ (And.left (by assumption)))).mono ?_; rintro e w8 ⟨rfl, hb8⟩) | (go_at_call 29; refine (unhide (D4 _ (And.left (by assumption)))).mono ?_; rintro e w9 ⟨rfl, hb9⟩))
      have B59 : Hid (Below u5.heap.size u5 w9) := hide (And.left (by assumption))
      clear D1 D3 D4 HK
      have B9 : Hid (Below w1.heap.size w1 w9) := hide ((unhide B5).trans ((unhide B59).mono (unhide B5).size))
      have B39 : Hid (Below u3.heap.size u3 w9) := hide ((unhide X4).2.1.trans (((unhide X5).2.1.trans ((unhide B59).mono (unhide X5).2.1.size)).mono (unhide X4).2.1.size))
      have SZ : Hid (w.heap.size ≤ wr.heap.size ∧ wr.heap.size ≤ A1 ∧ A1 < G2 ∧ G2 < u2.heap.size ∧ u2.heap.size ≤ u3.heap.size ∧ u3.heap.size ≤ u4.heap.size ∧ u4.heap.size ≤ u5.heap.size ∧ u5.heap.size ≤ w9.heap.size) := hide (by
        have h1 := unhide HZ1
        have h2 := (unhide X2).2.2
        have h3 := (unhide X3).2.1.size
        have h4 := (unhide X4).2.1.size
        have h5 := (unhide X5).2.1.size
        have h6 := (unhide B59).size
        omega)
      have L3 : Hid (l3 + 41 ≤ 140737489403904) := hide (by
        have h1 := (unhide X3).1.length
        have h2 := (unhide HSM).2
        rw [← hZ] at h1
        cases hR : rightB y with
        | true =>
          have h3 := wenc_most hR
          rw [if_pos hR, List.length_append] at h1
          omega
        | false =>
          have h3 := ((unhide X3).2.2.2.2.2 hR).2.1
          omega)
      have R3 : Hid (Row w9 (fun b => u2.heap.size ≤ b ∧ b < u3.heap.size) w9.heap.size 5 1 (.slice a3 l3 p3) l3) := hide (by
        cases hR : rightB y with
        | true => exact (own_row ((unhide X3).2.2.2.2.1 hR)).later (unhide B39)
        | false =>
          obtain ⟨h1, h2, h3⟩ := (unhide X3).2.2.2.2.2 hR
          exact Or.inl ⟨by rw [h1, h2, h3], h2⟩)
      have C10 := hide (wiped_any a3 l3 p3 (fun b => u2.heap.size ≤ b ∧ b < u3.heap.size) w9 (unhide R3) (unhide L3))
      have HZZ := hide hZ
      clear hb6 hb7 hb8 hb9 hZ
      go_wp2_with fail
      refine (unhide C10).mono ?_
      rintro e u10 ⟨rfl, k10⟩
      have K10 := hide k10
      have N10 : Hid (u10.heap[A1]? = some (.cells #[.int .i64 k1, .int .i64 n1, .string s1, .slice al1 lc1 cl1, .slice ak1 mc1 ck1] 27 (0, 0))) := hide ((k10.block A1 (by have := unhide SZ; omega) (fun h => by have := h.1; have := unhide SZ; omega)).trans (unhide HW w9 (unhide B9)).1)
      have C11 := hide (over_cond y (.agg #[.int .i64 k1, .int .i64 n1, .string s1, .slice al1 lc1 cl1, .slice ak1 mc1 ck1]) ⟨#[120]⟩ (fun b => wr.heap.size ≤ b ∧ b < A1) u10 (((unhide HW w9 (unhide B9)).2.2.1.mono (k10.below (by have := unhide SZ; omega) (fun b hb => by have := hb.1; have := unhide SZ; omega))).lift (by have := unhide SZ; have := k10.size; omega)) (fun hf => ((unhide HW w9 (unhide B9)).2.2.2 hf).move (fun c hc => k10.block c (by have := hc.2; have := unhide SZ; omega) (fun hq => by have := hq.1; have := hc.2; have := unhide SZ; omega))) (fun b hb => by have := hb.2; have := unhide SZ; have := k10.size; omega))
      obtain ⟨c0, c1, c2, c3, c4⟩ := row_cell (unhide N10)
      clear k10 C10 R3
      go_wp2_with fail
      refine (unhide C11).mono ?_
      rintro e u11 ⟨rfl, k11⟩
      have KEEP : Hid (∀ b, b < w9.heap.size → A1 ≤ b → ¬ (u2.heap.size ≤ b ∧ b < u3.heap.size) → u11.heap[b]? = w9.heap[b]?) := hide (fun b h1 h2 h3 => (k11.far (by have := (unhide K10).size; omega) (fun hq => by have := hq.2; omega)).trans ((unhide K10).block b h1 h3))
      have B11 : Hid (Below w.heap.size w u11) := hide ((unhide HW w9 (unhide B9)).2.1.trans (((unhide K10).below (B := w.heap.size) (by have := unhide SZ; omega) (fun b hb => by have := hb.1; have := unhide SZ; omega)).trans (k11.below (B := w.heap.size) (by have := (unhide K10).size; have := unhide SZ; omega) (fun b hb => by have := hb.1; have := unhide SZ; omega))))
      have G11 : Hid (Bys u11 G2 (zs ++ marks lb)) := hide ((unhide KEEP G2 (by have := unhide SZ; omega) (by have := unhide SZ; omega) (fun h => by have := h.1; have := unhide SZ; omega)).trans (((unhide B39).block G2 (by have := unhide SZ; omega)).trans (((unhide X3).2.1.block G2 (by have := unhide SZ; omega)).trans (unhide X2).2.1)))
      have v4 : Sem.run Try.prog (convert 44 9 (.slice a4 l4 p4)) u11 = .ok (.string T) u11 := by
        have h1 : Row8 w9 a4 l4 p4 Z := ((unhide X4).1.later (unhide X5).2.1).later (unhide B59)
        rw [← unhide HT]
        refine conv8p (h1.keep fun ad ha hl => ?_)
        subst ha
        exact unhide KEEP _ (h1.lt hl) (by have := (unhide X4).2.2 ad rfl; have := unhide SZ; omega) (fun h => by have := h.2; have := (unhide X4).2.2 ad rfl; omega)
      have v5 : Sem.run Try.prog (convert 44 9 (.slice a5 l5 p5)) u11 = .ok (.string T) u11 := by
        have h1 : Row8 w9 a5 l5 p5 Z := (unhide X5).1.later (unhide B59)
        rw [← unhide HT]
        refine conv8p (h1.keep fun ad ha hl => ?_)
        subst ha
        exact unhide KEEP _ (h1.lt hl) (by have := (unhide X5).2.2 ad rfl; have := unhide SZ; omega) (fun h => by have := h.2; have := (unhide X5).2.2 ad rfl; have := unhide SZ; omega)
      have C12 := hide (unhide CK u11 G2 (unhide B11) (unhide G11))
      clear k11 C11 c0 c1 c2 c3 c4
      go_wp2_with fail
      refine (unhide C12).mono ?_
      rintro e u12 ⟨rfl, b12⟩
      have HB12 := hide ((unhide B11).trans (b12.mono (unhide B11).size))
      clear b12 C12 v4 v5
      go_wp2_with fail
      go_roundw
      case rel => exact ⟨i + 1, by omega, by go_num, HB12⟩
      case measure => simp [intOf]; omega
    · have i1 : ¬ (i : Int) < (nv : Int) := by omega
      go_wp2_with fail
      refine (unhide CE wr (unhide HB)).mono ?_
      rintro e u ⟨ao, cap, rfl, b⟩
      have HB2 := hide ((unhide HB).trans (b.mono (unhide HB).size))
      have w1 : IntKind.i64.wrap ((lb : Int) + 1) = (lb : Int) + 1 := by rw [IntKind.wrap_i64]; omega
      clear b
      go_wp2_with fail
      go_ret
      exact ⟨by simp, unhide HB2⟩
end Go.Proofs.Ytocklblkopmjgaa
