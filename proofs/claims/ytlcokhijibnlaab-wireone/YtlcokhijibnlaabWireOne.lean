/-
  What is read is right, and is written as just the bytes that were read (WireOneSaid); no condition but the form's own reach.
-/
import Derived.Test.YtlcokhijibnlaabRows
import Derived.Test.YtlcokhijibnlaabWOneP
import Derived.Test.YtlcokhijibnlaabWSame
import Derived.Test.YtlcokhijibnlaabVRefR
import Derived.Test.YtlcokhijibnlaabOpen8
import Derived.ShutString
import Derived.ChangeOld
import Derived.Deep.RegionHeld3
namespace Go.Proofs.Ytlcokhijibnlaab.wireOne
open Go.ChangeShapes Go.WideShapes Go.ChangeAt Go.RowKit
set_option linter.unusedVariables false

theorem own : ownKnob Try.prog.godebug = none := by kernel_rfl
theorem laidOut : laidOutB Try.prog = true := by kernel_rfl

/-- a value that came out lies in a new variable -/
theorem new_var (u : World) (A : Array Value) (G : Nat) (hG : u.heap.size = G) :
    (u.alloc (.cells A 26)).heap[G]? = some (.cells A 26 (0, 0)) ∧ Below G u (u.alloc (.cells A 26)) ∧ (u.alloc (.cells A 26)).heap.size = G + 1 := by
  subst hG
  exact ⟨heap_alloc_new u _, (Below.refl _ _).alloc (Nat.le_refl _) _, by simp⟩

theorem sm_self {v : Vl} (h : rightB v = true) : smB v v = true := by
  have := (sameB_iff v v).2 rfl
  simp [smB, few_right h, this]

set_option maxRecDepth 100000 in
set_option maxHeartbeats 1000000 in
theorem walk_err (ao : Option Addr) (len cap : Nat) (zs : List Int) (p ec eq : Int) (w : World) (hz : Row8 w ao len cap zs) (hm : cap ≤ maxLen) (hp : -9223372036854775808 ≤ p ∧ p ≤ 9223372036854775807) (hT : takeR zs p = .error (ec, eq)) (hcp : ec = 41 ∨ ec = 42) :
    Calls Try.prog 7 #[.slice ao len cap, .int .i64 p] w fun e w' => e = .returned (.bool true) ∧ Below w.heap.size w w' := by
  have CT := hide (take_any ao len cap zs p w hz hm)
  rw [hT] at CT
  have hne : ¬ ec = 0 := by omega
  have HP := hide hp
  have hC : codeR (.mk 2 p ⟨#[]⟩ [] []) = 0 := by simp [codeR, right_int]
  have hW : wenc0R (.mk 2 p ⟨#[]⟩ [] []) = wenc (.mk 2 p ⟨#[]⟩ [] []) := by simp [wenc0R, right_int]
  have CE := fun u : World => hide (encode_any (.mk 2 p ⟨#[]⟩ [] []) _ u.heap.size u (plain_val u _ 2 p ⟨#[]⟩ (by omega) (unhide HP) (by rw [e0s]; omega)) (Nat.le_refl _))
  simp only [hC, hW] at CE
  have hD := take_int p (unhide HP)
  have CD := fun (u : World) a l c (h : Row8 u a l c (wenc (.mk 2 p ⟨#[]⟩ [] []))) (hm : c ≤ maxLen) => hide (decode_any a l c _ u h hm)
  simp only [hD] at CD
  have CS := fun u : World => hide (same_any (.mk 0 0 ⟨#[]⟩ [] []) (.mk 0 0 ⟨#[]⟩ [] []) _ _ u.heap.size u (plain_val u _ 0 0 ⟨#[]⟩ (by omega) (by omega) (by rw [e0s]; omega)) (plain_val u _ 0 0 ⟨#[]⟩ (by omega) (by omega) (by rw [e0s]; omega)) (Nat.le_refl _))
  have CS2 := fun (u : World) x (hx : IsV u u.heap.size (.mk 2 p ⟨#[]⟩ [] []) x) => hide (same_any (.mk 2 p ⟨#[]⟩ [] []) (.mk 2 p ⟨#[]⟩ [] []) x _ u.heap.size u hx (plain_val u _ 2 p ⟨#[]⟩ (by omega) (unhide HP) (by rw [e0s]; omega)) (Nat.le_refl _))
  simp only [sm_self right_unit] at CS
  simp only [sm_self (right_int p)] at CS2
  obtain ⟨Q, hQ⟩ : ∃ Q, wenc (.mk 2 p ⟨#[]⟩ [] []) = Q := ⟨_, rfl⟩
  simp only [hQ] at CE CD
  clear hT hz hp hC hW hD hQ
  go_enter Try.func7, Try.ntmps7
  go_wp2_with fail
  refine (unhide CT).mono ?_
  rintro e u1 ⟨rfl, b1⟩
  have H1 := hide b1
  clear b1 CT
  go_upto_region 2 with fail
  obtain ⟨G1, hG1⟩ : ∃ G, u1.heap.size = G := ⟨_, rfl⟩
  have N1 := new_var u1 #[.int .i64 0, .int .i64 0, .string ⟨#[]⟩, .slice none 0 0, .slice none 0 0] G1 hG1
  simp only [hG1]
  obtain ⟨w2, hw2⟩ : ∃ w2, u1.alloc (.cells #[.int .i64 0, .int .i64 0, .string ⟨#[]⟩, .slice none 0 0, .slice none 0 0] 26) = w2 := ⟨_, rfl⟩
  rw [hw2] at N1 ⊢
  have HN1 := hide N1
  have HG1 := hide hG1
  clear hw2 N1 hG1
  go_wp2_with fail
  refine (unhide (CE w2)).mono ?_
  rintro e u3 ⟨a3, l3, c3, rfl, q3, b3, n3, m3⟩
  have H3 := hide (And.intro q3 (And.intro b3 m3))
  clear q3 b3 n3 m3
  go_wp2_with fail
  refine (unhide (CD u3 a3 l3 c3 (unhide H3).1 (unhide H3).2.2)).mono ?_
  rintro e u4 ⟨x4, rfl, p4, b4⟩
  obtain ⟨k5, n5, s5, l5, ks5, al5, ak5, cl5, ck5, hy5, rfl⟩ := p4.shape
  clear hy5
  obtain ⟨lc5, hlc5⟩ : ∃ lc5, l5.length = lc5 := ⟨_, rfl⟩
  obtain ⟨mc5, hmc5⟩ : ∃ mc5, ks5.length = mc5 := ⟨_, rfl⟩
  rw [hlc5, hmc5] at p4 ⊢
  clear hlc5 hmc5
  have H4 := hide (And.intro p4 b4)
  clear p4 b4
  go_upto_region 5 with fail
  obtain ⟨G4, hG4⟩ : ∃ G, u4.heap.size = G := ⟨_, rfl⟩
  have N4 := new_var u4 #[.int .i64 k5, .int .i64 n5, .string s5, .slice al5 lc5 cl5, .slice ak5 mc5 ck5] G4 hG4
  simp only [hG4]
  obtain ⟨w5, hw5⟩ : ∃ w5, u4.alloc (.cells #[.int .i64 k5, .int .i64 n5, .string s5, .slice al5 lc5 cl5, .slice ak5 mc5 ck5] 26) = w5 := ⟨_, rfl⟩
  rw [hw5] at N4 ⊢
  have B45 : Below u4.heap.size u4 w5 := by rw [hG4]; exact N4.2.1
  have B25 : Below w2.heap.size w2 w5 := (unhide H3).2.1.trans (((unhide H4).2.trans (B45.mono (unhide H4).2.size)).mono (unhide H3).2.1.size)
  have z1 : G1 < w2.heap.size := by have := (unhide HN1).2.2; omega
  obtain ⟨c0, c1, c2, c3', c4⟩ := row_cell ((B25.block G1 z1).trans (unhide HN1).1)
  have HI : Hid (∀ u, Below w5.heap.size w5 u → IsV u u.heap.size (.mk 2 p ⟨#[]⟩ [] []) (.agg #[.int .i64 k5, .int .i64 n5, .string s5, .slice al5 lc5 cl5, .slice ak5 mc5 ck5]) ∧ u.heap[G4]? = some (.cells #[.int .i64 k5, .int .i64 n5, .string s5, .slice al5 lc5 cl5, .slice ak5 mc5 ck5] 26 (0, 0)) ∧ Below w.heap.size w u) := hide (fun u hu => by
    have hs5 := N4.2.2
    have b5u : Below u4.heap.size u4 u := B45.trans (hu.mono B45.size)
    refine ⟨((unhide H4).1.move (fun c hc => b5u.block c hc.2)).isV (fun c hc => Nat.lt_of_lt_of_le hc.2 b5u.size), (hu.block G4 (by omega)).trans N4.1, ?_⟩
    have h12 : Below w.heap.size w w2 := (unhide H1).trans (((unhide HN1).2.1).mono (by have := (unhide H1).size; have := unhide HG1; omega))
    exact h12.trans ((B25.trans (hu.mono B25.size)).mono h12.size))
  have HX0 := hide (Below.refl w5.heap.size w5)
  clear hw5 N4 B45 B25 hG4 z1
  go_wp2_with fail
  refine (unhide (CS w5)).mono ?_
  rintro e u6 ⟨rfl, b6⟩
  obtain ⟨y0, y1, y2, y3, y4⟩ := row_cell (unhide HI u6 b6).2.1
  have H6 := hide b6
  clear b6 c0 c1 c2 c3' c4
  rcases hcp with rfl | rfl
  · go_wp2_with fail
    refine (unhide (CS2 u6 _ (unhide HI u6 (unhide H6)).1)).mono ?_
    rintro e u7 ⟨rfl, b7⟩
    have H7 := hide b7
    clear b7
    go_wp2_with fail
    go_ret
    exact ⟨by simp, (unhide HI u7 ((unhide H6).trans ((unhide H7).mono (unhide H6).size))).2.2⟩
  · go_wp2_with fail
    refine (unhide (CS2 u6 _ (unhide HI u6 (unhide H6)).1)).mono ?_
    rintro e u7 ⟨rfl, b7⟩
    have H7 := hide b7
    clear b7
    go_wp2_with fail
    go_ret
    exact ⟨by simp, (unhide HI u7 ((unhide H6).trans ((unhide H7).mono (unhide H6).size))).2.2⟩

theorem conv_later {v w' : World} {b off : Nat} {len : Nat} {zs : List Int} (hz : zs.length = len) (hc : ∀ j, j < len → v.cell? ⟨b, off + j, none⟩ = some (.int .u8 (zs.getD j 0))) (i n cap : Nat) (hi : i + n ≤ len) (hb : Below v.heap.size v w') :
    Sem.run Try.prog (convert 22 9 (.slice (some ⟨b, off + i, none⟩) n cap)) w' = .ok (.string (strOfNums ((zs.drop i).take n))) w' :=
  conv_row (w := w') hz (fun j hj => cell_later hb (hc j hj)) i n cap hi 0

theorem keepS {v w1 w2 : World} {P : World → Prop} (H : Hid (∀ w', Below v.heap.size v w' → P w')) (h : Below v.heap.size v w1) (hb : Below w1.heap.size w1 w2) : Below v.heap.size v w2 ∧ P w2 :=
  ⟨h.trans (hb.mono h.size), unhide H _ (h.trans (hb.mono h.size))⟩

set_option maxRecDepth 100000 in
set_option maxHeartbeats 1000000 in
theorem walk_ok (ao : Option Addr) (len cap : Nat) (zs : List Int) (p : Int) (v : Vl) (n : Nat) (w : World) (hz : Row8 w ao len cap zs) (hm : cap ≤ maxLen) (hT : takeR zs p = .ok (v, n)) :
    Calls Try.prog 7 #[.slice ao len cap, .int .i64 p] w fun e w' => e = .returned (.bool true) ∧ Below w.heap.size w w' := by
  have CT := hide (take_any ao len cap zs p w hz hm)
  rw [hT] at CT
  obtain ⟨a, rfl, t, _, SN⟩ := take_bound hz.small hT
  have hR : rightB v = true := by
    unfold rightB
    rw [SN.ok]
    have h1 := SN.wt
    have h2 := SN.most
    simp
    omega
  have hlen := hz.length
  have hle := hz.le
  have hal := SN.lt
  have hnl : n ≤ len := by have := SN.le; omega
  obtain ⟨b, off, rfl, hc⟩ := hz.at (by omega)
  have HS0 : Hid (∀ w', Below w.heap.size w w' → Sem.run Try.prog (convert 22 9 (.slice (some ⟨b, off + a, none⟩) (n - a) (cap - a))) w' = .ok (.string (strOfNums (wenc v))) w') := hide (fun w' hb => by
    rw [SN.enc]
    exact conv_later hlen hc a (n - a) (cap - a) (by omega) hb)
  have hC : codeR v = 0 := by simp [codeR, hR]
  have hW : wenc0R v = wenc v := by simp [wenc0R, hR]
  have CE := fun (u : World) y (hy : IsV u u.heap.size v y) => hide (encode_any v y _ u hy (Nat.le_refl _))
  simp only [hC, hW] at CE
  have CR := fun (u : World) y (hy : IsV u u.heap.size v y) => hide (right_ref v y _ u hy (Nat.le_refl _))
  simp only [hR] at CR
  have hpos := wenc_pos v 8 SN.ok
  obtain ⟨Q, hQ⟩ : ∃ Q, wenc v = Q := ⟨_, rfl⟩
  rw [hQ] at HS0 hpos
  simp only [hQ] at CE
  obtain ⟨T, hTT⟩ : ∃ T, strOfNums Q = T := ⟨_, rfl⟩
  rw [hTT] at HS0
  have HT := hide hTT
  have hmx : cap ≤ 9223372036854775807 := by unfold maxLen at hm; omega
  clear hT SN hR hC hW hQ hTT hc hz hlen
  have i1 : (0 : Int) ≤ (a : Int) := by omega
  have i2 : (a : Int) < (n : Int) := by omega
  have i2' : (a : Int) ≤ (n : Int) := by omega
  have i3 : (n : Int) ≤ (len : Int) := by omega
  have i5 : (n : Int) ≤ (cap : Int) := by omega
  have i6 : ¬ cap = a := by omega
  go_enter Try.func7, Try.ntmps7
  go_wp2_with fail
  refine (unhide CT).mono ?_
  rintro e u1 ⟨x1, rfl, p1, b1⟩
  obtain ⟨k5, n5, s5, l5, ks5, al5, ak5, cl5, ck5, hy5, rfl⟩ := p1.shape
  clear hy5
  obtain ⟨lc5, hlc5⟩ : ∃ lc5, l5.length = lc5 := ⟨_, rfl⟩
  obtain ⟨mc5, hmc5⟩ : ∃ mc5, ks5.length = mc5 := ⟨_, rfl⟩
  rw [hlc5, hmc5] at p1 ⊢
  clear hlc5 hmc5
  have H1 := hide (And.intro p1 b1)
  clear p1 b1 CT
  go_upto_region 2 with fail
  obtain ⟨G1, hG1⟩ : ∃ G, u1.heap.size = G := ⟨_, rfl⟩
  have N1 := new_var u1 #[.int .i64 k5, .int .i64 n5, .string s5, .slice al5 lc5 cl5, .slice ak5 mc5 ck5] G1 hG1
  simp only [hG1]
  obtain ⟨w2, hw2⟩ : ∃ w2, u1.alloc (.cells #[.int .i64 k5, .int .i64 n5, .string s5, .slice al5 lc5 cl5, .slice ak5 mc5 ck5] 26) = w2 := ⟨_, rfl⟩
  rw [hw2] at N1 ⊢
  have HI : Hid (∀ u, Below w2.heap.size w2 u → IsV u u.heap.size v (.agg #[.int .i64 k5, .int .i64 n5, .string s5, .slice al5 lc5 cl5, .slice ak5 mc5 ck5]) ∧ u.heap[G1]? = some (.cells #[.int .i64 k5, .int .i64 n5, .string s5, .slice al5 lc5 cl5, .slice ak5 mc5 ck5] 26 (0, 0)) ∧ Below w.heap.size w u) := hide (fun u hu => by
    have hs := N1.2.2
    have b1u : Below u1.heap.size u1 u := by rw [hG1]; exact N1.2.1.trans (hu.mono (by omega))
    exact ⟨((unhide H1).1.move (fun c hc => b1u.block c hc.2)).isV (fun c hc => Nat.lt_of_lt_of_le hc.2 b1u.size), (hu.block G1 (by omega)).trans N1.1, (unhide H1).2.trans (b1u.mono (unhide H1).2.size)⟩)
  obtain ⟨c0, c1, c2, c3, c4⟩ := row_cell N1.1
  clear hw2 N1 hG1 H1
  go_wp2_with fail
  refine (unhide (CE w2 _ (unhide HI w2 (Below.refl _ _)).1)).mono ?_
  rintro e u3 ⟨a3, l3, cp3, rfl, q3, b3, n3, m3⟩
  have e3 := q3.length
  obtain ⟨b4, o4, rfl, k4⟩ := q3.at (by omega)
  have hl3 : l3 ≤ cp3 := q3.le
  have HX : Hid (∀ u, Below u3.heap.size u3 u → Below w2.heap.size w2 u) := hide (fun u hu => b3.trans (hu.mono b3.size))
  have HK : Hid (∀ w', Below u3.heap.size u3 w' → (w'.cell? ⟨G1, 0, none⟩ = some (.int .i64 k5) ∧ w'.cell? ⟨G1, 1, none⟩ = some (.int .i64 n5) ∧ w'.cell? ⟨G1, 2, none⟩ = some (.string s5) ∧ w'.cell? ⟨G1, 3, none⟩ = some (.slice al5 lc5 cl5) ∧ w'.cell? ⟨G1, 4, none⟩ = some (.slice ak5 mc5 ck5)) ∧
      Sem.run Try.prog (convert 22 9 (.slice (some ⟨b4, o4, none⟩) l3 cp3)) w' = .ok (.string T) w' ∧ Sem.run Try.prog (convert 22 9 (.slice (some ⟨b, off + a, none⟩) (n - a) (cap - a))) w' = .ok (.string T) w') := hide (fun w' hb => by
    have h2 := unhide HI w' (unhide HX w' hb)
    refine ⟨row_cell h2.2.1, ?_, unhide HS0 w' h2.2.2⟩
    have hcv := conv_later e3 k4 0 l3 cp3 (by omega) hb
    rw [Nat.add_zero, List.drop_zero, List.take_of_length_le (by omega), unhide HT] at hcv
    exact hcv)
  have CR' := fun (u : World) (hu : Below u3.heap.size u3 u) => CR u _ (unhide HI u (unhide HX u hu)).1
  clear c0 c1 c2 c3 c4 q3 b3 n3 m3 CE CR k4 HS0
  go_upto_region 7 with fail
  go_region_held (fun w' => Below u3.heap.size u3 w' ∧ (w'.cell? ⟨G1, 0, none⟩ = some (.int .i64 k5) ∧ w'.cell? ⟨G1, 1, none⟩ = some (.int .i64 n5) ∧ w'.cell? ⟨G1, 2, none⟩ = some (.string s5) ∧ w'.cell? ⟨G1, 3, none⟩ = some (.slice al5 lc5 cl5) ∧ w'.cell? ⟨G1, 4, none⟩ = some (.slice ak5 mc5 ck5)) ∧
      Sem.run Try.prog (convert 22 9 (.slice (some ⟨b4, o4, none⟩) l3 cp3)) w' = .ok (.string T) w' ∧ Sem.run Try.prog (convert 22 9 (.slice (some ⟨b, off + a, none⟩) (n - a) (cap - a))) w' = .ok (.string T) w')
    (first | assumption | exact ⟨(Below.refl _ _).drew, unhide HK _ (Below.refl _ _).drew⟩ | (refine keepS HK (And.left (by assumption)) (by assumption); done) | (refine keepS HK ?_ ?_ <;> assumption))
    (first | (go_at_call 25; refine (unhide (CR' _ (Below.refl _ _).drew)).mono ?_; rintro e w5 ⟨rfl, hb5⟩))
  have HB5 := hide (unhide HI w5 (unhide HX w5 (((Below.refl u3.heap.size u3).drew).trans hb5))).2.2
  clear hb5
  go_wp2_with fail
  go_ret
  exact ⟨by simp, unhide HB5⟩

theorem walk (ao : Option Addr) (len cap : Nat) (zs : List Int) (p : Int) (w : World) (hz : Row8 w ao len cap zs) (hm : cap ≤ maxLen) (hp : -9223372036854775808 ≤ p ∧ p ≤ 9223372036854775807) :
    Calls Try.prog 7 #[.slice ao len cap, .int .i64 p] w fun e w' => e = .returned (.bool true) ∧ Below w.heap.size w w' := by
  cases hT : takeR zs p with
  | error e => exact walk_err ao len cap zs p e.1 e.2 w hz hm hp hT (take_code hT)
  | ok q => exact walk_ok ao len cap zs p q.1 q.2 w hz hm hT

set_option maxRecDepth 100000 in
theorem lifted (os : Os) (started : os.Started) (H : Type) (enc : TypeId × Value → H) :
    ReturnsInHanded {} Try.checked os 7 .any (Rows.wireOneSpec.pre6 enc Try.prog Try.f7 Rows.wireOneRow.domain false) (Rows.wireOneSpec.post enc Try.prog Try.f7 false true false false) := by
  refine returnsInHanded_of_change (C := Try.checked) own started (by kernel_rfl) Try.func7
    (ChangeSpec.witness6 (enc := enc) (C := Try.checked) false ⟨#[], #[.slice none 0 0, .int .i64 0], []⟩ 8 (by kernel_rfl) (by kernel_rfl) (by kernel_rfl) (by kernel_rfl)) ?_
  intro W base args ds gs before hval0 hW hcnd _
  have hval : ∀ (j : Nat) t v, Try.f7.params[j]? = some t → args[j]? = some v → Value.okWide Try.prog W .any base t v := hval0
  have hW' := hW
  obtain ⟨p, q, hA0, hV, rfl, hfz, hnd⟩ := hW
  have hA : DataW.TrodAll enc Try.prog W 0 (fun _ => true) true Try.f7.params.toList args.toList ds p := hA0
  rw [Try.params7] at hA hval
  obtain ⟨v0, vs0, d0, ds0, p0, q0, hargs, rfl, rfl, h0, r0⟩ := trodAll_cons hA
  obtain ⟨v1, vs1, d1, ds1, p1, q1, rfl, rfl, rfl, h1, r1⟩ := trodAll_cons r0
  obtain ⟨rfl, rfl, rfl⟩ := trodAll_nil r1
  obtain rfl : args = #[v0, v1] := by cases args; simp_all
  obtain ⟨rfl, rfl⟩ := trodVars_none hV
  obtain ⟨a0, len0, cap0, rfl⟩ := okWide_slice Try.underlying22 (hval 0 22 v0 rfl rfl)
  have k0 := h0
  have lt0 : ∀ x ∈ p0, x.block < W.heap.size := by obtain ⟨m, hm⟩ := k0; exact DataW.trod_lt m _ _ _ hm
  obtain ⟨z0, w0, hcap, _⟩ := open_row8 h0
  obtain ⟨a1, rfl, rfl, rfl, w1⟩ := open_int Try.underlying3 (hval 1 3 v1 rfl rfl) h1
  clear hA0 hval0
  refine (walk a0 len0 cap0 z0 a1 W w0 hcap (bounds_i64 w1)).mono fun e W' ⟨he, bel⟩ => ?_
  subst he
  exact ⟨_, rfl, _, _, _, [], _, [], hW', trodAll_mk1 (shut_bool Try.underlying4 _), (trodAll_cons_mk (Below.trod laidOut (by kernel_rfl) (of_decide_eq_true (by kernel_rfl)) k0 bel lt0) (trodAll_cons_mk (shut_int Try.underlying3 w1) trodAll_mk0)), rfl, bel.frame _, fun h => by cases h⟩

theorem over : Rows.wireOneRow.holds Try.pinned (OpenSpec.ofChange Rows.wireOneSpec) :=
  OpenClaim.holds_of_wide 7 Try.f7 rfl rfl rfl rfl rfl rfl rfl ⟨rfl, rfl, rfl, rfl, rfl⟩ rfl rfl rfl rfl rfl (by kernel_rfl) Try.func7 (by kernel_rfl)
    (of_decide_eq_true (by kernel_rfl)) (by unfold Func.isWrapper; first | (rw [if_pos (by decide +kernel)]; kernel_rfl) | (rw [if_neg (by decide +kernel)]; exact ⟨rfl, rfl⟩))
    (fun os started H enc _ => lifted os started H enc)

end Go.Proofs.Ytlcokhijibnlaab.wireOne

namespace Go.Proofs.Ytlcokhijibnlaab
theorem wireOne_holds : Rows.WireOneSaid := wireOne.over
#print axioms wireOne_holds
end Go.Proofs.Ytlcokhijibnlaab
