/-
  The walk of the document's Sum (layer 2): the digest of bytes; conditions: lengths within the form's reach.
-/
import Derived.Test.YtjgjebohbgbimaaDoorA37
import Derived.Test.YtjgjebohbgbimaaDoorA38
import Derived.Test.YtjgjebohbgbimaaDoorA39
set_option linter.unusedVariables false
set_option linter.unusedSimpArgs false
namespace Go.Proofs.YtjgjebohbgbimaaDoor
open Go.RowKit

/-- what the walk of Sum keeps in hand: the result's block, the table's, the state's -/
structure Smd (w wr : World) (B K Hh : Nat) (st : List Int) : Prop where
  out : wr.heap[B]? = some (.cells zb32 29 (0, 0))
  tab : Words wr K 61 KS
  st : Words wr Hh 63 st
  below : Below B w wr

theorem Smd.keep {w wr wx : World} {B K Hh E : Nat} {st : List Int} (h : Smd w wr B K Hh st) (hb : Below E wr wx) (h1 : B < E) (h2 : K < E) (h3 : Hh < E) : Smd w wx B K Hh st :=
  ⟨(hb.block _ h1).trans h.out, (hb.block _ h2).trans h.tab, (hb.block _ h3).trans h.st, h.below.trans (hb.mono (by omega))⟩

theorem smd_start {w w1 w2 w3 w4 w5 : World} {B : Nat} (M1 : Made w w1 zb32 29) (H2 : Below w1.heap.size w1 w2) (M3 : Made w2 w3 zw64 61) (M4 : Put w3 w4 w2.heap.size (KS.map (Value.int .u32)).toArray 61) (M5 : Made w4 w5 (H0.map (Value.int .u32)).toArray 63) (hB : w.heap.size = B) :
    Smd w w5 B w2.heap.size w4.heap.size H0 ∧ B < w2.heap.size ∧ w2.heap.size < w4.heap.size ∧ w5.heap.size = w4.heap.size + 1 := by
  subst hB
  have z1 := M1.size
  have z2 := H2.size
  have z3 := M3.size
  have z4 := M4.size
  have z5 := M5.size
  refine ⟨⟨(M5.below.block _ (by omega)).trans ((M4.other _ (by omega)).trans ((M3.below.block _ (by omega)).trans ((H2.block _ (by omega)).trans M1.at'))), (M5.below.block _ (by omega)).trans M4.at', M5.at', (M4.below _ _ ((M1.below.trans (H2.mono (by omega))).trans (M3.below.mono (by omega))) (by omega)).trans (M5.below.mono (by omega))⟩, by omega, by omega, z5⟩

theorem Smd.put {w wr wx : World} {B K Hh : Nat} {st st' : List Int} (h : Smd w wr B K Hh st) (p : Put wr wx Hh (st'.map (Value.int .u32)).toArray 63) (h1 : B < Hh) (h2 : K < Hh) : Smd w wx B K Hh st' :=
  ⟨(p.other _ (by omega)).trans h.out, (p.other _ (by omega)).trans h.tab, p.at', p.below _ _ h.below (by omega)⟩

theorem splice_whole (cur cs : List Value) (h : cs.length = cur.length) : splice cur 0 cs = cs := by
  unfold splice
  rw [List.take_zero, List.nil_append, Nat.zero_add, List.drop_eq_nil_of_le (by omega), List.append_nil]

theorem there_words {w : World} {g m : Nat} {T : TypeId} {st : List Int} (h : Words w g T st) (hm : m ≤ st.length) : w.there g 0 m := fun j hj => by
  rw [Nat.zero_add]
  refine ⟨?_, frozen_of_row w g j _ T h⟩
  rw [cell_of_row w g j _ _ (0, 0) h, List.getElem?_toArray, List.getElem?_map, List.getElem?_eq_getElem (by omega)]
  rfl

theorem Smd.set {w wr : World} {B K Hh : Nat} {st : List Int} (h : Smd w wr B K Hh st) (g j : Nat) (x : Value) (h1 : Hh < g) (h2 : K < Hh) (h3 : B < K) : Smd w (wr.setCell ⟨g, j, none⟩ x) B K Hh st :=
  ⟨by rw [heap_setCell_other _ _ _ _ (by simp; omega)]; exact h.out, by unfold Words; rw [heap_setCell_other _ _ _ _ (by simp; omega)]; exact h.tab, by unfold Words; rw [heap_setCell_other _ _ _ _ (by simp; omega)]; exact h.st, h.below.setCell (p := ⟨g, j, none⟩) (by show B ≤ g; omega) x⟩

theorem foldB_bounds (ks st l : List Int) (h : ∀ y ∈ st, 0 ≤ y ∧ y ≤ 4294967295) : ∀ k, ∀ y ∈ foldB ks st l k, 0 ≤ y ∧ y ≤ 4294967295
  | 0 => h
  | k + 1 => comp_bounds ks _ _ (foldB_bounds ks st l h k)

theorem pad_stop (n k : Nat) (h : k ≤ padE n - 9) : (n + 1 + k) % 64 = 56 ↔ k = padE n - 9 := by
  have h1 := padE_bounds n
  have h2 := pad_whole n
  omega

theorem own_sliceH {w : World} {base : Nat} {v : Value} {n : Nat} {xs : List Value} (h : w.ownsRow base 5 1 v n xs) (hn : 0 < n) : ∃ g cap, v = .slice (some ⟨g, 0, none⟩) n cap ∧ base ≤ g := by
  rcases h.2 with ⟨_, e⟩ | ⟨g, cap, cur, e, hb, _⟩
  · omega
  · exact ⟨g, cap, e, hb⟩

set_option maxRecDepth 100000 in
set_option maxHeartbeats 800000 in
theorem refSum_any (ao : Option Addr) (len cap : Nat) (zs : List Int) (w : World) (hr : ∀ u, Below w.heap.size w u → Src u ao len cap zs) (hz : ∀ y ∈ zs, 0 ≤ y ∧ y ≤ 255) (hm : len ≤ 140737488351232) :
    Calls Tryd.prog 21 #[.slice ao len cap] w fun e w' => e = .returned (.agg ((digM KS zs).map (Value.int .u8)).toArray) ∧ Below w.heap.size w w' := by
  obtain ⟨i32, hi32, hz32⟩ := zi32
  obtain ⟨i64, hi64, hz64⟩ := zi64
  have HRR := hide hr
  have HZ := hide hz
  have HM := hide hm
  have HSK := hide ks_size
  have HZK := hide (sizeW (T := 61) sw64 KS_len)
  have CW := fun w => hide (refWords_any w)
  clear hr hz hm
  have tokA : True := trivial
  have tokB : True := trivial
  have tokC : True := trivial
  have tokD : True := trivial
  obtain ⟨B, hB⟩ : ∃ B, w.heap.size = B := ⟨_, rfl⟩
  go_enter Tryd.func21, Tryd.ntmps21
  go_wp2_with (first
    | (have _t := tokA; refine wpList_new_arr rfl 29 rfl i32 zb32 hi32 hz32 ?_; intro w1 M1; clear tokA))
  refine (unhide (CW _)).mono ?_
  rintro e w2 ⟨rfl, b2⟩
  have H2 := hide b2
  clear b2
  obtain ⟨KL, hKL⟩ : ∃ KL, KS.map (Value.int .u32) = KL := ⟨_, rfl⟩
  rw [hKL] at HSK HZK ⊢
  have tokE : True := trivial
  have hm := unhide HM
  go_wp2_with (first
    | (have _t := tokB; refine wpList_new_arr rfl 61 rfl i64 zw64 hi64 hz64 ?_; intro w3 M3; clear tokB)
    | (have _t := tokC; refine wpList_put_arr rfl 61 (.tmp 3) (.tmp 11) rfl w2.heap.size zw64 KL.toArray rfl rfl (unhide M3).at' (unhide HSK) (unhide HZK) (by rw [← hKL]; exact words_one _) ?_; intro w4 M4; clear tokC; obtain ⟨w5, hw5⟩ : ∃ w5, w4.alloc (.cells #[.int .u32 1779033703, .int .u32 3144134277, .int .u32 1013904242, .int .u32 2773480762, .int .u32 1359893119, .int .u32 2600822924, .int .u32 528734635, .int .u32 1541459225] 63) = w5 := ⟨_, rfl⟩; have M5 : Hid (Made w4 w5 (H0.map (Value.int .u32)).toArray 63) := hide (by rw [← hw5]; exact Made.mk'); have S5 : Hid (Smd w w5 B w2.heap.size w4.heap.size H0 ∧ B < w2.heap.size ∧ w2.heap.size < w4.heap.size ∧ w5.heap.size = w4.heap.size + 1) := (hide (smd_start (unhide M1) (unhide H2) (unhide M3) (by rw [← hKL] at M4; exact unhide M4) (unhide M5) hB)); have R5 := hide (unhide HRR w5 (by rw [hB]; exact (unhide S5).1.below)))
    | (have _t := tokD; refine app_own rfl (.tmp 13) (.tmp 14) rfl w5.heap.size 0 (.slice none 0 0) [] rfl (World.ownsRow_nil _ _ _ _) ao len cap zs rfl (unhide R5) (by omega) (Nat.le_refl _) ?_; intro v6 w6 O6; clear tokD; have P6 : Hid (w6.ownsRow w5.heap.size 5 1 v6 len (zs.map (Value.int .u8)) ∧ Below w5.heap.size w5 w6) := (hide ⟨by simpa using (unhide O6).1, (Below.refl _ _).grown (unhide O6).2 (Nat.le_refl _) (fun k hk => by simp [Value.ownBlock] at hk)⟩))
    | (have _t := tokE; refine app_own rfl (.tmp 16) (.tmp 17) rfl w5.heap.size len v6 zs rfl ((unhide P6).1.alloc _) (some ⟨w6.heap.size, 0, none⟩) 1 1 [128] rfl (src_one w6 128) (by omega) (by have := (unhide P6).2.size; simp; omega) ?_; intro v7 w7 O7; clear tokE))
  obtain ⟨E, hE⟩ : ∃ E, w5.heap.size = E := ⟨_, rfl⟩
  rw [hE] at P6 O7
  have B7 : Hid (Below E w5 w7) := hide ((((unhide P6).2.alloc (by have := (unhide P6).2.size; omega) _)).grown (unhide O7).2 (by have := (unhide P6).2.size; simp; omega) (fun k hk => ((unhide P6).1.lt k hk).1))
  have O7' : Hid (w7.ownsRow E 5 1 v7 (len + 1 + 0) ((zs ++ 128 :: List.replicate 0 0).map (Value.int .u8))) := hide (by simpa using (unhide O7).1)
  obtain ⟨Z, hZ⟩ : ∃ Z, padE len - 9 = Z := ⟨_, rfl⟩
  have hpb := padE_bounds len
  have hst := fun k (h : k ≤ Z) => pad_stop len k (by omega)
  have HST := hide hst
  have HPB := hide (And.intro hZ hpb)
  clear hst hpb hZ O6 O7 P6 M1 M3 M4 M5 H2 hw5 R5
  have hE64 : E ≤ w7.heap.size := by have := (unhide B7).size; omega
  have slen : slLen v7 = len + 1 + 0 := by obtain ⟨g, c, rfl, _⟩ := own_sliceH (unhide O7') (by omega); rfl
  go_loopw [5] (fun v wr => ∃ k : Nat, k ≤ Z ∧ slLen v = len + 1 + k ∧ Hid (wr.ownsRow E 5 1 v (len + 1 + k) ((zs ++ 128 :: List.replicate k 0).map (Value.int .u8))) ∧ Hid (Below E w5 wr)) (fun v _ => len + 1 + Z - slLen v)
  case atStart => exact ⟨0, by omega, slen, O7', B7⟩
  case round =>
    clear slen O7' B7 hE64
    obtain ⟨k, hkZ, hsl, HO, HBw⟩ := hrel
    obtain ⟨g, c, hv, hg⟩ := own_sliceH (unhide HO) (by omega)
    subst hv
    have hst := unhide HST k hkZ
    have hpb := unhide HPB
    obtain ⟨N, hN⟩ : ∃ N, len + 1 + k = N := ⟨_, rfl⟩
    rw [hN] at HO hst ⊢
    obtain ⟨r, hr⟩ : ∃ r, N % 64 = r := ⟨_, rfl⟩
    rw [hr] at hst
    by_cases hk : k = Z
    · have r2 : r = 56 := by omega
      have r1 : (N : Int) % 64 = 56 := by omega
      have r1' : (N : Int).tmod 64 = 56 := by rw [Int.tmod_eq_emod_of_nonneg (by omega)]; exact r1
      clear r2 hr
      subst hk
      obtain ⟨LB, hLB⟩ : ∃ LB, 8 * len % 18446744073709551616 = LB := ⟨_, rfl⟩
      have l1 : 8 * (len : Int) % 18446744073709551616 = (LB : Int) := by omega
      have l2 : IntKind.u64.wrap (8 * (len : Int)) = (LB : Int) := by rw [IntKind.wrap_u64]; omega
      have l3 : IntKind.u64.wrap (len : Int) = (len : Int) := by rw [IntKind.wrap_u64]; omega
      have l4 : (len : Int) % 18446744073709551616 = (len : Int) := by omega
      have hlen8 : (lenL len).length = 8 := by simp [lenL]
      have hlat : ∀ j, j < 8 → (lenL len).take (j + 1) = (lenL len).take j ++ [(LB : Int) / 2 ^ (8 * (7 - j)) % 256] := by
        intro j hj
        rw [List.take_succ_eq_append_getElem (by omega)]
        simp [lenL, hLB]
      have HLAT := hide hlat
      have HP8 := hide (And.intro hLB (And.intro hN hlen8))
      have HO0 : Hid (wr.ownsRow E 5 1 (.slice (some ⟨g, 0, none⟩) N c) (N + 0) ((zs ++ 128 :: List.replicate k 0 ++ (lenL len).take 0).map (Value.int .u8))) := hide (by simpa using unhide HO)
      clear hsl hlat hlen8 hLB HO hst HST
      go_wp2_with fail
      go_loopw [5, 7] (fun v y wr => ∃ j : Nat, j ≤ 8 ∧ y = .int .i64 (7 - (j : Int)) ∧ Hid (wr.ownsRow E 5 1 v (N + j) ((zs ++ 128 :: List.replicate k 0 ++ (lenL len).take j).map (Value.int .u8))) ∧ Hid (Below E w5 wr)) (fun _ y _ => (intOf y + 1).toNat)
      case atStart => exact ⟨0, by omega, rfl, HO0, HBw⟩
      case round =>
        clear HO0 HBw
        obtain ⟨j, hj8, rfl, HO, HBw⟩ := hrel
        obtain ⟨g, c, hv, hg⟩ := own_sliceH (unhide HO) (by omega)
        subst hv
        have hbs := (unhide HBw).size
        by_cases hj : j < 8
        · have hla := unhide HLAT j hj
          obtain ⟨i, hi⟩ : ∃ i : Nat, 7 - j = i := ⟨_, rfl⟩
          obtain ⟨k8, hk8⟩ : ∃ k8, 8 * i = k8 := ⟨_, rfl⟩
          rw [hi, hk8] at hla
          have y1 : 7 - (j : Int) = (i : Int) := by omega
          have y2 : (0 : Int) ≤ (i : Int) := by omega
          have y3 : 8 * (i : Int) = (k8 : Int) := by omega
          have y4 : IntKind.i64.wrap (8 * (i : Int)) = (k8 : Int) := by rw [IntKind.wrap_i64]; omega
          have y5 : (k8 : Int) ≤ 56 := by omega
          have y6 : (0 : Int) ≤ (k8 : Int) := by omega
          have y7 : IntKind.i64.wrap ((i : Int) - 1) = (i : Int) - 1 := by rw [IntKind.wrap_i64]; omega
          have hN := (unhide HP8).2.1
          have hpb := unhide HPB
          have HLA := hide (And.intro hla (And.intro hi hk8))
          have tokG : True := trivial
          rw [y1]
          clear hla hi hk8
          go_wp2_with (first
            | (have _t := tokG; refine app_own rfl (.tmp 34) (.tmp 40) rfl E (N + j) (.slice (some ⟨g, 0, none⟩) (N + j) c) (zs ++ 128 :: List.replicate k 0 ++ (lenL len).take j) rfl ((unhide HO).alloc _) (some ⟨wr.heap.size, 0, none⟩) 1 1 [(LB : Int) / 2 ^ k8 % 256] rfl (src_one wr _) (by omega) (by simp; omega) ?_; intro v9 w9 O9; clear tokG))
          have hO9 : Hid (w9.ownsRow E 5 1 v9 (N + (j + 1)) ((zs ++ 128 :: List.replicate k 0 ++ (lenL len).take (j + 1)).map (Value.int .u8))) := hide (by
            have h := (unhide O9).1
            rw [(unhide HLA).1, ← List.append_assoc, ← Nat.add_assoc]
            exact h)
          have B9 : Hid (Below E w5 w9) := hide (((unhide HBw).alloc (by omega) _).grown (unhide O9).2 (by simp; omega) (fun j hj => ((unhide HO).lt j hj).1))
          clear O9
          go_roundw
          case rel => exact ⟨j + 1, by omega, by go_num, hO9, B9⟩
          case measure => simp [intOf]
        · have hj' : j = 8 := by omega
          subst hj'
          have hcont : Hid (wr.ownsRow E 5 1 (.slice (some ⟨g, 0, none⟩) (N + 8) c) (N + 8) ((zs ++ padL len).map (Value.int .u8))) := hide (by
            have h := unhide HO
            rw [List.take_of_length_le (by rw [(unhide HP8).2.2]; omega)] at h
            rw [padL_is, show padE len - 9 = k from (unhide HPB).1]
            simpa using h)
          obtain ⟨Lw, hLw⟩ : ∃ Lw, zs ++ padL len = Lw := ⟨_, rfl⟩
          rw [hLw] at hcont
          obtain ⟨M, hM⟩ : ∃ M, N + 8 = M := ⟨_, rfl⟩
          rw [hM] at hcont ⊢
          have hLl : Lw.length = M := by have h := (unhide hcont).1; simpa using h
          have hMc : M ≤ c := by rcases (unhide hcont).2 with ⟨e, _⟩ | ⟨g', c', cur, e, _, _, hle, _⟩ <;> (cases e; try omega)
          have HCL : Hid (∀ u, Below wr.heap.size wr u → ∀ j, j < M → u.cell? ⟨g, j, none⟩ = some (.int .u8 (Lw.getD j 0))) := hide (fun u hu j hj => by
            have h := (unhide hcont).cellAt j (by omega)
            have hgl : g < wr.heap.size := World.block_lt_of_cell? _ _ (by rw [h]; simp [(by omega : j < Lw.length)]; rfl)
            rw [hu.cell (p := ⟨g, j, none⟩) hgl, h]
            simp [List.getD, (by omega : j < Lw.length)])
          have hE5 := (unhide S5).2.2.2
          obtain ⟨Kt, hKt⟩ : ∃ Kt, w2.heap.size = Kt := ⟨_, rfl⟩
          obtain ⟨Hh, hHh⟩ : ∃ Hh, w4.heap.size = Hh := ⟨_, rfl⟩
          rw [hKt, hHh] at S5
          rw [hHh] at hE5
          rw [hKt, hHh]
          have hBK := (unhide S5).2.1
          have hKH := (unhide S5).2.2.1
          have hHE : Hh < E := by omega
          have S6 : Hid (Smd w wr B Kt Hh (foldB KS H0 Lw 0)) := hide ((unhide S5).1.keep (unhide HBw) (by omega) (by omega) (by omega))
          have hM64 : M % 64 = 0 := by
            have h := pad_whole len
            have hp := unhide HPB
            have hn := (unhide HP8).2.1
            have e : M = len + padE len := by omega
            rw [e]; exact h
          have HLB : Hid (∀ y ∈ Lw, 0 ≤ y ∧ y ≤ 255) := hide (by
            intro y hy
            rw [← hLw] at hy
            rcases List.mem_append.1 hy with h | h
            · exact unhide HZ y h
            · exact padL_bounds len y h)
          have HLw := hide (And.intro hLw (And.intro hLl (unhide HP8).2.1))
          have C6 : Hid (∀ j, j < M → wr.cell? ⟨g, j, none⟩ = some (.int .u8 (Lw.getD j 0))) := hide (fun j hj => unhide HCL wr (Below.refl _ _) j hj)
          obtain ⟨Sz, hSz⟩ : ∃ Sz, wr.heap.size = Sz := ⟨_, rfl⟩
          have hgw : g < wr.heap.size := World.block_lt_of_cell? _ _ (by rw [unhide C6 0 (by have := (unhide HP8).2.1; omega)])
          have hM0 : M ≤ 140737488351400 := by have hp := unhide HPB; have hn := (unhide HP8).2.1; omega
          rw [hSz] at hgw
          clear hLw hLl HCL hcont HO HPB HP8 HLAT l1 l2 l3 l4 r1 r1' hE5 S5 hKt hHh
          go_wp2_with fail
          go_loopw [8] (fun x wx => ∃ q : Nat, 64 * q ≤ M ∧ x = .int .i64 ((64 * q : Nat) : Int) ∧ Hid (Smd w wx B Kt Hh (foldB KS H0 Lw q)) ∧ Hid (∀ j, j < M → wx.cell? ⟨g, j, none⟩ = some (.int .u8 (Lw.getD j 0))) ∧ Hid (Sz ≤ wx.heap.size)) (fun x _ => M - (intOf x).toNat)
          case atStart => exact ⟨0, by omega, rfl, S6, C6, hide (by rw [hSz]; exact Nat.le_refl _)⟩
          case round =>
            clear S6 C6
            obtain ⟨q, hqM, rfl, HS, HC, HW⟩ := hrel
            have hws := unhide HW
            obtain ⟨A, hA⟩ : ∃ A, 64 * q = A := ⟨_, rfl⟩
            rw [hA] at hqM ⊢
            by_cases hq : A < M
            · have a1 : (A : Int) < (M : Int) := by omega
              have a2 : (0 : Int) ≤ (A : Int) := by omega
              have a3 : IntKind.i64.wrap ((A : Int) + 64) = (A : Int) + 64 := by rw [IntKind.wrap_i64]; omega
              have a4 : (A : Int) + 64 ≤ (c : Int) := by omega
              have a5 : (A : Int) + 64 ≤ (M : Int) := by omega
              have hs8 : (foldB KS H0 Lw q).length = 8 := by rw [foldB_len]; exact H0_len
              obtain ⟨st, hst⟩ : ∃ st, foldB KS H0 Lw q = st := ⟨_, rfl⟩
              obtain ⟨bs, hbs'⟩ : ∃ bs, (Lw.drop A).take 64 = bs := ⟨_, rfl⟩
              have hnext : foldB KS H0 Lw (q + 1) = comp KS st bs := by
                show comp KS (foldB KS H0 Lw q) ((Lw.drop (64 * q)).take 64) = _
                rw [hA, hst, hbs']
              rw [hst] at HS hs8
              have hll := (unhide HLw).2.1
              have hbl : bs.length = 64 := by rw [← hbs']; simp; omega
              have hbb : ∀ y ∈ bs, 0 ≤ y ∧ y ≤ 255 := by
                intro y hy
                rw [← hbs'] at hy
                exact unhide HLB y (List.mem_of_mem_drop (List.mem_of_mem_take hy))
              have hbc : ∀ j, j < 64 → wr.drew.cell? ⟨g, A + j, none⟩ = some (.int .u8 (bs.getD j 0)) := fun j hj => by
                have h := unhide HC (A + j) (by omega)
                rw [← hbs', List.getD_eq_getElem?_getD, List.getElem?_take_of_lt hj, List.getElem?_drop, ← List.getD_eq_getElem?_getD]
                exact h
              have hgs : g < wr.drew.heap.size := by show g < wr.heap.size; omega
              have CB := hide (block_any st KS bs g A (c - A) wr.drew hs8 KS_len hbl hbc hbb hgs)
              have HRK : Hid (wr.drew.rangeAt Kt 0 KL) := hide (by
                intro j v hv
                have ht := (unhide HS).tab
                unfold Words at ht
                rw [hKL] at ht
                rw [Nat.zero_add, cell_of_row wr.drew Kt j _ _ (0, 0) ht, List.getElem?_toArray]
                exact hv)
              have HRS : Hid (wr.drew.rangeAt Hh 0 (st.map (Value.int .u32))) := hide (by
                intro j v hv
                rw [Nat.zero_add, cell_of_row wr.drew Hh j _ _ (0, 0) (unhide HS).st, List.getElem?_toArray]
                exact hv)
              have HZ64 : Hid ((Tryd.prog.info? 61).map (·.size) = some KL.length) := hide (by rw [← hKL, List.length_map, KS_len]; exact sw64)
              have HZ8 : Hid ((Tryd.prog.info? 63).map (·.size) = some (st.map (Value.int .u32)).length) := hide (by rw [List.length_map, hs8]; exact sw8)
              have HLEN := hide (And.intro hs8 (And.intro hnext (And.intro hll hA)))
              have a7 : (0 : Int) ≤ (A : Int) + 64 := by omega
              have a8 : A ≤ ((A : Int) + 64).toNat := by omega
              have a9 : ((A : Int) + 64).toNat - A = 64 := by omega
              have a10 : ¬ c = A := by omega
              rw [hKL] at CB
              clear hs8 hnext hll hbl hbb hbc hst hbs' hA
              go_wp2_with fail
              refine wp_region_held_drew (S := fun w' => w'.rangeAt Kt 0 KL) (by kernel_rfl) (unhide HRK) (fun hHeld => ?_)
              refine take_at 1 (some 49) rfl rfl (by kernel_rfl) (by kernel_rfl) (by kernel_rfl) (fun _ _ _ h => h) (yieldsIf_load_mid (by rfl) _ _ rfl Kt 0 rfl KL _ (fun w h => h) Tryd.underlying61 rfl (unhide HZ64)) hHeld ?_
              simp only [Act.put, List.setIfInBounds_toArray, List.set_cons_zero, List.set_cons_succ]
              refine take_at 2 (v := .slice (some ⟨g, 0, none⟩) M c) (some 50) rfl rfl (by kernel_rfl) (by kernel_rfl) (by kernel_rfl) (fun _ _ _ h => h) (yields_move (.tmp 5) (Or.inl rfl) rfl rfl) hHeld ?_
              simp only [Act.put, List.setIfInBounds_toArray, List.set_cons_zero, List.set_cons_succ]
              refine take_at 3 (v := .int .i64 (A : Int)) (some 51) rfl rfl (by kernel_rfl) (by kernel_rfl) (by kernel_rfl) (fun _ _ _ h => h) (yields_move (.tmp 8) (Or.inl rfl) rfl rfl) hHeld ?_
              simp only [Act.put, List.setIfInBounds_toArray, List.set_cons_zero, List.set_cons_succ]
              refine take_at 4 (v := .int .i64 (A : Int)) (some 52) rfl rfl (by kernel_rfl) (by kernel_rfl) (by kernel_rfl) (fun _ _ _ h => h) (yields_move (.tmp 8) (Or.inl rfl) rfl rfl) hHeld ?_
              simp only [Act.put, List.setIfInBounds_toArray, List.set_cons_zero, List.set_cons_succ]
              refine take_at 5 (v := .int .i64 ((A : Int) + 64)) (some 53) rfl rfl (by kernel_rfl) (by kernel_rfl) (by kernel_rfl) (fun _ _ _ h => h) (Or.inl ⟨by rfl, fun u hu => by go_simp⟩) hHeld ?_
              simp only [Act.put, List.setIfInBounds_toArray, List.set_cons_zero, List.set_cons_succ]
              refine take_at 6 (v := .slice (some ⟨g, A, none⟩) 64 (c - A)) (some 54) rfl rfl (by kernel_rfl) (by kernel_rfl) (by kernel_rfl) (fun _ _ _ h => h) (Or.inl ⟨by rfl, fun u hu => by go_simp⟩) hHeld ?_
              simp only [Act.put, List.setIfInBounds_toArray, List.set_cons_zero, List.set_cons_succ]
              refine ready_load 0 (some 48) (by kernel_rfl) rfl rfl rfl 63 (.tmp 4) rfl Hh 0 rfl (st.map (Value.int .u32)) _ (unhide HRS) Tryd.underlying63 rfl (unhide HZ8) hHeld ?_
              simp only [Act.put, List.setIfInBounds_toArray, List.set_cons_zero, List.set_cons_succ]
              refine wpAnyH_ready (rs := [7]) (by kernel_rfl) (by simp) ?_
              refine AllReadyH.cons rfl (fun K hK => ?_) AllReadyH.nil
              go_simp
              refine (unhide CB).mono ?_
              rintro e w9 ⟨rfl, B9⟩
              have H9 := hide B9
              clear B9
              go_wp2_with fail
              have hKs : Kt < wr.drew.heap.size := by show Kt < wr.heap.size; omega
              have hR9 : w9.rangeAt Kt 0 KL := range_kept (unhide H9) hKs hHeld
              refine hK.out _ _ hR9 (fun hHeld9 => ?_)
              clear hK K hR9
              try simp only [Act.put, List.setIfInBounds_toArray, List.set_cons_zero, List.set_cons_succ]
              have hHs : Hh < wr.drew.heap.size := by show Hh < wr.heap.size; omega
              have S9 : Hid (Smd w w9 B Kt Hh st) := hide (((unhide HS).keep (E := wr.heap.size) (below_drew_of (unhide H9)) (by show B < wr.heap.size; omega) (by omega) (by omega)))
              have hc8 : (comp KS st bs).length = 8 := by rw [comp_len]; exact (unhide HLEN).1
              have HPut : Hid (Put w9 (w9.setCells Hh 0 ((comp KS st bs).map (Value.int .u32))) Hh ((comp KS st bs).map (Value.int .u32)).toArray 63) := hide (by
                have h := setCells_put Hh 63 ((comp KS st bs).map (Value.int .u32)) (st.map (Value.int .u32)) 0 w9 (unhide S9).st (by rw [List.length_map, hc8, List.length_map, (unhide HLEN).1]; omega)
                rw [splice_whole _ _ (by rw [List.length_map, hc8, List.length_map, (unhide HLEN).1])] at h
                exact h)
              have S10 : Hid (Smd w (w9.setCells Hh 0 ((comp KS st bs).map (Value.int .u32))) B Kt Hh (foldB KS H0 Lw (q + 1))) := hide (by
                rw [(unhide HLEN).2.1]
                exact (unhide S9).put (unhide HPut) (by omega) (by omega))
              have C10 : Hid (∀ j, j < M → (w9.setCells Hh 0 ((comp KS st bs).map (Value.int .u32))).cell? ⟨g, j, none⟩ = some (.int .u8 (Lw.getD j 0))) := hide (fun j hj => by
                rw [(unhide HPut).cell (p := ⟨g, j, none⟩) (by show g ≠ Hh; omega), (unhide H9).cell (p := ⟨g, j, none⟩) hgs]
                exact unhide HC j hj)
              have Z10 : Hid (Sz ≤ (w9.setCells Hh 0 ((comp KS st bs).map (Value.int .u32))).heap.size) := hide (by
                rw [(unhide HPut).size]
                have := (unhide H9).size
                have e : wr.drew.heap.size = wr.heap.size := rfl
                omega)
              refine ready_store 8 none (by kernel_rfl) rfl rfl rfl 63 (.tmp 4) (.tmp 55) rfl Hh 0 ((comp KS st bs).map (Value.int .u32)).toArray rfl rfl (there_words (unhide S9).st (by simp [hc8, (unhide HLEN).1])) (sizeW sw8 hc8) (words_one _) ?_ ?_
              · intro j v hv
                rw [Nat.zero_add, cell_of_row _ Kt j _ _ (0, 0) (by have ht := (unhide S10).tab; unfold Words at ht; rw [hKL] at ht; exact ht), List.getElem?_toArray]
                exact hv
              refine wpAnyH_done (by kernel_rfl) ?_ _
              simp only [Act.put]
              go_wp2_with fail
              go_roundw
              case rel => (repeat apply Exists.intro); exact ⟨⟨q + 1, by have := (unhide HLEN).2.2.2; omega, by have := (unhide HLEN).2.2.2; go_num, S10, C10, Z10⟩, rfl⟩
              case measure => simp [intOf]; omega
            · have hAM : A = M := by omega
              have hstb := foldB_bounds KS H0 Lw H0_bounds q
              have hs8 : (foldB KS H0 Lw q).length = 8 := by rw [foldB_len]; exact H0_len
              obtain ⟨st, hst⟩ : ∃ st, foldB KS H0 Lw q = st := ⟨_, rfl⟩
              have HFIN : Hid (bytesL st = digM KS zs) := hide (by
                have hz := (unhide HRR w (Below.refl _ _)).length
                have h1 := unhide HLw
                have hl := h1.2.1
                rw [← h1.1, List.length_append, padL_len, hz] at hl
                rw [digM_is, hz, h1.1, show (len + padE len) / 64 = q by omega, hst])
              rw [hst] at HS hs8 hstb
              have HB := hide hstb
              have HL := hide hs8
              obtain ⟨O, hO⟩ : ∃ O, wr.heap.size = O := ⟨_, rfl⟩
              have hHO : Hh < O := by omega
              have tokH : True := trivial
              clear hstb hs8 hst HC HLw HLB hA
              go_wp2_with (first
                | (have _t := tokH; refine wpList_new_arr rfl 29 rfl i32 zb32 hi32 hz32 ?_; intro w10 M10; clear tokH; rw [hO]))
              have A10 : Hid (Arr8 w10 O 29 (List.replicate 32 0)) := hide (by rw [← hO]; exact (unhide M10).at')
              have S11 : Hid (Smd w w10 B Kt Hh st) := hide ((unhide HS).keep (unhide M10).below (by omega) (by omega) (by omega))
              clear M10 HS
              go_loopw [10] (fun x wx => ∃ (i : Nat) (xs : List Int), i ≤ 32 ∧ x = .int .i64 i ∧ Hid (Arr8 wx O 29 xs) ∧ Hid (Smd w wx B Kt Hh st) ∧ Hid (xs.length = 32 ∧ xs.take i = (List.range i).map (byteI st))) (fun x _ => 32 - (intOf x).toNat)
              case atStart => exact ⟨0, List.replicate 32 0, by omega, rfl, A10, S11, hide ⟨rfl, rfl⟩⟩
              case round =>
                clear A10 S11
                obtain ⟨i, xs, hi32', rfl, HX, HS, HXL⟩ := hrel
                by_cases hlt : i < 32
                · have hl := unhide HL
                  have c1 := (unhide HS).st.cell (i / 4) (by omega)
                  have ct := (unhide HX).cell i (by have := (unhide HXL).1; omega)
                  have cf := (unhide HX).free i
                  have hx := getD_bounds (unhide HB) (by omega) (i / 4)
                  have hbyte : byteI st i = st.getD (i / 4) 0 / 2 ^ (24 - 8 * (i % 4)) % 256 := rfl
                  obtain ⟨j, hj⟩ : ∃ j, i / 4 = j := ⟨_, rfl⟩
                  obtain ⟨r, hr⟩ : ∃ r, i % 4 = r := ⟨_, rfl⟩
                  obtain ⟨k, hk⟩ : ∃ k : Nat, 24 - 8 * r = k := ⟨_, rfl⟩
                  rw [hj, hr, hk] at hbyte
                  rw [hj] at c1 hx
                  generalize st.getD j 0 = x at *
                  generalize xs.getD i 0 = y0 at *
                  have q2 : (i : Int).tdiv 4 = (j : Int) := by rw [Int.tdiv_eq_ediv_of_nonneg (by omega)]; omega
                  have q1 : (i : Int) / 4 = (j : Int) := by omega
                  have q3 : (i : Int).tmod 4 = (r : Int) := by rw [Int.tmod_eq_emod_of_nonneg (by omega)]; omega
                  have q3' : (i : Int) % 4 = (r : Int) := by omega
                  have q4 : 24 - 8 * (r : Int) = (k : Int) := by omega
                  have q5 : IntKind.i64.wrap (24 - 8 * (r : Int)) = (k : Int) := by rw [IntKind.wrap_i64]; omega
                  have q6 : (j : Int) < 8 := by omega
                  have q7 : (0 : Int) ≤ (j : Int) := by omega
                  have q8 : (k : Int) ≤ 24 := by omega
                  have q9 : (0 : Int) ≤ (k : Int) := by omega
                  have i1 : (i : Int) < 32 := by omega
                  have i2 : (0 : Int) ≤ (i : Int) := by omega
                  have HBY := hide hbyte
                  clear hl hj hr hk hbyte
                  have HX' := hide ((unhide HX).set i (x / 2 ^ k % 256))
                  have HS' := hide ((unhide HS).set O i (.int .u8 (x / 2 ^ k % 256)) hHO hKH hBK)
                  have HL' : Hid ((xs.set i (x / 2 ^ k % 256)).length = 32 ∧ (xs.set i (x / 2 ^ k % 256)).take (i + 1) = (List.range (i + 1)).map (byteI st)) := hide ⟨by simpa using (unhide HXL).1, by
                    rw [take_set_next _ _ _ (by have := (unhide HXL).1; omega), (unhide HXL).2, List.range_succ, List.map_append, List.map_singleton, unhide HBY]⟩
                  go_wp2_with fail
                  go_roundw
                  case rel => exact ⟨i + 1, _, by omega, by go_num, HX', HS', HL'⟩
                  case measure => simp [intOf]; omega
                · have hi' : i = 32 := by omega
                  subst hi'
                  have hxs : xs = bytesL st := by
                    have h := (unhide HXL).2
                    rw [List.take_of_length_le (by have := (unhide HXL).1; omega)] at h
                    exact h
                  subst hxs
                  have hsp := hide (sizeB (T := 29) sb32 (bytesL_len st))
                  have HL8 := hide (bytesL_len st)
                  have tokI : True := trivial
                  have tokJ : True := trivial
                  obtain ⟨R, HR⟩ : ∃ R, Hid (bytesL st = R) := ⟨_, rfl⟩
                  rw [unhide HR] at hsp HL8 HX HFIN
                  have HOUT := hide (unhide HS).out
                  go_wp2_with (first
                    | (have _t := tokI; refine wpList_load_arr rfl 29 (.tmp 9) rfl O (R.map (Value.int .u8)).toArray 32 _ rfl (unhide HX) Tryd.underlying29 (unhide hsp) ?_; clear tokI)
                    | (have _t := tokJ; refine wpList_put_arr rfl 29 (.tmp 2) (.tmp 72) rfl B zb32 (R.map (Value.int .u8)).toArray rfl rfl (unhide HOUT) (by simp [zb32, unhide HL8]) (unhide hsp) (bytes_one _) ?_; intro w11 H11; clear tokJ))
                  exact bodyPost_ret (ret_cell (p := 2) (T := 29) rfl _ _ B (R.map (Value.int .u8)).toArray 32 _ rfl (unhide H11).at' Tryd.underlying29 (unhide hsp)) rfl ⟨by rw [unhide HFIN], by rw [hB]; exact (unhide H11).below B w (unhide HS).below (by omega)⟩
    · have r1 : (N : Int) % 64 = (r : Int) := by omega
      have r1' : (N : Int).tmod 64 = (r : Int) := by rw [Int.tmod_eq_emod_of_nonneg (by omega)]; exact r1
      have r2 : ¬ r = 56 := by omega
      have r3 : ¬ (r : Int) = 56 := by omega
      have r4 : ((r : Int) != 56) = true := by simpa using r3
      have hbs := (unhide HBw).size
      have tokF : True := trivial
      clear hsl hr r1'
      go_wp2_with (first
        | (have _t := tokF; refine app_own rfl (.tmp 23) (.tmp 24) rfl E N (.slice (some ⟨g, 0, none⟩) N c) (zs ++ 128 :: List.replicate k 0) rfl ((unhide HO).alloc _) (some ⟨wr.heap.size, 0, none⟩) 1 1 [0] rfl (src_one wr 0) (by omega) (by simp; omega) ?_; intro v9 w9 O9; clear tokF))
      have hO9 : w9.ownsRow E 5 1 v9 (len + 1 + (k + 1)) ((zs ++ 128 :: List.replicate (k + 1) 0).map (Value.int .u8)) := by
        have h := (unhide O9).1
        rw [show len + 1 + (k + 1) = N + 1 by omega, List.replicate_succ', show zs ++ 128 :: (List.replicate k (0 : Int) ++ [0]) = zs ++ 128 :: List.replicate k 0 ++ [0] by simp]
        exact h
      have B9 : Hid (Below E w5 w9) := hide (((unhide HBw).alloc (by omega) _).grown (unhide O9).2 (by simp; omega) (fun j hj => ((unhide HO).lt j hj).1))
      have s9 : slLen v9 = len + 1 + (k + 1) := by obtain ⟨g', c', rfl, _⟩ := own_sliceH hO9 (by omega); rfl
      have HO9 := hide hO9
      clear hO9 O9
      go_roundw
      case rel => exact ⟨k + 1, by omega, s9, HO9, B9⟩
      case measure => rw [s9]; simp [slLen]; omega
end Go.Proofs.YtjgjebohbgbimaaDoor
