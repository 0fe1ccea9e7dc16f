/-
  For every digest and every two numbers: Unhex of Hex is the digest, and with another byte at one place it is another digest, or none (the statement HashBackSaid); no conditions.
-/
import Derived.Test.YtbdieoknbpcbnabUnhAny
import Derived.Test.YtbdieoknbpcbnabH2Hex
import Derived.Test.YtbdieoknbpcbnabPick
import Derived.Test.YtbdieoknbpcbnabArrG
import Derived.RegionTactic
import Derived.ProofKit
import Derived.ShutString
import Derived.ChangeOld
import Derived.Below
import Derived.Deep.Slices
namespace Go.Proofs.Ytbdieoknbpcbnab.hashBack
open Go.ChangeShapes Go.WideShapes Go.ChangeAt Go.RowKit
set_option linter.unusedVariables false

theorem own : ownKnob Try.prog.godebug = none := by kernel_rfl
theorem laidOut : laidOutB Try.prog = true := by kernel_rfl
theorem cells32 : Try.prog.cellsOf 22 = 32 := by kernel_rfl
theorem cells1 : Try.prog.cellsOf 5 = 1 := by kernel_rfl
theorem under5 : Try.prog.underlying 5 = some (.int .u8) := Try.underlying5

theorem mapM_bytes {H : Type} {enc : TypeId × Value → H} {W : World} {base : Nat} {sp : Nat → Bool} {held : Bool} {m : Nat} (cs : List Value) :
    ∀ (L : List Nat) (ys : List (DataW H × List MemPlace)), (L.mapM fun i => DataW.trod enc Try.prog W base sp held m 5 ((cs.drop (i * Try.prog.cellsOf 5)).take (Try.prog.cellsOf 5))) = some ys →
    ∀ i ∈ L, ∃ n : Int, cs[i]? = some (.int .u8 n) ∧ (Lit.int .u8 n).wf = true
  | [], _, _, i, h => by cases h
  | j :: L, ys, hm, i, h => by
    rw [List.mapM_cons] at hm
    simp only [bind, Option.bind_eq_some_iff, pure, Option.some.injEq] at hm
    obtain ⟨y, hy, ys', hys, rfl⟩ := hm
    rcases List.mem_cons.1 h with rfl | h
    · obtain ⟨n, hn, _, hw⟩ := DataW.trod_int under5 hy
      rw [cells1, Nat.mul_one] at hn
      refine ⟨n, ?_, hw⟩
      have : (cs.drop i)[0]? = some (.int .u8 n) := by
        have := congrArg (·[0]?) hn
        simpa using this
      simpa using this
    · exact mapM_bytes cs L ys' hys i h

theorem open_digest {H : Type} {enc : TypeId × Value → H} {W : World} {base : Nat} {sp : Nat → Bool} {held : Bool} {fuel : Nat} {cs : List Value} {x : DataW H × List MemPlace} (h : DataW.trod enc Try.prog W base sp held fuel 22 cs = some x) :
    ∃ l : List Int, cs = l.map (Value.int .u8) ∧ l.length = 32 ∧ ∀ c ∈ l, 0 ≤ c ∧ c ≤ 255 := by
  cases fuel with
  | zero => simp [DataW.trod] at h
  | succ m =>
    rw [DataW.trod_step] at h
    unfold DataW.trodStep at h
    simp only [Try.underlying22] at h
    split at h
    · next hl =>
      rw [cells32] at hl
      simp only [Option.map_eq_some_iff] at h
      obtain ⟨ys, hy, _⟩ := h
      have hm := mapM_bytes cs _ ys hy
      have each : ∀ i, i < 32 → ∃ n : Int, cs[i]? = some (.int .u8 n) ∧ (Lit.int .u8 n).wf = true := fun i hi => hm i (List.mem_range.2 hi)
      obtain ⟨f, hf⟩ := Go.Deep.choose_lt each
      refine ⟨(List.range 32).map f, ?_, by simp, ?_⟩
      · refine List.ext_getElem? fun i => ?_
        by_cases hi : i < 32
        · rw [(hf i hi).1]
          simp [hi]
        · rw [List.getElem?_eq_none (by omega), List.getElem?_eq_none (by simp; omega)]
      · intro c hc
        obtain ⟨i, hi, rfl⟩ := List.mem_map.1 hc
        exact bounds_u8 (hf i (List.mem_range.1 hi)).2
    · cases h

theorem guard32 : Try.prog.eqGuardType Try.prog.depth 22 = false := by kernel_rfl
theorem size1 : (Try.prog.info? 5).map (·.size) = some 1 := by kernel_rfl

theorem zero_info : ∃ i, Try.prog.info? 22 = some i ∧ i.zero = some (.agg zero32) := by
  have h := info32
  cases hq : Try.prog.info? 22 with
  | none => rw [hq] at h; cases h
  | some i => rw [hq] at h; simp at h; exact ⟨i, rfl, h.1⟩

theorem arr32 {l : List Int} (h : l.length = 32) : (Try.prog.info? 22).map (·.size) = some (l.map (Value.int .u8)).toArray.size := by
  rw [show (l.map (Value.int .u8)).toArray.size = 32 by simp [h]]
  exact size32

theorem zero_arr {l : List Int} (h : l.length = 32) : zero32.size = (l.map (Value.int .u8)).toArray.size := by
  rw [zero32_size]; simp [h]

theorem pick_nat (c : Int) (n : Nat) (w : World) (h0 : -9223372036854775808 ≤ c) (h1 : c ≤ 9223372036854775807) (n0 : 0 < n) (n1 : n ≤ 9223372036854775807) :
    ∃ k : Nat, k < n ∧ ∀ w, Hid (Calls Try.prog 6 #[.int .i64 c, .int .i64 n] w fun e w' => e = .returned (.int .i64 k) ∧ w' = w) := by
  have hb : 0 ≤ pickI c n ∧ pickI c n < n := by unfold pickI; exact ⟨Int.emod_nonneg _ (by omega), Int.emod_lt_of_pos _ (by omega)⟩
  refine ⟨(pickI c n).toNat, by omega, fun w => ?_⟩
  have h := pick_any c n w h0 h1 (by omega) (by omega)
  rw [show ((pickI c n).toNat : Int) = pickI c n by omega]
  exact h

set_option maxRecDepth 100000 in
set_option maxHeartbeats 1000000 in
theorem walk (ds : List Int) (at_ c : Int) (w : World) (hd : ds.length = 32) (hb : ∀ c ∈ ds, 0 ≤ c ∧ c ≤ 255) (a0 : -9223372036854775808 ≤ at_) (a1 : at_ ≤ 9223372036854775807) (c0 : -9223372036854775808 ≤ c) (c1 : c ≤ 9223372036854775807) :
    Calls Try.prog 3 #[.agg (ds.map (Value.int .u8)).toArray, .int .i64 at_, .int .i64 c] w fun e w' => e = .returned (.bool true) ∧ Below w.heap.size w w' := by
  obtain ⟨i0, hi, hz⟩ := zero_info
  obtain ⟨k, hk, P1⟩ := pick_nat at_ 64 w a0 a1 (by decide) (by decide)
  obtain ⟨x, hx, P2⟩ := pick_nat c 256 w c0 c1 (by decide) (by decide)
  have hxi : (x : Int) < 256 := by omega
  have HD := hide hd
  have HBD := hide hb
  have H32 := hide (arr32 hd)
  have HZ := hide (zero_arr hd)
  have HON := hide (bytes_one ds)
  have C1 := fun w => hide (hHex_any ds w hd hb)
  have HA := hide (heap_alloc_new w (.cells (ds.map (Value.int .u8)).toArray 22))
  have HBA := hide ((Below.refl w.heap.size w).alloc (Nat.le_refl _) (.cells (ds.map (Value.int .u8)).toArray 22))
  have hsz : (w.alloc (.cells (ds.map (Value.int .u8)).toArray 22)).heap.size = w.heap.size + 1 := by simp
  clear hd hb a0 a1 c0 c1
  have tokA : True := trivial
  have tokB : True := trivial
  have tokC : True := trivial
  have tokD : True := trivial
  have tokE : True := trivial
  have tokF : True := trivial
  go_enter Try.func3, Try.ntmps3
  go_wp2_with (first
    | (have _t := tokA; refine wpList_load_arr rfl 22 (.tmp 3) rfl w.heap.size (ds.map (Value.int .u8)).toArray 32 5 rfl (unhide HA) Try.underlying22 (unhide H32) ?_; clear tokA))
  refine (unhide (C1 _)).mono ?_
  rintro e w1 ⟨⟨s, rfl, hs⟩, B1⟩
  have H1 := hide B1
  clear B1
  obtain ⟨aL, aE, s64⟩ := ans_hex (unhide HD) (txt_of hs (hexL_bounds ds (unhide HBD))) (unhide HBD)
  have HS := hide (txt_of hs (hexL_bounds ds (unhide HBD)))
  have C2 := fun w => hide (hUnhex_any s w)
  simp only [aL, aE] at C2
  have s64' : (s.size : Int) = 64 := by omega
  have HS64 := hide s64
  clear hs aL aE s64
  go_wp2_with fail
  refine (unhide (C2 _)).mono ?_
  rintro e w2 ⟨rfl, B2⟩
  have H2 := hide B2
  clear B2
  go_wp2_with (first
    | (have _t := tokB; refine wpList_new_arr rfl 22 rfl i0 zero32 hi hz ?_; intro w3 H3; clear tokB)
    | (have _t := tokC; refine wpList_put_arr rfl 22 (.tmp 8) (.tmp 19) rfl w2.heap.size zero32 (ds.map (Value.int .u8)).toArray rfl rfl (unhide H3).at' (unhide HZ) (unhide H32) (unhide HON) ?_; intro w4 H4; clear tokC; have q1 : w.heap.size < w1.heap.size := (by have := (unhide H1).size; omega); have q2 : w.heap.size < w2.heap.size := Nat.lt_of_lt_of_le q1 (unhide H2).size; have A4 := hide (((unhide H4).other w.heap.size (by omega)).trans (((unhide H3).below.block w.heap.size q2).trans (((unhide H2).block w.heap.size q1).trans (((unhide H1).block w.heap.size (by omega)).trans (unhide HA))))))
    | (have _t := tokD; refine wpList_load_arrG rfl 22 (.tmp 8) rfl w2.heap.size (ds.map (Value.int .u8)).toArray 32 5 rfl (unhide H4).at' Try.underlying22 (unhide H32) ?_; clear tokD)
    | (have _t := tokE; refine wpList_load_arrG rfl 22 (.tmp 3) rfl w.heap.size (ds.map (Value.int .u8)).toArray 32 5 rfl (unhide A4) Try.underlying22 (unhide H32) ?_; clear tokE)
    | (have _t := tokF; refine wpList_neq_arrG rfl 22 22 (.tmp 24) (.tmp 25) rfl ds ds 32 5 rfl rfl guard32 Try.underlying22 Try.underlying5 size1 (unhide HD) (unhide HD) true (by simp) ?_; clear tokF))
  refine (unhide (P1 _)).mono ?_
  rintro e w5 ⟨rfl, rfl⟩
  go_wp2_with fail
  refine (unhide (P2 _)).mono ?_
  rintro e w6 ⟨rfl, rfl⟩
  have k1 : (k : Int) ≤ 64 := by omega
  have k2 : (k : Int) + 1 ≤ 64 := by omega
  have k3 : (0 : Int) ≤ (k : Int) := by omega
  have k4 : IntKind.i64.wrap ((k : Int) + 1) = (k : Int) + 1 := by rw [IntKind.wrap_i64]; omega
  have B4 : Hid (Below w.heap.size w w6) := hide ((unhide H4).below w.heap.size w ((((unhide HBA).trans ((unhide H1).mono (by omega))).trans ((unhide H2).mono (by omega))).trans ((unhide H3).below.mono (by omega))) (by omega))
  have q4 : w.heap.size < w6.heap.size := by have := (unhide H3).size; have := (unhide H4).size; omega
  clear P1 P2 C1 HA HBA H1 H2 H3 HON
  go_wp2_with fail
  obtain ⟨X, hX⟩ : ∃ X, strOfNums [(x : Int)] = X := ⟨_, rfl⟩
  have hconv := run_convert_bytes_arg (P := Try.prog) (w6.alloc (.cells #[.int .u8 x] 5)).drew 28 5 Try.underlying28 Try.underlying5 w6.heap.size 0 1 1 [(x : Int)] rfl (fun j hj => by
    obtain rfl : j = 0 := by omega
    exact (cell_of_row _ w6.heap.size 0 #[.int .u8 x] 5 (0, 0) (heap_alloc_new w6 _)).trans rfl) 9 Try.underlying9
  rw [hX] at hconv
  have HX := hide hX
  clear hX
  have x1 : X.size = 1 := by rw [← unhide HX]; rfl
  have s1 := unhide HS64
  have m1 : min k 64 = k := by omega
  have m2 : ¬ 9223372036854775807 < k + 1 := by omega
  have m3 : ¬ 9223372036854775807 < k + 1 + (64 - (k + 1)) := by omega
  have m4 : ¬ 9223372036854775806 < k := by omega
  go_region
  clear hconv m1 m2 m3 m4 k1 k2 k3 k4
  obtain ⟨T, hT⟩ : ∃ T, s.extract 0 k ++ X ++ s.extract (k + 1) 64 = T := ⟨_, rfl⟩
  rw [hT]
  have T64 : T.size = 64 := by rw [← hT]; simp [s1, x1]; omega
  obtain ⟨w7, hw7⟩ : ∃ w7, (w6.alloc (.cells #[.int .u8 x] 5)).drew = w7 := ⟨_, rfl⟩
  rw [hw7]
  have B7' : Below w6.heap.size w6 w7 := by rw [← hw7]; exact ((Below.refl _ _).alloc (Nat.le_refl _) _).drew
  have B7 := hide ((unhide B4).trans (B7'.mono (unhide B4).size))
  have A7 := hide ((B7'.block w.heap.size q4).trans (unhide A4))
  have q7 : w.heap.size < w7.heap.size := Nat.lt_of_lt_of_le q4 B7'.size
  clear hT hw7 B7' B4 A4 H4 x1 HX
  have tokB : True := trivial
  have tokC : True := trivial
  have tokD : True := trivial
  have tokE : True := trivial
  have tokF : True := trivial
  by_cases hts : T = s
  · subst hts
    go_wp2_with fail
    refine (unhide (C2 _)).mono ?_
    rintro e w8 ⟨rfl, B8⟩
    have H8 := hide B8
    clear B8
    go_wp2_with (first
      | (have _t := tokB; refine wpList_new_arr rfl 22 rfl i0 zero32 hi hz ?_; intro w9 H9; clear tokB)
      | (have _t := tokC; refine wpList_put_arr rfl 22 (.tmp 13) (.tmp 53) rfl w8.heap.size zero32 (ds.map (Value.int .u8)).toArray rfl rfl (unhide H9).at' (unhide HZ) (unhide H32) (bytes_one ds) ?_; intro w10 H10; clear tokC; have q8 : w.heap.size < w8.heap.size := Nat.lt_of_lt_of_le q7 (unhide H8).size; have A10 := hide (((unhide H10).other w.heap.size (by omega)).trans (((unhide H9).below.block w.heap.size q8).trans (((unhide H8).block w.heap.size q7).trans (unhide A7)))))
      | (have _t := tokD; refine wpList_load_arrG rfl 22 (.tmp 13) rfl w8.heap.size (ds.map (Value.int .u8)).toArray 32 5 rfl (unhide H10).at' Try.underlying22 (unhide H32) ?_; clear tokD)
      | (have _t := tokE; refine wpList_load_arrG rfl 22 (.tmp 3) rfl w.heap.size (ds.map (Value.int .u8)).toArray 32 5 rfl (unhide A10) Try.underlying22 (unhide H32) ?_; clear tokE)
      | (have _t := tokF; refine wpList_eql_arrG rfl 22 22 (.tmp 61) (.tmp 62) rfl ds ds 32 5 rfl rfl guard32 Try.underlying22 Try.underlying5 size1 (unhide HD) (unhide HD) true (by simp) ?_; clear tokF))
    have B10 := (unhide H10).below w.heap.size w (((unhide B7).trans ((unhide H8).mono (by omega))).trans ((unhide H9).below.mono (by omega))) (by omega)
    go_ret
    exact ⟨rfl, B10⟩
  · have hts2 : (T.toList == s.toList) = false := by
      rw [beq_eq_false_iff_ne, ByteArray.toList_eq, ByteArray.toList_eq]
      intro h
      apply hts
      cases T; cases s
      simp only [ByteArray.mk.injEq]
      exact Array.toList_inj.1 h
    have hts1 : (T == s) = false := by rw [beq_toListBytes]; exact hts2
    have C3 := fun w => hide (hUnhex_any T w)
    rcases ans_back T64 with ⟨e1, e2⟩ | ⟨e1, e2, e3⟩
    · simp only [e1, e2] at C3
      clear e1 e2
      go_wp2_with fail
      refine (unhide (C3 _)).mono ?_
      rintro e w8 ⟨rfl, B8⟩
      have H8 := hide B8
      clear B8
      go_wp2_with (first
        | (have _t := tokB; refine wpList_new_arr rfl 22 rfl i0 zero32 hi hz ?_; intro w9 H9; clear tokB)
        | (have _t := tokC; refine wpList_put_arr rfl 22 (.tmp 13) (.tmp 53) rfl w8.heap.size zero32 zero32 rfl rfl (unhide H9).at' rfl size32 zero32_one ?_; intro w10 H10; clear tokC)
        | (have _t := tokD; refine wpList_load_arrG rfl 22 (.tmp 13) rfl w8.heap.size zero32 32 5 rfl (unhide H10).at' Try.underlying22 size32 ?_; clear tokD)
        | (have _t := tokF; refine wpList_eql_arrG rfl 22 22 (.tmp 70) (.tmp 71) rfl (List.replicate 32 0) (List.replicate 32 0) 32 5 rfl rfl guard32 Try.underlying22 Try.underlying5 size1 rfl rfl true (by simp) ?_; clear tokF))
      have B10 := (unhide H10).below w.heap.size w (((unhide B7).trans ((unhide H8).mono (by have := (unhide B7).size; omega))).trans ((unhide H9).below.mono (by have := (unhide H8).size; omega))) (by have := (unhide H8).size; omega)
      go_ret
      exact ⟨rfl, B10⟩
    · have hG := ansL_len T
      have C4 := fun w => hide (hHex_any (ansL T) w hG e3)
      have hne : ansL T ≠ ds := by
        intro e
        apply hts
        apply txt_inj
        rw [← e2, e, unhide HS]
      have hback : ∀ s3 : ByteArray, s3.data.toList = (hexL (ansL T)).map (fun n => UInt8.ofNat n.toNat) → s3 = T := by
        intro s3 h3
        apply txt_inj
        rw [txt_of h3 (hexL_bounds _ e3), e2]
      have HBK := hide hback
      simp only [e1] at C3
      generalize ansL T = G at *
      have HG := hide hG
      have HNE := hide hne
      have G32 := hide (arr32 hG)
      have GZ := hide (zero_arr hG)
      have GON := hide (bytes_one G)
      clear e1 e2 e3 hG hne hback
      have tokG : True := trivial
      have tokH : True := trivial
      go_wp2_with fail
      refine (unhide (C3 _)).mono ?_
      rintro e w8 ⟨rfl, B8⟩
      have H8 := hide B8
      clear B8
      go_wp2_with (first
        | (have _t := tokB; refine wpList_new_arr rfl 22 rfl i0 zero32 hi hz ?_; intro w9 H9; clear tokB)
        | (have _t := tokC; refine wpList_put_arr rfl 22 (.tmp 13) (.tmp 53) rfl w8.heap.size zero32 (G.map (Value.int .u8)).toArray rfl rfl (unhide H9).at' (unhide GZ) (unhide G32) (unhide GON) ?_; intro w10 H10; clear tokC; have q8 : w.heap.size < w8.heap.size := Nat.lt_of_lt_of_le q7 (unhide H8).size; have A10 := hide (((unhide H10).other w.heap.size (by omega)).trans (((unhide H9).below.block w.heap.size q8).trans (((unhide H8).block w.heap.size q7).trans (unhide A7)))))
        | (have _t := tokD; refine wpList_load_arr rfl 22 (.tmp 13) rfl w8.heap.size (G.map (Value.int .u8)).toArray 32 5 rfl (unhide H10).at' Try.underlying22 (unhide G32) ?_; clear tokD)
        | (have _t := tokE; refine wpList_load_arr rfl 22 (.tmp 3) rfl w.heap.size (ds.map (Value.int .u8)).toArray 32 5 rfl (unhide A10) Try.underlying22 (unhide H32) ?_; clear tokE)
        | (have _t := tokF; refine wpList_neq_arrG rfl 22 22 (.tmp 74) (.tmp 75) rfl G ds 32 5 rfl rfl guard32 Try.underlying22 Try.underlying5 size1 (unhide HG) (unhide HD) false (by simp [unhide HNE]) ?_; clear tokF)
        | (have _t := tokG; refine wpList_load_arrG rfl 22 (.tmp 13) rfl w8.heap.size (G.map (Value.int .u8)).toArray 32 5 rfl (unhide H10).at' Try.underlying22 (unhide G32) ?_; clear tokG))
      refine (unhide (C4 _)).mono ?_
      rintro e w11 ⟨⟨s3, rfl, h3⟩, B11⟩
      obtain rfl := unhide HBK s3 h3
      have H11 := hide B11
      clear h3 B11
      have B10 := (unhide H10).below w.heap.size w (((unhide B7).trans ((unhide H8).mono (by omega))).trans ((unhide H9).below.mono (by omega))) (by omega)
      have HB11 := hide (B10.trans ((unhide H11).mono B10.size))
      clear B10
      go_wp2_with fail
      go_ret
      exact ⟨rfl, unhide HB11⟩

/-! ### THE ROW's STEP -/
set_option maxRecDepth 100000 in
theorem lifted (os : Os) (started : os.Started) (H : Type) (enc : TypeId × Value → H) :
    ReturnsInHanded {} Try.checked os 3 .any (Rows.hashBackSpec.pre6 enc Try.prog Try.f3 Rows.hashBackRow.domain false) (Rows.hashBackSpec.post enc Try.prog Try.f3 false true false false) := by
  refine returnsInHanded_of_change (C := Try.checked) own started (by kernel_rfl) Try.func3
    (ChangeSpec.witness6 (enc := enc) (C := Try.checked) false ⟨#[], #[.agg zero32, .int .i64 0, .int .i64 0], []⟩ 8 (by kernel_rfl) (by kernel_rfl) (by kernel_rfl) (by kernel_rfl)) ?_
  intro W base args ds gs before hval0 hW hcnd _
  have hval : ∀ (j : Nat) t v, Try.f3.params[j]? = some t → args[j]? = some v → Value.okWide Try.prog W .any base t v := hval0
  have hW' := hW
  obtain ⟨p, q, hA0, hV, rfl, hfz, hnd⟩ := hW
  have hA : DataW.TrodAll enc Try.prog W 0 (fun _ => true) true Try.f3.params.toList args.toList ds p := hA0
  rw [Try.params3] at hA hval
  obtain ⟨v0, vs0, d0, ds0, p0, q0, hargs, rfl, rfl, h0, r0⟩ := trodAll_cons hA
  obtain ⟨v1, vs1, d1, ds1, p1, q1, rfl, rfl, rfl, h1, r1⟩ := trodAll_cons r0
  obtain ⟨v2, vs2, d2, ds2, p2, q2, rfl, rfl, rfl, h2, r2⟩ := trodAll_cons r1
  obtain ⟨rfl, rfl, rfl⟩ := trodAll_nil r2
  obtain rfl : args = #[v0, v1, v2] := by cases args; simp_all
  obtain ⟨rfl, rfl⟩ := trodVars_none hV
  obtain ⟨n1, rfl, rfl, rfl, hw1⟩ := open_int Try.underlying3 (hval 1 3 v1 rfl rfl) h1
  obtain ⟨n2, rfl, rfl, rfl, hw2⟩ := open_int Try.underlying3 (hval 2 3 v2 rfl rfl) h2
  have k0 := h0
  have lt0 : ∀ x ∈ p0, x.block < W.heap.size := by obtain ⟨m, hm⟩ := k0; exact DataW.trod_lt m _ _ _ hm
  obtain ⟨l, rfl, hl, hb⟩ : ∃ l : List Int, v0 = .agg (l.map (Value.int .u8)).toArray ∧ l.length = 32 ∧ ∀ c ∈ l, 0 ≤ c ∧ c ≤ 255 := by
    obtain ⟨cs, rfl⟩ : ∃ cs : Array Value, v0 = .agg cs := by
      have h := hval 0 22 v0 rfl rfl
      simp only [Value.okWide, Try.underlying22] at h
      obtain ⟨cs, h1, _⟩ := h
      exact ⟨cs, h1⟩
    obtain ⟨fuel, hf⟩ := h0
    obtain ⟨l, hcs, h3, h4⟩ := open_digest hf
    refine ⟨l, ?_, h3, h4⟩
    rw [← hcs]
    simp [Value.cells]
  have b1 := bounds_i64 hw1
  have b2 := bounds_i64 hw2
  clear hA0 hval0
  refine (walk l n1 n2 W hl hb b1.1 b1.2 b2.1 b2.2).mono fun e W' ⟨he, bel⟩ => ?_
  subst he
  exact ⟨_, rfl, _, _, _, [], _, [], hW', trodAll_mk1 (shut_bool Try.underlying4 _), (trodAll_cons_mk (Below.trod laidOut (by kernel_rfl) (of_decide_eq_true (by kernel_rfl)) k0 bel lt0) (trodAll_cons_mk (shut_int Try.underlying3 hw1) (trodAll_cons_mk (shut_int Try.underlying3 hw2) trodAll_mk0))), rfl, bel.frame _, fun h => by cases h⟩

theorem over : Rows.hashBackRow.holds Try.pinned (OpenSpec.ofChange Rows.hashBackSpec) :=
  OpenClaim.holds_of_wide 3 Try.f3 rfl rfl rfl rfl rfl rfl rfl ⟨rfl, rfl, rfl, rfl, rfl⟩ rfl rfl rfl rfl rfl (by kernel_rfl) Try.func3 (by kernel_rfl)
    (of_decide_eq_true (by kernel_rfl)) (by unfold Func.isWrapper; first | (rw [if_pos (by decide +kernel)]; kernel_rfl) | (rw [if_neg (by decide +kernel)]; exact ⟨rfl, rfl⟩))
    (fun os started H enc _ => lifted os started H enc)

end Go.Proofs.Ytbdieoknbpcbnab.hashBack

namespace Go.Proofs.Ytbdieoknbpcbnab
theorem hashBack_holds : Rows.HashBackSaid := hashBack.over
#print axioms hashBack_holds
end Go.Proofs.Ytbdieoknbpcbnab
