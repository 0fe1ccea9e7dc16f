/-
  For every slice of digests that can be read: hash.Hex of each answers what the document's Hex does (the statement HashHexesSaid); no conditions.
-/
import Derived.Test.YtbdieoknbpcbnaaH2Hex
import Derived.Test.YtbdieoknbpcbnaaArrVar
import Derived.ProofKit
import Derived.ShutString
import Derived.ChangeOld
import Derived.Below
import Derived.Deep.Slices
import Derived.Deep.MidRow
namespace Go.Proofs.Ytbdieoknbpcbnaa.hashHexes
open Go.ChangeShapes Go.WideShapes Go.ChangeAt Go.RowKit
set_option linter.unusedVariables false

theorem own : ownKnob Try.prog.godebug = none := by kernel_rfl
theorem laidOut : laidOutB Try.prog = true := by kernel_rfl
theorem cells32 : Try.prog.cellsOf 24 = 32 := by kernel_rfl
theorem cells1 : Try.prog.cellsOf 5 = 1 := by kernel_rfl
theorem under5 : Try.prog.underlying 5 = some (.int .u8) := Try.underlying5

theorem mapM_bytes {H : Type} {enc : TypeId × Value → H} {W : World} {base : Nat} {sp : Nat → Bool} {held : Bool} {m : Nat} (cs : List Value) :
    ∀ (L : List Nat) (ys : List (DataW H × List MemPlace)), (L.mapM fun i => DataW.trod enc Try.prog W base sp held m 5 ((cs.drop (i * Try.prog.cellsOf 5)).take (Try.prog.cellsOf 5))) = some ys →
    ∀ i ∈ L, ∃ n : Int, cs[i]? = some (.int .u8 n) ∧ (Lit.int .u8 n).wf = true
  | [], _, _, i, h => by cases h
  | j :: L, ys, hm, i, h => by
    rw [List.mapM_cons] at hm
    simp only [bind, Option.bind_eq_some_iff, pure, Option.some.injEq] at hm
    obtain ⟨y, hy, ys', hys, rfl⟩ := hm
    rcases List.mem_cons.1 h with rfl | h
    · obtain ⟨n, hn, _, hw⟩ := DataW.trod_int under5 hy
      rw [cells1, Nat.mul_one] at hn
      refine ⟨n, ?_, hw⟩
      have : (cs.drop i)[0]? = some (.int .u8 n) := by
        have := congrArg (·[0]?) hn
        simpa using this
      simpa using this
    · exact mapM_bytes cs L ys' hys i h

theorem open_digest {H : Type} {enc : TypeId × Value → H} {W : World} {base : Nat} {sp : Nat → Bool} {held : Bool} {fuel : Nat} {cs : List Value} {x : DataW H × List MemPlace} (h : DataW.trod enc Try.prog W base sp held fuel 24 cs = some x) :
    ∃ l : List Int, cs = l.map (Value.int .u8) ∧ l.length = 32 ∧ ∀ c ∈ l, 0 ≤ c ∧ c ≤ 255 := by
  cases fuel with
  | zero => simp [DataW.trod] at h
  | succ m =>
    rw [DataW.trod_step] at h
    unfold DataW.trodStep at h
    simp only [Try.underlying24] at h
    split at h
    · next hl =>
      rw [cells32] at hl
      simp only [Option.map_eq_some_iff] at h
      obtain ⟨ys, hy, _⟩ := h
      have hm := mapM_bytes cs _ ys hy
      have each : ∀ i, i < 32 → ∃ n : Int, cs[i]? = some (.int .u8 n) ∧ (Lit.int .u8 n).wf = true := fun i hi => hm i (List.mem_range.2 hi)
      obtain ⟨f, hf⟩ := Go.Deep.choose_lt each
      refine ⟨(List.range 32).map f, ?_, by simp, ?_⟩
      · refine List.ext_getElem? fun i => ?_
        by_cases hi : i < 32
        · rw [(hf i hi).1]
          simp [hi]
        · rw [List.getElem?_eq_none (by omega), List.getElem?_eq_none (by simp; omega)]
      · intro c hc
        obtain ⟨i, hi, rfl⟩ := List.mem_map.1 hc
        exact bounds_u8 (hf i (List.mem_range.1 hi)).2
    · cases h

theorem open_digests {H : Type} {enc : TypeId × Value → H} {W : World} {a0 : Option Addr} {len cap : Nat} {d0 : DataW H} {p0 : List MemPlace} (h0 : DataW.Trod enc Try.prog W 0 (fun _ => true) true 22 (.slice a0 len cap) d0 p0) :
    ∃ Dx : Nat → List Int, len ≤ maxLen ∧ ∀ j, j < len → ∃ b o, a0 = some ⟨b, o, none⟩ ∧ W.rangeAt b (o + j * 32) ((Dx j).map (Value.int .u8)) ∧ (Dx j).length = 32 ∧ ∀ c ∈ Dx j, 0 ≤ c ∧ c ≤ 255 := by
  obtain ⟨fuel, hf⟩ := h0
  rcases Go.Deep.open_slice Try.underlying22 hf with ⟨hcs, _⟩ | ⟨x, l, c, m, n, D, Pl, hcs, _, hl, hm, hmm, _, hx⟩
  · simp [Value.cells] at hcs
    obtain ⟨rfl, rfl, rfl⟩ := hcs
    exact ⟨fun _ => [], by decide, fun j hj => by omega⟩
  · simp [Value.cells] at hcs
    obtain ⟨rfl, rfl, rfl⟩ := hcs
    simp only [if_true] at hmm
    rw [cells32] at hx
    have each : ∀ i, i < len → ∃ l : List Int, W.cells? 0 (x.add (i * 32)) 32 = some (l.map (Value.int .u8)) ∧ l.length = 32 ∧ ∀ c ∈ l, 0 ≤ c ∧ c ≤ 255 := fun i hi => by
      obtain ⟨cs, h1, h2⟩ := hx i (by omega)
      obtain ⟨l, rfl, h3, h4⟩ := open_digest h2
      exact ⟨l, h1, h3, h4⟩
    obtain ⟨Dx, hD⟩ := Go.Deep.choose_lt each
    refine ⟨Dx, by omega, fun j hj => ?_⟩
    obtain ⟨b, o, n⟩ := x
    have hspot : n = none := by
      have h0 := hD 0 (by omega)
      have h1 := (World.cells?_some h0.1).2.2 0 (by omega)
      rw [List.getElem?_eq_getElem (by simp; omega)] at h1
      simpa [Addr.add] using World.cell?_spot h1
    subst hspot
    refine ⟨b, o, rfl, ?_, (hD j hj).2⟩
    intro k v hv
    have hk : k < 32 := by
      have := (List.getElem?_eq_some_iff.1 hv).1
      have hl := (hD j hj).2.1
      simp at this
      omega
    have h1 := (World.cells?_some (hD j hj).1).2.2 k hk
    rw [Go.WideShapes.add_plain, Go.WideShapes.add_plain] at h1
    rw [h1, hv]

theorem keepS {W w w' : World} {b o : Nat} {l : List Value} (h : Hid (∀ u, Below W.heap.size W u → u.rangeAt b o l)) (h1 : Below W.heap.size W w) (h2 : Below w.heap.size w w') :
    Below W.heap.size W w' ∧ w'.rangeAt b o l := by
  have b := h1.trans (h2.mono h1.size)
  exact ⟨b, unhide h _ b⟩

theorem range_later {w u : World} {b o : Nat} {l : List Value} (hb : Below w.heap.size w u) (hr : w.rangeAt b o l) : u.rangeAt b o l := fun j v hv => cell_later hb (hr j v hv)

theorem str_same {s t : ByteArray} {l : List UInt8} (h1 : s.data.toList = l) (h2 : t.data.toList = l) : s = t := by
  cases s; cases t
  simp only [ByteArray.mk.injEq]
  exact Array.toList_inj.1 (h1.trans h2.symm)

theorem two_zero : ∃ L : List UInt8,
    (∀ w, Hid (Calls Try.prog 5 #[.agg #[Value.int .u8 0, Value.int .u8 0, Value.int .u8 0, Value.int .u8 0, Value.int .u8 0, Value.int .u8 0, Value.int .u8 0, Value.int .u8 0, Value.int .u8 0, Value.int .u8 0, Value.int .u8 0, Value.int .u8 0, Value.int .u8 0, Value.int .u8 0, Value.int .u8 0, Value.int .u8 0, Value.int .u8 0, Value.int .u8 0, Value.int .u8 0, Value.int .u8 0, Value.int .u8 0, Value.int .u8 0, Value.int .u8 0, Value.int .u8 0, Value.int .u8 0, Value.int .u8 0, Value.int .u8 0, Value.int .u8 0, Value.int .u8 0, Value.int .u8 0, Value.int .u8 0, Value.int .u8 0]] w fun e w' => (∃ s : ByteArray, e = .returned (.string s) ∧ s.data.toList = L) ∧ Below w.heap.size w w')) ∧
    (∀ w, Hid (Calls Try.prog 6 #[.agg #[Value.int .u8 0, Value.int .u8 0, Value.int .u8 0, Value.int .u8 0, Value.int .u8 0, Value.int .u8 0, Value.int .u8 0, Value.int .u8 0, Value.int .u8 0, Value.int .u8 0, Value.int .u8 0, Value.int .u8 0, Value.int .u8 0, Value.int .u8 0, Value.int .u8 0, Value.int .u8 0, Value.int .u8 0, Value.int .u8 0, Value.int .u8 0, Value.int .u8 0, Value.int .u8 0, Value.int .u8 0, Value.int .u8 0, Value.int .u8 0, Value.int .u8 0, Value.int .u8 0, Value.int .u8 0, Value.int .u8 0, Value.int .u8 0, Value.int .u8 0, Value.int .u8 0, Value.int .u8 0]] w fun e w' => (∃ s : ByteArray, e = .returned (.string s) ∧ s.data.toList = L) ∧ Below w.heap.size w w')) := by
  have hz : ∀ c ∈ List.replicate 32 (0 : Int), 0 ≤ c ∧ c ≤ 255 := by
    intro c hc
    rw [List.eq_of_mem_replicate hc]
    decide
  have e : ((List.replicate 32 (0 : Int)).map (Value.int .u8)).toArray = #[Value.int .u8 0, Value.int .u8 0, Value.int .u8 0, Value.int .u8 0, Value.int .u8 0, Value.int .u8 0, Value.int .u8 0, Value.int .u8 0, Value.int .u8 0, Value.int .u8 0, Value.int .u8 0, Value.int .u8 0, Value.int .u8 0, Value.int .u8 0, Value.int .u8 0, Value.int .u8 0, Value.int .u8 0, Value.int .u8 0, Value.int .u8 0, Value.int .u8 0, Value.int .u8 0, Value.int .u8 0, Value.int .u8 0, Value.int .u8 0, Value.int .u8 0, Value.int .u8 0, Value.int .u8 0, Value.int .u8 0, Value.int .u8 0, Value.int .u8 0, Value.int .u8 0, Value.int .u8 0] := rfl
  rw [← e]
  exact ⟨_, fun w => hHex_any (List.replicate 32 0) w (by simp) hz, fun w => refHex_any (List.replicate 32 0) w (by simp) hz⟩

set_option maxRecDepth 100000 in
set_option maxHeartbeats 1000000 in
theorem walk (a0 : Option Addr) (len cap : Nat) (w : World) (hm : len ≤ maxLen) (Dx : Nat → List Int) (hc : ∀ j, j < len → ∃ b o, a0 = some ⟨b, o, none⟩ ∧ w.rangeAt b (o + j * 32) ((Dx j).map (Value.int .u8)) ∧ (Dx j).length = 32 ∧ ∀ c ∈ Dx j, 0 ≤ c ∧ c ≤ 255) :
    Calls Try.prog 3 #[.slice a0 len cap] w fun e w' => e = .returned (.bool true) ∧ Below w.heap.size w w' := by
  unfold maxLen at hm
  have HM := hide hm
  have HC := hide hc
  clear hm hc
  go_enter Try.func3, Try.ntmps3
  go_wp2_with fail
  go_loopw [3] (fun x wr => ∃ i : Nat, i ≤ len ∧ x = .int .i64 i ∧ Hid (Below w.heap.size w wr)) (fun x _ => len - (intOf x).toNat)
  case atStart => exact ⟨0, by omega, rfl, hide (Below.refl _ _)⟩
  case round =>
    obtain ⟨i, hil, rfl, HB⟩ := hrel
    by_cases hlt : i < len
    · obtain ⟨b, o, rfl, hcell, hlen, hby⟩ := unhide HC i hlt
      have hmx := unhide HM
      have i1 : (i : Int) < (len : Int) := by omega
      have i2 : (0 : Int) ≤ (i : Int) := by omega
      have HLD : Hid (∀ u, Below wr.heap.size wr u → u.rangeAt b (o + i * 32) ((Dx i).map (Value.int .u8))) := hide (fun u hu => range_later hu (range_later (unhide HB) hcell))
      have C1 := fun w => hide (hHex_any (Dx i) w hlen hby)
      have C2 := fun w => hide (refHex_any (Dx i) w hlen hby)
      have hu24 : Try.prog.underlying 24 = some (.array 32 5) := Try.underlying24
      have hi24 : (Try.prog.info? 24).map (·.size) = some ((Dx i).map (Value.int .u8)).length := by rw [List.length_map, hlen]; exact size32'
      generalize Dx i = l at *
      generalize (hexL l).map (fun n => UInt8.ofNat n.toNat) = L at *
      generalize l.map (Value.int .u8) = cs at *
      clear hcell hlen hby HC
      go_wp2_with fail
      have hi3 : (i : Int).toNat = i := by omega
      refine wp_region_held_drew (S := fun w' => Below wr.heap.size wr w' ∧ w'.rangeAt b (o + i * 32) cs) (by kernel_rfl) ⟨(Below.refl _ _).drew, unhide HLD _ (Below.refl _ _).drew⟩ (fun hHeld => ?_)
      refine wpAnyH_take (i := 0) (v := .slice (some ⟨b, o, none⟩) len cap) rfl (by kernel_rfl) (by kernel_rfl) (by kernel_rfl) (fun _ _ _ h => h) (Or.inl ⟨by rfl, fun u hu => by rfl⟩) hHeld ?_
      refine wpAnyH_take (i := 1) (v := .int .i64 i) rfl (by kernel_rfl) (by kernel_rfl) (by kernel_rfl) (fun _ _ _ h => h) (Or.inl ⟨by rfl, fun u hu => by rfl⟩) hHeld ?_
      simp only [Act.put]
      refine wpAnyH_take (i := 2) (v := .pointer (some ⟨b, o + i * 32, none⟩)) rfl (by kernel_rfl) (by kernel_rfl) (by kernel_rfl) (fun _ _ _ h => h) (Or.inl ⟨by rfl, fun u hu => by go_simp⟩) hHeld ?_
      simp only [Act.put]
      refine wpAnyH_take (i := 3) rfl (by kernel_rfl) (by kernel_rfl) (by kernel_rfl) (fun _ _ _ h => h) (yieldsIf_load_mid (by rfl) _ _ rfl b (o + i * 32) rfl cs _ (fun w h => h.2) hu24 rfl hi24) hHeld ?_
      refine wpAnyH_take (i := 5) (v := .slice (some ⟨b, o, none⟩) len cap) rfl (by kernel_rfl) (by kernel_rfl) (by kernel_rfl) (fun _ _ _ h => h) (Or.inl ⟨by rfl, fun u hu => by rfl⟩) hHeld ?_
      refine wpAnyH_take (i := 6) (v := .int .i64 i) rfl (by kernel_rfl) (by kernel_rfl) (by kernel_rfl) (fun _ _ _ h => h) (Or.inl ⟨by rfl, fun u hu => by rfl⟩) hHeld ?_
      simp only [Act.put]
      refine wpAnyH_take (i := 7) (v := .pointer (some ⟨b, o + i * 32, none⟩)) rfl (by kernel_rfl) (by kernel_rfl) (by kernel_rfl) (fun _ _ _ h => h) (Or.inl ⟨by rfl, fun u hu => by go_simp⟩) hHeld ?_
      simp only [Act.put]
      refine wpAnyH_take (i := 8) rfl (by kernel_rfl) (by kernel_rfl) (by kernel_rfl) (fun _ _ _ h => h) (yieldsIf_load_mid (by rfl) _ _ rfl b (o + i * 32) rfl cs _ (fun w h => h.2) hu24 rfl hi24) hHeld ?_
      simp only [Act.put]
      clear hu24 hi24
      refine wpAnyH_ready (rs := [4]) (by kernel_rfl) (by simp) ?_
      refine AllReadyH.cons rfl (fun K hK => ?_) AllReadyH.nil
      go_simp
      refine (unhide (C1 _)).mono ?_
      rintro e w2 ⟨⟨s2, rfl, k2⟩, hb2⟩
      go_wp2_with fail
      refine hK.out _ _ (keepS HLD hHeld.1 hb2) (fun hHeld2 => ?_)
      clear hK K
      try simp only [Act.put]
      refine wpAnyH_ready (rs := [9]) (by kernel_rfl) (by simp) ?_
      refine AllReadyH.cons rfl (fun K hK => ?_) AllReadyH.nil
      go_simp
      refine (unhide (C2 _)).mono ?_
      rintro e w3 ⟨⟨s3, rfl, k3⟩, hb3⟩
      go_wp2_with fail
      obtain rfl : s2 = s3 := str_same k2 k3
      refine hK.out _ _ (keepS HLD hHeld2.1 hb3) (fun hHeld3 => ?_)
      clear hK K
      try simp only [Act.put]
      refine wpAnyH_take (i := 10) (v := .bool false) rfl (by kernel_rfl) (by kernel_rfl) (by kernel_rfl) (fun _ _ _ h => h) (Or.inl ⟨by rfl, fun u hu => by go_simp⟩) hHeld3 ?_
      refine wpAnyH_done (by kernel_rfl) ?_ _
      simp only [Act.put]
      have HB3 := hide ((unhide HB).trans (hHeld3.1.mono (unhide HB).size))
      clear hHeld hHeld2 hHeld3 hb2 hb3 k2 k3
      go_wp2_with fail
      go_roundw
      case rel => exact ⟨i + 1, by omega, by go_num, HB3⟩
      case measure => simp [intOf]; omega
    · have hi' : i = len := by omega
      subst hi'
      have hmx := unhide HM
      obtain ⟨L, C1, C2⟩ := two_zero
      go_wp2_with fail
      refine (unhide (C1 _)).mono ?_
      rintro e w2 ⟨⟨s2, rfl, k2⟩, hb2⟩
      have K2 := hide k2
      have HB2 := hide ((unhide HB).trans (hb2.mono (unhide HB).size))
      clear k2 hb2
      go_wp2_with fail
      refine (unhide (C2 _)).mono ?_
      rintro e w3 ⟨⟨s3, rfl, k3⟩, hb3⟩
      obtain rfl : s2 = s3 := str_same (unhide K2) k3
      have HB3 := hide ((unhide HB2).trans (hb3.mono (unhide HB2).size))
      clear k3 hb3
      go_wp2_with fail
      go_ret
      exact ⟨rfl, unhide HB3⟩

/-! ### THE ROW's STEP -/
set_option maxRecDepth 100000 in
theorem lifted (os : Os) (started : os.Started) (H : Type) (enc : TypeId × Value → H) :
    ReturnsInHanded {} Try.checked os 3 .any (Rows.hashHexesSpec.pre6 enc Try.prog Try.f3 Rows.hashHexesRow.domain false) (Rows.hashHexesSpec.post enc Try.prog Try.f3 false true false false) := by
  refine returnsInHanded_of_change (C := Try.checked) own started (by kernel_rfl) Try.func3
    (ChangeSpec.witness6 (enc := enc) (C := Try.checked) false ⟨#[], #[.slice none 0 0], []⟩ 8 (by kernel_rfl) (by kernel_rfl) (by kernel_rfl) (by kernel_rfl)) ?_
  intro W base args ds gs before hval0 hW hcnd _
  have hval : ∀ (j : Nat) t v, Try.f3.params[j]? = some t → args[j]? = some v → Value.okWide Try.prog W .any base t v := hval0
  have hW' := hW
  obtain ⟨p, q, hA0, hV, rfl, hfz, hnd⟩ := hW
  have hA : DataW.TrodAll enc Try.prog W 0 (fun _ => true) true Try.f3.params.toList args.toList ds p := hA0
  rw [Try.params3] at hA hval
  obtain ⟨v0, vs0, d0, ds0, p0, q0, hargs, rfl, rfl, h0, r0⟩ := trodAll_cons hA
  obtain ⟨rfl, rfl, rfl⟩ := trodAll_nil r0
  obtain rfl : args = #[v0] := by cases args; simp_all
  obtain ⟨rfl, rfl⟩ := trodVars_none hV
  obtain ⟨a0, len0, cap0, rfl⟩ := okWide_slice Try.underlying22 (hval 0 22 v0 rfl rfl)
  have k0 := h0
  have lt0 : ∀ x ∈ p0, x.block < W.heap.size := by obtain ⟨m, hm⟩ := k0; exact DataW.trod_lt m _ _ _ hm
  obtain ⟨Dx, hm0, w0⟩ : ∃ Dx : Nat → List Int, len0 ≤ maxLen ∧ ∀ j, j < len0 → ∃ b o, a0 = some ⟨b, o, none⟩ ∧ W.rangeAt b (o + j * 32) ((Dx j).map (Value.int .u8)) ∧ (Dx j).length = 32 ∧ ∀ c ∈ Dx j, 0 ≤ c ∧ c ≤ 255 := open_digests h0
  clear hA0 hval0
  refine (walk a0 len0 cap0 W hm0 Dx w0).mono fun e W' ⟨he, bel⟩ => ?_
  subst he
  exact ⟨_, rfl, _, _, _, [], _, [], hW', trodAll_mk1 (shut_bool Try.underlying4 _), (trodAll_cons_mk (Below.trod laidOut (by kernel_rfl) (of_decide_eq_true (by kernel_rfl)) k0 bel lt0) trodAll_mk0), rfl, bel.frame _, fun h => by cases h⟩

theorem over : Rows.hashHexesRow.holds Try.pinned (OpenSpec.ofChange Rows.hashHexesSpec) :=
  OpenClaim.holds_of_wide 3 Try.f3 rfl rfl rfl rfl rfl rfl rfl ⟨rfl, rfl, rfl, rfl, rfl⟩ rfl rfl rfl rfl rfl (by kernel_rfl) Try.func3 (by kernel_rfl)
    (of_decide_eq_true (by kernel_rfl)) (by unfold Func.isWrapper; first | (rw [if_pos (by decide +kernel)]; kernel_rfl) | (rw [if_neg (by decide +kernel)]; exact ⟨rfl, rfl⟩))
    (fun os started H enc _ => lifted os started H enc)

end Go.Proofs.Ytbdieoknbpcbnaa.hashHexes

namespace Go.Proofs.Ytbdieoknbpcbnaa
theorem hashHexes_holds : Rows.HashHexesSaid := hashHexes.over
#print axioms hashHexes_holds
end Go.Proofs.Ytbdieoknbpcbnaa
