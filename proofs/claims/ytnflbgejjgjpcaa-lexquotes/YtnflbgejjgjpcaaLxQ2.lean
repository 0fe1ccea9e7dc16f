/-
  The walk of the document's Quote (layer 16); conditions: a text of at most 2^30 bytes.
-/
import Derived.Test.YtnflbgejjgjpcaaLxRow
import Derived.Test.YtnflbgejjgjpcaaLx1
import Derived.Test.YtnflbgejjgjpcaaLxQ0
namespace Go.Proofs.Ytnflbgejjgjpcaa
open Go.RowKit
set_option linter.unusedVariables false
set_option linter.unusedSimpArgs false

def hxI (d : Int) : Int := if d < 10 then 48 + d else 87 + d
/-- a byte, as text -/
def qI (c : Int) : List Int := if c = 34 ∨ c = 92 then [92, c] else if 32 ≤ c ∧ c ≤ 126 then [c] else [92, 120, hxI (c / 16), hxI (c % 16)]
def quoI (s : ByteArray) (i : Nat) : List Int := 34 :: (s.data.toList.take i).flatMap (fun b => qI (b.toNat : Int))
/-- bytes, as text -/
def quoteI (s : ByteArray) : List Int := quoI s s.size ++ [34]

theorem quo_next (s : ByteArray) (i : Nat) (h : i < s.size) : quoI s (i + 1) = quoI s i ++ qI ((s[i]'h).toNat : Int) := by
  unfold quoI
  have h1 : s.data.toList[i]? = some (s[i]'h) := by
    rw [Array.getElem?_toList]
    exact Array.getElem?_eq_getElem (by exact h)
  rw [List.take_add_one, h1, List.flatMap_append]
  simp

theorem hex_fin : ∀ d : Fin 16, ((hexB[d.val]'(by have := d.isLt; show d.val < 16; omega)).toNat : Int) = hxI (d.val : Int) := by decide +kernel

theorem hex_at (d : Int) (h0 : 0 ≤ d) (h1 : d < 16) (hh : d.toNat < hexB.size) : ((hexB[d.toNat]'hh).toNat : Int) = hxI d := by
  obtain ⟨k, rfl⟩ : ∃ k : Nat, d = k := ⟨d.toNat, by omega⟩
  exact hex_fin ⟨k, by omega⟩

theorem hx_fin : ∀ d : Fin 16, UInt8.ofNat (hxI (d.val : Int)).toNat = hx d.val := by decide +kernel

theorem qI_B (c : UInt8) : (qI (c.toNat : Int)).map (fun n => UInt8.ofNat n.toNat) = qB c := by
  have hc := c.toNat_lt
  by_cases h1 : c.toNat = 34 ∨ c.toNat = 92
  · rw [qB_esc c h1]
    unfold qI
    rw [if_pos (by omega)]
    simp
  · by_cases h2 : 32 ≤ c.toNat ∧ c.toNat ≤ 126
    · rw [qB_own c h2.1 h2.2 (by omega) (by omega)]
      unfold qI
      rw [if_neg (by omega), if_pos (by omega)]
      simp
    · rw [qB_num c (by omega)]
      unfold qI
      rw [if_neg (by omega), if_neg (by omega)]
      have e1 := hx_fin ⟨c.toNat / 16, by omega⟩
      have e2 := hx_fin ⟨c.toNat % 16, by omega⟩
      have f1 : (c.toNat : Int) / 16 = ((c.toNat / 16 : Nat) : Int) := by omega
      have f2 : (c.toNat : Int) % 16 = ((c.toNat % 16 : Nat) : Int) := by omega
      rw [f1, f2]
      simp only [List.map_cons, List.map_nil, e1, e2]
      rfl

theorem map_flatQ {α β γ : Type} (f : β → γ) (g : α → List β) : ∀ l : List α, (l.flatMap g).map f = l.flatMap fun a => (g a).map f
  | [] => rfl
  | a :: l => by rw [List.flatMap_cons, List.map_append, map_flatQ f g l, List.flatMap_cons]

theorem quoteI_B (s : ByteArray) : strOfNums (quoteI s) = bA (quoB s.data.toList) := by
  unfold strOfNums quoteI quoI quoB bA
  rw [show s.data.toList.take s.size = s.data.toList from List.take_of_length_le (Nat.le_refl _)]
  show (⟨(List.map _ (34 :: _ ++ [34])).toArray⟩ : ByteArray) = _
  rw [List.map_append, List.map_cons, map_flatQ]
  have : (fun a : UInt8 => (qI (a.toNat : Int)).map (fun n => UInt8.ofNat n.toNat)) = qB := funext qI_B
  rw [this]
  rfl

theorem quo_conv {w : World} {base n i : Nat} {v : Value} {s : ByteArray} (h : w.ownsRow base 5 1 v (n + 1) ((quoI s i).map (Value.int .u8) ++ [.int .u8 34])) (hi : quoI s i = quoI s s.size) :
    ∃ b cap, v = .slice (some ⟨b, 0, none⟩) (n + 1) cap ∧ Sem.run Try.prog (convert 32 9 (.slice (some ⟨b, 0, none⟩) (n + 1) cap)) w = .ok (.string (bA (quoB s.data.toList))) w := by
  have hx : (quoI s i).map (Value.int .u8) ++ [.int .u8 34] = (quoteI s).map (Value.int .u8) := by
    unfold quoteI
    rw [hi, List.map_append]
    rfl
  rw [hx] at h
  rw [← quoteI_B]
  exact byte_conv h

set_option maxRecDepth 100000 in
set_option maxHeartbeats 2000000 in
theorem quoteD_any (s : ByteArray) (hs : s.size ≤ 1073741824) (w : World) :
    Calls Try.prog 8 #[.string s] w fun e w' => e = .returned (.string (bA (quoB s.data.toList))) ∧ Below w.heap.size w w' := by
  obtain ⟨m, hm⟩ : ∃ m, s.size = m := ⟨_, rfl⟩
  obtain ⟨g, hg⟩ : ∃ g, w.heap.size = g := ⟨_, rfl⟩
  have HM := hide hm
  have hm5 : m ≤ 1073741824 := by omega
  obtain ⟨w1, hw1⟩ : ∃ w1, w.alloc (.cells #[.int .u8 34] 5) = w1 := ⟨_, rfl⟩
  have HQ0 : Hid (QRow w1 g (.slice (some ⟨g, 0, none⟩) 1 1) 1 ((quoI s 0).map (Value.int .u8)) ∧ Below g w w1) := hide (by
    refine ⟨Or.inr ⟨g, rfl, by simp [quoI], by rw [← hw1, ← hg]; simp, Nat.le_refl _, fun j u hu => ?_⟩, ?_⟩
    · rw [← hw1, ← hg, cell_of_row _ w.heap.size j _ 5 (0, 0) (heap_alloc_new w _)]
      simp [quoI] at hu ⊢
      exact hu
    · rw [← hw1, ← hg]
      exact (Below.refl _ _).alloc (Nat.le_refl _) _)
  clear hs hm
  go_enter Try.func8, Try.ntmps8
  go_wp2_with fail
  clear hw1
  go_loopw [4, 5] (fun v x wr => ∃ (i n : Nat), x = .int .i64 (i : Int) ∧ i ≤ m ∧ n ≤ 1 + 4 * i ∧ Hid (QRow wr g v n ((quoI s i).map (Value.int .u8)) ∧ Below g w wr)) (fun _ x _ => m - (intOf x).toNat)
  case atStart => exact ⟨0, 1, rfl, by omega, by omega, HQ0⟩
  case round =>
    clear HQ0
    obtain ⟨i, n, rfl, hi, hn4, HQ⟩ := hrel
    obtain ⟨ao, cp, rfl⟩ := (unhide HQ).1.form
    by_cases hlt : i < s.size
    · have i1 : (i : Int) < (s.size : Int) := by omega
      have i0 : (0 : Int) ≤ (i : Int) := by omega
      obtain ⟨c, hc⟩ : ∃ c : Nat, (s[i]'hlt).toNat = c := ⟨_, rfl⟩
      have hc255 : c ≤ 255 := by have := (s[i]'hlt).toNat_lt; omega
      have HN : Hid (quoI s (i + 1) = quoI s i ++ qI (c : Int)) := hide (by rw [quo_next s i hlt, hc])
      have HI1 : Hid (i + 1 ≤ m) := hide (by have := unhide HM; omega)
      have hbs : g ≤ wr.heap.size := by have := (unhide HQ).2.size; omega
      by_cases hq : c = 34 ∨ c = 92
      · have HQI : Hid (qI (c : Int) = [92, (c : Int)]) := hide (by unfold qI; rw [if_pos (by omega)])
        rcases hq with h34 | h92
        · have b1 : ((c : Int) == 34) = true := by simp [h34]
          clear h34
          have tokA : True := trivial
          go_upto_region 5 with (first | (have _t := tokA; at_builtin; refine wpl_fewB rfl (.tmp 35) (.tmp 37) rfl g n 2 (.slice ao n cp) _ [.int .u8 92, .int .u8 (c : Int)] rfl (by simp [Value.oneCell']) rfl (unhide HQ).1 (by omega) rfl (by omega) hbs ?_; intro v6 w6 H6; clear tokA))
          have HQ1 : Hid (QRow w6 g v6 (n + 2) ((quoI s (i + 1)).map (Value.int .u8)) ∧ Below g w w6) := hide (by
            obtain ⟨h1, h2⟩ := unhide H6
            refine ⟨Or.inl ?_, (unhide HQ).2.trans h2⟩
            rw [unhide HN, unhide HQI, List.map_append]
            exact h1)
          clear H6
          go_wp2_with fail
          go_roundw
          case rel => exact ⟨i + 1, n + 2, by go_num, unhide HI1, by omega, HQ1⟩
          case measure => have := unhide HI1; have := unhide HM; simp [intOf]; omega
        · have b1 : ((c : Int) == 34) = false := by simp; omega
          have b3 : ((c : Int) == 92) = true := by simp [h92]
          have b4 : ¬ (c : Int) = 34 := by omega
          clear h92
          have tokA : True := trivial
          go_upto_region 5 with (first | (have _t := tokA; at_builtin; refine wpl_fewB rfl (.tmp 35) (.tmp 37) rfl g n 2 (.slice ao n cp) _ [.int .u8 92, .int .u8 (c : Int)] rfl (by simp [Value.oneCell']) rfl (unhide HQ).1 (by omega) rfl (by omega) hbs ?_; intro v6 w6 H6; clear tokA))
          have HQ1 : Hid (QRow w6 g v6 (n + 2) ((quoI s (i + 1)).map (Value.int .u8)) ∧ Below g w w6) := hide (by
            obtain ⟨h1, h2⟩ := unhide H6
            refine ⟨Or.inl ?_, (unhide HQ).2.trans h2⟩
            rw [unhide HN, unhide HQI, List.map_append]
            exact h1)
          clear H6
          go_wp2_with fail
          go_roundw
          case rel => exact ⟨i + 1, n + 2, by go_num, unhide HI1, by omega, HQ1⟩
          case measure => have := unhide HI1; have := unhide HM; simp [intOf]; omega
      · have b1 : ((c : Int) == 34) = false := by simp; omega
        have b3 : ((c : Int) == 92) = false := by simp; omega
        have b4 : ¬ (c : Int) = 34 := by omega
        have b5 : ¬ (c : Int) = 92 := by omega
        by_cases hp : 32 ≤ c ∧ c ≤ 126
        · have HQI : Hid (qI (c : Int) = [(c : Int)]) := hide (by unfold qI; rw [if_neg (by omega), if_pos (by omega)])
          have d1 : (32 : Int) ≤ (c : Int) := by omega
          have d2 : (c : Int) ≤ 126 := by omega
          clear hp hq
          have tokA : True := trivial
          go_upto_region 5 with (first | (have _t := tokA; at_builtin; refine wpl_fewB rfl (.tmp 46) (.tmp 48) rfl g n 1 (.slice ao n cp) _ [.int .u8 (c : Int)] rfl (by simp [Value.oneCell']) rfl (unhide HQ).1 (by omega) rfl (by omega) hbs ?_; intro v6 w6 H6; clear tokA))
          have HQ1 : Hid (QRow w6 g v6 (n + 1) ((quoI s (i + 1)).map (Value.int .u8)) ∧ Below g w w6) := hide (by
            obtain ⟨h1, h2⟩ := unhide H6
            refine ⟨Or.inl ?_, (unhide HQ).2.trans h2⟩
            rw [unhide HN, unhide HQI, List.map_append]
            exact h1)
          clear H6
          go_wp2_with fail
          go_roundw
          case rel => exact ⟨i + 1, n + 1, by go_num, unhide HI1, by omega, HQ1⟩
          case measure => have := unhide HI1; have := unhide HM; simp [intOf]; omega
        · have HQI : Hid (qI (c : Int) = [92, 120, hxI ((c : Int) / 16), hxI ((c : Int) % 16)]) := hide (by unfold qI; rw [if_neg (by omega), if_neg (by omega)])
          have hw16 : IntKind.u8.wrap ((c : Int) / 16) = (c : Int) / 16 := by rw [IntKind.wrap_u8]; omega
          have hm16 : ((c : Int)).tmod 16 = (c : Int) % 16 := Int.tmod_eq_emod_of_nonneg (by omega)
          by_cases h32 : c < 32
          · have d1 : ¬ (32 : Int) ≤ (c : Int) := by omega
            clear hp hq
            go_upto_region 7 with fail
            refine till_begin (S := fun w' => True) 11 (by kernel_rfl) ?_
            have HQd := hide ((unhide HQ).1.later ((Below.refl wr.heap.size wr).drew))
            have HBd : Hid (Below g w wr.drew) := hide ((unhide HQ).2.drew)
            have hbd : g ≤ wr.drew.heap.size := hbs
            obtain ⟨ud, hud⟩ : ∃ ud, wr.drew = ud := ⟨_, rfl⟩
            rw [hud] at HQd HBd hbd ⊢
            clear hud
            refine till_take 0 (v := .slice ao n cp) (some 17) rfl rfl rfl (by kernel_rfl) (by kernel_rfl) (by kernel_rfl) (by kernel_rfl) (fun _ _ _ h => h) (Or.inl ⟨by rfl, fun u hu => by go_simp⟩) trivial ?_
            try simp only [Act.put, List.setIfInBounds_toArray, List.set_cons_zero, List.set_cons_succ]
            refine till_take 1 (v := .string ⟨#[48, 49, 50, 51, 52, 53, 54, 55, 56, 57, 97, 98, 99, 100, 101, 102]⟩) (some 18) rfl rfl rfl (by kernel_rfl) (by kernel_rfl) (by kernel_rfl) (by kernel_rfl) (fun _ _ _ h => h) (Or.inl ⟨by rfl, fun u hu => by go_simp⟩) trivial ?_
            try simp only [Act.put, List.setIfInBounds_toArray, List.set_cons_zero, List.set_cons_succ]
            refine till_take 2 (v := .int .u8 (c : Int)) (some 19) rfl rfl rfl (by kernel_rfl) (by kernel_rfl) (by kernel_rfl) (by kernel_rfl) (fun _ _ _ h => h) (Or.inl ⟨by rfl, fun u hu => by go_simp⟩) trivial ?_
            try simp only [Act.put, List.setIfInBounds_toArray, List.set_cons_zero, List.set_cons_succ]
            refine till_take 3 (v := .int .u8 ((c : Int) / 16)) (some 20) rfl rfl rfl (by kernel_rfl) (by kernel_rfl) (by kernel_rfl) (by kernel_rfl) (fun _ _ _ h => h) (Or.inl ⟨by rfl, fun u hu => by go_simp⟩) trivial ?_
            try simp only [Act.put, List.setIfInBounds_toArray, List.set_cons_zero, List.set_cons_succ]
            refine till_take 4 (v := .int .u8 (hxI ((c : Int) / 16))) (some 21) rfl rfl rfl (by kernel_rfl) (by kernel_rfl) (by kernel_rfl) (by kernel_rfl) (fun _ _ _ h => h) (Or.inl ⟨by rfl, fun u hu => by go_simp; rw [dif_pos ⟨by omega, by omega⟩]; exact congrArg (fun z => Result.ok (Next.value (Value.int IntKind.u8 z)) u) (hex_at ((c : Int) / 16) (by omega) (by omega) (by show _ < 16; omega))⟩) trivial ?_
            try simp only [Act.put, List.setIfInBounds_toArray, List.set_cons_zero, List.set_cons_succ]
            refine till_take 5 (v := .string ⟨#[48, 49, 50, 51, 52, 53, 54, 55, 56, 57, 97, 98, 99, 100, 101, 102]⟩) (some 22) rfl rfl rfl (by kernel_rfl) (by kernel_rfl) (by kernel_rfl) (by kernel_rfl) (fun _ _ _ h => h) (Or.inl ⟨by rfl, fun u hu => by go_simp⟩) trivial ?_
            try simp only [Act.put, List.setIfInBounds_toArray, List.set_cons_zero, List.set_cons_succ]
            refine till_take 6 (v := .int .u8 (c : Int)) (some 23) rfl rfl rfl (by kernel_rfl) (by kernel_rfl) (by kernel_rfl) (by kernel_rfl) (fun _ _ _ h => h) (Or.inl ⟨by rfl, fun u hu => by go_simp⟩) trivial ?_
            try simp only [Act.put, List.setIfInBounds_toArray, List.set_cons_zero, List.set_cons_succ]
            refine till_take 7 (v := .int .u8 ((c : Int) % 16)) (some 24) rfl rfl rfl (by kernel_rfl) (by kernel_rfl) (by kernel_rfl) (by kernel_rfl) (fun _ _ _ h => h) (Or.inl ⟨by rfl, fun u hu => by go_simp⟩) trivial ?_
            try simp only [Act.put, List.setIfInBounds_toArray, List.set_cons_zero, List.set_cons_succ]
            refine till_take 8 (v := .int .u8 (hxI ((c : Int) % 16))) (some 25) rfl rfl rfl (by kernel_rfl) (by kernel_rfl) (by kernel_rfl) (by kernel_rfl) (fun _ _ _ h => h) (Or.inl ⟨by rfl, fun u hu => by go_simp; rw [dif_pos ⟨by omega, by omega⟩]; exact congrArg (fun z => Result.ok (Next.value (Value.int IntKind.u8 z)) u) (hex_at ((c : Int) % 16) (by omega) (by omega) (by show _ < 16; omega))⟩) trivial ?_
            try simp only [Act.put, List.setIfInBounds_toArray, List.set_cons_zero, List.set_cons_succ]
            refine till_one 9 (by kernel_rfl) rfl (fun K hK => ?_)
            go_simp
            obtain ⟨w6, hw6⟩ : ∃ w6, ud.alloc (.cells #[.int .u8 92, .int .u8 120, .int .u8 (hxI ((c : Int) / 16)), .int .u8 (hxI ((c : Int) % 16))] 5) = w6 := ⟨_, rfl⟩
            have H6 : Hid (w6.heap[ud.heap.size]? = some (.cells #[.int .u8 92, .int .u8 120, .int .u8 (hxI ((c : Int) / 16)), .int .u8 (hxI ((c : Int) % 16))] 5 (0, 0)) ∧ Below ud.heap.size ud w6) := hide (by
              rw [← hw6]
              exact ⟨heap_alloc_new ud _, (Below.refl _ _).alloc (Nat.le_refl _) _⟩)
            try rw [hw6]
            refine hK.out _ _ (Or.inr trivial) ?_
            clear hK K hw6
            try simp only [Act.put, List.setIfInBounds_toArray, List.set_cons_zero, List.set_cons_succ]
            refine till_one 10 (by kernel_rfl) rfl (fun K hK => ?_)
            refine step_fewB rfl (.tmp 17) (.tmp 26) rfl g n 4 ud.heap.size (.slice ao n cp) _ [.int .u8 92, .int .u8 120, .int .u8 (hxI ((c : Int) / 16)), .int .u8 (hxI ((c : Int) % 16))] rfl (by simp [Value.oneCell']) rfl ((unhide HQd).later (unhide H6).2) (by omega) (unhide H6).1 rfl (by omega) (Nat.le_trans hbd (unhide H6).2.size) ?_
            intro v6 w7 H7
            have HQ1 : Hid (QRow w7 g v6 (n + 4) ((quoI s (i + 1)).map (Value.int .u8)) ∧ Below g w w7) := hide (by
              obtain ⟨h1, h2⟩ := unhide H7
              refine ⟨Or.inl ?_, (unhide HBd).trans (((unhide H6).2.mono hbd).trans h2)⟩
              rw [unhide HN, unhide HQI, List.map_append]
              exact h1)
            refine hK.out _ _ (Or.inr trivial) ?_
            clear hK K H7
            try simp only [Act.put, List.setIfInBounds_toArray, List.set_cons_zero, List.set_cons_succ]
            refine till_one 11 (by kernel_rfl) rfl (fun K hK => ?_)
            go_simp
            refine hK.out _ _ (Or.inl rfl) ?_
            clear hK K
            try simp only [Act.put, List.setIfInBounds_toArray, List.set_cons_zero, List.set_cons_succ]
            refine till_done (by kernel_rfl) ?_ _
            go_wp2_with fail
            go_roundw
            case rel => exact ⟨i + 1, n + 4, by go_num, unhide HI1, by omega, HQ1⟩
            case measure => have := unhide HI1; have := unhide HM; simp [intOf]; omega
          · have d1 : (32 : Int) ≤ (c : Int) := by omega
            have d2 : ¬ (c : Int) ≤ 126 := by omega
            clear hp hq
            go_upto_region 7 with fail
            refine till_begin (S := fun w' => True) 11 (by kernel_rfl) ?_
            have HQd := hide ((unhide HQ).1.later ((Below.refl wr.heap.size wr).drew))
            have HBd : Hid (Below g w wr.drew) := hide ((unhide HQ).2.drew)
            have hbd : g ≤ wr.drew.heap.size := hbs
            obtain ⟨ud, hud⟩ : ∃ ud, wr.drew = ud := ⟨_, rfl⟩
            rw [hud] at HQd HBd hbd ⊢
            clear hud
            refine till_take 0 (v := .slice ao n cp) (some 17) rfl rfl rfl (by kernel_rfl) (by kernel_rfl) (by kernel_rfl) (by kernel_rfl) (fun _ _ _ h => h) (Or.inl ⟨by rfl, fun u hu => by go_simp⟩) trivial ?_
            try simp only [Act.put, List.setIfInBounds_toArray, List.set_cons_zero, List.set_cons_succ]
            refine till_take 1 (v := .string ⟨#[48, 49, 50, 51, 52, 53, 54, 55, 56, 57, 97, 98, 99, 100, 101, 102]⟩) (some 18) rfl rfl rfl (by kernel_rfl) (by kernel_rfl) (by kernel_rfl) (by kernel_rfl) (fun _ _ _ h => h) (Or.inl ⟨by rfl, fun u hu => by go_simp⟩) trivial ?_
            try simp only [Act.put, List.setIfInBounds_toArray, List.set_cons_zero, List.set_cons_succ]
            refine till_take 2 (v := .int .u8 (c : Int)) (some 19) rfl rfl rfl (by kernel_rfl) (by kernel_rfl) (by kernel_rfl) (by kernel_rfl) (fun _ _ _ h => h) (Or.inl ⟨by rfl, fun u hu => by go_simp⟩) trivial ?_
            try simp only [Act.put, List.setIfInBounds_toArray, List.set_cons_zero, List.set_cons_succ]
            refine till_take 3 (v := .int .u8 ((c : Int) / 16)) (some 20) rfl rfl rfl (by kernel_rfl) (by kernel_rfl) (by kernel_rfl) (by kernel_rfl) (fun _ _ _ h => h) (Or.inl ⟨by rfl, fun u hu => by go_simp⟩) trivial ?_
            try simp only [Act.put, List.setIfInBounds_toArray, List.set_cons_zero, List.set_cons_succ]
            refine till_take 4 (v := .int .u8 (hxI ((c : Int) / 16))) (some 21) rfl rfl rfl (by kernel_rfl) (by kernel_rfl) (by kernel_rfl) (by kernel_rfl) (fun _ _ _ h => h) (Or.inl ⟨by rfl, fun u hu => by go_simp; rw [dif_pos ⟨by omega, by omega⟩]; exact congrArg (fun z => Result.ok (Next.value (Value.int IntKind.u8 z)) u) (hex_at ((c : Int) / 16) (by omega) (by omega) (by show _ < 16; omega))⟩) trivial ?_
            try simp only [Act.put, List.setIfInBounds_toArray, List.set_cons_zero, List.set_cons_succ]
            refine till_take 5 (v := .string ⟨#[48, 49, 50, 51, 52, 53, 54, 55, 56, 57, 97, 98, 99, 100, 101, 102]⟩) (some 22) rfl rfl rfl (by kernel_rfl) (by kernel_rfl) (by kernel_rfl) (by kernel_rfl) (fun _ _ _ h => h) (Or.inl ⟨by rfl, fun u hu => by go_simp⟩) trivial ?_
            try simp only [Act.put, List.setIfInBounds_toArray, List.set_cons_zero, List.set_cons_succ]
            refine till_take 6 (v := .int .u8 (c : Int)) (some 23) rfl rfl rfl (by kernel_rfl) (by kernel_rfl) (by kernel_rfl) (by kernel_rfl) (fun _ _ _ h => h) (Or.inl ⟨by rfl, fun u hu => by go_simp⟩) trivial ?_
            try simp only [Act.put, List.setIfInBounds_toArray, List.set_cons_zero, List.set_cons_succ]
            refine till_take 7 (v := .int .u8 ((c : Int) % 16)) (some 24) rfl rfl rfl (by kernel_rfl) (by kernel_rfl) (by kernel_rfl) (by kernel_rfl) (fun _ _ _ h => h) (Or.inl ⟨by rfl, fun u hu => by go_simp⟩) trivial ?_
            try simp only [Act.put, List.setIfInBounds_toArray, List.set_cons_zero, List.set_cons_succ]
            refine till_take 8 (v := .int .u8 (hxI ((c : Int) % 16))) (some 25) rfl rfl rfl (by kernel_rfl) (by kernel_rfl) (by kernel_rfl) (by kernel_rfl) (fun _ _ _ h => h) (Or.inl ⟨by rfl, fun u hu => by go_simp; rw [dif_pos ⟨by omega, by omega⟩]; exact congrArg (fun z => Result.ok (Next.value (Value.int IntKind.u8 z)) u) (hex_at ((c : Int) % 16) (by omega) (by omega) (by show _ < 16; omega))⟩) trivial ?_
            try simp only [Act.put, List.setIfInBounds_toArray, List.set_cons_zero, List.set_cons_succ]
            refine till_one 9 (by kernel_rfl) rfl (fun K hK => ?_)
            go_simp
            obtain ⟨w6, hw6⟩ : ∃ w6, ud.alloc (.cells #[.int .u8 92, .int .u8 120, .int .u8 (hxI ((c : Int) / 16)), .int .u8 (hxI ((c : Int) % 16))] 5) = w6 := ⟨_, rfl⟩
            have H6 : Hid (w6.heap[ud.heap.size]? = some (.cells #[.int .u8 92, .int .u8 120, .int .u8 (hxI ((c : Int) / 16)), .int .u8 (hxI ((c : Int) % 16))] 5 (0, 0)) ∧ Below ud.heap.size ud w6) := hide (by
              rw [← hw6]
              exact ⟨heap_alloc_new ud _, (Below.refl _ _).alloc (Nat.le_refl _) _⟩)
            try rw [hw6]
            refine hK.out _ _ (Or.inr trivial) ?_
            clear hK K hw6
            try simp only [Act.put, List.setIfInBounds_toArray, List.set_cons_zero, List.set_cons_succ]
            refine till_one 10 (by kernel_rfl) rfl (fun K hK => ?_)
            refine step_fewB rfl (.tmp 17) (.tmp 26) rfl g n 4 ud.heap.size (.slice ao n cp) _ [.int .u8 92, .int .u8 120, .int .u8 (hxI ((c : Int) / 16)), .int .u8 (hxI ((c : Int) % 16))] rfl (by simp [Value.oneCell']) rfl ((unhide HQd).later (unhide H6).2) (by omega) (unhide H6).1 rfl (by omega) (Nat.le_trans hbd (unhide H6).2.size) ?_
            intro v6 w7 H7
            have HQ1 : Hid (QRow w7 g v6 (n + 4) ((quoI s (i + 1)).map (Value.int .u8)) ∧ Below g w w7) := hide (by
              obtain ⟨h1, h2⟩ := unhide H7
              refine ⟨Or.inl ?_, (unhide HBd).trans (((unhide H6).2.mono hbd).trans h2)⟩
              rw [unhide HN, unhide HQI, List.map_append]
              exact h1)
            refine hK.out _ _ (Or.inr trivial) ?_
            clear hK K H7
            try simp only [Act.put, List.setIfInBounds_toArray, List.set_cons_zero, List.set_cons_succ]
            refine till_one 11 (by kernel_rfl) rfl (fun K hK => ?_)
            go_simp
            refine hK.out _ _ (Or.inl rfl) ?_
            clear hK K
            try simp only [Act.put, List.setIfInBounds_toArray, List.set_cons_zero, List.set_cons_succ]
            refine till_done (by kernel_rfl) ?_ _
            go_wp2_with fail
            go_roundw
            case rel => exact ⟨i + 1, n + 4, by go_num, unhide HI1, by omega, HQ1⟩
            case measure => have := unhide HI1; have := unhide HM; simp [intOf]; omega
    · have i1 : ¬ (i : Int) < (s.size : Int) := by omega
      have hbs : g ≤ wr.heap.size := by have := (unhide HQ).2.size; omega
      have HN : Hid (quoI s i = quoI s s.size) := hide (by rw [show i = s.size by have := unhide HM; omega])
      have tokA : True := trivial
      go_wp2_with (first | (have _t := tokA; at_builtin; refine wpl_fewB rfl (.tmp 50) (.tmp 51) rfl g n 1 (.slice ao n cp) _ [.int .u8 34] rfl (by simp [Value.oneCell']) rfl (unhide HQ).1 (by omega) rfl (by omega) hbs ?_; intro v6 w6 H6; clear tokA; obtain ⟨b7, c7, rfl, hcv⟩ := quo_conv (unhide H6).1 (unhide HN); have kc := hcv))
      have HF := hide ((unhide HQ).2.trans (unhide H6).2)
      clear H6
      go_ret
      exact ⟨rfl, by first | exact unhide HF | (rw [hg]; exact unhide HF)⟩
end Go.Proofs.Ytnflbgejjgjpcaa
