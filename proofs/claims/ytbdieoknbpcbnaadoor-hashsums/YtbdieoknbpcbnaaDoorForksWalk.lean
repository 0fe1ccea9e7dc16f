/-
  The walk of the statement HashForks: a copy and what it was copied from go their own ways; conditions: the package's variables, lengths that an int holds.
-/
import Derived.Test.YtbdieoknbpcbnaaDoorHas
import Derived.Test.YtbdieoknbpcbnaaDoorPiecesWalk
namespace Go.Proofs.YtbdieoknbpcbnaaDoor
open Go.RowKit

theorem yields_moveG {P : Program} {ops : Array Oper} {S : World → Prop} {a : Act} {oi : Oper} (x : Operand) (ho : oi.op = .move x ∨ oi.op = .assign x) (hw : Region.wanted oi (yielded ops a.tmps) = true) {v : Value} (hv : a.eval x = v) : YieldsIf P ops S oi v a :=
  .inl ⟨hw, fun w _ => by
    rcases ho with ho | ho <;> simp [execOp, ho, hv]⟩

theorem yields_same_arr {P : Program} {ops : Array Oper} {S : World → Prop} {o : Oper} {a : Act} (hw : Region.wanted o (yielded ops a.tmps) = true) (T T' : TypeId) (x y : Operand) (ho : o.op = .binOp .eql T x y T')
    (xs : List Int) (n : Nat) (e : TypeId) (hx : a.eval x = .agg (xs.map (Value.int .u8)).toArray) (hy : a.eval y = .agg (xs.map (Value.int .u8)).toArray) (hm : P.eqGuardType P.depth T = false)
    (ht : P.underlying T = some (.array n e)) (he : P.underlying e = some (.int .u8)) (hsz : (P.info? e).map (·.size) = some 1) (lx : xs.length = n) : YieldsIf P ops S o (.bool true) a := by
  have h := yields_eql_arr (P := P) (S := S) hw T T' x y ho xs xs n e hx hy hm ht he hsz lx lx
  simpa using h

/-- a digest in memory -/
theorem range_of {w : World} {g : Nat} {T : TypeId} {D : List Int} (h : w.heap[g]? = some (.cells (D.map (Value.int .u8)).toArray T (0, 0))) (hg : g < w.heap.size) : ∀ u, Below w.heap.size w u → u.rangeAt g 0 (D.map (Value.int .u8)) := by
  intro u hu j v hv
  rw [Nat.zero_add, hu.cell (p := ⟨g, j, none⟩) hg, cell_of_row w g j _ T (0, 0) h]
  simpa using hv

set_option maxRecDepth 100000 in
set_option maxHeartbeats 2000000 in
theorem forks_walk {t0 tK : TypeId} (a b c : ByteArray) (ks : List Int) (w : World) (hp : Pkg w t0 tK ks) (ha : a.size ≤ 140737488351232) (hb : b.size ≤ 140737488351232) (hc : c.size ≤ 140737488351232) :
    Calls Tryd.prog 6 #[.string a, .string b, .string c] w fun e w' => e = .returned (.bool true) ∧ Below w.heap.size w w' := by
  obtain ⟨i0, hi0, hz0⟩ := zi32
  have hK1 := hp.lt
  have HP := hide hp
  have C0 := hide (new_has w hp)
  obtain ⟨AB, hAB⟩ : ∃ AB, a ++ b = AB := ⟨_, rfl⟩
  obtain ⟨AC, hAC⟩ : ∃ AC, a ++ c = AC := ⟨_, rfl⟩
  obtain ⟨nac, hnac⟩ : ∃ nac : Nat, a.size + c.size = nac := ⟨_, rfl⟩
  have tab : txt AB = txt a ++ txt b := by rw [← hAB, txt_append]
  have tac : txt AC = txt a ++ txt c := by rw [← hAC, txt_append]
  have sab : AB.size = a.size + b.size := by rw [← txt_len, tab, List.length_append, txt_len, txt_len]
  have sac : AC.size = a.size + c.size := by rw [← txt_len, tac, List.length_append, txt_len, txt_len]
  obtain ⟨D1, HD1⟩ : ∃ D, Hid (digM ks (txt a ++ txt b) = D) := ⟨_, rfl⟩
  obtain ⟨D2, HD2⟩ : ∃ D, Hid (digM ks (txt a ++ txt c) = D) := ⟨_, rfl⟩
  have LD1 : Hid (D1.length = 32) := hide (by rw [← unhide HD1]; exact digM_len _ _)
  have LD2 : Hid (D2.length = 32) := hide (by rw [← unhide HD2]; exact digM_len _ _)
  have SD1 : Hid ((Tryd.prog.info? 23).map (·.size) = some (D1.map (Value.int .u8)).length) := hide (by rw [List.length_map, unhide LD1]; exact sb32)
  have SD2 : Hid ((Tryd.prog.info? 23).map (·.size) = some (D2.map (Value.int .u8)).length) := hide (by rw [List.length_map, unhide LD2]; exact sb32)
  have ZD1 := hide (sizeB (T := 23) sb32 (unhide LD1))
  have ZD2 := hide (sizeB (T := 23) sb32 (unhide LD2))
  have tla := txt_len a
  have tlb := txt_len b
  have tlc := txt_len c
  have HTX := hide (And.intro tab (And.intro tac (And.intro sab (And.intro sac (And.intro tla (And.intro tlb tlc))))))
  have HSZ := hide (And.intro ha (And.intro hb hc))
  clear hp tab tac sab sac tla tlb tlc ha hb hc
  have tokA : True := trivial
  have tokB : True := trivial
  have tokC : True := trivial
  have tokD : True := trivial
  have tokE : True := trivial
  have tokF : True := trivial
  have tokG : True := trivial
  go_enter Tryd.func6, Tryd.ntmps6
  go_wp2_with fail
  refine (unhide C0).mono ?_
  rintro e w1 ⟨rfl, h1, z1, b1⟩
  have H1 := hide (And.intro h1 (And.intro z1 b1))
  clear h1 z1 b1 C0
  go_wp2_with (first
    | (have _t := tokA; refine wpList_bytes_of rfl 9 25 5 (.tmp 15) rfl a rfl Tryd.underlying9 Tryd.underlying25 Tryd.underlying5 ?_; intro w2 k2 F2; clear tokA))
  have CW1 := hide (write_has w1 w2 (unhide F2) (unhide H1).1 ((unhide HP).later (unhide H1).2.2 hK1) hK1 (by have := (unhide HSZ).1; simp; omega))
  refine (unhide CW1).mono ?_
  rintro e w3 ⟨rfl, h3, k3⟩
  have B3 : Hid (Below w.heap.size w w3) := hide (k3.below (unhide H1).2.2 (Nat.le_refl _) (unhide H1).2.2.size)
  have H3 : Hid (Has w3 w.heap.size ks (txt a)) := hide (by simpa using h3)
  clear h3 k3 CW1 H1 F2
  have CC := hide (copy_has w3 (unhide H3))
  go_wp2_with fail
  refine (unhide CC).mono ?_
  rintro e w4 ⟨rfl, h4, z4, b4⟩
  have hg3 : w.heap.size < w3.heap.size := (unhide H3).lt
  obtain ⟨g2, hg2⟩ : ∃ g2, w3.heap.size = g2 := ⟨_, rfl⟩
  rw [hg2] at h4
  have H4 := hide h4
  have H4h := hide ((unhide H3).below b4)
  have B4 : Hid (Below w.heap.size w w4) := hide ((unhide B3).trans (b4.mono (by omega)))
  have q4 : w.heap.size < g2 := by omega
  have HG2 := hide (And.intro hg2 z4)
  rw [hg2]
  clear h4 b4 z4 CC hg2 hg3 H3 B3
  go_wp2_with (first
    | (have _t := tokB; refine wpList_bytes_of rfl 9 25 5 (.tmp 23) rfl b rfl Tryd.underlying9 Tryd.underlying25 Tryd.underlying5 ?_; intro w5 k5 F5; clear tokB))
  have CW2 := hide (write_has w4 w5 (unhide F5) (unhide H4h) ((unhide HP).later (unhide B4) hK1) hK1 (by have := (unhide HSZ).1; have := (unhide HSZ).2.1; rw [txt_len]; omega))
  refine (unhide CW2).mono ?_
  rintro e w6 ⟨rfl, h6, k6⟩
  have B6 : Hid (Below w.heap.size w w6) := hide (k6.below (unhide B4) (Nat.le_refl _) (unhide B4).size)
  have H6 := hide h6
  have H6g : Hid (Has w6 g2 ks (txt a)) := hide ((unhide H4).block (k6.other g2 (unhide H4).lt (by omega)))
  clear h6 k6 CW2 H4 H4h F5 B4
  have CS1 := hide (sum_has w6 (unhide H6) ((unhide HP).later (unhide B6) hK1) (by have := (unhide HSZ).1; have := (unhide HSZ).2.1; rw [List.length_append, txt_len, txt_len]; omega))
  rw [unhide HD1] at CS1
  go_wp2_with fail
  refine (unhide CS1).mono ?_
  rintro e w7 ⟨rfl, b7⟩
  have B7 := hide ((unhide B6).trans (b7.mono (unhide B6).size))
  have H7 := hide ((unhide H6).below b7)
  have H7g := hide ((unhide H6g).below b7)
  clear b7 CS1 H6 H6g B6
  obtain ⟨p9, hp9⟩ : ∃ p9, w7.heap.size = p9 := ⟨_, rfl⟩
  have HP9 := hide hp9
  go_wp2_with (first
    | (have _t := tokC; refine wpList_new_arr rfl 23 rfl i0 zb32 hi0 hz0 ?_; intro w8 M8; clear tokC)
    | (have _t := tokD; refine wpList_put_arr rfl 23 (.tmp 9) (.tmp 27) rfl w7.heap.size zb32 (D1.map (Value.int .u8)).toArray rfl rfl (unhide M8).at' (by simp [zb32, unhide LD1]) (unhide ZD1) (bytes_one _) ?_; intro w9 M9; clear tokD)
    | (have _t := tokE; refine wpList_bytes_of rfl 9 25 5 (.tmp 29) rfl c rfl Tryd.underlying9 Tryd.underlying25 Tryd.underlying5 ?_; intro w10 k10 F10; clear tokE))
  have b79 : Below w7.heap.size w7 w9 := (unhide M9).below _ _ (unhide M8).below (Nat.le_refl _)
  have z9 : w9.heap.size = w7.heap.size + 1 := (unhide M9).size.trans (unhide M8).size
  have B9 := hide ((unhide B7).trans (b79.mono (unhide B7).size))
  have H9 := hide ((unhide H7).below b79)
  have H9g := hide ((unhide H7g).below b79)
  have A9 : Hid (w9.heap[p9]? = some (.cells (D1.map (Value.int .u8)).toArray 23 (0, 0))) := hide (by rw [← hp9]; exact (unhide M9).at')
  have q9 : p9 < w9.heap.size := by omega
  have q9' : g2 < p9 := by have := (unhide H7g).lt; omega
  clear b79 z9 M8 M9 H7 H7g B7 hp9
  have CW3 := hide (write_has w9 w10 (unhide F10) (unhide H9g) ((unhide HP).later (unhide B9) hK1) (by omega) (by have := (unhide HSZ).1; have := (unhide HSZ).2.2; rw [txt_len]; omega))
  refine (unhide CW3).mono ?_
  rintro e w11 ⟨rfl, h11, k11⟩
  have B11 : Hid (Below w.heap.size w w11) := hide (k11.below (unhide B9) (by omega) (unhide B9).size)
  have H11g := hide h11
  have H11 : Hid (Has w11 w.heap.size ks (txt a ++ txt b)) := hide ((unhide H9).block (k11.other _ (unhide H9).lt (by omega)))
  have A11 : Hid (w11.heap[p9]? = some (.cells (D1.map (Value.int .u8)).toArray 23 (0, 0))) := hide ((k11.other p9 q9 (by omega)).trans (unhide A9))
  have q11 : p9 < w11.heap.size := Nat.lt_of_lt_of_le q9 k11.size
  clear h11 k11 CW3 H9 H9g F10 B9 A9 q9
  have CS2 := hide (sum_has w11 (unhide H11g) ((unhide HP).later (unhide B11) hK1) (by have := (unhide HSZ).1; have := (unhide HSZ).2.2; rw [List.length_append, txt_len, txt_len]; omega))
  rw [unhide HD2] at CS2
  go_wp2_with fail
  refine (unhide CS2).mono ?_
  rintro e w12 ⟨rfl, b12⟩
  have B12 := hide ((unhide B11).trans (b12.mono (unhide B11).size))
  have H12 := hide ((unhide H11).below b12)
  have H12g := hide ((unhide H11g).below b12)
  have A12 : Hid (w12.heap[p9]? = some (.cells (D1.map (Value.int .u8)).toArray 23 (0, 0))) := hide ((b12.block p9 q11).trans (unhide A11))
  have q12 : p9 < w12.heap.size := Nat.lt_of_lt_of_le q11 b12.size
  clear b12 CS2 H11 H11g B11 A11 q11
  obtain ⟨p10, hp10⟩ : ∃ p10, w12.heap.size = p10 := ⟨_, rfl⟩
  go_wp2_with (first
    | (have _t := tokF; refine wpList_new_arr rfl 23 rfl i0 zb32 hi0 hz0 ?_; intro w13 M13; clear tokF)
    | (have _t := tokG; refine wpList_put_arr rfl 23 (.tmp 10) (.tmp 33) rfl w12.heap.size zb32 (D2.map (Value.int .u8)).toArray rfl rfl (unhide M13).at' (by simp [zb32, unhide LD2]) (unhide ZD2) (bytes_one _) ?_; intro v M14; clear tokG))
  have bv : Below w12.heap.size w12 v := (unhide M14).below _ _ (unhide M13).below (Nat.le_refl _)
  have zv : v.heap.size = w12.heap.size + 1 := (unhide M14).size.trans (unhide M13).size
  have BV := hide ((unhide B12).trans (bv.mono (unhide B12).size))
  have HV := hide ((unhide H12).below bv)
  have HVg := hide ((unhide H12g).below bv)
  have R9 := hide (range_of ((bv.block p9 q12).trans (unhide A12)) (by omega))
  have R10 := hide (range_of (w := v) (g := p10) (T := 23) (D := D2) (by rw [← hp10]; exact (unhide M14).at') (by omega))
  have HPv := hide ((unhide HP).later (unhide BV) hK1)
  clear bv zv M13 M14 H12 H12g A12 B12
  have CD : ∀ (u u' : World) (cap : Nat), Hid (Fresh u u' AB cap) → Below v.heap.size v u → Hid (Calls Tryd.prog 7 #[.slice (some ⟨u.heap.size, 0, none⟩) AB.size cap] u' fun e w'' => e = .returned (.agg (D1.map (Value.int .u8)).toArray) ∧ Below u'.heap.size u' w'') := fun u u' cap F hu => hide (by
    have k := dig_has u u' u' (unhide F) (Below.refl _ _) ((unhide HPv).later hu (unhide HPv).lt) (by have := (unhide HTX).2.2.1; have := (unhide HSZ).1; have := (unhide HSZ).2.1; omega)
    rw [(unhide HTX).1, unhide HD1] at k
    exact k)
  have CE : ∀ (u u' : World) (cap : Nat), Hid (Fresh u u' AC cap) → Below v.heap.size v u → Hid (Calls Tryd.prog 7 #[.slice (some ⟨u.heap.size, 0, none⟩) AC.size cap] u' fun e w'' => e = .returned (.agg (D2.map (Value.int .u8)).toArray) ∧ Below u'.heap.size u' w'') := fun u u' cap F hu => hide (by
    have k := dig_has u u' u' (unhide F) (Below.refl _ _) ((unhide HPv).later hu (unhide HPv).lt) (by have := (unhide HTX).2.2.2.1; have := (unhide HSZ).1; have := (unhide HSZ).2.2; omega)
    rw [(unhide HTX).2.1, unhide HD2] at k
    exact k)
  have CS : ∀ u, Below v.heap.size v u → Hid (Calls Tryd.prog 14 #[.pointer (some ⟨w.heap.size, 0, none⟩)] u fun e w' => e = .returned (.agg (D1.map (Value.int .u8)).toArray) ∧ Below u.heap.size u w') := fun u hu => hide (by
    have k := sum_has u ((unhide HV).below hu) ((unhide HPv).later hu (unhide HPv).lt) (by have := (unhide HSZ).1; have := (unhide HSZ).2.1; rw [List.length_append, txt_len, txt_len]; omega)
    rw [unhide HD1] at k
    exact k)
  have CW : ∀ u, Below v.heap.size v u → Hid (Calls Tryd.prog 16 #[.pointer (some ⟨g2, 0, none⟩), .slice none 0 0] u fun e w' => e = .returned (.int .i64 (nac : Int)) ∧ Below u.heap.size u w') := fun u hu => hide (by
    have k := write_none u ((unhide HVg).below hu) ((unhide HPv).later hu (unhide HPv).lt) (by omega) (by have := (unhide HSZ).1; have := (unhide HSZ).2.2; rw [List.length_append, txt_len, txt_len]; omega)
    rw [List.length_append, txt_len, txt_len, hnac] at k
    exact k)
  have hsz := unhide HSZ
  have n1 : (a.size : Int) + (c.size : Int) = (nac : Int) := by omega
  have n2 : IntKind.i64.wrap ((a.size : Int) + (c.size : Int)) = (nac : Int) := by rw [IntKind.wrap_i64]; omega
  have n3 : IntKind.i64.wrap (nac : Int) = (nac : Int) := by rw [IntKind.wrap_i64]; omega
  have m1 : ¬ 9223372036854775807 < a.size + b.size := by omega
  have m2 : ¬ 9223372036854775807 < a.size + c.size := by omega
  clear hsz hnac HV HVg
  refine wp_region_held_drew (S := fun w' => Below v.heap.size v w') (by kernel_rfl) ((Below.refl _ _).drew) (fun hH => ?_)
  refine take_at 0 (some 34) rfl rfl (by kernel_rfl) (by kernel_rfl) (by kernel_rfl) (fun _ _ _ h => h) (yieldsIf_load_mid (by rfl) _ _ rfl p9 0 rfl (D1.map (Value.int .u8)) _ (fun w h => unhide R9 w h) Tryd.underlying23 rfl (unhide SD1)) hH ?_
  simp only [Act.put, List.setIfInBounds_toArray, List.set_cons_zero, List.set_cons_succ]
  refine take_at 1 (v := .string a) (some 35) rfl rfl (by kernel_rfl) (by kernel_rfl) (by kernel_rfl) (fun _ _ _ h => h) (yields_moveG (.tmp 0) (Or.inl rfl) rfl rfl) hH ?_
  simp only [Act.put, List.setIfInBounds_toArray, List.set_cons_zero, List.set_cons_succ]
  refine take_at 2 (v := .string b) (some 36) rfl rfl (by kernel_rfl) (by kernel_rfl) (by kernel_rfl) (fun _ _ _ h => h) (yields_moveG (.tmp 1) (Or.inl rfl) rfl rfl) hH ?_
  simp only [Act.put, List.setIfInBounds_toArray, List.set_cons_zero, List.set_cons_succ]
  refine take_at 3 (v := .string AB) (some 37) rfl rfl (by kernel_rfl) (by kernel_rfl) (by kernel_rfl) (fun _ _ _ h => h) (Or.inl ⟨by rfl, fun u hu => by go_simp⟩) hH ?_
  simp only [Act.put, List.setIfInBounds_toArray, List.set_cons_zero, List.set_cons_succ]
  refine wpAnyH_ready (rs := [4]) (by kernel_rfl) (by simp) ?_
  refine AllReadyH.cons rfl (fun KK hKK => ?_) AllReadyH.nil
  refine step_bytes_of rfl (some 38) rfl 9 25 5 (.tmp 37) rfl AB rfl Tryd.underlying9 Tryd.underlying25 Tryd.underlying5 ?_
  intro u1 c1 F1
  refine hKK.out _ _ (hH.trans ((unhide F1).below.mono hH.size)) (fun hH1 => ?_)
  clear hKK KK
  try simp only [Act.put, List.setIfInBounds_toArray, List.set_cons_zero, List.set_cons_succ]
  refine wpAnyH_ready (rs := [5]) (by kernel_rfl) (by simp) ?_
  refine AllReadyH.cons rfl (fun KK hKK => ?_) AllReadyH.nil
  go_simp
  refine (unhide (CD _ _ _ F1 hH)).mono ?_
  rintro e u2 ⟨rfl, b2⟩
  go_wp2_with fail
  refine hKK.out _ _ (hH1.trans (b2.mono hH1.size)) (fun hH2 => ?_)
  clear hKK KK
  try simp only [Act.put, List.setIfInBounds_toArray, List.set_cons_zero, List.set_cons_succ]
  refine take_at 6 (v := .bool true) (some 40) rfl rfl (by kernel_rfl) (by kernel_rfl) (by kernel_rfl) (fun _ _ _ h => h) (yields_same_arr rfl 23 23 (.tmp 34) (.tmp 39) rfl D1 32 5 rfl rfl guard32 Tryd.underlying23 Tryd.underlying5 s1b (unhide LD1)) hH2 ?_
  simp only [Act.put, List.setIfInBounds_toArray, List.set_cons_zero, List.set_cons_succ]
  refine take_at 7 (v := .bool true) (some 41) rfl rfl (by kernel_rfl) (by kernel_rfl) (by kernel_rfl) (fun _ _ _ h => h) (yields_moveG (.tmp 40) (Or.inl rfl) rfl rfl) hH2 ?_
  simp only [Act.put, List.setIfInBounds_toArray, List.set_cons_zero, List.set_cons_succ]
  refine take_at 8 (some 42) rfl rfl (by kernel_rfl) (by kernel_rfl) (by kernel_rfl) (fun _ _ _ h => h) (yieldsIf_load_mid (by rfl) _ _ rfl p10 0 rfl (D2.map (Value.int .u8)) _ (fun w h => unhide R10 w h) Tryd.underlying23 rfl (unhide SD2)) hH2 ?_
  simp only [Act.put, List.setIfInBounds_toArray, List.set_cons_zero, List.set_cons_succ]
  refine take_at 9 (v := .string a) (some 43) rfl rfl (by kernel_rfl) (by kernel_rfl) (by kernel_rfl) (fun _ _ _ h => h) (yields_moveG (.tmp 0) (Or.inl rfl) rfl rfl) hH2 ?_
  simp only [Act.put, List.setIfInBounds_toArray, List.set_cons_zero, List.set_cons_succ]
  refine take_at 10 (v := .string c) (some 44) rfl rfl (by kernel_rfl) (by kernel_rfl) (by kernel_rfl) (fun _ _ _ h => h) (yields_moveG (.tmp 2) (Or.inl rfl) rfl rfl) hH2 ?_
  simp only [Act.put, List.setIfInBounds_toArray, List.set_cons_zero, List.set_cons_succ]
  refine take_at 11 (v := .string AC) (some 45) rfl rfl (by kernel_rfl) (by kernel_rfl) (by kernel_rfl) (fun _ _ _ h => h) (Or.inl ⟨by rfl, fun u hu => by go_simp⟩) hH2 ?_
  simp only [Act.put, List.setIfInBounds_toArray, List.set_cons_zero, List.set_cons_succ]
  refine wpAnyH_ready (rs := [12]) (by kernel_rfl) (by simp) ?_
  refine AllReadyH.cons rfl (fun KK hKK => ?_) AllReadyH.nil
  refine step_bytes_of rfl (some 46) rfl 9 25 5 (.tmp 45) rfl AC rfl Tryd.underlying9 Tryd.underlying25 Tryd.underlying5 ?_
  intro u3 c3 F3
  refine hKK.out _ _ (hH2.trans ((unhide F3).below.mono hH2.size)) (fun hH3 => ?_)
  clear hKK KK
  try simp only [Act.put, List.setIfInBounds_toArray, List.set_cons_zero, List.set_cons_succ]
  refine wpAnyH_ready (rs := [13]) (by kernel_rfl) (by simp) ?_
  refine AllReadyH.cons rfl (fun KK hKK => ?_) AllReadyH.nil
  go_simp
  refine (unhide (CE _ _ _ F3 hH2)).mono ?_
  rintro e u4 ⟨rfl, b4⟩
  go_wp2_with fail
  refine hKK.out _ _ (hH3.trans (b4.mono hH3.size)) (fun hH4 => ?_)
  clear hKK KK
  try simp only [Act.put, List.setIfInBounds_toArray, List.set_cons_zero, List.set_cons_succ]
  refine take_at 14 (v := .bool true) (some 48) rfl rfl (by kernel_rfl) (by kernel_rfl) (by kernel_rfl) (fun _ _ _ h => h) (yields_same_arr rfl 23 23 (.tmp 42) (.tmp 47) rfl D2 32 5 rfl rfl guard32 Tryd.underlying23 Tryd.underlying5 s1b (unhide LD2)) hH4 ?_
  simp only [Act.put, List.setIfInBounds_toArray, List.set_cons_zero, List.set_cons_succ]
  refine take_at 15 (v := .bool true) (some 49) rfl rfl (by kernel_rfl) (by kernel_rfl) (by kernel_rfl) (fun _ _ _ h => h) (Or.inl ⟨by rfl, fun u hu => by go_simp⟩) hH4 ?_
  simp only [Act.put, List.setIfInBounds_toArray, List.set_cons_zero, List.set_cons_succ]
  refine take_at 16 (v := .bool true) (some 50) rfl rfl (by kernel_rfl) (by kernel_rfl) (by kernel_rfl) (fun _ _ _ h => h) (yields_moveG (.tmp 49) (Or.inl rfl) rfl rfl) hH4 ?_
  simp only [Act.put, List.setIfInBounds_toArray, List.set_cons_zero, List.set_cons_succ]
  refine take_at 17 (v := .pointer (some ⟨w.heap.size, 0, none⟩)) (some 51) rfl rfl (by kernel_rfl) (by kernel_rfl) (by kernel_rfl) (fun _ _ _ h => h) (yields_moveG (.tmp 7) (Or.inl rfl) rfl rfl) hH4 ?_
  simp only [Act.put, List.setIfInBounds_toArray, List.set_cons_zero, List.set_cons_succ]
  refine take_at 19 (some 53) rfl rfl (by kernel_rfl) (by kernel_rfl) (by kernel_rfl) (fun _ _ _ h => h) (yieldsIf_load_mid (by rfl) _ _ rfl p9 0 rfl (D1.map (Value.int .u8)) _ (fun w h => unhide R9 w h) Tryd.underlying23 rfl (unhide SD1)) hH4 ?_
  simp only [Act.put, List.setIfInBounds_toArray, List.set_cons_zero, List.set_cons_succ]
  refine wpAnyH_ready (rs := [18]) (by kernel_rfl) (by simp) ?_
  refine AllReadyH.cons rfl (fun KK hKK => ?_) AllReadyH.nil
  go_simp
  refine (unhide (CS _ hH4)).mono ?_
  rintro e u5 ⟨rfl, b5⟩
  go_wp2_with fail
  refine hKK.out _ _ (hH4.trans (b5.mono hH4.size)) (fun hH5 => ?_)
  clear hKK KK
  try simp only [Act.put, List.setIfInBounds_toArray, List.set_cons_zero, List.set_cons_succ]
  refine take_at 20 (v := .bool true) (some 54) rfl rfl (by kernel_rfl) (by kernel_rfl) (by kernel_rfl) (fun _ _ _ h => h) (yields_same_arr rfl 23 23 (.tmp 52) (.tmp 53) rfl D1 32 5 rfl rfl guard32 Tryd.underlying23 Tryd.underlying5 s1b (unhide LD1)) hH5 ?_
  simp only [Act.put, List.setIfInBounds_toArray, List.set_cons_zero, List.set_cons_succ]
  refine take_at 21 (v := .bool true) (some 55) rfl rfl (by kernel_rfl) (by kernel_rfl) (by kernel_rfl) (fun _ _ _ h => h) (Or.inl ⟨by rfl, fun u hu => by go_simp⟩) hH5 ?_
  simp only [Act.put, List.setIfInBounds_toArray, List.set_cons_zero, List.set_cons_succ]
  refine take_at 22 (v := .bool true) (some 56) rfl rfl (by kernel_rfl) (by kernel_rfl) (by kernel_rfl) (fun _ _ _ h => h) (yields_moveG (.tmp 55) (Or.inl rfl) rfl rfl) hH5 ?_
  simp only [Act.put, List.setIfInBounds_toArray, List.set_cons_zero, List.set_cons_succ]
  refine take_at 23 (v := .pointer (some ⟨g2, 0, none⟩)) (some 57) rfl rfl (by kernel_rfl) (by kernel_rfl) (by kernel_rfl) (fun _ _ _ h => h) (yields_moveG (.tmp 8) (Or.inl rfl) rfl rfl) hH5 ?_
  simp only [Act.put, List.setIfInBounds_toArray, List.set_cons_zero, List.set_cons_succ]
  refine take_at 25 (v := .string a) (some 59) rfl rfl (by kernel_rfl) (by kernel_rfl) (by kernel_rfl) (fun _ _ _ h => h) (yields_moveG (.tmp 0) (Or.inl rfl) rfl rfl) hH5 ?_
  simp only [Act.put, List.setIfInBounds_toArray, List.set_cons_zero, List.set_cons_succ]
  refine take_at 26 (v := .int .i64 a.size) (some 60) rfl rfl (by kernel_rfl) (by kernel_rfl) (by kernel_rfl) (fun _ _ _ h => h) (Or.inl ⟨by rfl, fun u hu => by go_simp⟩) hH5 ?_
  simp only [Act.put, List.setIfInBounds_toArray, List.set_cons_zero, List.set_cons_succ]
  refine take_at 27 (v := .string c) (some 61) rfl rfl (by kernel_rfl) (by kernel_rfl) (by kernel_rfl) (fun _ _ _ h => h) (yields_moveG (.tmp 2) (Or.inl rfl) rfl rfl) hH5 ?_
  simp only [Act.put, List.setIfInBounds_toArray, List.set_cons_zero, List.set_cons_succ]
  refine take_at 28 (v := .int .i64 c.size) (some 62) rfl rfl (by kernel_rfl) (by kernel_rfl) (by kernel_rfl) (fun _ _ _ h => h) (Or.inl ⟨by rfl, fun u hu => by go_simp⟩) hH5 ?_
  simp only [Act.put, List.setIfInBounds_toArray, List.set_cons_zero, List.set_cons_succ]
  refine take_at 29 (v := .int .i64 nac) (some 63) rfl rfl (by kernel_rfl) (by kernel_rfl) (by kernel_rfl) (fun _ _ _ h => h) (Or.inl ⟨by rfl, fun u hu => by go_simp⟩) hH5 ?_
  simp only [Act.put, List.setIfInBounds_toArray, List.set_cons_zero, List.set_cons_succ]
  refine wpAnyH_ready (rs := [24]) (by kernel_rfl) (by simp) ?_
  refine AllReadyH.cons rfl (fun KK hKK => ?_) AllReadyH.nil
  go_simp
  refine (unhide (CW _ hH5)).mono ?_
  rintro e u6 ⟨rfl, b6⟩
  go_wp2_with fail
  refine hKK.out _ _ (hH5.trans (b6.mono hH5.size)) (fun hH6 => ?_)
  clear hKK KK
  try simp only [Act.put, List.setIfInBounds_toArray, List.set_cons_zero, List.set_cons_succ]
  refine take_at 30 (v := .bool true) (some 64) rfl rfl (by kernel_rfl) (by kernel_rfl) (by kernel_rfl) (fun _ _ _ h => h) (Or.inl ⟨by rfl, fun u hu => by go_simp⟩) hH6 ?_
  simp only [Act.put, List.setIfInBounds_toArray, List.set_cons_zero, List.set_cons_succ]
  refine take_at 31 (v := .bool true) (some 65) rfl rfl (by kernel_rfl) (by kernel_rfl) (by kernel_rfl) (fun _ _ _ h => h) (Or.inl ⟨by rfl, fun u hu => by go_simp⟩) hH6 ?_
  simp only [Act.put, List.setIfInBounds_toArray, List.set_cons_zero, List.set_cons_succ]
  refine take_at 32 (v := .bool true) (some 6) rfl rfl (by kernel_rfl) (by kernel_rfl) (by kernel_rfl) (fun _ _ _ h => h) (yields_moveG (.tmp 65) (Or.inr rfl) rfl rfl) hH6 ?_
  simp only [Act.put, List.setIfInBounds_toArray, List.set_cons_zero, List.set_cons_succ]
  refine wpAnyH_done (by kernel_rfl) ?_ _
  have HE := hide hH6
  clear hH hH1 hH2 hH3 hH4 hH5 hH6 b2 b4 b5 b6
  go_wp2_with fail
  go_ret
  exact ⟨rfl, (unhide BV).trans ((unhide HE).mono (unhide BV).size)⟩
end Go.Proofs.YtbdieoknbpcbnaaDoor
