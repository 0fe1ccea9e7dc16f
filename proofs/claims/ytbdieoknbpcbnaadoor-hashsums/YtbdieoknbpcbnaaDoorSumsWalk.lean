/-
  The walk of the statement HashSums: every Sum is the document's, of messages one behind the other; what was handed in is neither changed nor kept; conditions: the package's variables, lengths that an int holds.
-/
import Derived.Test.YtbdieoknbpcbnaaDoorR2Sum
import Derived.Test.YtbdieoknbpcbnaaDoorLent2
import Derived.Test.YtbdieoknbpcbnaaDoorOver2
import Derived.Test.YtbdieoknbpcbnaaDoorForksWalk
namespace Go.Proofs.YtbdieoknbpcbnaaDoor
open Go.RowKit

theorem yields_unlike_arr {P : Program} {ops : Array Oper} {S : World → Prop} {o : Oper} {a : Act} (hw : Region.wanted o (yielded ops a.tmps) = true) (T T' : TypeId) (x y : Operand) (ho : o.op = .binOp .neq T x y T')
    (xs : List Int) (n : Nat) (e : TypeId) (hx : a.eval x = .agg (xs.map (Value.int .u8)).toArray) (hy : a.eval y = .agg (xs.map (Value.int .u8)).toArray) (hm : P.eqGuardType P.depth T = false)
    (ht : P.underlying T = some (.array n e)) (he : P.underlying e = some (.int .u8)) (hsz : (P.info? e).map (·.size) = some 1) (lx : xs.length = n) : YieldsIf P ops S o (.bool false) a := by
  have h := yields_neq_arr (P := P) (S := S) hw T T' x y ho xs xs n e hx hy hm ht he hsz lx lx
  simpa using h

/-- the document's digest of bytes made of a text -/
theorem ref_has {T : ByteArray} {cap : Nat} (u w w' : World) (F : Fresh u w T cap) (hw : Below w.heap.size w w') (hm : T.size ≤ 140737488351232) :
    Calls Tryd.prog 8 #[.slice (some ⟨u.heap.size, 0, none⟩) T.size cap] w' fun e w'' => e = .returned (.agg ((digM KS (txt T)).map (Value.int .u8)).toArray) ∧ Below w'.heap.size w' w'' := by
  refine refSum_any (some ⟨u.heap.size, 0, none⟩) T.size cap (txt T) w' ?_ (txt_bounds T) hm
  intro v hv
  refine ⟨txt_len T, (fun e => by cases e), fun ad ha j x hj => ?_⟩
  cases ha
  have hjl : j < T.size := by
    have := (List.getElem?_eq_some_iff.1 hj).1
    rw [List.length_map, txt_len] at this
    exact this
  have z1 := F.size
  have z2 := hw.size
  rw [Addr.add_mid, Nat.zero_add, hv.cell (p := ⟨u.heap.size, j, none⟩) (by show u.heap.size < w'.heap.size; omega), hw.cell (p := ⟨u.heap.size, j, none⟩) (by show u.heap.size < w.heap.size; omega), F.cells j hjl, ← hj, List.getElem?_map, List.getD_eq_getElem?_getD]
  rw [List.getElem?_eq_getElem (show j < (txt T).length by rw [txt_len]; exact hjl)]
  rfl

theorem arr8_bytes {w : World} {g : Nat} {xs ys : List Int} (h : Arr8 w g 5 (xs ++ ys)) : ∀ j, j < xs.length → w.cell? ⟨g, 0 + j, none⟩ = some (.int .u8 (xs.getD j 0)) := by
  intro j hj
  rw [Nat.zero_add]
  have h1 := h.cell j (by rw [List.length_append]; omega)
  rw [List.getD_eq_getElem?_getD, List.getElem?_append_left hj, ← List.getD_eq_getElem?_getD] at h1
  exact h1

/-- the digest of lent bytes -/
theorem dig_lent {t0 tK : TypeId} {g : Nat} {T : ByteArray} (w : World) (hp : Pkg w t0 tK KS) (hm : T.size ≤ 140737488351232) (hA : Arr8 w g 5 (txt T ++ lentL T.size)) (hg : g < w.heap.size) :
    Calls Tryd.prog 7 #[.slice (some ⟨g, 0, none⟩) T.size (T.size + 70)] w fun e w' => e = .returned (.agg ((digM KS (txt T)).map (Value.int .u8)).toArray) ∧ Below w.heap.size w w' := by
  have k := sum_any g (some ⟨g, 0, none⟩) (T.size + 70) (txt T) KS w (txt_bounds T) hp.1 hp.2.1 hp.2.2 (by rw [txt_len]; omega) (by rw [txt_len]; omega) (fun _ => ⟨0, rfl, hg, arr8_bytes hA⟩)
  rw [txt_len] at k
  exact k

theorem arr_lt {w : World} {g : Nat} {T : TypeId} {xs : List Int} (h : Arr8 w g T xs) : g < w.heap.size := (Array.getElem?_eq_some_iff.1 h).1

set_option maxRecDepth 100000 in
set_option maxHeartbeats 2000000 in
theorem sums_walk {t0 tK : TypeId} (ma : Option Addr) (L C : Nat) (ts : List ByteArray) (w : World) (hp : Pkg w t0 tK KS) (hl : ts.length = L) (hLC : L ≤ C) (hC : C ≤ 140737488351232) (hn : ma = none → L = 0)
    (hc : ∀ a, ma = some a → ∀ i t, ts[i]? = some t → w.cell? (a.add i) = some (.string t)) (hs : ∀ t ∈ ts, t.size ≤ 140737488351232) :
    Calls Tryd.prog 3 #[.slice ma L C] w fun e w' => e = .returned (.bool true) ∧ Below w.heap.size w w' := by
  obtain ⟨i0, hi0, hz0⟩ := zi32
  have hK1 := hp.lt
  have HP := hide hp
  have HTS := hide (And.intro hl (And.intro hn (And.intro hc hs)))
  obtain ⟨D0, HD0⟩ : ∃ D, Hid (digM KS [] = D) := ⟨_, rfl⟩
  have LD0 : Hid (D0.length = 32) := hide (by rw [← unhide HD0]; exact digM_len _ _)
  have C0a := hide (sum_any (t0 := t0) (tK := tK) 0 none 0 [] KS w (fun y h => by cases h) hp.1 hp.2.1 hp.2.2 (by simp) (by simp) (fun h => absurd h (by simp)))
  have C0b := fun w' => hide (refSum_any none 0 0 [] w' (fun u _ => ⟨rfl, fun _ => ⟨rfl, rfl⟩, fun ad h => by cases h⟩) (fun y h => by cases h) (by omega))
  rw [unhide HD0] at C0a C0b
  clear hp hl hn hc hs
  have tok0 : True := trivial
  go_enter Tryd.func3, Tryd.ntmps3
  go_wp2_with fail
  refine (unhide C0a).mono ?_
  rintro e w1 ⟨rfl, b1⟩
  have B1 := hide b1
  clear b1 C0a
  go_wp2_with fail
  refine (unhide (C0b _)).mono ?_
  rintro e w2 ⟨rfl, b2⟩
  have B2 : Hid (Below w.heap.size w w2) := hide ((unhide B1).trans (b2.mono (unhide B1).size))
  clear b2 C0b B1
  go_wp2_with (first
    | (have _t := tok0; refine wpList_neq_arr rfl 23 23 (.tmp 7) (.tmp 8) rfl D0 D0 32 5 rfl rfl guard32 Tryd.underlying23 Tryd.underlying5 s1b (unhide LD0) (unhide LD0) ?_; clear tok0; rw [show (!decide (D0 = D0)) = false by simp]))
  go_loopw [3] (fun x wr => ∃ i : Nat, i ≤ L ∧ x = .int .i64 i ∧ Hid (Below w.heap.size w wr)) (fun x _ => L - (intOf x).toNat)
  case atStart => exact ⟨0, by omega, rfl, B2⟩
  case round =>
    clear B2 HD0 LD0
    obtain ⟨i, hi, rfl, HB⟩ := hrel
    by_cases hlt : i < L
    · obtain ⟨t, ht⟩ : ∃ t, ts[i]? = some t := ⟨_, List.getElem?_eq_getElem (by have := (unhide HTS).1; omega)⟩
      obtain ⟨a, rfl⟩ : ∃ a, ma = some a := by
        cases ma with
        | none => have := (unhide HTS).2.1 rfl; omega
        | some a => exact ⟨a, rfl⟩
      have hcell := (unhide HTS).2.2.1 a rfl i t ht
      have hlb : (a.add i).block < w.heap.size := World.block_lt_of_cell? _ _ (by rw [hcell])
      have hts := (unhide HTS).2.2.2 t (List.mem_of_getElem? ht)
      have CA : Hid (∀ u, Below w.heap.size w u → u.cell? (a.add i) = some (.string t)) := hide (fun u hu => (hu.cell hlb).trans hcell)
      have c0 := unhide CA wr (unhide HB)
      obtain ⟨n, hn⟩ : ∃ n, t.size = n := ⟨_, rfl⟩
      obtain ⟨D, HD⟩ : ∃ D, Hid (digM KS (txt t) = D) := ⟨_, rfl⟩
      have LD : Hid (D.length = 32) := hide (by rw [← unhide HD]; exact digM_len _ _)
      have SD : Hid ((Tryd.prog.info? 23).map (·.size) = some (D.map (Value.int .u8)).length) := hide (by rw [List.length_map, unhide LD]; exact sb32)
      have ZD := hide (sizeB (T := 23) sb32 (unhide LD))
      have i1 : (i : Int) < (L : Int) := by omega
      have i2 : (0 : Int) ≤ (i : Int) := by omega
      have HN := hide (And.intro hn hts)
      have CL1 := hide (lent_any t wr hts)
      obtain ⟨G1, hG1⟩ : ∃ G1, wr.heap.size = G1 := ⟨_, rfl⟩
      rw [hn, hG1] at CL1
      have hgw : w.heap.size ≤ G1 := by have := (unhide HB).size; omega
      clear ht hcell
      rw [hn] at hts
      clear hn
      have tokA : True := trivial
      have tokB : True := trivial
      go_wp2_with fail
      refine (unhide CL1).mono ?_
      rintro e v1 ⟨rfl, a1, b1⟩
      have A1 := hide a1
      have V1 : Hid (Below w.heap.size w v1) := hide ((unhide HB).trans (b1.mono hgw))
      have g1 := arr_lt a1
      clear a1 b1 CL1 c0
      have CS1 := hide (dig_lent (T := t) v1 ((unhide HP).later (unhide V1) hK1) (unhide HN).2 (by rw [(unhide HN).1]; exact unhide A1) g1)
      rw [unhide HD, (unhide HN).1] at CS1
      go_wp2_with fail
      refine (unhide CS1).mono ?_
      rintro e v2 ⟨rfl, b2⟩
      have A2 : Hid (Arr8 v2 G1 5 (txt t ++ lentL n)) := hide ((b2.block G1 g1).trans (unhide A1))
      have V2 : Hid (Below w.heap.size w v2) := hide ((unhide V1).trans (b2.mono (unhide V1).size))
      have g2 : G1 < v2.heap.size := Nat.lt_of_lt_of_le g1 b2.size
      clear b2 CS1 A1 V1 g1
      obtain ⟨p6, hp6⟩ : ∃ p6, v2.heap.size = p6 := ⟨_, rfl⟩
      go_upto_region 8 with (first
        | (have _t := tokA; refine wpList_new_arr rfl 23 rfl i0 zb32 hi0 hz0 ?_; intro v22 M2; clear tokA; rw [hp6])
        | (have _t := tokB; refine wpList_put_arr rfl 23 (.tmp 6) (.tmp 25) rfl p6 zb32 (D.map (Value.int .u8)).toArray rfl rfl (by rw [← hp6]; exact (unhide M2).at') (by simp [zb32, unhide LD]) (unhide ZD) (bytes_one _) ?_; intro v3 M3; clear tokB))
      have b23 : Below v2.heap.size v2 v3 := (unhide M3).below _ _ (unhide M2).below (by omega)
      have z3 : v3.heap.size = p6 + 1 := by rw [(unhide M3).size, (unhide M2).size, hp6]
      have V3 : Hid (Below w.heap.size w v3) := hide ((unhide V2).trans (b23.mono (unhide V2).size))
      have A3 : Hid (Arr8 v3 G1 5 (txt t ++ lentL n)) := hide ((b23.block G1 g2).trans (unhide A2))
      have E3 : Hid (v3.heap[p6]? = some (.cells (D.map (Value.int .u8)).toArray 23 (0, 0))) := hide (unhide M3).at'
      have R6 := hide (range_of (unhide E3) (by omega))
      have gp : G1 < p6 := by omega
      clear b23 M2 M3 A2 V2 g2 hp6
      have CT : Hid (∀ u, Below v3.heap.size v3 u → u.cell? (a.add i) = some (.string t)) := hide (fun u hu => unhide CA u ((unhide V3).trans (hu.mono (unhide V3).size)))
      have CR : ∀ u w' cap, Hid (Fresh u w' t cap) → Hid (Calls Tryd.prog 8 #[.slice (some ⟨u.heap.size, 0, none⟩) t.size cap] w' fun e w'' => e = .returned (.agg (D.map (Value.int .u8)).toArray) ∧ Below w'.heap.size w' w'') := fun u w' cap F => hide (by
        have k := ref_has u w' w' (unhide F) (Below.refl _ _) (unhide HN).2
        rw [unhide HD] at k
        exact k)
      have CK : ∀ u, Below v3.heap.size v3 u → Hid (Calls Tryd.prog 10 #[.slice (some ⟨G1, 0, none⟩) (n + 70) (n + 70), .string t] u fun e w' => e = .returned (.bool true) ∧ w' = u) := fun u hu => hide (by
        have k := still_any G1 t u (unhide HN).2 (by rw [(unhide HN).1]; exact (hu.block G1 (by omega)).trans (unhide A3))
        rw [(unhide HN).1] at k
        exact k)
      have Z3 := hide z3
      clear z3
      refine wp_region_held_drew (S := fun w' => Below v3.heap.size v3 w') (by kernel_rfl) ((Below.refl _ _).drew) (fun hH => ?_)
      refine take_at 0 (some 26) rfl rfl (by kernel_rfl) (by kernel_rfl) (by kernel_rfl) (fun _ _ _ h => h) (yieldsIf_load_mid (by rfl) _ _ rfl p6 0 rfl (D.map (Value.int .u8)) _ (fun w h => unhide R6 w h) Tryd.underlying23 rfl (unhide SD)) hH ?_
      simp only [Act.put, List.setIfInBounds_toArray, List.set_cons_zero, List.set_cons_succ]
      refine take_at 1 (v := .slice (some a) L C) (some 27) rfl rfl (by kernel_rfl) (by kernel_rfl) (by kernel_rfl) (fun _ _ _ h => h) (yields_moveG (.tmp 0) (Or.inl rfl) rfl rfl) hH ?_
      simp only [Act.put, List.setIfInBounds_toArray, List.set_cons_zero, List.set_cons_succ]
      refine take_at 2 (v := .int .i64 (i : Int)) (some 28) rfl rfl (by kernel_rfl) (by kernel_rfl) (by kernel_rfl) (fun _ _ _ h => h) (yields_moveG (.tmp 3) (Or.inl rfl) rfl rfl) hH ?_
      simp only [Act.put, List.setIfInBounds_toArray, List.set_cons_zero, List.set_cons_succ]
      refine take_at 3 (v := .pointer (some (a.add i))) (some 29) rfl rfl (by kernel_rfl) (by kernel_rfl) (by kernel_rfl) (fun _ _ _ h => h) (Or.inl ⟨by rfl, fun u hu => by go_simp⟩) hH ?_
      simp only [Act.put, List.setIfInBounds_toArray, List.set_cons_zero, List.set_cons_succ]
      refine take_at 4 (v := .string t) (some 30) rfl rfl (by kernel_rfl) (by kernel_rfl) (by kernel_rfl) (fun _ _ _ h => h) (Or.inl ⟨by rfl, fun u hu => by have cu := unhide CT u hu; go_simp⟩) hH ?_
      simp only [Act.put, List.setIfInBounds_toArray, List.set_cons_zero, List.set_cons_succ]
      refine wpAnyH_ready (rs := [5]) (by kernel_rfl) (by simp) ?_
      refine AllReadyH.cons rfl (fun KK hKK => ?_) AllReadyH.nil
      refine step_bytes_of rfl (some 31) rfl 9 25 5 (.tmp 30) rfl t rfl Tryd.underlying9 Tryd.underlying25 Tryd.underlying5 ?_
      intro y1 c1 F1
      refine hKK.out _ _ (hH.trans ((unhide F1).below.mono hH.size)) (fun hH1 => ?_)
      clear hKK KK
      try simp only [Act.put, List.setIfInBounds_toArray, List.set_cons_zero, List.set_cons_succ]
      refine wpAnyH_ready (rs := [6]) (by kernel_rfl) (by simp) ?_
      refine AllReadyH.cons rfl (fun KK hKK => ?_) AllReadyH.nil
      go_simp
      refine (unhide (CR _ _ _ F1)).mono ?_
      rintro e y2 ⟨rfl, b2⟩
      go_wp2_with fail
      refine hKK.out _ _ (hH1.trans (b2.mono hH1.size)) (fun hH2 => ?_)
      clear hKK KK
      try simp only [Act.put, List.setIfInBounds_toArray, List.set_cons_zero, List.set_cons_succ]
      refine take_at 7 (v := .bool false) (some 33) rfl rfl (by kernel_rfl) (by kernel_rfl) (by kernel_rfl) (fun _ _ _ h => h) (yields_unlike_arr rfl 23 23 (.tmp 26) (.tmp 32) rfl D 32 5 rfl rfl guard32 Tryd.underlying23 Tryd.underlying5 s1b (unhide LD)) hH2 ?_
      simp only [Act.put, List.setIfInBounds_toArray, List.set_cons_zero, List.set_cons_succ]
      refine take_at 8 (v := .bool false) (some 34) rfl rfl (by kernel_rfl) (by kernel_rfl) (by kernel_rfl) (fun _ _ _ h => h) (yields_moveG (.tmp 33) (Or.inl rfl) rfl rfl) hH2 ?_
      simp only [Act.put, List.setIfInBounds_toArray, List.set_cons_zero, List.set_cons_succ]
      refine take_at 9 (v := .slice (some ⟨G1, 0, none⟩) (n + 70) (n + 70)) (some 35) rfl rfl (by kernel_rfl) (by kernel_rfl) (by kernel_rfl) (fun _ _ _ h => h) (yields_moveG (.tmp 5) (Or.inl rfl) rfl rfl) hH2 ?_
      simp only [Act.put, List.setIfInBounds_toArray, List.set_cons_zero, List.set_cons_succ]
      refine take_at 10 (v := .slice (some a) L C) (some 36) rfl rfl (by kernel_rfl) (by kernel_rfl) (by kernel_rfl) (fun _ _ _ h => h) (yields_moveG (.tmp 0) (Or.inl rfl) rfl rfl) hH2 ?_
      simp only [Act.put, List.setIfInBounds_toArray, List.set_cons_zero, List.set_cons_succ]
      refine take_at 11 (v := .int .i64 (i : Int)) (some 37) rfl rfl (by kernel_rfl) (by kernel_rfl) (by kernel_rfl) (fun _ _ _ h => h) (yields_moveG (.tmp 3) (Or.inl rfl) rfl rfl) hH2 ?_
      simp only [Act.put, List.setIfInBounds_toArray, List.set_cons_zero, List.set_cons_succ]
      refine take_at 12 (v := .pointer (some (a.add i))) (some 38) rfl rfl (by kernel_rfl) (by kernel_rfl) (by kernel_rfl) (fun _ _ _ h => h) (Or.inl ⟨by rfl, fun u hu => by go_simp⟩) hH2 ?_
      simp only [Act.put, List.setIfInBounds_toArray, List.set_cons_zero, List.set_cons_succ]
      refine take_at 13 (v := .string t) (some 39) rfl rfl (by kernel_rfl) (by kernel_rfl) (by kernel_rfl) (fun _ _ _ h => h) (Or.inl ⟨by rfl, fun u hu => by have cu := unhide CT u hu; go_simp⟩) hH2 ?_
      simp only [Act.put, List.setIfInBounds_toArray, List.set_cons_zero, List.set_cons_succ]
      refine wpAnyH_ready (rs := [14]) (by kernel_rfl) (by simp) ?_
      refine AllReadyH.cons rfl (fun KK hKK => ?_) AllReadyH.nil
      go_simp
      refine (unhide (CK _ hH2)).mono ?_
      rintro e y3 ⟨rfl, rfl⟩
      go_wp2_with fail
      refine hKK.out _ _ hH2 (fun hH3 => ?_)
      clear hKK KK
      try simp only [Act.put, List.setIfInBounds_toArray, List.set_cons_zero, List.set_cons_succ]
      refine take_at 15 (v := .bool false) (some 41) rfl rfl (by kernel_rfl) (by kernel_rfl) (by kernel_rfl) (fun _ _ _ h => h) (Or.inl ⟨by rfl, fun u hu => by go_simp⟩) hH3 ?_
      simp only [Act.put, List.setIfInBounds_toArray, List.set_cons_zero, List.set_cons_succ]
      refine take_at 16 (v := .bool false) (some 42) rfl rfl (by kernel_rfl) (by kernel_rfl) (by kernel_rfl) (fun _ _ _ h => h) (Or.inl ⟨by rfl, fun u hu => by go_simp⟩) hH3 ?_
      simp only [Act.put, List.setIfInBounds_toArray, List.set_cons_zero, List.set_cons_succ]
      refine wpAnyH_done (by kernel_rfl) ?_ _
      have z3 := unhide Z3
      have HE := hide hH3
      clear hH hH1 hH2 hH3 b2
      try simp only [Act.put]
      have V4 : Hid (Below w.heap.size w y3) := hide ((unhide V3).trans ((unhide HE).mono (unhide V3).size))
      have A4 : Hid (Arr8 y3 G1 5 (txt t ++ lentL n)) := hide (((unhide HE).block G1 (by omega)).trans (unhide A3))
      have E4 : Hid (y3.heap[p6]? = some (.cells (D.map (Value.int .u8)).toArray 23 (0, 0))) := hide (((unhide HE).block p6 (by omega)).trans (unhide E3))
      have g4 : p6 < y3.heap.size := by have := (unhide HE).size; omega
      have CO := hide (over_any G1 (n + 70) (n + 70) 5 ((txt t ++ lentL n).map (Value.int .u8)) y3 (unhide A4) (by rw [List.length_map, List.length_append, txt_len, (unhide HN).1, lentL_len]; exact Nat.le_refl _) (by omega))
      clear HE V3 A3 E3 R6 CT CR CK z3 Z3 F1
      go_wp2_with fail
      refine (unhide CO).mono ?_
      rintro e v4 ⟨rfl, k4⟩
      have V5 : Hid (Below w.heap.size w v4) := hide (k4.below (unhide V4) hgw (unhide V4).size)
      have E5 : Hid (v4.heap[p6]? = some (.cells (D.map (Value.int .u8)).toArray 23 (0, 0))) := hide ((k4.other p6 g4 (by omega)).trans (unhide E4))
      have g5 : p6 < v4.heap.size := Nat.lt_of_lt_of_le g4 k4.size
      clear k4 CO V4 A4 E4 g4
      have c5 := unhide CA v4 (unhide V5)
      have CL2 := hide (lent_any t v4 (unhide HN).2)
      obtain ⟨G2, hG2⟩ : ∃ G2, v4.heap.size = G2 := ⟨_, rfl⟩
      rw [(unhide HN).1, hG2] at CL2
      go_wp2_with fail
      refine (unhide CL2).mono ?_
      rintro e v5 ⟨rfl, a5, b5⟩
      have A5 := hide a5
      have V6 : Hid (Below w.heap.size w v5) := hide ((unhide V5).trans (b5.mono (by have := (unhide V5).size; omega)))
      have g6 : G2 < v5.heap.size := arr_lt a5
      have E6 : Hid (v5.heap[p6]? = some (.cells (D.map (Value.int .u8)).toArray 23 (0, 0))) := hide ((b5.block p6 (by omega)).trans (unhide E5))
      clear a5 b5 CL2 c5 E5 V5
      have Q6 := hide (range_of (unhide E6) (by omega))
      have CZ : ∀ u, Below v5.heap.size v5 u → Hid (Calls Tryd.prog 7 #[.slice (some ⟨G2, 0, none⟩) n (n + 70)] u fun e w' => e = .returned (.agg (D.map (Value.int .u8)).toArray) ∧ Below u.heap.size u w') := fun u hu => hide (by
        have k := dig_lent (T := t) u (((unhide HP).later (unhide V6) hK1).later hu (by have := (unhide V6).size; omega)) (unhide HN).2 (by rw [(unhide HN).1]; exact (hu.block G2 g6).trans (unhide A5)) (Nat.lt_of_lt_of_le g6 hu.size)
        rw [unhide HD, (unhide HN).1] at k
        exact k)
      go_upto_region 12 with fail
      refine wp_region_held_drew (S := fun w' => Below v5.heap.size v5 w') (by kernel_rfl) ((Below.refl _ _).drew) (fun hJ => ?_)
      refine take_at 0 (v := .slice (some ⟨G2, 0, none⟩) n (n + 70)) (some 53) rfl rfl (by kernel_rfl) (by kernel_rfl) (by kernel_rfl) (fun _ _ _ h => h) (yields_moveG (.tmp 4) (Or.inl rfl) rfl rfl) hJ ?_
      simp only [Act.put, List.setIfInBounds_toArray, List.set_cons_zero, List.set_cons_succ]
      refine take_at 2 (some 55) rfl rfl (by kernel_rfl) (by kernel_rfl) (by kernel_rfl) (fun _ _ _ h => h) (yieldsIf_load_mid (by rfl) _ _ rfl p6 0 rfl (D.map (Value.int .u8)) _ (fun w h => unhide Q6 w h) Tryd.underlying23 rfl (unhide SD)) hJ ?_
      simp only [Act.put, List.setIfInBounds_toArray, List.set_cons_zero, List.set_cons_succ]
      refine wpAnyH_ready (rs := [1]) (by kernel_rfl) (by simp) ?_
      refine AllReadyH.cons rfl (fun KK hKK => ?_) AllReadyH.nil
      go_simp
      refine (unhide (CZ _ hJ)).mono ?_
      rintro e y7 ⟨rfl, b7⟩
      go_wp2_with fail
      refine hKK.out _ _ (hJ.trans (b7.mono hJ.size)) (fun hJ2 => ?_)
      clear hKK KK
      try simp only [Act.put, List.setIfInBounds_toArray, List.set_cons_zero, List.set_cons_succ]
      refine take_at 3 (v := .bool false) (some 56) rfl rfl (by kernel_rfl) (by kernel_rfl) (by kernel_rfl) (fun _ _ _ h => h) (yields_unlike_arr rfl 23 23 (.tmp 54) (.tmp 55) rfl D 32 5 rfl rfl guard32 Tryd.underlying23 Tryd.underlying5 s1b (unhide LD)) hJ2 ?_
      simp only [Act.put, List.setIfInBounds_toArray, List.set_cons_zero, List.set_cons_succ]
      refine wpAnyH_done (by kernel_rfl) ?_ _
      have HE := hide hJ2
      clear hJ hJ2 b7
      try simp only [Act.put]
      have V7 : Hid (Below w.heap.size w y7) := hide ((unhide V6).trans ((unhide HE).mono (unhide V6).size))
      clear HE V6 A5 E6 Q6 CZ
      go_wp2_with fail
      go_roundw
      case rel => exact ⟨i + 1, by omega, by go_num, V7⟩
      case measure => simp [intOf]; omega
    · go_wp2_with fail
      go_ret
      exact ⟨rfl, unhide HB⟩
end Go.Proofs.YtbdieoknbpcbnaaDoor
