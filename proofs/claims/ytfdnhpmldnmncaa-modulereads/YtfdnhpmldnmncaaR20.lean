/-
  The walk of record; conditions: the weight so far is at most 2048, the form's own reach.
-/
import Derived.Test.YtfdnhpmldnmncaaR19
namespace Go.Proofs.Ytfdnhpmldnmncaa
open Go.RowKit

set_option maxRecDepth 100000 in
set_option maxHeartbeats 1000000 in
theorem record_any (zs : List Int) (d : Nat) (ih : ValAt zs d) (gr : Nat) (ao : Option Addr) (len cap q a t : Nat) (w : World) (h : Rdr w gr (.slice ao len cap) a t) (hS : Src w gr ao len cap zs) (ht : t ≤ 2048) (hd : d + 1 ≤ 8) :
    Calls Try.prog 87 #[.pointer (some ⟨gr, 0, none⟩), .int .i64 q, .int .i64 (8 - ((d + 1 : Nat) : Int))] w fun e w' => Res gr (.slice ao len cap) w (rdPairs zs (rdV zs d) q a t) e w' := by
  obtain ⟨g, hg⟩ : ∃ g, w.heap.size = g := ⟨_, rfl⟩
  have hrg : gr < g := by have := h.lt; omega
  obtain ⟨wi, hwi⟩ : ∃ wi : Int, 8 - ((d + 1 : Nat) : Int) = wi := ⟨_, rfl⟩
  have hw : IntKind.i64.wrap (wi + 1) = 8 - (d : Int) := by rw [IntKind.wrap_i64]; omega
  rw [hwi]
  have ST := ar_start w #[.int .i64 0, .int .i64 0, .string ⟨#[]⟩, .slice none 0 0, .slice none 0 0] 5 [] [] gr g hg hrg
  have hB2 : Below w.heap.size w ((w.alloc (.cells #[.int .i64 0, .int .i64 0, .string ⟨#[]⟩, .slice none 0 0, .slice none 0 0] 51)).alloc (.cells #[.int .i64 5, .int .i64 0, .string ⟨#[]⟩, .slice none 0 0, .slice none 0 0] 51)) := ((Below.refl _ _).alloc (Nat.le_refl _) _).alloc (by simp) _
  have CC := hide (count_res zs q a t 2 gr ao len cap ((w.alloc (.cells #[.int .i64 0, .int .i64 0, .string ⟨#[]⟩, .slice none 0 0, .slice none 0 0] 51)).alloc (.cells #[.int .i64 5, .int .i64 0, .string ⟨#[]⟩, .slice none 0 0, .slice none 0 0] 51)) ((hB2.block gr h.lt).trans h) (hS.later (Beside.of_below hB2)) ht (by omega))
  rw [show ((2 : Nat) : Int) = 2 from rfl] at CC
  have hm := hS.cap
  have hle := hS.row.le
  have hlen := hS.row.length
  have hsm := hS.row.small
  have HS : Hid (∀ u, Beside gr w u → Src u gr ao len cap zs) := hide (fun u hu => hS.later hu)
  have HST := hide ST
  clear ST hB2 h hS
  cases hc : rdCnt zs q a t 2 with
  | error p =>
    have hA : rdPairs zs (rdV zs d) q a t = .error p := by simp only [rdPairs, hc]
    rw [hc] at CC
    rw [hA]
    clear hA hc hsm hlen
    go_enter Try.func87, Try.ntmps87
    go_wp2_with fail
    refine (unhide CC).mono ?_
    rintro e u ⟨rfl, b1⟩
    unfold fault
    go_wp2_with fail
    exact ⟨rfl, rfl, (unhide HST).1.beside.trans b1⟩
  | ok p =>
    obtain ⟨n, a1⟩ := p
    obtain ⟨k1, k2, k3, _, _, _⟩ := cnt_form hsm (by omega) ht hc
    have hn48 : n ≤ 2048 := by omega
    have HA : Hid ((∀ ep, rdRec zs (rdV zs d) n [] [] a1 t = .error ep → rdPairs zs (rdV zs d) q a t = .error ep) ∧ ∀ l ks a' t', rdRec zs (rdV zs d) n [] [] a1 t = .ok (l, ks, a', t') → rdPairs zs (rdV zs d) q a t = .ok (.mk 5 0 ⟨#[]⟩ l ks, a', t')) := hide ⟨fun r hr => by simp only [rdPairs, hc, hr], fun l ks a' t' hr => by simp only [rdPairs, hc, hr]⟩
    have HB1 : Hid (a1 ≤ len) := hide (by omega)
    have HSM := hide (And.intro hsm hlen)
    rw [hc] at CC
    clear hc k1 k2 k3 hsm hlen
    go_enter Try.func87, Try.ntmps87
    go_wp2_with fail
    refine (unhide CC).mono ?_
    rintro e u ⟨rfl, r1, b1⟩
    have HD0 := hide ((unhide HST).1.later b1)
    have HM0 := hide ((unhide HST).2.beside b1 (by omega) (by omega))
    have HR0 := hide r1
    clear b1 r1 HST CC
    go_wp2_with fail
    go_loopw [12] (fun x wr => ∃ (i : Nat) (l : List Vl) (ks : List ByteArray) (p t' : Nat) (Lv Kv : Value) (V : Nat → List Value), i ≤ n ∧ x = .int .i64 i ∧ Hid (Ar w wr gr g #[.int .i64 0, .int .i64 0, .string ⟨#[]⟩, .slice none 0 0, .slice none 0 0]) ∧ Hid (Mid wr (g + 2) (g + 1) 5 0 ⟨#[]⟩ l ks Lv Kv i i V) ∧ Hid (Rdr wr gr (.slice ao len cap) p t') ∧ Hid ((l.length = i ∧ ks.length = i ∧ ∀ x ∈ ks, x.size ≤ 32) ∧ p ≤ len ∧ t' ≤ 2048 ∧ rdRec zs (rdV zs d) (n - i) l ks p t' = rdRec zs (rdV zs d) n [] [] a1 t)) (fun x _ => n - (intOf x).toNat)
    case atStart => exact ⟨0, [], [], a1, t, _, _, _, Nat.zero_le _, rfl, HD0, HM0, HR0, hide ⟨⟨rfl, rfl, by simp⟩, unhide HB1, ht, rfl⟩⟩
    case round =>
      clear HD0 HM0 HR0
      obtain ⟨i, l, ks, p, t', Lv, Kv, V, hi, rfl, HDr, HMr, HRr, HEr⟩ := hrel
      obtain ⟨d0, d1, d2, d3, d4⟩ := row_cell (unhide HMr).box
      by_cases hlt : i < n
      · have i1 : (i : Int) < (n : Int) := by omega
        have i0 : (0 : Int) ≤ (i : Int) := by omega
        obtain ⟨is, his, hz0, hz1, hz2⟩ := info_parts infoSs
        have HIs := hide (And.intro his (And.intro hz0 (And.intro hz1 hz2)))
        clear his hz0 hz1 hz2
        have f4 : wr.frozen? ⟨g + 1, 4, none⟩ = false := frozen_of_row wr (g + 1) 4 _ _ (unhide HMr).box
        have hKb : ∀ z, Kv.ownBlock = some z → g + 2 ≤ z ∧ z < wr.heap.size := (unhide HMr).ownK.lt
        have HKb := hide hKb
        clear hKb
        have CK := hide (key_res zs ks Kv (g + 2) p t' gr ao len cap wr.drew (unhide HRr) ((unhide HS wr (unhide HDr).beside).later ((Beside.refl _ _).drew 1)) (unhide HEr).2.2.1 (by
          have hl := (unhide HEr).1.2.1
          have ho := (unhide HMr).ownK
          rw [List.take_of_length_le (by omega)] at ho
          rw [hl]
          exact ho))
        go_upto_region 4 with fail
        refine till_begin (S := fun w' => w'.cell? ⟨g + 1, 4, none⟩ = some Kv) 9 (by kernel_rfl) ?_
        refine till_take 0 (v := .pointer (some ⟨g + 1, 4, none⟩)) (some 14) rfl rfl rfl (by kernel_rfl) (by kernel_rfl) (by kernel_rfl) (by kernel_rfl) (fun _ _ _ h => h) (Or.inl ⟨by rfl, fun u s0 => by go_simp⟩) d4 ?_
        try simp only [Act.put, List.setIfInBounds_toArray, List.set_cons_zero, List.set_cons_succ]
        refine till_take 1 (v := Kv) (some 15) rfl rfl rfl (by kernel_rfl) (by kernel_rfl) (by kernel_rfl) (by kernel_rfl) (fun _ _ _ h => h) (Or.inl ⟨by rfl, fun u s0 => by go_simp⟩) d4 ?_
        try simp only [Act.put, List.setIfInBounds_toArray, List.set_cons_zero, List.set_cons_succ]
        refine till_take 2 (v := .pointer (some ⟨gr, 0, none⟩)) (some 16) rfl rfl rfl (by kernel_rfl) (by kernel_rfl) (by kernel_rfl) (by kernel_rfl) (fun _ _ _ h => h) (Or.inl ⟨by rfl, fun u s0 => by go_simp⟩) d4 ?_
        try simp only [Act.put, List.setIfInBounds_toArray, List.set_cons_zero, List.set_cons_succ]
        refine till_take 3 (v := .pointer (some ⟨g + 1, 4, none⟩)) (some 17) rfl rfl rfl (by kernel_rfl) (by kernel_rfl) (by kernel_rfl) (by kernel_rfl) (fun _ _ _ h => h) (Or.inl ⟨by rfl, fun u s0 => by go_simp⟩) d4 ?_
        try simp only [Act.put, List.setIfInBounds_toArray, List.set_cons_zero, List.set_cons_succ]
        refine till_take 4 (v := Kv) (some 18) rfl rfl rfl (by kernel_rfl) (by kernel_rfl) (by kernel_rfl) (by kernel_rfl) (fun _ _ _ h => h) (Or.inl ⟨by rfl, fun u s0 => by go_simp⟩) d4 ?_
        try simp only [Act.put, List.setIfInBounds_toArray, List.set_cons_zero, List.set_cons_succ]
        refine till_one 5 (by kernel_rfl) rfl (fun K hK => ?_)
        go_simp
        cases hkk : rdKey zs ks.getLast? p t' with
        | error ep =>
          have hA2 : rdPairs zs (rdV zs d) q a t = .error ep := by
            have e1 := (unhide HEr).2.2.2
            rw [show n - i = (n - (i + 1)) + 1 by omega] at e1
            simp only [rdRec, hkk] at e1
            exact (unhide HA).1 _ e1.symm
          rw [hkk] at CK
          have HA2 := hide hA2
          clear hkk hA2
          refine (unhide CK).mono ?_
          rintro e w5 ⟨rfl, b5⟩
          unfold fault
          go_wp2_with fail
          refine ⟨rfl, ?_⟩
          show Res _ _ _ _ _ _
          rw [unhide HA2]
          exact ⟨rfl, (unhide HDr).beside.trans b5.at_drew⟩
        | ok kp =>
          obtain ⟨key, pk, tk⟩ := kp
          obtain ⟨q1, q2, q3, q4, q5, q6, q7, q8⟩ := key_form (unhide HSM).1 hkk
          have hsz := (unhide HSM).2
          have HEk : Hid ((l.length = i ∧ (ks ++ [key]).length = i + 1 ∧ ∀ x ∈ ks ++ [key], x.size ≤ 32) ∧ pk ≤ len ∧ tk ≤ 2048 ∧ (∀ (y : Vl) (p' t'' : Nat), rdV zs d pk tk = .ok (y, p', t'') → rdRec zs (rdV zs d) (n - (i + 1)) (l ++ [y]) (ks ++ [key]) p' t'' = rdRec zs (rdV zs d) n [] [] a1 t) ∧ (∀ ep, rdV zs d pk tk = .error ep → rdRec zs (rdV zs d) n [] [] a1 t = .error ep)) := hide (by
            obtain ⟨⟨y1, y2, y3⟩, _, _, e1⟩ := unhide HEr
            refine ⟨⟨y1, by simp [y2], fun x hx => ?_⟩, by omega, q4, fun y p' t'' hv => ?_, fun ep hv => ?_⟩
            · rcases List.mem_append.1 hx with hx | hx
              · exact y3 x hx
              · rw [List.mem_singleton.1 hx]; exact q5
            · rw [show n - i = (n - (i + 1)) + 1 by omega] at e1
              simp only [rdRec, hkk, hv] at e1
              exact e1
            · rw [show n - i = (n - (i + 1)) + 1 by omega] at e1
              simp only [rdRec, hkk, hv] at e1
              exact e1.symm)
          rw [hkk] at CK
          clear hkk q1 q2 q3 q4 q5 q6 q7 q8 hsz
          refine (unhide CK).mono ?_
          rintro e w5 ⟨rfl, r5, b5⟩
          have b6 := b5.at_drew
          have hz5 := b6.size
          have hrg1 : g + 1 ≠ gr := by omega
          have d5 : w5.cell? ⟨g + 1, 4, none⟩ = some Kv := b6.cell hrg1 d4
          have M5 := (unhide HMr).beside b6 (by omega) (by omega)
          have H5 := hide (And.intro r5 (And.intro b6 M5))
          clear b5 b6 CK r5 M5
          go_wp2_with fail
          refine hK.out _ _ (Or.inr d5) ?_
          clear hK K d0 d1 d2 d3 d4 f4
          try simp only [Act.put, List.setIfInBounds_toArray, List.set_cons_zero, List.set_cons_succ]
          refine till_one 6 (by kernel_rfl) rfl (fun K hK => ?_)
          go_simp
          obtain ⟨w6, hw6⟩ : ∃ w6, w5.alloc (.cells #[.string key] 9) = w6 := ⟨_, rfl⟩
          have X6 : Below w5.heap.size w5 w6 := by rw [← hw6]; exact (Below.refl _ _).alloc (Nat.le_refl _) _
          have at6 : w6.heap[w5.heap.size]? = some (.cells #[.string key] 9 (0, 0)) := by rw [← hw6]; exact heap_alloc_new w5 _
          have sz6 : w6.heap.size = w5.heap.size + 1 := by rw [← hw6]; simp
          rw [hw6]
          have d6 : w6.cell? ⟨g + 1, 4, none⟩ = some Kv := (Beside.of_below (gr := gr) X6).cell hrg1 d5
          have HM6 := hide ((unhide H5).2.2.later X6)
          have H6 := hide (And.intro X6 (And.intro at6 sz6))
          obtain ⟨h5s, hh5s⟩ : ∃ h5s, w5.heap.size = h5s := ⟨_, rfl⟩
          rw [hh5s] at at6 sz6 ⊢
          refine hK.out _ _ (Or.inr d6) ?_
          clear hK K hw6 X6 d5 hh5s
          try simp only [Act.put, List.setIfInBounds_toArray, List.set_cons_zero, List.set_cons_succ]
          refine till_one 7 (by kernel_rfl) rfl (fun K hK => ?_)
          refine step_append_lies _ (by rfl) _ _ 49 (by rfl) (g + 2) 9 is (.string ⟨#[]⟩) 1 16 Try.underlying49 (unhide HIs).1 (unhide HIs).2.1 (unhide HIs).2.2.1 (unhide HIs).2.2.2 rfl (by omega) Kv i ((ks.take i).map Value.string) (by rfl) (unhide HM6).ownK ⟨h5s, 0, none⟩ 1 1 [.string key] (by rfl) (by rfl) (World.news_of_block at6) (by simp [Value.oneCell']) (by omega) (by unfold maxLen; omega) (by omega) (unhide HM6).size _ rfl ?_
          intro g7 cap7 w7 hown7 hgrow7 hat7 hlt7
          change K (Act.put _ (some 21) _) w7
          have hKb := unhide HKb
          have fr : ∀ z, z < g + 2 → some z ≠ Kv.ownBlock := fun z hz e => by have := (hKb z e.symm).1; omega
          have d7 : w7.cell? ⟨g + 1, 4, none⟩ = some Kv := (hgrow7.cell_far ⟨g + 1, 4, none⟩ (World.block_lt_of_cell? _ _ (by rw [d6])) (fr _ (by show g + 1 < g + 2; omega))).trans d6
          have H7 := hide (And.intro hown7 (And.intro hgrow7 hat7))
          have f7 : w7.frozen? ⟨g + 1, 4, none⟩ = false := (hgrow7.frozen_far ⟨g + 1, 4, none⟩ (Nat.lt_of_lt_of_le (by show g + 1 < g + 2; omega) (unhide HM6).size) (fr _ (by show g + 1 < g + 2; omega))).trans (frozen_of_row w6 (g + 1) 4 _ _ (unhide HM6).box)
          refine hK.out _ _ (Or.inr d7) ?_
          clear hK K hown7 hgrow7 hat7 hlt7 hKb d6
          try simp only [Act.put, List.setIfInBounds_toArray, List.set_cons_zero, List.set_cons_succ]
          refine till_take 8 (v := .pointer (some ⟨g + 1, 4, none⟩)) (some 22) rfl rfl rfl (by kernel_rfl) (by kernel_rfl) (by kernel_rfl) (by kernel_rfl) (fun _ _ _ h => h) (Or.inl ⟨by rfl, fun u s0 => by go_simp⟩) d7 ?_
          try simp only [Act.put, List.setIfInBounds_toArray, List.set_cons_zero, List.set_cons_succ]
          refine till_one 9 (by kernel_rfl) rfl (fun K hK => ?_)
          go_simp
          refine hK.out _ _ (Or.inl rfl) ?_
          clear hK K
          try simp only [Act.put, List.setIfInBounds_toArray, List.set_cons_zero, List.set_cons_succ]
          refine till_done (by kernel_rfl) ?_ _
          obtain ⟨w8, hw8⟩ : ∃ w8, w7.setCell ⟨g + 1, 4, none⟩ (.slice (some ⟨g7, 0, none⟩) (i + 1) cap7) = w8 := ⟨_, rfl⟩
          have HDk : Hid (Ar w w8 gr g #[.int .i64 0, .int .i64 0, .string ⟨#[]⟩, .slice none 0 0, .slice none 0 0]) := hide (by
            rw [← hw8]
            exact (((unhide HDr).later (unhide H5).2.1).later (Beside.of_below (unhide H6).1)).push (unhide H7).2.1 (fun z e => (unhide HKb z e).1))
          have HRk : Hid (Rdr w8 gr (.slice ao len cap) pk tk) := hide (by
            rw [← hw8]
            have r5 := (unhide H5).1
            have hl5 := r5.lt
            show (w7.setCell _ _).heap[gr]? = _
            rw [heap_setCell_other _ _ _ _ (by show gr ≠ g + 1; omega), (unhide H7).2.1.block gr (by have := (unhide H6).1.size; omega) (fr gr (by omega)), (unhide H6).1.block gr hl5]
            exact r5)
          have HMk : Hid (Mid w8 (g + 2) (g + 1) 5 0 ⟨#[]⟩ l (ks ++ [key]) Lv (.slice (some ⟨g7, 0, none⟩) (i + 1) cap7) i (i + 1) V) := hide (by
            rw [← hw8]
            obtain ⟨r5, b5, M5⟩ := unhide H5
            obtain ⟨X6, at6, sz6⟩ := unhide H6
            obtain ⟨hown7, hgrow7, hat7⟩ := unhide H7
            have hkl := (unhide HEr).1.2.1
            have M5' := M5.moreK hkl [key]
            refine M5'.pushK (fun z hz hne => ?_) (by have := X6.size; have := hgrow7.size; omega) ?_ ?_
            · rw [hgrow7.block z (by have := X6.size; omega) hne, X6.block z hz]
            · rw [List.take_of_length_le (by simp [hkl]), List.map_append]
              rw [List.take_of_length_le (by omega)] at hown7
              exact hown7
            · rcases hat7 with e | e
              · exact Or.inl e
              · exact Or.inr (by omega))
          rw [hw8]
          clear hw8 f7 d7 H5 H6 H7 HM6 at6 sz6 HDr HMr HRr HEr HKb fr hz5
          obtain ⟨d0, d1, d2, d3, d4⟩ := row_cell (unhide HMk).box
          obtain ⟨gk, hgk⟩ : ∃ gk, g7 = gk := ⟨_, rfl⟩
          obtain ⟨capk, hck⟩ : ∃ capk, cap7 = capk := ⟨_, rfl⟩
          rw [hgk, hck] at HMk
          rw [hgk, hck] at d4
          clear hgk hck
          obtain ⟨iv, hiv, hz0, hz1, hz2⟩ := info_parts infoVv
          have HI := hide (And.intro hiv (And.intro hz0 (And.intro hz1 hz2)))
          clear hiv hz0 hz1 hz2
          have f3 : w8.frozen? ⟨g + 1, 3, none⟩ = false := frozen_of_row w8 (g + 1) 3 _ _ (unhide HMk).box
          have hLb : ∀ z, Lv.ownBlock = some z → g + 2 ≤ z ∧ z < w8.heap.size := (unhide HMk).ownL.lt
          have HLb := hide hLb
          clear hLb
          have CR := hide (ih gr ao len cap pk tk w8.drew (unhide HRk) ((unhide HS w8 (unhide HDk).beside).later ((Beside.refl _ _).drew 1)) (unhide HEk).2.1 (unhide HEk).2.2.1 (by omega))
          go_upto_region 5 with fail
          refine till_begin (S := fun w' => w'.cell? ⟨g + 1, 3, none⟩ = some Lv) 9 (by kernel_rfl) ?_
          refine till_take 0 (v := .pointer (some ⟨g + 1, 3, none⟩)) (some 23) rfl rfl rfl (by kernel_rfl) (by kernel_rfl) (by kernel_rfl) (by kernel_rfl) (fun _ _ _ h => h) (Or.inl ⟨by rfl, fun u s0 => by go_simp⟩) d3 ?_
          simp only [Act.put, List.setIfInBounds_toArray, List.set_cons_zero, List.set_cons_succ]
          refine till_take 1 (v := Lv) (some 24) rfl rfl rfl (by kernel_rfl) (by kernel_rfl) (by kernel_rfl) (by kernel_rfl) (fun _ _ _ h => h) (Or.inl ⟨by rfl, fun u s0 => by go_simp⟩) d3 ?_
          simp only [Act.put, List.setIfInBounds_toArray, List.set_cons_zero, List.set_cons_succ]
          refine till_take 2 (v := .pointer (some ⟨gr, 0, none⟩)) (some 25) rfl rfl rfl (by kernel_rfl) (by kernel_rfl) (by kernel_rfl) (by kernel_rfl) (fun _ _ _ h => h) (Or.inl ⟨by rfl, fun u s0 => by go_simp⟩) d3 ?_
          simp only [Act.put, List.setIfInBounds_toArray, List.set_cons_zero, List.set_cons_succ]
          refine till_take 3 (v := .int .i64 wi) (some 26) rfl rfl rfl (by kernel_rfl) (by kernel_rfl) (by kernel_rfl) (by kernel_rfl) (fun _ _ _ h => h) (Or.inl ⟨by rfl, fun u s0 => by go_simp⟩) d3 ?_
          simp only [Act.put, List.setIfInBounds_toArray, List.set_cons_zero, List.set_cons_succ]
          refine till_take 4 (v := .int .i64 (8 - (d : Int))) (some 27) rfl rfl rfl (by kernel_rfl) (by kernel_rfl) (by kernel_rfl) (by kernel_rfl) (fun _ _ _ h => h) (Or.inl ⟨by rfl, fun u s0 => by go_simp⟩) d3 ?_
          simp only [Act.put, List.setIfInBounds_toArray, List.set_cons_zero, List.set_cons_succ]
          refine till_one 5 (by kernel_rfl) rfl (fun K hK => ?_)
          go_simp
          cases hv : rdV zs d pk tk with
          | error ep =>
            have hA2 : rdPairs zs (rdV zs d) q a t = .error ep := by
              exact (unhide HA).1 _ ((unhide HEk).2.2.2.2 _ hv)
            rw [hv] at CR
            have HA2 := hide hA2
            clear hv hA2
            refine (unhide CR).mono ?_
            rintro e w5 ⟨rfl, b5⟩
            unfold fault
            go_wp2_with fail
            refine ⟨rfl, ?_⟩
            show Res _ _ _ _ _ _
            rw [unhide HA2]
            exact ⟨rfl, (unhide HDk).beside.trans b5.at_drew⟩
          | ok vp =>
            obtain ⟨y, p', t''⟩ := vp
            have SN := rdV_sound (unhide HSM).1 d pk tk y p' t'' hv (unhide HEk).2.2.1
            have hE2 := (unhide HEk).2.2.2.1 y p' t'' hv
            have HE2 : Hid (((l ++ [y]).length = i + 1 ∧ (ks ++ [key]).length = i + 1 ∧ ∀ x ∈ ks ++ [key], x.size ≤ 32) ∧ p' ≤ len ∧ t'' ≤ 2048 ∧ rdRec zs (rdV zs d) (n - (i + 1)) (l ++ [y]) (ks ++ [key]) p' t'' = rdRec zs (rdV zs d) n [] [] a1 t) := hide ⟨⟨by simp [(unhide HEk).1.1], (unhide HEk).1.2⟩, by have := SN.le; have := (unhide HSM).2; omega, SN.most, hE2⟩
            rw [hv] at CR
            clear hv SN hE2
            refine (unhide CR).mono ?_
            rintro e w5 ⟨x5, rfl, h5, r5, b5⟩
            obtain ⟨k5, n5, s5, l5, ks5, al5, ak5, cl5, ck5, hy5, rfl⟩ := h5.shape
            obtain ⟨lc5, hlc5⟩ : ∃ lc5, l5.length = lc5 := ⟨_, rfl⟩
            obtain ⟨mc5, hmc5⟩ : ∃ mc5, ks5.length = mc5 := ⟨_, rfl⟩
            rw [hlc5, hmc5] at h5 ⊢
            have b6 := b5.at_drew
            have hz5 := b6.size
            have hrg1 : g + 1 ≠ gr := by omega
            have d5 : w5.cell? ⟨g + 1, 3, none⟩ = some Lv := b6.cell hrg1 d3
            have M5 := (unhide HMk).beside b6 (by omega) (by omega)
            have H5 := hide (And.intro h5 (And.intro r5 (And.intro b6 M5)))
            clear b5 b6 h5 hy5 hlc5 hmc5 CR r5 M5
            go_wp2_with fail
            refine hK.out _ _ (Or.inr d5) ?_
            clear hK K d0 d1 d2 d3 d4 f3
            try simp only [Act.put, List.setIfInBounds_toArray, List.set_cons_zero, List.set_cons_succ]
            refine till_one 6 (by kernel_rfl) rfl (fun K hK => ?_)
            go_simp
            obtain ⟨w6, hw6⟩ : ∃ w6, w5.alloc (.cells #[.int .i64 k5, .int .i64 n5, .string s5, .slice al5 lc5 cl5, .slice ak5 mc5 ck5] 51) = w6 := ⟨_, rfl⟩
            have X6 : Below w5.heap.size w5 w6 := by rw [← hw6]; exact (Below.refl _ _).alloc (Nat.le_refl _) _
            have at6 : w6.heap[w5.heap.size]? = some (.cells #[.int .i64 k5, .int .i64 n5, .string s5, .slice al5 lc5 cl5, .slice ak5 mc5 ck5] 51 (0, 0)) := by rw [← hw6]; exact heap_alloc_new w5 _
            have sz6 : w6.heap.size = w5.heap.size + 1 := by rw [← hw6]; simp
            rw [hw6]
            have d6 : w6.cell? ⟨g + 1, 3, none⟩ = some Lv := (Beside.of_below (gr := gr) X6).cell hrg1 d5
            have HM6 := hide ((unhide H5).2.2.2.later X6)
            have H6 := hide (And.intro X6 (And.intro at6 sz6))
            obtain ⟨h5s, hh5s⟩ : ∃ h5s, w5.heap.size = h5s := ⟨_, rfl⟩
            rw [hh5s] at at6 sz6 ⊢
            have HH5 := hide hh5s
            refine hK.out _ _ (Or.inr d6) ?_
            clear hK K hw6 X6 d5 hh5s
            try simp only [Act.put, List.setIfInBounds_toArray, List.set_cons_zero, List.set_cons_succ]
            refine till_one 7 (by kernel_rfl) rfl (fun K hK => ?_)
            refine step_append_lies _ (by rfl) _ _ 24 (by rfl) (g + 2) 51 iv (.agg #[.int .i64 0, .int .i64 0, .string ⟨#[]⟩, .slice none 0 0, .slice none 0 0]) 5 80 Try.underlying24 (unhide HI).1 (unhide HI).2.1 (unhide HI).2.2.1 (unhide HI).2.2.2 rfl (by omega) Lv i (flat V i) (by rfl) (unhide HM6).ownL ⟨h5s, 0, none⟩ 1 1 [.int .i64 k5, .int .i64 n5, .string s5, .slice al5 lc5 cl5, .slice ak5 mc5 ck5] (by rfl) (by rfl) (World.news_of_block at6) (by simp [Value.oneCell']) (by omega) (by unfold maxLen; omega) (by omega) (unhide HM6).size _ rfl ?_
            intro g7 cap7 w7 hown7 hgrow7 hat7 hlt7
            change K (Act.put _ (some 30) _) w7
            have hLb := unhide HLb
            have fr : ∀ z, z < g + 2 → some z ≠ Lv.ownBlock := fun z hz e => by have := (hLb z e.symm).1; omega
            have d7 : w7.cell? ⟨g + 1, 3, none⟩ = some Lv := (hgrow7.cell_far ⟨g + 1, 3, none⟩ (World.block_lt_of_cell? _ _ (by rw [d6])) (fr _ (by show g + 1 < g + 2; omega))).trans d6
            have H7 := hide (And.intro hown7 (And.intro hgrow7 hat7))
            have f7 : w7.frozen? ⟨g + 1, 3, none⟩ = false := (hgrow7.frozen_far ⟨g + 1, 3, none⟩ (Nat.lt_of_lt_of_le (by show g + 1 < g + 2; omega) (unhide HM6).size) (fr _ (by show g + 1 < g + 2; omega))).trans (frozen_of_row w6 (g + 1) 3 _ _ (unhide HM6).box)
            refine hK.out _ _ (Or.inr d7) ?_
            clear hK K hown7 hgrow7 hat7 hlt7 hLb d6
            try simp only [Act.put, List.setIfInBounds_toArray, List.set_cons_zero, List.set_cons_succ]
            refine till_take 8 (v := .pointer (some ⟨g + 1, 3, none⟩)) (some 31) rfl rfl rfl (by kernel_rfl) (by kernel_rfl) (by kernel_rfl) (by kernel_rfl) (fun _ _ _ h => h) (Or.inl ⟨by rfl, fun u s0 => by go_simp⟩) d7 ?_
            try simp only [Act.put, List.setIfInBounds_toArray, List.set_cons_zero, List.set_cons_succ]
            refine till_one 9 (by kernel_rfl) rfl (fun K hK => ?_)
            go_simp
            refine hK.out _ _ (Or.inl rfl) ?_
            clear hK K
            try simp only [Act.put, List.setIfInBounds_toArray, List.set_cons_zero, List.set_cons_succ]
            refine till_done (by kernel_rfl) ?_ _
            obtain ⟨w9, hw9⟩ : ∃ w9, w7.setCell ⟨g + 1, 3, none⟩ (.slice (some ⟨g7, 0, none⟩) (i + 1) cap7) = w9 := ⟨_, rfl⟩
            have hwk : g + 2 ≤ w8.heap.size := (unhide HDk).size
            have HD8 : Hid (Ar w w9 gr g #[.int .i64 0, .int .i64 0, .string ⟨#[]⟩, .slice none 0 0, .slice none 0 0]) := hide (by
              rw [← hw9]
              exact (((unhide HDk).later (unhide H5).2.2.1).later (Beside.of_below (unhide H6).1)).push (unhide H7).2.1 (fun z e => (unhide HLb z e).1))
            have HR8 : Hid (Rdr w9 gr (.slice ao len cap) p' t'') := hide (by
              rw [← hw9]
              have r5 := (unhide H5).2.1
              have hl5 := r5.lt
              show (w7.setCell _ _).heap[gr]? = _
              rw [heap_setCell_other _ _ _ _ (by show gr ≠ g + 1; omega), (unhide H7).2.1.block gr (by have := (unhide H6).1.size; omega) (fr gr (by omega)), (unhide H6).1.block gr hl5]
              exact r5)
            have HM8 : Hid (Mid w9 (g + 2) (g + 1) 5 0 ⟨#[]⟩ (l ++ [y]) (ks ++ [key]) (.slice (some ⟨g7, 0, none⟩) (i + 1) cap7) (.slice (some ⟨gk, 0, none⟩) (i + 1) capk) (i + 1) (i + 1) (setV V i [.int .i64 k5, .int .i64 n5, .string s5, .slice al5 lc5 cl5, .slice ak5 mc5 ck5])) := hide (by
              rw [← hw9]
              obtain ⟨h5, r5, b5, M5⟩ := unhide H5
              obtain ⟨X6, at6, sz6⟩ := unhide H6
              obtain ⟨hown7, hgrow7, hat7⟩ := unhide H7
              have M5' := M5.moreL (unhide HEk).1.1 [y]
              refine M5'.pushL (lo := w8.heap.size) hwk (fun z e => (unhide HLb z e).2) (fun z e => ((unhide HMk).ownK.lt z e).2) (by rw [List.getElem?_append_right (by rw [(unhide HEk).1.1]; omega), (unhide HEk).1.1]; simp) h5 rfl (fun z hz hne => ?_) (by have := X6.size; have := hgrow7.size; omega) hown7 ?_
              · rw [hgrow7.block z (by have := X6.size; omega) hne, X6.block z hz]
              · rcases hat7 with e | e
                · exact Or.inl e
                · exact Or.inr (by omega))
            rw [hw9]
            have HI1 : Hid (i + 1 ≤ n) := hide (by omega)
            clear hw9 f7 d7
            go_wp2_with fail
            go_roundw
            case rel => exact ⟨i + 1, _, _, _, _, _, _, _, unhide HI1, by go_num, HD8, HM8, HR8, HE2⟩
            case measure => have := unhide HI1; simp [intOf]; omega
      · have i1 : ¬ (i : Int) < (n : Int) := by omega
        have hii : i = n := by omega
        subst hii
        have hA2 := (unhide HEr).2.2.2
        rw [Nat.sub_self] at hA2
        simp only [rdRec] at hA2
        have HA2 := hide ((unhide HA).2 _ _ _ _ hA2.symm)
        clear hA2
        obtain ⟨z0, z1, z2, z3, z4⟩ := row_cell (unhide HDr).at0
        have fz : ∀ c, wr.frozen? ⟨g, c, none⟩ = false := fun c => frozen_of_row wr g c _ _ (unhide HDr).at0
        obtain ⟨aL, cL, eL, _⟩ := slice_form (unhide HMr).ownL
        obtain ⟨aK, cK, eK, _⟩ := slice_form (unhide HMr).ownK
        subst eL
        subst eK
        have hfin : ∀ u : World, u.heap.size = wr.heap.size → (∀ c, c ≠ g → u.heap[c]? = wr.heap[c]?) → IsQ u (fun c => g ≤ c ∧ c < u.heap.size) (.mk 5 0 ⟨#[]⟩ l ks) (.agg #[.int .i64 5, .int .i64 0, .string ⟨#[]⟩, .slice aL i cL, .slice aK i cK]) := fun u hu hq => by
          have hp := (unhide HMr).made (unhide HEr).1.1.symm (unhide HEr).1.2.1.symm (by omega) (by omega) (by rw [e0s]; omega) (by have := (unhide HEr).1.2.1; omega) (fun x hx => by have := (unhide HEr).1.2.2 x hx; omega) (by have := (unhide HEr).1.1; omega)
          exact (hp.move (fun c hP => hq c (by omega))).weak (fun c hP => ⟨by omega, by omega⟩)
        have HF := hide hfin
        have fz0 := fz 0
        have fz1 := fz 1
        have fz2 := fz 2
        have fz3 := fz 3
        have fz4 := fz 4
        clear fz hfin
        go_wp2_with fail
        have R9 := five_set wr g 51 _ _ _ _ _ (.int .i64 5) (.int .i64 0) (.string ⟨#[]⟩) (.slice aL i cL) (.slice aK i cK) (unhide HDr).at0
        have O9 := fun c hc => five_other wr g c (.int .i64 5) (.int .i64 0) (.string ⟨#[]⟩) (.slice aL i cL) (.slice aK i cK) hc
        have B9 := five_below (Below.refl g wr) (Nat.le_refl g) (.int .i64 5) (.int .i64 0) (.string ⟨#[]⟩) (.slice aL i cL) (.slice aK i cK)
        have S9 : (((((wr.setCell ⟨g, 0, none⟩ (.int .i64 5)).setCell ⟨g, 1, none⟩ (.int .i64 0)).setCell ⟨g, 2, none⟩ (.string ⟨#[]⟩)).setCell ⟨g, 3, none⟩ (.slice aL i cL)).setCell ⟨g, 4, none⟩ (.slice aK i cK)).heap.size = wr.heap.size := by simp
        obtain ⟨w9, hw9⟩ : ∃ w9, (((((wr.setCell ⟨g, 0, none⟩ (.int .i64 5)).setCell ⟨g, 1, none⟩ (.int .i64 0)).setCell ⟨g, 2, none⟩ (.string ⟨#[]⟩)).setCell ⟨g, 3, none⟩ (.slice aL i cL)).setCell ⟨g, 4, none⟩ (.slice aK i cK)) = w9 := ⟨_, rfl⟩
        rw [hw9] at R9 S9 B9 ⊢
        have O9' : ∀ c, c ≠ g → w9.heap[c]? = wr.heap[c]? := fun c hc => by rw [← hw9]; exact O9 c hc
        have I9 := unhide HF w9 S9 O9'
        have Q9 : Beside gr w w9 := by
          have hb := (unhide HDr).beside
          exact ⟨B9.os.trans hb.os, B9.tape.trans hb.tape, B9.output.trans hb.output, Nat.le_trans hb.size B9.size, fun k hk hn => (O9' k (by omega)).trans (hb.block k hk hn)⟩
        have RR : Rdr w9 gr (.slice ao len cap) p t' := (O9' gr (by omega)).trans (unhide HRr)
        obtain ⟨r0, r1, r2, r3, r4⟩ := row_cell R9
        refine bodyPost_ret (v := .agg #[.int .i64 5, .int .i64 0, .string ⟨#[]⟩, .slice aL i cL, .slice aK i cK]) (by simp [results, Try.results87, go_sem, r0, r1, r2, r3, r4]) rfl ?_
        show Res _ _ _ _ _ _
        rw [unhide HA2]
        exact ⟨_, rfl, by rw [hg]; exact I9, RR, Q9⟩
end Go.Proofs.Ytfdnhpmldnmncaa
