/-
  The walk of array; conditions: the weight so far is at most 2048, the form's own reach.
  The reader of wire: a key behind those that are there; conditions: the weight so far is at most 2048, the form's own reach.
-/
import Derived.Test.YtfdnhpmldnmncaaR18
namespace Go.Proofs.Ytfdnhpmldnmncaa
open Go.RowKit

def ResC (gr : Nat) (bv : Value) (t : Nat) (w : World) (r : Except (Int × Int) (Nat × Nat)) (e : Ending) (w' : World) : Prop :=
  match r with
  | .error p => e = fault p.1 p.2 ∧ Beside gr w w'
  | .ok (n, a') => e = .returned (.int .i64 n) ∧ Rdr w' gr bv a' t ∧ Beside gr w w'

theorem count_res (zs : List Int) (q a t k gr : Nat) (ao : Option Addr) (len cap : Nat) (w : World) (h : Rdr w gr (.slice ao len cap) a t) (hS : Src w gr ao len cap zs) (ht : t ≤ 2048) (hk : 1 ≤ k ∧ k ≤ 2) :
    Calls Try.prog 91 #[.pointer (some ⟨gr, 0, none⟩), .int .i64 q, .int .i64 k] w fun e w' => ResC gr (.slice ao len cap) t w (rdCnt zs q a t k) e w' := by
  cases hc : rdCnt zs q a t k with
  | error p =>
    unfold rdCnt at hc
    by_cases h0 : (uintAt zs a).2.2 ≠ 0
    · rw [if_pos h0] at hc
      cases hc
      exact count_bad gr ao len cap a t q k zs w h hS _ _ _ rfl h0
    · rw [if_neg h0] at hc
      by_cases h1 : (2048 - (t : Int)).tdiv k < (uintAt zs a).1
      · rw [if_pos h1] at hc
        cases hc
        have e0 : uintAt zs a = ((uintAt zs a).1, (uintAt zs a).2.1, 0) := by
          have : (uintAt zs a).2.2 = 0 := by simpa using h0
          rw [← this]
        exact count_many gr ao len cap a t q k zs w h hS (by omega) (by omega) _ _ e0 h1
      · rw [if_neg h1] at hc; cases hc
  | ok p =>
    obtain ⟨n, a'⟩ := p
    obtain ⟨_, _, _, _, e0, hn⟩ := cnt_form hS.row.small hk.1 ht hc
    exact count_ok gr ao len cap a t q k zs w h hS (by omega) (by omega) n a' (by omega) e0 hn

set_option maxRecDepth 100000 in
set_option maxHeartbeats 1000000 in
theorem array_any (zs : List Int) (d : Nat) (ih : ValAt zs d) (gr : Nat) (ao : Option Addr) (len cap q a t : Nat) (w : World) (h : Rdr w gr (.slice ao len cap) a t) (hS : Src w gr ao len cap zs) (ht : t ≤ 2048) (hd : d + 1 ≤ 8) :
    Calls Try.prog 86 #[.pointer (some ⟨gr, 0, none⟩), .int .i64 q, .int .i64 (8 - ((d + 1 : Nat) : Int))] w fun e w' => Res gr (.slice ao len cap) w (rdAll zs (rdV zs d) q a t) e w' := by
  obtain ⟨g, hg⟩ : ∃ g, w.heap.size = g := ⟨_, rfl⟩
  have hrg : gr < g := by have := h.lt; omega
  obtain ⟨wi, hwi⟩ : ∃ wi : Int, 8 - ((d + 1 : Nat) : Int) = wi := ⟨_, rfl⟩
  have hw : IntKind.i64.wrap (wi + 1) = 8 - (d : Int) := by rw [IntKind.wrap_i64]; omega
  rw [hwi]
  have ST := ar_start w #[.int .i64 0, .int .i64 0, .string ⟨#[]⟩, .slice none 0 0, .slice none 0 0] 4 [] [] gr g hg hrg
  have hB2 : Below w.heap.size w ((w.alloc (.cells #[.int .i64 0, .int .i64 0, .string ⟨#[]⟩, .slice none 0 0, .slice none 0 0] 51)).alloc (.cells #[.int .i64 4, .int .i64 0, .string ⟨#[]⟩, .slice none 0 0, .slice none 0 0] 51)) := ((Below.refl _ _).alloc (Nat.le_refl _) _).alloc (by simp) _
  have CC := hide (count_res zs q a t 1 gr ao len cap ((w.alloc (.cells #[.int .i64 0, .int .i64 0, .string ⟨#[]⟩, .slice none 0 0, .slice none 0 0] 51)).alloc (.cells #[.int .i64 4, .int .i64 0, .string ⟨#[]⟩, .slice none 0 0, .slice none 0 0] 51)) ((hB2.block gr h.lt).trans h) (hS.later (Beside.of_below hB2)) ht (by omega))
  rw [show ((1 : Nat) : Int) = 1 from rfl] at CC
  have hm := hS.cap
  have hle := hS.row.le
  have hlen := hS.row.length
  have hsm := hS.row.small
  have HS : Hid (∀ u, Beside gr w u → Src u gr ao len cap zs) := hide (fun u hu => hS.later hu)
  have HST := hide ST
  clear ST hB2 h hS
  cases hc : rdCnt zs q a t 1 with
  | error p =>
    have hA : rdAll zs (rdV zs d) q a t = .error p := by simp only [rdAll, hc]
    rw [hc] at CC
    rw [hA]
    clear hA hc hsm hlen
    go_enter Try.func86, Try.ntmps86
    go_wp2_with fail
    refine (unhide CC).mono ?_
    rintro e u ⟨rfl, b1⟩
    unfold fault
    go_wp2_with fail
    exact ⟨rfl, rfl, (unhide HST).1.beside.trans b1⟩
  | ok p =>
    obtain ⟨n, a1⟩ := p
    obtain ⟨k1, k2, k3, _, _, _⟩ := cnt_form hsm (by omega) ht hc
    have hn48 : n ≤ 2048 := by omega
    have HA : Hid ((∀ ep, rdArr (rdV zs d) n [] a1 t = .error ep → rdAll zs (rdV zs d) q a t = .error ep) ∧ ∀ l a' t', rdArr (rdV zs d) n [] a1 t = .ok (l, a', t') → rdAll zs (rdV zs d) q a t = .ok (.mk 4 0 ⟨#[]⟩ l [], a', t')) := hide ⟨fun r hr => by simp only [rdAll, hc, hr], fun l a' t' hr => by simp only [rdAll, hc, hr]⟩
    have HB1 : Hid (a1 ≤ len) := hide (by omega)
    have HSM := hide (And.intro hsm hlen)
    rw [hc] at CC
    clear hc k1 k2 k3 hsm hlen
    go_enter Try.func86, Try.ntmps86
    go_wp2_with fail
    refine (unhide CC).mono ?_
    rintro e u ⟨rfl, r1, b1⟩
    have HD0 := hide ((unhide HST).1.later b1)
    have HM0 := hide ((unhide HST).2.beside b1 (by omega) (by omega))
    have HR0 := hide r1
    clear b1 r1 HST CC
    go_wp2_with fail
    go_loopw [12] (fun x wr => ∃ (i : Nat) (l : List Vl) (p t' : Nat) (Lv : Value) (V : Nat → List Value), i ≤ n ∧ x = .int .i64 i ∧ Hid (Ar w wr gr g #[.int .i64 0, .int .i64 0, .string ⟨#[]⟩, .slice none 0 0, .slice none 0 0]) ∧ Hid (Mid wr (g + 2) (g + 1) 4 0 ⟨#[]⟩ l [] Lv (.slice none 0 0) i 0 V) ∧ Hid (Rdr wr gr (.slice ao len cap) p t') ∧ Hid (l.length = i ∧ p ≤ len ∧ t' ≤ 2048 ∧ rdArr (rdV zs d) (n - i) l p t' = rdArr (rdV zs d) n [] a1 t)) (fun x _ => n - (intOf x).toNat)
    case atStart => exact ⟨0, [], a1, t, _, _, Nat.zero_le _, rfl, HD0, HM0, HR0, hide ⟨rfl, unhide HB1, ht, rfl⟩⟩
    case round =>
      clear HD0 HM0 HR0
      obtain ⟨i, l, p, t', Lv, V, hi, rfl, HDr, HMr, HRr, HEr⟩ := hrel
      obtain ⟨d0, d1, d2, d3, d4⟩ := row_cell (unhide HMr).box
      by_cases hlt : i < n
      · have i1 : (i : Int) < (n : Int) := by omega
        have i0 : (0 : Int) ≤ (i : Int) := by omega
        obtain ⟨iv, hiv, hz0, hz1, hz2⟩ := info_parts infoVv
        have HI := hide (And.intro hiv (And.intro hz0 (And.intro hz1 hz2)))
        clear hiv hz0 hz1 hz2
        have f3 : wr.frozen? ⟨g + 1, 3, none⟩ = false := frozen_of_row wr (g + 1) 3 _ _ (unhide HMr).box
        have hLb : ∀ z, Lv.ownBlock = some z → g + 2 ≤ z ∧ z < wr.heap.size := (unhide HMr).ownL.lt
        have HLb := hide hLb
        clear hLb
        have CR := hide (ih gr ao len cap p t' wr.drew (unhide HRr) ((unhide HS wr (unhide HDr).beside).later ((Beside.refl _ _).drew 1)) (unhide HEr).2.1 (unhide HEr).2.2.1 (by omega))
        go_upto_region 4 with fail
        refine till_begin (S := fun w' => w'.cell? ⟨g + 1, 3, none⟩ = some Lv) 9 (by kernel_rfl) ?_
        refine till_take 0 (v := .pointer (some ⟨g + 1, 3, none⟩)) (some 14) rfl rfl rfl (by kernel_rfl) (by kernel_rfl) (by kernel_rfl) (by kernel_rfl) (fun _ _ _ h => h) (Or.inl ⟨by rfl, fun u s0 => by go_simp⟩) d3 ?_
        simp only [Act.put, List.setIfInBounds_toArray, List.set_cons_zero, List.set_cons_succ]
        refine till_take 1 (v := Lv) (some 15) rfl rfl rfl (by kernel_rfl) (by kernel_rfl) (by kernel_rfl) (by kernel_rfl) (fun _ _ _ h => h) (Or.inl ⟨by rfl, fun u s0 => by go_simp⟩) d3 ?_
        simp only [Act.put, List.setIfInBounds_toArray, List.set_cons_zero, List.set_cons_succ]
        refine till_take 2 (v := .pointer (some ⟨gr, 0, none⟩)) (some 16) rfl rfl rfl (by kernel_rfl) (by kernel_rfl) (by kernel_rfl) (by kernel_rfl) (fun _ _ _ h => h) (Or.inl ⟨by rfl, fun u s0 => by go_simp⟩) d3 ?_
        simp only [Act.put, List.setIfInBounds_toArray, List.set_cons_zero, List.set_cons_succ]
        refine till_take 3 (v := .int .i64 wi) (some 17) rfl rfl rfl (by kernel_rfl) (by kernel_rfl) (by kernel_rfl) (by kernel_rfl) (fun _ _ _ h => h) (Or.inl ⟨by rfl, fun u s0 => by go_simp⟩) d3 ?_
        simp only [Act.put, List.setIfInBounds_toArray, List.set_cons_zero, List.set_cons_succ]
        refine till_take 4 (v := .int .i64 (8 - (d : Int))) (some 18) rfl rfl rfl (by kernel_rfl) (by kernel_rfl) (by kernel_rfl) (by kernel_rfl) (fun _ _ _ h => h) (Or.inl ⟨by rfl, fun u s0 => by go_simp⟩) d3 ?_
        simp only [Act.put, List.setIfInBounds_toArray, List.set_cons_zero, List.set_cons_succ]
        refine till_one 5 (by kernel_rfl) rfl (fun K hK => ?_)
        go_simp
        cases hv : rdV zs d p t' with
        | error ep =>
          have hA2 : rdAll zs (rdV zs d) q a t = .error ep := by
            have e1 := (unhide HEr).2.2.2
            rw [show n - i = (n - (i + 1)) + 1 by omega] at e1
            simp only [rdArr, hv] at e1
            exact (unhide HA).1 _ e1.symm
          rw [hv] at CR
          have HA2 := hide hA2
          clear hv hA2
          refine (unhide CR).mono ?_
          rintro e w5 ⟨rfl, b5⟩
          unfold fault
          go_wp2_with fail
          refine ⟨rfl, ?_⟩
          show Res _ _ _ _ _ _
          rw [unhide HA2]
          exact ⟨rfl, (unhide HDr).beside.trans b5.at_drew⟩
        | ok vp =>
          obtain ⟨y, p', t''⟩ := vp
          have SN := rdV_sound (unhide HSM).1 d p t' y p' t'' hv (unhide HEr).2.2.1
          have hE2 : rdArr (rdV zs d) (n - (i + 1)) (l ++ [y]) p' t'' = rdArr (rdV zs d) n [] a1 t := by
            have e1 := (unhide HEr).2.2.2
            rw [show n - i = (n - (i + 1)) + 1 by omega] at e1
            simp only [rdArr, hv] at e1
            exact e1
          have HE2 : Hid ((l ++ [y]).length = i + 1 ∧ p' ≤ len ∧ t'' ≤ 2048 ∧ rdArr (rdV zs d) (n - (i + 1)) (l ++ [y]) p' t'' = rdArr (rdV zs d) n [] a1 t) := hide ⟨by simp [(unhide HEr).1], by have := SN.le; have := (unhide HSM).2; omega, SN.most, hE2⟩
          rw [hv] at CR
          clear hv SN hE2
          refine (unhide CR).mono ?_
          rintro e w5 ⟨x5, rfl, h5, r5, b5⟩
          obtain ⟨k5, n5, s5, l5, ks5, al5, ak5, cl5, ck5, hy5, rfl⟩ := h5.shape
          obtain ⟨lc5, hlc5⟩ : ∃ lc5, l5.length = lc5 := ⟨_, rfl⟩
          obtain ⟨mc5, hmc5⟩ : ∃ mc5, ks5.length = mc5 := ⟨_, rfl⟩
          rw [hlc5, hmc5] at h5 ⊢
          have b6 := b5.at_drew
          have hz5 := b6.size
          have hrg1 : g + 1 ≠ gr := by omega
          have d5 : w5.cell? ⟨g + 1, 3, none⟩ = some Lv := b6.cell hrg1 d3
          have M5 := (unhide HMr).beside b6 (by omega) (by omega)
          have H5 := hide (And.intro h5 (And.intro r5 (And.intro b6 M5)))
          clear b5 b6 h5 hy5 hlc5 hmc5 CR r5 M5
          go_wp2_with fail
          refine hK.out _ _ (Or.inr d5) ?_
          clear hK K d0 d1 d2 d3 d4 f3
          try simp only [Act.put, List.setIfInBounds_toArray, List.set_cons_zero, List.set_cons_succ]
          refine till_one 6 (by kernel_rfl) rfl (fun K hK => ?_)
          go_simp
          obtain ⟨w6, hw6⟩ : ∃ w6, w5.alloc (.cells #[.int .i64 k5, .int .i64 n5, .string s5, .slice al5 lc5 cl5, .slice ak5 mc5 ck5] 51) = w6 := ⟨_, rfl⟩
          have X6 : Below w5.heap.size w5 w6 := by rw [← hw6]; exact (Below.refl _ _).alloc (Nat.le_refl _) _
          have at6 : w6.heap[w5.heap.size]? = some (.cells #[.int .i64 k5, .int .i64 n5, .string s5, .slice al5 lc5 cl5, .slice ak5 mc5 ck5] 51 (0, 0)) := by rw [← hw6]; exact heap_alloc_new w5 _
          have sz6 : w6.heap.size = w5.heap.size + 1 := by rw [← hw6]; simp
          rw [hw6]
          have d6 : w6.cell? ⟨g + 1, 3, none⟩ = some Lv := (Beside.of_below (gr := gr) X6).cell hrg1 d5
          have HM6 := hide ((unhide H5).2.2.2.later X6)
          have H6 := hide (And.intro X6 (And.intro at6 sz6))
          obtain ⟨h5s, hh5s⟩ : ∃ h5s, w5.heap.size = h5s := ⟨_, rfl⟩
          rw [hh5s] at at6 sz6 ⊢
          have HH5 := hide hh5s
          refine hK.out _ _ (Or.inr d6) ?_
          clear hK K hw6 X6 d5 hh5s
          try simp only [Act.put, List.setIfInBounds_toArray, List.set_cons_zero, List.set_cons_succ]
          refine till_one 7 (by kernel_rfl) rfl (fun K hK => ?_)
          refine step_append_lies _ (by rfl) _ _ 24 (by rfl) (g + 2) 51 iv (.agg #[.int .i64 0, .int .i64 0, .string ⟨#[]⟩, .slice none 0 0, .slice none 0 0]) 5 80 Try.underlying24 (unhide HI).1 (unhide HI).2.1 (unhide HI).2.2.1 (unhide HI).2.2.2 rfl (by omega) Lv i (flat V i) (by rfl) (unhide HM6).ownL ⟨h5s, 0, none⟩ 1 1 [.int .i64 k5, .int .i64 n5, .string s5, .slice al5 lc5 cl5, .slice ak5 mc5 ck5] (by rfl) (by rfl) (World.news_of_block at6) (by simp [Value.oneCell']) (by omega) (by unfold maxLen; omega) (by omega) (unhide HM6).size _ rfl ?_
          intro g7 cap7 w7 hown7 hgrow7 hat7 hlt7
          change K (Act.put _ (some 21) _) w7
          have hLb := unhide HLb
          have fr : ∀ z, z < g + 2 → some z ≠ Lv.ownBlock := fun z hz e => by have := (hLb z e.symm).1; omega
          have d7 : w7.cell? ⟨g + 1, 3, none⟩ = some Lv := (hgrow7.cell_far ⟨g + 1, 3, none⟩ (World.block_lt_of_cell? _ _ (by rw [d6])) (fr _ (by show g + 1 < g + 2; omega))).trans d6
          have H7 := hide (And.intro hown7 (And.intro hgrow7 hat7))
          have f7 : w7.frozen? ⟨g + 1, 3, none⟩ = false := (hgrow7.frozen_far ⟨g + 1, 3, none⟩ (Nat.lt_of_lt_of_le (by show g + 1 < g + 2; omega) (unhide HM6).size) (fr _ (by show g + 1 < g + 2; omega))).trans (frozen_of_row w6 (g + 1) 3 _ _ (unhide HM6).box)
          refine hK.out _ _ (Or.inr d7) ?_
          clear hK K hown7 hgrow7 hat7 hlt7 hLb d6
          try simp only [Act.put, List.setIfInBounds_toArray, List.set_cons_zero, List.set_cons_succ]
          refine till_take 8 (v := .pointer (some ⟨g + 1, 3, none⟩)) (some 22) rfl rfl rfl (by kernel_rfl) (by kernel_rfl) (by kernel_rfl) (by kernel_rfl) (fun _ _ _ h => h) (Or.inl ⟨by rfl, fun u s0 => by go_simp⟩) d7 ?_
          try simp only [Act.put, List.setIfInBounds_toArray, List.set_cons_zero, List.set_cons_succ]
          refine till_one 9 (by kernel_rfl) rfl (fun K hK => ?_)
          go_simp
          refine hK.out _ _ (Or.inl rfl) ?_
          clear hK K
          try simp only [Act.put, List.setIfInBounds_toArray, List.set_cons_zero, List.set_cons_succ]
          refine till_done (by kernel_rfl) ?_ _
          obtain ⟨w8, hw8⟩ : ∃ w8, w7.setCell ⟨g + 1, 3, none⟩ (.slice (some ⟨g7, 0, none⟩) (i + 1) cap7) = w8 := ⟨_, rfl⟩
          have hwr : g + 2 ≤ wr.heap.size := (unhide HDr).size
          have HD8 : Hid (Ar w w8 gr g #[.int .i64 0, .int .i64 0, .string ⟨#[]⟩, .slice none 0 0, .slice none 0 0]) := hide (by
            rw [← hw8]
            exact (((unhide HDr).later (unhide H5).2.2.1).later (Beside.of_below (unhide H6).1)).push (unhide H7).2.1 (fun z e => (unhide HLb z e).1))
          have HR8 : Hid (Rdr w8 gr (.slice ao len cap) p' t'') := hide (by
            rw [← hw8]
            have r5 := (unhide H5).2.1
            have hl5 := r5.lt
            show (w7.setCell _ _).heap[gr]? = _
            rw [heap_setCell_other _ _ _ _ (by show gr ≠ g + 1; omega), (unhide H7).2.1.block gr (by have := (unhide H6).1.size; omega) (fr gr (by omega)), (unhide H6).1.block gr hl5]
            exact r5)
          have HM8 : Hid (Mid w8 (g + 2) (g + 1) 4 0 ⟨#[]⟩ (l ++ [y]) [] (.slice (some ⟨g7, 0, none⟩) (i + 1) cap7) (.slice none 0 0) (i + 1) 0 (setV V i [.int .i64 k5, .int .i64 n5, .string s5, .slice al5 lc5 cl5, .slice ak5 mc5 ck5])) := hide (by
            rw [← hw8]
            obtain ⟨h5, r5, b5, M5⟩ := unhide H5
            obtain ⟨X6, at6, sz6⟩ := unhide H6
            obtain ⟨hown7, hgrow7, hat7⟩ := unhide H7
            have M5' := M5.moreL (unhide HEr).1 [y]
            refine M5'.pushL (lo := wr.heap.size) hwr (fun z e => (unhide HLb z e).2) (fun z e => ((unhide HMr).ownK.lt z e).2) (by rw [List.getElem?_append_right (by rw [(unhide HEr).1]; omega), (unhide HEr).1]; simp) h5 rfl (fun z hz hne => ?_) (by have := X6.size; have := hgrow7.size; omega) hown7 ?_
            · rw [hgrow7.block z (by have := X6.size; omega) hne, X6.block z hz]
            · rcases hat7 with e | e
              · exact Or.inl e
              · exact Or.inr (by omega))
          rw [hw8]
          have HI1 : Hid (i + 1 ≤ n) := hide (by omega)
          clear hw8 f7 d7
          go_wp2_with fail
          go_roundw
          case rel => exact ⟨i + 1, _, _, _, _, _, unhide HI1, by go_num, HD8, HM8, HR8, HE2⟩
          case measure => have := unhide HI1; simp [intOf]; omega
      · have i1 : ¬ (i : Int) < (n : Int) := by omega
        have hii : i = n := by omega
        subst hii
        have hA2 := (unhide HEr).2.2.2
        rw [Nat.sub_self] at hA2
        simp only [rdArr] at hA2
        have HA2 := hide ((unhide HA).2 _ _ _ hA2.symm)
        clear hA2
        obtain ⟨z0, z1, z2, z3, z4⟩ := row_cell (unhide HDr).at0
        have fz : ∀ c, wr.frozen? ⟨g, c, none⟩ = false := fun c => frozen_of_row wr g c _ _ (unhide HDr).at0
        obtain ⟨aL, cL, eL, _⟩ := slice_form (unhide HMr).ownL
        subst eL
        have hfin : ∀ u : World, u.heap.size = wr.heap.size → (∀ c, c ≠ g → u.heap[c]? = wr.heap[c]?) → IsQ u (fun c => g ≤ c ∧ c < u.heap.size) (.mk 4 0 ⟨#[]⟩ l []) (.agg #[.int .i64 4, .int .i64 0, .string ⟨#[]⟩, .slice aL i cL, .slice none 0 0]) := fun u hu hq => by
          have hp := (unhide HMr).made (unhide HEr).1.symm rfl (by omega) (by omega) (by rw [e0s]; omega) (by simp) (by simp) (by have := (unhide HEr).1; omega)
          exact (hp.move (fun c hP => hq c (by omega))).weak (fun c hP => ⟨by omega, by omega⟩)
        have HF := hide hfin
        have fz0 := fz 0
        have fz1 := fz 1
        have fz2 := fz 2
        have fz3 := fz 3
        have fz4 := fz 4
        clear fz hfin
        go_wp2_with fail
        have R9 := five_set wr g 51 _ _ _ _ _ (.int .i64 4) (.int .i64 0) (.string ⟨#[]⟩) (.slice aL i cL) (.slice none 0 0) (unhide HDr).at0
        have O9 := fun c hc => five_other wr g c (.int .i64 4) (.int .i64 0) (.string ⟨#[]⟩) (.slice aL i cL) (.slice none 0 0) hc
        have B9 := five_below (Below.refl g wr) (Nat.le_refl g) (.int .i64 4) (.int .i64 0) (.string ⟨#[]⟩) (.slice aL i cL) (.slice none 0 0)
        have S9 : (((((wr.setCell ⟨g, 0, none⟩ (.int .i64 4)).setCell ⟨g, 1, none⟩ (.int .i64 0)).setCell ⟨g, 2, none⟩ (.string ⟨#[]⟩)).setCell ⟨g, 3, none⟩ (.slice aL i cL)).setCell ⟨g, 4, none⟩ (.slice none 0 0)).heap.size = wr.heap.size := by simp
        obtain ⟨w9, hw9⟩ : ∃ w9, (((((wr.setCell ⟨g, 0, none⟩ (.int .i64 4)).setCell ⟨g, 1, none⟩ (.int .i64 0)).setCell ⟨g, 2, none⟩ (.string ⟨#[]⟩)).setCell ⟨g, 3, none⟩ (.slice aL i cL)).setCell ⟨g, 4, none⟩ (.slice none 0 0)) = w9 := ⟨_, rfl⟩
        rw [hw9] at R9 S9 B9 ⊢
        have O9' : ∀ c, c ≠ g → w9.heap[c]? = wr.heap[c]? := fun c hc => by rw [← hw9]; exact O9 c hc
        have I9 := unhide HF w9 S9 O9'
        have Q9 : Beside gr w w9 := by
          have hb := (unhide HDr).beside
          exact ⟨B9.os.trans hb.os, B9.tape.trans hb.tape, B9.output.trans hb.output, Nat.le_trans hb.size B9.size, fun k hk hn => (O9' k (by omega)).trans (hb.block k hk hn)⟩
        have RR : Rdr w9 gr (.slice ao len cap) p t' := (O9' gr (by omega)).trans (unhide HRr)
        obtain ⟨r0, r1, r2, r3, r4⟩ := row_cell R9
        refine bodyPost_ret (v := .agg #[.int .i64 4, .int .i64 0, .string ⟨#[]⟩, .slice aL i cL, .slice none 0 0]) (by simp [results, Try.results86, go_sem, r0, r1, r2, r3, r4]) rfl ?_
        show Res _ _ _ _ _ _
        rw [unhide HA2]
        exact ⟨_, rfl, by rw [hg]; exact I9, RR, Q9⟩
end Go.Proofs.Ytfdnhpmldnmncaa

namespace Go.Proofs.Ytfdnhpmldnmncaa
open Go.RowKit

theorem infoSs : (Try.prog.info? 9).map (fun i => (i.zero, i.size, i.bytes)) = some (some (.string ⟨#[]⟩), 1, 16) := by kernel_rfl

def ResK (gr : Nat) (bv : Value) (w : World) (r : Except (Int × Int) (ByteArray × Nat × Nat)) (e : Ending) (w' : World) : Prop :=
  match r with
  | .error p => e = fault p.1 p.2 ∧ Beside gr w w'
  | .ok (s, a', t') => e = .returned (.string s) ∧ Rdr w' gr bv a' t' ∧ Beside gr w w'

theorem key_res (zs : List Int) (ks : List ByteArray) (Kv : Value) (base a t gr : Nat) (ao : Option Addr) (len cap : Nat) (w : World) (h : Rdr w gr (.slice ao len cap) a t) (hS : Src w gr ao len cap zs) (ht : t ≤ 2048) (own : w.ownsRow base 9 1 Kv ks.length (ks.map Value.string)) :
    Calls Try.prog 92 #[.pointer (some ⟨gr, 0, none⟩), Kv] w fun e w' => ResK gr (.slice ao len cap) w (rdKey zs ks.getLast? a t) e w' := by
  obtain ⟨s, nx, er, hr⟩ : ∃ s nx er, textOfU zs 32 (uintAt zs a) = (s, nx, er) := ⟨_, _, _, rfl⟩
  by_cases h0 : er = 0
  · subst h0
    obtain ⟨b, b1, b2, b3, b4, b5⟩ := text_form zs 32 a hS.row.small (by rw [hr])
    rw [hr] at b3 b4
    dsimp only at b3 b4
    subst b3
    have hs : s.size ≤ 32 := by omega
    obtain ⟨ak, ck, rfl, nk, lk, mk, hk⟩ := slice_form own
    have hkey : rdKey zs ks.getLast? a t = if notBehind s ks.getLast? = true then .error (41, (a : Int)) else if 2048 < t + (1 + s.size) then .error (42, (a : Int)) else .ok (s, b, t + (1 + s.size)) := by
      unfold rdKey
      rw [hr]
      simp
    rw [hkey]
    rcases List.eq_nil_or_concat ks with rfl | ⟨ks', l, rfl⟩
    · simp only [List.getLast?_nil, notBehind, Bool.false_eq_true, if_false]
      by_cases hh : 2048 < t + (1 + s.size)
      · rw [if_pos hh]
        exact key_heavy0 gr ao len cap a t zs ak ck w h hS (by omega) s b hr hs (by omega)
      · rw [if_neg hh]
        refine (key_ok0 gr ao len cap a t zs ak ck w h hS (by omega) s b hr hs (by omega)).mono fun e w' ⟨he, r, b⟩ => ⟨he, ?_, b⟩
        rw [show ((t + (1 + s.size) : Nat) : Int) = (t : Int) + (1 + (s.size : Int)) by omega]
        exact r
    · rw [List.concat_eq_append] at *
      have hlen : (ks' ++ [l]).length = ks'.length + 1 := by simp
      rw [hlen] at own lk nk ⊢
      obtain ⟨⟨kb, ko, kf⟩, rfl⟩ : ∃ a2, ak = some a2 := by
        cases ak with
        | none => have := (nk rfl).1; omega
        | some a2 => exact ⟨a2, rfl⟩
      obtain ⟨h1, h2⟩ := hk _ rfl
      cases h2
      have hl : w.cell? ⟨kb, 0 + ks'.length, none⟩ = some (.string l) := by
        have hc := own.cells h1 ks'.length (.string l) (by simp)
        unfold Addr.add at hc
        by_cases hz : ks'.length = 0
        · simpa [hz] using hc
        · simpa [hz] using hc
      simp only [List.getLast?_append, List.getLast?_singleton, Option.some_or, notBehind]
      by_cases hb : (Op.bytesLess s.toList l.toList || s.toList == l.toList) = true
      · rw [if_pos hb]
        exact key_order gr ao len cap a t zs _ ks'.length ck l w h hS s b hr ⟨lk, mk⟩ kb 0 rfl hl hb
      · rw [if_neg hb]
        have hb' : (Op.bytesLess s.toList l.toList || s.toList == l.toList) = false := by simpa using hb
        by_cases hh : 2048 < t + (1 + s.size)
        · rw [if_pos hh]
          exact key_heavy1 gr ao len cap a t zs ks'.length ck l kb 0 w h hS (by omega) s b hr hs ⟨lk, mk⟩ hl hb' (by omega)
        · rw [if_neg hh]
          refine (key_ok1 gr ao len cap a t zs ks'.length ck l kb 0 w h hS (by omega) s b hr hs ⟨lk, mk⟩ hl hb' (by omega)).mono fun e w' ⟨he, r, b⟩ => ⟨he, ?_, b⟩
          rw [show ((t + (1 + s.size) : Nat) : Int) = (t : Int) + (1 + (s.size : Int)) by omega]
          exact r
  · have hkey : rdKey zs ks.getLast? a t = .error (41, (a : Int)) := by
      unfold rdKey
      rw [hr]
      simp [h0]
    rw [hkey]
    exact key_bad gr ao len cap a t zs Kv w h hS s nx er hr h0
end Go.Proofs.Ytfdnhpmldnmncaa
