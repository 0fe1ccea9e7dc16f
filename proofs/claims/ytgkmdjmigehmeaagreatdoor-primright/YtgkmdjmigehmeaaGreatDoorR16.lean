/-
  The walk of value.With: a record with something under a key, in new memory; conditions: the form's own reach.
-/
import Derived.Test.YtgkmdjmigehmeaaGreatDoorR13
import Derived.Test.YtgkmdjmigehmeaaGreatDoorR12
import Derived.Test.YtgkmdjmigehmeaaGreatDoorR11
import Derived.Test.YtgkmdjmigehmeaaGreatDoorR14
import Derived.Test.YtgkmdjmigehmeaaGreatDoorR15
import Derived.Test.YtgkmdjmigehmeaaGreatDoorR02
namespace Go.Proofs.YtgkmdjmigehmeaaGreatDoor
set_option linter.unusedVariables false
set_option linter.unusedSimpArgs false
set_option maxRecDepth 100000
set_option maxHeartbeats 16000000
open Go.RowKit
theorem with_in (n : Int) (s : ByteArray) (l : List Vl) (ks : List ByteArray) (al ak : Option Addr) (cl ck : Nat) (x : Vl) (xx : Value) (B : Nat) (key : ByteArray) (w : World) (hv : IsV w B (.mk 5 n s l ks) (.agg #[.int .i64 5, .int .i64 n, .string s, .slice al l.length cl, .slice ak ks.length ck])) (hx : IsV w B x xx) (hBs : B ≤ w.heap.size) (hr : rightB (.mk 5 n s l ks) = true) (hrx : rightB x = true) (hkey : key.size ≤ 32) :
  Calls Tryz.prog 111 #[.agg #[.int .i64 5, .int .i64 n, .string s, .slice al l.length cl, .slice ak ks.length ck], .string key, xx] w fun e w' => ∃ x', e = .returned (.tuple #[x', .int .i64 (if rightB (withV l ks key x) = true then 0 else 33)]) ∧ Below w.heap.size w w' ∧ (rightB (withV l ks key x) = true → IsQ w' (fun b => w.heap.size ≤ b ∧ b < w'.heap.size) (withV l ks key x) x') ∧ (rightB (withV l ks key x) = false → x' = .agg #[.int .i64 0, .int .i64 0, .string ⟨#[]⟩, .slice none 0 0, .slice none 0 0]) := by
 obtain ⟨xk, xn, xs, xl, xks, xal, xak, xcl, xck, _, rfl⟩ := hx.shape
 obtain ⟨m, hm⟩ : ∃ m, ks.length = m := ⟨_, rfl⟩
 obtain ⟨ln, hln⟩ : ∃ ln, l.length = ln := ⟨_, rfl⟩
 obtain ⟨xm, hxm⟩ : ∃ xm, xks.length = xm := ⟨_, rfl⟩
 obtain ⟨xln, hxln⟩ : ∃ xln, xl.length = xln := ⟨_, rfl⟩
 rw [hm, hln] at hv
 rw [hxm, hxln] at hx
 rw [hm, hln, hxm, hxln]
 obtain ⟨V, hVF, hel⟩ := (IsP.at hv).2.2.2.2.2
 have hfew := few_right hr
 have hlb : ln ≤ 5000 := by
  unfold fewB at hfew
  have h1 := of_decide_eq_true hfew
  have h2 := len_cntL l
  simp only [cnt] at h1
  omega
 have hkl := (right_keys hr).2
 rw [hm, hln] at hkl
 obtain ⟨g, hg⟩ : ∃ g, w.heap.size = g := ⟨_, rfl⟩
 obtain ⟨w3, hw3⟩ : ∃ w3, ((w.alloc (.cells #[.int .i64 5, .int .i64 n, .string s, .slice al ln cl, .slice ak m ck] 25)).alloc (.cells #[.int .i64 xk, .int .i64 xn, .string xs, .slice xal xln xcl, .slice xak xm xck] 25)).alloc (.cells #[.int .i64 0, .int .i64 0, .string ⟨#[]⟩, .slice none 0 0, .slice none 0 0] 25) = w3 := ⟨_, rfl⟩
 have hz3 : Wz w w3 g #[.int .i64 5, .int .i64 n, .string s, .slice al ln cl, .slice ak m ck] #[.int .i64 xk, .int .i64 xn, .string xs, .slice xal xln xcl, .slice xak xm xck] #[.int .i64 0, .int .i64 0, .string ⟨#[]⟩, .slice none 0 0, .slice none 0 0] := by
  have TW := Two.mk' w 25 #[.int .i64 5, .int .i64 n, .string s, .slice al ln cl, .slice ak m ck] #[.int .i64 xk, .int .i64 xn, .string xs, .slice xal xln xcl, .slice xak xm xck]
  rw [hg] at TW
  rw [← hw3]
  have h1 := heap_alloc_new ((w.alloc (.cells #[.int .i64 5, .int .i64 n, .string s, .slice al ln cl, .slice ak m ck] 25)).alloc (.cells #[.int .i64 xk, .int .i64 xn, .string xs, .slice xal xln xcl, .slice xak xm xck] 25)) (.cells #[.int .i64 0, .int .i64 0, .string ⟨#[]⟩, .slice none 0 0, .slice none 0 0] 25)
  rw [TW.size] at h1
  have hbb := (Below.refl ((w.alloc (.cells #[.int .i64 5, .int .i64 n, .string s, .slice al ln cl, .slice ak m ck] 25)).alloc (.cells #[.int .i64 xk, .int .i64 xn, .string xs, .slice xal xln xcl, .slice xak xm xck] 25)).heap.size ((w.alloc (.cells #[.int .i64 5, .int .i64 n, .string s, .slice al ln cl, .slice ak m ck] 25)).alloc (.cells #[.int .i64 xk, .int .i64 xn, .string xs, .slice xal xln xcl, .slice xak xm xck] 25))).alloc (Nat.le_refl _) (.cells #[.int .i64 0, .int .i64 0, .string ⟨#[]⟩, .slice none 0 0, .slice none 0 0] 25)
  have hs := TW.size
  refine ⟨(TW.later hbb).1, (TW.later hbb).2, h1, by simp [hs, hg], ?_⟩
  have := TW.below.trans (hbb.mono (by omega))
  rw [hg] at this
  exact this
 have HVV : Hid (∀ u, Below g w u → IsV u B (.mk 5 n s l ks) (.agg #[.int .i64 5, .int .i64 n, .string s, .slice al ln cl, .slice ak m ck]) ∧ IsV u B x (.agg #[.int .i64 xk, .int .i64 xn, .string xs, .slice xal xln xcl, .slice xak xm xck]) ∧ B ≤ u.heap.size) := hide (fun u hu => ⟨hv.mono (hu.mono (by omega)), hx.mono (hu.mono (by omega)), by have := hu.size; omega⟩)
 have HSK : Hid (∀ u, Wz w u g #[.int .i64 5, .int .i64 n, .string s, .slice al ln cl, .slice ak m ck] #[.int .i64 xk, .int .i64 xn, .string xs, .slice xal xln xcl, .slice xak xm xck] #[.int .i64 0, .int .i64 0, .string ⟨#[]⟩, .slice none 0 0, .slice none 0 0] → Shows u ak m ck 1 (ks.map Value.string) ∧ Shows u al ln cl 5 (flat V ln)) := hide (fun u hu => by
  have hf : VF u (fun b => b < B) 5 n s l ks al ak cl ck V := hVF.to (fun b hb => hu.below.block b (by omega)) (fun b h => h)
  have hfv : ∀ i, i < ln → (V i).length = 5 := fun i hi => hf.hv i (by omega)
  refine ⟨⟨by simp [hm], fun e => by have := hf.nk e; omega, fun a ha j v hj => ?_, ?_⟩, ⟨flat_len V ln hfv, fun e => by have := hf.nl e; omega, fun a ha j v hj => ?_, ?_⟩⟩
  ·rw [List.getElem?_map] at hj
   obtain ⟨t, ht, rfl⟩ := Option.map_eq_some_iff.1 hj
   exact (hf.hk a ha j t ht).2
  ·intro v hv'
   obtain ⟨t, _, rfl⟩ := List.mem_map.1 hv'
   rfl
  ·have hjl : j < ln * 5 := by
    have := (List.getElem?_eq_some_iff.1 hj).1
    rw [flat_len V ln hfv] at this
    exact this
   have h5 := hfv (j / 5) (by omega)
   have h1 := (hf.hl a ha (j / 5) (by omega)).2 (j % 5) ((V (j / 5))[j % 5]'(by omega)) (List.getElem?_eq_getElem (by omega))
   have h2 := flat_get hfv (j / 5) (j % 5) (by omega) (by omega)
   rw [show j / 5 * 5 + j % 5 = j by omega, hj, List.getElem?_eq_getElem (by omega)] at h2
   rw [← Option.some.inj h2, add_add5, show j / 5 * 5 + j % 5 = j by omega] at h1
   exact h1
  ·intro v hv'
   obtain ⟨q, hq⟩ := List.getElem?_of_mem hv'
   have hql : q < ln * 5 := by
    have := (List.getElem?_eq_some_iff.1 hq).1
    rw [flat_len V ln hfv] at this
    exact this
   have h2 := flat_get hfv (q / 5) (q % 5) (by omega) (by omega)
   rw [show q / 5 * 5 + q % 5 = q by omega, hq] at h2
   obtain ⟨y, hy⟩ : ∃ y, l[q / 5]? = some y := ⟨_, List.getElem?_eq_getElem (by omega)⟩
   obtain ⟨k', n', s', l', ks', al', ak', cl', ck', _, hsh⟩ := (hel (q / 5) y hy).shape
   have hVi : V (q / 5) = [.int .i64 k', .int .i64 n', .string s', .slice al' l'.length cl', .slice ak' ks'.length ck'] := by
    have h3 := congrArg Array.toList (Value.agg.inj hsh)
    simpa using h3
   have hmem := List.mem_of_getElem? h2.symm
   rw [hVi] at hmem
   simp at hmem
   rcases hmem with rfl | rfl | rfl | rfl | rfl <;> rfl)
 have HH := hide (And.intro hm (And.intro hln (And.intro hVF hel)))
 have CR := hide (right_code (.mk 5 n s l ks) _ B w3 (uh HVV w3 hz3.below).1 (uh HVV w3 hz3.below).2.2)
 rw [hr] at CR
 have CX : Hid (∀ u, Below g w u → _) := hide (fun u hu => right_code x _ B u (uh HVV u hu).2.1 (uh HVV u hu).2.2)
 rw [hrx] at CX
 have HZ3 := hide hz3
 obtain ⟨c0, c1, c2, c3, c4⟩ := row_cell hz3.at0
 have hk1 : ¬ (32 : Int) < (key.size : Int) := by omega
 obtain ⟨W, hW⟩ : ∃ W, withV l ks key x = W := ⟨_, rfl⟩
 obtain ⟨E, hE⟩ : ∃ E : Int, (if rightB W = true then 0 else 33) = E := ⟨_, rfl⟩
 rw [hW, hE]
 have HW := hide (And.intro hW (And.intro hE hkl))
 have HKS := hide (And.intro (right_keys hr).1 hv.keys.1)
 have HRR := hide (And.intro hr (And.intro hrx (And.intro hkey hlb)))
 clear hz3 hv hx hVF hel hm hln hfew hW hE hkl hr hrx hkey hxm hxln
 go_enter Tryz.func111, Tryz.ntmps111
 go_wp2_with fail
 refine (uh CR).mono ?_
 rintro e u3 ⟨rfl, b3⟩
 have HZu := hide ((uh HZ3).later b3)
 clear b3 CR c0 c1 c2 c3 c4
 obtain ⟨d0, d1, d2, d3, d4⟩ := row_cell (uh HZu).at1
 go_wp2_with fail
 refine (uh CX u3 (uh HZu).below).mono ?_
 rintro e u4 ⟨rfl, b4⟩
 have HZ4 := hide ((uh HZu).later b4)
 clear b4 CX d0 d1 d2 d3 d4
 obtain ⟨c0, c1, c2, c3, c4⟩ := row_cell (uh HZ4).at0
 go_upto_region 7 with fail
 clear c0 c1 c2 c3 c4
 go_cut [8] from 28 to 34 (fun x8 wx => ∃ (gb : Nat) (ka : Option Addr) (kc : Nat) (la : Option Addr) (lc : Nat), x8 = .pointer (some ⟨gb, 0, none⟩) ∧ Hid (W7 w wx g gb #[.int .i64 5, .int .i64 n, .string s, .slice al ln cl, .slice ak m ck] #[.int .i64 xk, .int .i64 xn, .string xs, .slice xal xln xcl, .slice xak xm xck] #[.int .i64 0, .int .i64 0, .string ⟨#[]⟩, .slice none 0 0, .slice none 0 0] (ks.map Value.string) (flat V ln) m ln ka kc la lc))
 case first =>
  refine till_begin (S := fun w' => Wz w w' g #[.int .i64 5, .int .i64 n, .string s, .slice al ln cl, .slice ak m ck] #[.int .i64 xk, .int .i64 xn, .string xs, .slice xal xln xcl, .slice xak xm xck] #[.int .i64 0, .int .i64 0, .string ⟨#[]⟩, .slice none 0 0, .slice none 0 0]) 8 (by kernel_rfl) ?_
  obtain ⟨w2, hw2⟩ : ∃ w2, u4.drew = w2 := ⟨_, rfl⟩
  have HS0 : Hid (Wz w w2 g #[.int .i64 5, .int .i64 n, .string s, .slice al ln cl, .slice ak m ck] #[.int .i64 xk, .int .i64 xn, .string xs, .slice xal xln xcl, .slice xak xm xck] #[.int .i64 0, .int .i64 0, .string ⟨#[]⟩, .slice none 0 0, .slice none 0 0]) := hide (by rw [← hw2]; exact (uh HZ4).later (Below.refl _ _).drew)
  rw [hw2]
  clear hw2 HZ4
  refine till_take 0 (v := .pointer (some ⟨g, 4, none⟩)) (some 28) rfl rfl rfl (by kernel_rfl) (by kernel_rfl) (by kernel_rfl) (by kernel_rfl) (fun _ _ _ h => h) (Or.inl ⟨by rfl, fun u hu => by obtain ⟨c0, c1, c2, c3, c4⟩ := row_cell hu.at0; go_simp⟩) (uh HS0) ?_
  try simp only [Act.put, setX]
  refine till_take 1 (v := .slice ak m ck) (some 29) rfl rfl rfl (by kernel_rfl) (by kernel_rfl) (by kernel_rfl) (by kernel_rfl) (fun _ _ _ h => h) (Or.inl ⟨by rfl, fun u hu => by obtain ⟨c0, c1, c2, c3, c4⟩ := row_cell hu.at0; go_simp⟩) (uh HS0) ?_
  try simp only [Act.put, setX]
  refine till_take 3 (v := .pointer (some ⟨g, 3, none⟩)) (some 31) rfl rfl rfl (by kernel_rfl) (by kernel_rfl) (by kernel_rfl) (by kernel_rfl) (fun _ _ _ h => h) (Or.inl ⟨by rfl, fun u hu => by obtain ⟨c0, c1, c2, c3, c4⟩ := row_cell hu.at0; go_simp⟩) (uh HS0) ?_
  try simp only [Act.put, setX]
  refine till_take 4 (v := .slice al ln cl) (some 32) rfl rfl rfl (by kernel_rfl) (by kernel_rfl) (by kernel_rfl) (by kernel_rfl) (fun _ _ _ h => h) (Or.inl ⟨by rfl, fun u hu => by obtain ⟨c0, c1, c2, c3, c4⟩ := row_cell hu.at0; go_simp⟩) (uh HS0) ?_
  try simp only [Act.put, setX]
  refine till_two 2 7 (by kernel_rfl) rfl rfl (fun K hK => ?_) (fun K hK => ?_)
  ·go_simp
   refine (cloneS ak m ck (ks.map Value.string) w2 (uh HSK w2 (uh HS0)).1 (by have := (uh HW).2.2; omega)).mono ?_
   rintro e uk ⟨kv, rfl, okv, bkv⟩
   obtain ⟨ka, kc, rfl, _⟩ := slice_form okv
   have HSk := hide ((uh HS0).later bkv)
   have HOk := hide (And.intro okv bkv)
   clear okv bkv
   go_wp2_with fail
   refine hK.out _ _ (Or.inr (uh HSk)) ?_
   clear hK K
   try simp only [Act.put, setX]
   refine till_two 5 7 (by kernel_rfl) rfl rfl (fun K hK => ?_) (fun K hK => ?_)
   ·go_simp
    refine (cloneV al ln cl (flat V ln) uk (uh HSK uk (uh HSk)).2 (by omega)).mono ?_
    rintro e ul ⟨lv, rfl, olv, blv⟩
    obtain ⟨la, lc, rfl, _⟩ := slice_form olv
    have HSl := hide ((uh HSk).later blv)
    have HOl := hide (And.intro olv blv)
    clear olv blv
    go_wp2_with fail
    refine hK.out _ _ (Or.inr (uh HSl)) ?_
    clear hK K
    try simp only [Act.put, setX]
    refine till_take 6 (v := .agg #[.int .i64 5, .int .i64 0, .string ⟨#[]⟩, .slice la ln lc, .slice ka m kc]) (some 34) rfl rfl rfl (by kernel_rfl) (by kernel_rfl) (by kernel_rfl) (by kernel_rfl) (fun _ _ _ h => h) (Or.inl ⟨by rfl, fun u hu => by go_simp⟩) (uh HSl) ?_
    try simp only [Act.put, setX]
    refine till_one 7 (by kernel_rfl) rfl (fun K hK => ?_)
    go_simp
    obtain ⟨gb, hgb⟩ : ∃ gb, ul.heap.size = gb := ⟨_, rfl⟩
    obtain ⟨ub, hua⟩ : ∃ wa, ul.alloc (.cells #[.int .i64 0, .int .i64 0, .string ⟨#[]⟩, .slice none 0 0, .slice none 0 0] 25) = wa := ⟨_, rfl⟩
    have HAb : Hid (ub.heap[gb]? = some (.cells #[.int .i64 0, .int .i64 0, .string ⟨#[]⟩, .slice none 0 0, .slice none 0 0] 25 (0, 0)) ∧ g + 3 ≤ gb ∧ gb = ul.heap.size ∧ ub.heap.size = gb + 1 ∧ Below ul.heap.size ul ub ∧ Wz w ub g #[.int .i64 5, .int .i64 n, .string s, .slice al ln cl, .slice ak m ck] #[.int .i64 xk, .int .i64 xn, .string xs, .slice xal xln xcl, .slice xak xm xck] #[.int .i64 0, .int .i64 0, .string ⟨#[]⟩, .slice none 0 0, .slice none 0 0]) := hide (by
     rw [← hua, ← hgb]
     exact ⟨heap_alloc_new _ _, (uh HSl).size, rfl, by simp, (Below.refl _ _).alloc (Nat.le_refl _) _, (uh HSl).later ((Below.refl _ _).alloc (Nat.le_refl _) _)⟩)
    rw [hgb, hua]
    refine hK.out _ _ (Or.inr (uh HAb).2.2.2.2.2) ?_
    clear hK K hua hgb
    try simp only [Act.put, setX]
    have HX : Hid (ub.heap[gb]? = some (.cells #[.int .i64 0, .int .i64 0, .string ⟨#[]⟩, .slice none 0 0, .slice none 0 0] 25 (0, 0)) ∧ g + 3 ≤ gb ∧ Wz w ub g #[.int .i64 5, .int .i64 n, .string s, .slice al ln cl, .slice ak m ck] #[.int .i64 xk, .int .i64 xn, .string xs, .slice xal xln xcl, .slice xak xm xck] #[.int .i64 0, .int .i64 0, .string ⟨#[]⟩, .slice none 0 0, .slice none 0 0] ∧ ub.ownsRow (g + 3) 9 1 (.slice ka m kc) m (ks.map Value.string) ∧ ub.ownsRow (g + 3) 25 5 (.slice la ln lc) ln (flat V ln) ∧ (∀ b, (Value.slice la ln lc).ownBlock = some b → b ≠ gb) ∧ (∀ b, (Value.slice ka m kc).ownBlock = some b → b ≠ gb)) := hide (by
     have z0 := (uh HS0).size
     have z1 := (uh HOk).2.size
     have z2 := (uh HOl).2.size
     have e := (uh HAb).2.2.1
     have k1 := own_below (uh HOk).1 (uh HOl).2
     exact ⟨(uh HAb).1, (uh HAb).2.1, (uh HAb).2.2.2.2.2, own_below (own_base k1 z0) (uh HAb).2.2.2.2.1, own_below (own_base (uh HOl).1 (Nat.le_trans z0 z1)) (uh HAb).2.2.2.2.1, fun b hb h => by have := ((uh HOl).1.lt b hb).2; omega, fun b hb h => by have := (k1.lt b hb).2; omega⟩)
    refine till_one 8 (by kernel_rfl) rfl (fun K hK => ?_)
    obtain ⟨d0, d1, d2, d3, d4⟩ := row_cell (uh HX).1
    have f0 : ub.frozen? ⟨gb, 0, none⟩ = false := frozen_of_row ub gb 0 _ _ (uh HX).1
    have f1 : ub.frozen? ⟨gb, 1, none⟩ = false := frozen_of_row ub gb 1 _ _ (uh HX).1
    have f2 : ub.frozen? ⟨gb, 2, none⟩ = false := frozen_of_row ub gb 2 _ _ (uh HX).1
    have f3 : ub.frozen? ⟨gb, 3, none⟩ = false := frozen_of_row ub gb 3 _ _ (uh HX).1
    have f4 : ub.frozen? ⟨gb, 4, none⟩ = false := frozen_of_row ub gb 4 _ _ (uh HX).1
    go_simp
    refine hK.out _ _ (Or.inl rfl) ?_
    clear hK K d0 d1 d2 d3 d4 f0 f1 f2 f3 f4
    try simp only [Act.put, setX]
    refine till_done (by kernel_rfl) ?_ _
    go_wp2_with fail
    go_meet
    exact ⟨gb, ka, kc, la, lc, rfl, hide (w7_store (uh HX).1 (uh HX).2.1 (uh HX).2.2.1 (uh HX).2.2.2.1 (uh HX).2.2.2.2.1 (uh HX).2.2.2.2.2.1 (uh HX).2.2.2.2.2.2)⟩
   ·go_simp
    obtain ⟨gb, hgb⟩ : ∃ gb, uk.heap.size = gb := ⟨_, rfl⟩
    obtain ⟨ua, hua⟩ : ∃ wa, uk.alloc (.cells #[.int .i64 0, .int .i64 0, .string ⟨#[]⟩, .slice none 0 0, .slice none 0 0] 25) = wa := ⟨_, rfl⟩
    have HAb : Hid (ua.heap[gb]? = some (.cells #[.int .i64 0, .int .i64 0, .string ⟨#[]⟩, .slice none 0 0, .slice none 0 0] 25 (0, 0)) ∧ g + 3 ≤ gb ∧ gb = uk.heap.size ∧ ua.heap.size = gb + 1 ∧ Below uk.heap.size uk ua ∧ Wz w ua g #[.int .i64 5, .int .i64 n, .string s, .slice al ln cl, .slice ak m ck] #[.int .i64 xk, .int .i64 xn, .string xs, .slice xal xln xcl, .slice xak xm xck] #[.int .i64 0, .int .i64 0, .string ⟨#[]⟩, .slice none 0 0, .slice none 0 0]) := hide (by
     rw [← hua, ← hgb]
     exact ⟨heap_alloc_new _ _, (uh HSk).size, rfl, by simp, (Below.refl _ _).alloc (Nat.le_refl _) _, (uh HSk).later ((Below.refl _ _).alloc (Nat.le_refl _) _)⟩)
    rw [hgb, hua]
    refine hK.out _ _ (Or.inr (uh HAb).2.2.2.2.2) ?_
    clear hK K hua hgb
    try simp only [Act.put, setX]
    refine till_one 5 (by kernel_rfl) rfl (fun K hK => ?_)
    go_simp
    refine (cloneV al ln cl (flat V ln) ua (uh HSK ua ((uh HAb).2.2.2.2.2)).2 (by omega)).mono ?_
    rintro e ub ⟨lv, rfl, olv, blv⟩
    obtain ⟨la, lc, rfl, _⟩ := slice_form olv
    have HSl := hide (((uh HAb).2.2.2.2.2).later blv)
    have HOl := hide (And.intro olv blv)
    clear olv blv
    go_wp2_with fail
    refine hK.out _ _ (Or.inr (uh HSl)) ?_
    clear hK K
    try simp only [Act.put, setX]
    refine till_take 6 (v := .agg #[.int .i64 5, .int .i64 0, .string ⟨#[]⟩, .slice la ln lc, .slice ka m kc]) (some 34) rfl rfl rfl (by kernel_rfl) (by kernel_rfl) (by kernel_rfl) (by kernel_rfl) (fun _ _ _ h => h) (Or.inl ⟨by rfl, fun u hu => by go_simp⟩) (uh HSl) ?_
    try simp only [Act.put, setX]
    have HX : Hid (ub.heap[gb]? = some (.cells #[.int .i64 0, .int .i64 0, .string ⟨#[]⟩, .slice none 0 0, .slice none 0 0] 25 (0, 0)) ∧ g + 3 ≤ gb ∧ Wz w ub g #[.int .i64 5, .int .i64 n, .string s, .slice al ln cl, .slice ak m ck] #[.int .i64 xk, .int .i64 xn, .string xs, .slice xal xln xcl, .slice xak xm xck] #[.int .i64 0, .int .i64 0, .string ⟨#[]⟩, .slice none 0 0, .slice none 0 0] ∧ ub.ownsRow (g + 3) 9 1 (.slice ka m kc) m (ks.map Value.string) ∧ ub.ownsRow (g + 3) 25 5 (.slice la ln lc) ln (flat V ln) ∧ (∀ b, (Value.slice la ln lc).ownBlock = some b → b ≠ gb) ∧ (∀ b, (Value.slice ka m kc).ownBlock = some b → b ≠ gb)) := hide (by
     have z0 := (uh HS0).size
     have z1 := (uh HOk).2.size
     have z2 := (uh HOl).2.size
     have e := (uh HAb).2.2.1
     have e2 := (uh HAb).2.2.2.1
     exact ⟨((uh HOl).2.block gb (by omega)).trans (uh HAb).1, (uh HAb).2.1, uh HSl, own_below (own_below (own_base (uh HOk).1 z0) (uh HAb).2.2.2.2.1) (uh HOl).2, own_base (uh HOl).1 (by omega), fun b hb h => by have := ((uh HOl).1.lt b hb).1; omega, fun b hb h => by have := ((uh HOk).1.lt b hb).2; omega⟩)
    refine till_one 8 (by kernel_rfl) rfl (fun K hK => ?_)
    obtain ⟨d0, d1, d2, d3, d4⟩ := row_cell (uh HX).1
    have f0 : ub.frozen? ⟨gb, 0, none⟩ = false := frozen_of_row ub gb 0 _ _ (uh HX).1
    have f1 : ub.frozen? ⟨gb, 1, none⟩ = false := frozen_of_row ub gb 1 _ _ (uh HX).1
    have f2 : ub.frozen? ⟨gb, 2, none⟩ = false := frozen_of_row ub gb 2 _ _ (uh HX).1
    have f3 : ub.frozen? ⟨gb, 3, none⟩ = false := frozen_of_row ub gb 3 _ _ (uh HX).1
    have f4 : ub.frozen? ⟨gb, 4, none⟩ = false := frozen_of_row ub gb 4 _ _ (uh HX).1
    go_simp
    refine hK.out _ _ (Or.inl rfl) ?_
    clear hK K d0 d1 d2 d3 d4 f0 f1 f2 f3 f4
    try simp only [Act.put, setX]
    refine till_done (by kernel_rfl) ?_ _
    go_wp2_with fail
    go_meet
    exact ⟨gb, ka, kc, la, lc, rfl, hide (w7_store (uh HX).1 (uh HX).2.1 (uh HX).2.2.1 (uh HX).2.2.2.1 (uh HX).2.2.2.2.1 (uh HX).2.2.2.2.2.1 (uh HX).2.2.2.2.2.2)⟩
  ·go_simp
   obtain ⟨gb, hgb⟩ : ∃ gb, w2.heap.size = gb := ⟨_, rfl⟩
   obtain ⟨ua, hua⟩ : ∃ wa, w2.alloc (.cells #[.int .i64 0, .int .i64 0, .string ⟨#[]⟩, .slice none 0 0, .slice none 0 0] 25) = wa := ⟨_, rfl⟩
   have HAb : Hid (ua.heap[gb]? = some (.cells #[.int .i64 0, .int .i64 0, .string ⟨#[]⟩, .slice none 0 0, .slice none 0 0] 25 (0, 0)) ∧ g + 3 ≤ gb ∧ gb = w2.heap.size ∧ ua.heap.size = gb + 1 ∧ Below w2.heap.size w2 ua ∧ Wz w ua g #[.int .i64 5, .int .i64 n, .string s, .slice al ln cl, .slice ak m ck] #[.int .i64 xk, .int .i64 xn, .string xs, .slice xal xln xcl, .slice xak xm xck] #[.int .i64 0, .int .i64 0, .string ⟨#[]⟩, .slice none 0 0, .slice none 0 0]) := hide (by
    rw [← hua, ← hgb]
    exact ⟨heap_alloc_new _ _, (uh HS0).size, rfl, by simp, (Below.refl _ _).alloc (Nat.le_refl _) _, (uh HS0).later ((Below.refl _ _).alloc (Nat.le_refl _) _)⟩)
   rw [hgb, hua]
   refine hK.out _ _ (Or.inr (uh HAb).2.2.2.2.2) ?_
   clear hK K hua hgb
   try simp only [Act.put, setX]
   refine till_one 2 (by kernel_rfl) rfl (fun K hK => ?_)
   go_simp
   refine (cloneS ak m ck (ks.map Value.string) ua (uh HSK ua ((uh HAb).2.2.2.2.2)).1 (by have := (uh HW).2.2; omega)).mono ?_
   rintro e uk ⟨kv, rfl, okv, bkv⟩
   obtain ⟨ka, kc, rfl, _⟩ := slice_form okv
   have HSk := hide (((uh HAb).2.2.2.2.2).later bkv)
   have HOk := hide (And.intro okv bkv)
   clear okv bkv
   go_wp2_with fail
   refine hK.out _ _ (Or.inr (uh HSk)) ?_
   clear hK K
   try simp only [Act.put, setX]
   refine till_one 5 (by kernel_rfl) rfl (fun K hK => ?_)
   go_simp
   refine (cloneV al ln cl (flat V ln) uk (uh HSK uk (uh HSk)).2 (by omega)).mono ?_
   rintro e ub ⟨lv, rfl, olv, blv⟩
   obtain ⟨la, lc, rfl, _⟩ := slice_form olv
   have HSl := hide ((uh HSk).later blv)
   have HOl := hide (And.intro olv blv)
   clear olv blv
   go_wp2_with fail
   refine hK.out _ _ (Or.inr (uh HSl)) ?_
   clear hK K
   try simp only [Act.put, setX]
   refine till_take 6 (v := .agg #[.int .i64 5, .int .i64 0, .string ⟨#[]⟩, .slice la ln lc, .slice ka m kc]) (some 34) rfl rfl rfl (by kernel_rfl) (by kernel_rfl) (by kernel_rfl) (by kernel_rfl) (fun _ _ _ h => h) (Or.inl ⟨by rfl, fun u hu => by go_simp⟩) (uh HSl) ?_
   try simp only [Act.put, setX]
   have HX : Hid (ub.heap[gb]? = some (.cells #[.int .i64 0, .int .i64 0, .string ⟨#[]⟩, .slice none 0 0, .slice none 0 0] 25 (0, 0)) ∧ g + 3 ≤ gb ∧ Wz w ub g #[.int .i64 5, .int .i64 n, .string s, .slice al ln cl, .slice ak m ck] #[.int .i64 xk, .int .i64 xn, .string xs, .slice xal xln xcl, .slice xak xm xck] #[.int .i64 0, .int .i64 0, .string ⟨#[]⟩, .slice none 0 0, .slice none 0 0] ∧ ub.ownsRow (g + 3) 9 1 (.slice ka m kc) m (ks.map Value.string) ∧ ub.ownsRow (g + 3) 25 5 (.slice la ln lc) ln (flat V ln) ∧ (∀ b, (Value.slice la ln lc).ownBlock = some b → b ≠ gb) ∧ (∀ b, (Value.slice ka m kc).ownBlock = some b → b ≠ gb)) := hide (by
    have z0 := (uh HS0).size
    have z1 := (uh HOk).2.size
    have z2 := (uh HOl).2.size
    have e := (uh HAb).2.2.1
    have e2 := (uh HAb).2.2.2.1
    exact ⟨((uh HOl).2.block gb (by omega)).trans (((uh HOk).2.block gb (by omega)).trans (uh HAb).1), (uh HAb).2.1, uh HSl, own_below (own_base (uh HOk).1 (by omega)) (uh HOl).2, own_base (uh HOl).1 (by omega), fun b hb h => by have := ((uh HOl).1.lt b hb).1; omega, fun b hb h => by have := ((uh HOk).1.lt b hb).1; omega⟩)
   refine till_one 8 (by kernel_rfl) rfl (fun K hK => ?_)
   obtain ⟨d0, d1, d2, d3, d4⟩ := row_cell (uh HX).1
   have f0 : ub.frozen? ⟨gb, 0, none⟩ = false := frozen_of_row ub gb 0 _ _ (uh HX).1
   have f1 : ub.frozen? ⟨gb, 1, none⟩ = false := frozen_of_row ub gb 1 _ _ (uh HX).1
   have f2 : ub.frozen? ⟨gb, 2, none⟩ = false := frozen_of_row ub gb 2 _ _ (uh HX).1
   have f3 : ub.frozen? ⟨gb, 3, none⟩ = false := frozen_of_row ub gb 3 _ _ (uh HX).1
   have f4 : ub.frozen? ⟨gb, 4, none⟩ = false := frozen_of_row ub gb 4 _ _ (uh HX).1
   go_simp
   refine hK.out _ _ (Or.inl rfl) ?_
   clear hK K d0 d1 d2 d3 d4 f0 f1 f2 f3 f4
   try simp only [Act.put, setX]
   refine till_done (by kernel_rfl) ?_ _
   go_wp2_with fail
   go_meet
   exact ⟨gb, ka, kc, la, lc, rfl, hide (w7_store (uh HX).1 (uh HX).2.1 (uh HX).2.2.1 (uh HX).2.2.2.1 (uh HX).2.2.2.2.1 (uh HX).2.2.2.2.2.1 (uh HX).2.2.2.2.2.2)⟩
 case rest =>
  obtain ⟨gb, ka, kc, la, lc, rfl, H7⟩ := hcut
  have CB := hide (search_any ks ka kc wc (own_isK (uh H7).keys (by have := (uh HW).2.2; omega) (uh HKS).2.small).1 (uh HKS).1 key)
  rw [(uh HH).1] at CB
  obtain ⟨d0, d1, d2, d3, d4⟩ := row_cell (uh H7).box
  obtain ⟨c0, c1, c2, c3, c4⟩ := row_cell (uh H7).wz.at1
  clear HZ3 HZu HZ4 hw3
  go_wp2_with fail
  refine (uh CB).mono ?_
  rintro e u5 ⟨L, rfl, hL1, hL2, rfl⟩
  have HL := hide (And.intro hL1 (tw_of ks key L (by rw [(uh HH).1]; exact hL1) hL2))
  clear hL1 hL2 CB
  cases hd : decide (ks[L]? = some key) with
  | false =>
   have HD := hide (of_decide_eq_false hd)
   clear hd
   go_wp2_with fail
   obtain ⟨gv, hgv⟩ : ∃ gv, u5.heap.size = gv := ⟨_, rfl⟩
   obtain ⟨u6, hu6⟩ : ∃ u6, u5.alloc (.cells #[.string key] 9) = u6 := ⟨_, rfl⟩
   have H6 := hide (And.intro (show u6.heap[gv]? = some (.cells [Value.string key].toArray 9 (0, 0)) by rw [← hu6, ← hgv]; exact heap_alloc_new _ _) (And.intro (show W7 w u6 g gb _ _ _ _ _ _ _ _ _ _ _ by rw [← hu6]; exact w7_later (uh H7) ((Below.refl _ _).alloc (Nat.le_refl _) _)) (show ∀ b, (Value.slice ka m kc).ownBlock = some b → b < gv by rw [← hgv]; exact fun b hb => ((uh H7).keys.lt b hb).2)))
   rw [hgv, hu6]
   clear hgv hu6 d0 d1 d2 d3 d4 c0 c1 c2 c3 c4 H7
   refine (insertS (g + 3) (.slice ka m kc) [.string key] (ks.map Value.string) m L gv u6 (uh H6).2.1.keys (uh H6).1 (fun e => by have := (uh H6).2.2 gv e; omega) rfl (by simp; rfl) (fun v hv => by obtain ⟨t, _, rfl⟩ := List.mem_map.1 hv; rfl) (uh HL).1 (by have := (uh HW).2.2; omega) (uh H6).2.1.wz.size).mono ?_
   rintro e u7 ⟨kv, rfl, okv, gkv⟩
   obtain ⟨ka', kc', rfl, _⟩ := slice_form okv
   have f4 : u7.frozen? ⟨gb, 4, none⟩ = false := frozen_of_row u7 gb 4 _ _ ((gkv.far (w7_lt (uh H6).2.1) (fun e => (uh H6).2.1.apK gb e.symm rfl)).trans (uh H6).2.1.box)
   have d4 := (row_cell ((gkv.far (w7_lt (uh H6).2.1) (fun e => (uh H6).2.1.apK gb e.symm rfl)).trans (uh H6).2.1.box)).2.2.2.2
   have H7 := hide (w7_key (uh H6).2.1 okv gkv)
   clear okv gkv H6
   go_upto_region 12 with fail
   obtain ⟨u8, hu8⟩ : ∃ u8, u7.setCell ⟨gb, 4, none⟩ (.slice ka' (m + 1) kc') = u8 := ⟨_, rfl⟩
   rw [hu8] at H7 ⊢
   clear hu8 f4 d4
   obtain ⟨d0, d1, d2, d3, d4⟩ := row_cell (uh H7).box
   obtain ⟨c0, c1, c2, c3, c4⟩ := row_cell (uh H7).wz.at1
   go_wp2_with fail
   obtain ⟨gv2, hgv⟩ : ∃ gv2, u8.heap.size = gv2 := ⟨_, rfl⟩
   obtain ⟨u10, hu10⟩ : ∃ u10, u8.alloc (.cells #[.int .i64 xk, .int .i64 xn, .string xs, .slice xal xln xcl, .slice xak xm xck] 25) = u10 := ⟨_, rfl⟩
   have H6 := hide (And.intro (show u10.heap[gv2]? = some (.cells [Value.int .i64 xk, .int .i64 xn, .string xs, .slice xal xln xcl, .slice xak xm xck].toArray 25 (0, 0)) by rw [← hu10, ← hgv]; exact heap_alloc_new _ _) (And.intro (show W7 w u10 g gb _ _ _ _ _ _ _ _ _ _ _ by rw [← hu10]; exact w7_later (uh H7) ((Below.refl _ _).alloc (Nat.le_refl _) _)) (show ∀ b, (Value.slice la ln lc).ownBlock = some b → b < gv2 by rw [← hgv]; exact fun b hb => ((uh H7).els.lt b hb).2)))
   rw [hgv, hu10]
   clear hgv hu10 d0 d1 d2 d3 d4 c0 c1 c2 c3 c4 H7
   refine (insertV (g + 3) (.slice la ln lc) [.int .i64 xk, .int .i64 xn, .string xs, .slice xal xln xcl, .slice xak xm xck] (flat V ln) ln L gv2 u10 (uh H6).2.1.els (uh H6).1 (fun e => by have := (uh H6).2.2 gv2 e; omega) rfl (fun v hv => by simp at hv; rcases hv with rfl | rfl | rfl | rfl | rfl <;> rfl) (uh HSK u10 (uh H6).2.1.wz).2.one (by have h1 := (uh HL).1; have h2 := (uh HW).2.2; omega) (by omega) (uh H6).2.1.wz.size).mono ?_
   rintro e u11 ⟨lv, rfl, olv, glv⟩
   obtain ⟨la', lc', rfl, _⟩ := slice_form olv
   have f3 : u11.frozen? ⟨gb, 3, none⟩ = false := frozen_of_row u11 gb 3 _ _ ((glv.far (w7_lt (uh H6).2.1) (fun e => (uh H6).2.1.apL gb e.symm rfl)).trans (uh H6).2.1.box)
   have d3 := (row_cell ((glv.far (w7_lt (uh H6).2.1) (fun e => (uh H6).2.1.apL gb e.symm rfl)).trans (uh H6).2.1.box)).2.2.2.1
   have H9 := hide (w7_els (uh H6).2.1 olv glv)
   clear olv glv H6
   go_upto_region 13 with fail
   obtain ⟨u12, hu12⟩ : ∃ u12, u11.setCell ⟨gb, 3, none⟩ (.slice la' (ln + 1) lc') = u12 := ⟨_, rfl⟩
   rw [hu12] at H9 ⊢
   clear hu12 f3 d3
   have HI : Hid (IsV u12 u12.heap.size W (.agg #[.int .i64 5, .int .i64 0, .string ⟨#[]⟩, .slice la' (ln + 1) lc', .slice ka' (m + 1) kc'])) := hide (by
    have hV : ∀ i, i < ln → (V i).length = 5 := fun i hi => (uh HH).2.2.1.hv i (by have := (uh HH).2.1; omega)
    have hk := (uh HW).2.2
    have hLn : L ≤ ln := by have := (uh HL).1; omega
    have h8 := uh H9
    have e : W = .mk 5 0 ⟨#[]⟩ (l.take L ++ x :: l.drop L) (ks.take L ++ key :: ks.drop L) := by
     rw [← (uh HW).1, withV, ← (uh HL).2, if_neg (uh HD)]
    rw [← flat_ins (X := [.int .i64 xk, .int .i64 xn, .string xs, .slice xal xln xcl, .slice xak xm xck]) hV rfl hLn] at h8
    have hkm : (ks.map Value.string).take (L * 1) ++ [Value.string key] ++ (ks.map Value.string).drop (L * 1) = (ks.take L ++ key :: ks.drop L).map Value.string := by simp
    rw [hkm] at h8
    rw [e]
    have hll := (uh HH).2.1
    refine w7_isV (B := B) h8 (by simp only [List.length_append, List.length_take, List.length_cons, List.length_drop]; omega) (fun i hi => ?_) (fun i y hy => ?_) (by omega) (by omega) (by omega) (by omega) (fun t ht => ?_)
    ·unfold insF
     split
     ·exact hV i (by omega)
     ·split
      ·rfl
      ·exact hV (i - 1) (by omega)
    ·unfold insF
     by_cases hi : i < L
     ·rw [if_pos hi]
      rw [List.getElem?_append_left (by rw [List.length_take]; omega), List.getElem?_take_of_lt hi] at hy
      exact (uh HH).2.2.2 i y hy
     ·rw [if_neg hi]
      rw [List.getElem?_append_right (by rw [List.length_take]; omega), List.length_take, show min L l.length = L by omega] at hy
      by_cases hi2 : i = L
      ·rw [if_pos hi2]
       rw [hi2, Nat.sub_self] at hy
       cases hy
       exact (uh HVV w (Below.refl _ _)).2.1
      ·rw [if_neg hi2]
       rw [show i - L = (i - 1 - L) + 1 by omega, List.getElem?_cons_succ, List.getElem?_drop, show L + (i - 1 - L) = i - 1 by omega] at hy
       exact (uh HH).2.2.2 (i - 1) y hy
    ·rcases List.mem_append.1 ht with h1 | h1
     ·exact (uh HKS).2.small t (List.mem_of_mem_take h1)
     ·rcases List.mem_cons.1 h1 with h2 | h2
      ·rw [h2]
       have := (uh HRR).2.2.1
       omega
      ·exact (uh HKS).2.small t (List.mem_of_mem_drop h2))
   have CS := hide (sized_any W _ u12.heap.size u12 (uh HI) (Nat.le_refl _))
   rw [(uh HW).2.1] at CS
   obtain ⟨d0, d1, d2, d3, d4⟩ := row_cell (uh H9).box
   go_wp2_with fail
   refine (uh CS).mono ?_
   rintro e u9 ⟨x', rfl, b9, q1, q2⟩
   obtain ⟨y0, y1, y2, a3, n3, p3, a4, n4, p4, rfl⟩ : ∃ y0 y1 y2 a3 n3 p3 a4 n4 p4, x' = .agg #[.int .i64 y0, .int .i64 y1, .string y2, .slice a3 n3 p3, .slice a4 n4 p4] := by
    cases hR : rightB W with
    | true =>
     obtain ⟨k4, n4, s4, l4, ks4, al4, ak4, cl4, ck4, _, h⟩ := (q1 hR).shape
     exact ⟨_, _, _, _, _, _, _, _, _, h⟩
    | false => exact ⟨_, _, _, _, _, _, _, _, _, q2 hR⟩
   have HQ := hide (And.intro ((uh H9).wz.later b9) (And.intro b9.size (And.intro (uh H9).wz.size (And.intro q1 q2))))
   clear b9 q1 q2 d0 d1 d2 d3 d4 CS
   have ATX : u9.heap[g + 1 + 1]? = some (.cells #[.int .i64 0, .int .i64 0, .string ⟨#[]⟩, .slice none 0 0, .slice none 0 0] 25 (0, 0)) := (uh HQ).1.at2
   obtain ⟨z0, z1, z2, z3, z4⟩ := row_cell ATX
   have fz : ∀ q, u9.frozen? ⟨g + 1 + 1, q, none⟩ = false := fun q => frozen_of_row u9 (g + 1 + 1) q _ _ ATX
   have fz0 := fz 0
   have fz1 := fz 1
   have fz2 := fz 2
   have fz3 := fz 3
   have fz4 := fz 4
   have HAT := hide ATX
   clear fz ATX
   go_wp2_with fail
   have ATX := uh HAT
   have BW : Below g w u9 := (uh HQ).1.below
   have R9 := five_set u9 (g + 1 + 1) 25 _ _ _ _ _ (.int .i64 y0) (.int .i64 y1) (.string y2) (.slice a3 n3 p3) (.slice a4 n4 p4) ATX
   have O9 := five_other u9 (g + 1 + 1) (x0 := .int .i64 y0) (x1 := .int .i64 y1) (x2 := .string y2) (x3 := .slice a3 n3 p3) (x4 := .slice a4 n4 p4)
   have S9 : (((((u9.setCell ⟨g + 1 + 1, 0, none⟩ (.int .i64 y0)).setCell ⟨g + 1 + 1, 1, none⟩ (.int .i64 y1)).setCell ⟨g + 1 + 1, 2, none⟩ (.string y2)).setCell ⟨g + 1 + 1, 3, none⟩ (.slice a3 n3 p3)).setCell ⟨g + 1 + 1, 4, none⟩ (.slice a4 n4 p4)).heap.size = u9.heap.size := by simp
   obtain ⟨w9, hw9⟩ : ∃ w9, (((((u9.setCell ⟨g + 1 + 1, 0, none⟩ (.int .i64 y0)).setCell ⟨g + 1 + 1, 1, none⟩ (.int .i64 y1)).setCell ⟨g + 1 + 1, 2, none⟩ (.string y2)).setCell ⟨g + 1 + 1, 3, none⟩ (.slice a3 n3 p3)).setCell ⟨g + 1 + 1, 4, none⟩ (.slice a4 n4 p4)) = w9 := ⟨_, rfl⟩
   rw [hw9] at R9 S9 ⊢
   have B9 : Below g w w9 := by rw [← hw9]; exact five_below BW (by omega) _ _ _ _ _
   obtain ⟨r0, r1, r2, r3, r4⟩ := row_cell R9
   refine bodyPost_ret (v := .tuple #[.agg #[.int .i64 y0, .int .i64 y1, .string y2, .slice a3 n3 p3, .slice a4 n4 p4], .int .i64 E]) (by simp [results, Tryz.results111, go_sem, r0, r1, r2, r3, r4]) rfl ?_
   have Q9 : rightB W = true → IsQ w9 (fun b => g ≤ b ∧ b < w9.heap.size) W (.agg #[.int .i64 y0, .int .i64 y1, .string y2, .slice a3 n3 p3, .slice a4 n4 p4]) := fun hR => (((uh HQ).2.2.2.1 hR).move (fun q hq => by rw [← hw9]; exact O9 q (by have h1 := hq.1; have h2 := (uh HQ).2.2.1; omega))).weak (fun q hq => ⟨by have h1 := hq.1; have h2 := (uh HQ).2.2.1; omega, by have := hq.2; omega⟩)
   have Q8 := (uh HQ).2.2.2.2
   rw [hg]
   exact ⟨_, rfl, B9, Q9, Q8⟩
  | true =>
   have HD := hide (of_decide_eq_true hd)
   clear hd
   have hlt : L < ln := by
    have h1 := (List.getElem?_eq_some_iff.1 (uh HD)).1
    have h2 := (uh HH).1
    have h3 := (uh HW).2.2
    omega
   have l1 : (L : Int) < (ln : Int) := by omega
   have l0 : (0 : Int) ≤ (L : Int) := by omega
   obtain ⟨b, rfl⟩ : ∃ b, la = some ⟨b, 0, none⟩ := by
    rcases (uh H7).els.2 with ⟨h, e⟩ | ⟨b, c, cur, h, _⟩
    ·omega
    ·cases h
     exact ⟨b, rfl⟩
   have hfl : (flat V ln).length = ln * 5 := (uh H7).els.1
   have gt : ∀ j, j < 5 → ∃ z, u5.cell? ⟨b, L * 5 + j, none⟩ = some z := fun j hj => ⟨_, ((uh H7).els.cellAt (L * 5 + j) (by omega)).trans (List.getElem?_eq_getElem (by omega))⟩
   obtain ⟨t0, e0⟩ := gt 0 (by omega)
   obtain ⟨t1, e1⟩ := gt 1 (by omega)
   obtain ⟨t2, e2⟩ := gt 2 (by omega)
   obtain ⟨t3, e3⟩ := gt 3 (by omega)
   obtain ⟨t4, e4⟩ := gt 4 (by omega)
   rw [Nat.add_zero] at e0
   have f0 := (uh H7).els.frozenAt (L * 5)
   have f1 := (uh H7).els.frozenAt (L * 5 + 1)
   have f2 := (uh H7).els.frozenAt (L * 5 + 2)
   have f3 := (uh H7).els.frozenAt (L * 5 + 3)
   have f4 := (uh H7).els.frozenAt (L * 5 + 4)
   have H8 := hide (w7_set (L := L) (uh H7) (.int .i64 xk) (.int .i64 xn) (.string xs) (.slice xal xln xcl) (.slice xak xm xck))
   clear gt hfl
   go_upto_region 13 with fail
   clear e0 e1 e2 e3 e4 f0 f1 f2 f3 f4 d0 d1 d2 d3 d4 c0 c1 c2 c3 c4 H7
   obtain ⟨u8, hu8⟩ : ∃ u8, (((((u5.setCell ⟨b, L * 5, none⟩ (.int .i64 xk)).setCell ⟨b, L * 5 + 1, none⟩ (.int .i64 xn)).setCell ⟨b, L * 5 + 2, none⟩ (.string xs)).setCell ⟨b, L * 5 + 3, none⟩ (.slice xal xln xcl)).setCell ⟨b, L * 5 + 4, none⟩ (.slice xak xm xck)) = u8 := ⟨_, rfl⟩
   rw [hu8] at H8 ⊢
   clear hu8 u5
   have HI : Hid (IsV u8 u8.heap.size W (.agg #[.int .i64 5, .int .i64 0, .string ⟨#[]⟩, .slice (some ⟨b, 0, none⟩) ln lc, .slice ka m kc])) := hide (by
    have hV : ∀ i, i < ln → (V i).length = 5 := fun i hi => (uh HH).2.2.1.hv i (by have := (uh HH).2.1; omega)
    have h8 := uh H8
    rw [← flat_set5 hV hlt] at h8
    have e : W = .mk 5 0 ⟨#[]⟩ (l.set L x) ks := by
     rw [← (uh HW).1, withV, ← (uh HL).2, if_pos (uh HD)]
    rw [e]
    have hk := (uh HW).2.2
    refine w7_isV (B := B) h8 (by rw [List.length_set]; exact (uh HH).2.1) (fun i hi => ?_) (fun i y hy => ?_) (by omega) (by omega) (by omega) (by omega) (uh HKS).2.small
    ·unfold setF
     split
     ·rfl
     ·exact hV i hi
    ·unfold setF
     rw [List.getElem?_set] at hy
     by_cases hi : L = i
     ·subst hi
      rw [if_pos rfl]
      rw [if_pos rfl, if_pos (by have := (uh HH).2.1; omega)] at hy
      cases hy
      exact (uh HVV w (Below.refl _ _)).2.1
     ·rw [if_neg hi] at hy
      rw [if_neg (fun h => hi h.symm)]
      exact (uh HH).2.2.2 i y hy)
   have CS := hide (sized_any W _ u8.heap.size u8 (uh HI) (Nat.le_refl _))
   rw [(uh HW).2.1] at CS
   obtain ⟨d0, d1, d2, d3, d4⟩ := row_cell (uh H8).box
   go_wp2_with fail
   refine (uh CS).mono ?_
   rintro e u9 ⟨x', rfl, b9, q1, q2⟩
   obtain ⟨y0, y1, y2, a3, n3, p3, a4, n4, p4, rfl⟩ : ∃ y0 y1 y2 a3 n3 p3 a4 n4 p4, x' = .agg #[.int .i64 y0, .int .i64 y1, .string y2, .slice a3 n3 p3, .slice a4 n4 p4] := by
    cases hR : rightB W with
    | true =>
     obtain ⟨k4, n4, s4, l4, ks4, al4, ak4, cl4, ck4, _, h⟩ := (q1 hR).shape
     exact ⟨_, _, _, _, _, _, _, _, _, h⟩
    | false => exact ⟨_, _, _, _, _, _, _, _, _, q2 hR⟩
   have HQ := hide (And.intro ((uh H8).wz.later b9) (And.intro b9.size (And.intro (uh H8).wz.size (And.intro q1 q2))))
   clear b9 q1 q2 d0 d1 d2 d3 d4 CS
   have ATX : u9.heap[g + 1 + 1]? = some (.cells #[.int .i64 0, .int .i64 0, .string ⟨#[]⟩, .slice none 0 0, .slice none 0 0] 25 (0, 0)) := (uh HQ).1.at2
   obtain ⟨z0, z1, z2, z3, z4⟩ := row_cell ATX
   have fz : ∀ q, u9.frozen? ⟨g + 1 + 1, q, none⟩ = false := fun q => frozen_of_row u9 (g + 1 + 1) q _ _ ATX
   have fz0 := fz 0
   have fz1 := fz 1
   have fz2 := fz 2
   have fz3 := fz 3
   have fz4 := fz 4
   have HAT := hide ATX
   clear fz ATX
   go_wp2_with fail
   have ATX := uh HAT
   have BW : Below g w u9 := (uh HQ).1.below
   have R9 := five_set u9 (g + 1 + 1) 25 _ _ _ _ _ (.int .i64 y0) (.int .i64 y1) (.string y2) (.slice a3 n3 p3) (.slice a4 n4 p4) ATX
   have O9 := five_other u9 (g + 1 + 1) (x0 := .int .i64 y0) (x1 := .int .i64 y1) (x2 := .string y2) (x3 := .slice a3 n3 p3) (x4 := .slice a4 n4 p4)
   have S9 : (((((u9.setCell ⟨g + 1 + 1, 0, none⟩ (.int .i64 y0)).setCell ⟨g + 1 + 1, 1, none⟩ (.int .i64 y1)).setCell ⟨g + 1 + 1, 2, none⟩ (.string y2)).setCell ⟨g + 1 + 1, 3, none⟩ (.slice a3 n3 p3)).setCell ⟨g + 1 + 1, 4, none⟩ (.slice a4 n4 p4)).heap.size = u9.heap.size := by simp
   obtain ⟨w9, hw9⟩ : ∃ w9, (((((u9.setCell ⟨g + 1 + 1, 0, none⟩ (.int .i64 y0)).setCell ⟨g + 1 + 1, 1, none⟩ (.int .i64 y1)).setCell ⟨g + 1 + 1, 2, none⟩ (.string y2)).setCell ⟨g + 1 + 1, 3, none⟩ (.slice a3 n3 p3)).setCell ⟨g + 1 + 1, 4, none⟩ (.slice a4 n4 p4)) = w9 := ⟨_, rfl⟩
   rw [hw9] at R9 S9 ⊢
   have B9 : Below g w w9 := by rw [← hw9]; exact five_below BW (by omega) _ _ _ _ _
   obtain ⟨r0, r1, r2, r3, r4⟩ := row_cell R9
   refine bodyPost_ret (v := .tuple #[.agg #[.int .i64 y0, .int .i64 y1, .string y2, .slice a3 n3 p3, .slice a4 n4 p4], .int .i64 E]) (by simp [results, Tryz.results111, go_sem, r0, r1, r2, r3, r4]) rfl ?_
   have Q9 : rightB W = true → IsQ w9 (fun b => g ≤ b ∧ b < w9.heap.size) W (.agg #[.int .i64 y0, .int .i64 y1, .string y2, .slice a3 n3 p3, .slice a4 n4 p4]) := fun hR => (((uh HQ).2.2.2.1 hR).move (fun q hq => by rw [← hw9]; exact O9 q (by have h1 := hq.1; have h2 := (uh HQ).2.2.1; omega))).weak (fun q hq => ⟨by have h1 := hq.1; have h2 := (uh HQ).2.2.1; omega, by have := hq.2; omega⟩)
   have Q8 := (uh HQ).2.2.2.2
   rw [hg]
   exact ⟨_, rfl, B9, Q9, Q8⟩
end Go.Proofs.YtgkmdjmigehmeaaGreatDoor
