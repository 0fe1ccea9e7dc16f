/-
  The walk of the statement HashWrites: every answer of several Hashes, New, Write, Sum and Copy in any order; conditions: the package's variables, at most 2^20 operations, their texts together at most 2^20 long.
-/
import Derived.Test.YtfmbaidpeliakaaDoorHDidW
import Derived.Test.YtfmbaidpeliakaaDoorHDidS
import Derived.Test.YtfmbaidpeliakaaDoorHNone
namespace Go.Proofs.YtfmbaidpeliakaaDoor
open Go.RowKit
set_option linter.unusedVariables false
set_option linter.unusedSimpArgs false

/-- an operation -/
abbrev Opn := Int × Int × ByteArray

def sumS : List Opn → Nat
  | [] => 0
  | o :: r => o.2.2.size + sumS r

theorem sumS_app (a b : List Opn) : sumS (a ++ b) = sumS a + sumS b := by
  induction a with
  | nil => simp [sumS]
  | cons x r ih => simp [sumS, ih]; omega

theorem sumS_next (l : List Opn) (i : Nat) (o : Opn) (h : l[i]? = some o) : sumS (l.take (i + 1)) = sumS (l.take i) + o.2.2.size := by
  obtain ⟨hi, rfl⟩ := List.getElem?_eq_some_iff.1 h
  rw [List.take_succ_eq_append_getElem hi, sumS_app]
  simp [sumS]

theorem sumS_le (l : List Opn) (i : Nat) : sumS (l.take i) ≤ sumS l := by
  have h := sumS_app (l.take i) (l.drop i)
  rw [List.take_append_drop] at h
  omega

theorem did_any {t0 tK : TypeId} (w wr : World) (lv : Value) (ls : List Bk) (c h : Int) (s : ByteArray) (hp : Pkg w t0 tK KS) (hB : Books w wr lv ls) (h1 : 1 ≤ ls.length) (h2 : ls.length ≤ 2000000) (hc : -9223372036854775808 ≤ c ∧ c ≤ 9223372036854775807) (hh : -9223372036854775808 ≤ h ∧ h ≤ 9223372036854775807) (hsz : s.size ≤ 140737488351232) (hlz : ∀ p ∈ ls, p.2.size ≤ 140737488351232) :
    Calls Tryd.prog 8 #[lv, .agg #[.int .i64 c, .int .i64 h, .string s]] wr fun e w' => ResDid w ls s e w' := by
  have hk := pick_range c 4 (by omega)
  rcases (show pickI c 4 = 0 ∨ pickI c 4 = 1 ∨ pickI c 4 = 2 ∨ pickI c 4 = 3 by omega) with k | k | k | k
  · exact did_new w wr lv ls c h s hp hB h1 h2 hc hh k
  · exact did_write w wr lv ls c h s hp hB h1 h2 hc hh k hsz hlz
  · exact did_sum w wr lv ls c h s hp hB h1 h2 hc hh k hlz
  · exact did_copy w wr lv ls c h s hp hB h1 h2 hc hh k

/-- the first book -/
theorem books_one (w u : World) (g : Nat) (hH : Has u g KS []) (hg : w.heap.size ≤ g) (hb : Below w.heap.size w u) : Books w (u.alloc (.cells #[.pointer (some ⟨g, 0, none⟩), .string ⟨#[]⟩] 30)) (.slice (some ⟨u.heap.size, 0, none⟩) 1 1) [(g, ⟨#[]⟩)] := by
  have hlt := hH.lt
  refine ⟨World.ownsRow_lit (e := 30) (size := 2) u #[.pointer (some ⟨g, 0, none⟩), .string ⟨#[]⟩] 1 hb.size (by unfold maxLen; omega) rfl, fun i p hp => ?_, fun i j p q hp hq hij => ?_, hb.alloc hb.size _⟩
  · have hi : i = 0 := by have := (List.getElem?_eq_some_iff.1 hp).1; simpa using this
    subst hi
    simp at hp
    subst hp
    refine ⟨?_, hg, fun e => ?_⟩
    · rw [txt_nil]; exact hH.block (heap_alloc_old u _ hlt)
    · have : u.heap.size = g := Option.some.inj e
      omega
  · have hi : i = 0 := by have := (List.getElem?_eq_some_iff.1 hp).1; simpa using this
    have hj : j = 0 := by have := (List.getElem?_eq_some_iff.1 hq).1; simpa using this
    omega

set_option maxRecDepth 100000 in
set_option maxHeartbeats 2000000 in
theorem writes_walk {t0 tK : TypeId} (ma : Option Addr) (L C : Nat) (ops : List Opn) (w : World) (hp : Pkg w t0 tK KS) (hl : ops.length = L) (hLC : L ≤ C) (hC : C ≤ 140737488351232) (hL : L ≤ 1048576) (hn : ma = none → L = 0)
    (hc : ∀ a, ma = some a → ∀ i (o : Opn), ops[i]? = some o → ∀ j v, [Value.int .i64 o.1, .int .i64 o.2.1, .string o.2.2][j]? = some v → w.cell? ((a.add (i * 3)).add j) = some v) (hs : ∀ o ∈ ops, (-9223372036854775808 ≤ o.1 ∧ o.1 ≤ 9223372036854775807) ∧ (-9223372036854775808 ≤ o.2.1 ∧ o.2.1 ≤ 9223372036854775807)) (hS : sumS ops ≤ 1048576) :
    Calls Tryd.prog 3 #[.slice ma L C] w fun e w' => e = .returned (.bool true) ∧ Below w.heap.size w w' := by
  obtain ⟨D0, HD0⟩ : ∃ D, Hid (digM KS [] = D) := ⟨_, rfl⟩
  have LD0 : Hid (D0.length = 32) := hide (by rw [← unhide HD0]; exact digM_len _ _)
  have HP := hide hp
  have hK1 := hp.lt
  have CN := hide (new_has w hp)
  have C0 := fun u => hide (none_any u)
  have C0b := fun w' => hide (refSum_any none 0 0 [] w' (fun u _ => ⟨rfl, fun _ => ⟨rfl, rfl⟩, fun ad h => by cases h⟩) (fun y h => by cases h) (by omega))
  rw [unhide HD0] at C0b
  have HTS := hide (And.intro hl (And.intro hn (And.intro hc (And.intro hs hS))))
  clear hp hl hn hc hs hS
  have tok0 : True := trivial
  go_enter Tryd.func3, Tryd.ntmps3
  go_wp2_with fail
  refine (unhide CN).mono ?_
  rintro e w1 ⟨rfl, a1, z1, b1⟩
  obtain ⟨g0, hg0⟩ : ∃ g, w.heap.size = g := ⟨_, rfl⟩
  rw [hg0] at a1 ⊢
  have H1 := hide (And.intro a1 b1)
  clear a1 b1 z1 CN
  go_wp2_with fail
  refine (unhide (C0 w1)).mono ?_
  rintro e w2 ⟨rfl, b2⟩
  have H2 : Hid (Has w2 g0 KS [] ∧ Below w.heap.size w w2) := hide ⟨(unhide H1).1.below b2, (unhide H1).2.trans (b2.mono (unhide H1).2.size)⟩
  clear b2 H1
  have CS := hide (sum_has w2 (unhide H2).1 ((unhide HP).later (unhide H2).2 hK1) (by simp))
  rw [unhide HD0] at CS
  go_wp2_with fail
  refine (unhide CS).mono ?_
  rintro e w3 ⟨rfl, b3⟩
  have H3 : Hid (Has w3 g0 KS [] ∧ Below w.heap.size w w3) := hide ⟨(unhide H2).1.below b3, (unhide H2).2.trans (b3.mono (unhide H2).2.size)⟩
  clear b3 H2 CS
  go_wp2_with fail
  refine (unhide (C0b w3)).mono ?_
  rintro e w4 ⟨rfl, b4⟩
  have H4 : Hid (Has w4 g0 KS [] ∧ Below w.heap.size w w4) := hide ⟨(unhide H3).1.below b4, (unhide H3).2.trans (b4.mono (unhide H3).2.size)⟩
  clear b4 H3
  have HB : Hid (Books w (w4.alloc (.cells #[.pointer (some ⟨g0, 0, none⟩), .string ⟨#[]⟩] 30)) (.slice (some ⟨w4.heap.size, 0, none⟩) 1 1) [(g0, ⟨#[]⟩)]) := hide (books_one w w4 g0 (unhide H4).1 (by omega) (unhide H4).2)
  clear H4
  go_wp2_with (first
    | (have _t := tok0; refine wpList_neq_arrG rfl 26 26 (.tmp 16) (.tmp 17) rfl D0 D0 32 5 rfl rfl guard32 Tryd.underlying26 Tryd.underlying5 s1b (unhide LD0) (unhide LD0) true (by simp) ?_; clear tok0; rw [show (!true) = false from rfl]))
  go_loopw [5, 6] (fun x y wr => ∃ (i : Nat) (ls : List Bk), y = .int .i64 (i : Int) ∧ Hid (i ≤ L ∧ 1 ≤ ls.length ∧ ls.length ≤ i + 1) ∧ Hid (Books w wr x ls ∧ ∀ p ∈ ls, p.2.size ≤ sumS (ops.take i))) (fun _ y _ => L - (intOf y).toNat)
  case atStart => exact ⟨0, [(g0, ⟨#[]⟩)], rfl, hide ⟨by omega, by simp, by simp⟩, hide ⟨unhide HB, fun p hp => by simp at hp; subst hp; exact Nat.zero_le _⟩⟩
  case round =>
    clear HB HD0 LD0
    obtain ⟨i, ls, rfl, HI, HB⟩ := hrel
    by_cases hlt : i < L
    · have i1 : (i : Int) < (L : Int) := by omega
      have HI1 : Hid (i + 1 ≤ L) := hide (by omega)
      obtain ⟨⟨oc, oh, os⟩, ho⟩ : ∃ o, ops[i]? = some o := ⟨_, List.getElem?_eq_getElem (by have := (unhide HTS).1; omega)⟩
      obtain ⟨a, rfl⟩ : ∃ a, ma = some a := by
        cases ma with
        | none => have := (unhide HTS).2.1 rfl; omega
        | some a => exact ⟨a, rfl⟩
      have hcell := (unhide HTS).2.2.1 a rfl i _ ho
      have hb := (unhide HB).1.below
      have hx : ∀ (j : Nat) (v : Value), [Value.int .i64 oc, .int .i64 oh, .string os][j]? = some v → wr.cell? ((a.add (i * 3)).add j) = some v := fun j v hv => (hb.cell (World.block_lt_of_cell? _ _ (by rw [hcell j v hv]))).trans (hcell j v hv)
      have e0 : wr.cell? (a.add (i * 3)) = some (.int .i64 oc) := hx 0 _ rfl
      have e1 : wr.cell? ⟨(a.add (i * 3)).block, (a.add (i * 3)).off + 1, none⟩ = some (.int .i64 oh) := hx 1 _ rfl
      have e2 : wr.cell? ⟨(a.add (i * 3)).block, (a.add (i * 3)).off + 2, none⟩ = some (.string os) := hx 2 _ rfl
      have hbo := (unhide HTS).2.2.2.1 _ (List.mem_of_getElem? ho)
      have hnx := sumS_next ops i _ ho
      have hle1 := sumS_le ops i
      have hle2 := sumS_le ops (i + 1)
      have hS := (unhide HTS).2.2.2.2
      dsimp only at hbo hnx
      have CD := hide (did_any w wr u5 ls oc oh os (unhide HP) (unhide HB).1 (unhide HI).2.1 (by have := (unhide HI).2.2; omega) hbo.1 hbo.2 (by omega) (fun p hp => by have := (unhide HB).2 p hp; omega))
      have HX := hide hnx
      clear hcell hb hbo hnx ho hx
      go_wp2_with fail
      refine (unhide CD).mono ?_
      rintro e w6 ⟨lv', ls', rfl, q1, q2, q3, q4⟩
      have HB' : Hid (Books w w6 lv' ls' ∧ ∀ p ∈ ls', p.2.size ≤ sumS (ops.take (i + 1))) := hide ⟨q1, fun p hp => by rw [unhide HX]; exact q4 _ (unhide HB).2 p hp⟩
      have HI' : Hid (i + 1 ≤ L ∧ 1 ≤ ls'.length ∧ ls'.length ≤ i + 1 + 1) := hide ⟨unhide HI1, by have := (unhide HI).2.1; omega, by have := (unhide HI).2.2; omega⟩
      clear q1 q2 q3 q4 CD
      go_wp2_with fail
      go_roundw
      case rel => exact ⟨i + 1, ls', by go_num, HI', HB'⟩
      case measure => have := unhide HI1; simp [intOf]; omega
    · have i1 : ¬ (i : Int) < (L : Int) := by omega
      obtain ⟨b, cap, hlv, hb1, hb2, hcap, _, _, _⟩ := (unhide HB).1.at (by have := (unhide HI).2.1; omega)
      obtain ⟨m, hm⟩ : ∃ m, ls.length = m := ⟨_, rfl⟩
      rw [hm] at hlv hcap
      subst hlv
      have hm2 : m ≤ 2000000 := by have := unhide HI; omega
      have HM := hide hm
      have hS := (unhide HTS).2.2.2.2
      have hle1 := sumS_le ops i
      have HZ : Hid (∀ p ∈ ls, p.2.size ≤ 1048576) := hide (fun p hp => by have := (unhide HB).2 p hp; omega)
      have HB0 := hide (unhide HB).1
      clear HB hm HI
      go_wp2_with fail
      go_loopw [9] (fun x wr => ∃ (j : Nat), x = .int .i64 (j : Int) ∧ Hid (j ≤ m) ∧ Hid (Books w wr (.slice (some ⟨b, 0, none⟩) m cap) ls)) (fun x _ => m - (intOf x).toNat)
      case atStart => exact ⟨0, rfl, hide (by omega), HB0⟩
      case round =>
        clear HB0
        obtain ⟨k, rfl, HI, HB⟩ := hrel
        by_cases hkm : k < m
        · have j1 : (k : Int) < (m : Int) := by omega
          have j2 : (0 : Int) ≤ (k : Int) := by omega
          have HI1 : Hid (k + 1 ≤ m) := hide (by omega)
          obtain ⟨wq, hwq⟩ : ∃ wq, wq = wr := ⟨_, rfl⟩
          subst hwq
          obtain ⟨⟨g, T⟩, hpk⟩ : ∃ p, ls[k]? = some p := ⟨_, List.getElem?_eq_getElem (by have := unhide HM; omega)⟩
          have hTs := unhide HZ _ (List.mem_of_getElem? hpk)
          dsimp only at hTs
          obtain ⟨_, _, e3, _, _, _, _, _, hcl⟩ := (unhide HB).at (by have := unhide HM; omega)
          rw [unhide HM] at e3
          cases e3
          obtain ⟨d0, d1⟩ := hcl k _ hpk
          dsimp only at d0 d1
          have hgb := (unhide HB).has k _ hpk
          dsimp only at hgb
          have hbw : b < wq.heap.size := World.block_lt_of_cell? _ _ (by rw [d1])
          have CD0 : Hid (∀ u, Below wq.heap.size wq u → u.cell? ⟨b, k * 2, none⟩ = some (.pointer (some ⟨g, 0, none⟩)) ∧ u.cell? ⟨b, k * 2 + 1, none⟩ = some (.string T)) := hide (fun u hu => ⟨(hu.cell (p := ⟨b, k * 2, none⟩) hbw).trans d0, (hu.cell (p := ⟨b, k * 2 + 1, none⟩) hbw).trans d1⟩)
          obtain ⟨D, HD⟩ : ∃ D, Hid (digM KS (txt T) = D) := ⟨_, rfl⟩
          have LD : Hid (D.length = 32) := hide (by rw [← unhide HD]; exact digM_len _ _)
          have HPq : Hid (∀ u, Below wq.heap.size wq u → Pkg u t0 tK KS) := hide (fun u hu => ((unhide HP).later (unhide HB).below hK1).later hu (by have := (unhide HB).below.size; omega))
          have CS : ∀ u, Below wq.heap.size wq u → Hid (Calls Tryd.prog 6 #[.pointer (some ⟨g, 0, none⟩)] u fun e w'' => e = .returned (.agg (D.map (Value.int .u8)).toArray) ∧ Below u.heap.size u w'') := fun u hu => hide (by
            have k := sum_has u (hgb.1.below hu) (unhide HPq u hu) (by rw [txt_len]; omega)
            rw [unhide HD] at k
            exact k)
          have CR : ∀ u w' cap, Hid (Fresh u w' T cap) → ∀ v, Below w'.heap.size w' v → Hid (Calls Tryd.prog 7 #[.slice (some ⟨u.heap.size, 0, none⟩) T.size cap] v fun e w'' => e = .returned (.agg (D.map (Value.int .u8)).toArray) ∧ Below v.heap.size v w'') := fun u w' cap F v hv => hide (by
            have k := ref_has u w' v (unhide F) hv (by omega)
            rw [unhide HD] at k
            exact k)
          have CW : ∀ u, Below wq.heap.size wq u → Hid (Calls Tryd.prog 9 #[.pointer (some ⟨g, 0, none⟩), .slice none 0 0] u fun e w'' => e = .returned (.int .i64 (T.size : Int)) ∧ Below u.heap.size u w'') := fun u hu => hide (by
            have k := write_none u (hgb.1.below hu) (unhide HPq u hu) (by have := hgb.2.1; omega) (by rw [txt_len]; omega)
            rw [txt_len] at k
            exact k)
          clear hcl d0 d1 hpk
          go_upto_region 16 with fail
          go_cut [87] from 51 to 88 (fun r wx => r = .bool false ∧ Hid (Below wq.heap.size wq wx))
          case first =>
            refine wp_region_held_drew (S := fun w' => Below wq.heap.size wq w') (by kernel_rfl) ((Below.refl _ _).drew) (fun hH => ?_)
            refine take_at 0 (v := .slice (some ⟨b, 0, none⟩) m cap) (some 51) rfl rfl (by kernel_rfl) (by kernel_rfl) (by kernel_rfl) (fun _ _ _ h => h) (yields_moveG (.tmp 5) (Or.inl rfl) rfl rfl) hH ?_
            simp only [Act.put, List.setIfInBounds_toArray, List.set_cons_zero, List.set_cons_succ]
            refine take_at 1 (v := .int .i64 (k : Int)) (some 52) rfl rfl (by kernel_rfl) (by kernel_rfl) (by kernel_rfl) (fun _ _ _ h => h) (yields_moveG (.tmp 9) (Or.inl rfl) rfl rfl) hH ?_
            simp only [Act.put, List.setIfInBounds_toArray, List.set_cons_zero, List.set_cons_succ]
            refine take_at 2 (v := .pointer (some ⟨b, k * 2, none⟩)) (some 53) rfl rfl (by kernel_rfl) (by kernel_rfl) (by kernel_rfl) (fun _ _ _ h => h) (Or.inl ⟨by rfl, fun u hu => by go_simp⟩) hH ?_
            simp only [Act.put, List.setIfInBounds_toArray, List.set_cons_zero, List.set_cons_succ]
            refine take_at 3 (v := .pointer (some ⟨b, k * 2, none⟩)) (some 54) rfl rfl (by kernel_rfl) (by kernel_rfl) (by kernel_rfl) (fun _ _ _ h => h) (Or.inl ⟨by rfl, fun u hu => by go_simp⟩) hH ?_
            simp only [Act.put, List.setIfInBounds_toArray, List.set_cons_zero, List.set_cons_succ]
            refine take_at 4 (v := .pointer (some ⟨g, 0, none⟩)) (some 55) rfl rfl (by kernel_rfl) (by kernel_rfl) (by kernel_rfl) (fun _ _ _ h => h) (Or.inl ⟨by rfl, fun u hu => by have cu := (unhide CD0 u hu).1; go_simp⟩) hH ?_
            simp only [Act.put, List.setIfInBounds_toArray, List.set_cons_zero, List.set_cons_succ]
            refine take_at 5 (v := .bool false) (some 56) rfl rfl (by kernel_rfl) (by kernel_rfl) (by kernel_rfl) (fun _ _ _ h => h) (Or.inl ⟨by rfl, fun u hu => by go_simp⟩) hH ?_
            simp only [Act.put, List.setIfInBounds_toArray, List.set_cons_zero, List.set_cons_succ]
            refine take_at 6 (v := .bool false) (some 57) rfl rfl (by kernel_rfl) (by kernel_rfl) (by kernel_rfl) (fun _ _ _ h => h) (yields_moveG (.tmp 56) (Or.inl rfl) rfl rfl) hH ?_
            simp only [Act.put, List.setIfInBounds_toArray, List.set_cons_zero, List.set_cons_succ]
            refine take_at 7 (v := .slice (some ⟨b, 0, none⟩) m cap) (some 58) rfl rfl (by kernel_rfl) (by kernel_rfl) (by kernel_rfl) (fun _ _ _ h => h) (yields_moveG (.tmp 5) (Or.inl rfl) rfl rfl) hH ?_
            simp only [Act.put, List.setIfInBounds_toArray, List.set_cons_zero, List.set_cons_succ]
            refine take_at 8 (v := .int .i64 (k : Int)) (some 59) rfl rfl (by kernel_rfl) (by kernel_rfl) (by kernel_rfl) (fun _ _ _ h => h) (yields_moveG (.tmp 9) (Or.inl rfl) rfl rfl) hH ?_
            simp only [Act.put, List.setIfInBounds_toArray, List.set_cons_zero, List.set_cons_succ]
            refine take_at 9 (v := .pointer (some ⟨b, k * 2, none⟩)) (some 60) rfl rfl (by kernel_rfl) (by kernel_rfl) (by kernel_rfl) (fun _ _ _ h => h) (Or.inl ⟨by rfl, fun u hu => by go_simp⟩) hH ?_
            simp only [Act.put, List.setIfInBounds_toArray, List.set_cons_zero, List.set_cons_succ]
            refine take_at 10 (v := .pointer (some ⟨b, k * 2, none⟩)) (some 61) rfl rfl (by kernel_rfl) (by kernel_rfl) (by kernel_rfl) (fun _ _ _ h => h) (Or.inl ⟨by rfl, fun u hu => by go_simp⟩) hH ?_
            simp only [Act.put, List.setIfInBounds_toArray, List.set_cons_zero, List.set_cons_succ]
            refine take_at 11 (v := .pointer (some ⟨g, 0, none⟩)) (some 62) rfl rfl (by kernel_rfl) (by kernel_rfl) (by kernel_rfl) (fun _ _ _ h => h) (Or.inl ⟨by rfl, fun u hu => by have cu := (unhide CD0 u hu).1; go_simp⟩) hH ?_
            simp only [Act.put, List.setIfInBounds_toArray, List.set_cons_zero, List.set_cons_succ]
            refine take_at 13 (v := .slice (some ⟨b, 0, none⟩) m cap) (some 64) rfl rfl (by kernel_rfl) (by kernel_rfl) (by kernel_rfl) (fun _ _ _ h => h) (yields_moveG (.tmp 5) (Or.inl rfl) rfl rfl) hH ?_
            simp only [Act.put, List.setIfInBounds_toArray, List.set_cons_zero, List.set_cons_succ]
            refine take_at 14 (v := .int .i64 (k : Int)) (some 65) rfl rfl (by kernel_rfl) (by kernel_rfl) (by kernel_rfl) (fun _ _ _ h => h) (yields_moveG (.tmp 9) (Or.inl rfl) rfl rfl) hH ?_
            simp only [Act.put, List.setIfInBounds_toArray, List.set_cons_zero, List.set_cons_succ]
            refine take_at 15 (v := .pointer (some ⟨b, k * 2, none⟩)) (some 66) rfl rfl (by kernel_rfl) (by kernel_rfl) (by kernel_rfl) (fun _ _ _ h => h) (Or.inl ⟨by rfl, fun u hu => by go_simp⟩) hH ?_
            simp only [Act.put, List.setIfInBounds_toArray, List.set_cons_zero, List.set_cons_succ]
            refine take_at 16 (v := .pointer (some ⟨b, k * 2 + 1, none⟩)) (some 67) rfl rfl (by kernel_rfl) (by kernel_rfl) (by kernel_rfl) (fun _ _ _ h => h) (Or.inl ⟨by rfl, fun u hu => by go_simp⟩) hH ?_
            simp only [Act.put, List.setIfInBounds_toArray, List.set_cons_zero, List.set_cons_succ]
            refine take_at 17 (v := .string T) (some 68) rfl rfl (by kernel_rfl) (by kernel_rfl) (by kernel_rfl) (fun _ _ _ h => h) (Or.inl ⟨by rfl, fun u hu => by have cu := (unhide CD0 u hu).2; go_simp⟩) hH ?_
            simp only [Act.put, List.setIfInBounds_toArray, List.set_cons_zero, List.set_cons_succ]
            refine wpAnyH_ready (rs := [12, 18]) (by kernel_rfl) (by simp) ?_
            refine AllReadyH.cons rfl (fun KK hKK => ?_) (AllReadyH.cons rfl (fun KK hKK => ?_) AllReadyH.nil)
            · go_simp
              refine (unhide (CS _ hH)).mono ?_
              rintro e y1 ⟨rfl, b1⟩
              go_wp2_with fail
              refine hKK.out _ _ (hH.trans (b1.mono hH.size)) (fun hH1 => ?_)
              clear hKK KK
              try simp only [Act.put, List.setIfInBounds_toArray, List.set_cons_zero, List.set_cons_succ]
              refine wpAnyH_ready (rs := [18]) (by kernel_rfl) (by simp) ?_
              refine AllReadyH.cons rfl (fun KK hKK => ?_) AllReadyH.nil
              refine step_bytes_of rfl (some 69) rfl 9 36 5 (.tmp 68) rfl T rfl Tryd.underlying9 Tryd.underlying36 Tryd.underlying5 ?_
              intro y2 c2 F1
              refine hKK.out _ _ (hH1.trans ((unhide F1).below.mono hH1.size)) (fun hH2 => ?_)
              clear hKK KK
              try simp only [Act.put, List.setIfInBounds_toArray, List.set_cons_zero, List.set_cons_succ]
              refine wpAnyH_ready (rs := [19]) (by kernel_rfl) (by simp) ?_
              refine AllReadyH.cons rfl (fun KK hKK => ?_) AllReadyH.nil
              go_simp
              refine (unhide (CR _ _ _ F1 _ (Below.refl _ _))).mono ?_
              rintro e y3 ⟨rfl, b3⟩
              go_wp2_with fail
              refine hKK.out _ _ (hH2.trans (b3.mono hH2.size)) (fun hH3 => ?_)
              clear hKK KK
              try simp only [Act.put, List.setIfInBounds_toArray, List.set_cons_zero, List.set_cons_succ]
              refine take_at 20 (v := .bool false) (some 71) rfl rfl (by kernel_rfl) (by kernel_rfl) (by kernel_rfl) (fun _ _ _ h => h) (yields_unlike_arr rfl 26 26 (.tmp 63) (.tmp 70) rfl D 32 5 rfl rfl guard32 Tryd.underlying26 Tryd.underlying5 s1b (unhide LD)) hH3 ?_
              simp only [Act.put, List.setIfInBounds_toArray, List.set_cons_zero, List.set_cons_succ]
              refine take_at 21 (v := .bool false) (some 72) rfl rfl (by kernel_rfl) (by kernel_rfl) (by kernel_rfl) (fun _ _ _ h => h) (Or.inl ⟨by rfl, fun u hu => by go_simp⟩) hH3 ?_
              simp only [Act.put, List.setIfInBounds_toArray, List.set_cons_zero, List.set_cons_succ]
              refine take_at 22 (v := .bool false) (some 73) rfl rfl (by kernel_rfl) (by kernel_rfl) (by kernel_rfl) (fun _ _ _ h => h) (yields_moveG (.tmp 72) (Or.inl rfl) rfl rfl) hH3 ?_
              simp only [Act.put, List.setIfInBounds_toArray, List.set_cons_zero, List.set_cons_succ]
              refine take_at 23 (v := .slice (some ⟨b, 0, none⟩) m cap) (some 74) rfl rfl (by kernel_rfl) (by kernel_rfl) (by kernel_rfl) (fun _ _ _ h => h) (yields_moveG (.tmp 5) (Or.inl rfl) rfl rfl) hH3 ?_
              simp only [Act.put, List.setIfInBounds_toArray, List.set_cons_zero, List.set_cons_succ]
              refine take_at 24 (v := .int .i64 (k : Int)) (some 75) rfl rfl (by kernel_rfl) (by kernel_rfl) (by kernel_rfl) (fun _ _ _ h => h) (yields_moveG (.tmp 9) (Or.inl rfl) rfl rfl) hH3 ?_
              simp only [Act.put, List.setIfInBounds_toArray, List.set_cons_zero, List.set_cons_succ]
              refine take_at 25 (v := .pointer (some ⟨b, k * 2, none⟩)) (some 76) rfl rfl (by kernel_rfl) (by kernel_rfl) (by kernel_rfl) (fun _ _ _ h => h) (Or.inl ⟨by rfl, fun u hu => by go_simp⟩) hH3 ?_
              simp only [Act.put, List.setIfInBounds_toArray, List.set_cons_zero, List.set_cons_succ]
              refine take_at 26 (v := .pointer (some ⟨b, k * 2, none⟩)) (some 77) rfl rfl (by kernel_rfl) (by kernel_rfl) (by kernel_rfl) (fun _ _ _ h => h) (Or.inl ⟨by rfl, fun u hu => by go_simp⟩) hH3 ?_
              simp only [Act.put, List.setIfInBounds_toArray, List.set_cons_zero, List.set_cons_succ]
              refine take_at 27 (v := .pointer (some ⟨g, 0, none⟩)) (some 78) rfl rfl (by kernel_rfl) (by kernel_rfl) (by kernel_rfl) (fun _ _ _ h => h) (Or.inl ⟨by rfl, fun u hu => by have cu := (unhide CD0 u hu).1; go_simp⟩) hH3 ?_
              simp only [Act.put, List.setIfInBounds_toArray, List.set_cons_zero, List.set_cons_succ]
              refine take_at 29 (v := .slice (some ⟨b, 0, none⟩) m cap) (some 80) rfl rfl (by kernel_rfl) (by kernel_rfl) (by kernel_rfl) (fun _ _ _ h => h) (yields_moveG (.tmp 5) (Or.inl rfl) rfl rfl) hH3 ?_
              simp only [Act.put, List.setIfInBounds_toArray, List.set_cons_zero, List.set_cons_succ]
              refine take_at 30 (v := .int .i64 (k : Int)) (some 81) rfl rfl (by kernel_rfl) (by kernel_rfl) (by kernel_rfl) (fun _ _ _ h => h) (yields_moveG (.tmp 9) (Or.inl rfl) rfl rfl) hH3 ?_
              simp only [Act.put, List.setIfInBounds_toArray, List.set_cons_zero, List.set_cons_succ]
              refine take_at 31 (v := .pointer (some ⟨b, k * 2, none⟩)) (some 82) rfl rfl (by kernel_rfl) (by kernel_rfl) (by kernel_rfl) (fun _ _ _ h => h) (Or.inl ⟨by rfl, fun u hu => by go_simp⟩) hH3 ?_
              simp only [Act.put, List.setIfInBounds_toArray, List.set_cons_zero, List.set_cons_succ]
              refine take_at 32 (v := .pointer (some ⟨b, k * 2 + 1, none⟩)) (some 83) rfl rfl (by kernel_rfl) (by kernel_rfl) (by kernel_rfl) (fun _ _ _ h => h) (Or.inl ⟨by rfl, fun u hu => by go_simp⟩) hH3 ?_
              simp only [Act.put, List.setIfInBounds_toArray, List.set_cons_zero, List.set_cons_succ]
              refine take_at 33 (v := .string T) (some 84) rfl rfl (by kernel_rfl) (by kernel_rfl) (by kernel_rfl) (fun _ _ _ h => h) (Or.inl ⟨by rfl, fun u hu => by have cu := (unhide CD0 u hu).2; go_simp⟩) hH3 ?_
              simp only [Act.put, List.setIfInBounds_toArray, List.set_cons_zero, List.set_cons_succ]
              refine take_at 34 (v := .int .i64 (T.size : Int)) (some 85) rfl rfl (by kernel_rfl) (by kernel_rfl) (by kernel_rfl) (fun _ _ _ h => h) (Or.inl ⟨by rfl, fun u hu => by go_simp⟩) hH3 ?_
              simp only [Act.put, List.setIfInBounds_toArray, List.set_cons_zero, List.set_cons_succ]
              refine wpAnyH_ready (rs := [28]) (by kernel_rfl) (by simp) ?_
              refine AllReadyH.cons rfl (fun KK hKK => ?_) AllReadyH.nil
              go_simp
              refine (unhide (CW _ hH3)).mono ?_
              rintro e y4 ⟨rfl, b4⟩
              go_wp2_with fail
              refine hKK.out _ _ (hH3.trans (b4.mono hH3.size)) (fun hH4 => ?_)
              clear hKK KK
              try simp only [Act.put, List.setIfInBounds_toArray, List.set_cons_zero, List.set_cons_succ]
              refine take_at 35 (v := .bool false) (some 86) rfl rfl (by kernel_rfl) (by kernel_rfl) (by kernel_rfl) (fun _ _ _ h => h) (Or.inl ⟨by rfl, fun u hu => by go_simp⟩) hH4 ?_
              simp only [Act.put, List.setIfInBounds_toArray, List.set_cons_zero, List.set_cons_succ]
              refine take_at 36 (v := .bool false) (some 87) rfl rfl (by kernel_rfl) (by kernel_rfl) (by kernel_rfl) (fun _ _ _ h => h) (Or.inl ⟨by rfl, fun u hu => by go_simp⟩) hH4 ?_
              simp only [Act.put, List.setIfInBounds_toArray, List.set_cons_zero, List.set_cons_succ]
              refine wpAnyH_done (by kernel_rfl) ?_ _
              have HE := hide hH4
              clear hH hH1 hH2 hH3 hH4
              try simp only [Act.put]
              go_wp2_with fail
              go_meet
              exact ⟨rfl, HE⟩
            · refine step_bytes_of rfl (some 69) rfl 9 36 5 (.tmp 68) rfl T rfl Tryd.underlying9 Tryd.underlying36 Tryd.underlying5 ?_
              intro y1 c1 F1
              refine hKK.out _ _ (hH.trans ((unhide F1).below.mono hH.size)) (fun hH1 => ?_)
              clear hKK KK
              try simp only [Act.put, List.setIfInBounds_toArray, List.set_cons_zero, List.set_cons_succ]
              refine wpAnyH_ready (rs := [12]) (by kernel_rfl) (by simp) ?_
              refine AllReadyH.cons rfl (fun KK hKK => ?_) AllReadyH.nil
              go_simp
              refine (unhide (CS _ hH1)).mono ?_
              rintro e y2 ⟨rfl, b2⟩
              go_wp2_with fail
              refine hKK.out _ _ (hH1.trans (b2.mono hH1.size)) (fun hH2 => ?_)
              clear hKK KK
              try simp only [Act.put, List.setIfInBounds_toArray, List.set_cons_zero, List.set_cons_succ]
              refine wpAnyH_ready (rs := [19]) (by kernel_rfl) (by simp) ?_
              refine AllReadyH.cons rfl (fun KK hKK => ?_) AllReadyH.nil
              go_simp
              refine (unhide (CR _ _ _ F1 _ b2)).mono ?_
              rintro e y3 ⟨rfl, b3⟩
              go_wp2_with fail
              refine hKK.out _ _ (hH2.trans (b3.mono hH2.size)) (fun hH3 => ?_)
              clear hKK KK
              try simp only [Act.put, List.setIfInBounds_toArray, List.set_cons_zero, List.set_cons_succ]
              refine take_at 20 (v := .bool false) (some 71) rfl rfl (by kernel_rfl) (by kernel_rfl) (by kernel_rfl) (fun _ _ _ h => h) (yields_unlike_arr rfl 26 26 (.tmp 63) (.tmp 70) rfl D 32 5 rfl rfl guard32 Tryd.underlying26 Tryd.underlying5 s1b (unhide LD)) hH3 ?_
              simp only [Act.put, List.setIfInBounds_toArray, List.set_cons_zero, List.set_cons_succ]
              refine take_at 21 (v := .bool false) (some 72) rfl rfl (by kernel_rfl) (by kernel_rfl) (by kernel_rfl) (fun _ _ _ h => h) (Or.inl ⟨by rfl, fun u hu => by go_simp⟩) hH3 ?_
              simp only [Act.put, List.setIfInBounds_toArray, List.set_cons_zero, List.set_cons_succ]
              refine take_at 22 (v := .bool false) (some 73) rfl rfl (by kernel_rfl) (by kernel_rfl) (by kernel_rfl) (fun _ _ _ h => h) (yields_moveG (.tmp 72) (Or.inl rfl) rfl rfl) hH3 ?_
              simp only [Act.put, List.setIfInBounds_toArray, List.set_cons_zero, List.set_cons_succ]
              refine take_at 23 (v := .slice (some ⟨b, 0, none⟩) m cap) (some 74) rfl rfl (by kernel_rfl) (by kernel_rfl) (by kernel_rfl) (fun _ _ _ h => h) (yields_moveG (.tmp 5) (Or.inl rfl) rfl rfl) hH3 ?_
              simp only [Act.put, List.setIfInBounds_toArray, List.set_cons_zero, List.set_cons_succ]
              refine take_at 24 (v := .int .i64 (k : Int)) (some 75) rfl rfl (by kernel_rfl) (by kernel_rfl) (by kernel_rfl) (fun _ _ _ h => h) (yields_moveG (.tmp 9) (Or.inl rfl) rfl rfl) hH3 ?_
              simp only [Act.put, List.setIfInBounds_toArray, List.set_cons_zero, List.set_cons_succ]
              refine take_at 25 (v := .pointer (some ⟨b, k * 2, none⟩)) (some 76) rfl rfl (by kernel_rfl) (by kernel_rfl) (by kernel_rfl) (fun _ _ _ h => h) (Or.inl ⟨by rfl, fun u hu => by go_simp⟩) hH3 ?_
              simp only [Act.put, List.setIfInBounds_toArray, List.set_cons_zero, List.set_cons_succ]
              refine take_at 26 (v := .pointer (some ⟨b, k * 2, none⟩)) (some 77) rfl rfl (by kernel_rfl) (by kernel_rfl) (by kernel_rfl) (fun _ _ _ h => h) (Or.inl ⟨by rfl, fun u hu => by go_simp⟩) hH3 ?_
              simp only [Act.put, List.setIfInBounds_toArray, List.set_cons_zero, List.set_cons_succ]
              refine take_at 27 (v := .pointer (some ⟨g, 0, none⟩)) (some 78) rfl rfl (by kernel_rfl) (by kernel_rfl) (by kernel_rfl) (fun _ _ _ h => h) (Or.inl ⟨by rfl, fun u hu => by have cu := (unhide CD0 u hu).1; go_simp⟩) hH3 ?_
              simp only [Act.put, List.setIfInBounds_toArray, List.set_cons_zero, List.set_cons_succ]
              refine take_at 29 (v := .slice (some ⟨b, 0, none⟩) m cap) (some 80) rfl rfl (by kernel_rfl) (by kernel_rfl) (by kernel_rfl) (fun _ _ _ h => h) (yields_moveG (.tmp 5) (Or.inl rfl) rfl rfl) hH3 ?_
              simp only [Act.put, List.setIfInBounds_toArray, List.set_cons_zero, List.set_cons_succ]
              refine take_at 30 (v := .int .i64 (k : Int)) (some 81) rfl rfl (by kernel_rfl) (by kernel_rfl) (by kernel_rfl) (fun _ _ _ h => h) (yields_moveG (.tmp 9) (Or.inl rfl) rfl rfl) hH3 ?_
              simp only [Act.put, List.setIfInBounds_toArray, List.set_cons_zero, List.set_cons_succ]
              refine take_at 31 (v := .pointer (some ⟨b, k * 2, none⟩)) (some 82) rfl rfl (by kernel_rfl) (by kernel_rfl) (by kernel_rfl) (fun _ _ _ h => h) (Or.inl ⟨by rfl, fun u hu => by go_simp⟩) hH3 ?_
              simp only [Act.put, List.setIfInBounds_toArray, List.set_cons_zero, List.set_cons_succ]
              refine take_at 32 (v := .pointer (some ⟨b, k * 2 + 1, none⟩)) (some 83) rfl rfl (by kernel_rfl) (by kernel_rfl) (by kernel_rfl) (fun _ _ _ h => h) (Or.inl ⟨by rfl, fun u hu => by go_simp⟩) hH3 ?_
              simp only [Act.put, List.setIfInBounds_toArray, List.set_cons_zero, List.set_cons_succ]
              refine take_at 33 (v := .string T) (some 84) rfl rfl (by kernel_rfl) (by kernel_rfl) (by kernel_rfl) (fun _ _ _ h => h) (Or.inl ⟨by rfl, fun u hu => by have cu := (unhide CD0 u hu).2; go_simp⟩) hH3 ?_
              simp only [Act.put, List.setIfInBounds_toArray, List.set_cons_zero, List.set_cons_succ]
              refine take_at 34 (v := .int .i64 (T.size : Int)) (some 85) rfl rfl (by kernel_rfl) (by kernel_rfl) (by kernel_rfl) (fun _ _ _ h => h) (Or.inl ⟨by rfl, fun u hu => by go_simp⟩) hH3 ?_
              simp only [Act.put, List.setIfInBounds_toArray, List.set_cons_zero, List.set_cons_succ]
              refine wpAnyH_ready (rs := [28]) (by kernel_rfl) (by simp) ?_
              refine AllReadyH.cons rfl (fun KK hKK => ?_) AllReadyH.nil
              go_simp
              refine (unhide (CW _ hH3)).mono ?_
              rintro e y4 ⟨rfl, b4⟩
              go_wp2_with fail
              refine hKK.out _ _ (hH3.trans (b4.mono hH3.size)) (fun hH4 => ?_)
              clear hKK KK
              try simp only [Act.put, List.setIfInBounds_toArray, List.set_cons_zero, List.set_cons_succ]
              refine take_at 35 (v := .bool false) (some 86) rfl rfl (by kernel_rfl) (by kernel_rfl) (by kernel_rfl) (fun _ _ _ h => h) (Or.inl ⟨by rfl, fun u hu => by go_simp⟩) hH4 ?_
              simp only [Act.put, List.setIfInBounds_toArray, List.set_cons_zero, List.set_cons_succ]
              refine take_at 36 (v := .bool false) (some 87) rfl rfl (by kernel_rfl) (by kernel_rfl) (by kernel_rfl) (fun _ _ _ h => h) (Or.inl ⟨by rfl, fun u hu => by go_simp⟩) hH4 ?_
              simp only [Act.put, List.setIfInBounds_toArray, List.set_cons_zero, List.set_cons_succ]
              refine wpAnyH_done (by kernel_rfl) ?_ _
              have HE := hide hH4
              clear hH hH1 hH2 hH3 hH4
              try simp only [Act.put]
              go_wp2_with fail
              go_meet
              exact ⟨rfl, HE⟩
          case rest =>
            obtain ⟨rfl, HX5⟩ := hcut
            have HB' := hide ((unhide HB).later (unhide HX5))
            clear CS CR CW CD0
            go_wp2_with fail
            go_roundw
            case rel => exact ⟨k + 1, by go_num, HI1, HB'⟩
            case measure => have := unhide HI1; simp [intOf]; omega
        · have j1 : ¬ (k : Int) < (m : Int) := by omega
          have HE := hide (unhide HB).below
          go_wp2_with fail
          go_ret
          refine ⟨rfl, ?_⟩
          first | exact unhide HE | (rw [← hg0]; exact unhide HE)
end Go.Proofs.YtfmbaidpeliakaaDoor
