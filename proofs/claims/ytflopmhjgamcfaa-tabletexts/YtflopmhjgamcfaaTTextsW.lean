/-
  The walk of the law TableTexts; condition: there are at most 2^20 keys.
-/
import Derived.Test.YtflopmhjgamcfaaTTwo
namespace Go.Proofs.Ytflopmhjgamcfaa.tableTexts
open Go.RowKit
set_option linter.unusedVariables false

theorem block_add (a : Addr) (i : Nat) : (a.add i).block = a.block := by
  unfold Addr.add
  split <;> rfl

/-- keys in memory -/
structure Keys (w : World) (B : Nat) (ao : Option Addr) (n : Nat) (ks : List ByteArray) : Prop where
  length : ks.length = n
  cell : ∀ i t, ks[i]? = some t → ∃ a, ao = some a ∧ a.block < B ∧ w.cell? (a.add i) = some (.string t)

theorem Keys.later {w u : World} {B : Nat} {ao : Option Addr} {n : Nat} {ks : List ByteArray} (h : Keys w B ao n ks) (hb : Below B w u) : Keys u B ao n ks :=
  ⟨h.length, fun i t ht => by
    obtain ⟨a, ha, hlt, hc⟩ := h.cell i t ht
    exact ⟨a, ha, hlt, (hb.cell (by rw [block_add]; exact hlt)).trans hc⟩⟩

theorem new_thing (u : World) (j : Nat) : Thing (u.alloc (.cells #[.int .i64 (j : Int)] 3)) (.slice (some ⟨u.heap.size, 0, none⟩) 1 1) j ∧ Below u.heap.size u (u.alloc (.cells #[.int .i64 (j : Int)] 3)) :=
  ⟨⟨u.heap.size, rfl, heap_alloc_new u _⟩, (Below.refl _ _).alloc (Nat.le_refl _) _⟩

/-- what stands in memory behind i Puts -/
structure St (w wr : World) (ks : List ByteArray) (gt gu : Nat) (vt vu : Value) (lt lu : List (ByteArray × Value)) (IA IB : ByteArray → Nat → Prop) : Prop where
  t : One w wr gt vt lt IA
  u : One w wr gu vu lu IB
  ne : gt ≠ gu
  apart : ∀ b, vt.ownBlock = some b → vu.ownBlock ≠ some b
  below : Below w.heap.size w wr
  low : w.heap.size ≤ gt ∧ w.heap.size ≤ gu

theorem St.later {w wr x : World} {ks : List ByteArray} {gt gu : Nat} {vt vu : Value} {lt lu : List (ByteArray × Value)} {IA IB : ByteArray → Nat → Prop} (h : St w wr ks gt gu vt vu lt lu IA IB) (hb : Below wr.heap.size wr x) : St w x ks gt gu vt vu lt lu IA IB :=
  ⟨h.t.later hb, h.u.later hb, h.ne, h.apart, h.below.trans (hb.mono h.below.size), h.low⟩

theorem One.congr {w wr : World} {g : Nat} {v : Value} {l : List (ByteArray × Value)} {I I2 : ByteArray → Nat → Prop} (h : One w wr g v l I) (hI : ∀ k j, I2 k j ↔ I k j) : One w wr g v l I2 :=
  ⟨h.tab, h.rises, h.self, fun p hp => by obtain ⟨j, h1, h2⟩ := h.th p hp; exact ⟨j, h1, (hI _ _).2 h2⟩, fun k j hk => h.back k j ((hI k j).1 hk)⟩

theorem own_low' {w wr : World} {g : Nat} {v : Value} {l : List (ByteArray × Value)} {I : ByteArray → Nat → Prop} (h : One w wr g v l I) : ∀ b, v.ownBlock = some b → w.heap.size ≤ b ∧ b < wr.heap.size := fun b hb => h.tab.row.lt b hb

set_option maxRecDepth 100000 in
set_option maxHeartbeats 1000000 in
theorem walk (ao : Option Addr) (n cap : Nat) (ks : List ByteArray) (w : World) (hk : Keys w w.heap.size ao n ks) (hs : n ≤ 1048576) :
    Calls Try.prog 6 #[.slice ao n cap] w fun e w' => e = .returned (.bool true) ∧ Below w.heap.size w w' := by
  have HK := hide hk
  obtain ⟨gt, hgt⟩ : ∃ gt, w.heap.size = gt := ⟨_, rfl⟩
  have N1 := heap_alloc_new w (.cells #[.slice none 0 0] 76)
  obtain ⟨w1, hw1⟩ : ∃ w1, w.alloc (.cells #[.slice none 0 0] 76) = w1 := ⟨_, rfl⟩
  have B1 : Below w.heap.size w w1 := by rw [← hw1]; exact (Below.refl _ _).alloc (Nat.le_refl _) _
  have Z1 : w1.heap.size = gt + 1 := by rw [← hw1, ← hgt]; simp
  have N2 := heap_alloc_new w1 (.cells #[.slice none 0 0] 76)
  obtain ⟨w2, hw2⟩ : ∃ w2, w1.alloc (.cells #[.slice none 0 0] 76) = w2 := ⟨_, rfl⟩
  have B2 : Below w1.heap.size w1 w2 := by rw [← hw2]; exact (Below.refl _ _).alloc (Nat.le_refl _) _
  rw [hw1, hgt] at N1
  rw [hw2, Z1] at N2
  have S0 : St w w2 ks gt (gt + 1) (.slice none 0 0) (.slice none 0 0) [] [] (IT ks 0) (IU ks n) := by
    have nil : ∀ (g : Nat) (I : ByteArray → Nat → Prop), w2.heap[g]? = some (.cells #[.slice none 0 0] 76 (0, 0)) → (∀ k j, ¬ I k j) → One w w2 g (.slice none 0 0) [] I := fun g I hg hI =>
      ⟨⟨hg, World.ownsRow_nil _ _ _ _⟩, (fun i j p q _ h => by simp at h), (fun h => by cases h), (fun p h => by cases h), (fun k j h => absurd h (hI k j))⟩
    refine ⟨nil gt _ ((B2.block gt (by omega)).trans N1) (fun k j h => by have := h.1; omega), nil (gt + 1) _ N2 (fun k j h => ?_), by omega, (fun b h => by cases h), B1.trans (B2.mono B1.size), by omega⟩
    have h1 := h.1
    have h2 := (List.getElem?_eq_some_iff.1 h.2.1).1
    rw [hk.length] at h2
    omega
  have HS := hide S0
  have HG := hide hgt
  have W1 := hide hw1
  have W2 := hide hw2
  have ZZ := hide Z1
  clear hk N1 N2 B1 B2 S0 hw1 hw2 hgt Z1
  go_enter Try.func6, Try.ntmps6
  go_wp2_with fail
  refine (new_S _).mono ?_
  rintro e x1 ⟨rfl, hx1⟩
  rw [unhide W1] at hx1
  subst hx1
  rw [unhide HG]
  go_wp2_with fail
  refine (new_S _).mono ?_
  rintro e x2 ⟨rfl, hx2⟩
  rw [unhide W2] at hx2
  subst hx2
  rw [unhide ZZ]
  clear W1 W2 ZZ
  go_wp2_with fail
  go_loopw [5] (fun x wr => ∃ (i : Nat) (vt : Value) (lt : List (ByteArray × Value)), i ≤ n ∧ x = .int .i64 i ∧ Hid (St w wr ks gt (gt + 1) vt (.slice none 0 0) lt [] (IT ks i) (IU ks n)) ∧ Hid (lt.length ≤ i ∧ (0 < i → 0 < lt.length))) (fun x _ => n - (intOf x).toNat)
  case atStart => exact ⟨0, _, _, Nat.zero_le _, rfl, HS, hide ⟨Nat.le_refl _, fun h => by omega⟩⟩
  case round =>
    clear HS
    obtain ⟨i, vt, lt, hi, rfl, HX, HL⟩ := hrel
    by_cases hlt : i < n
    · have i2 : (i : Int) < (n : Int) := by omega
      obtain ⟨t, ht⟩ : ∃ t, ks[i]? = some t := ⟨_, List.getElem?_eq_getElem (by have := (unhide HK).length; omega)⟩
      obtain ⟨a, rfl, hab, hc⟩ := (unhide HK).cell i t ht
      have cK : wr.cell? (a.add i) = some (.string t) := ((unhide HX).below.cell (by rw [block_add]; exact hab)).trans hc
      obtain ⟨hth, hbl⟩ := new_thing wr i
      have hX3 := (unhide HX).later hbl
      have CP := hide (put_S hX3.t.tab hX3.t.self hX3.t.rises hX3.t.ones t (some ⟨wr.heap.size, 0, none⟩) 1 1 (by have := (unhide HL).1; omega) hX3.below.size)
      have HT := hide (And.intro ht (And.intro hth hX3))
      have HI1 : Hid (i + 1 ≤ n) := hide (by omega)
      clear hth hbl hX3 ht hc hab
      go_wp2_with fail
      refine (unhide CP).mono ?_
      rintro e u ⟨v', l', r, rfl, q1, q2, q3, q4, q5, q6, q7, q8⟩
      have HX' : Hid (St w u ks gt (gt + 1) v' (.slice none 0 0) l' [] (IT ks (i + 1)) (IU ks n)) := hide (by
        obtain ⟨ht, hth, hX3⟩ := unhide HT
        exact ⟨hX3.t.put hth q1 q2 q3 q6 q8 (IT_next ht), hX3.u.other hX3.t hX3.ne.symm (fun b h => by cases h) q8, hX3.ne, (fun b _ h => by cases h), hX3.below.trans (q8.below hX3.below.size hX3.low.1 (fun b hb => (own_low' hX3.t b hb).1)), hX3.low⟩)
      have HL' : Hid (l'.length ≤ i + 1 ∧ (0 < i + 1 → 0 < l'.length)) := hide ⟨by have := (unhide HL).1; omega, fun _ => q5⟩
      clear q1 q2 q3 q4 q5 q6 q7 q8 CP HT HX HL cK
      go_wp2_with fail
      go_roundw
      case rel => exact ⟨i + 1, v', l', unhide HI1, by go_num, HX', HL'⟩
      case measure => have := unhide HI1; simp [intOf]; omega
    · obtain rfl : i = n := by omega
      have i2 : ¬ (i : Int) < (i : Int) := by omega
      obtain ⟨W0, hW0⟩ : ∃ W0, W0 = wr := ⟨_, rfl⟩
      subst hW0
      go_wp2_with fail
      go_loopw [6] (fun x wr => ∃ (m : Nat) (vu : Value) (lu : List (ByteArray × Value)), m ≤ i ∧ x = .int .i64 ((m : Int) - 1) ∧ Hid (St w wr ks gt (gt + 1) vt vu lt lu (IT ks i) (IU ks m)) ∧ Hid (lu.length + m ≤ i)) (fun x _ => (intOf x + 1).toNat)
      case atStart => exact ⟨i, _, _, Nat.le_refl _, rfl, HX, hide (by simp)⟩
      case round =>
        clear HX
        obtain ⟨m, vu, lu, hm, rfl, HX, HM⟩ := hrel
        by_cases hm0 : 0 < m
        · obtain ⟨j, rfl⟩ : ∃ j, m = j + 1 := ⟨m - 1, by omega⟩
          have ej : ((j + 1 : Nat) : Int) - 1 = (j : Int) := by omega
          rw [ej]
          have j1 : (0 : Int) ≤ (j : Int) := by omega
          have j2 : (j : Int) < (i : Int) := by omega
          obtain ⟨t, ht⟩ : ∃ t, ks[j]? = some t := ⟨_, List.getElem?_eq_getElem (by have := (unhide HK).length; omega)⟩
          obtain ⟨a, rfl, hab, hc⟩ := (unhide HK).cell j t ht
          have cK : wr.cell? (a.add j) = some (.string t) := ((unhide HX).below.cell (by rw [block_add]; exact hab)).trans hc
          have CG := hide (get_S (unhide HX).u.tab (unhide HX).u.rises (unhide HX).u.slices t)
          have HT := hide ht
          have HJ : Hid (j + 1 ≤ i) := hide hm
          clear ht ej
          go_wp2_with fail
          refine (unhide CG).mono ?_
          rintro e x1 ⟨ta, tn, tc, r, rfl, hr, q, rfl⟩
          have X1 := hide ((unhide HX).later (below_drewN (Below.refl _ _) q))
          have cK1 : (wr.drewN q).cell? (a.add j) = some (.string t) := cK
          clear CG cK
          cases r with
          | true =>
            have X2 : Hid (St w (wr.drewN q) ks gt (gt + 1) vt vu lt lu (IT ks i) (IU ks j)) := hide (by
              obtain ⟨p, hp, he⟩ := hr.1 rfl
              obtain ⟨j', _, hI⟩ := (unhide X1).u.th p hp
              rw [he] at hI
              exact ⟨(unhide X1).t, One.congr (unhide X1).u (IU_old (unhide HT) hI), (unhide X1).ne, (unhide X1).apart, (unhide X1).below, (unhide X1).low⟩)
            have HM' : Hid (lu.length + j ≤ i) := hide (by have := unhide HM; omega)
            clear hr
            go_wp2_with fail
            go_roundw
            case rel => exact ⟨j, vu, lu, by have := unhide HJ; omega, rfl, X2, HM'⟩
            case measure => simp [intOf]
          | false =>
            obtain ⟨hth, hbl⟩ := new_thing (wr.drewN q) j
            have hX3 := (unhide X1).later hbl
            have CP := hide (put_S hX3.u.tab hX3.u.self hX3.u.rises hX3.u.ones t (some ⟨wr.heap.size, 0, none⟩) 1 1 (by have := unhide HM; omega) hX3.below.size)
            have HA : Hid (∀ p ∈ lu, p.1 ≠ t) := hide (fun p hp he => by have := hr.2 ⟨p, hp, he⟩; cases this)
            have HH := hide (And.intro hth hX3)
            clear hth hbl hX3 hr
            go_wp2_with fail
            refine (unhide CP).mono ?_
            rintro e x2 ⟨v', l', r, rfl, q1, q2, q3, q4, q5, q6, q7, q8⟩
            have X2 : Hid (St w x2 ks gt (gt + 1) vt v' lt l' (IT ks i) (IU ks j)) := hide (by
              obtain ⟨hth, hX3⟩ := unhide HH
              have hno : ∀ j', ¬ IU ks (j + 1) t j' := fun j' hI => by
                obtain ⟨p, hp, he⟩ := hX3.u.back t j' hI
                exact unhide HA p hp he
              refine ⟨hX3.t.other hX3.u hX3.ne (fun b hb e => hX3.apart b hb e) q8, hX3.u.put hth q1 q2 q3 q6 q8 (IU_new (unhide HT) hno), hX3.ne, fun b hb e => ?_, hX3.below.trans (q8.below hX3.below.size hX3.low.2 (fun b hb => (own_low' hX3.u b hb).1)), hX3.low⟩
              rcases q7 b e with h | h
              · exact hX3.apart b hb h
              · have := (own_low' hX3.t b hb).2
                omega)
            have HM' : Hid (l'.length + j ≤ i) := hide (by have := unhide HM; omega)
            clear q1 q2 q3 q4 q5 q6 q7 q8 CP HH HA
            go_wp2_with fail
            go_roundw
            case rel => exact ⟨j, v', l', by have := unhide HJ; omega, rfl, X2, HM'⟩
            case measure => simp [intOf]
        · obtain rfl : m = 0 := by omega
          have ej : ((0 : Nat) : Int) - 1 = -1 := by omega
          rw [ej]
          have j0 : ¬ (0 : Int) ≤ (-1 : Int) := by omega
          have hsame := one_same (w := w) (wr := wr) (g := gt) (g2 := gt + 1) (v := vt) (v2 := vu) (l := lt) (l2 := lu) (ks := ks) (by rw [(unhide HK).length]; exact (unhide HX).t) (unhide HX).u
          have hll : lu.length = lt.length := by have := congrArg List.length hsame.1; simpa using this.symm
          obtain ⟨N, hN⟩ : ∃ N, lt.length = N := ⟨_, rfl⟩
          have HSA := hide hsame
          have CLt : Hid (∀ u, Below wr.heap.size wr u → Calls Try.prog 17 #[.pointer (some ⟨gt, 0, none⟩)] u fun e w' => e = .returned (.int .i64 (N : Int)) ∧ w' = u) := hide (fun u hu => by rw [← hN]; exact len_S ((unhide HX).t.later hu).tab)
          have CLu : Hid (∀ u, Below wr.heap.size wr u → Calls Try.prog 17 #[.pointer (some ⟨gt + 1, 0, none⟩)] u fun e w' => e = .returned (.int .i64 (N : Int)) ∧ w' = u) := hide (fun u hu => by rw [← hN, ← hll]; exact len_S ((unhide HX).u.later hu).tab)
          have hNi : N ≤ i := by rw [← hN]; exact (unhide HL).1
          have hN0 : 0 < i → 0 < N := by rw [← hN]; exact (unhide HL).2
          have HN := hide hN
          obtain ⟨W1, hW1⟩ : ∃ W1, W1 = wr := ⟨_, rfl⟩
          subst hW1
          have X0 : Hid (Below W1.heap.size W1 W1) := hide (Below.refl _ _)
          have k1 : ¬ (i : Int) < (N : Int) := by omega
          have CLr := unhide CLt W1 (unhide X0)
          have CLs := unhide CLu W1 (unhide X0)
          have HCr := hide CLr
          have HCs := hide CLs
          clear hsame hll hN ej CLr CLs
          go_upto_region 13 with fail
          go_cut [82] from 61 to 82 (fun r wx => r = .bool false ∧ wx = W1)
          case first =>
            by_cases hi0 : 0 < i
            · have hNp := hN0 hi0
              have k2 : (0 : Int) < (i : Int) := by omega
              have k3 : ¬ (N : Int) = 0 := by omega
              have k4 : ((N : Int) == 0) = false := by simp; omega
              clear hN0
              go_wp2_with fail
              refine (unhide HCr).mono ?_
              rintro e y1 ⟨rfl, rfl⟩
              go_wp2_with fail
              refine (unhide HCs).mono ?_
              rintro e y2 ⟨rfl, rfl⟩
              go_wp2_with fail
              refine (unhide HCr).mono ?_
              rintro e y3 ⟨rfl, rfl⟩
              go_wp2_with fail
              refine (unhide HCr).mono ?_
              rintro e y4 ⟨rfl, rfl⟩
              go_wp2_with fail
              go_meet
              exact ⟨congrArg Value.bool (by first | rfl | simpa using k4 | (simp; omega)), rfl⟩
            · have k2 : ¬ (0 : Int) < (i : Int) := by omega
              clear hN0
              go_wp2_with fail
              refine (unhide HCr).mono ?_
              rintro e y1 ⟨rfl, rfl⟩
              go_wp2_with fail
              refine (unhide HCs).mono ?_
              rintro e y2 ⟨rfl, rfl⟩
              go_wp2_with fail
              refine (unhide HCr).mono ?_
              rintro e y3 ⟨rfl, rfl⟩
              go_wp2_with fail
              go_meet
              exact ⟨congrArg Value.bool (by first | rfl | (simp; omega)), rfl⟩
          case rest =>
            obtain ⟨rfl, hwc⟩ := hcut
            obtain rfl := hwc.symm
            clear hwc HCr HCs CLu hN0 k1
            go_wp2_with fail
            go_loopw [9, 10] (fun xl xi wq => ∃ (c : Nat) (last : ByteArray), c ≤ N ∧ xi = .int .i64 c ∧ xl = .string last ∧ Hid (0 < c → ∃ p, lt[c - 1]? = some p ∧ p.1 = last) ∧ Hid (Below W1.heap.size W1 wq)) (fun _ xi _ => N - (intOf xi).toNat)
            case atStart => exact ⟨0, ⟨#[]⟩, Nat.zero_le _, rfl, rfl, hide (fun h => by omega), X0⟩
            case round =>
              obtain ⟨c, last, hc, rfl, rfl, HP, HQ⟩ := hrel
              have CL := hide (unhide CLt wr (unhide HQ))
              by_cases hcN : c < N
              · have c1 : (c : Int) < (N : Int) := by omega
                obtain ⟨p, hp⟩ : ∃ p, lt[c]? = some p := ⟨_, List.getElem?_eq_getElem (by have := unhide HN; omega)⟩
                obtain ⟨x2, j, hp2, ⟨b1, hb1, hc1⟩, ⟨b2, rfl, hc2⟩⟩ := (unhide HSA).2 c p hp
                obtain ⟨k, px⟩ := p
                simp only at hb1 hp2
                subst hb1
                have CA : Hid (∀ u, Below W1.heap.size W1 u → Calls Try.prog 18 #[.pointer (some ⟨gt, 0, none⟩), .int .i64 c] u fun e w' => e = .returned (.tuple #[.string k, .slice (some ⟨b1, 0, none⟩) 1 1, .bool true]) ∧ Below u.heap.size u w') := hide (fun u hu => at_S ((unhide HX).t.later hu).tab c k _ 1 1 hp)
                have CB : Hid (∀ u, Below W1.heap.size W1 u → Calls Try.prog 18 #[.pointer (some ⟨gt + 1, 0, none⟩), .int .i64 c] u fun e w' => e = .returned (.tuple #[.string k, .slice (some ⟨b2, 0, none⟩) 1 1, .bool true]) ∧ Below u.heap.size u w') := hide (fun u hu => at_S ((unhide HX).u.later hu).tab c k _ 1 1 hp2)
                have CF : Hid (∀ u, Below W1.heap.size W1 u → Calls Try.prog 19 #[.pointer (some ⟨gt, 0, none⟩), .string k] u fun e w' => e = .returned (.tuple #[.int .i64 (c : Int), .bool true]) ∧ ∃ q, w' = u.drewN q) := hide (fun u hu => by
                  refine (find_S ((unhide HX).t.later hu).tab (unhide HX).t.rises k).mono ?_
                  rintro e u' ⟨L, rfl, hL, hlow, q, rfl⟩
                  have h1 : ¬ c < L := fun h => by have := (hlow c _ hp).1 h; rw [bl_irr] at this; cases this
                  have h2 : ¬ L < c := fun h => by
                    obtain ⟨p', hp'⟩ : ∃ p', lt[L]? = some p' := ⟨_, List.getElem?_eq_getElem (by have := (List.getElem?_eq_some_iff.1 hp).1; omega)⟩
                    have h3 := (unhide HX).t.rises L c p' (k, _) h hp' hp
                    have := (hlow L p' hp').2 h3
                    omega
                  obtain rfl : L = c := by omega
                  rw [decide_eq_true (by rw [List.getElem?_map, hp]; rfl)]
                  exact ⟨rfl, q, rfl⟩)
                have HV : Hid (∀ u, Below W1.heap.size W1 u → u.cell? ⟨b1, 0, none⟩ = some (.int .i64 (j : Int)) ∧ u.cell? ⟨b2, 0, none⟩ = some (.int .i64 (j : Int))) := hide (fun u hu => by
                  have e1 := (hu.block b1 (Array.getElem?_eq_some_iff.1 hc1).1).trans hc1
                  have e2 := (hu.block b2 (Array.getElem?_eq_some_iff.1 hc2).1).trans hc2
                  exact ⟨by rw [cell_of_row u b1 0 _ _ (0, 0) e1]; rfl, by rw [cell_of_row u b2 0 _ _ (0, 0) e2]; rfl⟩)
                have HLs : Hid (0 < c → bl last k = true) := hide (fun h => by
                  obtain ⟨p', hp', he⟩ := unhide HP h
                  have := (unhide HX).t.rises (c - 1) c p' (k, _) (by omega) hp' hp
                  rw [he] at this
                  exact this)
                have HP' : Hid (0 < c + 1 → ∃ p, lt[c + 1 - 1]? = some p ∧ p.1 = k) := hide (fun _ => ⟨_, by rw [Nat.add_sub_cancel]; exact hp, rfl⟩)
                have HC1 : Hid (c + 1 ≤ N) := hide (by omega)
                clear hp hp2 hc1 hc2
                go_wp2_with fail
                refine (unhide CL).mono ?_
                rintro e y0 ⟨rfl, rfl⟩
                go_wp2_with fail
                refine (unhide CA _ (unhide HQ)).mono ?_
                rintro e y1 ⟨rfl, d1⟩
                have Q1 : Hid (Below W1.heap.size W1 y1) := hide ((unhide HQ).trans (d1.mono (unhide HQ).size))
                clear d1
                go_wp2_with fail
                refine (unhide CB y1 (unhide Q1)).mono ?_
                rintro e y2 ⟨rfl, d2⟩
                have Q2 : Hid (Below W1.heap.size W1 y2) := hide ((unhide Q1).trans (d2.mono (unhide Q1).size))
                clear d2
                go_wp2_with fail
                refine (unhide CF y2 (unhide Q2)).mono ?_
                rintro e y3 ⟨rfl, q, rfl⟩
                have Q3 : Hid (Below W1.heap.size W1 (y2.drewN q)) := hide (below_drewN (unhide Q2) q)
                obtain ⟨y4, hy4⟩ : ∃ y4, y4 = y2.drewN q := ⟨_, rfl⟩
                rw [← hy4] at Q3 ⊢
                clear hy4
                obtain ⟨v1, v2⟩ := unhide HV y4 (unhide Q3)
                go_upto_region 22 with fail
                by_cases hc0 : 0 < c
                · have c2 : (0 : Int) < (c : Int) := by omega
                  have hls := unhide HLs hc0
                  have hls2 : bl k last = false := bl_asym hls
                  have hne : (k.toList == last.toList) = false := by
                    cases hb : (k.toList == last.toList) with
                    | false => rfl
                    | true =>
                      have := (bytes_beq k last).1 hb
                      subst this
                      rw [bl_irr] at hls
                      cases hls
                  go_quiet (fail)
                  have Q5 : Hid (Below W1.heap.size W1 (y4.drewN nq)) := hide (below_drewN (unhide Q3) nq)
                  go_wp2_with fail
                  go_roundw
                  case rel => exact ⟨c + 1, k, unhide HC1, by go_num, rfl, HP', Q5⟩
                  case measure => have := unhide HC1; simp [intOf]; omega
                · have c2 : ¬ (0 : Int) < (c : Int) := by omega
                  have c3 : decide ((0 : Int) < (c : Int)) = false := decide_eq_false c2
                  have c4 : decide (0 < c) = false := decide_eq_false hc0
                  go_quiet (fail)
                  have Q5 : Hid (Below W1.heap.size W1 (y4.drewN nq)) := hide (below_drewN (unhide Q3) nq)
                  go_wp2_with fail
                  go_roundw
                  case rel => exact ⟨c + 1, k, unhide HC1, by go_num, rfl, HP', Q5⟩
                  case measure => have := unhide HC1; simp [intOf]; omega
              · have c1 : ¬ (c : Int) < (N : Int) := by omega
                have hB := hide ((unhide HX).below.trans ((unhide HQ).mono (unhide HX).below.size))
                go_wp2_with fail
                refine (unhide CL).mono ?_
                rintro e y0 ⟨rfl, rfl⟩
                go_wp2_with fail
                go_ret
                exact ⟨rfl, unhide hB⟩
end Go.Proofs.Ytflopmhjgamcfaa.tableTexts
