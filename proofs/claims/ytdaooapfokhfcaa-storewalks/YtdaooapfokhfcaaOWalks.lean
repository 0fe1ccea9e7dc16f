/-
  StoreWalks is true of any Ops and any text; conditions: the form's own reach.
-/
import Derived.Test.YtdaooapfokhfcaaOAll
namespace Go.Proofs.Ytdaooapfokhfcaa
open Go.RowKit
set_option linter.unusedVariables false
set_option linter.unusedSimpArgs false

/-- the key ahead of number i -/
def prevK (X : Xs) : Nat → ByteArray
  | 0 => ⟨#[]⟩
  | i + 1 => (X[i]?.map Prod.fst).getD ⟨#[]⟩

theorem aft_is : ∀ (X : Xs) (k : ByteArray) (i : Nat), (∀ (j : Nat) (p : ByteArray × Vl), j < i → X[j]? = some p → bl k p.1 = false) → (∀ p, X[i]? = some p → bl k p.1 = true) → aft X k = X[i]?.map Prod.fst
  | [], k, i, _, _ => by simp [aft]
  | p :: r, k, 0, _, h => by
    have := h p rfl
    simp [aft, this]
  | p :: r, k, i + 1, h1, h2 => by
    have h3 := h1 0 p (by omega) rfl
    unfold aft
    rw [if_neg (by rw [h3]; simp), List.getElem?_cons_succ]
    exact aft_is r k i (fun j q hj hq => h1 (j + 1) q (by omega) (by simpa using hq)) (fun q hq => h2 q (by simpa using hq))

theorem empty_less {k : ByteArray} (h : KeyOk k) : bl ⟨#[]⟩ k = true := by
  rcases kl_tri ⟨#[]⟩ k with e | e | e
  · exact e
  · have h1 := h.1
    rw [← e] at h1
    exact absurd h1 (by decide)
  · exfalso
    have e2 : Op.bytesLess k.toList (⟨#[]⟩ : ByteArray).toList = true := e
    have e3 : (⟨#[]⟩ : ByteArray).toList = [] := by rw [ByteArray.toList_eq]
    rw [e3] at e2
    cases hk : k.toList with
    | nil => rw [hk] at e2; simp [Op.bytesLess] at e2
    | cons a r => rw [hk] at e2; simp [Op.bytesLess] at e2

theorem rk_lt {X : Xs} (h : Rk X) {i j : Nat} {p q : ByteArray × Vl} (hij : i < j) (hp : X[i]? = some p) (hq : X[j]? = some q) : bl p.1 q.1 = true := by
  obtain ⟨h1, rfl⟩ := List.getElem?_eq_some_iff.1 hp
  obtain ⟨h2, rfl⟩ := List.getElem?_eq_some_iff.1 hq
  exact List.pairwise_iff_getElem.1 h i j h1 h2 hij

/-- After of the key ahead -/
theorem aft_prev {X : Xs} (h : Rk X) (hk : ∀ p ∈ X, KeyOk p.1) (i : Nat) (hi : i ≤ X.length) : aft X (prevK X i) = X[i]?.map Prod.fst ∧ ∀ p, X[i]? = some p → bl (prevK X i) p.1 = true := by
  have h2 : ∀ p, X[i]? = some p → bl (prevK X i) p.1 = true := fun p hp => by
    cases i with
    | zero => exact empty_less (hk p (List.mem_of_getElem? hp))
    | succ i =>
      obtain ⟨q, hq⟩ : ∃ q, X[i]? = some q := ⟨_, List.getElem?_eq_getElem (by omega)⟩
      have e : prevK X (i + 1) = q.1 := by simp [prevK, hq]
      rw [e]
      exact rk_lt h (by omega) hq hp
  refine ⟨aft_is X _ i (fun j p hj hp => ?_) h2, h2⟩
  cases i with
  | zero => omega
  | succ i =>
    obtain ⟨q, hq⟩ : ∃ q, X[i]? = some q := ⟨_, List.getElem?_eq_getElem (by omega)⟩
    have e : prevK X (i + 1) = q.1 := by simp [prevK, hq]
    rw [e]
    by_cases hji : j = i
    · subst hji
      rw [hq] at hp
      cases hp
      exact kl_irr _
    · exact kl_asym (rk_lt h (by omega) hp hq)

theorem keepP {v w1 w2 : World} {P : World → Prop} (H : Hid (∀ w', Below v.heap.size v w' → P w')) (h : Below v.heap.size v w1) (hb : Below w1.heap.size w1 w2) : Below v.heap.size v w2 ∧ P w2 :=
  ⟨h.trans (hb.mono h.size), unhide H _ (h.trans (hb.mono h.size))⟩

set_option maxRecDepth 100000 in
set_option maxHeartbeats 2000000 in
theorem walks_any (os : List Opx) (ao : Option Addr) (n cap : Nat) (at' : ByteArray) (w : World) (ho : OpsF w w.heap.size ao n os) :
    Calls Try.prog 5 #[.slice ao n cap, .string at'] w fun e w' => e = .returned (.bool true) ∧ Below w.heap.size w w' := by
  have CN := hide (live_new (w0 := w) (Below.refl _ w))
  have CP : Hid (∀ (u : World) (s : Nat), Live w u s [] [] → Calls Try.prog 8 #[.pointer (some ⟨s, 0, none⟩), .string ⟨#[109]⟩, .agg #[.int .i64 0, .int .i64 0, .string ⟨#[]⟩, .slice none 0 0, .slice none 0 0]] u fun e w' => e = .returned (.int .i64 0) ∧ Live w w' s [(⟨#[109]⟩, vz)] []) := hide (fun u s h => by
    have hp := put_first (k := ⟨#[109]⟩) (v := vz) (by decide) vz_right
    have := live_put h ⟨#[109]⟩ vz _ (vz_is u (fun _ => False)) (fun j hj => hj.elim)
    rw [hp.1, hp.2] at this
    exact this)
  have HO : Hid (∀ u, Below w.heap.size w u → OpsF u w.heap.size ao n os) := hide (fun u hu => ho.later hu)
  have hn := ho.length
  have hnb := ho.bl
  have HN := hide hn
  clear ho hn
  go_enter Try.func5, Try.ntmps5
  go_wp2_with fail
  refine (unhide CN).mono ?_
  rintro e w1 ⟨s, rfl, L1, b1⟩
  have CP1 := hide (unhide CP w1 s L1)
  clear L1 b1 CN CP
  go_wp2_with fail
  refine (unhide CP1).mono ?_
  rintro e w2 ⟨rfl, L2⟩
  have H2 := hide L2
  clear L2 CP1
  go_wp2_with fail
  go_loopw [6] (fun x wr => ∃ (i : Nat) (X : Xs), x = .int .i64 (i : Int) ∧ i ≤ n ∧ Hid (Live w wr s X [])) (fun x _ => n - (intOf x).toNat)
  case atStart => exact ⟨0, _, rfl, Nat.zero_le _, H2⟩
  case round =>
    obtain ⟨i, X, rfl, hi, HL⟩ := hrel
    clear H2
    by_cases hlt : i < n
    · have i1 : (i : Int) < (n : Int) := by omega
      obtain ⟨q, hq⟩ : ∃ q, os[i]? = some q := ⟨_, List.getElem?_eq_getElem (by have := unhide HN; omega)⟩
      obtain ⟨a, b, off, x0, x1, x2, x3, x4, x5, x6, x7, x8, rfl, p⟩ := (unhide HO wr (unhide HL).below).cell i q hq
      have CD := hide (live_done (unhide HL) q x0 x1 x2 x3 x4 x5 x6 x7 x8 p.bk p.is)
      obtain ⟨kd, key, qv⟩ := q
      have e0 := p.at'
      have e1 := p.k
      have e2 := p.s
      have e3 := p.c0
      have e4 := p.c1
      have e5 := p.c2
      have e6 := p.c3
      have e7 := p.c4
      dsimp only at CD e1 e2
      clear p hq
      go_wp2_with fail
      refine (unhide CD).mono ?_
      rintro e w3 ⟨⟨r, rfl⟩, L3⟩
      have H3 := hide L3
      clear L3 CD e0 e1 e2 e3 e4 e5 e6 e7
      have HI1 : Hid (i + 1 ≤ n) := hide (by omega)
      go_wp2_with fail
      go_roundw
      case rel => exact ⟨i + 1, _, by go_num, unhide HI1, H3⟩
      case measure => have := unhide HI1; simp [intOf]; omega
    · have i1 : ¬ (i : Int) < (n : Int) := by omega
      obtain ⟨m, hm⟩ : ∃ m, X.length = m := ⟨_, rfl⟩
      obtain ⟨hrk, hkey, hm128⟩ := (unhide HL).facts
      rw [hm] at hm128
      have CE := live_entries (unhide HL)
      rw [hm] at CE
      have CE := hide CE
      have HF := hide (And.intro hrk (And.intro hkey hm))
      clear hrk hkey hm hlt hi HO HN
      go_wp2_with fail
      refine (unhide CE).mono ?_
      rintro e w4 ⟨al, cl, rfl, E4, b4⟩
      have H4 := hide (And.intro ((unhide HL).later b4) E4)
      have CA : Hid (∀ (u : World) (k : ByteArray), Below w4.heap.size w4 u → Calls Try.prog 19 #[.pointer (some ⟨s, 0, none⟩), .string k] u fun e w' => e = .returned (.tuple #[.string ((aft X k).getD ⟨#[]⟩), .bool (aft X k).isSome]) ∧ Below u.heap.size u w') := hide (fun u k hu => live_after ((unhide H4).1.later hu) k)
      have CG : Hid (∀ (u : World) (i : Nat) (p : En), X[i]? = some p → Below w4.heap.size w4 u → Calls Try.prog 20 #[.pointer (some ⟨s, 0, none⟩), .string p.1] u fun e w' => ∃ y0 y1 y2 y3 y4 y5 y6 y7 y8, e = .returned (.tuple #[.agg #[.int .i64 y0, .int .i64 y1, .string y2, .slice y3 y4 y5, .slice y6 y7 y8], .bool true]) ∧ Below u.heap.size u w' ∧ IsV w' w'.heap.size p.2 (.agg #[.int .i64 y0, .int .i64 y1, .string y2, .slice y3 y4 y5, .slice y6 y7 y8])) := hide (fun u i p hp hu => by
        have hl : lookK X p.1 = some p.2 := mem_look (unhide HF).1 (List.mem_of_getElem? hp)
        have := live_get ((unhide H4).1.later hu) p.1
        rw [hl] at this
        refine this.mono ?_
        rintro e w' ⟨x, rfl, b, q⟩
        obtain ⟨⟨y0, y1, y2, y3, y4, y5, y6, y7, y8⟩, rfl⟩ := isP_th q.1
        exact ⟨y0, y1, y2, y3, y4, y5, y6, y7, y8, rfl, b, q.1.isV (fun b hb => hb.2)⟩)
      have CL : Hid (∀ u, Below w4.heap.size w4 u → Calls Try.prog 22 #[.pointer (some ⟨s, 0, none⟩)] u fun e w' => e = .returned (.int .i64 (m : Int)) ∧ w' = u) := hide (fun u hu => by
        have := live_len ((unhide H4).1.later hu)
        rw [(unhide HF).2.2] at this
        exact this)
      have HE : Hid (∀ u, Below w4.heap.size w4 u → IsE u (fun b => b < w4.heap.size) X al cl) := hide (fun u hu => E4.move (fun b hb => hu.block b hb))
      have HB4 : Hid (Below w.heap.size w w4) := hide (unhide H4).1.below
      have CE4 := E4.len
      clear E4 b4 HL H4 CE
      rw [(unhide HF).2.2] at CE4
      obtain ⟨hcl, hml, haln⟩ := CE4
      go_wp2_with fail
      go_loopw [8, 9] (fun y x wr => ∃ (i : Nat) (ky : ByteArray), y = .string ky ∧ x = .int .i64 (i : Int) ∧ i ≤ m ∧ Hid (ky = prevK X i ∧ Below w4.heap.size w4 wr)) (fun _ x _ => m - (intOf x).toNat)
      case atStart => exact ⟨0, _, rfl, rfl, Nat.zero_le _, hide ⟨rfl, Below.refl _ _⟩⟩
      case round =>
        obtain ⟨i, ky, rfl, rfl, hi, HR⟩ := hrel
        by_cases hlt : i < m
        · have i1 : (i : Int) < (m : Int) := by omega
          have i0 : (0 : Int) ≤ (i : Int) := by omega
          obtain ⟨⟨k, v⟩, hp⟩ : ∃ p, X[i]? = some p := ⟨_, List.getElem?_eq_getElem (by have := (unhide HF).2.2; omega)⟩
          obtain ⟨ha1, ha2⟩ := aft_prev (unhide HF).1 (fun p hp => ((unhide HF).2.1 p hp).1) i (by have := (unhide HF).2.2; omega)
          have ha2 := ha2 _ hp
          rw [hp] at ha1
          rw [← (unhide HR).1] at ha1 ha2
          have C1 := unhide CA wr ky (unhide HR).2
          rw [ha1] at C1
          dsimp only [Option.map_some, Option.getD_some, Option.isSome_some] at C1
          have C1 := hide C1
          have l1 : Op.bytesLess k.toList ky.toList = false := kl_asym ha2
          have l2 : (k.toList == ky.toList) = false := by
            cases e : (k.toList == ky.toList) with
            | false => rfl
            | true =>
              have := (bytes_beq k ky).1 e
              subst this
              have h3 : bl k k = true := ha2
              rw [kl_irr] at h3
              cases h3
          have hfew : smB v v = true := by
            unfold smB
            rw [(sameB_iff v v).2 rfl, Bool.or_true]
          have HX := hide hp
          obtain ⟨a, z0, z1, z2, al', ak', ll', m', cl', ck', rfl, _⟩ := (unhide HE wr (unhide HR).2).elem i _ hp
          clear ha1 ha2 hp
          go_wp2_with fail
          refine (unhide C1).mono ?_
          rintro e u1 ⟨rfl, b1⟩
          have U1 : Hid (Below w4.heap.size w4 u1) := hide ((unhide HR).2.trans (b1.mono (unhide HR).2.size))
          have C2 := hide (unhide CG u1 i (k, v) (unhide HX) (unhide U1))
          dsimp only at C2
          obtain ⟨a2, z0, z1, z2, al', ak', ll', m', cl', ck', ea, hbl, _, hc, hpv⟩ := (unhide HE u1 (unhide U1)).elem i _ (unhide HX)
          cases ea
          have c0 : u1.cell? (a.add (i * 6)) = some (.string k) := hc 0 _ rfl
          clear b1 C1 hc hpv
          go_wp2_with fail
          refine (unhide C2).mono ?_
          rintro e u2 ⟨y0, y1, y2, y3, y4, y5, y6, y7, y8, rfl, b2, q2⟩
          obtain ⟨P, hP⟩ : ∃ P, u2.heap.size = P := ⟨_, rfl⟩
          obtain ⟨u3, hu3⟩ : ∃ u3, u2.alloc (.cells #[.int .i64 y0, .int .i64 y1, .string y2, .slice y3 y4 y5, .slice y6 y7 y8] 30) = u3 := ⟨_, rfl⟩
          have b3 : Below u2.heap.size u2 u3 := by rw [← hu3]; exact (Below.refl _ _).alloc (Nat.le_refl _) _
          have N3 : u3.heap[P]? = some (.cells #[.int .i64 y0, .int .i64 y1, .string y2, .slice y3 y4 y5, .slice y6 y7 y8] 30 (0, 0)) := by rw [← hu3, ← hP]; exact heap_alloc_new u2 _
          have U2 : Below w4.heap.size w4 u2 := (unhide U1).trans (b2.mono (unhide U1).size)
          have U3 : Hid (Below w4.heap.size w4 u3) := hide (U2.trans (b3.mono U2.size))
          obtain ⟨a2, z0, z1, z2, al', ak', ll', m', cl', ck', ea, hbl2, _, hc, hpv⟩ := (unhide HE u3 (unhide U3)).elem i _ (unhide HX)
          cases ea
          have CS : Hid (∀ u, Below u3.heap.size u3 u → Calls Try.prog 21 #[.agg #[.int .i64 y0, .int .i64 y1, .string y2, .slice y3 y4 y5, .slice y6 y7 y8], .agg #[.int .i64 z0, .int .i64 z1, .string z2, .slice al' ll' cl', .slice ak' m' ck']] u fun e w' => e = .returned (.bool true) ∧ Below u.heap.size u w') := hide (fun u hu => by
            have h1 : IsV u u.heap.size v (.agg #[.int .i64 y0, .int .i64 y1, .string y2, .slice y3 y4 y5, .slice y6 y7 y8]) := IsV.lift (Nat.le_trans b3.size hu.size) (q2.mono (b3.trans (hu.mono b3.size)))
            have h2 : IsV u u.heap.size v (.agg #[.int .i64 z0, .int .i64 z1, .string z2, .slice al' ll' cl', .slice ak' m' ck']) := IsV.lift (Nat.le_trans (unhide U3).size hu.size) (IsV.mono (hu.mono (unhide U3).size) hpv)
            have := same_any v v _ _ u.heap.size u h1 h2 (Nat.le_refl _)
            rw [hfew] at this
            exact this)
          have hPl : P < u3.heap.size := by rw [← hP, ← hu3]; simp
          have hal : a.block < u3.heap.size := Nat.lt_of_lt_of_le hbl2 (unhide U3).size
          have hal2 : (a.add (i * 6)).block < u3.heap.size := by rw [block_add]; exact hal
          have HKK : Hid (∀ u, Below u3.heap.size u3 u → u.cell? (a.add (i * 6)) = some (.string k) ∧ u.cell? ⟨P, 0, none⟩ = some (.int .i64 y0) ∧ u.cell? ⟨P, 1, none⟩ = some (.int .i64 y1) ∧ u.cell? ⟨P, 2, none⟩ = some (.string y2) ∧ u.cell? ⟨P, 3, none⟩ = some (.slice y3 y4 y5) ∧ u.cell? ⟨P, 4, none⟩ = some (.slice y6 y7 y8) ∧ u.cell? ⟨(a.add (i * 6)).block, (a.add (i * 6)).off + 1, none⟩ = some (.int .i64 z0) ∧ u.cell? ⟨(a.add (i * 6)).block, (a.add (i * 6)).off + 2, none⟩ = some (.int .i64 z1) ∧ u.cell? ⟨(a.add (i * 6)).block, (a.add (i * 6)).off + 3, none⟩ = some (.string z2) ∧ u.cell? ⟨(a.add (i * 6)).block, (a.add (i * 6)).off + 4, none⟩ = some (.slice al' ll' cl') ∧ u.cell? ⟨(a.add (i * 6)).block, (a.add (i * 6)).off + 5, none⟩ = some (.slice ak' m' ck')) := hide (fun u hu => by
            obtain ⟨r0, r1, r2, r3, r4⟩ := row_cell ((hu.block P hPl).trans N3)
            exact ⟨cell_later hu (hc 0 _ rfl), r0, r1, r2, r3, r4, cell_later hu (hc 1 _ rfl), cell_later hu (hc 2 _ rfl), cell_later hu (hc 3 _ rfl), cell_later hu (hc 4 _ rfl), cell_later hu (hc 5 _ rfl)⟩)
          have SC0 := unhide HKK u3 (Below.refl _ _)
          obtain ⟨d0, d1, d2, d3, d4, d5, d6, d7, d8, d9, d10⟩ := SC0
          have D1 : ∀ u, Below u3.heap.size u3 u → Hid (Calls Try.prog 21 #[.agg #[.int .i64 y0, .int .i64 y1, .string y2, .slice y3 y4 y5, .slice y6 y7 y8], .agg #[.int .i64 z0, .int .i64 z1, .string z2, .slice al' ll' cl', .slice ak' m' ck']] u fun e w' => e = .returned (.bool true) ∧ Below u.heap.size u w') := fun u hu => hide (unhide CS u hu)
          have HI1 : Hid (i + 1 ≤ m) := hide (by omega)
          have HPK : Hid (k = prevK X (i + 1)) := hide (by simp [prevK, unhide HX])
          clear b2 b3 N3 U2 q2 hc hpv C2 CS c0 hbl hbl2 hPl hal hal2 hfew
          go_upto_region 15 with fail
          try rw [hu3]
          try rw [hP]
          go_region_held (fun w' => Below u3.heap.size u3 w' ∧ w'.cell? (a.add (i * 6)) = some (.string k) ∧ w'.cell? ⟨P, 0, none⟩ = some (.int .i64 y0) ∧ w'.cell? ⟨P, 1, none⟩ = some (.int .i64 y1) ∧ w'.cell? ⟨P, 2, none⟩ = some (.string y2) ∧ w'.cell? ⟨P, 3, none⟩ = some (.slice y3 y4 y5) ∧ w'.cell? ⟨P, 4, none⟩ = some (.slice y6 y7 y8) ∧ w'.cell? ⟨(a.add (i * 6)).block, (a.add (i * 6)).off + 1, none⟩ = some (.int .i64 z0) ∧ w'.cell? ⟨(a.add (i * 6)).block, (a.add (i * 6)).off + 2, none⟩ = some (.int .i64 z1) ∧ w'.cell? ⟨(a.add (i * 6)).block, (a.add (i * 6)).off + 3, none⟩ = some (.string z2) ∧ w'.cell? ⟨(a.add (i * 6)).block, (a.add (i * 6)).off + 4, none⟩ = some (.slice al' ll' cl') ∧ w'.cell? ⟨(a.add (i * 6)).block, (a.add (i * 6)).off + 5, none⟩ = some (.slice ak' m' ck'))
            (first | assumption | exact ⟨(Below.refl _ _).drew, unhide HKK _ (Below.refl _ _).drew⟩ | (refine keepP HKK (And.left (by assumption)) (by assumption); done) | (refine keepP HKK ?_ ?_ <;> assumption))
            (first | (go_at_call 21; refine (unhide (D1 _ (And.left (by assumption)))).mono ?_; rintro e w6 ⟨rfl, hb6⟩))
          have B36 : Hid (Below u3.heap.size u3 w6) := hide (And.left (by assumption))
          clear D1 HKK hb6
          have B6 : Hid (Below w4.heap.size w4 w6) := hide ((unhide U3).trans ((unhide B36).mono (unhide U3).size))
          go_wp2_with fail
          go_roundw
          case rel => exact ⟨i + 1, k, rfl, by go_num, unhide HI1, hide ⟨unhide HPK, unhide B6⟩⟩
          case measure => have := unhide HI1; simp [intOf]; omega
        · have i1 : ¬ (i : Int) < (m : Int) := by omega
          have him : i = m := by omega
          obtain ⟨ha1, ha2⟩ := aft_prev (unhide HF).1 (fun p hp => ((unhide HF).2.1 p hp).1) i (by have := (unhide HF).2.2; omega)
          rw [List.getElem?_eq_none (by have := (unhide HF).2.2; omega)] at ha1
          rw [← (unhide HR).1] at ha1
          have C1 := unhide CA wr ky (unhide HR).2
          rw [ha1] at C1
          dsimp only [Option.map_none, Option.getD_none, Option.isSome_none] at C1
          have C1 := hide C1
          clear ha1 ha2 him
          go_wp2_with fail
          refine (unhide C1).mono ?_
          rintro e u1 ⟨rfl, b1⟩
          have U1 : Hid (Below w4.heap.size w4 u1) := hide ((unhide HR).2.trans (b1.mono (unhide HR).2.size))
          obtain ⟨A, hA⟩ : ∃ A, aft X at' = A := ⟨_, rfl⟩
          have C2 := unhide CA u1 at' (unhide U1)
          rw [hA] at C2
          have C2 := hide C2
          have HA := hide hA
          clear b1 C1 hA
          go_wp2_with fail
          refine (unhide C2).mono ?_
          rintro e u2 ⟨rfl, b2⟩
          have U2 : Hid (Below w4.heap.size w4 u2) := hide ((unhide U1).trans (b2.mono (unhide U1).size))
          clear b2 C2
          go_wp2_with fail
          go_loopw [18] (fun x wr => ∃ (d : Nat), x = .int .i64 (d : Int) ∧ d ≤ m ∧ Hid ((∀ (j : Nat) (p : ByteArray × Vl), j < d → X[j]? = some p → bl at' p.1 = false) ∧ wr = u2)) (fun x _ => m - (intOf x).toNat)
          case atStart => exact ⟨0, rfl, Nat.zero_le _, hide ⟨(fun j p hj => by omega), rfl⟩⟩
          case round =>
            obtain ⟨d, rfl, hd, HD⟩ := hrel
            have hwr := (unhide HD).2
            by_cases hdl : d < m
            · have i2 : (d : Int) < (m : Int) := by omega
              obtain ⟨⟨k, v⟩, hp⟩ : ∃ p, X[d]? = some p := ⟨_, List.getElem?_eq_getElem (by have := (unhide HF).2.2; omega)⟩
              obtain ⟨a, z0, z1, z2, al', ak', ll', m', cl', ck', rfl, _, _, hc, _⟩ := (unhide HE u2 (unhide U2)).elem d _ hp
              have c0 : wr.cell? (a.add (d * 6)) = some (.string k) := by rw [hwr]; exact hc 0 _ rfl
              have HX := hide hp
              clear hc hp hwr
              by_cases hb : bl at' k = true
              · -- the first above
                have l1 : Op.bytesLess k.toList at'.toList = false := kl_asym hb
                have l2 : (k.toList == at'.toList) = false := by
                  cases e : (k.toList == at'.toList) with
                  | false => rfl
                  | true =>
                    have := (bytes_beq k at').1 e
                    subst this
                    rw [kl_irr] at hb
                    cases hb
                have hAk : A = some k := by
                  rw [← unhide HA, aft_is X at' d (unhide HD).1 (fun p hp => by rw [unhide HX] at hp; cases hp; exact hb), unhide HX]
                  rfl
                subst hAk
                have C3 := hide (unhide CL wr (by rw [(unhide HD).2]; exact unhide U2))
                have HY : Hid (Below w.heap.size w wr) := hide (by rw [(unhide HD).2]; exact (unhide HB4).trans ((unhide U2).mono (unhide HB4).size))
                clear hb
                dsimp only [Option.getD_some, Option.isSome_some]
                go_wp2_with fail
                refine (unhide C3).mono ?_
                rintro e u5 ⟨rfl, hu5⟩
                obtain rfl := hu5.symm
                clear hu5
                go_wp2_with fail
                go_ret
                exact ⟨rfl, unhide HY⟩
              · have hle : (Op.bytesLess k.toList at'.toList || k.toList == at'.toList) = true := by
                  rcases kl_tri at' k with h1 | h1 | h1
                  · exact absurd h1 hb
                  · subst h1
                    simp
                  · have h2 : Op.bytesLess k.toList at'.toList = true := h1
                    rw [h2]
                    rfl
                have HD' : Hid ((∀ (j : Nat) (p : ByteArray × Vl), j < d + 1 → X[j]? = some p → bl at' p.1 = false) ∧ wr = u2) := hide ⟨fun j p hj hp => by
                  by_cases hjd : j = d
                  · subst hjd
                    rw [unhide HX] at hp
                    cases hp
                    simpa using hb
                  · exact (unhide HD).1 j p (by omega) hp, (unhide HD).2⟩
                have HI1 : Hid (d + 1 ≤ m) := hide (by omega)
                clear hb
                go_wp2_with fail
                go_roundw
                case rel => exact ⟨d + 1, by go_num, unhide HI1, HD'⟩
                case measure => have := unhide HI1; simp [intOf]; omega
            · have i2 : ¬ (d : Int) < (m : Int) := by omega
              have hAk : A = none := by
                rw [← unhide HA, aft_is X at' d (unhide HD).1 (fun p hp => by
                  have := (List.getElem?_eq_some_iff.1 hp).1
                  have := (unhide HF).2.2
                  omega), List.getElem?_eq_none (by have := (unhide HF).2.2; omega)]
                rfl
              subst hAk
              have C3 := hide (unhide CL wr (by rw [(unhide HD).2]; exact unhide U2))
              have HY : Hid (Below w.heap.size w wr) := hide (by rw [(unhide HD).2]; exact (unhide HB4).trans ((unhide U2).mono (unhide HB4).size))
              clear hwr
              dsimp only [Option.getD_none, Option.isSome_none]
              go_wp2_with fail
              refine (unhide C3).mono ?_
              rintro e u5 ⟨rfl, hu5⟩
              obtain rfl := hu5.symm
              clear hu5
              go_wp2_with fail
              go_ret
              exact ⟨rfl, unhide HY⟩
end Go.Proofs.Ytdaooapfokhfcaa
