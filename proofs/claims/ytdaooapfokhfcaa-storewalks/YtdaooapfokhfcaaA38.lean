/-
  store's From; conditions: the form's own reach.
-/
import Derived.Test.YtdaooapfokhfcaaA37
namespace Go.Proofs.Ytdaooapfokhfcaa
open Go.RowKit
set_option linter.unusedVariables false
set_option linter.unusedSimpArgs false

/-- what From finds in entries, one behind the other -/
def chkE (ah : ByteArray) : List En → Int
  | [] => 0
  | p :: r => if keyB p.1 = true ∧ bl ah p.1 = true then (if rightB p.2 = true then chkE p.1 r else 61) else 60

/-- all are put -/
def putAll (X : Xs) : List En → Option Xs
  | [] => some X
  | p :: r => if fitX X p.1 p.2 = true then putAll (putK X p.1 p.2) r else none

theorem chkE_cons (ah : ByteArray) (p : En) (r : List En) : chkE ah (p :: r) = if keyB p.1 = true ∧ bl ah p.1 = true then (if rightB p.2 = true then chkE p.1 r else 61) else 60 := rfl
theorem putAll_cons (X : Xs) (p : En) (r : List En) : putAll X (p :: r) = if fitX X p.1 p.2 = true then putAll (putK X p.1 p.2) r else none := rfl

/-- what From answers -/
def fromR (es : List En) : Int := if chkE ⟨#[]⟩ es = 0 then (if (putAll [] es).isSome = true then 0 else 62) else chkE ⟨#[]⟩ es

theorem chk_ok : ∀ (es : List En) (ah : ByteArray), chkE ah es = 0 → ∀ p ∈ es, keyB p.1 = true ∧ rightB p.2 = true
  | [], _, _, p, hp => by cases hp
  | q :: r, ah, h, p, hp => by
    unfold chkE at h
    split at h
    · rename_i hk
      split at h
      · rename_i hr
        rcases List.mem_cons.1 hp with rfl | hp
        · exact ⟨hk.1, hr⟩
        · exact chk_ok r _ h p hp
      · simp at h
    · simp at h

theorem put_end : ∀ (X : Xs) (k : ByteArray) (v : Vl), (∀ q ∈ X, bl q.1 k = true) → putK X k v = X ++ [(k, v)]
  | [], k, v, _ => rfl
  | p :: r, k, v, h => by
    have h1 := h p List.mem_cons_self
    unfold putK
    rw [if_pos h1, put_end r k v (fun q hq => h q (List.mem_cons_of_mem _ hq))]
    rfl

theorem putAll_is : ∀ (es : List En) (ah : ByteArray) (X Y : Xs), chkE ah es = 0 → (∀ q ∈ X, bl q.1 ah = true ∨ q.1 = ah) → putAll X es = some Y → Y = X ++ es
  | [], _, X, Y, _, _, h => by
    simp only [putAll, Option.some.injEq] at h
    simp [h]
  | p :: r, ah, X, Y, hc, hX, h => by
    unfold chkE at hc
    unfold putAll at h
    split at hc
    · rename_i hk
      split at hc
      · split at h
        · have hlt : ∀ q ∈ X, bl q.1 p.1 = true := fun q hq => by
            rcases hX q hq with e | e
            · exact kl_trans e hk.2
            · rw [e]
              exact hk.2
          rw [put_end X p.1 p.2 hlt] at h
          have := putAll_is r p.1 (X ++ [(p.1, p.2)]) Y hc (fun q hq => by
            rcases List.mem_append.1 hq with hq | hq
            · exact .inl (hlt q hq)
            · rw [List.mem_singleton] at hq
              exact .inr (by rw [hq])) h
          rw [this]
          simp
        · cases h
      · simp at hc
    · simp at hc

theorem drop_next {α : Type} {l : List α} {i : Nat} {x : α} (h : l[i]? = some x) : l.drop i = x :: l.drop (i + 1) := by
  obtain ⟨hi, rfl⟩ := List.getElem?_eq_some_iff.1 h
  exact List.drop_eq_getElem_cons hi

theorem Live.base {w0 w1 w : World} {s : Nat} {X : Xs} {Bs : List Xs} (h : Live w1 w s X Bs) (hb : Below w0.heap.size w0 w1) : Live w0 w s X Bs := by
  obtain ⟨V, t, h1, h2, h3, h4⟩ := h
  exact ⟨V, t, h1, h2, fun j hj => Nat.le_trans hb.size (h3 j hj), hb.trans (h4.mono hb.size)⟩

/-- what From leaves -/
def FromPost (w : World) (es : List En) (e : Ending) (w' : World) : Prop :=
  (fromR es = 0 ∧ ∃ s, e = .returned (.tuple #[.pointer (some ⟨s, 0, none⟩), .int .i64 0]) ∧ Live w w' s es []) ∨ (fromR es ≠ 0 ∧ e = .returned (.tuple #[.pointer none, .int .i64 (fromR es)]) ∧ Below w.heap.size w w')

set_option maxRecDepth 100000 in
set_option maxHeartbeats 2000000 in
theorem from_any (es : List En) (al : Option Addr) (n cl : Nat) (w : World) (hn : es.length = n) (hE : IsE w (fun b => b < w.heap.size) es al cl) :
    Calls Try.prog 16 #[.slice al n cl] w fun e w' => FromPost w es e w' := by
  have hl := hE.len
  rw [hn] at hl
  obtain ⟨hcl, hnb, haln⟩ := hl
  have HE : Hid (∀ u, Below w.heap.size w u → IsE u (fun b => b < w.heap.size) es al cl) := hide (fun u hu => hE.later hu)
  have HN := hide hn
  clear hE hn
  go_enter Try.func16, Try.ntmps16
  go_wp2_with fail
  go_loopw [4, 13] (fun y x wr => ∃ (i : Nat) (ah : ByteArray), y = .string ah ∧ x = .int .i64 (i : Int) ∧ i ≤ n ∧ Hid (chkE ⟨#[]⟩ es = chkE ah (es.drop i) ∧ Below w.heap.size w wr)) (fun _ x _ => n - (intOf x).toNat)
  case atStart => exact ⟨0, ⟨#[]⟩, rfl, rfl, Nat.zero_le _, hide ⟨rfl, Below.refl _ _⟩⟩
  case round =>
    obtain ⟨i, ah, rfl, rfl, hi, HR⟩ := hrel
    by_cases hlt : i < n
    · have i1 : (i : Int) < (n : Int) := by omega
      obtain ⟨⟨k, v⟩, hp⟩ : ∃ p, es[i]? = some p := ⟨_, List.getElem?_eq_getElem (by have := unhide HN; omega)⟩
      obtain ⟨a, z0, z1, z2, al', ak', ll', m', cl', ck', rfl, hbl, hks, hc, hpv⟩ := (unhide HE wr (unhide HR).2).elem i _ hp
      have hcd := (unhide HR).1
      rw [drop_next hp, chkE_cons] at hcd
      dsimp only at hcd hks hpv
      have e0 : wr.cell? (a.add (i * 6)) = some (.string k) := hc 0 _ rfl
      have e1 : wr.cell? ⟨(a.add (i * 6)).block, (a.add (i * 6)).off + 1, none⟩ = some (.int .i64 z0) := hc 1 _ rfl
      have e2 : wr.cell? ⟨(a.add (i * 6)).block, (a.add (i * 6)).off + 2, none⟩ = some (.int .i64 z1) := hc 2 _ rfl
      have e3 : wr.cell? ⟨(a.add (i * 6)).block, (a.add (i * 6)).off + 3, none⟩ = some (.string z2) := hc 3 _ rfl
      have e4 : wr.cell? ⟨(a.add (i * 6)).block, (a.add (i * 6)).off + 4, none⟩ = some (.slice al' ll' cl') := hc 4 _ rfl
      have e5 : wr.cell? ⟨(a.add (i * 6)).block, (a.add (i * 6)).off + 5, none⟩ = some (.slice ak' m' ck') := hc 5 _ rfl
      obtain ⟨G, hG⟩ : ∃ G, wr.heap.size = G := ⟨_, rfl⟩
      obtain ⟨u0, hu0⟩ : ∃ u0, wr.alloc (.cells #[.string k, .int .i64 z0, .int .i64 z1, .string z2, .slice al' ll' cl', .slice ak' m' ck'] 49) = u0 := ⟨_, rfl⟩
      have b0 : Below wr.heap.size wr u0 := by rw [← hu0]; exact (Below.refl _ _).alloc (Nat.le_refl _) _
      have N0 : u0.heap[G]? = some (.cells #[.string k, .int .i64 z0, .int .i64 z1, .string z2, .slice al' ll' cl', .slice ak' m' ck'] 49 (0, 0)) := by rw [← hu0, ← hG]; exact heap_alloc_new wr _
      have U0 : Below w.heap.size w u0 := (unhide HR).2.trans (b0.mono (unhide HR).2.size)
      have hz0 : u0.heap.size = G + 1 := by rw [← hu0, ← hG]; simp
      have d0 : u0.cell? ⟨G, 0, none⟩ = some (.string k) := by rw [cell_of_row u0 G 0 _ _ (0, 0) N0]; rfl
      have d1 : u0.cell? ⟨G, 1, none⟩ = some (.int .i64 z0) := by rw [cell_of_row u0 G 1 _ _ (0, 0) N0]; rfl
      have d2 : u0.cell? ⟨G, 2, none⟩ = some (.int .i64 z1) := by rw [cell_of_row u0 G 2 _ _ (0, 0) N0]; rfl
      have d3 : u0.cell? ⟨G, 3, none⟩ = some (.string z2) := by rw [cell_of_row u0 G 3 _ _ (0, 0) N0]; rfl
      have d4 : u0.cell? ⟨G, 4, none⟩ = some (.slice al' ll' cl') := by rw [cell_of_row u0 G 4 _ _ (0, 0) N0]; rfl
      have d5 : u0.cell? ⟨G, 5, none⟩ = some (.slice ak' m' ck') := by rw [cell_of_row u0 G 5 _ _ (0, 0) N0]; rfl
      have HV : Hid (IsV u0 w.heap.size v (.agg #[.int .i64 z0, .int .i64 z1, .string z2, .slice al' ll' cl', .slice ak' m' ck']) ∧ w.heap.size ≤ u0.heap.size) := hide ⟨IsV.mono (b0.mono (unhide HR).2.size) hpv, U0.size⟩
      have H0 := hide (And.intro U0 N0)
      have CK := hide (keyed_any k u0)
      have HP := hide hp
      clear hc hpv hbl hks b0 N0 U0 hp
      cases hk : keyB k with
      | false =>
        rw [hk] at CK
        have HF : Hid (fromR es = 60) := hide (by
          unfold fromR
          rw [hcd, hk]
          simp)
        clear hcd hk
        go_wp2_with fail
        refine (unhide CK).mono ?_
        rintro e u1 ⟨rfl, hu1⟩
        obtain rfl := hu1.symm
        clear hu1
        go_wp2_with fail
        go_ret2
        exact .inr ⟨by rw [unhide HF]; decide, by rw [unhide HF]; rfl, (unhide H0).1⟩
      | true =>
        rw [hk] at CK
        cases hb : bl ah k with
        | false =>
          have l1 : (Op.bytesLess k.toList ah.toList || k.toList == ah.toList) = true := by
            rcases kl_tri ah k with h1 | h1 | h1
            · rw [hb] at h1
              cases h1
            · subst h1
              simp
            · have h2 : Op.bytesLess k.toList ah.toList = true := h1
              rw [h2]
              rfl
          have HF : Hid (fromR es = 60) := hide (by
            unfold fromR
            rw [hcd, hb]
            simp)
          clear hcd hk hb
          go_wp2_with fail
          refine (unhide CK).mono ?_
          rintro e u1 ⟨rfl, hu1⟩
          obtain rfl := hu1.symm
          clear hu1
          go_wp2_with fail
          go_ret2
          exact .inr ⟨by rw [unhide HF]; decide, by rw [unhide HF]; rfl, (unhide H0).1⟩
        | true =>
          have l1 : Op.bytesLess k.toList ah.toList = false := kl_asym hb
          have l2 : (k.toList == ah.toList) = false := by
            cases e : (k.toList == ah.toList) with
            | false => rfl
            | true =>
              have := (bytes_beq k ah).1 e
              subst this
              rw [kl_irr] at hb
              cases hb
          have CC := right_code v _ w.heap.size u0 (unhide HV).1 (unhide HV).2
          rw [if_pos ⟨hk, hb⟩] at hcd
          cases hr : rightB v with
          | false =>
            rw [hr] at CC hcd
            have CC := hide CC
            have HF : Hid (fromR es = 61) := hide (by
              unfold fromR
              rw [hcd]
              simp)
            clear hcd hk hb hr
            go_wp2_with fail
            refine (unhide CK).mono ?_
            rintro e u1 ⟨rfl, hu1⟩
            obtain rfl := hu1.symm
            clear hu1
            go_wp2_with fail
            refine (unhide CC).mono ?_
            rintro e u2 ⟨rfl, b2⟩
            have H2 := hide ((unhide H0).1.trans (b2.mono (unhide H0).1.size))
            clear b2
            go_wp2_with fail
            go_ret2
            exact .inr ⟨by rw [unhide HF]; decide, by rw [unhide HF]; rfl, unhide H2⟩
          | true =>
            rw [hr, if_pos rfl] at hcd
            rw [hr] at CC
            have CC := hide CC
            have HCD := hide hcd
            clear hcd hk hb hr
            go_wp2_with fail
            refine (unhide CK).mono ?_
            rintro e u1 ⟨rfl, hu1⟩
            obtain rfl := hu1.symm
            clear hu1
            go_wp2_with fail
            refine (unhide CC).mono ?_
            rintro e u2 ⟨rfl, b2⟩
            have H2 := hide ((unhide H0).1.trans (b2.mono (unhide H0).1.size))
            have g0 : u2.cell? ⟨G, 0, none⟩ = some (.string k) := cell_later b2 d0
            have HI1 : Hid (i + 1 ≤ n) := hide (by omega)
            clear b2 d0 d1 d2 d3 d4 d5
            go_wp2_with fail
            go_roundw
            case rel => exact ⟨i + 1, k, rfl, by go_num, unhide HI1, hide ⟨unhide HCD, unhide H2⟩⟩
            case measure => have := unhide HI1; simp [intOf]; omega
    · have i1 : ¬ (i : Int) < (n : Int) := by omega
      have HC : Hid (chkE ⟨#[]⟩ es = 0 ∧ Below w.heap.size w wr) := hide ⟨by
        rw [(unhide HR).1, List.drop_eq_nil_of_le (by have := unhide HN; omega)]
        rfl, (unhide HR).2⟩
      have CN := hide (live_new (w0 := w) (unhide HC).2)
      clear HR hlt hi
      go_wp2_with fail
      refine (unhide CN).mono ?_
      rintro e w3 ⟨s, rfl, L3, -⟩
      have H3 := hide L3
      clear L3 CN
      go_wp2_with fail
      go_loopw [37] (fun x wr => ∃ (i : Nat) (X : Xs), x = .int .i64 (i : Int) ∧ i ≤ n ∧ Hid (putAll [] es = putAll X (es.drop i) ∧ Live w wr s X [])) (fun x _ => n - (intOf x).toNat)
      case atStart => exact ⟨0, [], rfl, Nat.zero_le _, hide ⟨rfl, unhide H3⟩⟩
      case round =>
        obtain ⟨i, X, rfl, hi, HR⟩ := hrel
        clear H3
        by_cases hlt : i < n
        · have i2 : (i : Int) < (n : Int) := by omega
          obtain ⟨⟨k, v⟩, hp⟩ : ∃ p, es[i]? = some p := ⟨_, List.getElem?_eq_getElem (by have := unhide HN; omega)⟩
          obtain ⟨hk, hr⟩ := chk_ok es _ (unhide HC).1 _ (List.mem_of_getElem? hp)
          have hB := (unhide HR).2.below
          obtain ⟨a, z0, z1, z2, al', ak', ll', m', cl', ck', rfl, hbl, hks, hc, hpv⟩ := (unhide HE wr hB).elem i _ hp
          have hpa := (unhide HR).1
          rw [drop_next hp, putAll_cons] at hpa
          dsimp only at hpa hks hpv hk hr
          have e0 : wr.cell? (a.add (i * 6)) = some (.string k) := hc 0 _ rfl
          have e1 : wr.cell? ⟨(a.add (i * 6)).block, (a.add (i * 6)).off + 1, none⟩ = some (.int .i64 z0) := hc 1 _ rfl
          have e2 : wr.cell? ⟨(a.add (i * 6)).block, (a.add (i * 6)).off + 2, none⟩ = some (.int .i64 z1) := hc 2 _ rfl
          have e3 : wr.cell? ⟨(a.add (i * 6)).block, (a.add (i * 6)).off + 3, none⟩ = some (.string z2) := hc 3 _ rfl
          have e4 : wr.cell? ⟨(a.add (i * 6)).block, (a.add (i * 6)).off + 4, none⟩ = some (.slice al' ll' cl') := hc 4 _ rfl
          have e5 : wr.cell? ⟨(a.add (i * 6)).block, (a.add (i * 6)).off + 5, none⟩ = some (.slice ak' m' ck') := hc 5 _ rfl
          obtain ⟨u0, hu0⟩ : ∃ u0, wr.alloc (.cells #[.string k, .int .i64 z0, .int .i64 z1, .string z2, .slice al' ll' cl', .slice ak' m' ck'] 49) = u0 := ⟨_, rfl⟩
          have b0 : Below wr.heap.size wr u0 := by rw [← hu0]; exact (Below.refl _ _).alloc (Nat.le_refl _) _
          obtain ⟨G, hG⟩ : ∃ G, wr.heap.size = G := ⟨_, rfl⟩
          have N0 : u0.heap[G]? = some (.cells #[.string k, .int .i64 z0, .int .i64 z1, .string z2, .slice al' ll' cl', .slice ak' m' ck'] 49 (0, 0)) := by rw [← hu0, ← hG]; exact heap_alloc_new wr _
          have d0 : u0.cell? ⟨G, 0, none⟩ = some (.string k) := by rw [cell_of_row u0 G 0 _ _ (0, 0) N0]; rfl
          have d1 : u0.cell? ⟨G, 1, none⟩ = some (.int .i64 z0) := by rw [cell_of_row u0 G 1 _ _ (0, 0) N0]; rfl
          have d2 : u0.cell? ⟨G, 2, none⟩ = some (.int .i64 z1) := by rw [cell_of_row u0 G 2 _ _ (0, 0) N0]; rfl
          have d3 : u0.cell? ⟨G, 3, none⟩ = some (.string z2) := by rw [cell_of_row u0 G 3 _ _ (0, 0) N0]; rfl
          have d4 : u0.cell? ⟨G, 4, none⟩ = some (.slice al' ll' cl') := by rw [cell_of_row u0 G 4 _ _ (0, 0) N0]; rfl
          have d5 : u0.cell? ⟨G, 5, none⟩ = some (.slice ak' m' ck') := by rw [cell_of_row u0 G 5 _ _ (0, 0) N0]; rfl
          have CP := live_put ((unhide HR).2.later b0) k v _ (IsV.mono (b0.mono hB.size) hpv) (fun j hj => hj)
          have hE : putE X k v = if fitX X k v = true then 0 else 62 := by
            unfold putE
            rw [if_pos hk, if_pos hr]
          rw [hE] at CP
          have hX : putX X k v = if fitX X k v = true then putK X k v else X := by
            unfold putX
            cases fitX X k v <;> simp [hk, hr]
          rw [hX] at CP
          clear hc hpv hbl hks b0 hB hp hE hX hk hr N0
          cases hf : fitX X k v with
          | false =>
            rw [hf] at CP hpa
            have HF : Hid (fromR es = 62) := hide (by
              unfold fromR
              rw [if_pos (unhide HC).1, hpa]
              simp)
            simp only [Bool.false_eq_true, if_false] at CP
            have CP := hide CP
            clear hpa hf
            go_wp2_with fail
            refine (unhide CP).mono ?_
            rintro e w5 ⟨rfl, L5⟩
            have H5 := hide L5.below
            clear L5 CP
            go_wp2_with fail
            go_ret2
            exact .inr ⟨by rw [unhide HF]; decide, by rw [unhide HF]; rfl, unhide H5⟩
          | true =>
            rw [hf] at CP hpa
            simp only [if_true] at CP hpa
            have CP := hide CP
            have HPA := hide hpa
            clear hpa hf
            go_wp2_with fail
            refine (unhide CP).mono ?_
            rintro e w5 ⟨rfl, L5⟩
            have H5 := hide L5
            have HI1 : Hid (i + 1 ≤ n) := hide (by omega)
            clear L5 CP e0 e1 e2 e3 e4 e5 d0 d1 d2 d3 d4 d5
            go_wp2_with fail
            go_roundw
            case rel => exact ⟨i + 1, _, by go_num, unhide HI1, hide ⟨unhide HPA, unhide H5⟩⟩
            case measure => have := unhide HI1; simp [intOf]; omega
        · have i2 : ¬ (i : Int) < (n : Int) := by omega
          have HF : Hid (fromR es = 0 ∧ Live w wr s es []) := hide (by
            have h1 := (unhide HR).1
            rw [List.drop_eq_nil_of_le (by have := unhide HN; omega)] at h1
            have h2 : putAll [] es = some X := h1
            have h3 := putAll_is es ⟨#[]⟩ [] X (unhide HC).1 (fun q hq => by cases hq) h2
            rw [List.nil_append] at h3
            refine ⟨?_, by rw [← h3]; exact (unhide HR).2⟩
            unfold fromR
            rw [if_pos (unhide HC).1, h2]
            rfl)
          go_wp2_with fail
          go_ret2
          exact .inl ⟨(unhide HF).1, s, rfl, (unhide HF).2⟩
end Go.Proofs.Ytdaooapfokhfcaa
