/-
  The walk of the document's own Decode of a state (scrupleref07.Decode); condition: the form's own reach.
-/
import Derived.Test.YtjkladljhbcelaaSSt
namespace Go.Proofs.Ytjkladljhbcelaa
open Go.RowKit
set_option linter.unusedVariables false
set_option linter.unusedSimpArgs false

/-- the last key -/
def lastK (es : List En) : ByteArray := match es.getLast? with
  | none => ⟨#[]⟩
  | some e => e.1
theorem lastK_at {es : List En} {P : Nat} {e : En} (h : es.length = P + 1) (he : es[P]? = some e) : lastK es = e.1 := by
  unfold lastK
  rw [List.getLast?_eq_getElem?, h, Nat.add_sub_cancel, he]
theorem lastK_snoc (es : List En) (e : En) : lastK (es ++ [e]) = e.1 := by
  unfold lastK
  rw [List.getLast?_append]
  rfl
theorem less_empty (p : ByteArray) : Op.bytesLess p.toList ([] : List UInt8) = false := by
  cases p.toList <;> rfl
theorem empty_less {k : ByteArray} (h : ¬ k.toList = []) : Op.bytesLess ([] : List UInt8) k.toList = true := by
  cases hk : k.toList with
  | nil => exact absurd hk h
  | cons c r => rfl
theorem empty_list : (⟨#[]⟩ : ByteArray).toList = [] := by rw [ByteArray.toList_eq]

set_option maxRecDepth 100000 in
set_option maxHeartbeats 4000000 in
theorem decodeR_any (ao : Option Addr) (len cap : Nat) (zs : List Int) (w : World) (hz : Row8 w ao len cap zs) (hm : cap ≤ maxLen) :
    Calls Try.prog 6 #[.slice ao len cap] w fun e w' => ResDS w (decS zs) e w' := by
  have hlen := hz.length
  have hle := hz.le
  have hsm := hz.small
  have hm' : cap ≤ 9223372036854775807 := by unfold maxLen at hm; omega
  by_cases h4 : len < 4
  · have hT : decS zs = .error (71, 0) := by
      have hS : startE zs = .error (71, 0) := by
        unfold startE
        rw [if_pos]
        intro e
        have := congrArg List.length e
        rw [List.length_take] at this
        simp [headE] at this
        omega
      unfold decS
      rw [hS]
    rw [hT]
    have i1 : (len : Int) < 4 := by omega
    go_enter Try.func6, Try.ntmps6
    go_wp2_with fail
    go_ret3
    exact ⟨rfl, Below.refl _ _⟩
  have i1 : ¬ (len : Int) < 4 := by omega
  obtain ⟨b, off, rfl, hc⟩ := hz.at (by omega)
  have CV : Sem.run Try.prog (convert 22 9 (.slice (some ⟨b, off, none⟩) 4 cap)) w = .ok (.string (strOfNums (zs.take 4))) w := by
    have := conv_row (w := w) hlen hc 0 4 cap (by omega) 0
    rw [Nat.add_zero, List.drop_zero] at this
    exact this
  have CU := hide (refUint_any (some ⟨b, off, none⟩) len cap 4 zs w hz hm)
  have hST := str_head (zs.take 4) (fun n hn => hsm n (List.mem_of_mem_take hn))
  obtain ⟨T, hTT⟩ : ∃ T, strOfNums (zs.take 4) = T := ⟨_, rfl⟩
  rw [hTT] at CV hST
  have i2 : (4 : Int) ≤ (cap : Int) := by omega
  by_cases hh : zs.take 4 = headE
  case neg =>
    rw [decide_eq_false hh] at hST
    have hS2 : (!T.toList == [83, 83, 84, 49]) = true := by rw [hST]; rfl
    have hT : decS zs = .error (71, 0) := by
      have hS : startE zs = .error (71, 0) := by unfold startE; rw [if_pos hh]
      unfold decS
      rw [hS]
    rw [hT]
    go_enter Try.func6, Try.ntmps6
    go_wp2_with fail
    go_ret3
    exact ⟨rfl, Below.refl _ _⟩
  rw [decide_eq_true hh] at hST
  have hS2 : (!T.toList == [83, 83, 84, 49]) = false := by rw [hST]; rfl
  have hT : startE zs = if (uintAt zs 4).2.2 ≠ 0 then .error (71, 4) else if 128 < (uintAt zs 4).1 then .error (70, 4) else .ok ((uintAt zs 4).1.toNat, (uintAt zs 4).2.1.toNat) := by unfold startE; rw [if_neg (by simpa using hh)]
  have hf := uint_form zs 4 hsm
  have hx := uint_max zs 4 hsm
  have HZ := hide hz
  have HSM := hide hsm
  clear hh hTT hz hc hsm
  generalize uintAt zs 4 = r at *
  obtain ⟨nI, nx, er⟩ := r
  dsimp only at *
  by_cases he : er = 0
  case neg =>
    have k1 : ¬ er = 0 := he
    rw [if_pos (by simpa using he)] at hT
    have hD : decS zs = .error (71, 4) := by unfold decS; rw [hT]
    rw [hD]
    go_enter Try.func6, Try.ntmps6
    go_wp2_with fail
    refine (unhide CU).mono ?_
    rintro e u ⟨rfl, rfl⟩
    go_wp2_with fail
    go_ret3
    exact ⟨rfl, Below.refl _ _⟩
  subst he
  obtain ⟨hn0, hnx, hnl⟩ : 0 ≤ nI ∧ 0 ≤ nx ∧ nx ≤ (len : Int) := by obtain ⟨q, k, _, _, _, _, hnx, _, hn0⟩ := hf rfl; omega
  rw [if_neg (by simp)] at hT
  by_cases hb : 128 < nI
  · rw [if_pos hb] at hT
    have hD : decS zs = .error (70, 4) := by unfold decS; rw [hT]
    rw [hD]
    clear hf
    go_enter Try.func6, Try.ntmps6
    go_wp2_with fail
    refine (unhide CU).mono ?_
    rintro e u ⟨rfl, rfl⟩
    go_wp2_with fail
    go_ret3
    exact ⟨rfl, Below.refl _ _⟩
  rw [if_neg hb] at hT
  obtain ⟨n, rfl⟩ := Int.eq_ofNat_of_zero_le hn0
  obtain ⟨a, rfl⟩ := Int.eq_ofNat_of_zero_le hnx
  have hD : decS zs = restS zs n [] a ⟨#[]⟩ 0 := by simp only [decS, restS, hT, Int.toNat_natCast]; rfl
  rw [hD]
  obtain ⟨D, hDD⟩ : ∃ D, restS zs n [] a ⟨#[]⟩ 0 = D := ⟨_, rfl⟩
  have HD := hide hDD
  rw [hDD]
  have ha0 : a ≤ len := by omega
  have HLEN := hide hlen
  have wn : IntKind.i64.wrap (n : Int) = (n : Int) := by rw [IntKind.wrap_i64]; omega
  have hn128 : n ≤ 128 := by omega
  clear hDD hD hT hf hx hn0 hnx hnl hST
  go_enter Try.func6, Try.ntmps6
  go_wp2_with fail
  refine (unhide CU).mono ?_
  rintro e u ⟨rfl, rfl⟩
  clear CV CU hS2
  go_wp2_with fail
  go_loopw [6, 8, 9, 10] (fun xa xo xt xi wr => ∃ (i a : Nat) (ov : Value) (t : Nat) (es : List En) (R : List (List Value)), xa = .int .i64 (a : Int) ∧ xo = ov ∧ xt = .int .i64 (t : Int) ∧ xi = .int .i64 (i : Int) ∧ a ≤ len ∧ t ≤ 32768 ∧ Hid (i ≤ n ∧ es.length = i) ∧ Hid (restS zs (n - i) es a (lastK es) t = D) ∧ Hid (Dec u wr ov es R)) (fun _ _ _ xi _ => n - (intOf xi).toNat)
  case atStart => exact ⟨0, a, _, 0, [], [], rfl, rfl, rfl, rfl, ha0, by omega, hide ⟨by omega, rfl⟩, HD, hide (Dec.start u)⟩
  case round =>
    clear HD ha0
    obtain ⟨i, a, ov, t, es, R, rfl, rfl, rfl, rfl, hal, ht, HI, HD, HR⟩ := hrel
    by_cases hlt : i < n
    · have j1 : (i : Int) < (n : Int) := by omega
      have hrow := (unhide HR).row
      rw [(unhide HI).2] at hrow
      obtain ⟨ax, cx, hv, nn⟩ := slice_form hrow
      subst hv
      have HNN := hide nn
      clear hrow nn
      have CT := hide (refText_any (some ⟨b, off, none⟩) len cap (a : Int) 32 zs wr ((unhide HZ).later (unhide HR).below) hm' (by omega))
      obtain ⟨k9, hk9⟩ : ∃ k, n - i = k + 1 := ⟨n - i - 1, by omega⟩
      rw [hk9] at HD
      have hf := fun h => text_form zs 32 a (unhide HSM) h
      have hTE : takeE zs a (lastK es) = if (textOfU zs 32 (uintAt zs a)).2.2 ≠ 0 then .error (71, (a : Int)) else if Op.bytesLess (lastK es).toList (textOfU zs 32 (uintAt zs a)).1.toList = false then .error (70, (a : Int)) else match takeR zs (textOfU zs 32 (uintAt zs a)).2.1 with
          | .error q => .error (71, q.2)
          | .ok (v, n) => .ok (((textOfU zs 32 (uintAt zs a)).1, v), n) := rfl
      generalize textOfU zs 32 (uintAt zs a) = r at *
      obtain ⟨k, nx, er⟩ := r
      dsimp only at *
      by_cases he : er = 0
      case neg =>
        have k1 : ¬ er = 0 := he
        rw [if_pos he] at hTE
        rw [restS_err hTE] at HD
        clear hf hTE
        go_wp2_with fail
        refine (unhide CT).mono ?_
        rintro e u2 ⟨rfl, rfl⟩
        go_wp2_with fail
        go_ret3
        rw [← unhide HD]
        exact ⟨rfl, (unhide HR).below⟩
      subst he
      rw [if_neg (by simp)] at hTE
      obtain ⟨bn, hb1, hb2, hb3, hb4⟩ : ∃ b : Nat, a ≤ b ∧ b ≤ zs.length ∧ nx = (b : Int) ∧ k.size ≤ 32 := by
        obtain ⟨b, h1, h2, h3, h4, _⟩ := hf rfl
        exact ⟨b, h1, h2, h3, by omega⟩
      subst hb3
      clear hf
      have HTE := hide hTE
      have HB := hide (And.intro hb1 (And.intro hb2 hb4))
      clear hTE hb1 hb2
      obtain ⟨Z, hZ⟩ : ∃ Z, Op.bytesLess (lastK es).toList k.toList = Z := ⟨_, rfl⟩
      have HZZ := hide hZ
      clear hZ
      go_wp2_with fail
      refine (unhide CT).mono ?_
      rintro e u2 ⟨rfl, rfl⟩
      clear CT
      go_upto_region 16 with fail
      go_cut [67] from 40 to 67 (fun y wx => y = .bool (!Z) ∧ wx = u2)
      case first =>
        by_cases hk0 : k.toList = []
        · have hZf : Z = false := by
            have h := unhide HZZ
            rw [hk0, less_empty] at h
            exact h.symm
          subst hZf
          have g1 : (k.toList == ([] : List UInt8)) = true := by rw [hk0]; rfl
          go_wp2_with fail
          go_meet
          exact ⟨rfl, rfl⟩
        · have g1 : (k.toList == ([] : List UInt8)) = false := beq_eq_false_iff_ne.2 hk0
          by_cases hi0 : i = 0
          · have hZt : Z = true := by
              have h := unhide HZZ
              have hl : lastK es = ⟨#[]⟩ := by
                unfold lastK
                rw [show es = [] from List.length_eq_zero_iff.1 (by have := (unhide HI).2; omega)]
                rfl
              rw [hl, empty_list, empty_less hk0] at h
              exact h.symm
            subst hZt
            have j0 : ¬ (0 : Int) < (i : Int) := by omega
            have HI0 := hide hi0
            clear hi0
            go_wp2_with fail
            go_meet
            exact ⟨rfl, rfl⟩
          · obtain ⟨P, hP⟩ : ∃ P, i = P + 1 := ⟨i - 1, by omega⟩
            obtain ⟨ex, hex⟩ : ∃ ex, es[P]? = some ex := ⟨_, List.getElem?_eq_getElem (by have := (unhide HI).2; omega)⟩
            have hZe : (!Z) = (Op.bytesLess k.toList ex.1.toList || k.toList == ex.1.toList) := by
              have h := unhide HZZ
              rw [lastK_at (by have := (unhide HI).2; omega) hex, bl_not] at h
              rw [← h]
              simp
            obtain ⟨n1, n2, n3, n4⟩ := unhide HNN
            obtain ⟨a8, rfl⟩ : ∃ a8, ax = some a8 := by
              cases ax with
              | none => have := (n1 rfl).1; omega
              | some a8 => exact ⟨a8, rfl⟩
            obtain ⟨h1, h2⟩ := n4 a8 rfl
            obtain ⟨cs8, q1, q2, _⟩ := (unhide HR).el P ex hex
            have cX : u2.cell? ((⟨a8.block, 0, none⟩ : Addr).add (P * 6)) = some (.string ex.1) := (unhide HR).row.cells h1 (P * 6) _ (by simpa using flat6_at R (unhide HR).six P _ q1 0 _ rfl)
            rw [← h2] at cX
            have j0 : (0 : Int) < (i : Int) := by omega
            have j2 : IntKind.i64.wrap ((i : Int) - 1) = (P : Int) := by rw [IntKind.wrap_i64]; omega
            have j3 : (P : Int) < (i : Int) := by omega
            clear h1 h2 n1 n2 n3 n4 hi0 hP hex q1 q2
            cases hc : (Op.bytesLess k.toList ex.1.toList || k.toList == ex.1.toList) with
            | true =>
              rw [hc] at hZe
              have HZ2 := hide hZe
              clear hZe
              go_wp2_with fail
              go_meet
              exact ⟨by rw [unhide HZ2], rfl⟩
            | false =>
              rw [hc] at hZe
              have HZ2 := hide hZe
              clear hZe
              go_wp2_with fail
              go_meet
              exact ⟨by rw [unhide HZ2], rfl⟩
      case rest =>
        obtain ⟨rfl, hwc⟩ := hcut
        rw [hwc]
        clear hwc
        have hTE := unhide HTE
        rw [unhide HZZ] at hTE
        cases Z with
        | false =>
          rw [if_pos rfl] at hTE
          rw [restS_err hTE] at HD
          clear hTE
          go_wp2_with fail
          go_ret3
          rw [← unhide HD]
          exact ⟨rfl, (unhide HR).below⟩
        | true =>
          rw [if_neg (by simp)] at hTE
          have CK := hide (take_f (some ⟨b, off, none⟩) len cap zs (bn : Int) u2 ((unhide HZ).later (unhide HR).below) hm)
          cases hTR : takeR zs (bn : Int) with
          | error q =>
            rw [hTR] at CK hTE
            dsimp only at hTE
            rw [restS_err hTE] at HD
            obtain ⟨qc, qp⟩ := q
            have hne : ¬ qc = 0 := by
              have := take_codeS hTR
              dsimp only at this
              omega
            dsimp only at HD
            clear hTE hTR
            go_wp2_with fail
            refine (unhide CK).mono ?_
            rintro e u3 ⟨rfl, b3⟩
            have B3 := hide ((unhide HR).below.trans (b3.mono (unhide HR).below.size))
            clear b3 CK
            go_wp2_with fail
            go_ret3
            rw [← unhide HD]
            exact ⟨rfl, (unhide B3).alloc (unhide B3).size _⟩
          | ok q =>
            obtain ⟨v, a'⟩ := q
            rw [hTR] at CK hTE
            dsimp only at hTE
            have SN := takeE_sound (unhide HSM) hTE
            rw [restS_ok hTE] at HD
            obtain ⟨q1, q2, q3⟩ := ent_parts SN.ok
            dsimp only at q1 q2 q3 HD
            have hal' : a' ≤ len := by have := SN.le; have := unhide HLEN; omega
            have hw1 := entW_le SN.ok
            have hWE : entW (k, v) = 1 + k.size + wt0 v := rfl
            obtain ⟨Wt, hWt⟩ : ∃ W, wt0 v = W := ⟨_, rfl⟩
            rw [hWE, hWt] at HD hw1
            have HWT := hide hWt
            clear hTE hTR SN hWE hWt
            go_wp2_with fail
            refine (unhide CK).mono ?_
            rintro e u3 ⟨x3, rfl, p3, b3⟩
            obtain ⟨x0, x1, x2, l5, ks5, al, ak, cl, ck, hy5, rfl⟩ := p3.shape
            clear hy5
            obtain ⟨ll, hlc5⟩ : ∃ lc5, l5.length = lc5 := ⟨_, rfl⟩
            obtain ⟨m, hmc5⟩ : ∃ mc5, ks5.length = mc5 := ⟨_, rfl⟩
            rw [hlc5, hmc5] at p3 ⊢
            clear hlc5 hmc5 CK
            obtain ⟨G, hG⟩ : ∃ G, u3.heap.size = G := ⟨_, rfl⟩
            have BX := Box.mk' u3 (.int .i64 x0) (.int .i64 x1) (.string x2) (.slice al ll cl) (.slice ak m ck)
            obtain ⟨w5, hw5⟩ : ∃ w5, u3.alloc (.cells #[.int .i64 x0, .int .i64 x1, .string x2, .slice al ll cl, .slice ak m ck] 36) = w5 := ⟨_, rfl⟩
            rw [hw5] at BX
            have HP : Hid (∀ u, Below w5.heap.size w5 u → IsQ u (fun b => u2.heap.size ≤ b ∧ b < u3.heap.size) v (.agg #[.int .i64 x0, .int .i64 x1, .string x2, .slice al ll cl, .slice ak m ck]) ∧ u.heap[G]? = some (.cells #[.int .i64 x0, .int .i64 x1, .string x2, .slice al ll cl, .slice ak m ck] 36 (0, 0)) ∧ u3.heap.size < u.heap.size ∧ Below u2.heap.size u2 u) := hide (fun u hu => by
              have hz := BX.size
              have b5 : Below u3.heap.size u3 u := BX.below.trans (hu.mono (by omega))
              exact ⟨p3.move (fun b hb => b5.block b hb.2), (hu.block G (by omega)).trans (by rw [← hG]; exact BX.row), by have := hu.size; omega, b3.trans (b5.mono b3.size)⟩)
            have CW := hide (weight_ref v _ u3.heap.size w5 ((unhide HP w5 (Below.refl _ _)).1.isV (fun b hb => hb.2)) (Nat.le_of_lt (unhide HP w5 (Below.refl _ _)).2.2.1))
            rw [unhide HWT] at CW
            have HW5 := hide hw5
            clear BX p3 b3 hw5
            go_upto_region 19 with fail
            rw [unhide HW5]
            try rw [hG]
            obtain ⟨d0, d1, d2, d3, d4⟩ := row_cell (unhide HP w5 (Below.refl _ _)).2.1
            have e1 : IntKind.i64.wrap ((t : Int) + 1) = (t : Int) + 1 := by rw [IntKind.wrap_i64]; omega
            have e2 : IntKind.i64.wrap ((t : Int) + 1 + (k.size : Int)) = (t : Int) + 1 + (k.size : Int) := by rw [IntKind.wrap_i64]; omega
            have e3 : IntKind.i64.wrap ((t : Int) + 1 + (k.size : Int) + (Wt : Int)) = ((t + (1 + k.size + Wt) : Nat) : Int) := by rw [IntKind.wrap_i64]; omega
            clear HW5
            go_wp2_with fail
            refine (unhide CW).mono ?_
            rintro e u4 ⟨rfl, b4⟩
            obtain ⟨p4, r4, z4, B4⟩ := unhide HP u4 b4
            have H4 := hide (And.intro p4 (And.intro z4 B4))
            have HR4 := hide r4
            clear p4 z4 B4 b4 d0 d1 d2 d3 d4 CW
            obtain ⟨d0, d1, d2, d3, d4⟩ := row_cell r4
            clear r4
            obtain ⟨tE, htE⟩ : ∃ tE, t + (1 + k.size + Wt) = tE := ⟨_, rfl⟩
            rw [htE] at HD e3
            by_cases hb : 32768 < tE
            · have k1 : (32768 : Int) < (tE : Int) := by omega
              rw [if_pos hb] at HD
              clear htE
              go_wp2_with fail
              go_ret3
              rw [← unhide HD]
              exact ⟨rfl, (unhide HR).below.trans ((unhide H4).2.2.mono (unhide HR).below.size)⟩
            · have k1 : ¬ (32768 : Int) < (tE : Int) := by omega
              rw [if_neg hb] at HD
              have hi7 := (unhide HI).2
              obtain ⟨hbase, HRL⟩ : u.heap.size ≤ (u4.alloc (.cells #[.string k, .int .i64 x0, .int .i64 x1, .string x2, .slice al ll cl, .slice ak m ck] 38)).heap.size ∧ Hid (Below u2.heap.size u2 (u4.alloc (.cells #[.string k, .int .i64 x0, .int .i64 x1, .string x2, .slice al ll cl, .slice ak m ck] 38))) := by
                have b4 := (unhide H4).2.2.alloc (unhide H4).2.2.size (.cells #[.string k, .int .i64 x0, .int .i64 x1, .string x2, .slice al ll cl, .slice ak m ck] 38)
                exact ⟨Nat.le_trans (unhide HR).below.size b4.size, hide b4⟩
              have HO := hide ((unhide HR).later (unhide HRL)).row
              rw [hi7] at HO
              have hin : i ≤ 1000000 := by omega
              have htE9 : tE ≤ 32768 := by omega
              clear hi7 htE
              go_upto_region 25 with (first | (at_builtin; refine wpl_app6 rfl (.tmp 90) (.tmp 94) rfl u.heap.size i (.slice ax i cx) R.flatten rfl (unhide HO) u4.heap.size k x0 x1 x2 al ak ll cl m ck rfl (heap_alloc_new u4 _) hin hbase ?_; intro v6 w6 o6))
              have D6 : Hid (Dec u w6 v6 (es ++ [(k, v)]) (R ++ [[.string k, .int .i64 x0, .int .i64 x1, .string x2, .slice al ll cl, .slice ak m ck]])) := hide (by
                obtain ⟨y1, y2⟩ := unhide o6
                refine (unhide HR).push (unhide HRL) (cs := [.int .i64 x0, .int .i64 x1, .string x2, .slice al ll cl, .slice ak m ck]) rfl q2 ?_ (by rw [(unhide HI).2]; exact y1) y2
                have hs4 : (u4.alloc (.cells #[.string k, .int .i64 x0, .int .i64 x1, .string x2, .slice al ll cl, .slice ak m ck] 38)).heap.size = u4.heap.size + 1 := by simp
                refine (unhide H4).1.to (fun b hb => heap_alloc_old u4 _ (by have := (unhide H4).2.1; omega)) (fun b hb => ⟨hb.1, by have := (unhide H4).2.1; omega⟩))
              have HI1 : Hid (i + 1 ≤ n ∧ (es ++ [(k, v)]).length = i + 1) := hide ⟨by omega, by have := (unhide HI).2; simp; omega⟩
              have HD' : Hid (restS zs (n - (i + 1)) (es ++ [(k, v)]) a' (lastK (es ++ [(k, v)])) tE = D) := hide (by rw [show n - (i + 1) = k9 by omega, lastK_snoc]; exact unhide HD)
              clear o6 HO HRL H4 d0 d1 d2 d3 d4 HR4
              go_wp2_with fail
              go_roundw
              case rel => exact ⟨i + 1, a', v6, tE, es ++ [(k, v)], _, rfl, rfl, by first | rfl | go_num, by go_num, hal', htE9, HI1, HD', D6⟩
              case measure => have := (unhide HI1).1; simp [intOf]; omega
    · have j1 : ¬ (i : Int) < (n : Int) := by omega
      have hin : n - i = 0 := by omega
      rw [hin, restS_zero, hlen] at HD
      by_cases hb : a < len
      · have k1 : (a : Int) < (len : Int) := by omega
        rw [if_pos hb] at HD
        go_wp2_with fail
        go_ret3
        rw [← unhide HD]
        exact ⟨rfl, (unhide HR).below⟩
      · have k1 : ¬ (a : Int) < (len : Int) := by omega
        rw [if_neg hb] at HD
        obtain ⟨al, cl, rfl, hE⟩ := (unhide HR).made (by have := unhide HI; omega)
        have HE := hide hE
        have HOE := hide (unhide HR).own
        clear hE
        obtain ⟨L, hL⟩ : ∃ L, es.length = L := ⟨_, rfl⟩
        rw [hL]
        go_wp2_with fail
        go_ret3
        rw [← unhide HD]
        exact ⟨al, cl, by rw [hL]; rfl, unhide HE, unhide HOE, (unhide HR).below⟩
end Go.Proofs.Ytjkladljhbcelaa
