/-
  The walk of the document's own reader of exports (scrupleref09.reader.exports); conditions: the form's own reach.
-/
import Derived.Test.YtfdnhpmldnmncaaR35
import Derived.Test.YtfdnhpmldnmncaaR39
import Derived.Test.YtfdnhpmldnmncaaR42
import Derived.Test.YtfdnhpmldnmncaaR46
import Derived.BigQuiet
import Derived.Deep.QuietTactic
namespace Go.Proofs.Ytfdnhpmldnmncaa
open Go.RowKit
set_option linter.unusedVariables false

theorem txQ_size {bs : List Int} (hs : ∀ c ∈ bs, 0 ≤ c ∧ c ≤ 255) (s : Nat × Int × Int) : (txQ bs 20 s).1.size ≤ 20 := by
  unfold txQ
  split
  · show (⟨#[]⟩ : ByteArray).size ≤ 20
    decide
  · cases h : rdTx bs s.1 20 with
    | error c => show (⟨#[]⟩ : ByteArray).size ≤ 20; decide
    | ok r =>
      obtain ⟨t, nx⟩ := r
      have := (tx_ok hs h).1
      show t.size ≤ 20
      omega

theorem name_full {t : ByteArray} (h : nameB t = true) : Op.bytesLess (⟨#[]⟩ : ByteArray).toList t.toList = true := by
  have h1 : 1 ≤ t.size := by
    by_cases h0 : 1 ≤ t.size
    · exact h0
    · unfold nameB at h
      rw [decide_eq_false h0] at h
      simp at h
  rw [ByteArray.toList_eq, ByteArray.toList_eq]
  have h2 : t.data.toList.length = t.size := by rw [Array.length_toList]; rfl
  cases hl : t.data.toList with
  | nil => rw [hl] at h2; simp at h2; omega
  | cons c r => rfl

theorem Bx.drew {wr u : World} {gb gr : Nat} {bv : Value} {T : TypeId} {cs : Array Value} {a : Nat} {f q : Int} (h : Bx wr u gb gr bv T cs a f q) (k : Nat) : Bx wr (u.drewN k) gb gr bv T cs a f q :=
  h.call (h.rd.of_below (drewN_below (Below.refl _ _) k)) (Beside.of_below (drewN_below (Below.refl _ _) k))
theorem Bx.fault {wr u : World} {gb gr : Nat} {bv : Value} {T : TypeId} {cs : Array Value} {a : Nat} {f q : Int} (h : Bx wr u gb gr bv T cs a f q) (c : Int) : Bx wr (u.setCell ⟨gr, 2, none⟩ (.int .i64 c)) gb gr bv T cs a c q :=
  h.call (by unfold Qf; rw [heap_setCell_same u gr 2 _ _ _ h.rd]; rfl) (Beside.set (Beside.refl _ _))

theorem last_at {m : Md} {P : Nat} {x : Ex} (h : m.xs.length = P + 1) (hx : m.xs[P]? = some x) : lastN m = x.1 := by
  unfold lastN
  rw [List.getLast?_eq_getElem?, h, Nat.add_sub_cancel, hx]


set_option maxRecDepth 100000 in
set_option maxHeartbeats 4000000 in
theorem exports_q (w0 : World) (gm gr : Nat) (bo : Option Addr) (e bc : Nat) (a : Nat) (q : Int) (C F X : Value) (m : Md) (V : Nat → List Value) (bs : List Int) (w : World) (h : RdQ w0 w gm gr (.slice bo e bc) a 0 q C F X m V) (hy : Row8 w0 bo e bc bs) (hg : w0.heap.size ≤ gm) (hm : bc ≤ maxLen) (hl : m.fs.length ≤ 24) (hx0 : m.xs = []) :
    Calls Try.prog 27 #[.pointer (some ⟨gr, 0, none⟩), .pointer (some ⟨gm, 0, none⟩)] w fun x w' => ResQ w0 gm gr (.slice bo e bc) q (rdL bs 24 (rdX bs) m a) x w' := by
  have C1 := hide (number_u gr bo e bc a 0 q 24 bs w h.rd (h.src hy hg hm) (by omega) (by omega))
  have HY := hide hy
  have H0 := hide h
  have hst : ∃ n : Nat, (numQ bs 24 (a, 0, q)).1 = (n : Int) ∧ n ≤ 24 ∧ (((numQ bs 24 (a, 0, q)).2.2.1 = 0 ∧ (numQ bs 24 (a, 0, q)).2.2.2 = q ∧ rdN (rdX bs) n m (numQ bs 24 (a, 0, q)).2.1 = rdL bs 24 (rdX bs) m a) ∨ (¬ (numQ bs 24 (a, 0, q)).2.2.1 = 0 ∧ rdL bs 24 (rdX bs) m a = .error ((numQ bs 24 (a, 0, q)).2.2.1, (numQ bs 24 (a, 0, q)).2.2.2))) := by
    unfold rdL numQ
    rw [if_neg (by simp)]
    dsimp only
    cases h1 : rdNo bs a 24 92 with
    | error c =>
      have k1 : ¬ c = 0 := by have := no_code h1; omega
      exact ⟨0, rfl, by omega, Or.inr ⟨k1, rfl⟩⟩
    | ok r1 =>
      obtain ⟨nI, a1⟩ := r1
      obtain ⟨n, rfl, hn⟩ : ∃ n : Nat, nI = (n : Int) ∧ n ≤ 24 := by
        unfold rdNo at h1
        split at h1
        · cases h1
        · rename_i h0
          split at h1
          · cases h1
          · rename_i h2
            simp only [Except.ok.injEq, Prod.mk.injEq] at h1
            have e0 : uintAt bs (a : Int) = ((uintAt bs (a : Int)).1, (uintAt bs (a : Int)).2.1, 0) := by
              have : (uintAt bs (a : Int)).2.2 = 0 := by simpa using h0
              rw [← this]
            have := (uint_nat hy.small e0).1
            exact ⟨nI.toNat, by omega, by omega⟩
      exact ⟨n, rfl, hn, Or.inl ⟨rfl, rfl, rfl⟩⟩
  obtain ⟨R, hR⟩ : ∃ R, rdL bs 24 (rdX bs) m a = R := ⟨_, rfl⟩
  rw [hR] at hst ⊢
  generalize numQ bs 24 (a, 0, q) = s0 at *
  obtain ⟨n0, a1, f1, q1⟩ := s0
  dsimp only at *
  obtain ⟨n, rfl, hn, hst⟩ := hst
  have HST := hide hst
  clear h hy hR hst
  go_enter Try.func27, Try.ntmps27
  go_wp2_with fail
  refine (unhide C1).mono ?_
  rintro x u1 ⟨rfl, r1, b1⟩
  have R1 := hide ((unhide H0).beside b1 r1)
  clear r1 b1 C1 H0
  go_wp2_with fail
  go_loopw [5] (fun x wr => ∃ (i : Nat) (m' : Md) (a' : Nat) (f' q' : Int) (C' F' X' : Value) (V' : Nat → List Value), x = .int .i64 (i : Int) ∧ Hid (i ≤ n) ∧ Hid (RdQ w0 wr gm gr (.slice bo e bc) a' f' q' C' F' X' m' V') ∧ Hid (m'.fs.length ≤ 24 ∧ m'.xs.length = i) ∧ Hid ((f' = 0 ∧ q' = q ∧ rdN (rdX bs) (n - i) m' a' = R) ∨ (¬ f' = 0 ∧ R = .error (f', q')))) (fun x _ => n - (intOf x).toNat)
  case atStart => exact ⟨0, m, a1, f1, q1, C, F, X, V, rfl, hide (by omega), R1, hide ⟨hl, by rw [hx0]; rfl⟩, HST⟩
  case round =>
    clear R1 HST
    obtain ⟨i, m', a', f', q', C', F', X', V', rfl, HI, HM, HL, HS⟩ := hrel
    obtain ⟨d0, d1, d2, d3, _, _, _, _⟩ := (unhide HM).rd.cells
    by_cases hlt : i < n
    · have j1 : (i : Int) < (n : Int) := by omega
      by_cases hf : f' = 0
      · -- ROUND
        subst hf
        have hN : q' = q ∧ rdN (rdX bs) (n - i) m' a' = R := by
          rcases unhide HS with h | h
          · exact h.2
          · exact absurd rfl h.1
        have X0 := Bx.start (unhide HM) 55 #[.string ⟨#[]⟩, .int .i64 0]
        obtain ⟨gb, hgb⟩ : ∃ gb, wr.heap.size = gb := ⟨_, rfl⟩
        obtain ⟨v0, hv0⟩ : ∃ v0, wr.alloc (.cells #[.string ⟨#[]⟩, .int .i64 0] 55) = v0 := ⟨_, rfl⟩
        rw [hv0, hgb] at X0
        have HV0 := hide hv0
        have HGB := hide hgb
        have C1 := hide (text_u gr bo e bc a' 0 q' 20 bs v0 X0.rd ((X0.made (unhide HM)).src (unhide HY) hg hm) (by omega) (by omega))
        have hsz := txQ_size (unhide HY).small (a', 0, q')
        obtain ⟨t1, b1, f1', q1', hE1⟩ : ∃ t b f q, txQ bs 20 (a', 0, q') = (t, b, f, q) := ⟨_, _, _, _, rfl⟩
        rw [hE1] at C1 hsz
        dsimp only at C1 hsz
        have HE1 := hide hE1
        have x1 := X0.rd.cells.2.1
        have Y0 := hide X0
        have HN := hide hN
        have HSZ := hide hsz
        clear X0 hv0 hgb hN hsz hE1
        go_upto_region 5 with fail
        rw [unhide HV0, unhide HGB]
        go_wp2_with fail
        refine (unhide C1).mono ?_
        rintro x v1 ⟨rfl, r1, bb1⟩
        have X1 := (unhide Y0).call r1 bb1
        obtain ⟨k0, k1⟩ := two_cell X1.box
        have z0 := frozen_of_row v1 gb 0 _ _ X1.box
        have X1' := X1.store 0 (.string t1) (cs' := #[.string t1, .int .i64 0]) rfl
        have Y1 := hide X1'
        have h0 := (two_cell X1'.box).1
        have C2 := hide (refName_any t1 (v1.setCell ⟨gb, 0, none⟩ (.string t1)) (by have := unhide HSZ; omega))
        obtain ⟨N, hN⟩ : ∃ N, nameB t1 = N := ⟨_, rfl⟩
        rw [hN] at C2
        have HNB := hide hN
        clear X1 X1' r1 bb1 C1 Y0 x1 d0 d1 d2 d3 hN
        go_wp2_with fail
        refine (unhide C2).mono ?_
        rintro x v2 ⟨rfl, hv2⟩
        have Y2 := unhide Y1
        rw [← hv2] at Y2
        have HY2 := hide Y2
        clear Y1 Y2 k0 k1 z0 h0 hv2 C2
        obtain ⟨Z, hZ⟩ : ∃ Z, (!(N && Op.bytesLess (lastN m').toList t1.toList)) = Z := ⟨_, rfl⟩
        have HZ := hide hZ
        clear hZ
        go_upto_region 8 with fail
        go_cut [53] from 24 to 53 (fun y wx => y = .bool Z ∧ Hid (Bx wr wx gb gr (.slice bo e bc) 55 #[.string t1, .int .i64 0] b1 f1' q1'))
        case first =>
          cases N with
          | false =>
            have hZ := unhide HZ
            have hZt : Z = true := by rw [← hZ]; rfl
            subst hZt
            clear hZ
            go_quiet (fail)
            go_wp2_with fail
            go_meet
            exact ⟨rfl, hide ((unhide HY2).drew _)⟩
          | true =>
            by_cases hi0 : i = 0
            · have hZf : Z = false := by
                have h := unhide HZ
                have hl : lastN m' = ⟨#[]⟩ := by
                  unfold lastN
                  rw [show m'.xs = [] from List.length_eq_zero_iff.1 (by have := (unhide HL).2; omega)]
                  rfl
                rw [hl, name_full (unhide HNB)] at h
                rw [← h]
                rfl
              subst hZf
              have j0 : ¬ (0 : Int) < (i : Int) := by omega
              have j0' : decide (0 < i) = false := decide_eq_false (by omega)
              have HI0 := hide hi0
              clear hi0
              go_quiet (fail)
              go_wp2_with fail
              go_meet
              exact ⟨rfl, hide ((unhide HY2).drew _)⟩
            · obtain ⟨P, hP⟩ : ∃ P, i = P + 1 := ⟨i - 1, by omega⟩
              obtain ⟨ex, hex⟩ : ∃ ex, m'.xs[P]? = some ex := ⟨_, List.getElem?_eq_getElem (by have := (unhide HL).2; omega)⟩
              have hZe : Z = (Op.bytesLess t1.toList ex.1.toList || t1.toList == ex.1.toList) := by
                have h := unhide HZ
                rw [last_at (by have := (unhide HL).2; omega) hex, bl_not] at h
                rw [← h]
                simp
              have R2 := (unhide HY2).made (unhide HM)
              obtain ⟨ax, cx, rfl, n1, n2, n3, n4⟩ := slice_form R2.ownX
              obtain ⟨a8, rfl⟩ : ∃ a8, ax = some a8 := by
                cases ax with
                | none => have := (n1 rfl).1; have := (unhide HL).2; omega
                | some a8 => exact ⟨a8, rfl⟩
              obtain ⟨h1, h2⟩ := n4 a8 rfl
              have cX : v2.cell? ((⟨a8.block, 0, none⟩ : Addr).add (P * 2)) = some (.string ex.1) := by
                refine R2.ownX.cells h1 (P * 2) _ ?_
                rw [List.flatMap_def]
                exact flatk_at (k := 2) (m'.xs.map exV) (fun r hr => by obtain ⟨f, _, rfl⟩ := List.mem_map.1 hr; rfl) P (exV ex) 0 _ (by rw [List.getElem?_map, hex]; rfl) rfl
              rw [← h2] at cX
              obtain ⟨y0, y1, y2⟩ := row_cell3 R2.box
              rw [(unhide HL).2] at y2
              have g0 := (two_cell (unhide HY2).box).1
              have j0 : (0 : Int) < (i : Int) := by omega
              have j0' : decide (0 < i) = true := decide_eq_true (by omega)
              have j2 : IntKind.i64.wrap ((i : Int) - 1) = (P : Int) := by have := unhide HI; rw [IntKind.wrap_i64]; omega
              have j3 : (P : Int) < (i : Int) := by omega
              clear h1 h2 n1 n2 n3 n4 R2 hi0 hP hex y0 y1
              cases hc : (Op.bytesLess t1.toList ex.1.toList || t1.toList == ex.1.toList) with
              | true =>
                rw [hc] at hZe
                subst hZe
                go_quiet (fail)
                go_wp2_with fail
                go_meet
                exact ⟨rfl, hide ((unhide HY2).drew _)⟩
              | false =>
                rw [hc] at hZe
                subst hZe
                go_quiet (fail)
                go_wp2_with fail
                go_meet
                exact ⟨rfl, hide ((unhide HY2).drew _)⟩
        case rest =>
          obtain ⟨rfl, HY3⟩ := hcut
          clear HY2
          obtain ⟨b2, f2, q2, hE2⟩ : ∃ b f q, (if Z = true then wrQ 90 (a' : Int) (b1, f1', q1') else (b1, f1', q1')) = (b, f, q) := ⟨_, _, _, rfl⟩
          have HE2 := hide hE2
          clear hE2
          go_upto_if 53 with fail
          go_cut [] from 24 to 56 (fun wx => Hid (Bx wr wx gb gr (.slice bo e bc) 55 #[.string t1, .int .i64 0] b2 f2 q2))
          case first =>
            cases Z with
            | true =>
              have CW := hide (wrong_u gr (.slice bo e bc) b1 f1' q1' 90 a' _ (unhide HY3).rd)
              rw [show wrQ 90 (a' : Int) (b1, f1', q1') = (b2, f2, q2) from unhide HE2] at CW
              go_wp2_with fail
              refine (unhide CW).mono ?_
              rintro x v3 ⟨rfl, r3, bb3⟩
              have HY4 := hide ((unhide HY3).call r3 bb3)
              clear r3 bb3 CW HY3
              go_wp2_with fail
              go_meet
              exact HY4
            | false =>
              have e2 := unhide HE2
              simp only [Bool.false_eq_true, if_false, Prod.mk.injEq] at e2
              obtain ⟨rfl, rfl, rfl⟩ := e2
              go_wp2_with fail
              go_meet
              exact HY3
          case rest =>
            have HY4 := hcut
            clear hcut HY3
            obtain ⟨w4, hw4⟩ : ∃ w4, wc = w4 := ⟨_, rfl⟩
            rw [hw4] at HY4 ⊢
            clear hw4
            obtain ⟨d0, d1, d2, d3, _, _, _, _⟩ := (unhide HY4).rd.cells
            obtain ⟨G, hG⟩ : ∃ G, (f2 == 0) = G := ⟨_, rfl⟩
            have hG' : decide (f2 = 0) = G := by rw [← hG]; rfl
            have HG := hide hG
            have C3 := hide (number_u gr bo e bc b2 f2 q2 9223372036854775807 bs w4 (unhide HY4).rd (((unhide HY4).made (unhide HM)).src (unhide HY) hg hm) (by omega) (by omega))
            obtain ⟨n3, b3, f3, q3, hE3⟩ : ∃ n b f q, numQ bs 9223372036854775807 (b2, f2, q2) = (n, b, f, q) := ⟨_, _, _, _, rfl⟩
            rw [hE3] at C3
            dsimp only at C3
            have HE3 := hide hE3
            clear hE3
            go_upto_region 12 with fail
            clear hG hG' d0 d1 d2 d3
            go_wp2_with fail
            refine (unhide C3).mono ?_
            rintro x v5 ⟨rfl, r5, bb5⟩
            have X5 := (unhide HY4).call r5 bb5
            obtain ⟨k0, k1⟩ := two_cell X5.box
            have z0 := frozen_of_row v5 gb 1 _ _ X5.box
            have X5' := X5.store 1 (.int .i64 n3) (cs' := #[.string t1, .int .i64 n3]) rfl
            obtain ⟨v6, hv6⟩ : ∃ v6, v5.setCell ⟨gb, 1, none⟩ (.int .i64 n3) = v6 := ⟨_, rfl⟩
            rw [hv6] at X5'
            have HY5 := hide X5'
            have HV6 := hide hv6
            clear X5 X5' r5 bb5 C3 HY4 hv6
            go_upto_region 13 with fail
            rw [unhide HV6]
            clear k0 k1 z0 HV6
            obtain ⟨H, hH⟩ : ∃ H, (G && (f3 == 92)) = H := ⟨_, rfl⟩
            have HH := hide hH
            clear hH
            go_cut [76] from 24 to 76 (fun y wx => y = .bool H ∧ wx = v6)
            case first =>
              obtain ⟨d0, d1, d2, d3, _, _, _, _⟩ := (unhide HY5).rd.cells
              cases G with
              | false =>
                have hH := unhide HH
                have hHf : H = false := by rw [← hH]; rfl
                subst hHf
                go_wp2_with fail
                go_meet
                exact ⟨rfl, rfl⟩
              | true =>
                have hH : (f3 == 92) = H := by have := unhide HH; simpa using this
                by_cases h92 : f3 = 92
                · have hHt : H = true := by rw [← hH, h92]; rfl
                  subst hHt
                  go_wp2_with fail
                  go_meet
                  exact ⟨rfl, rfl⟩
                · have hHf : H = false := by rw [← hH]; simpa using h92
                  subst hHf
                  go_wp2_with fail
                  go_meet
                  exact ⟨rfl, rfl⟩
            case rest =>
              obtain ⟨rfl, hwc⟩ := hcut
              rw [hwc]
              clear hwc
              obtain ⟨f4, hE4⟩ : ∃ f4, (if H = true then (90 : Int) else f3) = f4 := ⟨_, rfl⟩
              have HE4 := hide hE4
              clear hE4
              go_upto_if 76 with fail
              go_cut [] from 24 to 79 (fun wx => Hid (Bx wr wx gb gr (.slice bo e bc) 55 #[.string t1, .int .i64 n3] b3 f4 q3))
              case first =>
                cases H with
                | true =>
                  have e4 : (90 : Int) = f4 := unhide HE4
                  subst e4
                  obtain ⟨d0, d1, d2, d3, z0, z1, z2, z3⟩ := (unhide HY5).rd.cells
                  go_wp2_with fail
                  go_meet
                  exact hide ((unhide HY5).fault 90)
                | false =>
                  have e4 : f3 = f4 := unhide HE4
                  subst e4
                  go_wp2_with fail
                  go_meet
                  exact HY5
              case rest =>
                have HY6 := hcut
                clear hcut HY5
                obtain ⟨w6, hw6⟩ : ∃ w6, wc = w6 := ⟨_, rfl⟩
                rw [hw6] at HY6 ⊢
                clear hw6
                obtain ⟨nF, hnF⟩ : ∃ nF, m'.fs.length = nF := ⟨_, rfl⟩
                have HNF := hide hnF
                obtain ⟨U, hU⟩ : ∃ U, decide ((nF : Int) ≤ n3) = U := ⟨_, rfl⟩
                have HU := hide hU
                clear hU hnF
                go_upto_region 15 with fail
                go_cut [87] from 24 to 87 (fun y wx => y = .bool U ∧ Hid (Bx wr wx gb gr (.slice bo e bc) 55 #[.string t1, .int .i64 n3] b3 f4 q3))
                case first =>
                  have R6 := (unhide HY6).made (unhide HM)
                  obtain ⟨y0, y1, y2⟩ := row_cell3 R6.box
                  obtain ⟨af, cf, hF', _⟩ := slice_form R6.ownF
                  rw [hF', unhide HNF] at y1
                  obtain ⟨g0, g1⟩ := two_cell (unhide HY6).box
                  have hU := unhide HU
                  clear R6 hF' y0 y2
                  by_cases hn : (nF : Int) ≤ n3
                  · have hUt : U = true := by rw [← hU]; exact decide_eq_true hn
                    subst hUt
                    clear hU
                    go_quiet (fail)
                    go_wp2_with fail
                    go_meet
                    exact ⟨rfl, hide ((unhide HY6).drew _)⟩
                  · have hUf : U = false := by rw [← hU]; exact decide_eq_false hn
                    subst hUf
                    clear hU
                    go_quiet (fail)
                    go_wp2_with fail
                    go_meet
                    exact ⟨rfl, hide ((unhide HY6).drew _)⟩
                case rest =>
                  obtain ⟨rfl, HY7⟩ := hcut
                  clear HY6
                  obtain ⟨b5, f5, q5, hE5⟩ : ∃ b f q, (if U = true then wrQ 90 (b2 : Int) (b3, f4, q3) else (b3, f4, q3)) = (b, f, q) := ⟨_, _, _, rfl⟩
                  have HE5 := hide hE5
                  clear hE5
                  go_upto_if 87 with fail
                  go_cut [] from 24 to 90 (fun wx => Hid (Bx wr wx gb gr (.slice bo e bc) 55 #[.string t1, .int .i64 n3] b5 f5 q5))
                  case first =>
                    cases U with
                    | true =>
                      have CW := hide (wrong_u gr (.slice bo e bc) b3 f4 q3 90 b2 _ (unhide HY7).rd)
                      rw [show wrQ 90 (b2 : Int) (b3, f4, q3) = (b5, f5, q5) from unhide HE5] at CW
                      go_wp2_with fail
                      refine (unhide CW).mono ?_
                      rintro x v3 ⟨rfl, r3, bb3⟩
                      have HY8 := hide ((unhide HY7).call r3 bb3)
                      clear r3 bb3 CW HY7
                      go_wp2_with fail
                      go_meet
                      exact HY8
                    | false =>
                      have e2 := unhide HE5
                      simp only [Bool.false_eq_true, if_false, Prod.mk.injEq] at e2
                      obtain ⟨rfl, rfl, rfl⟩ := e2
                      go_wp2_with fail
                      go_meet
                      exact HY7
                  case rest =>
                    have HY8 := hcut
                    clear hcut HY7
                    obtain ⟨v6, hw6⟩ : ∃ w6, wc = w6 := ⟨_, rfl⟩
                    rw [hw6] at HY8 ⊢
                    clear hw6
                    have hXQ : exQ bs m' (a', 0, q') = ((t1, n3), b5, f5, q5) := by
                      have e1 := unhide HE1
                      have e2 := unhide HE2
                      have e3 := unhide HE3
                      have e4 := unhide HE4
                      have e5 := unhide HE5
                      have hZ := unhide HZ
                      have hU := unhide HU
                      have hH := unhide HH
                      have hGG := unhide HG
                      unfold exQ
                      rw [unhide HNF, e1]
                      dsimp only
                      rw [unhide HNB]
                      have i1 : (if (N && Op.bytesLess (lastN m').toList t1.toList) = false then wrQ 90 (a' : Int) (b1, f1', q1') else (b1, f1', q1')) = (b2, f2, q2) := by
                        rw [← e2, ← hZ]
                        cases (N && Op.bytesLess (lastN m').toList t1.toList) <;> rfl
                      rw [i1, e3]
                      dsimp only
                      have i2 : (if f2 = 0 ∧ f3 = 92 then (b3, (90 : Int), q3) else (b3, f3, q3)) = (b3, f4, q3) := by
                        rw [← e4, ← hH, ← hGG]
                        by_cases h1 : f2 = 0
                        · by_cases h2 : f3 = 92
                          · simp [h1, h2]
                          · simp [h1, h2]
                        · simp [h1]
                      rw [i2]
                      have i3 : (if (nF : Int) ≤ n3 then wrQ 90 (b2 : Int) (b3, f4, q3) else (b3, f4, q3)) = (b5, f5, q5) := by
                        rw [← e5, ← hU]
                        by_cases h1 : (nF : Int) ≤ n3
                        · simp [h1]
                        · simp [h1]
                      rw [i3]
                    have hEQ := exQ_eq (unhide HY).small m' a' q' (by have := (unhide HL).1; omega)
                    rw [hXQ] at hEQ
                    have HEQ5 := hide hEQ
                    clear hXQ hEQ HE1 HE2 HE3 HE4 HE5 HZ HU HH HG HNB
                    have R5 := (unhide HY8).made (unhide HM)
                    have X5' := unhide HY8
                    obtain ⟨y0, y1, y2⟩ := row_cell3 R5.box
                    obtain ⟨k0, k1⟩ := two_cell X5'.box
                    obtain ⟨i0, hi, hz0, hz1, hz2⟩ := info_parts infoEx
                    obtain ⟨nX, hnX⟩ : ∃ nX, m'.xs.length = nX := ⟨_, rfl⟩
                    have hOw : v6.ownsRow (gr + 1) 55 2 X' nX (m'.xs.flatMap exV) := by rw [← hnX]; exact R5.ownX
                    have HOw := hide hOw
                    have hbs : gr + 1 ≤ v6.heap.size := R5.lt
                    have hn100 : nX ≤ 48 := by have := (unhide HL).2; have := unhide HI; omega
                    have HNX := hide hnX
                    have H5 := hide R5
                    have HKB := hide (And.intro y2 (And.intro k0 k1))
                    clear R5 hOw hnX X5' HNF
                    go_upto_region 17 with fail
                    clear y0 y1 y2 k0 k1
                    have d3 : v6.drew.cell? ⟨gm, 2, none⟩ = some X' ∧ v6.drew.cell? ⟨gb, 0, none⟩ = some (.string t1) ∧ v6.drew.cell? ⟨gb, 1, none⟩ = some (.int .i64 n3) := unhide HKB
                    refine till_begin (S := fun w' => w'.cell? ⟨gm, 2, none⟩ = some X' ∧ w'.cell? ⟨gb, 0, none⟩ = some (.string t1) ∧ w'.cell? ⟨gb, 1, none⟩ = some (.int .i64 n3)) 10 (by kernel_rfl) ?_
                    refine till_take 0 (v := .pointer (some ⟨gm, 0, none⟩)) (some 91) rfl rfl rfl (by kernel_rfl) (by kernel_rfl) (by kernel_rfl) (by kernel_rfl) (fun _ _ _ h => h) (Or.inl ⟨by rfl, fun u s0 => by obtain ⟨t0, t1, t2⟩ := s0; go_simp⟩) d3 ?_
                    simp only [Act.put, List.setIfInBounds_toArray, List.set_cons_zero, List.set_cons_succ]
                    refine till_take 1 (v := .pointer (some ⟨gm, 0, none⟩)) (some 92) rfl rfl rfl (by kernel_rfl) (by kernel_rfl) (by kernel_rfl) (by kernel_rfl) (fun _ _ _ h => h) (Or.inl ⟨by rfl, fun u s0 => by obtain ⟨t0, t1, t2⟩ := s0; go_simp⟩) d3 ?_
                    simp only [Act.put, List.setIfInBounds_toArray, List.set_cons_zero, List.set_cons_succ]
                    refine till_take 2 (v := .pointer (some ⟨gm, 0, none⟩)) (some 93) rfl rfl rfl (by kernel_rfl) (by kernel_rfl) (by kernel_rfl) (by kernel_rfl) (fun _ _ _ h => h) (Or.inl ⟨by rfl, fun u s0 => by obtain ⟨t0, t1, t2⟩ := s0; go_simp⟩) d3 ?_
                    simp only [Act.put, List.setIfInBounds_toArray, List.set_cons_zero, List.set_cons_succ]
                    refine till_take 3 (v := .pointer (some ⟨gm, 2, none⟩)) (some 94) rfl rfl rfl (by kernel_rfl) (by kernel_rfl) (by kernel_rfl) (by kernel_rfl) (fun _ _ _ h => h) (Or.inl ⟨by rfl, fun u s0 => by obtain ⟨t0, t1, t2⟩ := s0; go_simp⟩) d3 ?_
                    simp only [Act.put, List.setIfInBounds_toArray, List.set_cons_zero, List.set_cons_succ]
                    refine till_take 4 (v := X') (some 95) rfl rfl rfl (by kernel_rfl) (by kernel_rfl) (by kernel_rfl) (by kernel_rfl) (fun _ _ _ h => h) (Or.inl ⟨by rfl, fun u s0 => by obtain ⟨t0, t1, t2⟩ := s0; go_simp⟩) d3 ?_
                    simp only [Act.put, List.setIfInBounds_toArray, List.set_cons_zero, List.set_cons_succ]
                    refine till_take 5 (v := .agg #[.string t1, .int .i64 n3]) (some 96) rfl rfl rfl (by kernel_rfl) (by kernel_rfl) (by kernel_rfl) (by kernel_rfl) (fun _ _ _ h => h) (Or.inl ⟨by rfl, fun u s0 => by obtain ⟨t0, t1, t2⟩ := s0; go_simp⟩) d3 ?_
                    simp only [Act.put, List.setIfInBounds_toArray, List.set_cons_zero, List.set_cons_succ]
                    refine till_one 6 (by kernel_rfl) rfl (fun K hK => ?_)
                    go_simp
                    obtain ⟨w6', hw6⟩ : ∃ w6, (v6.alloc (.cells #[.string t1, .int .i64 n3] 55)).drew = w6 := ⟨_, rfl⟩
                    have X6 : Below v6.heap.size v6 w6' := by rw [← hw6]; exact ((Below.refl _ _).alloc (Nat.le_refl _) _).drew
                    have at6 : w6'.heap[v6.heap.size]? = some (.cells #[.string t1, .int .i64 n3] 55 (0, 0)) := by rw [← hw6]; exact heap_alloc_new v6 _
                    have sz6 : w6'.heap.size = v6.heap.size + 1 := by rw [← hw6]; show (v6.alloc _).heap.size = _; simp
                    rw [hw6]
                    have d6 : w6'.cell? ⟨gm, 2, none⟩ = some X' ∧ w6'.cell? ⟨gb, 0, none⟩ = some (.string t1) ∧ w6'.cell? ⟨gb, 1, none⟩ = some (.int .i64 n3) := by
                      obtain ⟨t0, t1, t2⟩ := unhide HKB
                      exact ⟨cell_later X6 t0, cell_later X6 t1, cell_later X6 t2⟩
                    have HR6 := hide ((unhide H5).later X6)
                    have HOw6 : Hid (w6'.ownsRow (gr + 1) 55 2 X' nX (m'.xs.flatMap exV)) := hide (by rw [← unhide HNX]; exact (unhide HR6).ownX)
                    have hbs6 : gr + 1 ≤ w6'.heap.size := by omega
                    obtain ⟨h5s, hh5s⟩ : ∃ h5s, v6.heap.size = h5s := ⟨_, rfl⟩
                    rw [hh5s] at at6 sz6 ⊢
                    refine hK.out _ _ (Or.inr d6) ?_
                    clear hK K hw6 X6 d3 hh5s hbs
                    try simp only [Act.put, List.setIfInBounds_toArray, List.set_cons_zero, List.set_cons_succ]
                    refine till_one 7 (by kernel_rfl) rfl (fun K hK => ?_)
                    refine step_append_lies _ (by rfl) _ _ 26 (by rfl) (gr + 1) 55 i0 _ 2 24 Try.underlying26 hi hz0 hz1 hz2 rfl (by omega) X' nX (m'.xs.flatMap exV) (by rfl) (unhide HOw6) ⟨h5s, 0, none⟩ 1 1 [.string t1, .int .i64 n3] (by rfl) (by rfl) (World.news_of_block at6) (by simp [Value.oneCell']) (by omega) (by unfold maxLen; omega) (by omega) hbs6 _ rfl ?_
                    intro g7 cap7 w7 hown7 hgrow7 hat7 hlt7
                    change K (Act.put _ (some 98) _) w7
                    have frm : some gm ≠ X'.ownBlock := fun e => by have := ((unhide HOw).lt gm e.symm).1; have := (unhide H5).two; omega
                    have frb : some gb ≠ X'.ownBlock := fun e => by have := ((unhide HM).ownX.lt gb e.symm).2; have := unhide HGB; omega
                    have cf : ∀ g o x, some g ≠ X'.ownBlock → w6'.cell? ⟨g, o, none⟩ = some x → w7.cell? ⟨g, o, none⟩ = some x := fun g o x hn hc => (hgrow7.cell_far ⟨g, o, none⟩ (World.block_lt_of_cell? _ _ (by rw [hc])) hn).trans hc
                    have d7 : w7.cell? ⟨gm, 2, none⟩ = some X' ∧ w7.cell? ⟨gb, 0, none⟩ = some (.string t1) ∧ w7.cell? ⟨gb, 1, none⟩ = some (.int .i64 n3) := by
                      obtain ⟨t0, t1, t2⟩ := d6
                      exact ⟨cf _ _ _ frm t0, cf _ _ _ frb t1, cf _ _ _ frb t2⟩
                    have f7 : w7.frozen? ⟨gm, 2, none⟩ = false := (hgrow7.frozen_far ⟨gm, 2, none⟩ (lt_of_row (unhide HR6).box) frm).trans (frozen_of_row w6' gm 2 _ _ (unhide HR6).box)
                    have H9 := hide ((unhide HR6).pushX (X' := .slice (some ⟨g7, 0, none⟩) (nX + 1) cap7) (x := (t1, n3)) (by rw [unhide HNX]; exact hown7) ⟨hgrow7, fun b hb => by
                      have e : g7 = b := by simpa [Value.ownBlock] using hb
                      rw [← e]
                      rcases hat7 with h | h
                      · exact Or.inl h
                      · exact Or.inr (Nat.le_of_eq h.symm)⟩)
                    refine hK.out _ _ (Or.inr d7) ?_
                    have y7 := d7.1
                    clear hK K hown7 hgrow7 hat7 hlt7 d6 cf
                    try simp only [Act.put, List.setIfInBounds_toArray, List.set_cons_zero, List.set_cons_succ]
                    refine till_one 8 (by kernel_rfl) rfl (fun K hK => ?_)
                    go_simp
                    refine hK.out _ _ (Or.inr d7) ?_
                    clear hK K
                    try simp only [Act.put, List.setIfInBounds_toArray, List.set_cons_zero, List.set_cons_succ]
                    refine till_one 9 (by kernel_rfl) rfl (fun K hK => ?_)
                    go_simp
                    refine hK.out _ _ (Or.inr d7) ?_
                    clear hK K
                    try simp only [Act.put, List.setIfInBounds_toArray, List.set_cons_zero, List.set_cons_succ]
                    refine till_one 10 (by kernel_rfl) rfl (fun K hK => ?_)
                    go_simp
                    refine hK.out _ _ (Or.inl rfl) ?_
                    clear hK K
                    try simp only [Act.put, List.setIfInBounds_toArray, List.set_cons_zero, List.set_cons_succ]
                    refine till_done (by kernel_rfl) ?_ _
                    have HS9 := hide (next_q (m2 := ⟨m'.cs, m'.fs, m'.xs ++ [(t1, n3)]⟩) hlt (unhide HN) (unhide HEQ5))
                    have HL9 : Hid (m'.fs.length ≤ 24 ∧ (m'.xs ++ [(t1, n3)]).length = i + 1) := hide (by rw [List.length_append, List.length_singleton]; have := unhide HL; omega)
                    have HI9 : Hid (i + 1 ≤ n) := hide (by omega)
                    clear d7 y7
                    go_wp2_with fail
                    go_roundw
                    case rel => exact ⟨i + 1, ⟨m'.cs, m'.fs, m'.xs ++ [(t1, n3)]⟩, b5, f5, q5, C', F', _, V', by go_num, HI9, H9, HL9, HS9⟩
                    case measure => have := unhide HI9; simp [intOf]; omega
      -- ROUND END
      · have HR' := hide (show R = .error (f', q') by
          rcases unhide HS with h | h
          · exact absurd h.1 hf
          · exact h.2)
        go_wp2_with fail
        go_end0
        refine ⟨rfl, ?_⟩
        rw [unhide HR']
        exact ⟨hf, _, _, _, _, _, _, unhide HM⟩
    · have j1 : ¬ (i : Int) < (n : Int) := by omega
      have HI2 := hide (show n - i = 0 by omega)
      go_wp2_with fail
      go_end0
      refine ⟨rfl, ?_⟩
      rcases unhide HS with ⟨h1, h2, h3⟩ | ⟨h1, h2⟩
      · rw [unhide HI2, rdN] at h3
        rw [← h3]
        have := unhide HM
        rw [h1, h2] at this
        exact ⟨_, _, _, _, this⟩
      · rw [h2]
        exact ⟨h1, _, _, _, _, _, _, unhide HM⟩
end Go.Proofs.Ytfdnhpmldnmncaa
