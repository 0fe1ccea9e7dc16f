/-
  The walk of the document's put: into a record's rows at a key's place; conditions: rows of at most 5000, as long as each other, the form's own reach.
-/
import Derived.Test.YtcopkhmmpamboaaB16
import Derived.Test.YtcopkhmmpamboaaB07
import Derived.Deep.QuietTactic
import Derived.BigQuiet
namespace Go.Proofs.Ytcopkhmmpamboaa
open Go.RowKit
set_option linter.unusedVariables false
set_option linter.unusedSimpArgs false

set_option maxRecDepth 100000 in
set_option maxHeartbeats 4000000 in
theorem put_any (k n : Int) (s : ByteArray) (l : List Vl) (ks : List ByteArray) (al ak : Option Addr) (cl ck : Nat) (x : Vl) (xx : Value) (P : Nat → Prop) (key : ByteArray) (w : World)
    (hv : IsP w P (.mk k n s l ks) (.agg #[.int .i64 k, .int .i64 n, .string s, .slice al l.length cl, .slice ak ks.length ck])) (hlen : ks.length = l.length) (hx : IsP w P x xx) (hPs : ∀ b, P b → b < w.heap.size) (hm5 : ks.length ≤ 5000) (hkey : key.size ≤ 140737488351232) :
    Calls Try.prog 28 #[.agg #[.int .i64 k, .int .i64 n, .string s, .slice al l.length cl, .slice ak ks.length ck], .string key, xx] w fun e w' => ∃ x', e = .returned x' ∧ IsP w' (fun b => P b ∨ (w.heap.size ≤ b ∧ b < w'.heap.size)) (putVl l ks key x) x' ∧ Below w.heap.size w w' := by
  obtain ⟨m, hm⟩ : ∃ m, ks.length = m := ⟨_, rfl⟩
  obtain ⟨ln, hln⟩ : ∃ ln, l.length = ln := ⟨_, rfl⟩
  obtain ⟨x0, x1, x2, xa, xl, xc, xb, xm, xd, rfl⟩ : ∃ x0 x1 x2 xa xl xc xb xm xd, xx = .agg #[.int .i64 x0, .int .i64 x1, .string x2, .slice xa xl xc, .slice xb xm xd] := by
    obtain ⟨xk, xn, xs, xll, xks, xal, xak, xcl, xck, _, hxx⟩ := hx.shape
    exact ⟨_, _, _, _, _, _, _, _, _, hxx⟩
  obtain ⟨_, _, _, _, _, V, hf, el⟩ := IsP.at hv
  have hVs : ∀ i y, l[i]? = some y → ∃ y0 y1 y2 a3 n3 p3 a4 n4 p4, V i = [.int .i64 y0, .int .i64 y1, .string y2, .slice a3 n3 p3, .slice a4 n4 p4] := fun i y hy => by
    obtain ⟨k4, n4, s4, l4, ks4, al4, ak4, cl4, ck4, _, h⟩ := (el i y hy).shape
    have h1 := Value.agg.inj h
    have h2 := congrArg Array.toList h1
    exact ⟨_, _, _, _, _, _, _, _, _, by simpa using h2⟩
  obtain ⟨g, hg⟩ : ∃ g, w.heap.size = g := ⟨_, rfl⟩
  have HPS : Hid (∀ b, P b → b < g) := hide (fun b hb => by have := hPs b hb; omega)
  clear hPs
  have HF : Hid (∀ u, Below g w u → VF u P k n s l ks al ak cl ck V) := hide (fun u hu => hf.to (fun b hb => hu.block b (unhide HPS b hb)) (fun _ h => h))
  have HEL := hide (And.intro el (And.intro hx hf))
  have HVS := hide hVs
  have HL : Hid (ks.length = m ∧ l.length = ln ∧ ln = m ∧ ks.length = l.length) := hide ⟨hm, hln, by omega, hlen⟩
  have hmb : m ≤ 5000 := by omega
  rw [hm, hln]
  have PS := pq_start w g hg #[.int .i64 k, .int .i64 n, .string s, .slice al ln cl, .slice ak m ck] #[.int .i64 x0, .int .i64 x1, .string x2, .slice xa xl xc, .slice xb xm xd] #[.int .i64 0, .int .i64 0, .string ⟨#[]⟩, .slice none 0 0, .slice none 0 0]
  obtain ⟨its, hits⟩ : ∃ its, itsOf V ks l = its := ⟨_, rfl⟩
  have HIT : Hid (itsOf V ks l = its ∧ its.length = m) := hide ⟨hits, by rw [← hits, its_len hlen]; exact hm⟩
  obtain ⟨iS, hS1, hS2, hS3, hS4⟩ := info_parts infoSc
  have HI := hide (And.intro hS1 (And.intro hS2 (And.intro hS3 hS4)))
  obtain ⟨iV, hV1, hV2, hV3, hV4⟩ := info_parts infoVc
  have HJ := hide (And.intro hV1 (And.intro hV2 (And.intro hV3 hV4)))
  have HKEY := hide hkey
  clear hv hx hm hln hlen hVs hf el hm5 hits hS1 hS2 hS3 hS4 hV1 hV2 hV3 hV4 hkey
  go_enter Try.func28, Try.ntmps28
  go_upto_region 2 with fail
  obtain ⟨w4, hw4⟩ : ∃ w4, (((w.alloc (.cells #[.int .i64 k, .int .i64 n, .string s, .slice al ln cl, .slice ak m ck] 27)).alloc (.cells #[.int .i64 x0, .int .i64 x1, .string x2, .slice xa xl xc, .slice xb xm xd] 27)).alloc (.cells #[.int .i64 0, .int .i64 0, .string ⟨#[]⟩, .slice none 0 0, .slice none 0 0] 27)).alloc (.cells #[.int .i64 5, .int .i64 0, .string ⟨#[]⟩, .slice none 0 0, .slice none 0 0] 27) = w4 := ⟨_, rfl⟩
  rw [hw4] at PS
  try rw [hw4]
  obtain ⟨gb, hgb⟩ : ∃ gb, g + 1 + 1 + 1 = gb := ⟨_, rfl⟩
  rw [hgb] at PS
  try rw [hgb]
  have HP0 := hide PS
  clear hw4 hgb PS
  have HZ : Hid ((([] : List (ByteArray × List Value × Vl)), false) = (its.take 0).foldl (putStep key ([.int .i64 x0, .int .i64 x1, .string x2, .slice xa xl xc, .slice xb xm xd], x)) ([], false)) := hide (by simp)
  go_wp2_with fail
  go_loopw [8, 9] (fun d y wr => ∃ (i : Nat) (acc : List (ByteArray × List Value × Vl)) (dn : Bool) (Lv Kv : Value), i ≤ m ∧ y = .int .i64 i ∧ d = .bool dn ∧ Hid ((acc, dn) = (its.take i).foldl (putStep key ([.int .i64 x0, .int .i64 x1, .string x2, .slice xa xl xc, .slice xb xm xd], x)) ([], false)) ∧ Hid (Pq w wr g gb #[.int .i64 k, .int .i64 n, .string s, .slice al ln cl, .slice ak m ck] #[.int .i64 x0, .int .i64 x1, .string x2, .slice xa xl xc, .slice xb xm xd] #[.int .i64 0, .int .i64 0, .string ⟨#[]⟩, .slice none 0 0, .slice none 0 0] (acc.map (·.1)) (acc.map (·.2.1)) Lv Kv)) (fun _ y _ => m - (intOf y).toNat)
  case atStart => exact ⟨0, [], false, _, _, Nat.zero_le _, rfl, rfl, HZ, HP0⟩
  case round =>
    clear HZ HP0
    obtain ⟨i, acc, dn, Lv, Kv, hi, rfl, rfl, HAC, HPr⟩ := hrel
    have HLN : Hid (acc.length ≤ 2 * i) := hide (by
      have h1 := putFold_len key ([.int .i64 x0, .int .i64 x1, .string x2, .slice xa xl xc, .slice xb xm xd], x) (its.take i) ([], false)
      rw [← unhide HAC] at h1
      simp only [List.length_nil, List.length_take] at h1
      omega)
    by_cases hlt : i < m
    · have i1 : (i : Int) < (m : Int) := by omega
      have i0 : (0 : Int) ≤ (i : Int) := by omega
      obtain ⟨tk, htk⟩ : ∃ tk, ks[i]? = some tk := ⟨_, List.getElem?_eq_getElem (by have := (unhide HL).1; omega)⟩
      obtain ⟨yv, hyv⟩ : ∃ yv, l[i]? = some yv := ⟨_, List.getElem?_eq_getElem (by have := (unhide HL).2.1; have := (unhide HL).2.2.1; omega)⟩
      obtain ⟨a2, rfl⟩ : ∃ a2, ak = some a2 := by
        cases ak with
        | none => have h1 := ((unhide HF w (Below.refl _ _)).nk rfl).1; have h2 := (unhide HL).1; omega
        | some a2 => exact ⟨a2, rfl⟩
      obtain ⟨a, rfl⟩ : ∃ a, al = some a := by
        cases al with
        | none => have h1 := ((unhide HF w (Below.refl _ _)).nl rfl).1; have h2 := (unhide HL).2.1; have := (unhide HL).2.2.1; omega
        | some a2 => exact ⟨a2, rfl⟩
      have HCK : Hid (∀ u, Below g w u → u.cell? (a2.add i) = some (.string tk)) := hide (fun u hu => ((unhide HF u hu).hk a2 rfl i tk htk).2)
      obtain ⟨y0, y1, y2, a3, n3, p3, a4, n4, p4, hVi⟩ := unhide HVS i yv hyv
      have HCE : Hid (∀ u, Below g w u → ∀ j v, [Value.int .i64 y0, .int .i64 y1, .string y2, .slice a3 n3 p3, .slice a4 n4 p4][j]? = some v → u.cell? ((a.add (i * 5)).add j) = some v) := hide (fun u hu j v hv => ((unhide HF u hu).hl a rfl i (List.getElem?_eq_some_iff.1 hyv).1).2 j v (by rw [hVi]; exact hv))
      have HAB : Hid (a.block < g ∧ a2.block < g) := hide ⟨unhide HPS _ ((unhide HF w (Below.refl _ _)).hl a rfl i (List.getElem?_eq_some_iff.1 hyv).1).1, unhide HPS _ ((unhide HF w (Below.refl _ _)).hk a2 rfl i tk htk).1⟩
      have HTI : Hid ((its.take (i + 1)).foldl (putStep key ([.int .i64 x0, .int .i64 x1, .string x2, .slice xa xl xc, .slice xb xm xd], x)) ([], false) = putStep key ([.int .i64 x0, .int .i64 x1, .string x2, .slice xa xl xc, .slice xb xm xd], x) (acc, dn) (tk, [.int .i64 y0, .int .i64 y1, .string y2, .slice a3 n3 p3, .slice a4 n4 p4], yv)) := hide (by
        have h1 := its_at (V := V) htk hyv
        rw [(unhide HIT).1, hVi] at h1
        rw [List.take_add_one, h1, List.foldl_append, ← unhide HAC]
        rfl)
      have HI1 : Hid (i + 1 ≤ m) := hide (by omega)
      have cK := unhide HCK wr (unhide HPr).below
      obtain ⟨r0, r1, r2, r3, r4⟩ := row_cell (unhide HPr).at0
      clear htk hyv hVi
      go_upto_region 6 with fail
      go_cut [28] from 11 to 67 (fun c wx => c = .bool (!dn && !(Op.bytesLess tk.toList key.toList)) ∧ wx = wr)
      case first =>
        cases dn with
        | true =>
          go_wp2_with fail
          go_meet
          exact ⟨by simp, by first | rfl | trivial⟩
        | false =>
          cases hbl : Op.bytesLess tk.toList key.toList with
          | true =>
            go_wp2_with fail
            go_meet
            exact ⟨by simp [hbl], by first | rfl | trivial⟩
          | false =>
            go_wp2_with fail
            go_meet
            exact ⟨by simp [hbl], by first | rfl | trivial⟩
      case rest =>
        obtain ⟨rfl, rfl⟩ := hcut
        clear cK r0 r1 r2 r3 r4
        go_upto_if 28 with fail
        go_cut [8] from 11 to 67 (fun d wx => ∃ (acc1 : List (ByteArray × List Value × Vl)) (d1 : Bool) (Lv Kv : Value), d = .bool d1 ∧ Hid ((acc1, d1) = if dn = false ∧ bl tk key = false then (acc ++ [(key, [.int .i64 x0, .int .i64 x1, .string x2, .slice xa xl xc, .slice xb xm xd], x)], true) else (acc, dn)) ∧ Hid (Pq w wx g gb #[.int .i64 k, .int .i64 n, .string s, .slice (some a) ln cl, .slice (some a2) m ck] #[.int .i64 x0, .int .i64 x1, .string x2, .slice xa xl xc, .slice xb xm xd] #[.int .i64 0, .int .i64 0, .string ⟨#[]⟩, .slice none 0 0, .slice none 0 0] (acc1.map (·.1)) (acc1.map (·.2.1)) Lv Kv))
        case first =>
          by_cases hcc : dn = false ∧ bl tk key = false
          · have hb : (!dn && !(Op.bytesLess tk.toList key.toList)) = true := by
              have h2 : Op.bytesLess tk.toList key.toList = false := hcc.2
              rw [hcc.1, h2]; rfl
            have HCC := hide hcc
            rw [hb]
            clear hcc hb
            obtain ⟨nK, hnK⟩ : ∃ nK, (acc.map (·.1)).length = nK := ⟨_, rfl⟩
            obtain ⟨nL, hnL⟩ : ∃ nL, (acc.map (·.2.1)).length = nL := ⟨_, rfl⟩
            have HKO := (unhide HPr).keys
            rw [hnK] at HKO
            have HKO := hide HKO
            have hnb : nK ≤ 10000 ∧ nL ≤ 10000 := by have h1 := unhide HLN; simp at hnK hnL; omega
            obtain ⟨hnb1, hnb2⟩ := hnb
            have HNN := hide (And.intro hnK hnL)
            clear hnK hnL
            obtain ⟨c0, c1, c2, c3, c4⟩ := row_cell (unhide HPr).at1
            obtain ⟨d0, d1, d2, d3, d4⟩ := row_cell (unhide HPr).box
            have tokA1 : True := trivial
            go_upto_region 8 with (first | (have _t := tokA1; at_builtin; refine wpl_oneG rfl (.tmp 30) (.tmp 32) 25 9 iS (.string ⟨#[]⟩) 1 16 Try.underlying25 (unhide HI).1 (unhide HI).2.1 (unhide HI).2.2.1 (unhide HI).2.2.2 rfl (by omega) rfl (gb + 1) nK Kv _ [.string key] rfl (by simp [Value.oneCell']) rfl (unhide HKO) rfl (by unfold maxLen; omega) (by omega) (unhide HPr).size ?_; intro v6 w6 H6; clear tokA1; obtain ⟨q6, p6, rfl, hsl⟩ := slice_form (unhide H6).1; clear hsl; have b6 := ((unhide H6).2.1.block gb (by have := (unhide HPr).size; omega) (fun e => by have := ((unhide HPr).keys.lt gb e.symm).1; omega)).trans (unhide HPr).box; have k4 := (row_cell b6).2.2.2.2; have f4 : w6.frozen? ⟨gb, 4, none⟩ = false := frozen_of_row w6 gb 4 _ _ b6; clear b6 c0 c1 c2 c3 c4 d0 d1 d2 d3 d4))
            have HG0 := hide (pq_key (unhide HPr) (unhide HNN).1 (unhide H6).1 (unhide H6).2.1)
            obtain ⟨u7, hu7⟩ : ∃ u7, w6.setCell ⟨gb, 4, none⟩ (.slice q6 (nK + 1) p6) = u7 := ⟨_, rfl⟩
            rw [hu7] at HG0
            rw [hu7]
            clear hu7 k4 f4 H6
            have HLO := (unhide HG0).els
            rw [(unhide HNN).2] at HLO
            have HLO := hide HLO
            obtain ⟨c0, c1, c2, c3, c4⟩ := row_cell (unhide HG0).at1
            obtain ⟨d0, d1, d2, d3, d4⟩ := row_cell (unhide HG0).box
            have tokB1 : True := trivial
            go_upto_region 9 with (first | (have _t := tokB1; at_builtin; refine wpl_oneG rfl (.tmp 36) (.tmp 38) 24 27 iV (.agg #[.int .i64 0, .int .i64 0, .string ⟨#[]⟩, .slice none 0 0, .slice none 0 0]) 5 80 Try.underlying24 (unhide HJ).1 (unhide HJ).2.1 (unhide HJ).2.2.1 (unhide HJ).2.2.2 rfl (by omega) rfl (gb + 1) nL Lv _ [.int .i64 x0, .int .i64 x1, .string x2, .slice xa xl xc, .slice xb xm xd] rfl (by simp [Value.oneCell']) rfl (unhide HLO) rfl (by unfold maxLen; omega) (by omega) (unhide HG0).size ?_; intro v8 w8 H8; clear tokB1; obtain ⟨q8, p8, rfl, hsl⟩ := slice_form (unhide H8).1; clear hsl; have b8 := ((unhide H8).2.1.block gb (by have := (unhide HG0).size; omega) (fun e => by have := ((unhide HG0).els.lt gb e.symm).1; omega)).trans (unhide HG0).box; have k3 := (row_cell b8).2.2.2.1; have f3 : w8.frozen? ⟨gb, 3, none⟩ = false := frozen_of_row w8 gb 3 _ _ b8; clear b8 c0 c1 c2 c3 c4 d0 d1 d2 d3 d4))
            have HG1 := hide (pq_el (unhide HG0) (unhide HNN).2 (unhide H8).1 (unhide H8).2.1)
            obtain ⟨u9, hu9⟩ : ∃ u9, w8.setCell ⟨gb, 3, none⟩ (.slice q8 (nL + 1) p8) = u9 := ⟨_, rfl⟩
            rw [hu9] at HG1
            rw [hu9]
            clear hu9 k3 f3 H8 HG0 HLO HKO
            have HP1 : Hid (Pq w u9 g gb #[.int .i64 k, .int .i64 n, .string s, .slice (some a) ln cl, .slice (some a2) m ck] #[.int .i64 x0, .int .i64 x1, .string x2, .slice xa xl xc, .slice xb xm xd] #[.int .i64 0, .int .i64 0, .string ⟨#[]⟩, .slice none 0 0, .slice none 0 0] ((acc ++ [(key, [.int .i64 x0, .int .i64 x1, .string x2, .slice xa xl xc, .slice xb xm xd], x)] : List (ByteArray × List Value × Vl)).map (·.1)) ((acc ++ [(key, [.int .i64 x0, .int .i64 x1, .string x2, .slice xa xl xc, .slice xb xm xd], x)] : List (ByteArray × List Value × Vl)).map (·.2.1)) (.slice q8 (nL + 1) p8) (.slice q6 (nK + 1) p6)) := hide (by
              rw [List.map_append, List.map_append]
              exact unhide HG1)
            clear HG1
            go_wp2_with fail
            go_meet
            exact ⟨_, true, _, _, rfl, hide (by rw [if_pos (unhide HCC)]), HP1⟩
          · have hb : (!dn && !(Op.bytesLess tk.toList key.toList)) = false := by
              cases hd : dn with
              | true => rfl
              | false =>
                cases h2 : Op.bytesLess tk.toList key.toList with
                | true => rfl
                | false => exact absurd ⟨hd, h2⟩ hcc
            have HCC := hide hcc
            rw [hb]
            clear hcc hb
            go_wp2_with fail
            go_meet
            exact ⟨acc, dn, _, _, rfl, hide (by rw [if_neg (unhide HCC)]), HPr⟩
        case rest =>
          clear HPr
          obtain ⟨acc1, d1, Lv1, Kv1, rfl, HA1, HP1⟩ := hcut
          obtain ⟨ua, hua⟩ : ∃ ua, wc = ua := ⟨_, rfl⟩
          rw [hua] at HP1 ⊢
          clear hua
          have HL1 : Hid (acc1.length ≤ 2 * i + 1) := hide (by
            have h1 := unhide HA1
            have h2 := unhide HLN
            split at h1
            · cases h1; simp; omega
            · cases h1; omega)
          have cK := unhide HCK ua (unhide HP1).below
          obtain ⟨r0, r1, r2, r3, r4⟩ := row_cell (unhide HP1).at0
          cases hbe : (tk.toList == key.toList) with
          | true =>
            have HN1 : Hid ((acc1, d1) = (its.take (i + 1)).foldl (putStep key ([.int .i64 x0, .int .i64 x1, .string x2, .slice xa xl xc, .slice xb xm xd], x)) ([], false)) := hide (by
              have he := (bytes_beq tk key).1 hbe
              rw [unhide HTI, unhide HA1]
              unfold putStep
              simp only [he, if_true])
            go_wp2_with fail
            go_roundw
            case rel => exact ⟨i + 1, acc1, d1, _, _, unhide HI1, by go_num, rfl, HN1, HP1⟩
            case measure => have := unhide HI1; simp [intOf]; omega
          | false =>
            have HN1 : Hid ((acc1 ++ [(tk, [.int .i64 y0, .int .i64 y1, .string y2, .slice a3 n3 p3, .slice a4 n4 p4], yv)], d1) = (its.take (i + 1)).foldl (putStep key ([.int .i64 x0, .int .i64 x1, .string x2, .slice xa xl xc, .slice xb xm xd], x)) ([], false)) := hide (by
              have he : ¬ tk = key := fun e => by rw [(bytes_beq tk key).2 e] at hbe; cases hbe
              have h1 := unhide HA1
              rw [unhide HTI]
              unfold putStep
              simp only [he, if_false]
              rw [← h1])
            go_upto_region 11 with fail
            obtain ⟨nK, hnK⟩ : ∃ nK, (acc1.map (·.1)).length = nK := ⟨_, rfl⟩
            obtain ⟨nL, hnL⟩ : ∃ nL, (acc1.map (·.2.1)).length = nL := ⟨_, rfl⟩
            have hnb : nK ≤ 10001 ∧ nL ≤ 10001 := by have h1 := unhide HL1; simp at hnK hnL; omega
            obtain ⟨hnb1, hnb2⟩ := hnb
            have HNN := hide (And.intro hnK hnL)
            clear hnK hnL
            have HPd := hide (pq_later (unhide HP1) ((Below.refl ua.heap.size ua).drew))
            have HS0 : Hid (ua.drew.cell? ⟨gb, 4, none⟩ = some Kv1 ∧ ua.drew.cell? ⟨g, 4, none⟩ = some (.slice (some a2) m ck) ∧ ua.drew.cell? (a2.add i) = some (.string tk)) := hide ⟨(row_cell (unhide HP1).box).2.2.2.2, r4, cK⟩
            clear cK r0 r1 r2 r3 r4
            refine till_begin (S := fun w' => w'.cell? ⟨gb, 4, none⟩ = some Kv1 ∧ w'.cell? ⟨g, 4, none⟩ = some (.slice (some a2) m ck) ∧ w'.cell? (a2.add i) = some (.string tk)) 10 (by kernel_rfl) ?_
            obtain ⟨ud, hud⟩ : ∃ ud, ua.drew = ud := ⟨_, rfl⟩
            rw [hud] at HPd HS0 ⊢
            clear hud
            have HKO := (unhide HPd).keys
            rw [(unhide HNN).1] at HKO
            refine till_take 0 (v := .pointer (some ⟨gb, 4, none⟩)) (some 48) rfl rfl rfl (by kernel_rfl) (by kernel_rfl) (by kernel_rfl) (by kernel_rfl) (fun _ _ _ h => h) (Or.inl ⟨by rfl, fun u hu => by obtain ⟨h4, h5, h6⟩ := hu; go_simp⟩) (unhide HS0) ?_
            try simp only [Act.put, List.setIfInBounds_toArray, List.set_cons_zero, List.set_cons_succ]
            refine till_take 1 (v := Kv1) (some 49) rfl rfl rfl (by kernel_rfl) (by kernel_rfl) (by kernel_rfl) (by kernel_rfl) (fun _ _ _ h => h) (Or.inl ⟨by rfl, fun u hu => by obtain ⟨h4, h5, h6⟩ := hu; go_simp⟩) (unhide HS0) ?_
            try simp only [Act.put, List.setIfInBounds_toArray, List.set_cons_zero, List.set_cons_succ]
            refine till_take 2 (v := .pointer (some ⟨g, 4, none⟩)) (some 50) rfl rfl rfl (by kernel_rfl) (by kernel_rfl) (by kernel_rfl) (by kernel_rfl) (fun _ _ _ h => h) (Or.inl ⟨by rfl, fun u hu => by obtain ⟨h4, h5, h6⟩ := hu; go_simp⟩) (unhide HS0) ?_
            try simp only [Act.put, List.setIfInBounds_toArray, List.set_cons_zero, List.set_cons_succ]
            refine till_take 3 (v := .slice (some a2) m ck) (some 51) rfl rfl rfl (by kernel_rfl) (by kernel_rfl) (by kernel_rfl) (by kernel_rfl) (fun _ _ _ h => h) (Or.inl ⟨by rfl, fun u hu => by obtain ⟨h4, h5, h6⟩ := hu; go_simp⟩) (unhide HS0) ?_
            try simp only [Act.put, List.setIfInBounds_toArray, List.set_cons_zero, List.set_cons_succ]
            refine till_take 4 (v := .int .i64 (i : Int)) (some 52) rfl rfl rfl (by kernel_rfl) (by kernel_rfl) (by kernel_rfl) (by kernel_rfl) (fun _ _ _ h => h) (Or.inl ⟨by rfl, fun u hu => by obtain ⟨h4, h5, h6⟩ := hu; go_simp⟩) (unhide HS0) ?_
            try simp only [Act.put, List.setIfInBounds_toArray, List.set_cons_zero, List.set_cons_succ]
            refine till_take 5 (v := .pointer (some (a2.add i))) (some 53) rfl rfl rfl (by kernel_rfl) (by kernel_rfl) (by kernel_rfl) (by kernel_rfl) (fun _ _ _ h => h) (Or.inl ⟨by rfl, fun u hu => by obtain ⟨h4, h5, h6⟩ := hu; go_simp⟩) (unhide HS0) ?_
            try simp only [Act.put, List.setIfInBounds_toArray, List.set_cons_zero, List.set_cons_succ]
            refine till_take 6 (v := .string tk) (some 54) rfl rfl rfl (by kernel_rfl) (by kernel_rfl) (by kernel_rfl) (by kernel_rfl) (fun _ _ _ h => h) (Or.inl ⟨by rfl, fun u hu => by obtain ⟨h4, h5, h6⟩ := hu; go_simp⟩) (unhide HS0) ?_
            try simp only [Act.put, List.setIfInBounds_toArray, List.set_cons_zero, List.set_cons_succ]
            refine till_one 7 (by kernel_rfl) rfl (fun K hK => ?_)
            go_simp
            obtain ⟨w6, hw6⟩ : ∃ w6, ud.alloc (.cells #[.string tk] 9) = w6 := ⟨_, rfl⟩
            have X6 : Below ud.heap.size ud w6 := by rw [← hw6]; exact (Below.refl _ _).alloc (Nat.le_refl _) _
            have at6 : w6.heap[ud.heap.size]? = some (.cells #[.string tk] 9 (0, 0)) := by rw [← hw6]; exact heap_alloc_new ud _
            have sz6 : w6.heap.size = ud.heap.size + 1 := by rw [← hw6]; simp
            try rw [hw6]
            have HP6 := hide (pq_later (unhide HPd) X6)
            have HK6 := own_to5 HKO (fun b e => X6.block b (HKO.lt b e).2)
            clear HKO
            have HS6 : Hid (w6.cell? ⟨gb, 4, none⟩ = some Kv1 ∧ w6.cell? ⟨g, 4, none⟩ = some (.slice (some a2) m ck) ∧ w6.cell? (a2.add i) = some (.string tk)) := hide ⟨cell_later X6 (unhide HS0).1, cell_later X6 (unhide HS0).2.1, cell_later X6 (unhide HS0).2.2⟩
            have HX6 := hide (And.intro X6 sz6)
            obtain ⟨h5s, hh5s⟩ : ∃ h5s, ud.heap.size = h5s := ⟨_, rfl⟩
            rw [hh5s] at at6
            try rw [hh5s]
            refine hK.out _ _ (Or.inr (unhide HS6)) ?_
            clear hK K hw6 X6 hh5s sz6
            try simp only [Act.put, List.setIfInBounds_toArray, List.set_cons_zero, List.set_cons_succ]
            refine till_one 8 (by kernel_rfl) rfl (fun K hK => ?_)
            refine step_append_lies _ (by rfl) _ _ 25 (by rfl) (gb + 1) 9 iS (.string ⟨#[]⟩) 1 16 Try.underlying25 (unhide HI).1 (unhide HI).2.1 (unhide HI).2.2.1 (unhide HI).2.2.2 rfl (by omega) Kv1 nK _ (by rfl) HK6 ⟨h5s, 0, none⟩ 1 1 [.string tk] (by rfl) (by rfl) (World.news_of_block at6) (by simp [Value.oneCell']) (by omega) (by unfold maxLen; omega) (by omega) (unhide HP6).size _ rfl ?_
            intro g7 cap7 w7 hown7 hgrow7 hat7 hlt7
            change K (Act.put _ (some 56) _) w7
            have HPb := unhide HP6
            have hsz := HPb.size
            have hlow := HPb.low
            have fr : ∀ q, q ≤ gb → some q ≠ Kv1.ownBlock := fun q hq e => by have := (HPb.keys.lt q e.symm).1; omega
            have HS7 : Hid (w7.cell? ⟨gb, 4, none⟩ = some Kv1 ∧ w7.cell? ⟨g, 4, none⟩ = some (.slice (some a2) m ck) ∧ w7.cell? (a2.add i) = some (.string tk)) := hide ⟨(hgrow7.cell_far ⟨gb, 4, none⟩ (by show gb < _; omega) (fr gb (Nat.le_refl _))).trans (unhide HS6).1, (hgrow7.cell_far ⟨g, 4, none⟩ (by show g < _; omega) (fr g (by omega))).trans (unhide HS6).2.1, (hgrow7.cell_far (a2.add i) (by rw [block_add]; have := (unhide HAB).2; omega) (by rw [block_add]; exact fr _ (by have := (unhide HAB).2; omega))).trans (unhide HS6).2.2⟩
            have c7 := (unhide HS7).1
            have f7 : w7.frozen? ⟨gb, 4, none⟩ = false := (hgrow7.frozen_far ⟨gb, 4, none⟩ (by show gb < _; omega) (fr gb (Nat.le_refl _))).trans (frozen_of_row w6 gb 4 _ _ HPb.box)
            have H7 := hide (And.intro hown7 hgrow7)
            refine hK.out _ _ (Or.inr (unhide HS7)) ?_
            clear hK K hown7 hgrow7 hat7 hlt7 fr hsz hlow HPb HK6
            try simp only [Act.put, List.setIfInBounds_toArray, List.set_cons_zero, List.set_cons_succ]
            refine till_take 9 (v := .pointer (some ⟨gb, 4, none⟩)) (some 57) rfl rfl rfl (by kernel_rfl) (by kernel_rfl) (by kernel_rfl) (by kernel_rfl) (fun _ _ _ h => h) (Or.inl ⟨by rfl, fun u hu => by obtain ⟨h4, h5, h6⟩ := hu; go_simp⟩) (unhide HS7) ?_
            try simp only [Act.put, List.setIfInBounds_toArray, List.set_cons_zero, List.set_cons_succ]
            refine till_one 10 (by kernel_rfl) rfl (fun K hK => ?_)
            go_simp
            refine hK.out _ _ (Or.inl rfl) ?_
            clear hK K
            try simp only [Act.put, List.setIfInBounds_toArray, List.set_cons_zero, List.set_cons_succ]
            refine till_done (by kernel_rfl) ?_ _
            have HP20 := hide (pq_key (unhide HP6) (unhide HNN).1 (unhide H7).1 (unhide H7).2)
            obtain ⟨ub, hub⟩ : ∃ ub, w7.setCell ⟨gb, 4, none⟩ (.slice (some ⟨g7, 0, none⟩) (nK + 1) cap7) = ub := ⟨_, rfl⟩
            rw [hub] at HP20
            rw [hub]
            clear hub c7 f7 H7 HS6 HS7 HX6 HP6 at6 HS0 HPd
            obtain ⟨r0, r1, r2, r3, r4⟩ := row_cell (unhide HP20).at0
            go_upto_region 12 with fail
            have e0 : ub.cell? (a.add (i * 5)) = some (.int .i64 y0) := unhide HCE ub (unhide HP20).below 0 _ rfl
            have e1 : ub.cell? ⟨(a.add (i * 5)).block, (a.add (i * 5)).off + 1, none⟩ = some (.int .i64 y1) := unhide HCE ub (unhide HP20).below 1 _ rfl
            have e2 : ub.cell? ⟨(a.add (i * 5)).block, (a.add (i * 5)).off + 2, none⟩ = some (.string y2) := unhide HCE ub (unhide HP20).below 2 _ rfl
            have e3 : ub.cell? ⟨(a.add (i * 5)).block, (a.add (i * 5)).off + 3, none⟩ = some (.slice a3 n3 p3) := unhide HCE ub (unhide HP20).below 3 _ rfl
            have e4 : ub.cell? ⟨(a.add (i * 5)).block, (a.add (i * 5)).off + 4, none⟩ = some (.slice a4 n4 p4) := unhide HCE ub (unhide HP20).below 4 _ rfl
            have HS0 : Hid (ub.drew.cell? ⟨gb, 3, none⟩ = some Lv1 ∧ ub.drew.cell? ⟨g, 3, none⟩ = some (.slice (some a) ln cl) ∧ ub.drew.cell? (a.add (i * 5)) = some (.int .i64 y0) ∧ ub.drew.cell? ⟨(a.add (i * 5)).block, (a.add (i * 5)).off + 1, none⟩ = some (.int .i64 y1) ∧ ub.drew.cell? ⟨(a.add (i * 5)).block, (a.add (i * 5)).off + 2, none⟩ = some (.string y2) ∧ ub.drew.cell? ⟨(a.add (i * 5)).block, (a.add (i * 5)).off + 3, none⟩ = some (.slice a3 n3 p3) ∧ ub.drew.cell? ⟨(a.add (i * 5)).block, (a.add (i * 5)).off + 4, none⟩ = some (.slice a4 n4 p4)) := hide ⟨(row_cell (unhide HP20).box).2.2.2.1, r3, e0, e1, e2, e3, e4⟩
            have HPd := hide (pq_later (unhide HP20) ((Below.refl ub.heap.size ub).drew))
            clear e0 e1 e2 e3 e4 r0 r1 r2 r3 r4
            have jln : (i : Int) < (ln : Int) := by have := (unhide HL).2.2.1; omega
            refine till_begin (S := fun w' => w'.cell? ⟨gb, 3, none⟩ = some Lv1 ∧ w'.cell? ⟨g, 3, none⟩ = some (.slice (some a) ln cl) ∧ w'.cell? (a.add (i * 5)) = some (.int .i64 y0) ∧ w'.cell? ⟨(a.add (i * 5)).block, (a.add (i * 5)).off + 1, none⟩ = some (.int .i64 y1) ∧ w'.cell? ⟨(a.add (i * 5)).block, (a.add (i * 5)).off + 2, none⟩ = some (.string y2) ∧ w'.cell? ⟨(a.add (i * 5)).block, (a.add (i * 5)).off + 3, none⟩ = some (.slice a3 n3 p3) ∧ w'.cell? ⟨(a.add (i * 5)).block, (a.add (i * 5)).off + 4, none⟩ = some (.slice a4 n4 p4)) 10 (by kernel_rfl) ?_
            obtain ⟨ue, hue⟩ : ∃ ue, ub.drew = ue := ⟨_, rfl⟩
            rw [hue] at HPd HS0 ⊢
            clear hue
            have HKO := (unhide HPd).els
            rw [(unhide HNN).2] at HKO
            refine till_take 0 (v := .pointer (some ⟨gb, 3, none⟩)) (some 58) rfl rfl rfl (by kernel_rfl) (by kernel_rfl) (by kernel_rfl) (by kernel_rfl) (fun _ _ _ h => h) (Or.inl ⟨by rfl, fun u hu => by obtain ⟨h4, h5, g0, g1, g2, g3, g4⟩ := hu; go_simp⟩) (unhide HS0) ?_
            try simp only [Act.put, List.setIfInBounds_toArray, List.set_cons_zero, List.set_cons_succ]
            refine till_take 1 (v := Lv1) (some 59) rfl rfl rfl (by kernel_rfl) (by kernel_rfl) (by kernel_rfl) (by kernel_rfl) (fun _ _ _ h => h) (Or.inl ⟨by rfl, fun u hu => by obtain ⟨h4, h5, g0, g1, g2, g3, g4⟩ := hu; go_simp⟩) (unhide HS0) ?_
            try simp only [Act.put, List.setIfInBounds_toArray, List.set_cons_zero, List.set_cons_succ]
            refine till_take 2 (v := .pointer (some ⟨g, 3, none⟩)) (some 60) rfl rfl rfl (by kernel_rfl) (by kernel_rfl) (by kernel_rfl) (by kernel_rfl) (fun _ _ _ h => h) (Or.inl ⟨by rfl, fun u hu => by obtain ⟨h4, h5, g0, g1, g2, g3, g4⟩ := hu; go_simp⟩) (unhide HS0) ?_
            try simp only [Act.put, List.setIfInBounds_toArray, List.set_cons_zero, List.set_cons_succ]
            refine till_take 3 (v := .slice (some a) ln cl) (some 61) rfl rfl rfl (by kernel_rfl) (by kernel_rfl) (by kernel_rfl) (by kernel_rfl) (fun _ _ _ h => h) (Or.inl ⟨by rfl, fun u hu => by obtain ⟨h4, h5, g0, g1, g2, g3, g4⟩ := hu; go_simp⟩) (unhide HS0) ?_
            try simp only [Act.put, List.setIfInBounds_toArray, List.set_cons_zero, List.set_cons_succ]
            refine till_take 4 (v := .int .i64 (i : Int)) (some 62) rfl rfl rfl (by kernel_rfl) (by kernel_rfl) (by kernel_rfl) (by kernel_rfl) (fun _ _ _ h => h) (Or.inl ⟨by rfl, fun u hu => by obtain ⟨h4, h5, g0, g1, g2, g3, g4⟩ := hu; go_simp⟩) (unhide HS0) ?_
            try simp only [Act.put, List.setIfInBounds_toArray, List.set_cons_zero, List.set_cons_succ]
            refine till_take 5 (v := .pointer (some (a.add (i * 5)))) (some 63) rfl rfl rfl (by kernel_rfl) (by kernel_rfl) (by kernel_rfl) (by kernel_rfl) (fun _ _ _ h => h) (Or.inl ⟨by rfl, fun u hu => by obtain ⟨h4, h5, g0, g1, g2, g3, g4⟩ := hu; go_simp⟩) (unhide HS0) ?_
            try simp only [Act.put, List.setIfInBounds_toArray, List.set_cons_zero, List.set_cons_succ]
            refine till_take 6 (v := .agg #[.int .i64 y0, .int .i64 y1, .string y2, .slice a3 n3 p3, .slice a4 n4 p4]) (some 64) rfl rfl rfl (by kernel_rfl) (by kernel_rfl) (by kernel_rfl) (by kernel_rfl) (fun _ _ _ h => h) (Or.inl ⟨by rfl, fun u hu => by obtain ⟨h4, h5, g0, g1, g2, g3, g4⟩ := hu; go_simp⟩) (unhide HS0) ?_
            try simp only [Act.put, List.setIfInBounds_toArray, List.set_cons_zero, List.set_cons_succ]
            refine till_one 7 (by kernel_rfl) rfl (fun K hK => ?_)
            go_simp
            obtain ⟨w6, hw6⟩ : ∃ w6, ue.alloc (.cells #[.int .i64 y0, .int .i64 y1, .string y2, .slice a3 n3 p3, .slice a4 n4 p4] 27) = w6 := ⟨_, rfl⟩
            have X6 : Below ue.heap.size ue w6 := by rw [← hw6]; exact (Below.refl _ _).alloc (Nat.le_refl _) _
            have at6 : w6.heap[ue.heap.size]? = some (.cells #[.int .i64 y0, .int .i64 y1, .string y2, .slice a3 n3 p3, .slice a4 n4 p4] 27 (0, 0)) := by rw [← hw6]; exact heap_alloc_new ue _
            have sz6 : w6.heap.size = ue.heap.size + 1 := by rw [← hw6]; simp
            try rw [hw6]
            have HP6 := hide (pq_later (unhide HPd) X6)
            have HK6 := own_to5 HKO (fun b e => X6.block b (HKO.lt b e).2)
            clear HKO
            have HS6 : Hid (w6.cell? ⟨gb, 3, none⟩ = some Lv1 ∧ w6.cell? ⟨g, 3, none⟩ = some (.slice (some a) ln cl) ∧ w6.cell? (a.add (i * 5)) = some (.int .i64 y0) ∧ w6.cell? ⟨(a.add (i * 5)).block, (a.add (i * 5)).off + 1, none⟩ = some (.int .i64 y1) ∧ w6.cell? ⟨(a.add (i * 5)).block, (a.add (i * 5)).off + 2, none⟩ = some (.string y2) ∧ w6.cell? ⟨(a.add (i * 5)).block, (a.add (i * 5)).off + 3, none⟩ = some (.slice a3 n3 p3) ∧ w6.cell? ⟨(a.add (i * 5)).block, (a.add (i * 5)).off + 4, none⟩ = some (.slice a4 n4 p4)) := hide ⟨cell_later X6 (unhide HS0).1, cell_later X6 (unhide HS0).2.1, cell_later X6 (unhide HS0).2.2.1, cell_later X6 (unhide HS0).2.2.2.1, cell_later X6 (unhide HS0).2.2.2.2.1, cell_later X6 (unhide HS0).2.2.2.2.2.1, cell_later X6 (unhide HS0).2.2.2.2.2.2⟩
            have HX6 := hide (And.intro X6 sz6)
            obtain ⟨h5s, hh5s⟩ : ∃ h5s, ue.heap.size = h5s := ⟨_, rfl⟩
            rw [hh5s] at at6
            try rw [hh5s]
            refine hK.out _ _ (Or.inr (unhide HS6)) ?_
            clear hK K hw6 X6 hh5s sz6
            try simp only [Act.put, List.setIfInBounds_toArray, List.set_cons_zero, List.set_cons_succ]
            refine till_one 8 (by kernel_rfl) rfl (fun K hK => ?_)
            refine step_append_lies _ (by rfl) _ _ 24 (by rfl) (gb + 1) 27 iV (.agg #[.int .i64 0, .int .i64 0, .string ⟨#[]⟩, .slice none 0 0, .slice none 0 0]) 5 80 Try.underlying24 (unhide HJ).1 (unhide HJ).2.1 (unhide HJ).2.2.1 (unhide HJ).2.2.2 rfl (by omega) Lv1 nL _ (by rfl) HK6 ⟨h5s, 0, none⟩ 1 1 [.int .i64 y0, .int .i64 y1, .string y2, .slice a3 n3 p3, .slice a4 n4 p4] (by rfl) (by rfl) (World.news_of_block at6) (by simp [Value.oneCell']) (by omega) (by unfold maxLen; omega) (by omega) (unhide HP6).size _ rfl ?_
            intro g7 cap7 w7 hown7 hgrow7 hat7 hlt7
            change K (Act.put _ (some 66) _) w7
            have HPb := unhide HP6
            have hsz := HPb.size
            have hlow := HPb.low
            have fr : ∀ q, q ≤ gb → some q ≠ Lv1.ownBlock := fun q hq e => by have := (HPb.els.lt q e.symm).1; omega
            have HS7 : Hid (w7.cell? ⟨gb, 3, none⟩ = some Lv1 ∧ w7.cell? ⟨g, 3, none⟩ = some (.slice (some a) ln cl) ∧ w7.cell? (a.add (i * 5)) = some (.int .i64 y0) ∧ w7.cell? ⟨(a.add (i * 5)).block, (a.add (i * 5)).off + 1, none⟩ = some (.int .i64 y1) ∧ w7.cell? ⟨(a.add (i * 5)).block, (a.add (i * 5)).off + 2, none⟩ = some (.string y2) ∧ w7.cell? ⟨(a.add (i * 5)).block, (a.add (i * 5)).off + 3, none⟩ = some (.slice a3 n3 p3) ∧ w7.cell? ⟨(a.add (i * 5)).block, (a.add (i * 5)).off + 4, none⟩ = some (.slice a4 n4 p4)) := hide ⟨(hgrow7.cell_far ⟨gb, 3, none⟩ (by show gb < _; omega) (fr gb (Nat.le_refl _))).trans (unhide HS6).1, (hgrow7.cell_far ⟨g, 3, none⟩ (by show g < _; omega) (fr g (by omega))).trans (unhide HS6).2.1, (hgrow7.cell_far (a.add (i * 5)) (by rw [block_add]; have := (unhide HAB).1; omega) (by rw [block_add]; exact fr _ (by have := (unhide HAB).1; omega))).trans (unhide HS6).2.2.1, (hgrow7.cell_far ⟨(a.add (i * 5)).block, (a.add (i * 5)).off + 1, none⟩ (by show (a.add (i * 5)).block < _; rw [block_add]; have := (unhide HAB).1; omega) (by show some (a.add (i * 5)).block ≠ _; rw [block_add]; exact fr _ (by have := (unhide HAB).1; omega))).trans (unhide HS6).2.2.2.1, (hgrow7.cell_far ⟨(a.add (i * 5)).block, (a.add (i * 5)).off + 2, none⟩ (by show (a.add (i * 5)).block < _; rw [block_add]; have := (unhide HAB).1; omega) (by show some (a.add (i * 5)).block ≠ _; rw [block_add]; exact fr _ (by have := (unhide HAB).1; omega))).trans (unhide HS6).2.2.2.2.1, (hgrow7.cell_far ⟨(a.add (i * 5)).block, (a.add (i * 5)).off + 3, none⟩ (by show (a.add (i * 5)).block < _; rw [block_add]; have := (unhide HAB).1; omega) (by show some (a.add (i * 5)).block ≠ _; rw [block_add]; exact fr _ (by have := (unhide HAB).1; omega))).trans (unhide HS6).2.2.2.2.2.1, (hgrow7.cell_far ⟨(a.add (i * 5)).block, (a.add (i * 5)).off + 4, none⟩ (by show (a.add (i * 5)).block < _; rw [block_add]; have := (unhide HAB).1; omega) (by show some (a.add (i * 5)).block ≠ _; rw [block_add]; exact fr _ (by have := (unhide HAB).1; omega))).trans (unhide HS6).2.2.2.2.2.2⟩
            have c7 := (unhide HS7).1
            have f7 : w7.frozen? ⟨gb, 3, none⟩ = false := (hgrow7.frozen_far ⟨gb, 3, none⟩ (by show gb < _; omega) (fr gb (Nat.le_refl _))).trans (frozen_of_row w6 gb 3 _ _ HPb.box)
            have H7 := hide (And.intro hown7 hgrow7)
            refine hK.out _ _ (Or.inr (unhide HS7)) ?_
            clear hK K hown7 hgrow7 hat7 hlt7 fr hsz hlow HPb HK6
            try simp only [Act.put, List.setIfInBounds_toArray, List.set_cons_zero, List.set_cons_succ]
            refine till_take 9 (v := .pointer (some ⟨gb, 3, none⟩)) (some 67) rfl rfl rfl (by kernel_rfl) (by kernel_rfl) (by kernel_rfl) (by kernel_rfl) (fun _ _ _ h => h) (Or.inl ⟨by rfl, fun u hu => by obtain ⟨h4, h5, g0, g1, g2, g3, g4⟩ := hu; go_simp⟩) (unhide HS7) ?_
            try simp only [Act.put, List.setIfInBounds_toArray, List.set_cons_zero, List.set_cons_succ]
            refine till_one 10 (by kernel_rfl) rfl (fun K hK => ?_)
            go_simp
            refine hK.out _ _ (Or.inl rfl) ?_
            clear hK K
            try simp only [Act.put, List.setIfInBounds_toArray, List.set_cons_zero, List.set_cons_succ]
            refine till_done (by kernel_rfl) ?_ _
            have HP30 := hide (pq_el (unhide HP6) (unhide HNN).2 (unhide H7).1 (unhide H7).2)
            obtain ⟨uc, huc⟩ : ∃ uc, w7.setCell ⟨gb, 3, none⟩ (.slice (some ⟨g7, 0, none⟩) (nL + 1) cap7) = uc := ⟨_, rfl⟩
            rw [huc] at HP30
            rw [huc]
            clear huc c7 f7 H7 HS6 HS7 HX6 HP6 at6 HS0 HPd
            have HP4 : Hid (Pq w uc g gb #[.int .i64 k, .int .i64 n, .string s, .slice (some a) ln cl, .slice (some a2) m ck] #[.int .i64 x0, .int .i64 x1, .string x2, .slice xa xl xc, .slice xb xm xd] #[.int .i64 0, .int .i64 0, .string ⟨#[]⟩, .slice none 0 0, .slice none 0 0] ((acc1 ++ [(tk, [.int .i64 y0, .int .i64 y1, .string y2, .slice a3 n3 p3, .slice a4 n4 p4], yv)] : List (ByteArray × List Value × Vl)).map (·.1)) ((acc1 ++ [(tk, [.int .i64 y0, .int .i64 y1, .string y2, .slice a3 n3 p3, .slice a4 n4 p4], yv)] : List (ByteArray × List Value × Vl)).map (·.2.1)) (.slice (some ⟨g7, 0, none⟩) (nL + 1) cap7) _) := hide (by
              rw [List.map_append, List.map_append]
              exact unhide HP30)
            go_wp2_with fail
            go_roundw
            case rel => exact ⟨i + 1, _, d1, _, _, unhide HI1, by go_num, rfl, HN1, HP4⟩
            case measure => have := unhide HI1; simp [intOf]; omega
    · have i1 : ¬ (i : Int) < (m : Int) := by omega
      have HFI : Hid (putF key ([.int .i64 x0, .int .i64 x1, .string x2, .slice xa xl xc, .slice xb xm xd], x) its = putEnd key ([.int .i64 x0, .int .i64 x1, .string x2, .slice xa xl xc, .slice xb xm xd], x) (acc, dn)) := hide (by
        unfold putF
        rw [unhide HAC, List.take_of_length_le (by have := (unhide HIT).2; omega)])
      obtain ⟨r0, r1, r2, r3, r4⟩ := row_cell (unhide HPr).at0
      go_upto_if 69 with fail
      clear r0 r1 r2 r3 r4
      go_cut [] from 68 to 82 (fun wx => ∃ (accF : List (ByteArray × List Value × Vl)) (Lv Kv : Value), Hid (accF = putF key ([.int .i64 x0, .int .i64 x1, .string x2, .slice xa xl xc, .slice xb xm xd], x) its) ∧ Hid (Pq w wx g gb #[.int .i64 k, .int .i64 n, .string s, .slice al ln cl, .slice ak m ck] #[.int .i64 x0, .int .i64 x1, .string x2, .slice xa xl xc, .slice xb xm xd] #[.int .i64 0, .int .i64 0, .string ⟨#[]⟩, .slice none 0 0, .slice none 0 0] (accF.map (·.1)) (accF.map (·.2.1)) Lv Kv))
      case first =>
        cases dn with
        | true =>
          go_wp2_with fail
          go_meet
          exact ⟨acc, _, _, hide (by rw [unhide HFI]; simp [putEnd]), HPr⟩
        | false =>
          obtain ⟨nK, hnK⟩ : ∃ nK, (acc.map (·.1)).length = nK := ⟨_, rfl⟩
          obtain ⟨nL, hnL⟩ : ∃ nL, (acc.map (·.2.1)).length = nL := ⟨_, rfl⟩
          have HKO := (unhide HPr).keys
          rw [hnK] at HKO
          have HKO := hide HKO
          have hnb : nK ≤ 10000 ∧ nL ≤ 10000 := by have h1 := unhide HLN; simp at hnK hnL; omega
          obtain ⟨hnb1, hnb2⟩ := hnb
          have HNN := hide (And.intro hnK hnL)
          clear hnK hnL
          obtain ⟨c0, c1, c2, c3, c4⟩ := row_cell (unhide HPr).at1
          obtain ⟨d0, d1, d2, d3, d4⟩ := row_cell (unhide HPr).box
          have tokA2 : True := trivial
          go_upto_region 15 with (first | (have _t := tokA2; at_builtin; refine wpl_oneG rfl (.tmp 71) (.tmp 73) 25 9 iS (.string ⟨#[]⟩) 1 16 Try.underlying25 (unhide HI).1 (unhide HI).2.1 (unhide HI).2.2.1 (unhide HI).2.2.2 rfl (by omega) rfl (gb + 1) nK Kv _ [.string key] rfl (by simp [Value.oneCell']) rfl (unhide HKO) rfl (by unfold maxLen; omega) (by omega) (unhide HPr).size ?_; intro v6 w6 H6; clear tokA2; obtain ⟨q6, p6, rfl, hsl⟩ := slice_form (unhide H6).1; clear hsl; have b6 := ((unhide H6).2.1.block gb (by have := (unhide HPr).size; omega) (fun e => by have := ((unhide HPr).keys.lt gb e.symm).1; omega)).trans (unhide HPr).box; have k4 := (row_cell b6).2.2.2.2; have f4 : w6.frozen? ⟨gb, 4, none⟩ = false := frozen_of_row w6 gb 4 _ _ b6; clear b6 c0 c1 c2 c3 c4 d0 d1 d2 d3 d4))
          have HG0 := hide (pq_key (unhide HPr) (unhide HNN).1 (unhide H6).1 (unhide H6).2.1)
          obtain ⟨u7, hu7⟩ : ∃ u7, w6.setCell ⟨gb, 4, none⟩ (.slice q6 (nK + 1) p6) = u7 := ⟨_, rfl⟩
          rw [hu7] at HG0
          rw [hu7]
          clear hu7 k4 f4 H6
          have HLO := (unhide HG0).els
          rw [(unhide HNN).2] at HLO
          have HLO := hide HLO
          obtain ⟨c0, c1, c2, c3, c4⟩ := row_cell (unhide HG0).at1
          obtain ⟨d0, d1, d2, d3, d4⟩ := row_cell (unhide HG0).box
          have tokB2 : True := trivial
          go_upto_region 16 with (first | (have _t := tokB2; at_builtin; refine wpl_oneG rfl (.tmp 77) (.tmp 79) 24 27 iV (.agg #[.int .i64 0, .int .i64 0, .string ⟨#[]⟩, .slice none 0 0, .slice none 0 0]) 5 80 Try.underlying24 (unhide HJ).1 (unhide HJ).2.1 (unhide HJ).2.2.1 (unhide HJ).2.2.2 rfl (by omega) rfl (gb + 1) nL Lv _ [.int .i64 x0, .int .i64 x1, .string x2, .slice xa xl xc, .slice xb xm xd] rfl (by simp [Value.oneCell']) rfl (unhide HLO) rfl (by unfold maxLen; omega) (by omega) (unhide HG0).size ?_; intro v8 w8 H8; clear tokB2; obtain ⟨q8, p8, rfl, hsl⟩ := slice_form (unhide H8).1; clear hsl; have b8 := ((unhide H8).2.1.block gb (by have := (unhide HG0).size; omega) (fun e => by have := ((unhide HG0).els.lt gb e.symm).1; omega)).trans (unhide HG0).box; have k3 := (row_cell b8).2.2.2.1; have f3 : w8.frozen? ⟨gb, 3, none⟩ = false := frozen_of_row w8 gb 3 _ _ b8; clear b8 c0 c1 c2 c3 c4 d0 d1 d2 d3 d4))
          have HG1 := hide (pq_el (unhide HG0) (unhide HNN).2 (unhide H8).1 (unhide H8).2.1)
          obtain ⟨u9, hu9⟩ : ∃ u9, w8.setCell ⟨gb, 3, none⟩ (.slice q8 (nL + 1) p8) = u9 := ⟨_, rfl⟩
          rw [hu9] at HG1
          rw [hu9]
          clear hu9 k3 f3 H8 HG0 HLO HKO
          have HP1 : Hid (Pq w u9 g gb #[.int .i64 k, .int .i64 n, .string s, .slice al ln cl, .slice ak m ck] #[.int .i64 x0, .int .i64 x1, .string x2, .slice xa xl xc, .slice xb xm xd] #[.int .i64 0, .int .i64 0, .string ⟨#[]⟩, .slice none 0 0, .slice none 0 0] ((acc ++ [(key, [.int .i64 x0, .int .i64 x1, .string x2, .slice xa xl xc, .slice xb xm xd], x)] : List (ByteArray × List Value × Vl)).map (·.1)) ((acc ++ [(key, [.int .i64 x0, .int .i64 x1, .string x2, .slice xa xl xc, .slice xb xm xd], x)] : List (ByteArray × List Value × Vl)).map (·.2.1)) (.slice q8 (nL + 1) p8) (.slice q6 (nK + 1) p6)) := hide (by
            rw [List.map_append, List.map_append]
            exact unhide HG1)
          clear HG1
          go_wp2_with fail
          go_meet
          exact ⟨_, _, _, hide (by rw [unhide HFI]; simp [putEnd]), HP1⟩
      case rest =>
        clear HPr
        obtain ⟨accF, Lv, Kv, HAF, HPf⟩ := hcut
        obtain ⟨ua, hua⟩ : ∃ ua, wc = ua := ⟨_, rfl⟩
        rw [hua] at HPf ⊢
        clear hua
        obtain ⟨qL, pL, rfl, hsl⟩ := slice_form (unhide HPf).els
        clear hsl
        obtain ⟨qK, pK, rfl, hsl⟩ := slice_form (unhide HPf).keys
        clear hsl
        obtain ⟨nL, hnL⟩ : ∃ nL, (accF.map (·.2.1)).length = nL := ⟨_, rfl⟩
        obtain ⟨nK, hnK⟩ : ∃ nK, (accF.map (·.1)).length = nK := ⟨_, rfl⟩
        have HPg := HPf
        rw [hnL, hnK] at HPf
        have HNN := hide (And.intro hnL hnK)
        clear hnL hnK
        obtain ⟨d0, d1, d2, d3, d4⟩ := row_cell (unhide HPf).box
        have ATX := (unhide HPf).at2
        obtain ⟨z0, z1, z2, z3, z4⟩ := row_cell ATX
        have fz : ∀ q, ua.frozen? ⟨g + 1 + 1, q, none⟩ = false := fun q => frozen_of_row ua (g + 1 + 1) q _ _ ATX
        have fz0 := fz 0
        have fz1 := fz 1
        have fz2 := fz 2
        have fz3 := fz 3
        have fz4 := fz 4
        have HAT := hide ATX
        clear fz ATX
        go_wp2_with fail
        have ATX := unhide HAT
        have BW : Below g w ua := (unhide HPf).below
        have R9 := five_set ua (g + 1 + 1) 27 _ _ _ _ _ (.int .i64 5) (.int .i64 0) (.string ⟨#[]⟩) (.slice qL nL pL) (.slice qK nK pK) ATX
        have O9 := five_other ua (g + 1 + 1) (x0 := .int .i64 5) (x1 := .int .i64 0) (x2 := .string ⟨#[]⟩) (x3 := .slice qL nL pL) (x4 := .slice qK nK pK)
        have S9 : (((((ua.setCell ⟨g + 1 + 1, 0, none⟩ (.int .i64 5)).setCell ⟨g + 1 + 1, 1, none⟩ (.int .i64 0)).setCell ⟨g + 1 + 1, 2, none⟩ (.string ⟨#[]⟩)).setCell ⟨g + 1 + 1, 3, none⟩ (.slice qL nL pL)).setCell ⟨g + 1 + 1, 4, none⟩ (.slice qK nK pK)).heap.size = ua.heap.size := by simp
        have B9 := five_below (g := g + 1 + 1) BW (by omega) (.int .i64 5) (.int .i64 0) (.string ⟨#[]⟩) (.slice qL nL pL) (.slice qK nK pK)
        obtain ⟨w9, hw9⟩ : ∃ w9, (((((ua.setCell ⟨g + 1 + 1, 0, none⟩ (.int .i64 5)).setCell ⟨g + 1 + 1, 1, none⟩ (.int .i64 0)).setCell ⟨g + 1 + 1, 2, none⟩ (.string ⟨#[]⟩)).setCell ⟨g + 1 + 1, 3, none⟩ (.slice qL nL pL)).setCell ⟨g + 1 + 1, 4, none⟩ (.slice qK nK pK)) = w9 := ⟨_, rfl⟩
        rw [hw9] at R9 S9 B9 ⊢
        obtain ⟨t0, t1, t2, t3, t4⟩ := row_cell R9
        refine bodyPost_ret (v := .agg #[.int .i64 5, .int .i64 0, .string ⟨#[]⟩, .slice qL nL pL, .slice qK nK pK]) (by simp [results, Try.results28, go_sem, t0, t1, t2, t3, t4]) rfl ?_
        have hP := unhide HPg
        have hlow := hP.low
        have hsz := hP.size
        have hmem : ∀ t ∈ accF, (IsP w P t.2.2 (.agg t.2.1.toArray) ∧ t.2.1.length = 5) ∧ t.1.size ≤ 140737488351232 := fun t ht => by
          rw [unhide HAF] at ht
          obtain ⟨el, hx, hf⟩ := unhide HEL
          rcases putF_mem key ([.int .i64 x0, .int .i64 x1, .string x2, .slice xa xl xc, .slice xb xm xd], x) its t ht with h | h
          · rw [h]
            exact ⟨⟨hx, rfl⟩, unhide HKEY⟩
          · rw [← (unhide HIT).1] at h
            obtain ⟨j, h1, h2, h3⟩ := its_mem h
            rw [h3]
            exact ⟨⟨el j _ h2, hf.hv j (List.getElem?_eq_some_iff.1 h2).1⟩, hf.bt _ (List.mem_of_getElem? h1)⟩
        have hnb : accF.length ≤ 20000 := by
          rw [unhide HAF]
          have h1 := putFold_len key ([.int .i64 x0, .int .i64 x1, .string x2, .slice xa xl xc, .slice xb xm xd], x) its ([], false)
          have h2 := (unhide HIT).2
          unfold putF putEnd
          simp only [List.length_nil] at h1
          split <;> simp <;> omega
        have hcel : ∀ c t, accF[c]? = some t → celF (accF.map (·.2.1)) c = t.2.1 := fun c t ht => by unfold celF; rw [List.getElem?_map, ht]; rfl
        have I8 : IsP ua (fun b => P b ∨ (gb + 1 ≤ b ∧ b < ua.heap.size)) (.mk 5 0 ⟨#[]⟩ (accF.map (·.2.2)) (accF.map (·.1))) (.agg #[.int .i64 5, .int .i64 0, .string ⟨#[]⟩, .slice qL nL pL, .slice qK nK pK]) := by
          have hk := (unhide HPf).keys
          have hl := (unhide HPf).els
          rw [(unhide HNN).1] at hl
          rw [(unhide HNN).2] at hk
          refine isP_rows (V := celF (accF.map (·.2.1))) hk hl (by rw [← (unhide HNN).1]; simp) (fun c hc => ?_) (fun c y hy => ?_) (fun b h1 h2 => Or.inr ⟨h1, h2⟩) (by have := (unhide HNN).1; simp at this; omega) (by have := (unhide HNN).2; simp at this; omega) (fun t ht => ?_)
          · rw [← (unhide HNN).1] at hc
            obtain ⟨t, ht⟩ : ∃ t, accF[c]? = some t := ⟨_, List.getElem?_eq_getElem (by simpa using hc)⟩
            rw [hcel c t ht]
            exact (hmem t (List.mem_of_getElem? ht)).1.2
          · rw [List.getElem?_map] at hy
            obtain ⟨t, ht, rfl⟩ := Option.map_eq_some_iff.1 hy
            rw [hcel c t ht]
            have h6 := BW.size
            exact IsP.to (fun b hb => BW.block b (unhide HPS b hb)) (fun b hb => Or.inl hb) (hmem t (List.mem_of_getElem? ht)).1.1
          · obtain ⟨z, hz, rfl⟩ := List.mem_map.1 ht
            exact (hmem z hz).2
        have I9 : IsP w9 (fun b => P b ∨ (g ≤ b ∧ b < w9.heap.size)) (putVl l ks key x) (.agg #[.int .i64 5, .int .i64 0, .string ⟨#[]⟩, .slice qL nL pL, .slice qK nK pK]) := by
          have hpv : putVl l ks key x = .mk 5 0 ⟨#[]⟩ (accF.map (·.2.2)) (accF.map (·.1)) := by
            have h1 := putF_map (fun t : List Value × Vl => t.2) key ([.int .i64 x0, .int .i64 x1, .string x2, .slice xa xl xc, .slice xb xm xd], x) its
            have h2 := its_map (V := V) (unhide HL).2.2.2
            rw [(unhide HIT).1] at h2
            rw [h2, ← unhide HAF] at h1
            unfold putVl
            rw [h1, List.map_map, List.map_map]
            rfl
          rw [hpv]
          exact IsP.to (fun b hb => by
            rw [← hw9]
            refine O9 b (fun e => ?_)
            rcases hb with h | h
            · have := unhide HPS b h; omega
            · omega) (fun b hb => by
            rcases hb with h | h
            · exact Or.inl h
            · exact Or.inr ⟨by omega, by omega⟩) I8
        first | exact ⟨_, rfl, I9, B9⟩ | (rw [← hg] at B9 I9; exact ⟨_, rfl, I9, B9⟩)
end Go.Proofs.Ytcopkhmmpamboaa
