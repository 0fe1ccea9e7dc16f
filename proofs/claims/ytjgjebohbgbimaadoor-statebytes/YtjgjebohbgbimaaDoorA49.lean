/-
  The walk of the document's Encode of entries; no conditions but the form's own reach.
-/
import Derived.Test.YtjgjebohbgbimaaDoorA47
import Derived.Test.YtjgjebohbgbimaaDoorA48
import Derived.Test.YtjgjebohbgbimaaDoorA27
set_option linter.unusedVariables false
set_option linter.unusedSimpArgs false
namespace Go.Proofs.YtjgjebohbgbimaaDoor
open Go.RowKit
set_option linter.unusedVariables false
set_option linter.unusedSimpArgs false

theorem refUint_rowS (ao : Option Addr) (len cap : Nat) (n N : Int) (zs : List Int) (w : World) (hN : N = n) (hr : Row8 w ao len cap zs) (hm : len + 10 ≤ 140737489403904) (h0 : 0 ≤ n) (h1 : n ≤ 18446744073709551615) :
    Calls Tryd.prog 17 #[.slice ao len cap, .int .u64 N] w fun e w' => ∃ g c L : Nat, e = .returned (.slice (some ⟨g, 0, none⟩) L c) ∧ Row8 w' (some ⟨g, 0, none⟩) L c (zs ++ encF 9 n) ∧ w.heap.size ≤ g ∧ Below w.heap.size w w' ∧ len < L ∧ L ≤ len + 10 ∧ c ≤ maxLen := by
  refine (refPutUint_int ao len cap n N hN zs w hr hm h0 h1).mono ?_
  rintro e w' ⟨g, c, hg, rfl, own, b⟩
  have hl := encF_len 9 n
  have hs : ∀ x ∈ zs ++ encF 9 n, 0 ≤ x ∧ x ≤ 255 := fun x hx => by
    rcases List.mem_append.1 hx with h | h
    · exact hr.small x h
    · exact encF9_bytes n h0 h1 x h
  refine ⟨g, c, _, rfl, Row8.own own hs, hg, b, by omega, by omega, ?_⟩
  obtain ⟨_, _, hv, _, _, hm⟩ := row_of own hs (by omega)
  cases hv
  exact hm

theorem refText_rowS (ao : Option Addr) (len cap : Nat) (s : ByteArray) (zs : List Int) (w : World) (hr : Row8 w ao len cap zs) (hm : len + 10 + s.size ≤ 140737489403904) (hs : s.size ≤ 140737488351232) :
    Calls Tryd.prog 18 #[.slice ao len cap, .string s] w fun e w' => ∃ g c L : Nat, e = .returned (.slice (some ⟨g, 0, none⟩) L c) ∧ Row8 w' (some ⟨g, 0, none⟩) L c (zs ++ (encF 9 (s.size : Int) ++ nums s)) ∧ w.heap.size ≤ g ∧ Below w.heap.size w w' ∧ len < L ∧ L ≤ len + 10 + s.size := by
  refine (refPutText_any ao len cap s zs w hr hm).mono ?_
  rintro e w' ⟨g, c, hg, rfl, own, b⟩
  have hl := encF_len 9 (s.size : Int)
  rw [List.append_assoc] at own
  refine ⟨g, c, _, rfl, Row8.own own (fun x hx => ?_), hg, b, by omega, by omega⟩
  rcases List.mem_append.1 hx with h | h
  · exact hr.small x h
  · exact tx_small s (by omega) x h

theorem row_castS {w : World} {ao : Option Addr} {len cap : Nat} {zs ys : List Int} (h : Row8 w ao len cap zs) (e : zs = ys) : Row8 w ao len cap ys := e ▸ h

set_option maxRecDepth 100000 in
set_option maxHeartbeats 4000000 in
theorem encodeRs_any (es : List En) (al : Option Addr) (n cl B : Nat) (w : World) (hn : es.length = n) (h : IsE w (fun b => b < B) es al cl) (hB : B ≤ w.heap.size) :
    Calls Tryd.prog 7 #[.slice al n cl] w fun e w' => ∃ (ao : Option Addr) (len cap : Nat), e = .returned (.tuple #[.slice ao len cap, .int .i64 (codeS es)]) ∧ Row8 w' ao len cap (bytesS es) ∧ Below w.heap.size w w' ∧ (∀ a, ao = some a → w.heap.size ≤ a.block) ∧ cap ≤ maxLen := by
  have hl := h.len
  rw [hn] at hl
  have CR := hide (rightRs_any es al n cl B w hn h hB)
  have HV : Hid (∀ u, Below w.heap.size w u → IsE u (fun b => b < B) es al cl) := hide (fun u hu => h.later (hu.mono hB))
  have HN := hide hn
  cases hR : rightE es with
  | false =>
    rw [hR] at CR
    have h1 : codeS es = 70 := by unfold codeS; rw [hR]; rfl
    have h2 : bytesS es = [] := by unfold bytesS; rw [hR]; rfl
    rw [h1, h2]
    clear hR h1 h2 hn h
    go_enter Tryd.func7, Tryd.ntmps7
    go_wp2_with fail
    refine (unhide CR).mono ?_
    rintro e u ⟨rfl, b1⟩
    have B1 := hide b1
    clear b1 CR
    go_wp2_with fail
    go_ret2
    exact ⟨none, 0, 0, rfl, nilRow _, unhide B1, (fun a e => by cases e), by unfold maxLen; omega⟩
  | true =>
    rw [hR] at CR
    have h1 : codeS es = 0 := by unfold codeS; rw [hR]; rfl
    have h2 : bytesS es = encS es := by unfold bytesS; rw [hR]; rfl
    rw [h1, h2]
    obtain ⟨r1, r2, r3, r4⟩ := right_parts hR
    rw [hn] at r1
    have H3 := hide r3
    have HLE : Hid (∀ i, (outE es n i).length ≤ 14 + i * 43100) := hide (fun i => outE_len r3 n i)
    have HBw := hide hB
    clear hR h1 h2 hn h r2 r3 r4
    go_enter Tryd.func7, Tryd.ntmps7
    go_wp2_with fail
    refine (unhide CR).mono ?_
    rintro e u ⟨rfl, b1⟩
    have B1 := hide b1
    clear b1 CR
    have i1 : IntKind.u64.wrap (n : Int) = (n : Int) := by rw [IntKind.wrap_u64]; omega
    have kc := fun (w : World) (C : Array Value) (n c : Nat) => Lib.run_convert_bytes_const (P := Tryd.prog) w 25 5 C n c Tryd.underlying25 Tryd.underlying5
    go_wp2_with fail
    clear kc
    obtain ⟨R1, b2⟩ := head_row u (4, 5)
    obtain ⟨w1, hw1⟩ : ∃ w1, u.alloc (.cells #[.int .u8 83, .int .u8 83, .int .u8 84, .int .u8 49] 5 (4, 5)) = w1 := ⟨_, rfl⟩
    rw [hw1] at R1 b2 ⊢
    obtain ⟨g, hg⟩ : ∃ g, u.heap.size = g := ⟨_, rfl⟩
    rw [hg] at R1 ⊢
    have X1 := hide ((unhide B1).trans (b2.mono (unhide B1).size))
    have CU := hide (refUint_rowS (some ⟨g, 0, none⟩) 4 4 (n : Int) (n : Int) headE w1 rfl R1 (by omega) (by omega) (by omega))
    clear hw1 hg R1 b2 B1
    refine (unhide CU).mono ?_
    rintro e w2 ⟨g2, k2, L2, rfl, r2, hg2, b3, hl2, hL2, hk2⟩
    have HX0 : Hid (Row8 w2 (some ⟨g2, 0, none⟩) L2 k2 (outE es n 0) ∧ Below w.heap.size w w2 ∧ (∀ a, some (⟨g2, 0, none⟩ : Addr) = some a → w.heap.size ≤ a.block) ∧ k2 ≤ maxLen) := hide ⟨row_castS r2 (by simp [outE, encEs]), (unhide X1).trans (b3.mono (unhide X1).size), (fun a e => by cases e; exact Nat.le_trans (unhide X1).size hg2), hk2⟩
    clear r2 hg2 b3 hl2 hL2 hk2 CU X1
    go_wp2_with fail
    go_loopw [5, 6] (fun x y wr => ∃ (i : Nat) (ao : Option Addr) (len cap : Nat), x = .slice ao len cap ∧ y = .int .i64 (i : Int) ∧ Hid (i ≤ n) ∧ Hid (Row8 wr ao len cap (outE es n i) ∧ Below w.heap.size w wr ∧ (∀ a, ao = some a → w.heap.size ≤ a.block) ∧ cap ≤ maxLen)) (fun _ y _ => n - (intOf y).toNat)
    case atStart => exact ⟨0, _, _, _, rfl, rfl, hide (by omega), HX0⟩
    case round =>
      clear HX0
      obtain ⟨i, ao, len, cap, rfl, rfl, HI, HX⟩ := hrel
      by_cases hlt : i < n
      · have j1 : (i : Int) < (n : Int) := by omega
        have HI1 : Hid (i + 1 ≤ n) := hide (by omega)
        obtain ⟨e, he⟩ : ∃ e, es[i]? = some e := ⟨_, List.getElem?_eq_getElem (by have := unhide HN; omega)⟩
        have hv := unhide HV wr (unhide HX).2.1
        obtain ⟨a, x0, x1, x2, al', ak', ll', m', cl', ck', rfl, _, hsz, hc, hp⟩ := hv.elem i e he
        obtain ⟨s, hs⟩ : ∃ s, e.1 = s := ⟨_, rfl⟩
        obtain ⟨v, hvv⟩ : ∃ v, e.2 = v := ⟨_, rfl⟩
        obtain rfl : e = (s, v) := by rw [← hs, ← hvv]
        clear hs hvv hv
        dsimp only at hsz hc hp
        obtain ⟨q1, q2, q3⟩ := ent_parts (unhide H3 _ (List.mem_of_getElem? he))
        dsimp only at q1 q2 q3
        have c0 : wr.cell? (a.add (i * 6)) = some (.string s) := hc 0 _ rfl
        have hlen : len ≤ 14 + i * 43100 := by have h1 := (unhide HX).1.length; have h2 := unhide HLE i; omega
        have CT := hide (refText_rowS ao len cap s _ wr (unhide HX).1 (by omega) (by omega))
        have HP : Hid (∀ u, Below wr.heap.size wr u → IsV u B v (.agg #[.int .i64 x0, .int .i64 x1, .string x2, .slice al' ll' cl', .slice ak' m' ck']) ∧ u.cell? ⟨(a.add (i * 6)).block, (a.add (i * 6)).off + 1, none⟩ = some (.int .i64 x0) ∧ u.cell? ⟨(a.add (i * 6)).block, (a.add (i * 6)).off + 2, none⟩ = some (.int .i64 x1) ∧ u.cell? ⟨(a.add (i * 6)).block, (a.add (i * 6)).off + 3, none⟩ = some (.string x2) ∧ u.cell? ⟨(a.add (i * 6)).block, (a.add (i * 6)).off + 4, none⟩ = some (.slice al' ll' cl') ∧ u.cell? ⟨(a.add (i * 6)).block, (a.add (i * 6)).off + 5, none⟩ = some (.slice ak' m' ck') ∧ B ≤ u.heap.size ∧ Below w.heap.size w u) := hide (fun u hu => by
          have hbr : B ≤ wr.heap.size := Nat.le_trans (unhide HBw) (unhide HX).2.1.size
          exact ⟨IsV.mono (hu.mono hbr) hp, cell_later hu (hc 1 _ rfl), cell_later hu (hc 2 _ rfl), cell_later hu (hc 3 _ rfl), cell_later hu (hc 4 _ rfl), cell_later hu (hc 5 _ rfl), Nat.le_trans hbr hu.size, (unhide HX).2.1.trans (hu.mono (unhide HX).2.1.size)⟩)
        have HE := hide (And.intro he q3)
        clear hc hp he
        go_wp2_with fail
        refine (unhide CT).mono ?_
        rintro e u ⟨g1, k1, L1, rfl, r1, hg1, b1, hl1, hL1⟩
        obtain ⟨p1, d1, d2, d3, d4, d5, p2, p3⟩ := unhide HP u b1
        have CP := hide (put_f (some ⟨g1, 0, none⟩) L1 k1 _ v _ B u r1 p1 p2 (by omega))
        have hcode : codeR v = 0 := by simp [codeR, (unhide HE).2]
        rw [hcode, if_pos (unhide HE).2] at CP
        have X3 := hide p3
        clear r1 hg1 b1 p1 p2 p3 hcode CT c0
        go_wp2_with fail
        refine (unhide CP).mono ?_
        rintro e u2 ⟨ao2, len2, cap2, rfl, r2, b2, n2, m2⟩
        have HX2 : Hid (Row8 u2 ao2 len2 cap2 (outE es n (i + 1)) ∧ Below w.heap.size w u2 ∧ (∀ a, ao2 = some a → w.heap.size ≤ a.block) ∧ cap2 ≤ maxLen) := hide ⟨row_castS r2 (outE_next es n i s v (unhide HE).1).symm, (unhide X3).trans (b2.mono (unhide X3).size), fun a ha => Nat.le_trans (unhide X3).size (n2 a ha), m2⟩
        clear r2 b2 n2 m2 CP d1 d2 d3 d4 d5
        go_wp2_with fail
        go_roundw
        case rel => exact ⟨i + 1, _, _, _, rfl, by go_num, HI1, HX2⟩
        case measure => have := unhide HI1; simp [intOf]; omega
      · have j1 : ¬ (i : Int) < (n : Int) := by omega
        have HQ : Hid (Row8 wr ao len cap (encS es)) := hide (row_castS (unhide HX).1 (by
          have hin : i = n := by have := unhide HI; omega
          unfold outE encS
          rw [hin, List.take_of_length_le (by have := unhide HN; omega), unhide HN]))
        go_wp2_with fail
        go_ret2
        exact ⟨ao, len, cap, rfl, unhide HQ, (unhide HX).2.1, (unhide HX).2.2.1, (unhide HX).2.2.2⟩
end Go.Proofs.YtjgjebohbgbimaaDoor
