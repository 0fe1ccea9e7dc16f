/-
  The walk of Entries: are two rows the same? no conditions but the form's own reach.
-/
import Derived.Test.YtjhnbopejnpbeaaA29
import Derived.Test.YtjhnbopejnpbeaaA23
set_option linter.unusedVariables false
set_option linter.unusedSimpArgs false
namespace Go.Proofs.Ytjhnbopejnpbeaa
open Go.RowKit

def ResEq (es fs : List En) (w : World) (e : Ending) (w' : World) : Prop := ∃ r, e = .returned (.bool r) ∧ (r = true ↔ es = fs) ∧ Below w.heap.size w w'

set_option maxRecDepth 100000 in
set_option maxHeartbeats 1000000 in
theorem entries_any (es fs : List En) (al bl : Option Addr) (n m ca cb B : Nat) (w : World) (hn : es.length = n) (hm : fs.length = m) (h : IsE w (fun b => b < B) es al ca) (h' : IsE w (fun b => b < B) fs bl cb) (hB : B ≤ w.heap.size) :
    Calls Try.prog 16 #[.slice al n ca, .slice bl m cb] w fun e w' => ResEq es fs w e w' := by
  have hl := h.len
  have hl' := h'.len
  rw [hn] at hl
  rw [hm] at hl'
  have HV : Hid (∀ u, Below w.heap.size w u → IsE u (fun b => b < B) es al ca ∧ IsE u (fun b => b < B) fs bl cb) := hide (fun u hu => ⟨h.later (hu.mono hB), h'.later (hu.mono hB)⟩)
  have HN := hide (And.intro hn hm)
  clear h h' hn hm
  by_cases hnm : n = m
  · subst hnm
    go_enter Try.func16, Try.ntmps16
    go_wp2_with fail
    go_loopw [5] (fun x wr => ∃ (i : Nat), x = .int .i64 (i : Int) ∧ Hid (i ≤ n ∧ Below w.heap.size w wr) ∧ Hid (es.take i = fs.take i)) (fun x _ => n - (intOf x).toNat)
    case atStart => exact ⟨0, rfl, hide ⟨by omega, Below.refl _ _⟩, hide rfl⟩
    case round =>
      obtain ⟨i, rfl, HX, HR⟩ := hrel
      obtain ⟨wq, hwq⟩ : ∃ wq, wq = wr := ⟨_, rfl⟩
      subst hwq
      by_cases hlt : i < n
      · have i1 : (i : Int) < (n : Int) := by omega
        have HI1 : Hid (i + 1 ≤ n) := hide (by omega)
        obtain ⟨⟨s, v⟩, he⟩ : ∃ e, es[i]? = some e := ⟨_, List.getElem?_eq_getElem (by have := unhide HN; omega)⟩
        obtain ⟨⟨s', v'⟩, hf⟩ : ∃ e, fs[i]? = some e := ⟨_, List.getElem?_eq_getElem (by have := unhide HN; omega)⟩
        obtain ⟨hv, hv'⟩ := unhide HV wq (unhide HX).2
        obtain ⟨a, x0, x1, x2, al', ak', ll', m', cl', ck', rfl, _, _, hc, hp⟩ := hv.elem i _ he
        obtain ⟨a', y0, y1, y2, bl', bk', lb', mb', clb', ckb', rfl, _, _, hd, hp'⟩ := hv'.elem i _ hf
        dsimp only at hc hp hd hp'
        focus
          have c0 : wq.cell? (a.add (i * 6)) = some (.string s) := hc 0 _ rfl
          have c1 : wq.cell? ⟨(a.add (i * 6)).block, (a.add (i * 6)).off + 1, none⟩ = some (.int .i64 x0) := hc 1 _ rfl
          have c2 : wq.cell? ⟨(a.add (i * 6)).block, (a.add (i * 6)).off + 2, none⟩ = some (.int .i64 x1) := hc 2 _ rfl
          have c3 : wq.cell? ⟨(a.add (i * 6)).block, (a.add (i * 6)).off + 3, none⟩ = some (.string x2) := hc 3 _ rfl
          have c4 : wq.cell? ⟨(a.add (i * 6)).block, (a.add (i * 6)).off + 4, none⟩ = some (.slice al' ll' cl') := hc 4 _ rfl
          have c5 : wq.cell? ⟨(a.add (i * 6)).block, (a.add (i * 6)).off + 5, none⟩ = some (.slice ak' m' ck') := hc 5 _ rfl
          have d0 : wq.cell? (a'.add (i * 6)) = some (.string s') := hd 0 _ rfl
          have d1 : wq.cell? ⟨(a'.add (i * 6)).block, (a'.add (i * 6)).off + 1, none⟩ = some (.int .i64 y0) := hd 1 _ rfl
          have d2 : wq.cell? ⟨(a'.add (i * 6)).block, (a'.add (i * 6)).off + 2, none⟩ = some (.int .i64 y1) := hd 2 _ rfl
          have d3 : wq.cell? ⟨(a'.add (i * 6)).block, (a'.add (i * 6)).off + 3, none⟩ = some (.string y2) := hd 3 _ rfl
          have d4 : wq.cell? ⟨(a'.add (i * 6)).block, (a'.add (i * 6)).off + 4, none⟩ = some (.slice bl' lb' clb') := hd 4 _ rfl
          have d5 : wq.cell? ⟨(a'.add (i * 6)).block, (a'.add (i * 6)).off + 5, none⟩ = some (.slice bk' mb' ckb') := hd 5 _ rfl
          have hBr : B ≤ wq.heap.size := Nat.le_trans hB (unhide HX).2.size
          have hdr : Below wq.heap.size wq wq.drew := (Below.refl _ _).drew
          have CR := hide (alike_any (dep v) v v' _ _ B wq.drew (Nat.le_refl _) (IsV.mono (hdr.mono hBr) hp) (IsV.mono (hdr.mono hBr) hp') (by have := hdr.size; omega))
          have HE := hide (And.intro he hf)
          obtain ⟨R, hR⟩ : ∃ R, sameB v v' = R := ⟨_, rfl⟩
          rw [hR] at CR
          have HRR := hide hR
          clear hR hc hd hp hp' hv hv' he hf hdr
          go_upto_region 6 with fail
          go_cut [6] from 16 to 29 (fun r wx => r = .bool R ∧ Hid (Below wq.heap.size wq wx))
          case first =>
            go_region_held3 (fun w' => w'.cell? ⟨(a.add (i * 6)).block, (a.add (i * 6)).off + 1, none⟩ = some (.int .i64 x0) ∧ w'.cell? ⟨(a.add (i * 6)).block, (a.add (i * 6)).off + 2, none⟩ = some (.int .i64 x1) ∧ w'.cell? ⟨(a.add (i * 6)).block, (a.add (i * 6)).off + 3, none⟩ = some (.string x2) ∧ w'.cell? ⟨(a.add (i * 6)).block, (a.add (i * 6)).off + 4, none⟩ = some (.slice al' ll' cl') ∧ w'.cell? ⟨(a.add (i * 6)).block, (a.add (i * 6)).off + 5, none⟩ = some (.slice ak' m' ck') ∧ w'.cell? ⟨(a'.add (i * 6)).block, (a'.add (i * 6)).off + 1, none⟩ = some (.int .i64 y0) ∧ w'.cell? ⟨(a'.add (i * 6)).block, (a'.add (i * 6)).off + 2, none⟩ = some (.int .i64 y1) ∧ w'.cell? ⟨(a'.add (i * 6)).block, (a'.add (i * 6)).off + 3, none⟩ = some (.string y2) ∧ w'.cell? ⟨(a'.add (i * 6)).block, (a'.add (i * 6)).off + 4, none⟩ = some (.slice bl' lb' clb') ∧ w'.cell? ⟨(a'.add (i * 6)).block, (a'.add (i * 6)).off + 5, none⟩ = some (.slice bk' mb' ckb'))
              (first | go_keep | (have hb6 := below_drew_of' b5; exact ⟨cell_later hb6 c1, cell_later hb6 c2, cell_later hb6 c3, cell_later hb6 c4, cell_later hb6 c5, cell_later hb6 d1, cell_later hb6 d2, cell_later hb6 d3, cell_later hb6 d4, cell_later hb6 d5⟩))
              (first | (go_at_call 29; refine (unhide CR).mono ?_; rintro e w5 ⟨rfl, b5⟩))
            have HX5 : Hid (Below wq.heap.size wq w5) := hide (below_drew_of' b5)
            clear b5 CR
            go_wp2_with fail
            go_meet
            exact ⟨rfl, HX5⟩
          case rest =>
            obtain ⟨rfl, HX5⟩ := hcut
            have HY : Hid (Below w.heap.size w wc) := hide ((unhide HX).2.trans ((unhide HX5).mono (unhide HX).2.size))
            have c0' := cell_later (unhide HX5) c0
            have d0' := cell_later (unhide HX5) d0
            clear c0 c1 c2 c3 c4 c5 d0 d1 d2 d3 d4 d5 CR
            cases R with
            | false =>
              have HF : Hid (¬ es = fs) := hide (fun e => by
                obtain ⟨q1, q2⟩ := unhide HE
                rw [e, q2] at q1
                cases q1
                have := unhide HRR
                rw [(sameB_iff v v).2 rfl] at this
                cases this)
              go_upto_region 7 with fail
              go_quiet (fail)
              go_wp2_with fail
              go_ret
              exact ⟨false, rfl, ⟨(fun h => by cases h), fun h => absurd h (unhide HF)⟩, below_drewN (unhide HY) _⟩
            | true =>
              cases hbe : (s.toList == s'.toList) with
              | true =>
                have HR' : Hid (es.take (i + 1) = fs.take (i + 1)) := hide (by
                  obtain ⟨q1, q2⟩ := unhide HE
                  have e1 := (bytes_beq s s').1 hbe
                  have e2 := (sameB_iff v v').1 (unhide HRR)
                  subst e1 e2
                  exact take_next es fs i _ q1 q2 (unhide HR))
                go_upto_region 7 with fail
                go_quiet (fail)
                go_wp2_with fail
                go_roundw
                case rel => exact ⟨i + 1, by go_num, hide ⟨unhide HI1, below_drewN (unhide HY) _⟩, HR'⟩
                case measure => have := unhide HI1; simp [intOf]; omega
              | false =>
                have HF : Hid (¬ es = fs) := hide (fun e => by
                  obtain ⟨q1, q2⟩ := unhide HE
                  rw [e, q2] at q1
                  cases q1
                  rw [(bytes_beq s s).2 rfl] at hbe
                  cases hbe)
                go_upto_region 7 with fail
                go_quiet (fail)
                go_wp2_with fail
                go_ret
                exact ⟨false, rfl, ⟨(fun h => by cases h), fun h => absurd h (unhide HF)⟩, below_drewN (unhide HY) _⟩
      · have i1 : ¬ (i : Int) < (n : Int) := by omega
        have HF : Hid (es = fs) := hide (by
          have h := unhide HR
          obtain ⟨q1, q2⟩ := unhide HN
          rw [List.take_of_length_le (by omega), List.take_of_length_le (by omega)] at h
          exact h)
        have HY := hide (unhide HX).2
        go_wp2_with fail
        go_ret
        exact ⟨true, rfl, ⟨fun _ => unhide HF, fun _ => rfl⟩, unhide HY⟩
  · have HF : Hid (¬ es = fs) := hide (fun e => hnm (by obtain ⟨q1, q2⟩ := unhide HN; rw [← q1, ← q2, e]))
    have k1 : ¬ (n : Int) = (m : Int) := by omega
    have k2 : ((n : Int) == (m : Int)) = false := beq_eq_false_iff_ne.2 k1
    go_enter Try.func16, Try.ntmps16
    go_wp2_with fail
    go_ret
    exact ⟨false, rfl, ⟨(fun h => by cases h), fun h => absurd h (unhide HF)⟩, Below.refl _ _⟩
end Go.Proofs.Ytjhnbopejnpbeaa
