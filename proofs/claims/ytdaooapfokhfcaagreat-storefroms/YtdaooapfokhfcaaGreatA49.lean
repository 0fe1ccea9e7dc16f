/-
  The walk of same: are two values the same, the second one of few parts? no conditions but the form's own reach.
  The walk of sameEntries: are two rows the same? no conditions but the form's own reach.
-/
import Derived.Test.YtdaooapfokhfcaaGreatA19
import Derived.Test.YtdaooapfokhfcaaGreatA32
import Derived.Test.YtdaooapfokhfcaaGreatA09
import Derived.BigQuiet
namespace Go.Proofs.YtdaooapfokhfcaaGreat
open Go.RowKit

/-- the same, or not looked at -/
def smB (a b : Vl) : Bool := !(fewB b) || sameB a b

set_option maxRecDepth 100000 in
set_option maxHeartbeats 400000 in
theorem same_any (v v' : Vl) (x x' : Value) (B : Nat) (w : World) (hv : IsV w B v x) (hv' : IsV w B v' x') (hBs : B ≤ w.heap.size) :
    Calls Tryz.prog 21 #[x, x'] w fun e w' => e = .returned (.bool (smB v v')) ∧ Below w.heap.size w w' := by
  obtain ⟨k, n, s, l, ks, al, ak, cl, ck, hvv, hx⟩ := hv.shape
  clear hvv
  obtain ⟨k', n', s', l', ks', al', ak', cl', ck', hvv', hx'⟩ := hv'.shape
  clear hvv'
  obtain ⟨m, hm⟩ : ∃ m, ks.length = m := ⟨_, rfl⟩
  obtain ⟨ln, hln⟩ : ∃ ln, l.length = ln := ⟨_, rfl⟩
  obtain ⟨m', hm'⟩ : ∃ m', ks'.length = m' := ⟨_, rfl⟩
  obtain ⟨ln', hln'⟩ : ∃ ln', l'.length = ln' := ⟨_, rfl⟩
  rw [hm, hln] at hx
  rw [hm', hln'] at hx'
  subst hx
  subst hx'
  have TW := Two.mk' w 32 #[.int .i64 k, .int .i64 n, .string s, .slice al ln cl, .slice ak m ck] #[.int .i64 k', .int .i64 n', .string s', .slice al' ln' cl', .slice ak' m' ck']
  obtain ⟨w2, hw2⟩ : ∃ w2, (w.alloc (.cells #[.int .i64 k, .int .i64 n, .string s, .slice al ln cl, .slice ak m ck] 32)).alloc (.cells #[.int .i64 k', .int .i64 n', .string s', .slice al' ln' cl', .slice ak' m' ck'] 32) = w2 := ⟨_, rfl⟩
  rw [hw2] at TW
  obtain ⟨g, hg⟩ : ∃ g, w.heap.size = g := ⟨_, rfl⟩
  rw [hg] at TW
  have HT := hide TW
  have HV : Hid (∀ u, Below w2.heap.size w2 u → IsV u B v (.agg #[.int .i64 k, .int .i64 n, .string s, .slice al ln cl, .slice ak m ck]) ∧ IsV u B v' (.agg #[.int .i64 k', .int .i64 n', .string s', .slice al' ln' cl', .slice ak' m' ck']) ∧ B ≤ u.heap.size) :=
    hide (fun u hu => by
      have h1 : Below B w u := (TW.below.mono (by omega)).trans (hu.mono (by have := TW.size; omega))
      exact ⟨hv.mono h1, hv'.mono h1, by have := hu.size; have := TW.size; omega⟩)
  have HB : Hid (∀ u, Below w2.heap.size w2 u → Below w.heap.size w u) := hide (fun u hu => TW.below.trans (hu.mono (by have := TW.size; omega)))
  clear TW hv hv' hm hln hm' hln'
  have CF := fun u hu => hide (few_any v' _ B u (unhide HV u hu).2.1 (unhide HV u hu).2.2)
  have CA := fun u hu => hide (alike_any (dep v) v v' _ _ B u (Nat.le_refl _) (unhide HV u hu).1 (unhide HV u hu).2.1 (unhide HV u hu).2.2)
  have X0 : Hid (Below w2.heap.size w2 w2) := hide (Below.refl _ _)
  obtain ⟨r0, r1⟩ := (unhide HT).later (unhide X0)
  obtain ⟨c0, c1, c2, c3, c4⟩ := row_cell r0
  obtain ⟨d0, d1, d2, d3, d4⟩ := row_cell r1
  clear r0 r1
  cases hR : fewB v' with
  | false =>
    have HG : Hid (smB v v' = true) := hide (by simp [smB, hR])
    rw [hR] at CF
    clear hR CA
    go_enter Tryz.func21, Tryz.ntmps21
    go_wp2_with fail
    refine (unhide (CF w2 (unhide X0))).mono ?_
    rintro e u1 ⟨rfl, b1⟩
    have X1 : Hid (Below w2.heap.size w2 u1) := hide ((unhide X0).trans (b1.mono (unhide X0).size))
    clear c0 c1 c2 c3 c4 d0 d1 d2 d3 d4
    obtain ⟨r0, r1⟩ := (unhide HT).later (unhide X1)
    obtain ⟨c0, c1, c2, c3, c4⟩ := row_cell r0
    obtain ⟨d0, d1, d2, d3, d4⟩ := row_cell r1
    clear r0 r1
    clear b1
    go_wp2_with fail
    go_ret
    exact ⟨by rw [unhide HG]; rfl, by first | exact unhide HB _ (unhide X1) | (rw [← hg]; exact unhide HB _ (unhide X1))⟩
  | true =>
    have HG : Hid (smB v v' = sameB v v') := hide (by simp [smB, hR])
    rw [hR] at CF
    obtain ⟨R, hRR⟩ : ∃ R, sameB v v' = R := ⟨_, rfl⟩
    rw [hRR] at CA HG
    clear hR hRR
    go_enter Tryz.func21, Tryz.ntmps21
    go_wp2_with fail
    refine (unhide (CF w2 (unhide X0))).mono ?_
    rintro e u1 ⟨rfl, b1⟩
    have X1 : Hid (Below w2.heap.size w2 u1) := hide ((unhide X0).trans (b1.mono (unhide X0).size))
    clear c0 c1 c2 c3 c4 d0 d1 d2 d3 d4
    obtain ⟨r0, r1⟩ := (unhide HT).later (unhide X1)
    obtain ⟨c0, c1, c2, c3, c4⟩ := row_cell r0
    obtain ⟨d0, d1, d2, d3, d4⟩ := row_cell r1
    clear r0 r1
    clear b1
    go_wp2_with fail
    refine (unhide (CA u1 (unhide X1))).mono ?_
    rintro e u2 ⟨rfl, b2⟩
    have X2 : Hid (Below w2.heap.size w2 u2) := hide ((unhide X1).trans (b2.mono (unhide X1).size))
    clear c0 c1 c2 c3 c4 d0 d1 d2 d3 d4
    obtain ⟨r0, r1⟩ := (unhide HT).later (unhide X2)
    obtain ⟨c0, c1, c2, c3, c4⟩ := row_cell r0
    obtain ⟨d0, d1, d2, d3, d4⟩ := row_cell r1
    clear r0 r1
    clear b2
    go_wp2_with fail
    go_ret
    exact ⟨by rw [unhide HG]; rfl, by first | exact unhide HB _ (unhide X2) | (rw [← hg]; exact unhide HB _ (unhide X2))⟩
end Go.Proofs.YtdaooapfokhfcaaGreat

namespace Go.Proofs.YtdaooapfokhfcaaGreat
open Go.RowKit

/-- the same entries, as far as their values have few parts -/
def smP (es fs : List En) : Prop := es.length = fs.length ∧ ∀ (i : Nat) (p q : En), es[i]? = some p → fs[i]? = some q → p.1 = q.1 ∧ smB p.2 q.2 = true

theorem smP_refl (es : List En) : smP es es := ⟨rfl, fun i p q hp hq => by
  rw [hp] at hq
  cases hq
  refine ⟨rfl, ?_⟩
  unfold smB
  rw [(sameB_iff p.2 p.2).2 rfl, Bool.or_true]⟩

theorem smP_few {es fs : List En} (h : ∀ q ∈ fs, fewB q.2 = true) : smP es fs ↔ es = fs := by
  constructor
  · intro hs
    apply List.ext_getElem hs.1
    intro i h1 h2
    obtain ⟨e1, e2⟩ := hs.2 i es[i] fs[i] (List.getElem?_eq_getElem h1) (List.getElem?_eq_getElem h2)
    unfold smB at e2
    rw [h _ (List.getElem_mem h2), Bool.not_true, Bool.false_or] at e2
    exact Prod.ext e1 ((sameB_iff _ _).1 e2)
  · intro e
    rw [e]
    exact smP_refl fs

def ResEq (es fs : List En) (w : World) (e : Ending) (w' : World) : Prop := ∃ r, e = .returned (.bool r) ∧ (r = true ↔ smP es fs) ∧ Below w.heap.size w w'

set_option maxRecDepth 100000 in
set_option maxHeartbeats 1000000 in
theorem sameEn_any (es fs : List En) (al bl : Option Addr) (n m ca cb B : Nat) (w : World) (hn : es.length = n) (hm : fs.length = m) (h : IsE w (fun b => b < B) es al ca) (h' : IsE w (fun b => b < B) fs bl cb) (hB : B ≤ w.heap.size) :
    Calls Tryz.prog 13 #[.slice al n ca, .slice bl m cb] w fun e w' => ResEq es fs w e w' := by
  have hl := h.len
  have hl' := h'.len
  rw [hn] at hl
  rw [hm] at hl'
  have HV : Hid (∀ u, Below w.heap.size w u → IsE u (fun b => b < B) es al ca ∧ IsE u (fun b => b < B) fs bl cb) := hide (fun u hu => ⟨h.later (hu.mono hB), h'.later (hu.mono hB)⟩)
  have HN := hide (And.intro hn hm)
  clear h h' hn hm
  by_cases hnm : n = m
  · subst hnm
    go_enter Tryz.func13, Tryz.ntmps13
    go_wp2_with fail
    go_loopw [5] (fun x wr => ∃ (i : Nat), x = .int .i64 (i : Int) ∧ Hid (i ≤ n ∧ Below w.heap.size w wr) ∧ Hid (∀ (j : Nat) (p q : En), j < i → es[j]? = some p → fs[j]? = some q → p.1 = q.1 ∧ smB p.2 q.2 = true)) (fun x _ => n - (intOf x).toNat)
    case atStart => exact ⟨0, rfl, hide ⟨by omega, Below.refl _ _⟩, hide (fun j p q hj => by omega)⟩
    case round =>
      obtain ⟨i, rfl, HX, HR⟩ := hrel
      obtain ⟨wq, hwq⟩ : ∃ wq, wq = wr := ⟨_, rfl⟩
      subst hwq
      by_cases hlt : i < n
      · have i1 : (i : Int) < (n : Int) := by omega
        have HI1 : Hid (i + 1 ≤ n) := hide (by omega)
        obtain ⟨⟨s, v⟩, he⟩ : ∃ e, es[i]? = some e := ⟨_, List.getElem?_eq_getElem (by have := unhide HN; omega)⟩
        obtain ⟨⟨s', v'⟩, hf⟩ : ∃ e, fs[i]? = some e := ⟨_, List.getElem?_eq_getElem (by have := unhide HN; omega)⟩
        obtain ⟨hv, hv'⟩ := unhide HV wq (unhide HX).2
        obtain ⟨a, x0, x1, x2, al', ak', ll', m', cl', ck', rfl, _, _, hc, hp⟩ := hv.elem i _ he
        obtain ⟨a', y0, y1, y2, bl', bk', lb', mb', clb', ckb', rfl, _, _, hd, hp'⟩ := hv'.elem i _ hf
        dsimp only at hc hp hd hp'
        focus
          have c0 : wq.cell? (a.add (i * 6)) = some (.string s) := hc 0 _ rfl
          have c1 : wq.cell? ⟨(a.add (i * 6)).block, (a.add (i * 6)).off + 1, none⟩ = some (.int .i64 x0) := hc 1 _ rfl
          have c2 : wq.cell? ⟨(a.add (i * 6)).block, (a.add (i * 6)).off + 2, none⟩ = some (.int .i64 x1) := hc 2 _ rfl
          have c3 : wq.cell? ⟨(a.add (i * 6)).block, (a.add (i * 6)).off + 3, none⟩ = some (.string x2) := hc 3 _ rfl
          have c4 : wq.cell? ⟨(a.add (i * 6)).block, (a.add (i * 6)).off + 4, none⟩ = some (.slice al' ll' cl') := hc 4 _ rfl
          have c5 : wq.cell? ⟨(a.add (i * 6)).block, (a.add (i * 6)).off + 5, none⟩ = some (.slice ak' m' ck') := hc 5 _ rfl
          have d0 : wq.cell? (a'.add (i * 6)) = some (.string s') := hd 0 _ rfl
          have d1 : wq.cell? ⟨(a'.add (i * 6)).block, (a'.add (i * 6)).off + 1, none⟩ = some (.int .i64 y0) := hd 1 _ rfl
          have d2 : wq.cell? ⟨(a'.add (i * 6)).block, (a'.add (i * 6)).off + 2, none⟩ = some (.int .i64 y1) := hd 2 _ rfl
          have d3 : wq.cell? ⟨(a'.add (i * 6)).block, (a'.add (i * 6)).off + 3, none⟩ = some (.string y2) := hd 3 _ rfl
          have d4 : wq.cell? ⟨(a'.add (i * 6)).block, (a'.add (i * 6)).off + 4, none⟩ = some (.slice bl' lb' clb') := hd 4 _ rfl
          have d5 : wq.cell? ⟨(a'.add (i * 6)).block, (a'.add (i * 6)).off + 5, none⟩ = some (.slice bk' mb' ckb') := hd 5 _ rfl
          have hBr : B ≤ wq.heap.size := Nat.le_trans hB (unhide HX).2.size
          have hdr : Below wq.heap.size wq wq.drew := (Below.refl _ _).drew
          have CR := hide (same_any v v' _ _ B wq.drew (IsV.mono (hdr.mono hBr) hp) (IsV.mono (hdr.mono hBr) hp') (by have := hdr.size; omega))
          have HE := hide (And.intro he hf)
          obtain ⟨R, hR⟩ : ∃ R, smB v v' = R := ⟨_, rfl⟩
          rw [hR] at CR
          have HRR := hide hR
          clear hR hc hd hp hp' hv hv' he hf hdr
          go_upto_region 6 with fail
          go_cut [6] from 16 to 29 (fun r wx => r = .bool R ∧ Hid (Below wq.heap.size wq wx))
          case first =>
            go_region_held3 (fun w' => w'.cell? ⟨(a.add (i * 6)).block, (a.add (i * 6)).off + 1, none⟩ = some (.int .i64 x0) ∧ w'.cell? ⟨(a.add (i * 6)).block, (a.add (i * 6)).off + 2, none⟩ = some (.int .i64 x1) ∧ w'.cell? ⟨(a.add (i * 6)).block, (a.add (i * 6)).off + 3, none⟩ = some (.string x2) ∧ w'.cell? ⟨(a.add (i * 6)).block, (a.add (i * 6)).off + 4, none⟩ = some (.slice al' ll' cl') ∧ w'.cell? ⟨(a.add (i * 6)).block, (a.add (i * 6)).off + 5, none⟩ = some (.slice ak' m' ck') ∧ w'.cell? ⟨(a'.add (i * 6)).block, (a'.add (i * 6)).off + 1, none⟩ = some (.int .i64 y0) ∧ w'.cell? ⟨(a'.add (i * 6)).block, (a'.add (i * 6)).off + 2, none⟩ = some (.int .i64 y1) ∧ w'.cell? ⟨(a'.add (i * 6)).block, (a'.add (i * 6)).off + 3, none⟩ = some (.string y2) ∧ w'.cell? ⟨(a'.add (i * 6)).block, (a'.add (i * 6)).off + 4, none⟩ = some (.slice bl' lb' clb') ∧ w'.cell? ⟨(a'.add (i * 6)).block, (a'.add (i * 6)).off + 5, none⟩ = some (.slice bk' mb' ckb'))
              (first | go_keep | (have hb6 := below_drew_of' b5; exact ⟨cell_later hb6 c1, cell_later hb6 c2, cell_later hb6 c3, cell_later hb6 c4, cell_later hb6 c5, cell_later hb6 d1, cell_later hb6 d2, cell_later hb6 d3, cell_later hb6 d4, cell_later hb6 d5⟩))
              (first | (go_at_call 21; refine (unhide CR).mono ?_; rintro e w5 ⟨rfl, b5⟩))
            have HX5 : Hid (Below wq.heap.size wq w5) := hide (below_drew_of' b5)
            clear b5 CR
            go_wp2_with fail
            go_meet
            exact ⟨rfl, HX5⟩
          case rest =>
            obtain ⟨rfl, HX5⟩ := hcut
            have HY : Hid (Below w.heap.size w wc) := hide ((unhide HX).2.trans ((unhide HX5).mono (unhide HX).2.size))
            have c0' := cell_later (unhide HX5) c0
            have d0' := cell_later (unhide HX5) d0
            clear c0 c1 c2 c3 c4 c5 d0 d1 d2 d3 d4 d5 CR
            cases hbe : (s.toList == s'.toList) with
            | false =>
              have HF : Hid (¬ smP es fs) := hide (fun e => by
                obtain ⟨q1, q2⟩ := unhide HE
                have h2 : s = s' := (e.2 i _ _ q1 q2).1
                rw [(bytes_beq s s').2 h2] at hbe
                cases hbe)
              go_upto_region 7 with fail
              go_quiet (fail)
              go_wp2_with fail
              go_ret
              exact ⟨false, rfl, ⟨(fun h => by cases h), fun h => absurd h (unhide HF)⟩, below_drewN (unhide HY) _⟩
            | true =>
              cases R with
              | false =>
                have HF : Hid (¬ smP es fs) := hide (fun e => by
                  obtain ⟨q1, q2⟩ := unhide HE
                  have h2 := (e.2 i _ _ q1 q2).2
                  dsimp only at h2
                  rw [unhide HRR] at h2
                  cases h2)
                go_upto_region 7 with fail
                go_quiet (fail)
                go_wp2_with fail
                go_ret
                exact ⟨false, rfl, ⟨(fun h => by cases h), fun h => absurd h (unhide HF)⟩, below_drewN (unhide HY) _⟩
              | true =>
                have HR' : Hid (∀ (j : Nat) (p q : En), j < i + 1 → es[j]? = some p → fs[j]? = some q → p.1 = q.1 ∧ smB p.2 q.2 = true) := hide (fun j p q hj hp hq => by
                  obtain ⟨q1, q2⟩ := unhide HE
                  by_cases hji : j = i
                  · subst hji
                    rw [q1] at hp
                    rw [q2] at hq
                    cases hp
                    cases hq
                    exact ⟨(bytes_beq s s').1 hbe, unhide HRR⟩
                  · exact unhide HR j p q (by omega) hp hq)
                go_upto_region 7 with fail
                go_quiet (fail)
                go_wp2_with fail
                go_roundw
                case rel => exact ⟨i + 1, by go_num, hide ⟨unhide HI1, below_drewN (unhide HY) _⟩, HR'⟩
                case measure => have := unhide HI1; simp [intOf]; omega
      · have i1 : ¬ (i : Int) < (n : Int) := by omega
        have HF : Hid (smP es fs) := hide (by
          obtain ⟨q1, q2⟩ := unhide HN
          refine ⟨by omega, fun j p q hp hq => unhide HR j p q ?_ hp hq⟩
          have := (List.getElem?_eq_some_iff.1 hp).1
          omega)
        have HY := hide (unhide HX).2
        go_wp2_with fail
        go_ret
        exact ⟨true, rfl, ⟨fun _ => unhide HF, fun _ => rfl⟩, unhide HY⟩
  · have HF : Hid (¬ smP es fs) := hide (fun e => hnm (by obtain ⟨q1, q2⟩ := unhide HN; rw [← q1, ← q2]; exact e.1))
    have k1 : ¬ (n : Int) = (m : Int) := by omega
    have k2 : ((n : Int) == (m : Int)) = false := beq_eq_false_iff_ne.2 k1
    go_enter Tryz.func13, Tryz.ntmps13
    go_wp2_with fail
    go_ret
    exact ⟨false, rfl, ⟨(fun h => by cases h), fun h => absurd h (unhide HF)⟩, Below.refl _ _⟩
end Go.Proofs.YtdaooapfokhfcaaGreat
