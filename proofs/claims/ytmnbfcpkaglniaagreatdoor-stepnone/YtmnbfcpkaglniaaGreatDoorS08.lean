/-
  The walk of the closure by which it is asked what is right (it calls itself), and of measure: a value's weight and depth; no conditions but the form's own reach.
-/
import Derived.Test.YtmnbfcpkaglniaaGreatDoorS07
import Derived.Deep.RegionHeld3
import Derived.BigRegion
import Derived.Deep.RegionWith
import Derived.Deep.CutRange
set_option linter.unusedVariables false
set_option linter.unusedSimpArgs false
namespace Go.Proofs.YtmnbfcpkaglniaaGreatDoor
open Go.RowKit
/-- what the closure has in hand: the depth, the weight, itself -/
structure St (w : World) (gd gw gr : Nat) (d s : Int) : Prop where
  dep : w.heap[gd]? = some (.cells #[.int .i64 d] 3 (0, 0))
  wgt : w.heap[gw]? = some (.cells #[.int .i64 s] 3 (0, 0))
  fn : w.heap[gr]? = some (.cells #[.func (.func 112) #[] #[.pointer (some ⟨gd, 0, none⟩), .pointer (some ⟨gw, 0, none⟩), .pointer (some ⟨gr, 0, none⟩)]] 188 (0, 0))
/-- where these lie -/
structure Pl (w : World) (B gd gw gr : Nat) : Prop where
  bd : B ≤ gd
  bw : B ≤ gw
  br : B ≤ gr
  dw : gd ≠ gw
  dr : gd ≠ gr
  wr : gw ≠ gr
  dl : gd < w.heap.size
  wl : gw < w.heap.size
  rl : gr < w.heap.size
theorem Pl.later {w w' : World} {B gd gw gr : Nat} (h : Pl w B gd gw gr) (hs : w.heap.size ≤ w'.heap.size) : Pl w' B gd gw gr :=
  ⟨h.bd, h.bw, h.br, h.dw, h.dr, h.wr, Nat.lt_of_lt_of_le h.dl hs, Nat.lt_of_lt_of_le h.wl hs, Nat.lt_of_lt_of_le h.rl hs⟩
theorem one_cell {w : World} {g : Nat} {v : Value} {T : TypeId} (h : w.heap[g]? = some (.cells #[v] T (0, 0))) : w.cell? ⟨g, 0, none⟩ = some v ∧ w.frozen? ⟨g, 0, none⟩ = false :=
  ⟨by rw [cell_of_row w g 0 _ T (0, 0) h]; rfl, frozen_of_row w g 0 _ T h⟩
theorem St.keep {w w' : World} {gd gw gr : Nat} {d s : Int} {B : Nat} (h : St w gd gw gr d s) (p : Pl w B gd gw gr) (hb : Below w.heap.size w w') : St w' gd gw gr d s :=
  ⟨(hb.block _ p.dl).trans h.dep, (hb.block _ p.wl).trans h.wgt, (hb.block _ p.rl).trans h.fn⟩
theorem St.setD {w : World} {gd gw gr : Nat} {d s : Int} {B : Nat} (h : St w gd gw gr d s) (p : Pl w B gd gw gr) (d' : Int) : St (w.setCell ⟨gd, 0, none⟩ (.int .i64 d')) gd gw gr d' s :=
  ⟨by rw [heap_setCell_same w gd 0 _ _ _ h.dep]; rfl, by rw [heap_setCell_other _ _ _ _ (by simpa using p.dw.symm)]; exact h.wgt, by rw [heap_setCell_other _ _ _ _ (by simpa using p.dr.symm)]; exact h.fn⟩
theorem St.setW {w : World} {gd gw gr : Nat} {d s : Int} {B : Nat} (h : St w gd gw gr d s) (p : Pl w B gd gw gr) (s' : Int) : St (w.setCell ⟨gw, 0, none⟩ (.int .i64 s')) gd gw gr d s' :=
  ⟨by rw [heap_setCell_other _ _ _ _ (by simpa using p.dw)]; exact h.dep, by rw [heap_setCell_same w gw 0 _ _ _ h.wgt]; rfl, by rw [heap_setCell_other _ _ _ _ (by simpa using p.wr.symm)]; exact h.fn⟩
theorem below_drew_of' {w w' : World} (h : Below w.drew.heap.size w.drew w') : Below w.heap.size w w' := ⟨h.os, h.tape, h.output, h.size, h.block⟩
theorem lt_of_row {w : World} {g : Nat} {c : Array Value} {T : TypeId} {f : Nat × Nat} (h : w.heap[g]? = some (.cells c T f)) : g < w.heap.size := (Array.getElem?_eq_some_iff.1 h).1
/-- what a call of the closure does -/
def RightAt (b : Nat) : Prop := ∀ (v : Vl) (x : Value) (level s d B gd gw gr : Nat) (w : World), level + b = 9 → 1 ≤ level → IsV w B v x → B ≤ w.heap.size → Pl w B gd gw gr → St w gd gw gr (d : Int) (s : Int) → s ≤ 2048 →
  Calls Tryz.prog 112 #[x, .int .i64 (level : Int), .pointer (some ⟨gd, 0, none⟩), .pointer (some ⟨gw, 0, none⟩), .pointer (some ⟨gr, 0, none⟩)] w fun e w' =>
    ∃ (d' s' : Int), e = .returned (.bool (okB b v && decide (s + wt v ≤ 2048))) ∧ St w' gd gw gr d' s' ∧ Below B w w' ∧ ((okB b v && decide (s + wt v ≤ 2048)) = true → s' = ((s + wt v : Nat) : Int) ∧ d' = ((max d (level - 1 + dep v) : Nat) : Int))
set_option maxRecDepth 100000 in
set_option maxHeartbeats 400000 in
theorem right_zero : RightAt 0 := by
  intro v x level s d B gd gw gr w hlb hl hv hBs hp hst hs
  obtain ⟨kind, n, t, l, ks, al, ak, cl, ck, V, rfl, rfl, ⟨bk, bn, bs, nl, nk, ll, lk, bl, bc, bq, hl', hv', hk, bt⟩, el⟩ := hv.inv
  clear hv
  focus
    obtain ⟨m, hm⟩ : ∃ m, ks.length = m := ⟨_, rfl⟩
    obtain ⟨ln, hln⟩ : ∃ ln, l.length = ln := ⟨_, rfl⟩
    obtain ⟨w1, hw1⟩ : ∃ w1, w.alloc (.cells #[.int .i64 kind, .int .i64 n, .string t, .slice al ln cl, .slice ak m ck] 29) = w1 := ⟨_, rfl⟩
    have BX := Box.mk' w (.int .i64 kind) (.int .i64 n) (.string t) (.slice al ln cl) (.slice ak m ck)
    rw [hw1] at BX
    have H := hide (And.intro hp (And.intro hst (And.intro BX hBs)))
    obtain rfl : level = 9 := by omega
    rw [hm, hln]
    clear hp hst BX hBs hs hlb hl hl' hv' hk bt el bl bc bq ll lk nl nk
    go_enter Tryz.func112, Tryz.ntmps112
    go_wp2_with fail
    go_ret
    obtain ⟨hp, hst, BX, hBs⟩ := unhide H
    exact ⟨_, _, rfl, hst.keep hp BX.below, BX.below.mono hBs, fun h => by cases h⟩
theorem keys32 : ∀ (p : Option ByteArray) (ks : List ByteArray), risingFrom p ks = true → ∀ t ∈ ks, t.size ≤ 32
  | _, [], _, _, ht => by cases ht
  | p, u :: r, h, t, ht => by
    simp only [risingFrom, Bool.and_eq_true, decide_eq_true_eq] at h
    rcases List.mem_cons.1 ht with rfl | ht
    · exact h.1.1
    · exact keys32 (some u) r h.2 t ht
theorem form_keys {kind n : Int} {s : ByteArray} {ll : Nat} {ks : List ByteArray} (h : formB kind n s ll ks = true) : ∀ t ∈ ks, t.size ≤ 32 := by
  unfold formB formM at h
  have nil : ks.length = 0 → ∀ t ∈ ks, t.size ≤ 32 := fun h0 t ht => by
    rw [List.eq_nil_of_length_eq_zero h0] at ht
    cases ht
  repeat' split at h
  all_goals try simp only [Bool.and_eq_true, decide_eq_true_eq] at h
  · exact nil h.2
  · exact nil h.2
  · exact nil h.2
  · exact nil h.2
  · exact nil h.2
  · exact keys32 none ks h.2
  · cases h
theorem IsV.keys {w : World} {B : Nat} {kind n : Int} {s : ByteArray} {l : List Vl} {ks : List ByteArray} {al ak : Option Addr} {ll m cl ck : Nat} (h : IsV w B (.mk kind n s l ks) (.agg #[.int .i64 kind, .int .i64 n, .string s, .slice al ll cl, .slice ak m ck])) : IsK w ks ak ck ∧ ll = l.length ∧ m = ks.length := by
  obtain ⟨_, _, _, h1, h2, V, hf, _⟩ := IsP.at h
  exact ⟨⟨fun e => (hf.nk e).1, hf.lk, hf.bc, fun a ha i u hu => (hf.hk a ha i u hu).2, hf.bt⟩, h1, h2⟩
theorem IsV.elem {w : World} {B : Nat} {kind n : Int} {s : ByteArray} {l : List Vl} {ks : List ByteArray} {al ak : Option Addr} {ll m cl ck : Nat} (h : IsV w B (.mk kind n s l ks) (.agg #[.int .i64 kind, .int .i64 n, .string s, .slice al ll cl, .slice ak m ck])) (i : Nat) (y : Vl) (hy : l[i]? = some y) :
    ∃ (a : Addr) (x0 x1 : Int) (x2 : ByteArray) (al' ak' : Option Addr) (ll' m' cl' ck' : Nat), al = some a ∧ a.block < B ∧ (∀ j v, [Value.int .i64 x0, .int .i64 x1, .string x2, .slice al' ll' cl', .slice ak' m' ck'][j]? = some v → w.cell? ((a.add (i * 5)).add j) = some v) ∧ IsV w B y (.agg #[.int .i64 x0, .int .i64 x1, .string x2, .slice al' ll' cl', .slice ak' m' ck']) := by
  obtain ⟨_, _, _, h1, h2, V, ⟨bk, bn, bs, nl, nk, ll', lk, bl, bc, bq, hl', hv', hk, bt⟩, el⟩ := IsP.at h
  focus
    have hi : i < l.length := (List.getElem?_eq_some_iff.1 hy).1
    cases al with
    | none => have := (nl rfl).1; omega
    | some a =>
      have he := el i y hy
      have hc := (hl' a rfl i hi).2
      obtain ⟨k', n', s', l', ks', al', ak', cl', ck', hy', hx⟩ := he.shape
      have hVi : V i = [.int .i64 k', .int .i64 n', .string s', .slice al' l'.length cl', .slice ak' ks'.length ck'] := by
        have h1 := Value.agg.inj hx
        have h2 := congrArg Array.toList h1
        simpa using h2
      rw [hVi] at hc he
      exact ⟨a, k', n', s', al', ak', l'.length, ks'.length, cl', ck', rfl, (hl' a rfl i hi).1, hc, he⟩
set_option maxRecDepth 100000 in
set_option maxHeartbeats 800000 in
theorem right_step (b : Nat) (ih : RightAt b) : RightAt (b + 1) := by
  intro v x level s d B gd gw gr w hlb hl hv hBs hp hst hs
  have hvw := hv
  obtain ⟨kind, n, t, l, ks, al, ak, cl, ck, V, rfl, rfl, ⟨bk, bn, bs, nl, nk, ll, lk, bl, bc, bq, hl', hv', hk, bt⟩, el⟩ := hv.inv
  clear hv
  focus
    obtain ⟨m, hm⟩ : ∃ m, ks.length = m := ⟨_, rfl⟩
    obtain ⟨ln, hln⟩ : ∃ ln, l.length = ln := ⟨_, rfl⟩
    obtain ⟨w1, hw1⟩ : ∃ w1, w.alloc (.cells #[.int .i64 kind, .int .i64 n, .string t, .slice al ln cl, .slice ak m ck] 29) = w1 := ⟨_, rfl⟩
    have BX := Box.mk' w (.int .i64 kind) (.int .i64 n) (.string t) (.slice al ln cl) (.slice ak m ck)
    rw [hw1] at BX
    obtain ⟨c0, c1, c2, c3, c4⟩ := row_cell BX.row
    have hik : IsK w ks ak ck := ⟨fun e => (nk e).1, lk, bc, fun a ha i u hu => (hk a ha i u hu).2, bt⟩
    have CF := hide (formed_any kind n t ln ks al ak cl ck w1 (hik.mono BX.below) (by omega))
    obtain ⟨F, hF⟩ : ∃ F, formB kind n t ln ks = F := ⟨_, rfl⟩
    obtain ⟨g, hg⟩ : ∃ g, w.heap.size = g := ⟨_, rfl⟩
    rw [hm, hF] at CF
    have H := hide (And.intro hp (And.intro hst (And.intro BX (And.intro hBs (And.intro hik hvw)))))
    have HK := hide (And.intro hm (And.intro hln (And.intro hF hg)))
    have l1 : ¬ (8 : Int) < (level : Int) := by omega
    have hs1 := (unhide H).2.2.1.size
    have hlnb : ln ≤ 140737488351232 := by omega
    rw [hg] at c0 c1 c2 c3 c4
    rw [hm, hln]
    have hoks : okB (b + 1) (.mk kind n t l ks) = (F && okL b l) := by simp only [okB]; rw [hln, hF]
    have HOK := hide hoks
    clear hp hst BX hBs hik hvw hl' hv' hk el nl nk ll lk bl bt hoks
    cases F with
    | false =>
      go_enter Tryz.func112, Tryz.ntmps112
      go_wp2_with fail
      refine (unhide CF).mono ?_
      rintro e w2 ⟨rfl, b2⟩
      have B2 := hide b2
      clear b2
      go_wp2_with fail
      go_ret
      obtain ⟨hp, hst, BX, hBs, _⟩ := unhide H
      have hb := BX.below.trans ((unhide B2).mono (by have := BX.size; omega))
      refine ⟨_, _, ?_, hst.keep hp hb, hb.mono hBs, fun h => ?_⟩
      · rw [unhide HOK]; rfl
      · rw [unhide HOK] at h; cases h
    | true =>
      have hk32 := form_keys (unhide HK).2.2.1
      have CAL := fun u (hu : IsK u ks ak ck) => hide (alone_any kind n t ln ks al ak cl ck u hu bs hk32)
      obtain ⟨A, hA⟩ : ∃ A, 1 + t.size + keysW ks = A := ⟨_, rfl⟩
      rw [hm, hA] at CAL
      have HA : Hid (1 + t.size + keysW ks = A ∧ A ≤ 5000000000000000) := hide ⟨hA, by
        have h1 := keysW_le ks hk32
        have h2 := (unhide H).2.2.2.2.1.len
        omega⟩
      clear hA hk32
      go_enter Tryz.func112, Tryz.ntmps112
      go_wp2_with fail
      refine (unhide CF).mono ?_
      rintro e w2 ⟨rfl, b2⟩
      have B2 := hide b2
      have P2 : Hid (Pl w2 B gd gw gr) := hide ((unhide H).1.later (by have := b2.size; omega))
      have S2 : Hid (St w2 gd gw gr (d : Int) (s : Int)) := hide ((unhide H).2.1.keep (unhide H).1 ((unhide H).2.2.1.below.trans (b2.mono (by omega))))
      have X2 : Hid (Below B w w2) := hide (((unhide H).2.2.1.below.trans (b2.mono (by omega))).mono (unhide H).2.2.2.1)
      have R2 : Hid (w2.heap[g]? = some (.cells #[.int .i64 kind, .int .i64 n, .string t, .slice al ln cl, .slice ak m ck] 29 (0, 0))) := hide ((b2.block g (by omega)).trans (by rw [← hg]; exact (unhide H).2.2.1.row))
      have dl := (unhide P2).dl
      obtain ⟨q0, f0⟩ := one_cell (unhide S2).dep
      clear b2 CF
      go_upto_region 4 with fail
      have hmx : (if d < level then (level : Int) else (d : Int)) = ((max d level : Nat) : Int) := by split <;> omega
      have hmx2 : (max (d : Int) (level : Int)) = ((max d level : Nat) : Int) := by omega
      first | rw [hmx] | rw [hmx2]
      obtain ⟨d1, hd1⟩ : ∃ d1, max d level = d1 := ⟨_, rfl⟩
      rw [hd1]
      obtain ⟨w3, hw3⟩ : ∃ w3, w2.setCell ⟨gd, 0, none⟩ (.int .i64 (d1 : Int)) = w3 := ⟨_, rfl⟩
      rw [hw3]
      have gdl := (unhide H).1.dl
      have S3 : Hid (St w3 gd gw gr (d1 : Int) (s : Int)) := hide (by rw [← hw3]; exact (unhide S2).setD (unhide P2) _)
      have P3 : Hid (Pl w3 B gd gw gr) := hide (by rw [← hw3]; exact (unhide P2).later (by simp))
      have X3 : Hid (Below B w w3) := hide (by rw [← hw3]; exact (unhide X2).setCell (p := ⟨gd, 0, none⟩) (unhide P2).bd _)
      have R3 : Hid (w3.heap[g]? = some (.cells #[.int .i64 kind, .int .i64 n, .string t, .slice al ln cl, .slice ak m ck] 29 (0, 0))) := hide (by rw [← hw3, heap_setCell_other _ _ _ _ (by simp; omega)]; exact unhide R2)
      have HD1 := hide hd1
      clear S2 P2 X2 R2 q0 f0 B2 hmx hmx2 hd1 c0 c1 c2 c3 c4 hw3 hw1
      have IK3 : Hid (IsK w3 ks ak ck) := hide ((unhide H).2.2.2.2.2.mono (unhide X3)).keys.1
      have gwl := (unhide P3).wl
      have gwl0 := (unhide H).1.wl
      obtain ⟨q1, f1⟩ := one_cell (unhide S3).wgt
      obtain ⟨c0, c1, c2, c3, c4⟩ := row_cell (unhide R3)
      have hAb := (unhide HA).2
      obtain ⟨sA, hsA⟩ : ∃ sA, s + A = sA := ⟨_, rfl⟩
      have e1 : (s : Int) + (A : Int) = (sA : Int) := by omega
      have e2 : IntKind.i64.wrap (sA : Int) = (sA : Int) := by rw [IntKind.wrap_i64]; omega
      have HSA := hide hsA
      clear hsA
      have CALd := CAL w3.drew ((unhide IK3).mono ((Below.refl _ _).drew))
      clear CAL
      go_cut [] from 20 (fun wx => Hid (St wx gd gw gr (d1 : Int) (sA : Int)) ∧ Hid (Pl wx B gd gw gr) ∧ Hid (Below B w wx) ∧ Hid (wx.heap[g]? = some (.cells #[.int .i64 kind, .int .i64 n, .string t, .slice al ln cl, .slice ak m ck] 29 (0, 0))))
      case first =>
        go_region_with (go_at_call 114; refine (unhide CALd).mono ?_; rintro e w4 ⟨rfl, b4⟩; have q4 := ((World.cell?_of_block (b4.block gw gwl)).trans q1); have f4 := (one_cell ((b4.block gw gwl).trans (unhide S3).wgt)).2; have B4 := hide b4; clear b4)
        all_goals (
          have b34 := hide (below_drew_of' (unhide B4))
          go_wp2_with fail
          go_meet
          exact ⟨hide (((unhide S3).keep (unhide P3) (unhide b34)).setW ((unhide P3).later (unhide b34).size) _), hide ((unhide P3).later (by simpa using (unhide b34).size)), hide (((unhide X3).trans ((unhide b34).mono (Nat.le_trans (unhide H).2.2.2.1 (unhide X3).size))).setCell (p := ⟨gw, 0, none⟩) (unhide P3).bw _), hide (by rw [heap_setCell_other _ _ _ _ (by simp; omega)]; exact ((unhide b34).block g (lt_of_row (unhide R3))).trans (unhide R3))⟩)
      case rest =>
        obtain ⟨S4, P4, X4, R4⟩ := hcut
        clear S3 P3 X3 R3 CALd q1 f1 c0 c1 c2 c3 c4 gwl IK3 e1 e2
        obtain ⟨q1, f1⟩ := one_cell (unhide S4).wgt
        obtain ⟨c0, c1, c2, c3, c4⟩ := row_cell (unhide R4)
        have hwt : wt (.mk kind n t l ks) = A + wtL l := by simp only [wt]; have := (unhide HA).1; omega
        have HWT := hide hwt
        clear hwt
        by_cases hsm : sA ≤ 2048
        · have s1 : (sA : Int) ≤ 2048 := by omega
          go_wp2_with fail
          have HD0 : Hid (max d level = d1) := HD1
          have D0 : Hid (okL b (l.take 0) = true ∧ sA = sA + wtL (l.take 0) ∧ d1 = max d1 (level + depL (l.take 0))) := hide ⟨by simp [okL], by simp [wtL], by have := unhide HD1; simp [depL]; omega⟩
          clear q1 f1 c0 c1 c2 c3 c4 R4
          go_loopw [29] (fun x wr => ∃ (i si di : Nat), i ≤ ln ∧ x = .int .i64 i ∧ si ≤ 2048 ∧ Hid (St wr gd gw gr (di : Int) (si : Int)) ∧ Hid (Pl wr B gd gw gr) ∧ Hid (Below B w wr) ∧ Hid (okL b (l.take i) = true ∧ si = sA + wtL (l.take i) ∧ di = max d1 (level + depL (l.take i)))) (fun x _ => ln - (intOf x).toNat)
          case atStart => exact ⟨0, sA, d1, by omega, rfl, hsm, S4, P4, X4, D0⟩
          case round =>
            clear S4 P4 X4 D0
            obtain ⟨i, si, di, hi, rfl, hsi, HS, HP, HX, HD⟩ := hrel
            by_cases hlt : i < ln
            · have HI1 : Hid (i + 1 ≤ ln) := hide (by omega)
              obtain ⟨y, hy⟩ : ∃ y, l[i]? = some y := ⟨_, List.getElem?_eq_getElem (by omega)⟩
              obtain ⟨a, y0, y1, y2, al', ak', ll', m', cl', ck', rfl, hab, hce, hve⟩ := ((unhide H).2.2.2.2.2.mono (unhide HX)).elem i y hy
              have e0 : wr.cell? (a.add (i * 5)) = some (.int .i64 y0) := hce 0 (.int .i64 y0) rfl
              have e1 : wr.cell? ⟨(a.add (i * 5)).block, (a.add (i * 5)).off + 1, none⟩ = some (.int .i64 y1) := hce 1 (.int .i64 y1) rfl
              have e2 : wr.cell? ⟨(a.add (i * 5)).block, (a.add (i * 5)).off + 2, none⟩ = some (.string y2) := hce 2 (.string y2) rfl
              have e3 : wr.cell? ⟨(a.add (i * 5)).block, (a.add (i * 5)).off + 3, none⟩ = some (.slice al' ll' cl') := hce 3 (.slice al' ll' cl') rfl
              have e4 : wr.cell? ⟨(a.add (i * 5)).block, (a.add (i * 5)).off + 4, none⟩ = some (.slice ak' m' ck') := hce 4 (.slice ak' m' ck') rfl
              obtain ⟨w5, hw5⟩ : ∃ w5, wr.alloc (.cells #[(.int .i64 y0), (.int .i64 y1), (.string y2), (.slice al' ll' cl'), (.slice ak' m' ck')] 29) = w5 := ⟨_, rfl⟩
              have BX5 := Box.mk' wr (.int .i64 y0) (.int .i64 y1) (.string y2) (.slice al' ll' cl') (.slice ak' m' ck')
              rw [hw5] at BX5
              obtain ⟨p0, p1, p2, p3, p4⟩ := row_cell BX5.row
              have S5 : Hid (St w5 gd gw gr (di : Int) (si : Int)) := hide ((unhide HS).keep (unhide HP) BX5.below)
              have P5 : Hid (Pl w5 B gd gw gr) := hide ((unhide HP).later (by have := BX5.size; omega))
              have hBr : B ≤ wr.heap.size := Nat.le_trans (unhide H).2.2.2.1 (unhide HX).size
              have X5 : Hid (Below B w w5) := hide ((unhide HX).trans (BX5.below.mono hBr))
              have qr := (one_cell (unhide S5).fn).1
              have HV := hide (hve.mono (BX5.below.mono hBr))
              have HY := hide hy
              have CI := hide (ih y (.agg #[(.int .i64 y0), (.int .i64 y1), (.string y2), (.slice al' ll' cl'), (.slice ak' m' ck')]) (level + 1) si di B gd gw gr w5 (by omega) (by omega) (unhide HV) (by have := BX5.size; omega) (unhide P5) (unhide S5) hsi)
              clear hce hve hy BX5
              rw [show (((level + 1 : Nat)) : Int) = (level : Int) + 1 by omega] at CI
              obtain ⟨R, hR⟩ : ∃ R, (okB b y && decide (si + wt y ≤ 2048)) = R := ⟨_, rfl⟩
              rw [hR] at CI
              have HR := hide hR
              clear hR
              go_wp2_with fail
              refine (unhide CI).mono ?_
              rintro e w6 ⟨d', s', rfl, s6, b6, hok⟩
              have X6 : Hid (Below B w w6) := hide ((unhide X5).trans b6)
              have P6 : Hid (Pl w6 B gd gw gr) := hide ((unhide P5).later b6.size)
              have S6 := hide s6
              have HO := hide hok
              clear s6 b6 hok CI
              cases R with
              | false =>
                go_wp2_with fail
                go_ret
                have hno : (okB (b + 1) (.mk kind n t l ks) && decide (s + wt (.mk kind n t l ks) ≤ 2048)) = false := by
                  rw [unhide HOK, unhide HWT]
                  have hr := unhide HR
                  rw [Bool.and_eq_false_iff] at hr
                  rcases hr with hr | hr
                  · rw [okL_of_take b l i y (unhide HY) hr]; rfl
                  · have h1 := wt_le_wtL l i y (unhide HY)
                    have h2 := (unhide HD).2.1
                    have h3 := unhide HSA
                    rw [decide_eq_false_iff_not] at hr
                    rw [decide_eq_false (by omega), Bool.and_false]
                exact ⟨_, _, by rw [hno]; rfl, unhide S6, unhide X6, fun h => by rw [hno] at h; cases h⟩
              | true =>
                obtain ⟨es, ed⟩ := unhide HO rfl
                rw [es, ed] at S6
                have hr := unhide HR
                rw [Bool.and_eq_true, decide_eq_true_eq] at hr
                have hsi' := hr.2
                have HD' : Hid (okL b (l.take (i + 1)) = true ∧ si + wt y = sA + wtL (l.take (i + 1)) ∧ max di (level + 1 - 1 + dep y) = max d1 (level + depL (l.take (i + 1)))) := hide (by
                  refine ⟨by rw [okL_next b l i y (unhide HY), (unhide HD).1, hr.1]; rfl, ?_, ?_⟩
                  · rw [wtL_next l i y (unhide HY)]; have := (unhide HD).2.1; omega
                  · rw [depL_next l i y (unhide HY)]; have := (unhide HD).2.2; omega)
                clear es ed hr HO
                go_wp2_with fail
                go_roundw
                case rel => exact ⟨i + 1, si + wt y, max di (level + 1 - 1 + dep y), unhide HI1, by go_num, hsi', S6, P6, X6, HD'⟩
                case measure => have := unhide HI1; simp [intOf]; omega
            · have hi' : i = ln := by omega
              subst hi'
              have hfin : (okB (b + 1) (.mk kind n t l ks) && decide (s + wt (.mk kind n t l ks) ≤ 2048)) = true ∧ si = s + wt (.mk kind n t l ks) ∧ di = max d (level - 1 + dep (.mk kind n t l ks)) := by
                have hd := unhide HD
                rw [List.take_of_length_le (by omega)] at hd
                have h3 := unhide HSA
                have h4 := unhide HD1
                rw [unhide HOK, unhide HWT, hd.1]
                refine ⟨by simp; omega, by omega, ?_⟩
                simp only [dep]
                omega
              have HF := hide hfin
              clear hfin
              go_wp2_with fail
              go_ret
              exact ⟨_, _, by rw [(unhide HF).1]; rfl, unhide HS, unhide HX, fun _ => ⟨by rw [(unhide HF).2.1], by rw [(unhide HF).2.2]⟩⟩
        · have s1 : (2048 : Int) < (sA : Int) := by omega
          go_wp2_with fail
          go_ret
          have hno : (okB (b + 1) (.mk kind n t l ks) && decide (s + wt (.mk kind n t l ks) ≤ 2048)) = false := by
            rw [unhide HWT, Bool.and_eq_false_iff]
            right
            have := unhide HSA
            simp
            omega
          exact ⟨_, _, by rw [hno]; rfl, unhide S4, unhide X4, fun h => by rw [hno] at h; cases h⟩
theorem right_any : ∀ b, RightAt b
  | 0 => right_zero
  | b + 1 => right_step b (right_any b)
end Go.Proofs.YtmnbfcpkaglniaaGreatDoor
