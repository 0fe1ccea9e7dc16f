/-
  The walks of bytes.HasPrefix at a module's head and of a module's reader (layer 9); no conditions but the form's own reach.
-/
import Derived.Test.YtfdnhpmldnmncaaR43
import Derived.Test.YtfdnhpmldnmncaaR42
import Derived.Test.YtfdnhpmldnmncaaR44
namespace Go.Proofs.Ytfdnhpmldnmncaa
open Go.RowKit

theorem beq_str {xs ys : List Int} (hx : ∀ c ∈ xs, 0 ≤ c ∧ c ≤ 255) (hy : ∀ c ∈ ys, 0 ≤ c ∧ c ≤ 255) : ((strOfNums xs).toList == (strOfNums ys).toList) = decide (xs = ys) := by
  by_cases h : xs = ys
  · rw [decide_eq_true h, h]; exact (bytes_beq _ _).2 rfl
  · rw [decide_eq_false h]
    cases hb : ((strOfNums xs).toList == (strOfNums ys).toList) with
    | false => rfl
    | true =>
      have := congrArg nums ((bytes_beq _ _).1 hb)
      rw [nums_strM _ hx, nums_strM _ hy] at this
      exact absurd this h

theorem headM_small : ∀ c ∈ headM, 0 ≤ c ∧ c ≤ 255 := by intro c hc; simp [headM] at hc; omega

set_option maxRecDepth 100000 in
theorem equal_any (b off cap gh c2 : Nat) (zs : List Int) (len : Nat) (w : World) (hz : Row8 w (some ⟨b, off, none⟩) len cap zs) (hl : 4 ≤ len) (hh : Row8 w (some ⟨gh, 0, none⟩) 4 c2 headM) :
    Calls Try.prog 32 #[.slice (some ⟨b, off, none⟩) 4 cap, .slice (some ⟨gh, 0, none⟩) 4 c2] w fun e w' => e = .returned (.bool (decide (zs.take 4 = headM))) ∧ w' = w := by
  have hsm := hz.small
  have CV1 : Sem.run Try.prog (convert 22 9 (.slice (some ⟨b, off, none⟩) 4 cap)) w = .ok (.string (strOfNums (zs.take 4))) w := by
    obtain ⟨b', off', hb, hc⟩ := hz.at (by omega)
    cases hb
    have := conv_row (w := w) hz.length hc 0 4 cap (by omega) 0
    rw [Nat.add_zero, List.drop_zero] at this
    exact this
  have CV2 : Sem.run Try.prog (convert 22 9 (.slice (some ⟨gh, 0, none⟩) 4 c2)) w = .ok (.string (strOfNums headM)) w := by
    obtain ⟨b', off', hb, hc⟩ := hh.at (by omega)
    cases hb
    have := conv_row (w := w) hh.length hc 0 4 c2 (by omega) 0
    rw [Nat.add_zero, List.drop_zero, List.take_of_length_le (by rw [hh.length]; omega)] at this
    exact this
  have hE := beq_str (xs := zs.take 4) (ys := headM) (fun c hc => hsm c (List.mem_of_mem_take hc)) headM_small
  obtain ⟨R, hR⟩ : ∃ R, decide (zs.take 4 = headM) = R := ⟨_, rfl⟩
  rw [hR] at hE ⊢
  generalize strOfNums (zs.take 4) = T1 at *
  generalize strOfNums headM = T2 at *
  clear hz hh hsm hR
  go_enter Try.func32, Try.ntmps32
  go_wp2_with fail
  go_ret
  exact ⟨by first | rfl | simp [hE], rfl⟩

set_option maxRecDepth 100000 in
theorem prefix_any (ao : Option Addr) (len cap gh c2 : Nat) (zs : List Int) (w : World) (hz : Row8 w ao len cap zs) (hm : cap ≤ maxLen) (hh : Row8 w (some ⟨gh, 0, none⟩) 4 c2 headM) :
    Calls Try.prog 19 #[.slice ao len cap, .slice (some ⟨gh, 0, none⟩) 4 c2] w fun e w' => e = .returned (.bool (decide (zs.take 4 = headM))) ∧ w' = w := by
  have hl := hz.length
  have hle := hz.le
  by_cases h4 : len < 4
  · have hR : decide (zs.take 4 = headM) = false := decide_eq_false (fun e => by
      have := congrArg List.length e
      rw [List.length_take] at this
      have e4 : headM.length = 4 := rfl
      omega)
    rw [hR]
    have i1 : ¬ (4 : Int) ≤ (len : Int) := by omega
    have i2 : ¬ (len : Int) ≥ 4 := by omega
    clear hR hz hh
    go_enter Try.func19, Try.ntmps19
    go_wp2_with fail
    go_ret
    exact ⟨rfl, rfl⟩
  · have i1 : (4 : Int) ≤ (len : Int) := by omega
    have i2 : (4 : Int) ≤ (cap : Int) := by omega
    obtain ⟨b, off, rfl, _⟩ := hz.at (by omega)
    have CE := hide (equal_any b off cap gh c2 zs len w hz (by omega) hh)
    obtain ⟨R, hR⟩ : ∃ R, decide (zs.take 4 = headM) = R := ⟨_, rfl⟩
    rw [hR] at CE ⊢
    have hmx : cap ≤ 9223372036854775807 := by unfold maxLen at hm; omega
    clear hR hz hh hm
    go_enter Try.func19, Try.ntmps19
    go_wp2_with fail
    refine (unhide CE).mono ?_
    rintro e u ⟨rfl, rfl⟩
    go_wp2_with fail
    go_ret
    exact ⟨rfl, rfl⟩

theorem Row8.take {w : World} {ao : Option Addr} {len cap : Nat} {zs : List Int} (h : Row8 w ao len cap zs) (e : Nat) (he : e ≤ len) : Row8 w ao e cap (zs.take e) := by
  have hl := h.length
  refine ⟨by rw [List.length_take]; omega, fun ha => by have := h.none ha; omega, fun ad ha j u hj => ?_, fun n hn => h.small n (List.mem_of_mem_take hn), Nat.le_trans he h.le⟩
  refine h.cells ad ha j u ?_
  rw [List.getElem?_map] at hj ⊢
  have hlt : j < e := by
    cases hq : (zs.take e)[j]? with
    | none => rw [hq] at hj; cases hj
    | some z => have := (List.getElem?_eq_some_iff.1 hq).1; rw [List.length_take] at this; omega
  rw [List.getElem?_take_of_lt hlt] at hj
  exact hj

theorem at0 {w0 : World} {gr : Nat} {vb : Value} {bo : Option Addr} {e bc : Nat} {bs : List Int} (hy : Row8 w0 bo e bc bs) (hg : w0.heap.size ≤ gr) (hm : bc ≤ maxLen) : RdAt w0 gr vb (.slice bo e bc) 35 (rdOne 0 bs) (Jk 0) where
  call := fun I i m a C F X V w hi hJ h => by
    have : m.cs.length ≤ 100 := by rcases hJ.2 with ⟨_, j, _⟩ | ⟨h, _⟩ | ⟨h, _⟩ <;> omega
    exact readC_any w0 I gr vb bo e bc a C F X m V bs w h hy hg hm this
  next := fun i m a m' a' hJ h => by
    by_cases ha : a ≤ bs.length
    · exact (one_ok hy.small 0 i m a m' a' hJ ha h).1
    · exfalso
      unfold rdOne rdC takeR at h
      rw [if_pos rfl, if_pos (by omega)] at h
      cases h
  code := fun m a p h => by have := one_code h; omega
theorem no_lt {bs : List Int} {a : Nat} {most above n : Int} {nx : Nat} (h : rdNo bs a most above = .ok (n, nx)) : a ≤ bs.length := by
  unfold rdNo at h
  split at h
  · cases h
  · rename_i h0
    by_cases ha : a ≤ bs.length
    · exact ha
    · exfalso
      apply h0
      unfold uintAt
      rw [if_pos (by omega)]
      decide
theorem tx_lt {bs : List Int} {a : Nat} {most : Int} {t : ByteArray} {nx : Nat} (h : rdTx bs a most = .ok (t, nx)) : a ≤ bs.length := by
  unfold rdTx at h
  split at h
  · cases h
  · split at h
    · cases h
    · rename_i h0
      by_cases ha : a ≤ bs.length
      · exact ha
      · exfalso
        apply h0
        unfold textOfU uintAt
        rw [if_pos (show (a : Int) < 0 ∨ (bs.length : Int) < (a : Int) by omega)]
        simp
theorem at1 {w0 : World} {gr : Nat} {vb : Value} {bo : Option Addr} {e bc : Nat} {bs : List Int} (hy : Row8 w0 bo e bc bs) (hg : w0.heap.size ≤ gr) (hm : bc ≤ maxLen) : RdAt w0 gr vb (.slice bo e bc) 38 (rdOne 1 bs) (Jk 1) where
  call := fun I i m a C F X V w hi hJ h => by
    have : m.fs.length ≤ 100 := by rcases hJ.2 with ⟨h, _⟩ | ⟨_, _, j, _⟩ | ⟨h, _⟩ <;> omega
    exact readF_any w0 I gr vb bo e bc a C F X m V bs w h hy hg hm this
  next := fun i m a m' a' hJ h => by
    have ha : a ≤ bs.length := by
      have h' := h
      unfold rdOne at h'
      rw [if_neg (by omega), if_pos rfl] at h'
      unfold rdF at h'
      split at h'
      · cases h'
      · rename_i h1; exact no_lt h1
    exact (one_ok hy.small 1 i m a m' a' hJ ha h).1
  code := fun m a p h => by have := one_code h; omega
theorem at2 {w0 : World} {gr : Nat} {vb : Value} {bo : Option Addr} {e bc : Nat} {bs : List Int} (hy : Row8 w0 bo e bc bs) (hg : w0.heap.size ≤ gr) (hm : bc ≤ maxLen) : RdAt w0 gr vb (.slice bo e bc) 41 (rdOne 2 bs) (Jk 2) where
  call := fun I i m a C F X V w hi hJ h => by
    have : m.xs.length ≤ 100 ∧ m.fs.length ≤ 100 := by rcases hJ.2 with ⟨h, _⟩ | ⟨h, _⟩ | ⟨_, _, j, k⟩ <;> omega
    exact readX_any w0 I gr vb bo e bc a C F X m V bs w h hy hg hm this.1 this.2
  next := fun i m a m' a' hJ h => by
    have ha : a ≤ bs.length := by
      have h' := h
      unfold rdOne at h'
      rw [if_neg (by omega), if_neg (by omega)] at h'
      unfold rdX at h'
      split at h'
      · cases h'
      · rename_i h1; exact tx_lt h1
    exact (one_ok hy.small 2 i m a m' a' hJ ha h).1
  code := fun m a p h => by have := one_code h; omega

theorem RdM.guardB {w0 w w' : World} {I : Nat → Obj → Prop} {gr : Nat} {vb vy : Value} {a : Int} {C F X : Value} {m : Md} {V : Nat → List Value} (h : RdM w0 I w gr vb vy a C F X m V) {c : Array Value} {T : TypeId} (hb : BoxN w w' c T) : RdM w0 (IAnd I w.heap.size (.cells c T (0, 0))) w' gr vb vy a C F X m V := by
  have h1 := h.later hb.below
  refine ⟨h1.box, h1.old, h1.ownC, h1.ownF, h1.ownX, h1.row, h1.el, fun b d hd => ?_⟩
  rcases hd with hd | ⟨rfl, rfl⟩
  · exact h1.side b d hd
  · have hl := h.lt
    exact ⟨hb.row, by omega, fun e => by have := (h.ownC.lt _ e.symm).2; omega, fun e => by have := (h.ownF.lt _ e.symm).2; omega, fun e => by have := (h.ownX.lt _ e.symm).2; omega⟩

theorem o_le {zs : List Int} (_hs : ∀ c ∈ zs, 0 ≤ c ∧ c ≤ 255) {no : Int} {a b e : Nat} (h : rdO zs no a = .ok (b, e)) : e ≤ zs.length := by
  unfold rdO at h
  split at h
  · cases h
  · split at h
    · cases h
    · rename_i h1
      simp only [Except.ok.injEq, Prod.mk.injEq] at h
      simp only [not_or, Int.not_lt] at h1
      omega

/-- what reading the sections comes to -/
def decB (zs : List Int) (r : Except (Int × Int) (Md × Nat)) : Except (Int × Int) Md := match r with
  | .error e => .error e
  | .ok (m, a) => if a < zs.length then .error (93, a) else .ok m

def ResMd (w0 : World) (I : Nat → Obj → Prop) (gr : Nat) (vb : Value) (r : Except (Int × Int) Md) (e' : Ending) (w' : World) : Prop :=
  match r with
  | .error p => e' = .returned (.int .i64 p.1) ∧ ∃ vy C F X m V, RdM w0 I w' gr vb vy p.2 C F X m V
  | .ok m => e' = .returned (.int .i64 0) ∧ ∃ vy a C F X V, RdM w0 I w' gr vb vy a C F X m V

set_option maxRecDepth 100000 in
set_option maxHeartbeats 4000000 in
theorem module_any (w0 : World) (I : Nat → Obj → Prop) (gr : Nat) (ao : Option Addr) (len cap : Nat) (V : Nat → List Value) (zs : List Int) (w : World) (h : RdM w0 I w gr (.slice ao len cap) (.slice none 0 0) 0 (.slice none 0 0) (.slice none 0 0) (.slice none 0 0) ⟨[], [], []⟩ V) (hz : Row8 w0 ao len cap zs) (hg : w0.heap.size ≤ gr) (hm : cap ≤ maxLen) (hlen : len ≤ 65536) :
    Calls Try.prog 13 #[.pointer (some ⟨gr, 0, none⟩)] w fun e' w' => ResMd w0 I gr (.slice ao len cap) (if zs.take 4 ≠ headM then .error (91, 0) else decB zs (rdAllM zs 3 0 ⟨[], [], []⟩ 4)) e' w' := by
  obtain ⟨c0, c1, c2, c3, c4, c5⟩ := row_cells6 h.box
  have HH := hide h
  have HZ := hide hz
  have hl := hz.length
  have hsm := hz.small
  have HSM := hide hsm
  have kc := fun (w : World) (C : Array Value) (n c : Nat) => Lib.run_convert_bytes_const (P := Try.prog) w 22 5 C n c Try.underlying22 Try.underlying5
  clear h hz hsm
  obtain ⟨R1, b2⟩ := head_rowM w (4, 5)
  obtain ⟨w2, hw2⟩ : ∃ w2, w.alloc (.cells #[.int .u8 83, .int .u8 67, .int .u8 77, .int .u8 49] 5 (4, 5)) = w2 := ⟨_, rfl⟩
  rw [hw2] at R1 b2
  have HR2 := hide ((unhide HH).later b2)
  have CP := hide (prefix_any ao len cap w.heap.size 4 zs w2 ((unhide HR2).bytes (unhide HZ) hg) hm R1)
  clear R1 b2
  by_cases hhd : zs.take 4 = headM
  case neg =>
    rw [if_pos hhd]
    rw [decide_eq_false hhd] at CP
    go_enter Try.func13, Try.ntmps13
    go_wp2_with fail
    clear kc
    refine (unhide CP).mono ?_
    rintro e1 u1 ⟨rfl, rfl⟩
    clear hw2
    go_wp2_with fail
    go_ret
    exact ⟨rfl, _, _, _, _, _, _, unhide HR2⟩
  rw [if_neg (by simpa using hhd)]
  rw [decide_eq_true hhd] at CP
  have h4 : 4 ≤ len := by
    have := congrArg List.length hhd
    rw [List.length_take] at this
    have e : headM.length = 4 := rfl
    omega
  obtain ⟨R, hR⟩ : ∃ R, rdAllM zs 3 0 ⟨[], [], []⟩ 4 = R := ⟨_, rfl⟩
  rw [hR]
  have HRR := hide hR
  clear hR hhd
  go_enter Try.func13, Try.ntmps13
  go_wp2_with fail
  clear kc
  refine (unhide CP).mono ?_
  rintro e1 u1 ⟨rfl, rfl⟩
  clear hw2 CP c0 c1 c2 c3 c4 c5
  obtain ⟨c0, c1, c2, c3, c4, c5⟩ := row_cells6 (unhide HR2).box
  have fz := frozen_of_row u1 gr 2 _ _ (unhide HR2).box
  go_wp2_with fail
  have R3 := (unhide HR2).setAt 4
  obtain ⟨u3, hu3⟩ : ∃ u3, u1.setCell ⟨gr, 2, none⟩ (.int .i64 4) = u3 := ⟨_, rfl⟩
  rw [hu3] at R3 ⊢
  have H3 := hide R3
  clear R3 hu3 c0 c1 c2 c3 c4 c5 fz
  refine (sections_any _).mono ?_
  rintro e2 u4 ⟨rfl, BS⟩
  have R4 := (unhide H3).guardB BS
  obtain ⟨gs, hgs⟩ : ∃ gs, u3.heap.size = gs := ⟨_, rfl⟩
  rw [hgs] at R4 ⊢
  obtain ⟨J, hJ⟩ : ∃ J, IAnd I gs (.cells secRow 67 (0, 0)) = J := ⟨_, rfl⟩
  have HJ : Hid (J gs (.cells secRow 67 (0, 0)) ∧ ∀ b c, I b c → J b c) := hide (by rw [← hJ]; exact ⟨Or.inr ⟨rfl, rfl⟩, fun b c hb => Or.inl hb⟩)
  rw [hJ] at R4
  have H4 := hide R4
  clear hJ R4 BS hgs H3
  go_wp2_with fail
  go_loopw [20] (fun x wr => ∃ (i : Nat) (m' : Md) (a' : Nat) (vy C' F' X' : Value) (V' : Nat → List Value), x = .int .i64 (i : Int) ∧ Hid (i ≤ 3) ∧ Hid (RdM w0 J wr gr (.slice ao len cap) vy a' C' F' X' m' V') ∧ Hid (a' ≤ len ∧ (i ≤ 2 → Jk i 0 m')) ∧ Hid (rdAllM zs (3 - i) i m' a' = R)) (fun x _ => 3 - (intOf x).toNat)
  case atStart => exact ⟨0, _, 4, _, _, _, _, _, rfl, hide (by omega), H4, hide ⟨h4, fun _ => J_start⟩, HRR⟩
  case round =>
    clear H4
    obtain ⟨i, m', a', vy, C', F', X', V', rfl, HI, HM, HA, HN⟩ := hrel
    rcases (show i = 0 ∨ i = 1 ∨ i = 2 ∨ i = 3 by have := unhide HI; omega) with rfl | rfl | rfl | hi3
    · have k0 : wr.cell? ⟨gs, 0, none⟩ = some (.int .i64 100) := sec_cells ((unhide HM).side gs _ (unhide HJ).1).1 0 _ rfl
      have k1 : wr.cell? ⟨gs, 1, none⟩ = some (.func (.func 33) #[] #[]) := sec_cells ((unhide HM).side gs _ (unhide HJ).1).1 1 _ rfl
      have k2 : wr.cell? ⟨gs, 2, none⟩ = some (.func (.func 34) #[] #[]) := sec_cells ((unhide HM).side gs _ (unhide HJ).1).1 2 _ rfl
      have k3 : wr.cell? ⟨gs, 3, none⟩ = some (.func (.func 35) #[] #[]) := sec_cells ((unhide HM).side gs _ (unhide HJ).1).1 3 _ rfl
      obtain ⟨q, hq⟩ : ∃ q, wr.heap.size = q := ⟨_, rfl⟩
      have G1 := (unhide HM).guard #[.int .i64 100, .func (.func 33) #[] #[], .func (.func 34) #[] #[], .func (.func 35) #[] #[]] 67
      obtain ⟨v1, hv1⟩ : ∃ v1, wr.alloc (.cells #[.int .i64 100, .func (.func 33) #[] #[], .func (.func 34) #[] #[], .func (.func 35) #[] #[]] 67) = v1 := ⟨_, rfl⟩
      rw [hv1, hq] at G1
      obtain ⟨K, hK⟩ : ∃ K, IAnd J q (.cells #[.int .i64 100, .func (.func 33) #[] #[], .func (.func 34) #[] #[], .func (.func 35) #[] #[]] 67 (0, 0)) = K := ⟨_, rfl⟩
      have HK : Hid (K q (.cells #[.int .i64 100, .func (.func 33) #[] #[], .func (.func 34) #[] #[], .func (.func 35) #[] #[]] 67 (0, 0)) ∧ ∀ b c, J b c → K b c) := hide (by rw [← hK]; exact ⟨Or.inr ⟨rfl, rfl⟩, fun b c hb => Or.inl hb⟩)
      rw [hK] at G1
      clear hK
      have CO := hide (open_any w0 K gr ao len cap vy a' C' F' X' m' V' zs 1 v1 G1 (unhide HZ) hg hm hlen (unhide HA).1)
      have hN := unhide HN
      rw [show 3 - 0 = (3 - 1) + 1 by omega, rdAllM] at hN
      have hS : rdS zs 0 m' a' = match rdO zs 1 a' with | .error p => .error (91, p) | .ok (b, e) => rdP (zs.take e) 100 (rdOne 0 (zs.take e)) m' b := rfl
      have HG1 := hide G1
      clear G1
      cases hO : rdO zs 1 a' with
      | error p =>
        rw [hO] at CO hS
        dsimp only at hS
        rw [hS] at hN
        dsimp only at hN
        have HR' := hide hN.symm
        clear hN hS hO
        go_wp2_with fail
        refine (secNo_0 _).mono ?_
        rintro e3 u5 ⟨rfl, rfl⟩
        go_wp2_with fail
        refine (unhide CO).mono ?_
        rintro e4 u6 ⟨rfl, R6⟩
        have H6 := hide R6
        clear R6 CO k0 k1 k2 k3
        go_wp2_with fail
        go_ret
        rw [unhide HR']
        exact ⟨rfl, _, _, _, _, _, _, (unhide H6).less (fun b c hb => (unhide HK).2 b c ((unhide HJ).2 b c hb))⟩
      | ok be =>
        obtain ⟨b, e⟩ := be
        rw [hO] at CO hS
        dsimp only at hS
        have hel : e ≤ len := by rw [← hl]; exact o_le (unhide HSM) hO
        have hY : Row8 w0 ao e cap (zs.take e) := (unhide HZ).take e hel
        have HY := hide hY
        have hRA := at0 (gr := gr) (vb := .slice ao len cap) hY hg hm
        have HRA := hide hRA
        clear hO hRA hY
        cases hP : rdP (zs.take e) 100 (rdOne 0 (zs.take e)) m' b with
        | error p =>
          have hSp : rdS zs 0 m' a' = .error p := by rw [hS]; exact hP
          have hcode := (s_bad (unhide HSM) 0 m' a' (by rw [hl]; exact (unhide HA).1) p ((unhide HA).2 (by omega)) hSp).2
          have kne : ¬ p.1 = 0 := by omega
          rw [hSp] at hN
          dsimp only at hN
          obtain ⟨pc, pp⟩ := p
          dsimp only at kne
          have HR' := hide hN.symm
          have HP := hide hP
          clear hN hS hSp hcode hP
          go_wp2_with fail
          refine (secNo_0 _).mono ?_
          rintro e3 u5 ⟨rfl, rfl⟩
          go_wp2_with fail
          refine (unhide CO).mono ?_
          rintro e4 u6 ⟨rfl, R6⟩
          obtain ⟨d0, d1, d2, d3⟩ := row_cell4 (R6.side q _ (unhide HK).1).1
          have CP := hide (parts0_any w0 K gr (.slice ao len cap) ao e cap b C' F' X' m' V' (zs.take e) 100 33 34 (rdOne 0 (zs.take e)) (Jk 0) u6 R6 (unhide HY) hg hm (by omega) ((unhide HA).2 (by omega)) (unhide HRA))
          rw [unhide HP] at CP
          clear R6 CO k0 k1 k2 k3
          go_wp2_with fail
          refine (unhide CP).mono ?_
          rintro e5 u7 ⟨rfl, R7⟩
          have H7 := hide R7
          clear R7 CP d0 d1 d2 d3
          dsimp only
          go_wp2_with fail
          go_ret
          rw [unhide HR']
          obtain ⟨C7, F7, X7, m7, V7, R7⟩ := unhide H7
          exact ⟨rfl, _, _, _, _, _, _, R7.less (fun b c hb => (unhide HK).2 b c ((unhide HJ).2 b c hb))⟩
        | ok ma =>
          obtain ⟨m2, a2⟩ := ma
          have hSp : rdS zs 0 m' a' = .ok (m2, a2) := by rw [hS]; exact hP
          obtain ⟨nn, s1, s2, s3, s4, s5, s6⟩ := s_ok (unhide HSM) 0 (by omega) m' a' m2 a2 ((unhide HA).2 (by omega)) hSp
          rw [hSp] at hN
          dsimp only at hN
          have HA2 : Hid (a2 ≤ len ∧ (1 ≤ 2 → Jk 1 0 m2)) := hide ⟨by rw [← hl]; exact s5, fun _ => J_next s1 s2 (by omega)⟩
          have HN2 := hide hN
          have HP := hide hP
          clear hN hS hSp s1 s2 s3 s4 s5 s6 hP
          go_wp2_with fail
          refine (secNo_0 _).mono ?_
          rintro e3 u5 ⟨rfl, rfl⟩
          go_wp2_with fail
          refine (unhide CO).mono ?_
          rintro e4 u6 ⟨rfl, R6⟩
          obtain ⟨d0, d1, d2, d3⟩ := row_cell4 (R6.side q _ (unhide HK).1).1
          have CP := hide (parts0_any w0 K gr (.slice ao len cap) ao e cap b C' F' X' m' V' (zs.take e) 100 33 34 (rdOne 0 (zs.take e)) (Jk 0) u6 R6 (unhide HY) hg hm (by omega) ((unhide HA).2 (by omega)) (unhide HRA))
          rw [unhide HP] at CP
          clear R6 CO k0 k1 k2 k3
          go_wp2_with fail
          refine (unhide CP).mono ?_
          rintro e5 u7 ⟨rfl, C7, F7, X7, V7, R7⟩
          have H7 := hide (R7.less (unhide HK).2)
          clear R7 CP d0 d1 d2 d3
          go_wp2_with fail
          go_roundw
          case rel => exact ⟨1, m2, a2, _, C7, F7, X7, V7, rfl, hide (by omega), H7, HA2, HN2⟩
          case measure => simp [intOf]
    · have k0 : wr.cell? ⟨gs, 4, none⟩ = some (.int .i64 24) := sec_cells ((unhide HM).side gs _ (unhide HJ).1).1 4 _ rfl
      have k1 : wr.cell? ⟨gs, 5, none⟩ = some (.func (.func 36) #[] #[]) := sec_cells ((unhide HM).side gs _ (unhide HJ).1).1 5 _ rfl
      have k2 : wr.cell? ⟨gs, 6, none⟩ = some (.func (.func 37) #[] #[]) := sec_cells ((unhide HM).side gs _ (unhide HJ).1).1 6 _ rfl
      have k3 : wr.cell? ⟨gs, 7, none⟩ = some (.func (.func 38) #[] #[]) := sec_cells ((unhide HM).side gs _ (unhide HJ).1).1 7 _ rfl
      obtain ⟨q, hq⟩ : ∃ q, wr.heap.size = q := ⟨_, rfl⟩
      have G1 := (unhide HM).guard #[.int .i64 24, .func (.func 36) #[] #[], .func (.func 37) #[] #[], .func (.func 38) #[] #[]] 67
      obtain ⟨v1, hv1⟩ : ∃ v1, wr.alloc (.cells #[.int .i64 24, .func (.func 36) #[] #[], .func (.func 37) #[] #[], .func (.func 38) #[] #[]] 67) = v1 := ⟨_, rfl⟩
      rw [hv1, hq] at G1
      obtain ⟨K, hK⟩ : ∃ K, IAnd J q (.cells #[.int .i64 24, .func (.func 36) #[] #[], .func (.func 37) #[] #[], .func (.func 38) #[] #[]] 67 (0, 0)) = K := ⟨_, rfl⟩
      have HK : Hid (K q (.cells #[.int .i64 24, .func (.func 36) #[] #[], .func (.func 37) #[] #[], .func (.func 38) #[] #[]] 67 (0, 0)) ∧ ∀ b c, J b c → K b c) := hide (by rw [← hK]; exact ⟨Or.inr ⟨rfl, rfl⟩, fun b c hb => Or.inl hb⟩)
      rw [hK] at G1
      clear hK
      have CO := hide (open_any w0 K gr ao len cap vy a' C' F' X' m' V' zs 2 v1 G1 (unhide HZ) hg hm hlen (unhide HA).1)
      have hN := unhide HN
      rw [show 3 - 1 = (3 - 2) + 1 by omega, rdAllM] at hN
      have hS : rdS zs 1 m' a' = match rdO zs 2 a' with | .error p => .error (91, p) | .ok (b, e) => rdP (zs.take e) 24 (rdOne 1 (zs.take e)) m' b := rfl
      have HG1 := hide G1
      clear G1
      cases hO : rdO zs 2 a' with
      | error p =>
        rw [hO] at CO hS
        dsimp only at hS
        rw [hS] at hN
        dsimp only at hN
        have HR' := hide hN.symm
        clear hN hS hO
        go_wp2_with fail
        refine (secNo_1 _).mono ?_
        rintro e3 u5 ⟨rfl, rfl⟩
        go_wp2_with fail
        refine (unhide CO).mono ?_
        rintro e4 u6 ⟨rfl, R6⟩
        have H6 := hide R6
        clear R6 CO k0 k1 k2 k3
        go_wp2_with fail
        go_ret
        rw [unhide HR']
        exact ⟨rfl, _, _, _, _, _, _, (unhide H6).less (fun b c hb => (unhide HK).2 b c ((unhide HJ).2 b c hb))⟩
      | ok be =>
        obtain ⟨b, e⟩ := be
        rw [hO] at CO hS
        dsimp only at hS
        have hel : e ≤ len := by rw [← hl]; exact o_le (unhide HSM) hO
        have hY : Row8 w0 ao e cap (zs.take e) := (unhide HZ).take e hel
        have HY := hide hY
        have hRA := at1 (gr := gr) (vb := .slice ao len cap) hY hg hm
        have HRA := hide hRA
        clear hO hRA hY
        cases hP : rdP (zs.take e) 24 (rdOne 1 (zs.take e)) m' b with
        | error p =>
          have hSp : rdS zs 1 m' a' = .error p := by rw [hS]; exact hP
          have hcode := (s_bad (unhide HSM) 1 m' a' (by rw [hl]; exact (unhide HA).1) p ((unhide HA).2 (by omega)) hSp).2
          have kne : ¬ p.1 = 0 := by omega
          rw [hSp] at hN
          dsimp only at hN
          obtain ⟨pc, pp⟩ := p
          dsimp only at kne
          have HR' := hide hN.symm
          have HP := hide hP
          clear hN hS hSp hcode hP
          go_wp2_with fail
          refine (secNo_1 _).mono ?_
          rintro e3 u5 ⟨rfl, rfl⟩
          go_wp2_with fail
          refine (unhide CO).mono ?_
          rintro e4 u6 ⟨rfl, R6⟩
          obtain ⟨d0, d1, d2, d3⟩ := row_cell4 (R6.side q _ (unhide HK).1).1
          have CP := hide (parts1_any w0 K gr (.slice ao len cap) ao e cap b C' F' X' m' V' (zs.take e) 24 36 37 (rdOne 1 (zs.take e)) (Jk 1) u6 R6 (unhide HY) hg hm (by omega) ((unhide HA).2 (by omega)) (unhide HRA))
          rw [unhide HP] at CP
          clear R6 CO k0 k1 k2 k3
          go_wp2_with fail
          refine (unhide CP).mono ?_
          rintro e5 u7 ⟨rfl, R7⟩
          have H7 := hide R7
          clear R7 CP d0 d1 d2 d3
          dsimp only
          go_wp2_with fail
          go_ret
          rw [unhide HR']
          obtain ⟨C7, F7, X7, m7, V7, R7⟩ := unhide H7
          exact ⟨rfl, _, _, _, _, _, _, R7.less (fun b c hb => (unhide HK).2 b c ((unhide HJ).2 b c hb))⟩
        | ok ma =>
          obtain ⟨m2, a2⟩ := ma
          have hSp : rdS zs 1 m' a' = .ok (m2, a2) := by rw [hS]; exact hP
          obtain ⟨nn, s1, s2, s3, s4, s5, s6⟩ := s_ok (unhide HSM) 1 (by omega) m' a' m2 a2 ((unhide HA).2 (by omega)) hSp
          rw [hSp] at hN
          dsimp only at hN
          have HA2 : Hid (a2 ≤ len ∧ (2 ≤ 2 → Jk 2 0 m2)) := hide ⟨by rw [← hl]; exact s5, fun _ => J_next s1 s2 (by omega)⟩
          have HN2 := hide hN
          have HP := hide hP
          clear hN hS hSp s1 s2 s3 s4 s5 s6 hP
          go_wp2_with fail
          refine (secNo_1 _).mono ?_
          rintro e3 u5 ⟨rfl, rfl⟩
          go_wp2_with fail
          refine (unhide CO).mono ?_
          rintro e4 u6 ⟨rfl, R6⟩
          obtain ⟨d0, d1, d2, d3⟩ := row_cell4 (R6.side q _ (unhide HK).1).1
          have CP := hide (parts1_any w0 K gr (.slice ao len cap) ao e cap b C' F' X' m' V' (zs.take e) 24 36 37 (rdOne 1 (zs.take e)) (Jk 1) u6 R6 (unhide HY) hg hm (by omega) ((unhide HA).2 (by omega)) (unhide HRA))
          rw [unhide HP] at CP
          clear R6 CO k0 k1 k2 k3
          go_wp2_with fail
          refine (unhide CP).mono ?_
          rintro e5 u7 ⟨rfl, C7, F7, X7, V7, R7⟩
          have H7 := hide (R7.less (unhide HK).2)
          clear R7 CP d0 d1 d2 d3
          go_wp2_with fail
          go_roundw
          case rel => exact ⟨2, m2, a2, _, C7, F7, X7, V7, rfl, hide (by omega), H7, HA2, HN2⟩
          case measure => simp [intOf]
    · have k0 : wr.cell? ⟨gs, 8, none⟩ = some (.int .i64 24) := sec_cells ((unhide HM).side gs _ (unhide HJ).1).1 8 _ rfl
      have k1 : wr.cell? ⟨gs, 9, none⟩ = some (.func (.func 39) #[] #[]) := sec_cells ((unhide HM).side gs _ (unhide HJ).1).1 9 _ rfl
      have k2 : wr.cell? ⟨gs, 10, none⟩ = some (.func (.func 40) #[] #[]) := sec_cells ((unhide HM).side gs _ (unhide HJ).1).1 10 _ rfl
      have k3 : wr.cell? ⟨gs, 11, none⟩ = some (.func (.func 41) #[] #[]) := sec_cells ((unhide HM).side gs _ (unhide HJ).1).1 11 _ rfl
      obtain ⟨q, hq⟩ : ∃ q, wr.heap.size = q := ⟨_, rfl⟩
      have G1 := (unhide HM).guard #[.int .i64 24, .func (.func 39) #[] #[], .func (.func 40) #[] #[], .func (.func 41) #[] #[]] 67
      obtain ⟨v1, hv1⟩ : ∃ v1, wr.alloc (.cells #[.int .i64 24, .func (.func 39) #[] #[], .func (.func 40) #[] #[], .func (.func 41) #[] #[]] 67) = v1 := ⟨_, rfl⟩
      rw [hv1, hq] at G1
      obtain ⟨K, hK⟩ : ∃ K, IAnd J q (.cells #[.int .i64 24, .func (.func 39) #[] #[], .func (.func 40) #[] #[], .func (.func 41) #[] #[]] 67 (0, 0)) = K := ⟨_, rfl⟩
      have HK : Hid (K q (.cells #[.int .i64 24, .func (.func 39) #[] #[], .func (.func 40) #[] #[], .func (.func 41) #[] #[]] 67 (0, 0)) ∧ ∀ b c, J b c → K b c) := hide (by rw [← hK]; exact ⟨Or.inr ⟨rfl, rfl⟩, fun b c hb => Or.inl hb⟩)
      rw [hK] at G1
      clear hK
      have CO := hide (open_any w0 K gr ao len cap vy a' C' F' X' m' V' zs 3 v1 G1 (unhide HZ) hg hm hlen (unhide HA).1)
      have hN := unhide HN
      rw [show 3 - 2 = (3 - 3) + 1 by omega, rdAllM] at hN
      have hS : rdS zs 2 m' a' = match rdO zs 3 a' with | .error p => .error (91, p) | .ok (b, e) => rdP (zs.take e) 24 (rdOne 2 (zs.take e)) m' b := rfl
      have HG1 := hide G1
      clear G1
      cases hO : rdO zs 3 a' with
      | error p =>
        rw [hO] at CO hS
        dsimp only at hS
        rw [hS] at hN
        dsimp only at hN
        have HR' := hide hN.symm
        clear hN hS hO
        go_wp2_with fail
        refine (secNo_2 _).mono ?_
        rintro e3 u5 ⟨rfl, rfl⟩
        go_wp2_with fail
        refine (unhide CO).mono ?_
        rintro e4 u6 ⟨rfl, R6⟩
        have H6 := hide R6
        clear R6 CO k0 k1 k2 k3
        go_wp2_with fail
        go_ret
        rw [unhide HR']
        exact ⟨rfl, _, _, _, _, _, _, (unhide H6).less (fun b c hb => (unhide HK).2 b c ((unhide HJ).2 b c hb))⟩
      | ok be =>
        obtain ⟨b, e⟩ := be
        rw [hO] at CO hS
        dsimp only at hS
        have hel : e ≤ len := by rw [← hl]; exact o_le (unhide HSM) hO
        have hY : Row8 w0 ao e cap (zs.take e) := (unhide HZ).take e hel
        have HY := hide hY
        have hRA := at2 (gr := gr) (vb := .slice ao len cap) hY hg hm
        have HRA := hide hRA
        clear hO hRA hY
        cases hP : rdP (zs.take e) 24 (rdOne 2 (zs.take e)) m' b with
        | error p =>
          have hSp : rdS zs 2 m' a' = .error p := by rw [hS]; exact hP
          have hcode := (s_bad (unhide HSM) 2 m' a' (by rw [hl]; exact (unhide HA).1) p ((unhide HA).2 (by omega)) hSp).2
          have kne : ¬ p.1 = 0 := by omega
          rw [hSp] at hN
          dsimp only at hN
          obtain ⟨pc, pp⟩ := p
          dsimp only at kne
          have HR' := hide hN.symm
          have HP := hide hP
          clear hN hS hSp hcode hP
          go_wp2_with fail
          refine (secNo_2 _).mono ?_
          rintro e3 u5 ⟨rfl, rfl⟩
          go_wp2_with fail
          refine (unhide CO).mono ?_
          rintro e4 u6 ⟨rfl, R6⟩
          obtain ⟨d0, d1, d2, d3⟩ := row_cell4 (R6.side q _ (unhide HK).1).1
          have CP := hide (parts2_any w0 K gr (.slice ao len cap) ao e cap b C' F' X' m' V' (zs.take e) 24 39 40 (rdOne 2 (zs.take e)) (Jk 2) u6 R6 (unhide HY) hg hm (by omega) ((unhide HA).2 (by omega)) (unhide HRA))
          rw [unhide HP] at CP
          clear R6 CO k0 k1 k2 k3
          go_wp2_with fail
          refine (unhide CP).mono ?_
          rintro e5 u7 ⟨rfl, R7⟩
          have H7 := hide R7
          clear R7 CP d0 d1 d2 d3
          dsimp only
          go_wp2_with fail
          go_ret
          rw [unhide HR']
          obtain ⟨C7, F7, X7, m7, V7, R7⟩ := unhide H7
          exact ⟨rfl, _, _, _, _, _, _, R7.less (fun b c hb => (unhide HK).2 b c ((unhide HJ).2 b c hb))⟩
        | ok ma =>
          obtain ⟨m2, a2⟩ := ma
          have hSp : rdS zs 2 m' a' = .ok (m2, a2) := by rw [hS]; exact hP
          obtain ⟨nn, s1, s2, s3, s4, s5, s6⟩ := s_ok (unhide HSM) 2 (by omega) m' a' m2 a2 ((unhide HA).2 (by omega)) hSp
          rw [hSp] at hN
          dsimp only at hN
          have HA2 : Hid (a2 ≤ len ∧ (3 ≤ 2 → Jk 3 0 m2)) := hide ⟨by rw [← hl]; exact s5, fun _ => by omega⟩
          have HN2 := hide hN
          have HP := hide hP
          clear hN hS hSp s1 s2 s3 s4 s5 s6 hP
          go_wp2_with fail
          refine (secNo_2 _).mono ?_
          rintro e3 u5 ⟨rfl, rfl⟩
          go_wp2_with fail
          refine (unhide CO).mono ?_
          rintro e4 u6 ⟨rfl, R6⟩
          obtain ⟨d0, d1, d2, d3⟩ := row_cell4 (R6.side q _ (unhide HK).1).1
          have CP := hide (parts2_any w0 K gr (.slice ao len cap) ao e cap b C' F' X' m' V' (zs.take e) 24 39 40 (rdOne 2 (zs.take e)) (Jk 2) u6 R6 (unhide HY) hg hm (by omega) ((unhide HA).2 (by omega)) (unhide HRA))
          rw [unhide HP] at CP
          clear R6 CO k0 k1 k2 k3
          go_wp2_with fail
          refine (unhide CP).mono ?_
          rintro e5 u7 ⟨rfl, C7, F7, X7, V7, R7⟩
          have H7 := hide (R7.less (unhide HK).2)
          clear R7 CP d0 d1 d2 d3
          go_wp2_with fail
          go_roundw
          case rel => exact ⟨3, m2, a2, _, C7, F7, X7, V7, rfl, hide (by omega), H7, HA2, HN2⟩
          case measure => simp [intOf]
    · have j0 : ¬ (i : Int) < 3 := by omega
      have hN := unhide HN
      rw [hi3] at hN
      simp only [Nat.sub_self, rdAllM] at hN
      have HR' := hide hN.symm
      obtain ⟨c0, c1, c2, c3, c4, c5⟩ := row_cells6 (unhide HM).box
      clear hN hi3
      by_cases hae : a' < len
      · have j2 : (a' : Int) < (len : Int) := by omega
        go_upto_region 14 with fail
        go_quiet (fail)
        go_wp2_with fail
        go_ret
        rw [unhide HR']
        unfold decB
        dsimp only
        rw [if_pos (by omega)]
        exact ⟨rfl, _, _, _, _, _, _, ((unhide HM).drew _).less (unhide HJ).2⟩
      · have j2 : ¬ (a' : Int) < (len : Int) := by omega
        go_upto_region 14 with fail
        go_quiet (fail)
        go_wp2_with fail
        go_ret
        rw [unhide HR']
        unfold decB
        dsimp only
        rw [if_neg (by omega)]
        exact ⟨rfl, _, _, _, _, _, _, ((unhide HM).drew _).less (unhide HJ).2⟩
end Go.Proofs.Ytfdnhpmldnmncaa
