/-
  The walks of bytes.HasPrefix at a module's head and of a module's reader (layer 9); no conditions but the form's own reach.
  The walk of Decode of a module (layer 9); no conditions but the form's own reach.
-/
import Derived.Test.YtfdnhpmldnmncaaDB
import Derived.Test.YtfdnhpmldnmncaaM5
namespace Go.Proofs.Ytfdnhpmldnmncaa
open Go.RowKit

theorem beq_str {xs ys : List Int} (hx : ∀ c ∈ xs, 0 ≤ c ∧ c ≤ 255) (hy : ∀ c ∈ ys, 0 ≤ c ∧ c ≤ 255) : ((strOfNums xs).toList == (strOfNums ys).toList) = decide (xs = ys) := by
  by_cases h : xs = ys
  · rw [decide_eq_true h, h]; exact (bytes_beq _ _).2 rfl
  · rw [decide_eq_false h]
    cases hb : ((strOfNums xs).toList == (strOfNums ys).toList) with
    | false => rfl
    | true =>
      have := congrArg nums ((bytes_beq _ _).1 hb)
      rw [nums_strM _ hx, nums_strM _ hy] at this
      exact absurd this h

theorem headM_small : ∀ c ∈ headM, 0 ≤ c ∧ c ≤ 255 := by intro c hc; simp [headM] at hc; omega

set_option maxRecDepth 100000 in
theorem equal_any (b off cap gh c2 : Nat) (zs : List Int) (len : Nat) (w : World) (hz : Row8 w (some ⟨b, off, none⟩) len cap zs) (hl : 4 ≤ len) (hh : Row8 w (some ⟨gh, 0, none⟩) 4 c2 headM) :
    Calls Try.prog 32 #[.slice (some ⟨b, off, none⟩) 4 cap, .slice (some ⟨gh, 0, none⟩) 4 c2] w fun e w' => e = .returned (.bool (decide (zs.take 4 = headM))) ∧ w' = w := by
  have hsm := hz.small
  have CV1 : Sem.run Try.prog (convert 22 9 (.slice (some ⟨b, off, none⟩) 4 cap)) w = .ok (.string (strOfNums (zs.take 4))) w := by
    obtain ⟨b', off', hb, hc⟩ := hz.at (by omega)
    cases hb
    have := conv_row (w := w) hz.length hc 0 4 cap (by omega) 0
    rw [Nat.add_zero, List.drop_zero] at this
    exact this
  have CV2 : Sem.run Try.prog (convert 22 9 (.slice (some ⟨gh, 0, none⟩) 4 c2)) w = .ok (.string (strOfNums headM)) w := by
    obtain ⟨b', off', hb, hc⟩ := hh.at (by omega)
    cases hb
    have := conv_row (w := w) hh.length hc 0 4 c2 (by omega) 0
    rw [Nat.add_zero, List.drop_zero, List.take_of_length_le (by rw [hh.length]; omega)] at this
    exact this
  have hE := beq_str (xs := zs.take 4) (ys := headM) (fun c hc => hsm c (List.mem_of_mem_take hc)) headM_small
  obtain ⟨R, hR⟩ : ∃ R, decide (zs.take 4 = headM) = R := ⟨_, rfl⟩
  rw [hR] at hE ⊢
  generalize strOfNums (zs.take 4) = T1 at *
  generalize strOfNums headM = T2 at *
  clear hz hh hsm hR
  go_enter Try.func32, Try.ntmps32
  go_wp2_with fail
  go_ret
  exact ⟨by first | rfl | simp [hE], rfl⟩

set_option maxRecDepth 100000 in
theorem prefix_any (ao : Option Addr) (len cap gh c2 : Nat) (zs : List Int) (w : World) (hz : Row8 w ao len cap zs) (hm : cap ≤ maxLen) (hh : Row8 w (some ⟨gh, 0, none⟩) 4 c2 headM) :
    Calls Try.prog 19 #[.slice ao len cap, .slice (some ⟨gh, 0, none⟩) 4 c2] w fun e w' => e = .returned (.bool (decide (zs.take 4 = headM))) ∧ w' = w := by
  have hl := hz.length
  have hle := hz.le
  by_cases h4 : len < 4
  · have hR : decide (zs.take 4 = headM) = false := decide_eq_false (fun e => by
      have := congrArg List.length e
      rw [List.length_take] at this
      have e4 : headM.length = 4 := rfl
      omega)
    rw [hR]
    have i1 : ¬ (4 : Int) ≤ (len : Int) := by omega
    have i2 : ¬ (len : Int) ≥ 4 := by omega
    clear hR hz hh
    go_enter Try.func19, Try.ntmps19
    go_wp2_with fail
    go_ret
    exact ⟨rfl, rfl⟩
  · have i1 : (4 : Int) ≤ (len : Int) := by omega
    have i2 : (4 : Int) ≤ (cap : Int) := by omega
    obtain ⟨b, off, rfl, _⟩ := hz.at (by omega)
    have CE := hide (equal_any b off cap gh c2 zs len w hz (by omega) hh)
    obtain ⟨R, hR⟩ : ∃ R, decide (zs.take 4 = headM) = R := ⟨_, rfl⟩
    rw [hR] at CE ⊢
    have hmx : cap ≤ 9223372036854775807 := by unfold maxLen at hm; omega
    clear hR hz hh hm
    go_enter Try.func19, Try.ntmps19
    go_wp2_with fail
    refine (unhide CE).mono ?_
    rintro e u ⟨rfl, rfl⟩
    go_wp2_with fail
    go_ret
    exact ⟨rfl, rfl⟩

theorem Row8.take {w : World} {ao : Option Addr} {len cap : Nat} {zs : List Int} (h : Row8 w ao len cap zs) (e : Nat) (he : e ≤ len) : Row8 w ao e cap (zs.take e) := by
  have hl := h.length
  refine ⟨by rw [List.length_take]; omega, fun ha => by have := h.none ha; omega, fun ad ha j u hj => ?_, fun n hn => h.small n (List.mem_of_mem_take hn), Nat.le_trans he h.le⟩
  refine h.cells ad ha j u ?_
  rw [List.getElem?_map] at hj ⊢
  have hlt : j < e := by
    cases hq : (zs.take e)[j]? with
    | none => rw [hq] at hj; cases hj
    | some z => have := (List.getElem?_eq_some_iff.1 hq).1; rw [List.length_take] at this; omega
  rw [List.getElem?_take_of_lt hlt] at hj
  exact hj

theorem at0 {w0 : World} {gr : Nat} {vb : Value} {bo : Option Addr} {e bc : Nat} {bs : List Int} (hy : Row8 w0 bo e bc bs) (hg : w0.heap.size ≤ gr) (hm : bc ≤ maxLen) : RdAt w0 gr vb (.slice bo e bc) 35 (rdOne 0 bs) (Jk 0) where
  call := fun I i m a C F X V w hi hJ h => by
    have : m.cs.length ≤ 100 := by rcases hJ.2 with ⟨_, j, _⟩ | ⟨h, _⟩ | ⟨h, _⟩ <;> omega
    exact readC_any w0 I gr vb bo e bc a C F X m V bs w h hy hg hm this
  next := fun i m a m' a' hJ h => by
    by_cases ha : a ≤ bs.length
    · exact (one_ok hy.small 0 i m a m' a' hJ ha h).1
    · exfalso
      unfold rdOne rdC takeR at h
      rw [if_pos rfl, if_pos (by omega)] at h
      cases h
  code := fun m a p h => by have := one_code h; omega
theorem no_lt {bs : List Int} {a : Nat} {most above n : Int} {nx : Nat} (h : rdNo bs a most above = .ok (n, nx)) : a ≤ bs.length := by
  unfold rdNo at h
  split at h
  · cases h
  · rename_i h0
    by_cases ha : a ≤ bs.length
    · exact ha
    · exfalso
      apply h0
      unfold uintAt
      rw [if_pos (by omega)]
      decide
theorem tx_lt {bs : List Int} {a : Nat} {most : Int} {t : ByteArray} {nx : Nat} (h : rdTx bs a most = .ok (t, nx)) : a ≤ bs.length := by
  unfold rdTx at h
  split at h
  · cases h
  · split at h
    · cases h
    · rename_i h0
      by_cases ha : a ≤ bs.length
      · exact ha
      · exfalso
        apply h0
        unfold textOfU uintAt
        rw [if_pos (show (a : Int) < 0 ∨ (bs.length : Int) < (a : Int) by omega)]
        simp
theorem at1 {w0 : World} {gr : Nat} {vb : Value} {bo : Option Addr} {e bc : Nat} {bs : List Int} (hy : Row8 w0 bo e bc bs) (hg : w0.heap.size ≤ gr) (hm : bc ≤ maxLen) : RdAt w0 gr vb (.slice bo e bc) 38 (rdOne 1 bs) (Jk 1) where
  call := fun I i m a C F X V w hi hJ h => by
    have : m.fs.length ≤ 100 := by rcases hJ.2 with ⟨h, _⟩ | ⟨_, _, j, _⟩ | ⟨h, _⟩ <;> omega
    exact readF_any w0 I gr vb bo e bc a C F X m V bs w h hy hg hm this
  next := fun i m a m' a' hJ h => by
    have ha : a ≤ bs.length := by
      have h' := h
      unfold rdOne at h'
      rw [if_neg (by omega), if_pos rfl] at h'
      unfold rdF at h'
      split at h'
      · cases h'
      · rename_i h1; exact no_lt h1
    exact (one_ok hy.small 1 i m a m' a' hJ ha h).1
  code := fun m a p h => by have := one_code h; omega
theorem at2 {w0 : World} {gr : Nat} {vb : Value} {bo : Option Addr} {e bc : Nat} {bs : List Int} (hy : Row8 w0 bo e bc bs) (hg : w0.heap.size ≤ gr) (hm : bc ≤ maxLen) : RdAt w0 gr vb (.slice bo e bc) 41 (rdOne 2 bs) (Jk 2) where
  call := fun I i m a C F X V w hi hJ h => by
    have : m.xs.length ≤ 100 ∧ m.fs.length ≤ 100 := by rcases hJ.2 with ⟨h, _⟩ | ⟨h, _⟩ | ⟨_, _, j, k⟩ <;> omega
    exact readX_any w0 I gr vb bo e bc a C F X m V bs w h hy hg hm this.1 this.2
  next := fun i m a m' a' hJ h => by
    have ha : a ≤ bs.length := by
      have h' := h
      unfold rdOne at h'
      rw [if_neg (by omega), if_neg (by omega)] at h'
      unfold rdX at h'
      split at h'
      · cases h'
      · rename_i h1; exact tx_lt h1
    exact (one_ok hy.small 2 i m a m' a' hJ ha h).1
  code := fun m a p h => by have := one_code h; omega

theorem RdM.guardB {w0 w w' : World} {I : Nat → Obj → Prop} {gr : Nat} {vb vy : Value} {a : Int} {C F X : Value} {m : Md} {V : Nat → List Value} (h : RdM w0 I w gr vb vy a C F X m V) {c : Array Value} {T : TypeId} (hb : BoxN w w' c T) : RdM w0 (IAnd I w.heap.size (.cells c T (0, 0))) w' gr vb vy a C F X m V := by
  have h1 := h.later hb.below
  refine ⟨h1.box, h1.old, h1.ownC, h1.ownF, h1.ownX, h1.row, h1.el, fun b d hd => ?_⟩
  rcases hd with hd | ⟨rfl, rfl⟩
  · exact h1.side b d hd
  · have hl := h.lt
    exact ⟨hb.row, by omega, fun e => by have := (h.ownC.lt _ e.symm).2; omega, fun e => by have := (h.ownF.lt _ e.symm).2; omega, fun e => by have := (h.ownX.lt _ e.symm).2; omega⟩

theorem o_le {zs : List Int} (_hs : ∀ c ∈ zs, 0 ≤ c ∧ c ≤ 255) {no : Int} {a b e : Nat} (h : rdO zs no a = .ok (b, e)) : e ≤ zs.length := by
  unfold rdO at h
  split at h
  · cases h
  · split at h
    · cases h
    · rename_i h1
      simp only [Except.ok.injEq, Prod.mk.injEq] at h
      simp only [not_or, Int.not_lt] at h1
      omega

/-- what reading the sections comes to -/
def decB (zs : List Int) (r : Except (Int × Int) (Md × Nat)) : Except (Int × Int) Md := match r with
  | .error e => .error e
  | .ok (m, a) => if a < zs.length then .error (93, a) else .ok m

def ResMd (w0 : World) (I : Nat → Obj → Prop) (gr : Nat) (vb : Value) (r : Except (Int × Int) Md) (e' : Ending) (w' : World) : Prop :=
  match r with
  | .error p => e' = .returned (.int .i64 p.1) ∧ ∃ vy C F X m V, RdM w0 I w' gr vb vy p.2 C F X m V
  | .ok m => e' = .returned (.int .i64 0) ∧ ∃ vy a C F X V, RdM w0 I w' gr vb vy a C F X m V

set_option maxRecDepth 100000 in
set_option maxHeartbeats 4000000 in
theorem module_any (w0 : World) (I : Nat → Obj → Prop) (gr : Nat) (ao : Option Addr) (len cap : Nat) (V : Nat → List Value) (zs : List Int) (w : World) (h : RdM w0 I w gr (.slice ao len cap) (.slice none 0 0) 0 (.slice none 0 0) (.slice none 0 0) (.slice none 0 0) ⟨[], [], []⟩ V) (hz : Row8 w0 ao len cap zs) (hg : w0.heap.size ≤ gr) (hm : cap ≤ maxLen) (hlen : len ≤ 65536) :
    Calls Try.prog 13 #[.pointer (some ⟨gr, 0, none⟩)] w fun e' w' => ResMd w0 I gr (.slice ao len cap) (if zs.take 4 ≠ headM then .error (91, 0) else decB zs (rdAllM zs 3 0 ⟨[], [], []⟩ 4)) e' w' := by
  obtain ⟨c0, c1, c2, c3, c4, c5⟩ := row_cells6 h.box
  have HH := hide h
  have HZ := hide hz
  have hl := hz.length
  have hsm := hz.small
  have HSM := hide hsm
  have kc := fun (w : World) (C : Array Value) (n c : Nat) => Lib.run_convert_bytes_const (P := Try.prog) w 22 5 C n c Try.underlying22 Try.underlying5
  clear h hz hsm
  obtain ⟨R1, b2⟩ := head_rowM w (4, 5)
  obtain ⟨w2, hw2⟩ : ∃ w2, w.alloc (.cells #[.int .u8 83, .int .u8 67, .int .u8 77, .int .u8 49] 5 (4, 5)) = w2 := ⟨_, rfl⟩
  rw [hw2] at R1 b2
  have HR2 := hide ((unhide HH).later b2)
  have CP := hide (prefix_any ao len cap w.heap.size 4 zs w2 ((unhide HR2).bytes (unhide HZ) hg) hm R1)
  clear R1 b2
  by_cases hhd : zs.take 4 = headM
  case neg =>
    rw [if_pos hhd]
    rw [decide_eq_false hhd] at CP
    go_enter Try.func13, Try.ntmps13
    go_wp2_with fail
    clear kc
    refine (unhide CP).mono ?_
    rintro e1 u1 ⟨rfl, rfl⟩
    clear hw2
    go_wp2_with fail
    go_ret
    exact ⟨rfl, _, _, _, _, _, _, unhide HR2⟩
  rw [if_neg (by simpa using hhd)]
  rw [decide_eq_true hhd] at CP
  have h4 : 4 ≤ len := by
    have := congrArg List.length hhd
    rw [List.length_take] at this
    have e : headM.length = 4 := rfl
    omega
  obtain ⟨R, hR⟩ : ∃ R, rdAllM zs 3 0 ⟨[], [], []⟩ 4 = R := ⟨_, rfl⟩
  rw [hR]
  have HRR := hide hR
  clear hR hhd
  go_enter Try.func13, Try.ntmps13
  go_wp2_with fail
  clear kc
  refine (unhide CP).mono ?_
  rintro e1 u1 ⟨rfl, rfl⟩
  clear hw2 CP c0 c1 c2 c3 c4 c5
  obtain ⟨c0, c1, c2, c3, c4, c5⟩ := row_cells6 (unhide HR2).box
  have fz := frozen_of_row u1 gr 2 _ _ (unhide HR2).box
  go_wp2_with fail
  have R3 := (unhide HR2).setAt 4
  obtain ⟨u3, hu3⟩ : ∃ u3, u1.setCell ⟨gr, 2, none⟩ (.int .i64 4) = u3 := ⟨_, rfl⟩
  rw [hu3] at R3 ⊢
  have H3 := hide R3
  clear R3 hu3 c0 c1 c2 c3 c4 c5 fz
  refine (sections_any _).mono ?_
  rintro e2 u4 ⟨rfl, BS⟩
  have R4 := (unhide H3).guardB BS
  obtain ⟨gs, hgs⟩ : ∃ gs, u3.heap.size = gs := ⟨_, rfl⟩
  rw [hgs] at R4 ⊢
  obtain ⟨J, hJ⟩ : ∃ J, IAnd I gs (.cells secRow 67 (0, 0)) = J := ⟨_, rfl⟩
  have HJ : Hid (J gs (.cells secRow 67 (0, 0)) ∧ ∀ b c, I b c → J b c) := hide (by rw [← hJ]; exact ⟨Or.inr ⟨rfl, rfl⟩, fun b c hb => Or.inl hb⟩)
  rw [hJ] at R4
  have H4 := hide R4
  clear hJ R4 BS hgs H3
  go_wp2_with fail
  go_loopw [20] (fun x wr => ∃ (i : Nat) (m' : Md) (a' : Nat) (vy C' F' X' : Value) (V' : Nat → List Value), x = .int .i64 (i : Int) ∧ Hid (i ≤ 3) ∧ Hid (RdM w0 J wr gr (.slice ao len cap) vy a' C' F' X' m' V') ∧ Hid (a' ≤ len ∧ (i ≤ 2 → Jk i 0 m')) ∧ Hid (rdAllM zs (3 - i) i m' a' = R)) (fun x _ => 3 - (intOf x).toNat)
  case atStart => exact ⟨0, _, 4, _, _, _, _, _, rfl, hide (by omega), H4, hide ⟨h4, fun _ => J_start⟩, HRR⟩
  case round =>
    clear H4
    obtain ⟨i, m', a', vy, C', F', X', V', rfl, HI, HM, HA, HN⟩ := hrel
    rcases (show i = 0 ∨ i = 1 ∨ i = 2 ∨ i = 3 by have := unhide HI; omega) with rfl | rfl | rfl | hi3
    · have k0 : wr.cell? ⟨gs, 0, none⟩ = some (.int .i64 100) := sec_cells ((unhide HM).side gs _ (unhide HJ).1).1 0 _ rfl
      have k1 : wr.cell? ⟨gs, 1, none⟩ = some (.func (.func 33) #[] #[]) := sec_cells ((unhide HM).side gs _ (unhide HJ).1).1 1 _ rfl
      have k2 : wr.cell? ⟨gs, 2, none⟩ = some (.func (.func 34) #[] #[]) := sec_cells ((unhide HM).side gs _ (unhide HJ).1).1 2 _ rfl
      have k3 : wr.cell? ⟨gs, 3, none⟩ = some (.func (.func 35) #[] #[]) := sec_cells ((unhide HM).side gs _ (unhide HJ).1).1 3 _ rfl
      obtain ⟨q, hq⟩ : ∃ q, wr.heap.size = q := ⟨_, rfl⟩
      have G1 := (unhide HM).guard #[.int .i64 100, .func (.func 33) #[] #[], .func (.func 34) #[] #[], .func (.func 35) #[] #[]] 67
      obtain ⟨v1, hv1⟩ : ∃ v1, wr.alloc (.cells #[.int .i64 100, .func (.func 33) #[] #[], .func (.func 34) #[] #[], .func (.func 35) #[] #[]] 67) = v1 := ⟨_, rfl⟩
      rw [hv1, hq] at G1
      obtain ⟨K, hK⟩ : ∃ K, IAnd J q (.cells #[.int .i64 100, .func (.func 33) #[] #[], .func (.func 34) #[] #[], .func (.func 35) #[] #[]] 67 (0, 0)) = K := ⟨_, rfl⟩
      have HK : Hid (K q (.cells #[.int .i64 100, .func (.func 33) #[] #[], .func (.func 34) #[] #[], .func (.func 35) #[] #[]] 67 (0, 0)) ∧ ∀ b c, J b c → K b c) := hide (by rw [← hK]; exact ⟨Or.inr ⟨rfl, rfl⟩, fun b c hb => Or.inl hb⟩)
      rw [hK] at G1
      clear hK
      have CO := hide (open_any w0 K gr ao len cap vy a' C' F' X' m' V' zs 1 v1 G1 (unhide HZ) hg hm hlen (unhide HA).1)
      have hN := unhide HN
      rw [show 3 - 0 = (3 - 1) + 1 by omega, rdAllM] at hN
      have hS : rdS zs 0 m' a' = match rdO zs 1 a' with | .error p => .error (91, p) | .ok (b, e) => rdP (zs.take e) 100 (rdOne 0 (zs.take e)) m' b := rfl
      have HG1 := hide G1
      clear G1
      cases hO : rdO zs 1 a' with
      | error p =>
        rw [hO] at CO hS
        dsimp only at hS
        rw [hS] at hN
        dsimp only at hN
        have HR' := hide hN.symm
        clear hN hS hO
        go_wp2_with fail
        refine (secNo_0 _).mono ?_
        rintro e3 u5 ⟨rfl, rfl⟩
        go_wp2_with fail
        refine (unhide CO).mono ?_
        rintro e4 u6 ⟨rfl, R6⟩
        have H6 := hide R6
        clear R6 CO k0 k1 k2 k3
        go_wp2_with fail
        go_ret
        rw [unhide HR']
        exact ⟨rfl, _, _, _, _, _, _, (unhide H6).less (fun b c hb => (unhide HK).2 b c ((unhide HJ).2 b c hb))⟩
      | ok be =>
        obtain ⟨b, e⟩ := be
        rw [hO] at CO hS
        dsimp only at hS
        have hel : e ≤ len := by rw [← hl]; exact o_le (unhide HSM) hO
        have hY : Row8 w0 ao e cap (zs.take e) := (unhide HZ).take e hel
        have HY := hide hY
        have hRA := at0 (gr := gr) (vb := .slice ao len cap) hY hg hm
        have HRA := hide hRA
        clear hO hRA hY
        cases hP : rdP (zs.take e) 100 (rdOne 0 (zs.take e)) m' b with
        | error p =>
          have hSp : rdS zs 0 m' a' = .error p := by rw [hS]; exact hP
          have hcode := (s_bad (unhide HSM) 0 m' a' (by rw [hl]; exact (unhide HA).1) p ((unhide HA).2 (by omega)) hSp).2
          have kne : ¬ p.1 = 0 := by omega
          rw [hSp] at hN
          dsimp only at hN
          obtain ⟨pc, pp⟩ := p
          dsimp only at kne
          have HR' := hide hN.symm
          have HP := hide hP
          clear hN hS hSp hcode hP
          go_wp2_with fail
          refine (secNo_0 _).mono ?_
          rintro e3 u5 ⟨rfl, rfl⟩
          go_wp2_with fail
          refine (unhide CO).mono ?_
          rintro e4 u6 ⟨rfl, R6⟩
          obtain ⟨d0, d1, d2, d3⟩ := row_cell4 (R6.side q _ (unhide HK).1).1
          have CP := hide (parts0_any w0 K gr (.slice ao len cap) ao e cap b C' F' X' m' V' (zs.take e) 100 33 34 (rdOne 0 (zs.take e)) (Jk 0) u6 R6 (unhide HY) hg hm (by omega) ((unhide HA).2 (by omega)) (unhide HRA))
          rw [unhide HP] at CP
          clear R6 CO k0 k1 k2 k3
          go_wp2_with fail
          refine (unhide CP).mono ?_
          rintro e5 u7 ⟨rfl, R7⟩
          have H7 := hide R7
          clear R7 CP d0 d1 d2 d3
          dsimp only
          go_wp2_with fail
          go_ret
          rw [unhide HR']
          obtain ⟨C7, F7, X7, m7, V7, R7⟩ := unhide H7
          exact ⟨rfl, _, _, _, _, _, _, R7.less (fun b c hb => (unhide HK).2 b c ((unhide HJ).2 b c hb))⟩
        | ok ma =>
          obtain ⟨m2, a2⟩ := ma
          have hSp : rdS zs 0 m' a' = .ok (m2, a2) := by rw [hS]; exact hP
          obtain ⟨nn, s1, s2, s3, s4, s5, s6⟩ := s_ok (unhide HSM) 0 (by omega) m' a' m2 a2 ((unhide HA).2 (by omega)) hSp
          rw [hSp] at hN
          dsimp only at hN
          have HA2 : Hid (a2 ≤ len ∧ (1 ≤ 2 → Jk 1 0 m2)) := hide ⟨by rw [← hl]; exact s5, fun _ => J_next s1 s2 (by omega)⟩
          have HN2 := hide hN
          have HP := hide hP
          clear hN hS hSp s1 s2 s3 s4 s5 s6 hP
          go_wp2_with fail
          refine (secNo_0 _).mono ?_
          rintro e3 u5 ⟨rfl, rfl⟩
          go_wp2_with fail
          refine (unhide CO).mono ?_
          rintro e4 u6 ⟨rfl, R6⟩
          obtain ⟨d0, d1, d2, d3⟩ := row_cell4 (R6.side q _ (unhide HK).1).1
          have CP := hide (parts0_any w0 K gr (.slice ao len cap) ao e cap b C' F' X' m' V' (zs.take e) 100 33 34 (rdOne 0 (zs.take e)) (Jk 0) u6 R6 (unhide HY) hg hm (by omega) ((unhide HA).2 (by omega)) (unhide HRA))
          rw [unhide HP] at CP
          clear R6 CO k0 k1 k2 k3
          go_wp2_with fail
          refine (unhide CP).mono ?_
          rintro e5 u7 ⟨rfl, C7, F7, X7, V7, R7⟩
          have H7 := hide (R7.less (unhide HK).2)
          clear R7 CP d0 d1 d2 d3
          go_wp2_with fail
          go_roundw
          case rel => exact ⟨1, m2, a2, _, C7, F7, X7, V7, rfl, hide (by omega), H7, HA2, HN2⟩
          case measure => simp [intOf]
    · have k0 : wr.cell? ⟨gs, 4, none⟩ = some (.int .i64 24) := sec_cells ((unhide HM).side gs _ (unhide HJ).1).1 4 _ rfl
      have k1 : wr.cell? ⟨gs, 5, none⟩ = some (.func (.func 36) #[] #[]) := sec_cells ((unhide HM).side gs _ (unhide HJ).1).1 5 _ rfl
      have k2 : wr.cell? ⟨gs, 6, none⟩ = some (.func (.func 37) #[] #[]) := sec_cells ((unhide HM).side gs _ (unhide HJ).1).1 6 _ rfl
      have k3 : wr.cell? ⟨gs, 7, none⟩ = some (.func (.func 38) #[] #[]) := sec_cells ((unhide HM).side gs _ (unhide HJ).1).1 7 _ rfl
      obtain ⟨q, hq⟩ : ∃ q, wr.heap.size = q := ⟨_, rfl⟩
      have G1 := (unhide HM).guard #[.int .i64 24, .func (.func 36) #[] #[], .func (.func 37) #[] #[], .func (.func 38) #[] #[]] 67
      obtain ⟨v1, hv1⟩ : ∃ v1, wr.alloc (.cells #[.int .i64 24, .func (.func 36) #[] #[], .func (.func 37) #[] #[], .func (.func 38) #[] #[]] 67) = v1 := ⟨_, rfl⟩
      rw [hv1, hq] at G1
      obtain ⟨K, hK⟩ : ∃ K, IAnd J q (.cells #[.int .i64 24, .func (.func 36) #[] #[], .func (.func 37) #[] #[], .func (.func 38) #[] #[]] 67 (0, 0)) = K := ⟨_, rfl⟩
      have HK : Hid (K q (.cells #[.int .i64 24, .func (.func 36) #[] #[], .func (.func 37) #[] #[], .func (.func 38) #[] #[]] 67 (0, 0)) ∧ ∀ b c, J b c → K b c) := hide (by rw [← hK]; exact ⟨Or.inr ⟨rfl, rfl⟩, fun b c hb => Or.inl hb⟩)
      rw [hK] at G1
      clear hK
      have CO := hide (open_any w0 K gr ao len cap vy a' C' F' X' m' V' zs 2 v1 G1 (unhide HZ) hg hm hlen (unhide HA).1)
      have hN := unhide HN
      rw [show 3 - 1 = (3 - 2) + 1 by omega, rdAllM] at hN
      have hS : rdS zs 1 m' a' = match rdO zs 2 a' with | .error p => .error (91, p) | .ok (b, e) => rdP (zs.take e) 24 (rdOne 1 (zs.take e)) m' b := rfl
      have HG1 := hide G1
      clear G1
      cases hO : rdO zs 2 a' with
      | error p =>
        rw [hO] at CO hS
        dsimp only at hS
        rw [hS] at hN
        dsimp only at hN
        have HR' := hide hN.symm
        clear hN hS hO
        go_wp2_with fail
        refine (secNo_1 _).mono ?_
        rintro e3 u5 ⟨rfl, rfl⟩
        go_wp2_with fail
        refine (unhide CO).mono ?_
        rintro e4 u6 ⟨rfl, R6⟩
        have H6 := hide R6
        clear R6 CO k0 k1 k2 k3
        go_wp2_with fail
        go_ret
        rw [unhide HR']
        exact ⟨rfl, _, _, _, _, _, _, (unhide H6).less (fun b c hb => (unhide HK).2 b c ((unhide HJ).2 b c hb))⟩
      | ok be =>
        obtain ⟨b, e⟩ := be
        rw [hO] at CO hS
        dsimp only at hS
        have hel : e ≤ len := by rw [← hl]; exact o_le (unhide HSM) hO
        have hY : Row8 w0 ao e cap (zs.take e) := (unhide HZ).take e hel
        have HY := hide hY
        have hRA := at1 (gr := gr) (vb := .slice ao len cap) hY hg hm
        have HRA := hide hRA
        clear hO hRA hY
        cases hP : rdP (zs.take e) 24 (rdOne 1 (zs.take e)) m' b with
        | error p =>
          have hSp : rdS zs 1 m' a' = .error p := by rw [hS]; exact hP
          have hcode := (s_bad (unhide HSM) 1 m' a' (by rw [hl]; exact (unhide HA).1) p ((unhide HA).2 (by omega)) hSp).2
          have kne : ¬ p.1 = 0 := by omega
          rw [hSp] at hN
          dsimp only at hN
          obtain ⟨pc, pp⟩ := p
          dsimp only at kne
          have HR' := hide hN.symm
          have HP := hide hP
          clear hN hS hSp hcode hP
          go_wp2_with fail
          refine (secNo_1 _).mono ?_
          rintro e3 u5 ⟨rfl, rfl⟩
          go_wp2_with fail
          refine (unhide CO).mono ?_
          rintro e4 u6 ⟨rfl, R6⟩
          obtain ⟨d0, d1, d2, d3⟩ := row_cell4 (R6.side q _ (unhide HK).1).1
          have CP := hide (parts1_any w0 K gr (.slice ao len cap) ao e cap b C' F' X' m' V' (zs.take e) 24 36 37 (rdOne 1 (zs.take e)) (Jk 1) u6 R6 (unhide HY) hg hm (by omega) ((unhide HA).2 (by omega)) (unhide HRA))
          rw [unhide HP] at CP
          clear R6 CO k0 k1 k2 k3
          go_wp2_with fail
          refine (unhide CP).mono ?_
          rintro e5 u7 ⟨rfl, R7⟩
          have H7 := hide R7
          clear R7 CP d0 d1 d2 d3
          dsimp only
          go_wp2_with fail
          go_ret
          rw [unhide HR']
          obtain ⟨C7, F7, X7, m7, V7, R7⟩ := unhide H7
          exact ⟨rfl, _, _, _, _, _, _, R7.less (fun b c hb => (unhide HK).2 b c ((unhide HJ).2 b c hb))⟩
        | ok ma =>
          obtain ⟨m2, a2⟩ := ma
          have hSp : rdS zs 1 m' a' = .ok (m2, a2) := by rw [hS]; exact hP
          obtain ⟨nn, s1, s2, s3, s4, s5, s6⟩ := s_ok (unhide HSM) 1 (by omega) m' a' m2 a2 ((unhide HA).2 (by omega)) hSp
          rw [hSp] at hN
          dsimp only at hN
          have HA2 : Hid (a2 ≤ len ∧ (2 ≤ 2 → Jk 2 0 m2)) := hide ⟨by rw [← hl]; exact s5, fun _ => J_next s1 s2 (by omega)⟩
          have HN2 := hide hN
          have HP := hide hP
          clear hN hS hSp s1 s2 s3 s4 s5 s6 hP
          go_wp2_with fail
          refine (secNo_1 _).mono ?_
          rintro e3 u5 ⟨rfl, rfl⟩
          go_wp2_with fail
          refine (unhide CO).mono ?_
          rintro e4 u6 ⟨rfl, R6⟩
          obtain ⟨d0, d1, d2, d3⟩ := row_cell4 (R6.side q _ (unhide HK).1).1
          have CP := hide (parts1_any w0 K gr (.slice ao len cap) ao e cap b C' F' X' m' V' (zs.take e) 24 36 37 (rdOne 1 (zs.take e)) (Jk 1) u6 R6 (unhide HY) hg hm (by omega) ((unhide HA).2 (by omega)) (unhide HRA))
          rw [unhide HP] at CP
          clear R6 CO k0 k1 k2 k3
          go_wp2_with fail
          refine (unhide CP).mono ?_
          rintro e5 u7 ⟨rfl, C7, F7, X7, V7, R7⟩
          have H7 := hide (R7.less (unhide HK).2)
          clear R7 CP d0 d1 d2 d3
          go_wp2_with fail
          go_roundw
          case rel => exact ⟨2, m2, a2, _, C7, F7, X7, V7, rfl, hide (by omega), H7, HA2, HN2⟩
          case measure => simp [intOf]
    · have k0 : wr.cell? ⟨gs, 8, none⟩ = some (.int .i64 24) := sec_cells ((unhide HM).side gs _ (unhide HJ).1).1 8 _ rfl
      have k1 : wr.cell? ⟨gs, 9, none⟩ = some (.func (.func 39) #[] #[]) := sec_cells ((unhide HM).side gs _ (unhide HJ).1).1 9 _ rfl
      have k2 : wr.cell? ⟨gs, 10, none⟩ = some (.func (.func 40) #[] #[]) := sec_cells ((unhide HM).side gs _ (unhide HJ).1).1 10 _ rfl
      have k3 : wr.cell? ⟨gs, 11, none⟩ = some (.func (.func 41) #[] #[]) := sec_cells ((unhide HM).side gs _ (unhide HJ).1).1 11 _ rfl
      obtain ⟨q, hq⟩ : ∃ q, wr.heap.size = q := ⟨_, rfl⟩
      have G1 := (unhide HM).guard #[.int .i64 24, .func (.func 39) #[] #[], .func (.func 40) #[] #[], .func (.func 41) #[] #[]] 67
      obtain ⟨v1, hv1⟩ : ∃ v1, wr.alloc (.cells #[.int .i64 24, .func (.func 39) #[] #[], .func (.func 40) #[] #[], .func (.func 41) #[] #[]] 67) = v1 := ⟨_, rfl⟩
      rw [hv1, hq] at G1
      obtain ⟨K, hK⟩ : ∃ K, IAnd J q (.cells #[.int .i64 24, .func (.func 39) #[] #[], .func (.func 40) #[] #[], .func (.func 41) #[] #[]] 67 (0, 0)) = K := ⟨_, rfl⟩
      have HK : Hid (K q (.cells #[.int .i64 24, .func (.func 39) #[] #[], .func (.func 40) #[] #[], .func (.func 41) #[] #[]] 67 (0, 0)) ∧ ∀ b c, J b c → K b c) := hide (by rw [← hK]; exact ⟨Or.inr ⟨rfl, rfl⟩, fun b c hb => Or.inl hb⟩)
      rw [hK] at G1
      clear hK
      have CO := hide (open_any w0 K gr ao len cap vy a' C' F' X' m' V' zs 3 v1 G1 (unhide HZ) hg hm hlen (unhide HA).1)
      have hN := unhide HN
      rw [show 3 - 2 = (3 - 3) + 1 by omega, rdAllM] at hN
      have hS : rdS zs 2 m' a' = match rdO zs 3 a' with | .error p => .error (91, p) | .ok (b, e) => rdP (zs.take e) 24 (rdOne 2 (zs.take e)) m' b := rfl
      have HG1 := hide G1
      clear G1
      cases hO : rdO zs 3 a' with
      | error p =>
        rw [hO] at CO hS
        dsimp only at hS
        rw [hS] at hN
        dsimp only at hN
        have HR' := hide hN.symm
        clear hN hS hO
        go_wp2_with fail
        refine (secNo_2 _).mono ?_
        rintro e3 u5 ⟨rfl, rfl⟩
        go_wp2_with fail
        refine (unhide CO).mono ?_
        rintro e4 u6 ⟨rfl, R6⟩
        have H6 := hide R6
        clear R6 CO k0 k1 k2 k3
        go_wp2_with fail
        go_ret
        rw [unhide HR']
        exact ⟨rfl, _, _, _, _, _, _, (unhide H6).less (fun b c hb => (unhide HK).2 b c ((unhide HJ).2 b c hb))⟩
      | ok be =>
        obtain ⟨b, e⟩ := be
        rw [hO] at CO hS
        dsimp only at hS
        have hel : e ≤ len := by rw [← hl]; exact o_le (unhide HSM) hO
        have hY : Row8 w0 ao e cap (zs.take e) := (unhide HZ).take e hel
        have HY := hide hY
        have hRA := at2 (gr := gr) (vb := .slice ao len cap) hY hg hm
        have HRA := hide hRA
        clear hO hRA hY
        cases hP : rdP (zs.take e) 24 (rdOne 2 (zs.take e)) m' b with
        | error p =>
          have hSp : rdS zs 2 m' a' = .error p := by rw [hS]; exact hP
          have hcode := (s_bad (unhide HSM) 2 m' a' (by rw [hl]; exact (unhide HA).1) p ((unhide HA).2 (by omega)) hSp).2
          have kne : ¬ p.1 = 0 := by omega
          rw [hSp] at hN
          dsimp only at hN
          obtain ⟨pc, pp⟩ := p
          dsimp only at kne
          have HR' := hide hN.symm
          have HP := hide hP
          clear hN hS hSp hcode hP
          go_wp2_with fail
          refine (secNo_2 _).mono ?_
          rintro e3 u5 ⟨rfl, rfl⟩
          go_wp2_with fail
          refine (unhide CO).mono ?_
          rintro e4 u6 ⟨rfl, R6⟩
          obtain ⟨d0, d1, d2, d3⟩ := row_cell4 (R6.side q _ (unhide HK).1).1
          have CP := hide (parts2_any w0 K gr (.slice ao len cap) ao e cap b C' F' X' m' V' (zs.take e) 24 39 40 (rdOne 2 (zs.take e)) (Jk 2) u6 R6 (unhide HY) hg hm (by omega) ((unhide HA).2 (by omega)) (unhide HRA))
          rw [unhide HP] at CP
          clear R6 CO k0 k1 k2 k3
          go_wp2_with fail
          refine (unhide CP).mono ?_
          rintro e5 u7 ⟨rfl, R7⟩
          have H7 := hide R7
          clear R7 CP d0 d1 d2 d3
          dsimp only
          go_wp2_with fail
          go_ret
          rw [unhide HR']
          obtain ⟨C7, F7, X7, m7, V7, R7⟩ := unhide H7
          exact ⟨rfl, _, _, _, _, _, _, R7.less (fun b c hb => (unhide HK).2 b c ((unhide HJ).2 b c hb))⟩
        | ok ma =>
          obtain ⟨m2, a2⟩ := ma
          have hSp : rdS zs 2 m' a' = .ok (m2, a2) := by rw [hS]; exact hP
          obtain ⟨nn, s1, s2, s3, s4, s5, s6⟩ := s_ok (unhide HSM) 2 (by omega) m' a' m2 a2 ((unhide HA).2 (by omega)) hSp
          rw [hSp] at hN
          dsimp only at hN
          have HA2 : Hid (a2 ≤ len ∧ (3 ≤ 2 → Jk 3 0 m2)) := hide ⟨by rw [← hl]; exact s5, fun _ => by omega⟩
          have HN2 := hide hN
          have HP := hide hP
          clear hN hS hSp s1 s2 s3 s4 s5 s6 hP
          go_wp2_with fail
          refine (secNo_2 _).mono ?_
          rintro e3 u5 ⟨rfl, rfl⟩
          go_wp2_with fail
          refine (unhide CO).mono ?_
          rintro e4 u6 ⟨rfl, R6⟩
          obtain ⟨d0, d1, d2, d3⟩ := row_cell4 (R6.side q _ (unhide HK).1).1
          have CP := hide (parts2_any w0 K gr (.slice ao len cap) ao e cap b C' F' X' m' V' (zs.take e) 24 39 40 (rdOne 2 (zs.take e)) (Jk 2) u6 R6 (unhide HY) hg hm (by omega) ((unhide HA).2 (by omega)) (unhide HRA))
          rw [unhide HP] at CP
          clear R6 CO k0 k1 k2 k3
          go_wp2_with fail
          refine (unhide CP).mono ?_
          rintro e5 u7 ⟨rfl, C7, F7, X7, V7, R7⟩
          have H7 := hide (R7.less (unhide HK).2)
          clear R7 CP d0 d1 d2 d3
          go_wp2_with fail
          go_roundw
          case rel => exact ⟨3, m2, a2, _, C7, F7, X7, V7, rfl, hide (by omega), H7, HA2, HN2⟩
          case measure => simp [intOf]
    · have j0 : ¬ (i : Int) < 3 := by omega
      have hN := unhide HN
      rw [hi3] at hN
      simp only [Nat.sub_self, rdAllM] at hN
      have HR' := hide hN.symm
      obtain ⟨c0, c1, c2, c3, c4, c5⟩ := row_cells6 (unhide HM).box
      clear hN hi3
      by_cases hae : a' < len
      · have j2 : (a' : Int) < (len : Int) := by omega
        go_upto_region 14 with fail
        go_quiet (fail)
        go_wp2_with fail
        go_ret
        rw [unhide HR']
        unfold decB
        dsimp only
        rw [if_pos (by omega)]
        exact ⟨rfl, _, _, _, _, _, _, ((unhide HM).drew _).less (unhide HJ).2⟩
      · have j2 : ¬ (a' : Int) < (len : Int) := by omega
        go_upto_region 14 with fail
        go_quiet (fail)
        go_wp2_with fail
        go_ret
        rw [unhide HR']
        unfold decB
        dsimp only
        rw [if_neg (by omega)]
        exact ⟨rfl, _, _, _, _, _, _, ((unhide HM).drew _).less (unhide HJ).2⟩
end Go.Proofs.Ytfdnhpmldnmncaa

namespace Go.Proofs.Ytfdnhpmldnmncaa
open Go.RowKit

/-- three results, the first of which lies in memory -/
theorem ret_cttM {P : Program} {fn : Func} {p u v : Tmp} {T : TypeId} (h : fn.results = #[.cell p T, .tmp u, .tmp v]) (tmps : Array Value) (w : World) (g : Nat) (c : Array Value) (d : TypeDesc) (t : TypeId)
    (hp : tmps.getD p undef = .pointer (some ⟨g, 0, none⟩)) (hb : w.heap[g]? = some (.cells c t (0, 0))) (hu : P.underlying T = some d) (hd : (match d with | .struct _ | .array _ _ => true | _ => false) = true) (hi : (P.info? T).map (·.size) = some c.size) :
    (results fn tmps).run P w = .ok (.tuple #[.agg c, tmps.getD u undef, tmps.getD v undef]) w := by
  have hl := run_loadVar_row (P := P) w g t T c (0, 0) _ hb hu hd hi
  have hp' : tmps[p]?.getD undef = .pointer (some ⟨g, 0, none⟩) := by simpa using hp
  simp [results, h, hp', asAddr, Result.andThen, hl]

theorem size_md : (Try.prog.info? 28).map (·.size) = some 3 := by kernel_rfl

theorem flatk_at {k : Nat} : ∀ (rs : List (List Value)), (∀ r ∈ rs, r.length = k) → ∀ (i : Nat) (r : List Value) (j : Nat) (v : Value), rs[i]? = some r → r[j]? = some v → rs.flatten[i * k + j]? = some v
  | [], _, i, r, j, v, h, _ => by simp at h
  | x :: rs, hk, i, r, j, v, h, hv => by
    have hx := hk x List.mem_cons_self
    cases i with
    | zero =>
      simp at h
      subst h
      rw [List.flatten_cons, Nat.zero_mul, Nat.zero_add, List.getElem?_append_left (List.getElem?_eq_some_iff.1 hv).1]
      exact hv
    | succ i =>
      rw [List.flatten_cons, List.getElem?_append_right (by rw [hx, Nat.succ_mul]; omega), hx, show (i + 1) * k + j - k = i * k + j by rw [Nat.succ_mul]; omega]
      exact flatk_at rs (fun y hy => hk y (List.mem_cons_of_mem _ hy)) i r j v (by simpa using h) hv

theorem add_add (b i j : Nat) : ((⟨b, 0, none⟩ : Addr).add i).add j = (⟨b, 0, none⟩ : Addr).add (i + j) := by
  unfold Addr.add
  by_cases h0 : i = 0
  · by_cases h1 : j = 0
    · simp [h0, h1]
    · simp [h0, h1]
  · by_cases h1 : j = 0
    · simp [h0, h1]
    · simp [h0, h1]

theorem isT_of_own {w : World} {base k : Nat} {e : TypeId} {v : Value} {rs : List (List Value)} (h : w.ownsRow base e k v rs.length rs.flatten) (hk : ∀ r ∈ rs, r.length = k) (hl : rs.length ≤ 140737488351232) :
    ∃ al cl, v = .slice al rs.length cl ∧ IsT w (fun b => base ≤ b ∧ b < w.heap.size) k rs al cl := by
  obtain ⟨al, cl, hv, n1, n2, n3, n4⟩ := slice_form h
  refine ⟨al, cl, hv, n1, n2, hl, fun a ha i r hr => ?_⟩
  obtain ⟨h1, h2⟩ := n4 a ha
  refine ⟨h.lt _ h1, fun j u hu => ?_⟩
  rw [h2, add_add]
  exact h.cells h1 (i * k + j) u (flatk_at rs hk i r j u hr hu)

theorem isC_of_own {w : World} {base : Nat} {e : TypeId} {C F X : Value} {cs : List Vl} {V : Nat → List Value} (h : w.ownsRow base e 5 C cs.length (flat V cs.length)) (hr : ∀ c, c < cs.length → (V c).length = 5) (hl : cs.length ≤ 140737488351232) (el : ∀ c y, cs[c]? = some y → IsP w (FreeM base w.heap.size C F X) y (.agg (V c).toArray)) :
    ∃ al cl, C = .slice al cs.length cl ∧ IsC w (fun b => base ≤ b ∧ b < w.heap.size) cs al cl := by
  obtain ⟨al, cl, hv, n1, n2, n3, n4⟩ := slice_form h
  refine ⟨al, cl, hv, IsP.of (V := V) ⟨by omega, by omega, by decide, n1, fun _ => ⟨rfl, rfl⟩, n2, Nat.le_refl _, hl, by simp, by simp, ?_, hr, (fun a h => by cases h), (fun t h => by cases h)⟩ (fun c y hy => (el c y hy).weak (fun b hP => ⟨hP.1, hP.2.1⟩))⟩
  intro a ha i hi
  obtain ⟨h1, h2⟩ := n4 a ha
  refine ⟨h.lt _ h1, fun j u hu => ?_⟩
  rw [h2, add_add]
  exact h.cells h1 (i * 5 + j) u (flat_at V cs.length hr i hi j u hu)

theorem RdM.made {w0 w : World} {I : Nat → Obj → Prop} {gr : Nat} {vb vy : Value} {a : Int} {C F X : Value} {m : Md} {V : Nat → List Value} (h : RdM w0 I w gr vb vy a C F X m V) (hf : formedB m = true) :
    ∃ a1 c1 a2 c2 a3 c3, C = .slice a1 m.cs.length c1 ∧ F = .slice a2 m.fs.length c2 ∧ X = .slice a3 m.xs.length c3 ∧ IsM w (fun b => gr + 1 ≤ b ∧ b < w.heap.size) m a1 c1 a2 c2 a3 c3 := by
  obtain ⟨p1, p2, p3, p4, p5, p6⟩ := formed_parts hf
  obtain ⟨a1, c1, e1, i1⟩ := isC_of_own h.ownC h.row (by omega) h.el
  have o2 : w.ownsRow (gr + 1) 53 4 F (m.fs.map fnV).length (m.fs.map fnV).flatten := by rw [List.length_map, ← List.flatMap_def]; exact h.ownF
  have o3 : w.ownsRow (gr + 1) 55 2 X (m.xs.map exV).length (m.xs.map exV).flatten := by rw [List.length_map, ← List.flatMap_def]; exact h.ownX
  obtain ⟨a2, c2, e2, i2⟩ := isT_of_own o2 (fun r hr => by obtain ⟨f, _, rfl⟩ := List.mem_map.1 hr; rfl) (by rw [List.length_map]; omega)
  obtain ⟨a3, c3, e3, i3⟩ := isT_of_own o3 (fun r hr => by obtain ⟨f, _, rfl⟩ := List.mem_map.1 hr; rfl) (by rw [List.length_map]; omega)
  rw [List.length_map] at e2 e3
  refine ⟨a1, c1, a2, c2, a3, c3, e1, e2, e3, i1, i2, i3, fun f hf => ?_, fun x hx => by have := (p6 x hx).1; omega⟩
  obtain ⟨p, l, s, t⟩ := f
  have := (fn_parts (p5 _ hf)).2.2.2.2.2.2
  dsimp only
  omega

theorem three_set (w : World) (g : Nat) (T : TypeId) (c0 c1 c2 x0 x1 x2 : Value) (h : w.heap[g]? = some (.cells #[c0, c1, c2] T (0, 0))) :
    (((w.setCell ⟨g, 0, none⟩ x0).setCell ⟨g, 1, none⟩ x1).setCell ⟨g, 2, none⟩ x2).heap[g]? = some (.cells #[x0, x1, x2] T (0, 0)) := by
  have h1 := heap_setCell_same w g 0 _ T x0 h
  have h2 := heap_setCell_same _ g 1 _ T x1 h1
  have h3 := heap_setCell_same _ g 2 _ T x2 h2
  rw [h3]
  rfl
theorem three_other (w : World) (g q : Nat) (x0 x1 x2 : Value) (h : q ≠ g) : (((w.setCell ⟨g, 0, none⟩ x0).setCell ⟨g, 1, none⟩ x1).setCell ⟨g, 2, none⟩ x2).heap[q]? = w.heap[q]? := by
  rw [heap_setCell_other _ _ _ _ h, heap_setCell_other _ _ _ _ h, heap_setCell_other _ _ _ _ h]
theorem three_below {B g : Nat} {a w : World} (h : Below B a w) (hg : B ≤ g) (x0 x1 x2 : Value) : Below B a (((w.setCell ⟨g, 0, none⟩ x0).setCell ⟨g, 1, none⟩ x1).setCell ⟨g, 2, none⟩ x2) :=
  ((h.setCell (p := ⟨g, 0, none⟩) hg x0).setCell (p := ⟨g, 1, none⟩) hg x1).setCell (p := ⟨g, 2, none⟩) hg x2

/-- what Decode answers -/
def ResD (w : World) (r : Except (Int × Int) Md) (e : Ending) (w' : World) : Prop :=
  match r with
  | .error p => e = .returned (.tuple #[.agg #[.slice none 0 0, .slice none 0 0, .slice none 0 0], .int .i64 p.2, .int .i64 p.1]) ∧ Below w.heap.size w w'
  | .ok m => ∃ (a1 a2 a3 : Option Addr) (c1 c2 c3 : Nat), e = .returned (.tuple #[.agg #[.slice a1 m.cs.length c1, .slice a2 m.fs.length c2, .slice a3 m.xs.length c3], .int .i64 0, .int .i64 0]) ∧ IsM w' (fun b => w.heap.size ≤ b ∧ b < w'.heap.size) m a1 c1 a2 c2 a3 c3 ∧ Below w.heap.size w w'

theorem start_rd (w0 : World) (ao : Option Addr) (len cap : Nat) : RdM w0 (fun _ _ => False) (w0.alloc (.cells #[.slice ao len cap, .slice none 0 0, .int .i64 0, .slice none 0 0, .slice none 0 0, .slice none 0 0] 40)) w0.heap.size (.slice ao len cap) (.slice none 0 0) 0 (.slice none 0 0) (.slice none 0 0) (.slice none 0 0) ⟨[], [], []⟩ (fun _ => []) where
  box := heap_alloc_new w0 _
  old := (Below.refl _ _).alloc (Nat.le_refl _) _
  ownC := World.ownsRow_nil _ _ _ _
  ownF := World.ownsRow_nil _ _ _ _
  ownX := World.ownsRow_nil _ _ _ _
  row := fun c hc => by simp at hc
  el := fun c y hy => by simp at hy
  side := fun b c h => h.elim

set_option maxRecDepth 100000 in
set_option maxHeartbeats 2000000 in
theorem decodeM_any (ao : Option Addr) (len cap : Nat) (zs : List Int) (w : World) (hz : Row8 w ao len cap zs) (hm : cap ≤ maxLen) :
    Calls Try.prog 7 #[.slice ao len cap] w fun e w' => ResD w (decM zs) e w' := by
  have hl := hz.length
  obtain ⟨g, hg⟩ : ∃ g, w.heap.size = g := ⟨_, rfl⟩
  have BX := BoxN.mk' w #[.slice none 0 0, .slice none 0 0, .slice none 0 0] 28
  obtain ⟨w1, hw1⟩ : ∃ w1, w.alloc (.cells #[.slice none 0 0, .slice none 0 0, .slice none 0 0] 28) = w1 := ⟨_, rfl⟩
  rw [hw1] at BX
  have HX : Hid (w1.heap[g]? = some (.cells #[.slice none 0 0, .slice none 0 0, .slice none 0 0] 28 (0, 0)) ∧ w1.heap.size = g + 1 ∧ Below w.heap.size w w1) := hide ⟨by rw [← hg]; exact BX.row, by rw [← hg]; exact BX.size, BX.below⟩
  have HZ1 := hide (hz.later BX.below)
  have HG := hide hg
  have HSM := hide hz.small
  clear BX hz
  by_cases hbig : 65536 < len
  · have hD : decM zs = .error (92, 0) := by unfold decM; rw [if_pos (by omega)]
    rw [hD]
    have i1 : (65536 : Int) < (len : Int) := by omega
    obtain ⟨c0, c1, c2⟩ := row_cell3 (unhide HX).1
    have f0 := frozen_of_row w1 g 0 _ _ (unhide HX).1
    have f1 := frozen_of_row w1 g 1 _ _ (unhide HX).1
    have f2 := frozen_of_row w1 g 2 _ _ (unhide HX).1
    clear hD
    go_enter Try.func7, Try.ntmps7
    go_wp2_with fail
    refine bodyPost_ret (ret_cttM (p := 2) (u := 3) (v := 4) (T := 28) rfl _ _ g _ _ _ rfl (three_set w1 g _ _ _ _ _ _ _ (unhide HX).1) Try.underlying28 rfl size_md) rfl ?_
    exact ⟨rfl, three_below (unhide HX).2.2 (by have := unhide HG; omega) _ _ _⟩
  have i1 : ¬ (65536 : Int) < (len : Int) := by omega
  obtain ⟨gr, hgr⟩ : ∃ gr, w1.heap.size = gr := ⟨_, rfl⟩
  have S0 := start_rd w1 ao len cap
  obtain ⟨w2, hw2⟩ : ∃ w2, w1.alloc (.cells #[.slice ao len cap, .slice none 0 0, .int .i64 0, .slice none 0 0, .slice none 0 0, .slice none 0 0] 40) = w2 := ⟨_, rfl⟩
  rw [hw2, hgr] at S0
  have CM := hide (module_any w1 _ gr ao len cap _ zs w2 S0 (unhide HZ1) (by omega) hm (by omega))
  have hD : decM zs = if zs.take 4 ≠ headM then .error (91, 0) else decB zs (rdAllM zs 3 0 ⟨[], [], []⟩ 4) := by
    unfold decM
    rw [if_neg (by omega)]
    rfl
  rw [← hD] at CM
  have HGR : Hid (gr = g + 1) := hide (by have := (unhide HX).2.1; omega)
  have HS1 := hide hgr
  have HW2 := hide hw2
  clear hD S0 hgr hw2
  cases hR : decM zs with
  | error p =>
    rw [hR] at CM
    obtain ⟨pc, pp⟩ := p
    have kne : ¬ pc = 0 := (decM_bad (unhide HSM) hR).2
    clear hR
    go_enter Try.func7, Try.ntmps7
    go_wp2_with fail
    rw [unhide HW2, unhide HS1]
    refine (unhide CM).mono ?_
    rintro e3 u3 ⟨rfl, vy, C, F, X, m, V, R3⟩
    have H3 := hide R3
    have hb3 : u3.heap[g]? = some (.cells #[.slice none 0 0, .slice none 0 0, .slice none 0 0] 28 (0, 0)) := (R3.old.block g (by have := unhide HGR; omega)).trans (unhide HX).1
    have HB3 := hide hb3
    obtain ⟨c0, c1, c2⟩ := row_cell3 hb3
    have f0 := frozen_of_row u3 g 0 _ _ hb3
    have f1 := frozen_of_row u3 g 1 _ _ hb3
    have f2 := frozen_of_row u3 g 2 _ _ hb3
    obtain ⟨d0, d1, d2, d3, d4, d5⟩ := row_cells6 R3.box
    clear R3 hb3 CM hw1
    dsimp only
    go_upto_region 6 with fail
    have hS9 : (((u3.setCell ⟨g, 0, none⟩ (.slice none 0 0)).setCell ⟨g, 1, none⟩ (.slice none 0 0)).setCell ⟨g, 2, none⟩ (.slice none 0 0)).cell? ⟨gr, 2, none⟩ = some (.int .i64 pp) := (World.cell?_of_block (three_other u3 g gr _ _ _ (by have := unhide HGR; omega))).trans d2
    go_region_held3 (fun u => u.cell? ⟨gr, 2, none⟩ = some (.int .i64 pp)) (first | assumption | exact d2 | exact hS9) (fail)
    go_wp2_with fail
    refine bodyPost_ret (ret_cttM (p := 2) (u := 3) (v := 4) (T := 28) rfl _ _ g _ _ _ rfl (three_set u3 g _ _ _ _ _ _ _ (unhide HB3)) Try.underlying28 rfl size_md) rfl ?_
    have hB := three_below (B := w.heap.size) (g := g) ((unhide HX).2.2.trans ((unhide H3).old.mono (by have := unhide HG; have := unhide HGR; omega))) (by have := unhide HG; omega) (.slice none 0 0) (.slice none 0 0) (.slice none 0 0)
    exact ⟨rfl, hB.os, hB.tape, hB.output, hB.size, hB.block⟩
  | ok m =>
    rw [hR] at CM
    have hf : formedB m = true := by
      have := (decM_sound (unhide HSM) hR).1
      unfold rightM at this
      rw [Bool.and_eq_true] at this
      exact this.1
    clear hR
    go_enter Try.func7, Try.ntmps7
    go_wp2_with fail
    rw [unhide HW2, unhide HS1]
    refine (unhide CM).mono ?_
    rintro e3 u3 ⟨rfl, vy, a, C, F, X, V, R3⟩
    obtain ⟨a1, d1, a2, d2, a3, d3, rfl, rfl, rfl, M3⟩ := R3.made hf
    have H3 := hide R3
    have HM := hide M3
    have hb3 : u3.heap[g]? = some (.cells #[.slice none 0 0, .slice none 0 0, .slice none 0 0] 28 (0, 0)) := (R3.old.block g (by have := unhide HGR; omega)).trans (unhide HX).1
    have HB3 := hide hb3
    obtain ⟨c0, c1, c2⟩ := row_cell3 hb3
    have f0 := frozen_of_row u3 g 0 _ _ hb3
    have f1 := frozen_of_row u3 g 1 _ _ hb3
    have f2 := frozen_of_row u3 g 2 _ _ hb3
    obtain ⟨e0, e1, e2, e3, e4, e5⟩ := row_cells6 R3.box
    obtain ⟨n1, hn1⟩ : ∃ n, m.cs.length = n := ⟨_, rfl⟩
    obtain ⟨n2, hn2⟩ : ∃ n, m.fs.length = n := ⟨_, rfl⟩
    obtain ⟨n3, hn3⟩ : ∃ n, m.xs.length = n := ⟨_, rfl⟩
    rw [hn1] at e3
    rw [hn2] at e4
    rw [hn3] at e5
    have HN1 := hide hn1
    have HN2 := hide hn2
    have HN3 := hide hn3
    clear R3 M3 hb3 CM hw1 hf hn1 hn2 hn3
    dsimp only
    go_wp2_with fail
    refine bodyPost_ret (ret_cttM (p := 2) (u := 3) (v := 4) (T := 28) rfl _ _ g _ _ _ rfl (three_set u3 g _ _ _ _ _ _ _ (unhide HB3)) Try.underlying28 rfl size_md) rfl ?_
    refine ⟨a1, a2, a3, d1, d2, d3, by rw [unhide HN1, unhide HN2, unhide HN3]; rfl, (unhide HM).to (fun b hb => three_other u3 g b _ _ _ (by have := unhide HGR; omega)) (fun b hb => ?_), three_below ((unhide HX).2.2.trans ((unhide H3).old.mono (by have := unhide HG; have := unhide HGR; omega))) (by have := unhide HG; omega) _ _ _⟩
    simp only [World.size_setCell]
    have := unhide HG; have := unhide HGR; omega
end Go.Proofs.Ytfdnhpmldnmncaa
