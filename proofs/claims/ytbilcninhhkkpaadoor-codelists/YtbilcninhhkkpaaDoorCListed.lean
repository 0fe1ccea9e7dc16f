/-
  The walk of the statements' listed (layer 8): List twice and the document's, what came out written over; conditions: the package's variables, at most 2^43 instructions.
-/
import Derived.Test.YtbilcninhhkkpaaDoorCRList
import Derived.Test.YtbilcninhhkkpaaDoorCBackM
import Derived.Laws.OwnMore
import Derived.Deep.MidRow
namespace Go.Proofs.YtbilcninhhkkpaaDoor
open Go.RowKit

theorem lst_lens (zs : List Int) : ∀ f p, (lst zs f p).2.1.length = (lst zs f p).1.length
  | 0, _ => rfl
  | f + 1, p => by
    unfold lst
    split
    · rfl
    · split
      · have ih := lst_lens zs f (takeI zs (p : Int)).2.2.1.toNat
        unfold glue
        split
        · simp [ih]
        · rfl
      · rfl

theorem lst_cnt (zs : List Int) : ∀ f p, (lst zs f p).1.length ≤ cnt zs f p
  | 0, _ => Nat.le_refl _
  | f + 1, p => by
    unfold lst cnt
    split
    · exact Nat.le_refl _
    · split
      · have ih := lst_cnt zs f (takeI zs (p : Int)).2.2.1.toNat
        unfold glue
        split
        · simp; omega
        · simp
      · simp

theorem lst_i64 (zs : List Int) (hz : ∀ c ∈ zs, 0 ≤ c ∧ c ≤ 255) : ∀ f p, ∀ x ∈ (lst zs f p).1, i64B x.1 ∧ i64B x.2
  | 0, _ => by intro x h; cases h
  | f + 1, p => by
    intro x hx
    unfold lst at hx
    split at hx
    · cases hx
    · split at hx
      · rename_i ht
        obtain ⟨g1, g2, g3, g4, g5, g6⟩ := take_good zs p ht
        unfold glue at hx
        split at hx
        · rcases List.mem_append.1 hx with h | h
          · simp at h
            rw [h, g2, g3]
            have h1 := fault_ok g4
            have h2 := opd_at (srt (byt zs p)) (srt_is (byt zs p) h1.1).2
            unfold i64B
            simp only []
            omega
          · exact lst_i64 zs hz f _ x h
        · cases hx
      · cases hx

theorem own_to {w w' : World} {base : Nat} {e : TypeId} {size : Nat} {v : Value} {n : Nat} {xs : List Value} (h : w.ownsRow base e size v n xs) (hk : ∀ g, v.ownBlock = some g → w'.heap[g]? = w.heap[g]?) : w'.ownsRow base e size v n xs := by
  refine ⟨h.1, ?_⟩
  rcases h.2 with hn | ⟨g, cap, cur, rfl, hbs, hg, rest⟩
  · exact .inl hn
  · exact .inr ⟨g, cap, cur, rfl, hbs, (hk g rfl).trans hg, rest⟩

/-- all as before but what lies in two blocks -/
structure Twd (w w' : World) (bl bp : Option Nat) : Prop where
  os : w'.os = w.os
  tape : w'.tape = w.tape
  output : w'.output = w.output
  size : w.heap.size ≤ w'.heap.size
  block : ∀ k, k < w.heap.size → some k ≠ bl → some k ≠ bp → w'.heap[k]? = w.heap[k]?

theorem Twd.grown {w w1 w2 : World} {bl bp r : Option Nat} (h : Twd w w1 bl bp) (hg : w1.grownBy w2 r) (hr : ∀ b, r = some b → bl = some b ∨ bp = some b ∨ w.heap.size ≤ b) : Twd w w2 bl bp :=
  ⟨hg.os.trans h.os, hg.tape.trans h.tape, hg.output.trans h.output, Nat.le_trans h.size hg.size, fun k hk h1 h2 => (hg.block k (Nat.lt_of_lt_of_le hk h.size) (fun e => by
    rcases hr k e.symm with h' | h' | h'
    · exact h1 h'.symm
    · exact h2 h'.symm
    · omega)).trans (h.block k hk h1 h2)⟩

set_option maxRecDepth 100000 in
set_option maxHeartbeats 4000000 in
theorem listed_any (ao : Option Addr) (len cap : Nat) (zs : List Int) (w : World) (h : Tab2 w) (hz : Row8 w ao len cap zs) (hcap : cap ≤ 9223372036854775807) (hN : (cnt zs len 0 + 20) * 16 ≤ 140737488355328) :
    Calls Tryd.prog 23 #[.slice ao len cap] w fun e w' => e = .returned (.bool true) ∧ Below w.heap.size w w' := by
  obtain ⟨i3, hi3, hz30, hz31, hz32⟩ := info_parts int_info
  obtain ⟨iN, hiN, hzN0, hzN1, hzN2⟩ := info_parts ins_info
  have HI := hide (And.intro hi3 (And.intro hz30 (And.intro hz31 hz32)))
  have HJ := hide (And.intro hiN (And.intro hzN0 (And.intro hzN1 hzN2)))
  have HALL : Hid (∀ u, Below w.heap.size w u → Tab2 u ∧ Row8 u ao len cap zs) := hide (fun u hu => ⟨h.below hu, hz.later hu⟩)
  have C1 : Hid (∀ u, Below w.heap.size w u → _) := hide (fun u (hu : Below w.heap.size w u) => list_any ao len cap zs u (h.below hu) (hz.later hu) hcap (by omega))
  have C2 : Hid (∀ u, Below w.heap.size w u → _) := hide (fun u (hu : Below w.heap.size w u) => rlist_any ao len cap zs u (hz.later hu) hcap (by omega))
  have hcn := lst_cnt zs len 0
  have hlens := lst_lens zs len 0
  have hbd := lst_i64 zs hz.small len 0
  obtain ⟨R, hR⟩ : ∃ R, lst zs len 0 = R := ⟨_, rfl⟩
  rw [hR] at C1 C2 hcn hlens hbd
  rw [hlens] at C1 C2
  obtain ⟨N, hNN⟩ : ∃ N, cnt zs len 0 = N := ⟨_, rfl⟩
  rw [hNN] at hN hcn
  obtain ⟨rl, rp, rat, re⟩ := R
  simp only [] at C1 C2 hcn hlens hbd
  obtain ⟨L, hL⟩ : ∃ L, rl.length = L := ⟨_, rfl⟩
  rw [hL] at C1 C2 hcn hlens
  have HBD := hide hbd
  have HLN := hide (And.intro hL hlens)
  have hL16 : (L + 20) * 16 ≤ 140737488355328 := by omega
  clear h hz hi3 hz30 hz31 hz32 hiN hzN0 hzN1 hzN2 hR hNN hbd hN hcn hL hlens
  have C1a := hide (unhide C1 w (Below.refl _ _))
  go_enter Tryd.func23, Tryd.ntmps23
  go_wp2_with fail
  refine (unhide C1a).mono ?_
  rintro e w1 ⟨al, cl, ap, cp, rfl, L1⟩
  have P1 := hide L1
  have X1 := hide L1.below
  have C1b := hide (unhide C1 w1 L1.below)
  clear L1 C1a C1
  go_wp2_with fail
  refine (unhide C1b).mono ?_
  rintro e w2 ⟨ak, ck, aq, cq, rfl, L2⟩
  have P2 := hide L2
  have X2 := hide ((unhide X1).trans (L2.below.mono (unhide X1).size))
  have C2b := hide (unhide C2 w2 (unhide X2))
  clear L2 C1b C2
  go_wp2_with fail
  refine (unhide C2b).mono ?_
  rintro e w3 ⟨aw, cw, az, cz, rfl, L3⟩
  have P3 := hide L3
  have X3 := hide ((unhide X2).trans (L3.below.mono (unhide X2).size))
  clear L3 C2b
  have z1 := (unhide P1).below.size
  have z2 := (unhide P2).below.size
  have z3 := (unhide P3).below.size
  have O1 : Hid (w3.ownsRow w.heap.size 42 2 (.slice al L cl) L (insV rl) ∧ w3.ownsRow w.heap.size 3 1 (.slice ap L cp) L (rp.map (Value.int .i64))) := hide (by
    have h1 := own_below (own_below (unhide P1).ins (unhide P2).below) (unhide P3).below
    have h2 := own_below (own_below (unhide P1).pls (unhide P2).below) (unhide P3).below
    simp only [(unhide HLN).1, (unhide HLN).2] at h1 h2
    exact ⟨h1, h2⟩)
  have O2 : Hid (w3.ownsRow w1.heap.size 42 2 (.slice ak L ck) L (insV rl) ∧ w3.ownsRow w1.heap.size 3 1 (.slice aq L cq) L (rp.map (Value.int .i64))) := hide (by
    have h1 := own_below (unhide P2).ins (unhide P3).below
    have h2 := own_below (unhide P2).pls (unhide P3).below
    simp only [(unhide HLN).1, (unhide HLN).2] at h1 h2
    exact ⟨h1, h2⟩)
  have O3 : Hid (w3.ownsRow w2.heap.size 42 2 (.slice aw L cw) L (insV rl) ∧ w3.ownsRow w2.heap.size 3 1 (.slice az L cz) L (rp.map (Value.int .i64))) := hide (by
    have h1 := (unhide P3).ins
    have h2 := (unhide P3).pls
    simp only [(unhide HLN).1, (unhide HLN).2] at h1 h2
    exact ⟨h1, h2⟩)
  have LT : Hid ((∀ b, (Value.slice al L cl).ownBlock = some b → w.heap.size ≤ b ∧ b < w1.heap.size) ∧ (∀ b, (Value.slice ap L cp).ownBlock = some b → w.heap.size ≤ b ∧ b < w1.heap.size)) := hide (by
    have h1 := (unhide P1).ins
    have h2 := (unhide P1).pls
    simp only [(unhide HLN).1, (unhide HLN).2] at h1 h2
    exact ⟨fun b hb => h1.lt b hb, fun b hb => h2.lt b hb⟩)
  clear P1 P2 P3
  go_wp2_with fail
  go_loopw [15] (fun x wr => ∃ (i : Nat), x = .int .i64 (i : Int) ∧ Hid (i ≤ L ∧ Below w3.heap.size w3 wr)) (fun x _ => L - (intOf x).toNat)
  case atStart => exact ⟨0, rfl, hide ⟨by omega, Below.refl _ _⟩⟩
  case round =>
    obtain ⟨i, rfl, HX⟩ := hrel
    obtain ⟨wq, hwq⟩ : ∃ wq, wq = wr := ⟨_, rfl⟩
    subst hwq
    by_cases hlt : i < L
    · have i1 : (i : Int) < (L : Int) := by omega
      obtain ⟨⟨op, a⟩, hp⟩ : ∃ p, rl[i]? = some p := ⟨_, List.getElem?_eq_getElem (by rw [(unhide HLN).1]; exact hlt)⟩
      obtain ⟨pl, hpl⟩ : ∃ p, rp[i]? = some p := ⟨_, List.getElem?_eq_getElem (by rw [(unhide HLN).2]; exact hlt)⟩
      have r1 := ((own_rowN (unhide O1).1 (unhide HBD)).1).later (unhide HX).2
      have s1 := ((own_rowI (unhide O1).2).1).later (unhide HX).2
      have r3 := ((own_rowN (unhide O3).1 (unhide HBD)).1).later (unhide HX).2
      have s3 := ((own_rowI (unhide O3).2).1).later (unhide HX).2
      obtain ⟨ad1, b1, o1, rfl, hadd1, cA1, cB1⟩ := r1.2.2 i _ hp
      obtain ⟨ad3, b3, o3, rfl, hadd3, cA3, cB3⟩ := r3.2.2 i _ hp
      obtain ⟨b2, o2, rfl, cP1⟩ := s1.2 i _ hpl
      obtain ⟨b4, o4, rfl, cP3⟩ := s3.2 i _ hpl
      simp only [] at cA1 cB1 cA3 cB3
      have HL := hide hlt
      have HI1 : Hid (i + 1 ≤ L) := hide (by omega)
      clear r1 s1 r3 s3 hp hpl hlt
      go_upto_region 9 with fail
      go_quiet (fail)
      go_wp2_with fail
      go_roundw
      case rel => exact ⟨i + 1, by go_num, hide ⟨unhide HI1, below_drewN (unhide HX).2 _⟩⟩
      case measure => have := unhide HL; simp [intOf]; omega
    · have hi : i = L := by have := (unhide HX).1; omega
      subst hi
      have T0 : Hid (Twd w3 wq (Value.slice al i cl).ownBlock (Value.slice ap i cp).ownBlock ∧ wq.ownsRow w.heap.size 42 2 (.slice al i cl) i (insV rl) ∧ wq.ownsRow w.heap.size 3 1 (.slice ap i cp) i (rp.map (Value.int .i64))) := hide ⟨⟨(unhide HX).2.os, (unhide HX).2.tape, (unhide HX).2.output, (unhide HX).2.size, fun k hk _ _ => (unhide HX).2.block k hk⟩, own_below (unhide O1).1 (unhide HX).2, own_below (unhide O1).2 (unhide HX).2⟩
      clear HX hlt
      go_wp2_with fail
      go_loopw [16] (fun x wr => ∃ (j : Nat), x = .int .i64 (j : Int) ∧ Hid (j ≤ i) ∧ Hid (∃ xs ys, Twd w3 wr (Value.slice al i cl).ownBlock (Value.slice ap i cp).ownBlock ∧ wr.ownsRow w.heap.size 42 2 (.slice al i cl) i xs ∧ wr.ownsRow w.heap.size 3 1 (.slice ap i cp) i ys)) (fun x _ => i - (intOf x).toNat)
      case atStart => exact ⟨0, rfl, hide (by omega), hide ⟨_, _, (unhide T0).1, (unhide T0).2.1, (unhide T0).2.2⟩⟩
      case round =>
        clear T0
        obtain ⟨j, rfl, HJ1, HO⟩ := hrel
        obtain ⟨wp, hwp⟩ : ∃ wp, wp = wr := ⟨_, rfl⟩
        subst hwp
        by_cases hj : j < i
        · have j1 : (j : Int) < (i : Int) := by omega
          obtain ⟨xs, ys, tw, ow, pw⟩ := unhide HO
          obtain ⟨gl, cl', hfm⟩ := ow.form (by omega)
          cases hfm.1
          obtain ⟨gp, cp', hfp⟩ := pw.form (by omega)
          cases hfp.1
          have hxl : xs.length = i * 2 := ow.1
          have hyl : ys.length = i := by have := pw.1; omega
          have hap := own_apart ow pw (by decide)
          have hne : gl ≠ gp := by
            rcases hap with e | e
            · simp [Value.ownBlock] at e
            · intro e'; apply e; simp [Value.ownBlock, e']
          obtain ⟨wA, hwA⟩ : ∃ wA, wp.setCells gl (j * 2) [.int .i64 (-5), .int .i64 0] = wA := ⟨_, rfl⟩
          have st1 := ow.stored (j * 2) (.int .i64 (-5))
          have st2 := st1.1.stored (j * 2 + 1) (.int .i64 0)
          have hwA' : (wp.setCell ⟨gl, j * 2, none⟩ (.int .i64 (-5))).setCell ⟨gl, j * 2 + 1, none⟩ (.int .i64 0) = wA := hwA
          rw [hwA'] at st2
          have hth : wp.there gl (j * 2) 2 := fun m hm => ⟨by rw [ow.cellAt (j * 2 + m) (by omega), List.getElem?_eq_getElem (by omega)]; rfl, ow.frozenAt _⟩
          have pA : wA.ownsRow w.heap.size 3 1 (.slice (some ⟨gp, 0, none⟩) i cp) i ys := own_to pw (fun g hg => by
            have e : gp = g := by simpa [Value.ownBlock] using hg
            subst e
            exact (st2.2.block gp (by have := st1.2.size; have := (pw.lt gp rfl).2; omega) (by simp; omega)).trans (st1.2.block gp (pw.lt gp rfl).2 (by simp; omega)))
          have ct : wA.cell? ⟨gp, j, none⟩ = some (ys.getD j (.int .i64 0)) := by
            rw [pA.cellAt j (by omega)]
            simp [List.getD, (by omega : j < ys.length)]
          obtain ⟨yv, hyv⟩ : ∃ yv, ys.getD j (.int .i64 0) = yv := ⟨_, rfl⟩
          rw [hyv] at ct
          have fz := pA.frozenAt j
          have st3 := pA.stored j (.int .i64 (-5))
          have HN : Hid (∃ xs ys, Twd w3 (wA.setCell ⟨gp, j, none⟩ (.int .i64 (-5))) (Value.slice (some ⟨gl, 0, none⟩) i cl).ownBlock (Value.slice (some ⟨gp, 0, none⟩) i cp).ownBlock ∧ (wA.setCell ⟨gp, j, none⟩ (.int .i64 (-5))).ownsRow w.heap.size 42 2 (.slice (some ⟨gl, 0, none⟩) i cl) i xs ∧ (wA.setCell ⟨gp, j, none⟩ (.int .i64 (-5))).ownsRow w.heap.size 3 1 (.slice (some ⟨gp, 0, none⟩) i cp) i ys) := hide (by
            refine ⟨_, _, ?_, own_to st2.1 (fun g hg => ?_), st3.1⟩
            · exact ((tw.grown st1.2 (fun b hb => Or.inl (by simpa [Value.ownBlock] using hb))).grown st2.2 (fun b hb => Or.inl (by simpa [Value.ownBlock] using hb))).grown st3.2 (fun b hb => Or.inr (Or.inl (by simpa [Value.ownBlock] using hb)))
            · have e : gl = g := by simpa [Value.ownBlock] using hg
              subst e
              exact st3.2.block gl (st2.1.lt gl rfl).2 (by simp; omega))
          have HTH := hide hth
          have HWA := hide hwA
          have HI1 : Hid (j + 1 ≤ i) := hide (by omega)
          have HL := hide hj
          clear st1 st2 st3 pA ow pw tw hwA hwA' hth HO hap hj hyv hfm hfp hxl hyl
          have tok : True := trivial
          go_wp2_with (first | (have _t := tok; refine wpList_store_mid rfl 42 (.tmp 121) (.tmp 120) rfl gl (j * 2) #[.int .i64 (-5), .int .i64 0] rfl rfl (unhide HTH) size_ins (one_ins _ _) ?_; clear tok; rw [show wp.setCells gl (j * 2) (#[.int .i64 (-5), .int .i64 0] : Array Value).toList = wA from unhide HWA]))
          go_roundw
          case rel => exact ⟨j + 1, by go_num, HI1, HN⟩
          case measure => have := unhide HL; simp [intOf]; omega
        · have hj' : j = i := by have := unhide HJ1; omega
          subst hj'
          clear hj HJ1
          go_wp2_with fail
          go_loopw [3, 4, 17] (fun v u x wr => ∃ (m n : Nat) (xs ys : List Value), x = .int .i64 (m : Int) ∧ Hid (m ≤ 9 ∧ n ≤ j + m) ∧ Hid (Twd w3 wr (Value.slice al j cl).ownBlock (Value.slice ap j cp).ownBlock ∧ wr.ownsRow w.heap.size 42 2 v n xs ∧ wr.ownsRow w.heap.size 3 1 u n ys ∧ (∀ b, v.ownBlock = some b → (Value.slice al j cl).ownBlock = some b ∨ w3.heap.size ≤ b) ∧ (∀ b, u.ownBlock = some b → (Value.slice ap j cp).ownBlock = some b ∨ w3.heap.size ≤ b))) (fun _ _ x _ => 9 - (intOf x).toNat)
          case atStart =>
            obtain ⟨xs, ys, tw, ow, pw⟩ := unhide HO
            exact ⟨0, j, xs, ys, rfl, hide ⟨by omega, by omega⟩, hide ⟨tw, ow, pw, fun b hb => Or.inl hb, fun b hb => Or.inl hb⟩⟩
          case round =>
            clear HO
            obtain ⟨m, n, xs, ys, rfl, HM, HY⟩ := hrel
            obtain ⟨wt, hwt⟩ : ∃ wt, wt = wr := ⟨_, rfl⟩
            subst hwt
            have szt := (unhide HY).1.size
            have sz0 : w.heap.size ≤ w3.heap.size := by omega
            by_cases hm : m < 9
            · have m1 : (m : Int) < 9 := by omega
              have hn16 : (n + 1) * 16 ≤ 140737488355328 := by have := (unhide HM).2; omega
              have HM1 : Hid (m + 1 ≤ 9 ∧ n + 1 ≤ j + (m + 1)) := hide (by have := (unhide HM).2; omega)
              have HL := hide hm
              have tokA : True := trivial
              have tokB : True := trivial
              clear hm
              go_wp2_with (first
                | (at_builtin; have _t := tokA; refine wpl_oneG rfl (.tmp 129) (.tmp 131) 35 42 iN _ 2 16 Tryd.underlying35 (unhide HJ).1 (unhide HJ).2.1 (unhide HJ).2.2.1 (unhide HJ).2.2.2 rfl (by omega) rfl w.heap.size n u3 xs [.int .i64 (-5), .int .i64 0] rfl (by simp [Value.oneCell']) rfl (unhide HY).2.1 rfl (by unfold maxLen; omega) hn16 (by omega) ?_; clear tokA; intro v4 w4 H4; have z4 : wt.heap.size ≤ w4.heap.size := (unhide H4).2.1.size)
                | (at_builtin; have _t := tokB; refine wpl_oneG rfl (.tmp 133) (.tmp 134) 22 3 i3 _ 1 8 Tryd.underlying22 (unhide HI).1 (unhide HI).2.1 (unhide HI).2.2.1 (unhide HI).2.2.2 rfl (by omega) rfl w.heap.size n u4 ys [.int .i64 (-5)] rfl (by simp [Value.oneCell']) rfl ((unhide HY).2.2.1.kept (unhide H4).2.1 (own_apart (unhide HY).2.2.1 (unhide HY).2.1 (by decide))) rfl (by unfold maxLen; omega) (by omega) (by omega) ?_; clear tokB; intro v5 w5 H5))
              have HN : Hid (Twd w3 w5 (Value.slice al j cl).ownBlock (Value.slice ap j cp).ownBlock ∧ w5.ownsRow w.heap.size 42 2 v4 (n + 1) (xs ++ [.int .i64 (-5), .int .i64 0]) ∧ w5.ownsRow w.heap.size 3 1 v5 (n + 1) (ys ++ [.int .i64 (-5)]) ∧ (∀ b, v4.ownBlock = some b → (Value.slice al j cl).ownBlock = some b ∨ w3.heap.size ≤ b) ∧ (∀ b, v5.ownBlock = some b → (Value.slice ap j cp).ownBlock = some b ∨ w3.heap.size ≤ b)) := hide (by
                have o4 := (unhide HY).2.2.1.kept (unhide H4).2.1 (own_apart (unhide HY).2.2.1 (unhide HY).2.1 (by decide))
                refine ⟨((unhide HY).1.grown (unhide H4).2.1 (fun b hb => ?_)).grown (unhide H5).2.1 (fun b hb => ?_), (unhide H4).1.kept (unhide H5).2.1 (own_apart (unhide H4).1 o4 (by decide)), (unhide H5).1, fun b hb => ?_, fun b hb => ?_⟩
                · rcases (unhide HY).2.2.2.1 b hb with h | h
                  · exact Or.inl h
                  · exact Or.inr (Or.inr h)
                · rcases (unhide HY).2.2.2.2 b hb with h | h
                  · exact Or.inr (Or.inl h)
                  · exact Or.inr (Or.inr h)
                · rcases (unhide H4).2.2 b hb with h | h
                  · exact (unhide HY).2.2.2.1 b h
                  · exact Or.inr (by omega)
                · rcases (unhide H5).2.2 b hb with h | h
                  · exact (unhide HY).2.2.2.2 b h
                  · exact Or.inr (by omega))
              go_roundw
              case rel => exact ⟨m + 1, n + 1, _, _, by go_num, HM1, HN⟩
              case measure => have := unhide HL; simp [intOf]; omega
            · have hm9 : m = 9 := by have := (unhide HM).1; omega
              subst hm9
              clear hm HM
              have hfar : ∀ g, g < w3.heap.size → w1.heap.size ≤ g → wt.heap[g]? = w3.heap[g]? := fun g h1 h2 => (unhide HY).1.block g h1 (fun e => by have := ((unhide LT).1 g e.symm).2; omega) (fun e => by have := ((unhide LT).2 g e.symm).2; omega)
              have Q2 : Hid (wt.ownsRow w1.heap.size 42 2 (.slice ak j ck) j (insV rl) ∧ wt.ownsRow w1.heap.size 3 1 (.slice aq j cq) j (rp.map (Value.int .i64))) := hide ⟨own_to (unhide O2).1 (fun g hg => hfar g ((unhide O2).1.lt g hg).2 ((unhide O2).1.lt g hg).1), own_to (unhide O2).2 (fun g hg => hfar g ((unhide O2).2.lt g hg).2 ((unhide O2).2.lt g hg).1)⟩
              have Q3 : Hid (wt.ownsRow w2.heap.size 42 2 (.slice aw j cw) j (insV rl) ∧ wt.ownsRow w2.heap.size 3 1 (.slice az j cz) j (rp.map (Value.int .i64))) := hide ⟨own_to (unhide O3).1 (fun g hg => hfar g ((unhide O3).1.lt g hg).2 (by have := ((unhide O3).1.lt g hg).1; omega)), own_to (unhide O3).2 (fun g hg => hfar g ((unhide O3).2.lt g hg).2 (by have := ((unhide O3).2.lt g hg).1; omega))⟩
              have Yt : Hid (Below w.heap.size w wt) := hide ((unhide X3).trans ⟨(unhide HY).1.os, (unhide HY).1.tape, (unhide HY).1.output, (unhide HY).1.size, fun k hk => (unhide HY).1.block k (by omega) (fun e => by have := ((unhide LT).1 k e.symm).1; omega) (fun e => by have := ((unhide LT).2 k e.symm).1; omega)⟩)
              clear hfar HY
              go_wp2_with fail
              go_loopw [18] (fun x wr => ∃ (i : Nat), x = .int .i64 (i : Int) ∧ Hid (i ≤ j ∧ Below wt.heap.size wt wr)) (fun x _ => j - (intOf x).toNat)
              case atStart => exact ⟨0, rfl, hide ⟨by omega, Below.refl _ _⟩⟩
              case round =>
                obtain ⟨i, rfl, HX⟩ := hrel
                obtain ⟨wq, hwq⟩ : ∃ wq, wq = wr := ⟨_, rfl⟩
                subst hwq
                by_cases hlt : i < j
                · have i1 : (i : Int) < (j : Int) := by omega
                  obtain ⟨⟨op, a⟩, hp⟩ : ∃ p, rl[i]? = some p := ⟨_, List.getElem?_eq_getElem (by rw [(unhide HLN).1]; exact hlt)⟩
                  obtain ⟨pl, hpl⟩ : ∃ p, rp[i]? = some p := ⟨_, List.getElem?_eq_getElem (by rw [(unhide HLN).2]; exact hlt)⟩
                  have r1 := ((own_rowN (unhide Q2).1 (unhide HBD)).1).later (unhide HX).2
                  have s1 := ((own_rowI (unhide Q2).2).1).later (unhide HX).2
                  have r3 := ((own_rowN (unhide Q3).1 (unhide HBD)).1).later (unhide HX).2
                  have s3 := ((own_rowI (unhide Q3).2).1).later (unhide HX).2
                  obtain ⟨ad1, b1, o1, rfl, hadd1, cA1, cB1⟩ := r1.2.2 i _ hp
                  obtain ⟨ad3, b3, o3, rfl, hadd3, cA3, cB3⟩ := r3.2.2 i _ hp
                  obtain ⟨b2, o2, rfl, cP1⟩ := s1.2 i _ hpl
                  obtain ⟨b4, o4, rfl, cP3⟩ := s3.2 i _ hpl
                  simp only [] at cA1 cB1 cA3 cB3
                  have HL := hide hlt
                  have HI1 : Hid (i + 1 ≤ j) := hide (by omega)
                  clear r1 s1 r3 s3 hp hpl hlt
                  go_upto_region 24 with fail
                  go_quiet (fail)
                  go_wp2_with fail
                  go_roundw
                  case rel => exact ⟨i + 1, by go_num, hide ⟨unhide HI1, below_drewN (unhide HX).2 _⟩⟩
                  case measure => have := unhide HL; simp [intOf]; omega
                · go_wp2_with fail
                  go_ret
                  exact ⟨rfl, (unhide Yt).trans ((unhide HX).2.mono (unhide Yt).size)⟩
end Go.Proofs.YtbilcninhhkkpaaDoor
