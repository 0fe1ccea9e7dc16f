/-
  The document's own Bytes and List (layer 8); conditions: at most 2^43 instructions.
  The walk of the statements' pick: which of n things a number speaks of; no conditions.
-/
import Derived.Test.YtdlgehnplkeoiaaDoorA49
import Derived.Test.YtdlgehnplkeoiaaDoorA23
import Derived.Test.YtdlgehnplkeoiaaDoorProg
import Derived.WalkKit
import Derived.WalkSpells
import Derived.OpenShut
set_option linter.unusedVariables false
set_option linter.unusedSimpArgs false
namespace Go.Proofs.YtdlgehnplkeoiaaDoor
open Go.RowKit

set_option maxRecDepth 100000 in
set_option maxHeartbeats 1000000 in
theorem rlist_any (ao : Option Addr) (len cap : Nat) (zs : List Int) (w : World) (hz : Row8 w ao len cap zs) (hcap : cap ≤ 9223372036854775807) (hN : (cntI zs len 0 + 1) * 16 ≤ 140737488355328) :
    Calls Tryd.prog 9 #[.slice ao len cap] w fun e w' => ∃ al cl ap cp, e = .returned (.tuple #[.slice al (lst zs len 0).1.length cl, .slice ap (lst zs len 0).2.1.length cp, .int .i64 (lst zs len 0).2.2.1, .int .i64 (lst zs len 0).2.2.2]) ∧ Listed w w' (lst zs len 0) al cl ap cp := by
  obtain ⟨i3, hi3, hz30, hz31, hz32⟩ := info_parts int_info
  obtain ⟨iN, hiN, hzN0, hzN1, hzN2⟩ := info_parts ins_info
  have HI := hide (And.intro hi3 (And.intro hz30 (And.intro hz31 hz32)))
  have HJ := hide (And.intro hiN (And.intro hzN0 (And.intro hzN1 hzN2)))
  have HALL : Hid (∀ u, Below w.heap.size w u → Row8 u ao len cap zs) := hide (fun u hu => hz.later hu)
  have hzl := hz.length
  have hle := hz.le
  obtain ⟨R, hR⟩ : ∃ R, lst zs len 0 = R := ⟨_, rfl⟩
  obtain ⟨N, hNN⟩ : ∃ N, cntI zs len 0 = N := ⟨_, rfl⟩
  rw [hNN] at hN
  rw [hR]
  have HR := hide (And.intro hR hNN)
  obtain ⟨B0, hB0⟩ : ∃ B0, w.heap.size = B0 := ⟨_, rfl⟩
  clear hz hi3 hz30 hz31 hz32 hiN hzN0 hzN1 hzN2 hR hNN
  go_enter Tryd.func9, Tryd.ntmps9
  go_wp2_with fail
  go_loopw [6, 7, 8] (fun v u x wr => ∃ (p f : Nat) (la : List Ins) (pa : List Int), x = .int .i64 (p : Int) ∧ Hid (p ≤ len ∧ len ≤ p + f ∧ la.length = pa.length ∧ la.length + cntI zs f p = N) ∧ Hid (wr.ownsRow w.heap.size 47 2 v la.length (insV la) ∧ wr.ownsRow w.heap.size 3 1 u pa.length (pa.map (Value.int .i64)) ∧ Below w.heap.size w wr ∧ R = glue la pa (lst zs f p))) (fun _ _ x _ => len - (intOf x).toNat)
  case atStart => exact ⟨0, len, [], [], rfl, hide ⟨by omega, by omega, rfl, by simp [(unhide HR).2]⟩, hide ⟨World.ownsRow_nil _ _ _ _, World.ownsRow_nil _ _ _ _, Below.refl _ _, by rw [← (unhide HR).1, lst_norm]⟩⟩
  case round =>
    obtain ⟨p, f, la, pa, rfl, HX, HY⟩ := hrel
    obtain ⟨wq, hwq⟩ : ∃ wq, wq = wr := ⟨_, rfl⟩
    subst hwq
    have szq : w.heap.size ≤ wq.heap.size := (unhide HY).2.2.1.size
    by_cases hlt : p < len
    · have p1 : (p : Int) < (len : Int) := by omega
      obtain ⟨f, rfl⟩ : ∃ f', f = f' + 1 := ⟨f - 1, by have := (unhide HX).2.1; omega⟩
      have CT := hide (rtake_any ao len cap zs (p : Int) wq (unhide HALL wq (unhide HY).2.2.1) hcap)
      have hst : lst zs (f + 1) p = if (takeI zs (p : Int)).2.2.2 = 0 then glue [((takeI zs (p : Int)).1, (takeI zs (p : Int)).2.1)] [(p : Int)] (lst zs f (takeI zs (p : Int)).2.2.1.toNat) else ([], [], (p : Int), (takeI zs (p : Int)).2.2.2) := by
        conv => lhs; unfold lst
        rw [if_neg (by omega)]
      have hct : cntI zs (f + 1) p = if (takeI zs (p : Int)).2.2.2 = 0 then 1 + cntI zs f (takeI zs (p : Int)).2.2.1.toNat else 0 := by
        conv => lhs; unfold cntI
        rw [if_neg (by omega)]
      have hgd := take_good zs p
      have hbd := take_bad zs (p : Int)
      obtain ⟨t0, t1, t2, t3, hT⟩ : ∃ t0 t1 t2 t3, takeI zs (p : Int) = (t0, t1, t2, t3) := ⟨_, _, _, _, rfl⟩
      rw [hT] at CT hst hct hgd hbd
      simp only [takeV] at CT hst hct hgd hbd
      have HL := hide hlt
      have HG := hide (And.intro hst (And.intro hct (And.intro hgd hbd)))
      clear hst hct hgd hbd hT hlt
      go_wp2_with fail
      refine (unhide CT).mono ?_
      rintro e w2 ⟨rfl, B2⟩
      have H2 := hide B2
      have z2 := B2.size
      have X2 : Hid (Below w.heap.size w w2) := hide ((unhide HY).2.2.1.trans (B2.mono szq))
      clear B2 CT
      by_cases he : t3 = 0
      · subst he
        have hg := (unhide HG).2.2.1 rfl
        have hst := (unhide HG).1
        have hct := (unhide HG).2.1
        rw [if_pos rfl] at hst hct
        obtain ⟨q, hq⟩ : ∃ q : Nat, t2 = (q : Int) := ⟨t2.toNat, by omega⟩
        subst hq
        rw [Int.toNat_natCast] at hst hct
        have hqp : p < q ∧ q ≤ len := by have := hg.2.2.2.2.1; have := hg.2.2.2.2.2; omega
        have HS := hide (And.intro hst hct)
        clear hg hst hct
        go_upto_region 8 with fail
        obtain ⟨w3, hw3⟩ : ∃ w3, w3 = w2.alloc (.cells #[.int .i64 t0, .int .i64 t1] 47) := ⟨_, rfl⟩
        rw [← hw3]
        have B3 : Hid (Below wq.heap.size wq w3) := hide (by rw [hw3]; exact (unhide H2).alloc (unhide H2).size _)
        have z3 := (unhide B3).size
        have X3 : Hid (Below w.heap.size w w3) := hide ((unhide HY).2.2.1.trans ((unhide B3).mono szq))
        obtain ⟨c0, c1⟩ := ins_cells (show w3.heap[w2.heap.size]? = some (.cells #[.int .i64 t0, .int .i64 t1] 47 (0, 0)) by rw [hw3]; exact heap_alloc_new _ _)
        have O3 : Hid (w3.ownsRow w.heap.size 47 2 u6 la.length (insV la) ∧ w3.ownsRow w.heap.size 3 1 u7 pa.length (pa.map (Value.int .i64))) := hide ⟨own_below (unhide HY).1 (unhide B3), own_below (unhide HY).2.1 (unhide B3)⟩
        have hla : (la.length + 1) * 16 ≤ 140737488355328 := by have := (unhide HX).2.2.2; omega
        have hpa : pa.length = la.length := (unhide HX).2.2.1.symm
        clear hw3
        have tokA : True := trivial
        have tokB : True := trivial
        go_wp2_with (first
          | (at_builtin; have _t := tokA; refine wpl_oneG rfl (.tmp 27) (.tmp 29) 38 47 iN _ 2 16 Tryd.underlying38 (unhide HJ).1 (unhide HJ).2.1 (unhide HJ).2.2.1 (unhide HJ).2.2.2 rfl (by omega) rfl w.heap.size la.length u6 (insV la) [.int .i64 t0, .int .i64 t1] rfl (by simp [Value.oneCell']) rfl (unhide O3).1 rfl (by unfold maxLen; omega) hla (by omega) ?_; clear tokA; intro v4 w4 H4; have z4 : w3.heap.size ≤ w4.heap.size := (unhide H4).2.1.size)
          | (at_builtin; have _t := tokB; refine wpl_oneG rfl (.tmp 31) (.tmp 33) 35 3 i3 _ 1 8 Tryd.underlying35 (unhide HI).1 (unhide HI).2.1 (unhide HI).2.2.1 (unhide HI).2.2.2 rfl (by omega) rfl w.heap.size pa.length u7 (pa.map (Value.int .i64)) [.int .i64 (p : Int)] rfl (by simp [Value.oneCell']) rfl ((unhide O3).2.kept (unhide H4).2.1 (own_apart (unhide O3).2 (unhide O3).1 (by decide))) rfl (by unfold maxLen; omega) (by omega) (by omega) ?_; clear tokB; intro v5 w5 H5))
        have H6 : Hid (w5.ownsRow w.heap.size 47 2 v4 (la ++ [(t0, t1)]).length (insV (la ++ [(t0, t1)])) ∧ w5.ownsRow w.heap.size 3 1 v5 (pa ++ [(p : Int)]).length ((pa ++ [(p : Int)]).map (Value.int .i64)) ∧ Below w.heap.size w w5 ∧ R = glue (la ++ [(t0, t1)]) (pa ++ [(p : Int)]) (lst zs f q)) := hide (by
          have o4 := (unhide O3).2.kept (unhide H4).2.1 (own_apart (unhide O3).2 (unhide O3).1 (by decide))
          refine ⟨?_, ?_, ?_, ?_⟩
          · have h1 := (unhide H4).1.kept (unhide H5).2.1 (own_apart (unhide H4).1 o4 (by decide))
            rw [insV_app, List.length_append]
            exact h1
          · rw [List.map_append, List.length_append]
            exact (unhide H5).1
          · have b4 : Below w.heap.size w3 w4 := (Below.refl _ _).grown (unhide H4).2.1 (by omega) (fun k e => ((unhide O3).1.lt k e).1)
            have b5 : Below w.heap.size w4 w5 := (Below.refl _ _).grown (unhide H5).2.1 (by omega) (fun k e => (o4.lt k e).1)
            exact ((unhide X3).trans b4).trans b5
          · rw [(unhide HY).2.2.2, (unhide HS).1, glue_glue])
        have HX1 : Hid (q ≤ len ∧ len ≤ q + f ∧ (la ++ [(t0, t1)]).length = (pa ++ [(p : Int)]).length ∧ (la ++ [(t0, t1)]).length + cntI zs f q = N) := hide (by
          have h1 := unhide HX
          rw [(unhide HS).2] at h1
          simp only [List.length_append, List.length_cons, List.length_nil]
          omega)
        clear H4 H5 O3 HS
        go_wp2_with fail
        go_roundw
        case rel => exact ⟨q, f, _, _, by first | rfl | go_num, HX1, H6⟩
        case measure => simp [intOf]; omega
      · have hb := (unhide HG).2.2.2 he
        obtain ⟨rfl, rfl, rfl⟩ := hb
        have hst := (unhide HG).1
        rw [if_neg he] at hst
        have he1 : (t3 == 0) = false := by simpa using he
        have hRR : R = ([], [], (p : Int), t3) := by rw [(unhide HY).2.2.2, hst]; unfold glue; rw [if_neg he]
        subst hRR
        have X3 : Hid (Below w.heap.size w w2) := X2
        clear hst
        go_wp2_with fail
        refine bodyPost_ret (ret_tttt (a := 2) (b := 3) (c := 4) (d := 5) rfl _ _) rfl ⟨none, 0, none, 0, rfl, ?_, World.ownsRow_nil _ _ _ _, World.ownsRow_nil _ _ _ _⟩
        exact (unhide X3).alloc (unhide X3).size _
    · have hp : p = len := by have := (unhide HX).1; omega
      subst hp
      have hst : lst zs f p = ([], [], 0, 0) := by
        cases f with
        | zero => rfl
        | succ f => unfold lst; rw [if_pos (by omega)]
      have hRR : R = (la, pa, 0, 0) := by rw [(unhide HY).2.2.2, hst, glue_end]
      subst hRR
      obtain ⟨al, cl, rfl⟩ := own_sliceG (unhide HY).1
      obtain ⟨ap, cp, rfl⟩ := own_sliceG (unhide HY).2.1
      clear hst
      go_wp2_with fail
      exact bodyPost_ret (ret_tttt (a := 2) (b := 3) (c := 4) (d := 5) rfl _ _) rfl ⟨al, cl, ap, cp, rfl, (unhide HY).2.2.1, (unhide HY).1, (unhide HY).2.1⟩
end Go.Proofs.YtdlgehnplkeoiaaDoor

namespace Go.Proofs.YtdlgehnplkeoiaaDoor
open Go.RowKit

/-- what pick answers -/
def pickI (c n : Int) : Int := (if c < 0 then -(c + 1) else c) % n

set_option maxHeartbeats 400000 in
theorem pick_any (c n : Int) (w : World) (h0 : -9223372036854775808 ≤ c) (h1 : c ≤ 9223372036854775807) (n0 : 0 < n) (n1 : n ≤ 9223372036854775807) :
    Calls Tryd.prog 7 #[.int .i64 c, .int .i64 n] w fun e w' => e = .returned (.int .i64 (pickI c n)) ∧ w' = w := by
  by_cases hc : c < 0
  · have e1 : (-(c + 1)).tmod n = pickI c n := by rw [Int.tmod_eq_emod_of_nonneg (by omega)]; simp [pickI, hc]
    have hb : 0 ≤ pickI c n ∧ pickI c n < n := by unfold pickI; exact ⟨Int.emod_nonneg _ (by omega), Int.emod_lt_of_pos _ n0⟩
    generalize pickI c n = r at *
    have hn : ¬ n = 0 := by omega
    have hn1 : ¬ n = -1 := by omega
    go_enter Tryd.func7, Tryd.ntmps7
    go_wp2
    go_ret
    exact ⟨rfl, rfl⟩
  · have e1 : c.tmod n = pickI c n := by rw [Int.tmod_eq_emod_of_nonneg (by omega)]; simp [pickI, hc]
    have hb : 0 ≤ pickI c n ∧ pickI c n < n := by unfold pickI; exact ⟨Int.emod_nonneg _ (by omega), Int.emod_lt_of_pos _ n0⟩
    generalize pickI c n = r at *
    have hn : ¬ n = 0 := by omega
    have hn1 : ¬ n = -1 := by omega
    go_enter Tryd.func7, Tryd.ntmps7
    go_wp2
    go_ret
    exact ⟨rfl, rfl⟩
end Go.Proofs.YtdlgehnplkeoiaaDoor
