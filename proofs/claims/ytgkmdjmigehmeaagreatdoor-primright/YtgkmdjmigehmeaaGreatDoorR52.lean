/-
  What Do gives is right, a trap gives nothing (prim): the walk of PrimRight; conditions: the package's variables, those of hash.
-/
import Derived.Test.YtgkmdjmigehmeaaGreatDoorR51
import Derived.Test.YtgkmdjmigehmeaaGreatDoorR34
import Derived.Test.YtgkmdjmigehmeaaGreatDoorR29
import Derived.ProofKit
import Derived.LaidMore
import Derived.Stop.Joined
import Derived.Test.YtgkmdjmigehmeaaGreatDoorR49
import Derived.Test.YtgkmdjmigehmeaaGreatDoorRows
import Derived.OpenShut
import Derived.Test.YtgkmdjmigehmeaaGreatDoorChecked
import Derived.SizedLaws
import Derived.Deep.Strs
import Derived.Test.YtgkmdjmigehmeaaGreatDoorR00
import Derived.Test.YtgkmdjmigehmeaaGreatDoorR37
namespace Go.Proofs.YtgkmdjmigehmeaaGreatDoor
set_option linter.unusedVariables false
set_option linter.unusedSimpArgs false
set_option maxRecDepth 100000
set_option maxHeartbeats 16000000
open Go.RowKit Go.Shelf
theorem right_walk (op : Int) (ex : Vl) (e0 e1 : Int) (e2 : ByteArray) (e3 : Option Addr) (e4 e5 : Nat) (e6 : Option Addr) (e7 e8 : Nat) (vs : List Vl) (al : Option Addr) (n cl B : Nat) (w : World) (ht : Tab w) (hx : IsV w B ex (.agg #[.int .i64 e0, .int .i64 e1, .string e2, .slice e3 e4 e5, .slice e6 e7 e8])) (h : ArV w B vs al n cl) (hBs : B ≤ w.heap.size) (kt : List Int) (hpk : Pk w kt) :
  Calls Tryz.prog 5 #[.int .i64 op, .agg #[.int .i64 e0, .int .i64 e1, .string e2, .slice e3 e4 e5, .slice e6 e7 e8], .slice al n cl] w fun e w' => e = .returned (.bool true) ∧ Below w.heap.size w w' := by
 obtain ⟨gx, hgx⟩ : ∃ g, w.heap.size = g := ⟨_, rfl⟩
 obtain ⟨w1, hw1⟩ : ∃ u, w.alloc (.cells #[.int .i64 e0, .int .i64 e1, .string e2, .slice e3 e4 e5, .slice e6 e7 e8] 25) = u := ⟨_, rfl⟩
 have n1 : w1.heap[gx]? = some (.cells #[.int .i64 e0, .int .i64 e1, .string e2, .slice e3 e4 e5, .slice e6 e7 e8] 25 (0, 0)) := by rw [← hw1, ← hgx]; exact heap_alloc_new w _
 have b1 : Below w.heap.size w w1 := by rw [← hw1]; exact (Below.refl _ _).alloc (Nat.le_refl _) _
 have HB1 := hide b1
 have HN1 := hide n1
 have CS := hide (shown_any w1 (ht.later b1 ht.big b1.size))
 have HD : Hid (∀ u, Below w1.heap.size w1 u → Calls Tryz.prog 12 #[.int .i64 op, .agg #[.int .i64 e0, .int .i64 e1, .string e2, .slice e3 e4 e5, .slice e6 e7 e8], .slice al n cl] u fun e w' => ∃ r, (OkR r ∧ (r.2 = 0 → 10 ≤ op ∧ op ≤ 37)) ∧ OpPost u r e w') := hide (fun u hu => by
  have hb := b1.trans (hu.mono b1.size)
  exact do_right op ex e0 e1 e2 e3 e4 e5 e6 e7 e8 vs al n cl B u (ht.later hb ht.big hb.size) (IsV.mono (hb.mono hBs) hx) (h.later (hb.mono hBs)) (Nat.le_trans hBs hb.size) kt (hpk.later hb (Nat.le_refl _)))
 clear b1 n1 ht hx h hBs hpk
 go_enter Tryz.func5, Tryz.ntmps5
 go_wp2_with fail
 refine (uh CS).mono ?_
 rintro e u1 ⟨rfl, d1⟩
 have HB2 := hide d1
 obtain ⟨a0, a1, a2, a3, a4⟩ := block5 ((d1.block gx (Array.getElem?_eq_some_iff.1 (uh HN1)).1).trans (uh HN1))
 clear d1 CS
 go_wp2_with fail
 refine (uh HD u1 (uh HB2)).mono ?_
 rintro e u2 ⟨r, ⟨hok, hpure⟩, y0, y1, y2, y3, y4, y5, y6, y7, y8, t, rfl, ⟨htr, q⟩, d2⟩
 obtain ⟨gv, hgv⟩ : ∃ g, u2.heap.size = g := ⟨_, rfl⟩
 obtain ⟨v3, hv3⟩ : ∃ u, u2.alloc (.cells #[.int .i64 y0, .int .i64 y1, .string y2, .slice y3 y4 y5, .slice y6 y7 y8] 25) = u := ⟨_, rfl⟩
 have n3 : v3.heap[gv]? = some (.cells #[.int .i64 y0, .int .i64 y1, .string y2, .slice y3 y4 y5, .slice y6 y7 y8] 25 (0, 0)) := by rw [← hv3, ← hgv]; exact heap_alloc_new u2 _
 have b3 : Below u2.heap.size u2 v3 := by rw [← hv3]; exact (Below.refl _ _).alloc (Nat.le_refl _) _
 have HV : Hid (IsV v3 v3.heap.size r.1 (.agg #[.int .i64 y0, .int .i64 y1, .string y2, .slice y3 y4 y5, .slice y6 y7 y8])) := hide (IsV.lift b3.size (IsV.mono b3 (q.isV (fun b hb => hb.2))))
 have HB3 : Hid (Below w.heap.size w v3) := hide (by
  have h1 := (uh HB1).trans ((uh HB2).mono (uh HB1).size)
  have h2 := h1.trans (d2.mono h1.size)
  exact h2.trans (b3.mono h2.size))
 have HN3 := hide n3
 have CR := hide (right_code r.1 _ v3.heap.size v3 (uh HV) (Nat.le_refl _))
 have HO := hide (And.intro hok (And.intro hpure htr))
 obtain ⟨c0, c1, c2, c3, c4⟩ := block5 n3
 clear n3 b3 q d2 HD HB2 HB1 HN1 a0 a1 a2 a3 a4 hok hpure htr
 go_wp2_with fail
 refine (uh CR).mono ?_
 rintro e u4 ⟨rfl, d4⟩
 have HB4 := hide ((uh HB3).trans (d4.mono (uh HB3).size))
 have HV4 : Hid (IsV u4 u4.heap.size r.1 (.agg #[.int .i64 y0, .int .i64 y1, .string y2, .slice y3 y4 y5, .slice y6 y7 y8])) := hide (IsV.lift d4.size (IsV.mono d4 (uh HV)))
 obtain ⟨g0, g1, g2, g3, g4⟩ := block5 ((d4.block gv (Array.getElem?_eq_some_iff.1 (uh HN3)).1).trans (uh HN3))
 clear d4 CR HB3 HV HN3 hv3 hgv c0 c1 c2 c3 c4
 rcases (uh HO).1 with ⟨h0, hr⟩ | ⟨hz, hl⟩
 ·have t0 : t = 0 := (uh HO).2.2.trans h0
  have hp := (uh HO).2.1 h0
  have CP := hide (pure_any op u4)
  rw [show decide (10 ≤ op ∧ op ≤ 37) = true from decide_eq_true hp] at CP
  subst t0
  rw [hr]
  clear h0 hr hp HO HV4
  go_wp2_with fail
  refine (uh CP).mono ?_
  rintro e u5 ⟨rfl, d5⟩
  have HB5 := hide ((uh HB4).trans (d5.mono (uh HB4).size))
  clear d5 CP HB4
  go_wp2_with fail
  go_ret
  exact ⟨by simp, uh HB5⟩
 ·have ht9 := (uh HO).2.2
  have tl : t = 1 ∨ t = 2 ∨ t = 3 ∨ t = 5 ∨ t = 6 ∨ t = 8 := by rw [ht9]; exact hl
  have t1 : ¬ t = 0 := by omega
  have t1b : (t == 0) = false := beq_eq_false_iff_ne.2 t1
  have t2 : 0 < t := by omega
  have t3 : t ≤ 8 := by omega
  have t4 : ¬ t = 4 := by omega
  have t4b : (t == 4) = false := beq_eq_false_iff_ne.2 t4
  have t7 : ¬ t = 7 := by omega
  have t7b : (t == 7) = false := beq_eq_false_iff_ne.2 t7
  have CA := hide (same3_any (dep vlz) vlz vlz _ (.agg #[.int .i64 0, .int .i64 0, .string ⟨#[]⟩, .slice none 0 0, .slice none 0 0]) u4.heap.size u4 (Nat.le_refl _) (by have := uh HV4; rw [hz] at this; exact this) (plain_is u4 _ 0 0 (by omega) (by omega)) (Nat.le_refl _))
  rw [show sameB vlz vlz = true from (sameB_iff vlz vlz).2 rfl] at CA
  rw [hz, right_z]
  clear hz hl ht9 tl HO HV4
  go_wp2_with fail
  refine (uh CA).mono ?_
  rintro e u5 ⟨rfl, d5⟩
  have HB5 := hide ((uh HB4).trans (d5.mono (uh HB4).size))
  clear d5 CA HB4
  go_wp2_with fail
  go_ret
  exact ⟨by simp [t4, t7], uh HB5⟩
open Go.ChangeShapes Go.WideShapes Go.ChangeAt Go.RowKit
theorem own : ownKnob Tryz.prog.godebug = none := by kernel_rfl
theorem laidOut : laidOutB Tryz.prog = true := by kernel_rfl
theorem gOps : Tryz.prog.globalNamed "scruple/code.operations" = some 0 := by kernel_rfl
theorem tOps : (Tryz.prog.globals[0]?).map (·.type) = some 96 := by kernel_rfl
theorem cells_int : Tryz.prog.cellsOf 3 = 1 := by kernel_rfl
theorem cells_str : Tryz.prog.cellsOf 9 = 1 := by kernel_rfl
theorem cells_inf : Tryz.prog.cellsOf 73 = 6 := by kernel_rfl
theorem len6 {α : Type} : ∀ (l : List α), l.length = 6 → ∃ a b c d e f, l = [a, b, c, d, e, f]
 | [a, b, c, d, e, f], _ => ⟨a, b, c, d, e, f, rfl⟩
theorem inf_of {W : World} {fuel : Nat} {cs : List Value} {d : DataW Unit} {p : List MemPlace} (h : DataW.trod (fun _ => ()) Tryz.prog W 0 (fun _ => true) false fuel 73 cs = some (d, p)) :
  cs = infV (infOf d) := by
 obtain ⟨xs, m, _, hx1, hlen, hn, hf⟩ := DataW.trod_struct Tryz.underlying73 h
 simp only [Prod.mk.injEq] at hx1
 obtain ⟨rfl, _⟩ := hx1
 rw [cells_inf] at hlen
 have hn6 : xs.length = 6 := hn
 obtain ⟨v0, v1, v2, v3, v4, v5, rfl⟩ := len6 cs hlen
 obtain ⟨x0, x1, x2, x3, x4, x5, rfl⟩ := len6 xs hn6
 clear hlen hn hn6 h
 have f0 := hf 0 _ rfl
 have f1 := hf 1 _ rfl
 have f2 := hf 2 _ rfl
 have f3 := hf 3 _ rfl
 have f4 := hf 4 _ rfl
 have f5 := hf 5 _ rfl
 obtain ⟨s, a0, b0, _⟩ := DataW.trod_string Tryz.underlying9 f0
 obtain ⟨n1, a1, b1, _⟩ := DataW.trod_int Tryz.underlying3 f1
 obtain ⟨n2, a2, b2, _⟩ := DataW.trod_int Tryz.underlying3 f2
 obtain ⟨n3, a3, b3, _⟩ := DataW.trod_int Tryz.underlying3 f3
 obtain ⟨n4, a4, b4, _⟩ := DataW.trod_int Tryz.underlying3 f4
 obtain ⟨n5, a5, b5, _⟩ := DataW.trod_int Tryz.underlying3 f5
 simp [cells_int, cells_str] at a0 a1 a2 a3 a4 a5
 subst b0 b1 b2 b3 b4 b5 a0 a1 a2 a3 a4 a5
 simp [infOf, infV]
theorem tab_of {W : World} {fuel : Nat} {cs : Array Value} {t : TypeId} {p : List MemPlace} (hb : W.heap[0]? = some (.cells cs t (0, 0))) (h : DataW.trod (fun _ => ()) Tryz.prog W 0 (fun _ => true) false fuel 96 cs.toList = some (Rows.laid_scruple_code_operations, p)) : Tab W := by
 obtain ⟨xs, m, _, hx1, hlen, hn, hel⟩ := DataW.trod_array Tryz.underlying96 h
 simp only [Prod.mk.injEq] at hx1
 have e : OPS = xs.map fun x => infOf x.1 := by
  unfold OPS
  rw [hx1.1]
  simp
 refine ⟨(Array.getElem?_eq_some_iff.1 hb).1, fun k x hx j v hv => ?_⟩
 have hk : k < 42 := by have := (List.getElem?_eq_some_iff.1 hx).1; rw [OPS_len] at this; exact this
 have hk' : k < xs.length := by omega
 have h1 := hel k hk
 rw [List.getElem?_eq_getElem hk'] at h1
 have h2 := inf_of h1
 have e2 : infOf xs[k].1 = x := by
  rw [e] at hx
  simpa [hk'] using hx
 have h3 := h2.trans (show infV (infOf (xs.get ⟨k, hk'⟩).1) = infV x by rw [← e2]; rfl)
 rw [cells_inf] at h3
 rw [cell_of_row W 0 _ cs t (0, 0) hb]
 have hj : j < 6 := (List.getElem?_eq_some_iff.1 hv).1
 rw [← h3, List.getElem?_take_of_lt hj, List.getElem?_drop] at hv
 simpa using hv
def seatLaid3 : List (String × DataW Unit) := [("scruple/code.operations", Rows.laid_scruple_code_operations), ("scruple/hash.start", Rows.laid_scruple_hash_start), ("scruple/hash.roundWords", Rows.laid_scruple_hash_roundWords)]
theorem of_laid3 {W : World} (h : laidMetH Tryz.prog seatLaid3 W) : Tab W := by
 rw [MakeChecks.laidMetH_plain _ _ _ (by kernel_rfl)] at h
 obtain ⟨ps, ⟨g0, t0, cs0, f0, p0, q0, hg0, ht0, hv0, hd0, _, hps⟩, _, hfz⟩ := h
 obtain rfl := Option.some.inj (gOps.symm.trans hg0)
 obtain rfl := Option.some.inj (tOps.symm.trans ht0)
 have z0 : 0 < cs0.size := by
  have := (DataW.trod_array Tryz.underlying96 hd0)
  obtain ⟨_, _, _, _, hl, _, _⟩ := this
  rw [show Tryz.prog.cellsOf 96 = 252 by kernel_rfl] at hl
  simp at hl
  omega
 obtain ⟨⟨c, t, hc⟩, _⟩ := hfz 0 0 (by rw [hps]; exact List.mem_append_left _ (List.mem_append_left _ (MemPlace.mem_row.2 ⟨0, z0, rfl⟩)))
 have hv : some cs0 = some c := by rw [← hv0]; unfold World.var?; rw [gOps]; simp [hc]
 cases hv
 exact tab_of hc hd0
theorem door_met3 (os : Os) (args : Array Value) : laidMetH Tryz.prog seatLaid3 ((World.doorLaid Tryz.prog 400 os).forCall (fun _ _ => 0) ⟨#[], args, []⟩).memory :=
 laidMetH_of_parts3 (fuel := 8) (laidMet_of_run' 8 (by kernel_rfl) (by kernel_rfl)) (by kernel_rfl) (by kernel_rfl)
theorem gStart : Tryz.prog.globalNamed "scruple/hash.start" = some 1 := by kernel_rfl
theorem gWords : Tryz.prog.globalNamed "scruple/hash.roundWords" = some 2 := by kernel_rfl
theorem tStart : (Tryz.prog.globals[1]?).map (·.type) = some 113 := by kernel_rfl
theorem tWords : (Tryz.prog.globals[2]?).map (·.type) = some 111 := by kernel_rfl
theorem cells1w : Tryz.prog.cellsOf 110 = 1 := by kernel_rfl
def numsOf {H : Type} : DataW H → List Int
 | .agg ps => ps.map fun d => match d with | .lit (.int _ n) => n | _ => 0
 | _ => []
def KS : List Int := numsOf (H := Unit) Rows.laid_scruple_hash_roundWords
theorem KS_len : KS.length = 64 := by kernel_rfl
theorem H0_is : numsOf (H := Unit) Rows.laid_scruple_hash_start = H0 := by kernel_rfl
theorem words_of {W : World} {T : TypeId} {n fuel : Nat} {cs : List Value} {d : DataW Unit} {p : List MemPlace} (hu : Tryz.prog.underlying T = some (.array n 110)) (hn : Tryz.prog.cellsOf T = n) (h : DataW.trod (fun _ => ()) Tryz.prog W 0 (fun _ => true) false fuel T cs = some (d, p)) :
  cs = (numsOf d).map (Value.int .u32) := by
 obtain ⟨xs, m, _, hx1, hlen, hn3, hel⟩ := DataW.trod_array hu h
 simp only [Prod.mk.injEq] at hx1
 obtain ⟨rfl, _⟩ := hx1
 rw [hn] at hlen
 refine List.ext_getElem? fun i => ?_
 by_cases hi : i < n
 ·have h1 := hel i hi
  rw [List.getElem?_eq_getElem (by omega)] at h1
  obtain ⟨k, e1, e2, _⟩ := DataW.trod_int Tryz.underlying110 h1
  rw [cells1w, Nat.mul_one] at e1
  have e3 : cs[i]? = some (.int .u32 k) := by
   have := congrArg (·[0]?) e1
   simpa using this
  rw [e3]
  simp [numsOf, List.getElem?_eq_getElem (show i < xs.length by omega), e2]
 ·rw [List.getElem?_eq_none (by omega), List.getElem?_eq_none (by simp [numsOf]; omega)]
theorem pk_laid {W : World} (h : laidMetH Tryz.prog seatLaid3 W) : Pk W KS := by
 rw [MakeChecks.laidMetH_plain _ _ _ (by kernel_rfl)] at h
 obtain ⟨ps, ⟨g9, t9, cs9, f9, p9, q9, hg9, ht9, hv9, hd9, ⟨g0, t0, cs0, f0, p0, q0, hg0, ht0, hv0, hd0, ⟨g1, t1, cs1, f1, p1, q1, hg1, ht1, hv1, hd1, _, hq⟩, hps⟩, hp9⟩, _, hfz⟩ := h
 obtain rfl := Option.some.inj (gStart.symm.trans hg0)
 obtain rfl := Option.some.inj (gWords.symm.trans hg1)
 obtain rfl := Option.some.inj (tStart.symm.trans ht0)
 obtain rfl := Option.some.inj (tWords.symm.trans ht1)
 have e0 := words_of Tryz.underlying113 (by kernel_rfl) hd0
 have e1 := words_of Tryz.underlying111 (by kernel_rfl) hd1
 rw [H0_is] at e0
 have z0 : 0 < cs0.size := by rw [← Array.length_toList, e0]; decide
 have z1 : 0 < cs1.size := by rw [← Array.length_toList, e1]; show 0 < (KS.map _).length; rw [List.length_map, KS_len]; decide
 obtain ⟨⟨c, t, hc⟩, _⟩ := hfz 1 0 (by rw [hp9, hps]; exact List.mem_append_right _ (List.mem_append_left _ (List.mem_append_left _ (MemPlace.mem_row.2 ⟨0, z0, rfl⟩))))
 obtain ⟨⟨c', t', hc'⟩, _⟩ := hfz 2 0 (by rw [hp9, hps, hq]; exact List.mem_append_right _ (List.mem_append_right _ (List.mem_append_left _ (List.mem_append_left _ (MemPlace.mem_row.2 ⟨0, z1, rfl⟩)))))
 refine ⟨KS_len, t, t', ?_, ?_⟩
 ·have hv : some cs0 = some c := by rw [← hv0]; unfold World.var?; rw [gStart]; simp [hc]
  cases hv
  unfold Words
  rw [hc, ← e0]
 ·have hv : some cs1 = some c' := by rw [← hv1]; unfold World.var?; rw [gWords]; simp [hc']
  cases hv
  unfold Words
  have e2 : KS.map (Value.int .u32) = cs1.toList := e1.symm
  rw [hc', e2]
open Go
theorem weightsAll_mem {H : Type} {P : Program} {e : TypeId} : ∀ {ds : List (DataW H)} {d : DataW H}, d ∈ ds → ∀ n ∈ d.weights P e, n ∈ DataW.weightsAll P e ds
 | d0 :: ds, d, hd, n, hn => by
  simp only [DataW.weightsAll, List.mem_append]
  rcases List.mem_cons.1 hd with rfl | hd
  ·exact Or.inl hn
  ·exact Or.inr (weightsAll_mem hd n hn)
def Reach {H : Type} (P : Program) (t : TypeId) (d : DataW H) : Prop := ∀ n ∈ d.weights P t, n ≤ reachBytes
theorem reach_arg {H : Type} {P : Program} {ts : List TypeId} {ds : List (DataW H)} (h : (DataW.weightsEach P ts ds).all (· ≤ reachBytes) = true) {j : Nat} {t : TypeId} {d : DataW H} (ht : ts[j]? = some t) (hd : ds[j]? = some d) : Reach P t d := fun n hn => by
 have := List.all_eq_true.1 h _ (DataW.weights_mem_each ht hd n hn)
 simpa using this
theorem Reach.slice {H : Type} {P : Program} {t e : TypeId} {elems spare : List (DataW H)} (h : Reach P t (.slice elems spare)) (hu : P.underlying t = some (.slice e)) : (elems.length + spare.length) * P.bytesOf e ≤ reachBytes :=
 h _ (by simp [DataW.weights, hu])
theorem Reach.elem {H : Type} {P : Program} {t e : TypeId} {elems spare : List (DataW H)} (h : Reach P t (.slice elems spare)) (hu : P.underlying t = some (.slice e)) {d : DataW H} (hd : d ∈ elems) : Reach P e d := fun n hn =>
 h n (by
  simp only [DataW.weights, hu, List.mem_cons, List.mem_append]
  exact Or.inr (Or.inl (weightsAll_mem hd n hn)))
theorem Reach.string {H : Type} {P : Program} {t : TypeId} {bytes : List UInt8} (h : Reach (H := H) P t (.lit (.string bytes))) : bytes.length ≤ reachBytes :=
 h _ (by simp [DataW.weights])
theorem Reach.field {H : Type} {P : Program} {t : TypeId} {fs : Array Field} {parts : List (DataW H)} (h : Reach P t (.agg parts)) (hu : P.underlying t = some (.struct fs)) {j : Nat} {u : TypeId} {d : DataW H} (ht : (fs.toList.map (·.type))[j]? = some u) (hd : parts[j]? = some d) : Reach P u d := fun n hn =>
 h n (by
  simp only [DataW.weights, hu]
  exact DataW.weights_mem_each ht hd n hn)
theorem reach_size {H : Type} {P : Program} {t : TypeId} {s : ByteArray} (h : Reach (H := H) P t (.lit (.string s.data.toList))) : s.size ≤ 140737488351232 := by
 have := h.string
 unfold reachBytes at this
 simpa using this
theorem cells1i : Tryz.prog.cellsOf 3 = 1 := by kernel_rfl
theorem cells1j : Tryz.prog.cellsOf 2 = 1 := by kernel_rfl
theorem cells1s : Tryz.prog.cellsOf 9 = 1 := by kernel_rfl
theorem cells1l : Tryz.prog.cellsOf 22 = 1 := by kernel_rfl
theorem cells1k : Tryz.prog.cellsOf 23 = 1 := by kernel_rfl
theorem cells5v : Tryz.prog.cellsOf 25 = 5 := by kernel_rfl
section
variable {H : Type} {enc : TypeId × Value → H} {W : World}
theorem open_fields {fuel : Nat} {cs : List Value} {x : DataW H × List MemPlace} (h : DataW.trod enc Tryz.prog W 0 (fun _ => true) true fuel 25 cs = some x) :
  ∃ (n : Nat) (c0 c1 c2 c3 c4 : Value) (y0 y1 y2 y3 y4 : DataW H × List MemPlace), fuel = n + 1 ∧ cs = [c0, c1, c2, c3, c4] ∧ x.1 = .agg [y0.1, y1.1, y2.1, y3.1, y4.1] ∧
   DataW.trod enc Tryz.prog W 0 (fun _ => true) true n 3 [c0] = some y0 ∧ DataW.trod enc Tryz.prog W 0 (fun _ => true) true n 2 [c1] = some y1 ∧ DataW.trod enc Tryz.prog W 0 (fun _ => true) true n 9 [c2] = some y2 ∧
   DataW.trod enc Tryz.prog W 0 (fun _ => true) true n 22 [c3] = some y3 ∧ DataW.trod enc Tryz.prog W 0 (fun _ => true) true n 23 [c4] = some y4 := by
 obtain ⟨xs, n, rfl, rfl, hl, hlen, hf⟩ := DataW.trod_struct Tryz.underlying25 h
 rw [cells5v] at hl
 have hlen' : xs.length = 5 := hlen
 match cs, hl, xs, hlen' with
 | [c0, c1, c2, c3, c4], _, [y0, y1, y2, y3, y4], _ =>
  have h0 : DataW.trod enc Tryz.prog W 0 (fun _ => true) true n 3 (([c0, c1, c2, c3, c4].drop 0).take (Tryz.prog.cellsOf 3)) = some y0 := hf 0 _ rfl
  rw [cells1i] at h0
  have h1 : DataW.trod enc Tryz.prog W 0 (fun _ => true) true n 2 (([c0, c1, c2, c3, c4].drop 1).take (Tryz.prog.cellsOf 2)) = some y1 := hf 1 _ rfl
  rw [cells1j] at h1
  have h2 : DataW.trod enc Tryz.prog W 0 (fun _ => true) true n 9 (([c0, c1, c2, c3, c4].drop 2).take (Tryz.prog.cellsOf 9)) = some y2 := hf 2 _ rfl
  rw [cells1s] at h2
  have h3 : DataW.trod enc Tryz.prog W 0 (fun _ => true) true n 22 (([c0, c1, c2, c3, c4].drop 3).take (Tryz.prog.cellsOf 22)) = some y3 := hf 3 _ rfl
  rw [cells1l] at h3
  have h4 : DataW.trod enc Tryz.prog W 0 (fun _ => true) true n 23 (([c0, c1, c2, c3, c4].drop 4).take (Tryz.prog.cellsOf 23)) = some y4 := hf 4 _ rfl
  rw [cells1k] at h4
  exact ⟨n, c0, c1, c2, c3, c4, y0, y1, y2, y3, y4, rfl, rfl, rfl, h0, h1, h2, h3, h4⟩
theorem open_value : ∀ (fuel : Nat) (cs : List Value) (x : DataW H × List MemPlace), DataW.trod enc Tryz.prog W 0 (fun _ => true) true fuel 25 cs = some x → Go.Proofs.YtgkmdjmigehmeaaGreatDoor.Reach Tryz.prog 25 x.1 → ∃ v, IsV W W.heap.size v (.agg cs.toArray) := by
 intro fuel
 induction fuel using Nat.strongRecOn with
 | ind fuel ih =>
  intro cs x h hre
  obtain ⟨n, c0, c1, c2, c3, c4, y0, y1, y2, y3, y4, rfl, rfl, hx, h0, h1, h2, h3, h4⟩ := open_fields h
  rw [hx] at hre
  obtain ⟨k, e0, _, w0⟩ := DataW.trod_int Tryz.underlying3 h0
  obtain ⟨m, e1, _, w1⟩ := DataW.trod_int Tryz.underlying2 h1
  obtain ⟨s, e2, hy2, _⟩ := DataW.trod_string Tryz.underlying9 h2
  simp only [List.cons.injEq, and_true] at e0 e1 e2
  subst e0
  subst e1
  subst e2
  have r2 : s.size ≤ 140737488351232 := by
   have := hre.field (j := 2) (u := 9) (d := y2.1) Tryz.underlying25 rfl rfl
   rw [hy2] at this
   exact reach_size this
  have r3 := hre.field (j := 3) (u := 22) (d := y3.1) Tryz.underlying25 rfl rfl
  have r4 := hre.field (j := 4) (u := 23) (d := y4.1) Tryz.underlying25 rfl rfl
  obtain ⟨ks, ak, ck, hc4, nk, lk, ⟨bc, bq⟩, hk, bt⟩ : ∃ (ks : List ByteArray) (ak : Option Addr) (ck : Nat), c4 = .slice ak ks.length ck ∧ (ak = none → ks.length = 0 ∧ ck = 0) ∧ ks.length ≤ ck ∧ (ck ≤ 140737488351232 ∧ 16 * ks.length ≤ 140737488351232) ∧ (∀ a, ak = some a → ∀ i t, ks[i]? = some t → a.block < W.heap.size ∧ W.cell? (a.add i) = some (.string t)) ∧ ∀ t ∈ ks, t.size ≤ 140737488351232 := by
   rcases Go.Deep.open_strs Tryz.underlying23 Tryz.underlying9 cells1s h4 with ⟨hcs, _⟩ | ⟨a, l, c, m', Sx, hcs, _, hl, hm, hmm, hx4, hcell⟩
   ·simp only [List.cons.injEq, and_true] at hcs
    exact ⟨[], none, 0, hcs, fun _ => ⟨rfl, rfl⟩, Nat.le_refl _, ⟨by omega, by simp⟩, (fun a h => by cases h), fun t h => by cases h⟩
   ·simp only [List.cons.injEq, and_true] at hcs
    simp only [if_true] at hmm
    subst hmm
    rw [hx4] at r4
    refine ⟨(List.range l).map Sx, some a, m', by simpa using hcs, (fun e => by cases e), by simpa using hl, ?_, ?_, ?_⟩
    ·have h := r4.slice Tryz.underlying23
     rw [show Tryz.prog.bytesOf 9 = 16 by kernel_rfl] at h
     unfold reachBytes at h
     simp at h
     refine ⟨by omega, ?_⟩
     rw [List.length_map, List.length_range]
     omega
    ·intro b hb i t ht
     cases hb
     have hi : i < l := by
      have := (List.getElem?_eq_some_iff.1 ht).1
      simpa using this
     rw [List.getElem?_map, List.getElem?_range hi] at ht
     simp only [Option.map_some, Option.some.injEq] at ht
     subst ht
     have hc := (hcell i (by omega)).1
     refine ⟨?_, hc⟩
     have := World.block_lt_of_cell? _ _ (by rw [hc])
     rw [block_add] at this
     exact this
    ·intro t ht
     obtain ⟨i, hi, rfl⟩ := List.mem_map.1 ht
     exact reach_size (r4.elem Tryz.underlying23 (List.mem_map.2 ⟨i, hi, rfl⟩))
  obtain ⟨l, al, cl, V, hc3, nl, ll, bl, hl, hv, el⟩ : ∃ (l : List Vl) (al : Option Addr) (cl : Nat) (V : Nat → List Value), c3 = .slice al l.length cl ∧ (al = none → l.length = 0 ∧ cl = 0) ∧ l.length ≤ cl ∧ cl ≤ 140737488351232 ∧
    (∀ a, al = some a → ∀ i, i < l.length → a.block < W.heap.size ∧ ∀ j v, (V i)[j]? = some v → W.cell? ((a.add (i * 5)).add j) = some v) ∧ (∀ i, i < l.length → (V i).length = 5) ∧ ∀ i x, l[i]? = some x → IsV W W.heap.size x (.agg (V i).toArray) := by
   rcases DataW.trod_slice Tryz.underlying22 h3 with ⟨hcs, _⟩ | ⟨a, len, cap, elems, rest, n', hn', hcs, hx3, _, hlc, hcm, hlen, hel, hsp, _⟩
   ·simp only [List.cons.injEq, and_true] at hcs
    exact ⟨[], none, 0, fun _ => [], hcs, fun _ => ⟨rfl, rfl⟩, Nat.le_refl _, by omega, (fun a h => by cases h), (fun i h => absurd h (by simp)), fun i x h => by simp at h⟩
   ·simp only [List.cons.injEq, and_true] at hcs
    rw [hx3] at r3
    rw [cells5v] at hel
    have hall : ∀ i, i < len → ∃ p : List Value × Vl, p.1.length = 5 ∧ (a.block < W.heap.size ∧ ∀ j v, p.1[j]? = some v → W.cell? ((a.add (i * 5)).add j) = some v) ∧ IsV W W.heap.size p.2 (.agg p.1.toArray) := by
     intro i hi
     have he := hel i hi
     rw [List.getElem?_eq_getElem (by omega)] at he
     obtain ⟨cs', hc1, hc2⟩ := Option.bind_eq_some_iff.1 he
     obtain ⟨_, hl5, hcell⟩ := World.cells?_some hc1
     obtain ⟨v, hv⟩ := ih n' (by omega) cs' _ hc2 (r3.elem Tryz.underlying22 (List.mem_map.2 ⟨_, List.getElem_mem _, rfl⟩))
     refine ⟨(cs', v), hl5, ⟨?_, fun j u hu => ?_⟩, hv⟩
     ·have h0 := hcell 0 (by omega)
      have := World.block_lt_of_cell? W ((a.add (i * 5)).add 0) (by rw [h0, List.getElem?_eq_getElem (by omega)])
      rw [block_add, block_add] at this
      exact this
     ·have hj : j < 5 := by
       have h5 : j < cs'.length := (List.getElem?_eq_some_iff.1 hu).1
       omega
      rw [hcell j hj]
      exact hu
    haveI : Inhabited (List Value × Vl) := ⟨([], .mk 0 0 ⟨#[]⟩ [] [])⟩
    obtain ⟨f, hf⟩ := Go.Deep.choose_lt hall
    refine ⟨(List.range len).map (fun i => (f i).2), some a, cap, fun i => (f i).1, by simpa using hcs, (fun e => by cases e), by simpa using hlc, ?_, ?_, ?_, ?_⟩
    ·have h := r3.slice Tryz.underlying22
     rw [show Tryz.prog.bytesOf 25 = 80 by kernel_rfl] at h
     have hs := (hsp rfl).1
     unfold reachBytes at h
     simp at h
     omega
    ·intro b hb i hi
     cases hb
     exact (hf i (by simpa using hi)).2.1
    ·intro i hi
     exact (hf i (by simpa using hi)).1
    ·intro i x hx
     have hi : i < len := by
      have := (List.getElem?_eq_some_iff.1 hx).1
      simpa using this
     rw [List.getElem?_map, List.getElem?_range hi] at hx
     simp only [Option.map_some, Option.some.injEq] at hx
     subst hx
     exact (hf i hi).2.2
  subst hc3
  subst hc4
  exact ⟨.mk k m s l ks, IsP.of ⟨bounds_i64 w0, bounds_i64 w1, r2, nl, nk, ll, lk, Nat.le_trans ll bl, Nat.le_trans lk bc, bq, hl, hv, hk, bt⟩ el⟩
end
section
variable {H : Type} {enc : TypeId × Value → H} {W : World}
theorem open_valuesP {fuel : Nat} {c3 : Value} {x : DataW H × List MemPlace} (h3 : DataW.trod enc Tryz.prog W 0 (fun _ => true) true fuel 22 [c3] = some x) (r3 : Go.Proofs.YtgkmdjmigehmeaaGreatDoor.Reach Tryz.prog 22 x.1) :
  ∃ (l : List Vl) (al : Option Addr) (cl : Nat), c3 = .slice al l.length cl ∧ ArV W W.heap.size l al l.length cl := by
 rcases DataW.trod_slice Tryz.underlying22 h3 with ⟨hcs, _⟩ | ⟨a, len, cap, elems, rest, n', hn', hcs, hx3, _, hlc, hcm, hlen, hel, hsp, _⟩
 ·simp only [List.cons.injEq, and_true] at hcs
  refine ⟨[], none, 0, hcs, rfl, IsP.of (V := fun _ => []) ⟨by omega, by omega, by rw [e0sP]; omega, (fun _ => ⟨rfl, rfl⟩), (fun _ => ⟨rfl, rfl⟩), Nat.le_refl _, Nat.le_refl _, by simp, by simp, by simp, (fun a h => by cases h), (fun i h => absurd h (by simp)), (fun a h => by cases h), (fun t h => by cases h)⟩ (fun i y h => by simp at h)⟩
 ·simp only [List.cons.injEq, and_true] at hcs
  rw [hx3] at r3
  rw [cells5v] at hel
  have hall : ∀ i, i < len → ∃ p : List Value × Vl, p.1.length = 5 ∧ (a.block < W.heap.size ∧ ∀ j v, p.1[j]? = some v → W.cell? ((a.add (i * 5)).add j) = some v) ∧ IsV W W.heap.size p.2 (.agg p.1.toArray) := by
   intro i hi
   have he := hel i hi
   rw [List.getElem?_eq_getElem (by omega)] at he
   obtain ⟨cs', hc1, hc2⟩ := Option.bind_eq_some_iff.1 he
   obtain ⟨_, hl5, hcell⟩ := World.cells?_some hc1
   obtain ⟨v, hv⟩ := open_value n' cs' _ hc2 (r3.elem Tryz.underlying22 (List.mem_map.2 ⟨_, List.getElem_mem _, rfl⟩))
   refine ⟨(cs', v), hl5, ⟨?_, fun j u hu => ?_⟩, hv⟩
   ·have h0 := hcell 0 (by omega)
    have := World.block_lt_of_cell? W ((a.add (i * 5)).add 0) (by rw [h0, List.getElem?_eq_getElem (by omega)])
    rw [block_add, block_add] at this
    exact this
   ·have hj : j < 5 := by
     have h5 : j < cs'.length := (List.getElem?_eq_some_iff.1 hu).1
     omega
    rw [hcell j hj]
    exact hu
  haveI : Inhabited (List Value × Vl) := ⟨([], .mk 0 0 ⟨#[]⟩ [] [])⟩
  obtain ⟨f, hf⟩ := Go.Deep.choose_lt hall
  have hl : ((List.range len).map (fun i => (f i).2)).length = len := by simp
  have hb := r3.slice Tryz.underlying22
  rw [show Tryz.prog.bytesOf 25 = 80 by kernel_rfl] at hb
  have hs := (hsp rfl).1
  unfold reachBytes at hb
  simp at hb
  refine ⟨(List.range len).map (fun i => (f i).2), some a, cap, by rw [hl]; exact hcs, rfl, IsP.of (V := fun i => (f i).1) ⟨by omega, by omega, by rw [e0sP]; omega, (fun e => by cases e), (fun _ => ⟨rfl, rfl⟩), by rw [hl]; exact hlc, Nat.le_refl _, by rw [hl]; omega, by simp, by simp, ?_, ?_, (fun a h => by cases h), (fun t h => by cases h)⟩ ?_⟩
  ·intro b hb i hi
   cases hb
   exact (hf i (by simpa using hi)).2.1
  ·intro i hi
   exact (hf i (by simpa using hi)).1
  ·intro i x hx
   have hi : i < len := by
    have := (List.getElem?_eq_some_iff.1 hx).1
    simpa using this
   rw [List.getElem?_map, List.getElem?_range hi] at hx
   simp only [Option.map_some, Option.some.injEq] at hx
   subst hx
   exact (hf i hi).2.2
end
end Go.Proofs.YtgkmdjmigehmeaaGreatDoor
