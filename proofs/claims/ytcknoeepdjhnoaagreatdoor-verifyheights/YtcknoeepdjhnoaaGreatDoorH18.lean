/-
  The walks of the document's own Put and Encode; conditions: the lengths together are below 2^47.
  What the listed table of operations of the seat gives the walks; no conditions.
  What the form's own reach says of what lies within an argument: elements of slices, fields of structs; no conditions.
  How a value among the arguments is opened: a tree of values that lies in memory; no conditions.
  What the listed variables operations and operands of the seat give the walks; no conditions.
-/
import Derived.Test.YtcknoeepdjhnoaaGreatDoorH17
import Derived.Test.YtcknoeepdjhnoaaGreatDoorH12
import Derived.ProofKit
import Derived.LaidMore
import Derived.Stop.Joined
import Derived.Test.YtcknoeepdjhnoaaGreatDoorChecked
import Derived.SizedLaws
import Derived.Deep.Strs
import Derived.Test.YtcknoeepdjhnoaaGreatDoorH02
import Derived.OpenShut
set_option linter.unusedVariables false
set_option linter.unusedSimpArgs false
namespace Go.Proofs.YtcknoeepdjhnoaaGreatDoor
open Go.RowKit
set_option linter.unusedVariables false
set_option linter.unusedSimpArgs false

set_option maxRecDepth 100000 in
set_option maxHeartbeats 1000000 in
theorem put_f (ab : Option Addr) (lb cb : Nat) (zs : List Int) (v : Vl) (x : Value) (B : Nat) (w : World) (hz : Row8 w ab lb cb zs) (hv : IsV w B v x) (hBs : B ≤ w.heap.size) (hb : lb + 43018 ≤ 140737489403904) :
    Calls Tryz.prog 73 #[.slice ab lb cb, x] w fun e w' => ∃ (ao : Option Addr) (len cap : Nat), e = .returned (.tuple #[.slice ao len cap, .int .i64 (codeR v)]) ∧ Row8 w' ao len cap (if rightB v = true then zs ++ wenc v else []) ∧ Below w.heap.size w w' ∧ (∀ a, ao = some a → w.heap.size ≤ a.block) ∧ cap ≤ maxLen := by
  have hfit := hv.fit
  obtain ⟨k, n, s, l, ks, al, ak, cl, ck, hvv, hx⟩ := hv.shape
  clear hvv
  obtain ⟨m, hm⟩ : ∃ m, ks.length = m := ⟨_, rfl⟩
  obtain ⟨ln, hln⟩ : ∃ ln, l.length = ln := ⟨_, rfl⟩
  rw [hm, hln] at hx
  subst hx
  obtain ⟨w1, hw1⟩ : ∃ w1, w.alloc (.cells #[.int .i64 k, .int .i64 n, .string s, .slice al ln cl, .slice ak m ck] 42) = w1 := ⟨_, rfl⟩
  have BX := Box.mk' w (.int .i64 k) (.int .i64 n) (.string s) (.slice al ln cl) (.slice ak m ck)
  rw [hw1] at BX
  obtain ⟨g, hg⟩ : ∃ g, w.heap.size = g := ⟨_, rfl⟩
  have z1 := BX.size
  have z1g : w1.heap.size = g + 1 := by omega
  have HRW : Hid (∀ u, Below w1.heap.size w1 u → u.heap[g]? = some (.cells #[.int .i64 k, .int .i64 n, .string s, .slice al ln cl, .slice ak m ck] 42 (0, 0)) ∧ IsV u B v (.agg #[.int .i64 k, .int .i64 n, .string s, .slice al ln cl, .slice ak m ck]) ∧ Row8 u ab lb cb zs ∧ Below w.heap.size w u) := hide (fun u hu => ⟨by rw [← hg]; exact (hu.block _ (by omega)).trans BX.row, hv.mono ((BX.below.mono hBs).trans (hu.mono (by omega))), (hz.later BX.below).later hu, BX.below.trans (hu.mono (by omega))⟩)
  have CR := hide (right_ref v _ B w1 (unhide HRW w1 (Below.refl _ _)).2.1 (by omega))
  obtain ⟨c0, c1, c2, c3, c4⟩ := row_cell (unhide HRW w1 (Below.refl _ _)).1
  clear BX hv hz z1 hm hln
  cases hR : rightB v with
  | false =>
    rw [hR] at CR
    have HC : Hid (codeR v = 40) := hide (by simp [codeR, hR])
    clear hR
    go_enter Tryz.func73, Tryz.ntmps73
    go_wp2_with fail
    refine (unhide CR).mono ?_
    rintro e w2 ⟨rfl, b2⟩
    have H2 := hide b2
    clear b2 CR
    go_wp2_with fail
    go_ret2
    refine ⟨none, 0, 0, by rw [unhide HC]; rfl, by simpa using nilRow _, ?_, (fun a h => by cases h), by unfold maxLen; omega⟩
    have h := (unhide HRW _ (unhide H2)).2.2.2
    first | exact h | (rw [← hg]; exact h)
  | true =>
    rw [hR] at CR
    have hw2 := right_wt hR
    have hlen := wenc_len v
    have hlb : (wenc v).length ≤ 43008 := by omega
    have hpos := wenc_pos v 8 hw2.1
    have hsm := wenc_small v 8 hw2.1 hfit
    have HS := hide (And.intro hsm hw2.1)
    have HC : Hid (codeR v = 0) := hide (by simp [codeR, hR])
    obtain ⟨Z, hZ⟩ : ∃ Z, wenc v = Z := ⟨_, rfl⟩
    have CL : Hid (∀ u sv, Below w1.heap.size w1 u → u.ownsRow w1.heap.size 5 1 sv (0 + lb) (([] ++ zs).map (Value.int .u8)) → Calls Tryz.prog 97 #[sv, .agg #[.int .i64 k, .int .i64 n, .string s, .slice al ln cl, .slice ak m ck]] u fun e w' => Laid w1.heap.size sv lb zs Z u e w') := hide (fun u sv hu ho => by
      rw [Nat.zero_add, List.nil_append] at ho
      have h := put_f_any 8 v _ B w1.heap.size u sv lb zs hw2.1 (unhide HRW u hu).2.1 (by omega) hu.size ho (unhide HRW u hu).2.2.1.small (by omega)
      rw [hZ] at h
      exact h)
    rw [hZ] at hlb hpos HS
    rw [if_pos rfl, hZ]
    clear hR hw2 hlen hsm hZ hfit
    go_enter Tryz.func73, Tryz.ntmps73
    go_wp2_with fail
    refine (unhide CR).mono ?_
    rintro e w2 ⟨rfl, b2⟩
    have H2 := hide b2
    clear b2 CR c0 c1 c2 c3 c4
    obtain ⟨c0, c1, c2, c3, c4⟩ := row_cell (unhide HRW w2 (unhide H2)).1
    go_upto_region 5 with fail
    refine till_begin (S := fun w' => w'.cell? ⟨g, 0, none⟩ = some (.int .i64 k) ∧ w'.cell? ⟨g, 1, none⟩ = some (.int .i64 n) ∧ w'.cell? ⟨g, 2, none⟩ = some (.string s) ∧ w'.cell? ⟨g, 3, none⟩ = some (.slice al ln cl) ∧ w'.cell? ⟨g, 4, none⟩ = some (.slice ak m ck)) 6 (by kernel_rfl) ?_
    obtain ⟨wd, hwd⟩ : ∃ wd, w2.drew = wd := ⟨_, rfl⟩
    have HD : Hid (Below w1.heap.size w1 wd) := hide (by rw [← hwd]; exact (unhide H2).drew)
    have B2d : Below w2.heap.size w2 wd := by rw [← hwd]; exact (Below.refl _ _).drew
    have HS1 := And.intro (cell_later B2d c0) (And.intro (cell_later B2d c1) (And.intro (cell_later B2d c2) (And.intro (cell_later B2d c3) (cell_later B2d c4))))
    rw [hwd]
    clear hwd B2d c0 c1 c2 c3 c4
    refine till_take 0 (v := .slice none 0 0) (some 12) rfl rfl rfl (by kernel_rfl) (by kernel_rfl) (by kernel_rfl) (by kernel_rfl) (fun _ _ _ h => h) (Or.inl ⟨by rfl, fun u hu => by obtain ⟨t0, t1, t2, t3, t4⟩ := hu; go_simp⟩) HS1 ?_
    try simp only [Act.put, List.setIfInBounds_toArray, List.set_cons_zero, List.set_cons_succ]
    refine till_take 1 (v := .slice ab lb cb) (some 13) rfl rfl rfl (by kernel_rfl) (by kernel_rfl) (by kernel_rfl) (by kernel_rfl) (fun _ _ _ h => h) (Or.inl ⟨by rfl, fun u hu => by obtain ⟨t0, t1, t2, t3, t4⟩ := hu; go_simp⟩) HS1 ?_
    try simp only [Act.put, List.setIfInBounds_toArray, List.set_cons_zero, List.set_cons_succ]
    refine till_take 3 (v := .agg #[.int .i64 k, .int .i64 n, .string s, .slice al ln cl, .slice ak m ck]) (some 15) rfl rfl rfl (by kernel_rfl) (by kernel_rfl) (by kernel_rfl) (by kernel_rfl) (fun _ _ _ h => h) (Or.inl ⟨by rfl, fun u hu => by obtain ⟨t0, t1, t2, t3, t4⟩ := hu; go_simp⟩) HS1 ?_
    try simp only [Act.put, List.setIfInBounds_toArray, List.set_cons_zero, List.set_cons_succ]
    refine till_one 2 (by kernel_rfl) rfl (fun K hK => ?_)
    refine step_app (by rfl) _ _ (by rfl) w1.heap.size 0 (.slice none 0 0) [] (by rfl) (World.ownsRow_nil _ _ _ _) ab lb cb zs (by rfl) (unhide HRW wd (unhide HD)).2.2.1 (by omega) (unhide HD).size ?_
    intro v2 wa HA
    change K (Act.put _ (some 14) _) wa
    have Xa : Below wd.heap.size wd wa := ⟨(unhide HA).2.grown.os, (unhide HA).2.grown.tape, (unhide HA).2.grown.output, (unhide HA).2.grown.size, fun q hq => (unhide HA).2.grown.block q hq (by simp [Value.ownBlock])⟩
    have XA := hide ((unhide HD).trans (Xa.mono (unhide HD).size))
    have HSa := And.intro (cell_later Xa HS1.1) (And.intro (cell_later Xa HS1.2.1) (And.intro (cell_later Xa HS1.2.2.1) (And.intro (cell_later Xa HS1.2.2.2.1) (cell_later Xa HS1.2.2.2.2))))
    have CC := hide (unhide CL wa v2 (unhide XA) (unhide HA).1)
    have hov : ∀ q, v2.ownBlock = some q → w1.heap.size ≤ q := fun q e => ((unhide HA).1.lt q e).1
    have HOV := hide hov
    refine hK.out _ _ (Or.inr HSa) ?_
    clear hK K Xa hov
    try simp only [Act.put, List.setIfInBounds_toArray, List.set_cons_zero, List.set_cons_succ]
    refine till_one 4 (by kernel_rfl) rfl (fun K hK => ?_)
    go_simp
    refine (unhide CC).mono ?_
    rintro e we ⟨v6, rfl, own6, gr6⟩
    have Xe : Below w1.heap.size w1 we := (unhide XA).trans (gr6.below (unhide HA).1 (unhide XA).size)
    have hne : some g ≠ v2.ownBlock := fun e => by have := unhide HOV g e.symm; omega
    have kp : ∀ q x, wa.cell? ⟨g, q, none⟩ = some x → we.cell? ⟨g, q, none⟩ = some x := fun q x hx => (World.cell?_of_block (gr6.far (b := g) (by have := (unhide XA).size; omega) hne)).trans hx
    have HSe := And.intro (kp _ _ HSa.1) (And.intro (kp _ _ HSa.2.1) (And.intro (kp _ _ HSa.2.2.1) (And.intro (kp _ _ HSa.2.2.2.1) (kp _ _ HSa.2.2.2.2))))
    have hsz : ∀ c ∈ zs ++ Z, 0 ≤ c ∧ c ≤ 255 := fun c hc => by
      rcases List.mem_append.1 hc with h | h
      · exact (unhide HRW w1 (Below.refl _ _)).2.2.1.small c h
      · exact (unhide HS).1 c h
    obtain ⟨g5, cp5, rfl, hg5, r5, m5⟩ := row_of own6 hsz (by omega)
    have HE := hide (And.intro Xe (And.intro r5 (And.intro hg5 m5)))
    clear own6 gr6 kp hne CC Xe r5 m5 hsz
    go_wp2_with fail
    refine hK.out _ _ (Or.inr HSe) ?_
    clear hK K
    try simp only [Act.put, List.setIfInBounds_toArray, List.set_cons_zero, List.set_cons_succ]
    have FIN : ∀ e', e' = .returned (.tuple #[.slice (some ⟨g5, 0, none⟩) (lb + Z.length) cp5, .int .i64 0]) → ∃ (ao : Option Addr) (len cap : Nat), e' = Ending.returned (.tuple #[.slice ao len cap, .int .i64 (codeR v)]) ∧ Row8 we ao len cap (zs ++ Z) ∧ Below w.heap.size w we ∧ (∀ a, ao = some a → w.heap.size ≤ a.block) ∧ cap ≤ maxLen := fun e' he' => by
      obtain ⟨Xe, r5, hg5, m5⟩ := unhide HE
      refine ⟨_, _, _, by rw [unhide HC]; exact he', r5, ?_, (fun a h => by cases h; show _ ≤ g5; omega), m5⟩
      exact (unhide HRW _ Xe).2.2.2
    have HFIN := hide FIN
    clear FIN
    refine till_one 5 (by kernel_rfl) rfl (fun K hK => ?_)
    go_simp
    refine hK.out _ _ (Or.inr HSe) ?_
    clear hK K
    try simp only [Act.put, List.setIfInBounds_toArray, List.set_cons_zero, List.set_cons_succ]
    refine till_one 6 (by kernel_rfl) rfl (fun K hK => ?_)
    go_simp
    refine hK.out _ _ (Or.inl rfl) ?_
    clear hK K
    try simp only [Act.put, List.setIfInBounds_toArray, List.set_cons_zero, List.set_cons_succ]
    refine till_done (by kernel_rfl) ?_ _
    go_wp2_with fail
    go_ret2
    have h := unhide HFIN _ rfl
    first | exact h | (rw [hg] at h; exact h)

end Go.Proofs.YtcknoeepdjhnoaaGreatDoor

namespace Go.Proofs.YtcknoeepdjhnoaaGreatDoor
open Go.ChangeShapes Go.WideShapes Go.ChangeAt Go.RowKit

theorem own : ownKnob Tryz.prog.godebug = none := by kernel_rfl
theorem laidOut : laidOutB Tryz.prog = true := by kernel_rfl
theorem gOps : Tryz.prog.globalNamed "scruple/code.operations" = some 1 := by kernel_rfl
theorem tOps : (Tryz.prog.globals[1]?).map (·.type) = some 132 := by kernel_rfl
theorem cells_int : Tryz.prog.cellsOf 3 = 1 := by kernel_rfl
theorem cells_str : Tryz.prog.cellsOf 9 = 1 := by kernel_rfl
theorem cells_inf : Tryz.prog.cellsOf 97 = 6 := by kernel_rfl

theorem len6 {α : Type} : ∀ (l : List α), l.length = 6 → ∃ a b c d e f, l = [a, b, c, d, e, f]
  | [a, b, c, d, e, f], _ => ⟨a, b, c, d, e, f, rfl⟩

set_option maxRecDepth 100000 in
theorem inf_of {W : World} {fuel : Nat} {cs : List Value} {d : DataW Unit} {p : List MemPlace} (h : DataW.trod (fun _ => ()) Tryz.prog W 0 (fun _ => true) false fuel 97 cs = some (d, p)) :
    cs = infV (infOf d) := by
  obtain ⟨xs, m, _, hx1, hlen, hn, hf⟩ := DataW.trod_struct Tryz.underlying97 h
  simp only [Prod.mk.injEq] at hx1
  obtain ⟨rfl, _⟩ := hx1
  rw [cells_inf] at hlen
  have hn6 : xs.length = 6 := hn
  obtain ⟨v0, v1, v2, v3, v4, v5, rfl⟩ := len6 cs hlen
  obtain ⟨x0, x1, x2, x3, x4, x5, rfl⟩ := len6 xs hn6
  clear hlen hn hn6 h
  have f0 := hf 0 _ rfl
  have f1 := hf 1 _ rfl
  have f2 := hf 2 _ rfl
  have f3 := hf 3 _ rfl
  have f4 := hf 4 _ rfl
  have f5 := hf 5 _ rfl
  obtain ⟨s, a0, b0, _⟩ := DataW.trod_string Tryz.underlying9 f0
  obtain ⟨n1, a1, b1, _⟩ := DataW.trod_int Tryz.underlying3 f1
  obtain ⟨n2, a2, b2, _⟩ := DataW.trod_int Tryz.underlying3 f2
  obtain ⟨n3, a3, b3, _⟩ := DataW.trod_int Tryz.underlying3 f3
  obtain ⟨n4, a4, b4, _⟩ := DataW.trod_int Tryz.underlying3 f4
  obtain ⟨n5, a5, b5, _⟩ := DataW.trod_int Tryz.underlying3 f5
  simp [cells_int, cells_str] at a0 a1 a2 a3 a4 a5
  subst b0 b1 b2 b3 b4 b5 a0 a1 a2 a3 a4 a5
  simp [infOf, infV]

theorem tab_of {W : World} {fuel : Nat} {cs : Array Value} {t : TypeId} {p : List MemPlace} (hb : W.heap[1]? = some (.cells cs t (0, 0))) (h : DataW.trod (fun _ => ()) Tryz.prog W 0 (fun _ => true) false fuel 132 cs.toList = some (Rows.laid_scruple_code_operations, p)) : Tab W := by
  obtain ⟨xs, m, _, hx1, hlen, hn, hel⟩ := DataW.trod_array Tryz.underlying132 h
  simp only [Prod.mk.injEq] at hx1
  have e : OPS = xs.map fun x => infOf x.1 := by
    unfold OPS
    rw [hx1.1]
    simp
  refine ⟨(Array.getElem?_eq_some_iff.1 hb).1, fun k x hx j v hv => ?_⟩
  have hk : k < 42 := by have := (List.getElem?_eq_some_iff.1 hx).1; rw [OPS_len] at this; exact this
  have hk' : k < xs.length := by omega
  have h1 := hel k hk
  rw [List.getElem?_eq_getElem hk'] at h1
  have h2 := inf_of h1
  have e2 : infOf xs[k].1 = x := by
    rw [e] at hx
    simpa [hk'] using hx
  have h3 := h2.trans (show infV (infOf (xs.get ⟨k, hk'⟩).1) = infV x by rw [← e2]; rfl)
  rw [cells_inf] at h3
  rw [cell_of_row W 1 _ cs t (0, 0) hb]
  have hj : j < 6 := (List.getElem?_eq_some_iff.1 hv).1
  rw [← h3, List.getElem?_take_of_lt hj, List.getElem?_drop] at hv
  simpa using hv

end Go.Proofs.YtcknoeepdjhnoaaGreatDoor

namespace Go.Proofs.YtcknoeepdjhnoaaGreatDoor
open Go

theorem weightsAll_mem {H : Type} {P : Program} {e : TypeId} : ∀ {ds : List (DataW H)} {d : DataW H}, d ∈ ds → ∀ n ∈ d.weights P e, n ∈ DataW.weightsAll P e ds
  | d0 :: ds, d, hd, n, hn => by
    simp only [DataW.weightsAll, List.mem_append]
    rcases List.mem_cons.1 hd with rfl | hd
    · exact Or.inl hn
    · exact Or.inr (weightsAll_mem hd n hn)

/-- within reach -/
def Reach {H : Type} (P : Program) (t : TypeId) (d : DataW H) : Prop := ∀ n ∈ d.weights P t, n ≤ reachBytes

theorem reach_arg {H : Type} {P : Program} {ts : List TypeId} {ds : List (DataW H)} (h : (DataW.weightsEach P ts ds).all (· ≤ reachBytes) = true) {j : Nat} {t : TypeId} {d : DataW H} (ht : ts[j]? = some t) (hd : ds[j]? = some d) : Reach P t d := fun n hn => by
  have := List.all_eq_true.1 h _ (DataW.weights_mem_each ht hd n hn)
  simpa using this

theorem Reach.slice {H : Type} {P : Program} {t e : TypeId} {elems spare : List (DataW H)} (h : Reach P t (.slice elems spare)) (hu : P.underlying t = some (.slice e)) : (elems.length + spare.length) * P.bytesOf e ≤ reachBytes :=
  h _ (by simp [DataW.weights, hu])

theorem Reach.elem {H : Type} {P : Program} {t e : TypeId} {elems spare : List (DataW H)} (h : Reach P t (.slice elems spare)) (hu : P.underlying t = some (.slice e)) {d : DataW H} (hd : d ∈ elems) : Reach P e d := fun n hn =>
  h n (by
    simp only [DataW.weights, hu, List.mem_cons, List.mem_append]
    exact Or.inr (Or.inl (weightsAll_mem hd n hn)))

theorem Reach.string {H : Type} {P : Program} {t : TypeId} {bytes : List UInt8} (h : Reach (H := H) P t (.lit (.string bytes))) : bytes.length ≤ reachBytes :=
  h _ (by simp [DataW.weights])

theorem Reach.field {H : Type} {P : Program} {t : TypeId} {fs : Array Field} {parts : List (DataW H)} (h : Reach P t (.agg parts)) (hu : P.underlying t = some (.struct fs)) {j : Nat} {u : TypeId} {d : DataW H} (ht : (fs.toList.map (·.type))[j]? = some u) (hd : parts[j]? = some d) : Reach P u d := fun n hn =>
  h n (by
    simp only [DataW.weights, hu]
    exact DataW.weights_mem_each ht hd n hn)

theorem reach_size {H : Type} {P : Program} {t : TypeId} {s : ByteArray} (h : Reach (H := H) P t (.lit (.string s.data.toList))) : s.size ≤ 140737488351232 := by
  have := h.string
  unfold reachBytes at this
  simpa using this
end Go.Proofs.YtcknoeepdjhnoaaGreatDoor

namespace Go.Proofs.YtcknoeepdjhnoaaGreatDoor
open Go.ChangeShapes Go.WideShapes Go.ChangeAt Go.RowKit

theorem cells1i : Tryz.prog.cellsOf 3 = 1 := by kernel_rfl
theorem cells1j : Tryz.prog.cellsOf 2 = 1 := by kernel_rfl
theorem cells1s : Tryz.prog.cellsOf 9 = 1 := by kernel_rfl
theorem cells1l : Tryz.prog.cellsOf 23 = 1 := by kernel_rfl
theorem cells1k : Tryz.prog.cellsOf 40 = 1 := by kernel_rfl
theorem cells5v : Tryz.prog.cellsOf 42 = 5 := by kernel_rfl

section
variable {H : Type} {enc : TypeId × Value → H} {W : World}

set_option maxRecDepth 100000 in
theorem open_fields {fuel : Nat} {cs : List Value} {x : DataW H × List MemPlace} (h : DataW.trod enc Tryz.prog W 0 (fun _ => true) true fuel 42 cs = some x) :
    ∃ (n : Nat) (c0 c1 c2 c3 c4 : Value) (y0 y1 y2 y3 y4 : DataW H × List MemPlace), fuel = n + 1 ∧ cs = [c0, c1, c2, c3, c4] ∧ x.1 = .agg [y0.1, y1.1, y2.1, y3.1, y4.1] ∧
      DataW.trod enc Tryz.prog W 0 (fun _ => true) true n 3 [c0] = some y0 ∧ DataW.trod enc Tryz.prog W 0 (fun _ => true) true n 2 [c1] = some y1 ∧ DataW.trod enc Tryz.prog W 0 (fun _ => true) true n 9 [c2] = some y2 ∧
      DataW.trod enc Tryz.prog W 0 (fun _ => true) true n 23 [c3] = some y3 ∧ DataW.trod enc Tryz.prog W 0 (fun _ => true) true n 40 [c4] = some y4 := by
  obtain ⟨xs, n, rfl, rfl, hl, hlen, hf⟩ := DataW.trod_struct Tryz.underlying42 h
  rw [cells5v] at hl
  have hlen' : xs.length = 5 := hlen
  match cs, hl, xs, hlen' with
  | [c0, c1, c2, c3, c4], _, [y0, y1, y2, y3, y4], _ =>
    have h0 : DataW.trod enc Tryz.prog W 0 (fun _ => true) true n 3 (([c0, c1, c2, c3, c4].drop 0).take (Tryz.prog.cellsOf 3)) = some y0 := hf 0 _ rfl
    rw [cells1i] at h0
    have h1 : DataW.trod enc Tryz.prog W 0 (fun _ => true) true n 2 (([c0, c1, c2, c3, c4].drop 1).take (Tryz.prog.cellsOf 2)) = some y1 := hf 1 _ rfl
    rw [cells1j] at h1
    have h2 : DataW.trod enc Tryz.prog W 0 (fun _ => true) true n 9 (([c0, c1, c2, c3, c4].drop 2).take (Tryz.prog.cellsOf 9)) = some y2 := hf 2 _ rfl
    rw [cells1s] at h2
    have h3 : DataW.trod enc Tryz.prog W 0 (fun _ => true) true n 23 (([c0, c1, c2, c3, c4].drop 3).take (Tryz.prog.cellsOf 23)) = some y3 := hf 3 _ rfl
    rw [cells1l] at h3
    have h4 : DataW.trod enc Tryz.prog W 0 (fun _ => true) true n 40 (([c0, c1, c2, c3, c4].drop 4).take (Tryz.prog.cellsOf 40)) = some y4 := hf 4 _ rfl
    rw [cells1k] at h4
    exact ⟨n, c0, c1, c2, c3, c4, y0, y1, y2, y3, y4, rfl, rfl, rfl, h0, h1, h2, h3, h4⟩

set_option maxRecDepth 100000 in
theorem open_value : ∀ (fuel : Nat) (cs : List Value) (x : DataW H × List MemPlace), DataW.trod enc Tryz.prog W 0 (fun _ => true) true fuel 42 cs = some x → Go.Proofs.YtcknoeepdjhnoaaGreatDoor.Reach Tryz.prog 42 x.1 → ∃ v, IsV W W.heap.size v (.agg cs.toArray) := by
  intro fuel
  induction fuel using Nat.strongRecOn with
  | ind fuel ih =>
    intro cs x h hre
    obtain ⟨n, c0, c1, c2, c3, c4, y0, y1, y2, y3, y4, rfl, rfl, hx, h0, h1, h2, h3, h4⟩ := open_fields h
    rw [hx] at hre
    obtain ⟨k, e0, _, w0⟩ := DataW.trod_int Tryz.underlying3 h0
    obtain ⟨m, e1, _, w1⟩ := DataW.trod_int Tryz.underlying2 h1
    obtain ⟨s, e2, hy2, _⟩ := DataW.trod_string Tryz.underlying9 h2
    simp only [List.cons.injEq, and_true] at e0 e1 e2
    subst e0
    subst e1
    subst e2
    have r2 : s.size ≤ 140737488351232 := by
      have := hre.field (j := 2) (u := 9) (d := y2.1) Tryz.underlying42 rfl rfl
      rw [hy2] at this
      exact reach_size this
    have r3 := hre.field (j := 3) (u := 23) (d := y3.1) Tryz.underlying42 rfl rfl
    have r4 := hre.field (j := 4) (u := 40) (d := y4.1) Tryz.underlying42 rfl rfl
    obtain ⟨ks, ak, ck, hc4, nk, lk, ⟨bc, bq⟩, hk, bt⟩ : ∃ (ks : List ByteArray) (ak : Option Addr) (ck : Nat), c4 = .slice ak ks.length ck ∧ (ak = none → ks.length = 0 ∧ ck = 0) ∧ ks.length ≤ ck ∧ (ck ≤ 140737488351232 ∧ 16 * ks.length ≤ 140737488351232) ∧ (∀ a, ak = some a → ∀ i t, ks[i]? = some t → a.block < W.heap.size ∧ W.cell? (a.add i) = some (.string t)) ∧ ∀ t ∈ ks, t.size ≤ 140737488351232 := by
      rcases Go.Deep.open_strs Tryz.underlying40 Tryz.underlying9 cells1s h4 with ⟨hcs, _⟩ | ⟨a, l, c, m', Sx, hcs, _, hl, hm, hmm, hx4, hcell⟩
      · simp only [List.cons.injEq, and_true] at hcs
        exact ⟨[], none, 0, hcs, fun _ => ⟨rfl, rfl⟩, Nat.le_refl _, ⟨by omega, by simp⟩, (fun a h => by cases h), fun t h => by cases h⟩
      · simp only [List.cons.injEq, and_true] at hcs
        simp only [if_true] at hmm
        subst hmm
        rw [hx4] at r4
        refine ⟨(List.range l).map Sx, some a, m', by simpa using hcs, (fun e => by cases e), by simpa using hl, ?_, ?_, ?_⟩
        · have h := r4.slice Tryz.underlying40
          rw [show Tryz.prog.bytesOf 9 = 16 by kernel_rfl] at h
          unfold reachBytes at h
          simp at h
          refine ⟨by omega, ?_⟩
          rw [List.length_map, List.length_range]
          omega
        · intro b hb i t ht
          cases hb
          have hi : i < l := by
            have := (List.getElem?_eq_some_iff.1 ht).1
            simpa using this
          rw [List.getElem?_map, List.getElem?_range hi] at ht
          simp only [Option.map_some, Option.some.injEq] at ht
          subst ht
          have hc := (hcell i (by omega)).1
          refine ⟨?_, hc⟩
          have := World.block_lt_of_cell? _ _ (by rw [hc])
          rw [block_add] at this
          exact this
        · intro t ht
          obtain ⟨i, hi, rfl⟩ := List.mem_map.1 ht
          exact reach_size (r4.elem Tryz.underlying40 (List.mem_map.2 ⟨i, hi, rfl⟩))
    obtain ⟨l, al, cl, V, hc3, nl, ll, bl, hl, hv, el⟩ : ∃ (l : List Vl) (al : Option Addr) (cl : Nat) (V : Nat → List Value), c3 = .slice al l.length cl ∧ (al = none → l.length = 0 ∧ cl = 0) ∧ l.length ≤ cl ∧ cl ≤ 140737488351232 ∧
        (∀ a, al = some a → ∀ i, i < l.length → a.block < W.heap.size ∧ ∀ j v, (V i)[j]? = some v → W.cell? ((a.add (i * 5)).add j) = some v) ∧ (∀ i, i < l.length → (V i).length = 5) ∧ ∀ i x, l[i]? = some x → IsV W W.heap.size x (.agg (V i).toArray) := by
      rcases DataW.trod_slice Tryz.underlying23 h3 with ⟨hcs, _⟩ | ⟨a, len, cap, elems, rest, n', hn', hcs, hx3, _, hlc, hcm, hlen, hel, hsp, _⟩
      · simp only [List.cons.injEq, and_true] at hcs
        exact ⟨[], none, 0, fun _ => [], hcs, fun _ => ⟨rfl, rfl⟩, Nat.le_refl _, by omega, (fun a h => by cases h), (fun i h => absurd h (by simp)), fun i x h => by simp at h⟩
      · simp only [List.cons.injEq, and_true] at hcs
        rw [hx3] at r3
        rw [cells5v] at hel
        have hall : ∀ i, i < len → ∃ p : List Value × Vl, p.1.length = 5 ∧ (a.block < W.heap.size ∧ ∀ j v, p.1[j]? = some v → W.cell? ((a.add (i * 5)).add j) = some v) ∧ IsV W W.heap.size p.2 (.agg p.1.toArray) := by
          intro i hi
          have he := hel i hi
          rw [List.getElem?_eq_getElem (by omega)] at he
          obtain ⟨cs', hc1, hc2⟩ := Option.bind_eq_some_iff.1 he
          obtain ⟨_, hl5, hcell⟩ := World.cells?_some hc1
          obtain ⟨v, hv⟩ := ih n' (by omega) cs' _ hc2 (r3.elem Tryz.underlying23 (List.mem_map.2 ⟨_, List.getElem_mem _, rfl⟩))
          refine ⟨(cs', v), hl5, ⟨?_, fun j u hu => ?_⟩, hv⟩
          · have h0 := hcell 0 (by omega)
            have := World.block_lt_of_cell? W ((a.add (i * 5)).add 0) (by rw [h0, List.getElem?_eq_getElem (by omega)])
            rw [block_add, block_add] at this
            exact this
          · have hj : j < 5 := by
              have h5 : j < cs'.length := (List.getElem?_eq_some_iff.1 hu).1
              omega
            rw [hcell j hj]
            exact hu
        haveI : Inhabited (List Value × Vl) := ⟨([], .mk 0 0 ⟨#[]⟩ [] [])⟩
        obtain ⟨f, hf⟩ := Go.Deep.choose_lt hall
        refine ⟨(List.range len).map (fun i => (f i).2), some a, cap, fun i => (f i).1, by simpa using hcs, (fun e => by cases e), by simpa using hlc, ?_, ?_, ?_, ?_⟩
        · have h := r3.slice Tryz.underlying23
          rw [show Tryz.prog.bytesOf 42 = 80 by kernel_rfl] at h
          have hs := (hsp rfl).1
          unfold reachBytes at h
          simp at h
          omega
        · intro b hb i hi
          cases hb
          exact (hf i (by simpa using hi)).2.1
        · intro i hi
          exact (hf i (by simpa using hi)).1
        · intro i x hx
          have hi : i < len := by
            have := (List.getElem?_eq_some_iff.1 hx).1
            simpa using this
          rw [List.getElem?_map, List.getElem?_range hi] at hx
          simp only [Option.map_some, Option.some.injEq] at hx
          subst hx
          exact (hf i hi).2.2
    subst hc3
    subst hc4
    exact ⟨.mk k m s l ks, IsP.of ⟨bounds_i64 w0, bounds_i64 w1, r2, nl, nk, ll, lk, Nat.le_trans ll bl, Nat.le_trans lk bc, bq, hl, hv, hk, bt⟩ el⟩
end
end Go.Proofs.YtcknoeepdjhnoaaGreatDoor

namespace Go.Proofs.YtcknoeepdjhnoaaGreatDoor
open Go.ChangeShapes Go.WideShapes Go.ChangeAt Go.RowKit

theorem gOpd : Tryz.prog.globalNamed "scruple/code.operands" = some 0 := by kernel_rfl
theorem tOpd : (Tryz.prog.globals[0]?).map (·.type) = some 131 := by kernel_rfl
theorem cells_opd : Tryz.prog.cellsOf 130 = 2 := by kernel_rfl

theorem len2 {α : Type} : ∀ (l : List α), l.length = 2 → ∃ a b, l = [a, b]
  | [a, b], _ => ⟨a, b, rfl⟩

set_option maxRecDepth 100000 in
theorem opd_of {W : World} {fuel : Nat} {cs : List Value} {d : DataW Unit} {p : List MemPlace} (h : DataW.trod (fun _ => ()) Tryz.prog W 0 (fun _ => true) false fuel 130 cs = some (d, p)) :
    cs = [.int .i64 (opdOf d).1, .int .i64 (opdOf d).2] := by
  obtain ⟨xs, m, _, hx1, hlen, hn, hf⟩ := DataW.trod_struct Tryz.underlying130 h
  simp only [Prod.mk.injEq] at hx1
  obtain ⟨rfl, _⟩ := hx1
  rw [cells_opd] at hlen
  have hn2 : xs.length = 2 := hn
  obtain ⟨v0, v1, rfl⟩ := len2 cs hlen
  obtain ⟨x0, x1, rfl⟩ := len2 xs hn2
  clear hlen hn hn2 h
  have f0 := hf 0 _ rfl
  have f1 := hf 1 _ rfl
  obtain ⟨n0, a0, b0, _⟩ := DataW.trod_int Tryz.underlying3 f0
  obtain ⟨n1, a1, b1, _⟩ := DataW.trod_int Tryz.underlying3 f1
  simp [cells_int] at a0 a1
  subst b0 b1 a0 a1
  simp [opdOf]

theorem tab2_of {W : World} {fuel : Nat} {cs : Array Value} {t : TypeId} {p : List MemPlace} (ht : Tab W) (hb : W.heap[0]? = some (.cells cs t (0, 0))) (h : DataW.trod (fun _ => ()) Tryz.prog W 0 (fun _ => true) false fuel 131 cs.toList = some (Rows.laid_scruple_code_operands, p)) : Tab2 W := by
  obtain ⟨xs, m, _, hx1, hlen, hn, hel⟩ := DataW.trod_array Tryz.underlying131 h
  simp only [Prod.mk.injEq] at hx1
  have e : OPD = xs.map fun x => opdOf x.1 := by
    unfold OPD
    rw [hx1.1]
    simp
  refine ⟨ht, by have h1 := (Array.getElem?_eq_some_iff.1 hb).1; have h2 := ht.big; omega, fun k x hx => ?_⟩
  have hk : k < 6 := by have := (List.getElem?_eq_some_iff.1 hx).1; rw [OPD_len] at this; exact this
  have hk' : k < xs.length := by omega
  have h1 := hel k hk
  rw [List.getElem?_eq_getElem hk'] at h1
  have h2 := opd_of h1
  have e2 : opdOf xs[k].1 = x := by
    rw [e] at hx
    simpa [hk'] using hx
  have h3 := h2.trans (show _ = [Value.int .i64 x.1, .int .i64 x.2] by rw [← e2]; rfl)
  rw [cells_opd] at h3
  rw [cell_of_row W 0 _ cs t (0, 0) hb, cell_of_row W 0 _ cs t (0, 0) hb]
  have q0 := congrArg (·[0]?) h3
  have q1 := congrArg (·[1]?) h3
  simp only [List.getElem?_take_of_lt (show 0 < 2 by omega), List.getElem?_take_of_lt (show 1 < 2 by omega), List.getElem?_drop] at q0 q1
  exact ⟨by simpa using q0, by simpa using q1⟩

def seatLaid2 : List (String × DataW Unit) := [("scruple/code.operations", Rows.laid_scruple_code_operations), ("scruple/code.operands", Rows.laid_scruple_code_operands)]

theorem of_laid2 {W : World} (h : laidMetH Tryz.prog seatLaid2 W) : Tab2 W := by
  rw [MakeChecks.laidMetH_plain _ _ _ (by kernel_rfl)] at h
  obtain ⟨ps, ⟨g0, t0, cs0, f0, p0, q0, hg0, ht0, hv0, hd0, ⟨g1, t1, cs1, f1, p1, q1, hg1, ht1, hv1, hd1, _, hq⟩, hps⟩, _, hfz⟩ := h
  obtain rfl := Option.some.inj (gOps.symm.trans hg0)
  obtain rfl := Option.some.inj (gOpd.symm.trans hg1)
  obtain rfl := Option.some.inj (tOps.symm.trans ht0)
  obtain rfl := Option.some.inj (tOpd.symm.trans ht1)
  have z0 : 0 < cs0.size := by
    obtain ⟨_, _, _, _, hl, _, _⟩ := DataW.trod_array Tryz.underlying132 hd0
    rw [show Tryz.prog.cellsOf 132 = 252 by kernel_rfl] at hl
    simp at hl
    omega
  have z1 : 0 < cs1.size := by
    obtain ⟨_, _, _, _, hl, _, _⟩ := DataW.trod_array Tryz.underlying131 hd1
    rw [show Tryz.prog.cellsOf 131 = 12 by kernel_rfl] at hl
    simp at hl
    omega
  obtain ⟨⟨c, t, hc⟩, _⟩ := hfz 1 0 (by rw [hps]; exact List.mem_append_left _ (List.mem_append_left _ (MemPlace.mem_row.2 ⟨0, z0, rfl⟩)))
  obtain ⟨⟨c', t', hc'⟩, _⟩ := hfz 0 0 (by rw [hps, hq]; exact List.mem_append_right _ (List.mem_append_left _ (List.mem_append_left _ (MemPlace.mem_row.2 ⟨0, z1, rfl⟩))))
  have hv : some cs0 = some c := by rw [← hv0]; unfold World.var?; rw [gOps]; simp [hc]
  have hv' : some cs1 = some c' := by rw [← hv1]; unfold World.var?; rw [gOpd]; simp [hc']
  cases hv
  cases hv'
  exact tab2_of (tab_of hc hd0) hc' hd1

/-- the door's own heap meets the condition -/
theorem door_met2 (os : Os) (args : Array Value) : laidMetH Tryz.prog seatLaid2 ((World.doorLaid Tryz.prog 400 os).forCall (fun _ _ => 0) ⟨#[], args, []⟩).memory :=
  laidMetH_of_parts3 (fuel := 8) (laidMet_of_run' 8 (by kernel_rfl) (by kernel_rfl)) (by kernel_rfl) (by kernel_rfl)
end Go.Proofs.YtcknoeepdjhnoaaGreatDoor
