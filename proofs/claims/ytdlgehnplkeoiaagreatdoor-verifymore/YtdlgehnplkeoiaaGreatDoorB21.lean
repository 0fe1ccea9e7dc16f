/-
  The walks of the document's own Put and Encode; conditions: the lengths together are below 2^47.
  What the form's own reach says of what lies within an argument: elements of slices, fields of structs; no conditions.
  How a value among the arguments is opened: a tree of values that lies in memory; no conditions.
-/
import Derived.Test.YtdlgehnplkeoiaaGreatDoorB20
import Derived.Test.YtdlgehnplkeoiaaGreatDoorChecked
import Derived.SizedLaws
import Derived.Deep.Strs
import Derived.Test.YtdlgehnplkeoiaaGreatDoorB06
import Derived.ProofKit
import Derived.OpenShut
set_option linter.unusedVariables false
set_option linter.unusedSimpArgs false
namespace Go.Proofs.YtdlgehnplkeoiaaGreatDoor
open Go.RowKit
set_option linter.unusedVariables false
set_option linter.unusedSimpArgs false

set_option maxRecDepth 100000 in
set_option maxHeartbeats 1000000 in
theorem put_f (ab : Option Addr) (lb cb : Nat) (zs : List Int) (v : Vl) (x : Value) (B : Nat) (w : World) (hz : Row8 w ab lb cb zs) (hv : IsV w B v x) (hBs : B ≤ w.heap.size) (hb : lb + 43018 ≤ 140737489403904) :
    Calls Tryz.prog 54 #[.slice ab lb cb, x] w fun e w' => ∃ (ao : Option Addr) (len cap : Nat), e = .returned (.tuple #[.slice ao len cap, .int .i64 (codeR v)]) ∧ Row8 w' ao len cap (if rightB v = true then zs ++ wenc v else []) ∧ Below w.heap.size w w' ∧ (∀ a, ao = some a → w.heap.size ≤ a.block) ∧ cap ≤ maxLen := by
  have hfit := hv.fit
  obtain ⟨k, n, s, l, ks, al, ak, cl, ck, hvv, hx⟩ := hv.shape
  clear hvv
  obtain ⟨m, hm⟩ : ∃ m, ks.length = m := ⟨_, rfl⟩
  obtain ⟨ln, hln⟩ : ∃ ln, l.length = ln := ⟨_, rfl⟩
  rw [hm, hln] at hx
  subst hx
  obtain ⟨w1, hw1⟩ : ∃ w1, w.alloc (.cells #[.int .i64 k, .int .i64 n, .string s, .slice al ln cl, .slice ak m ck] 45) = w1 := ⟨_, rfl⟩
  have BX := Box.mk' w (.int .i64 k) (.int .i64 n) (.string s) (.slice al ln cl) (.slice ak m ck)
  rw [hw1] at BX
  obtain ⟨g, hg⟩ : ∃ g, w.heap.size = g := ⟨_, rfl⟩
  have z1 := BX.size
  have z1g : w1.heap.size = g + 1 := by omega
  have HRW : Hid (∀ u, Below w1.heap.size w1 u → u.heap[g]? = some (.cells #[.int .i64 k, .int .i64 n, .string s, .slice al ln cl, .slice ak m ck] 45 (0, 0)) ∧ IsV u B v (.agg #[.int .i64 k, .int .i64 n, .string s, .slice al ln cl, .slice ak m ck]) ∧ Row8 u ab lb cb zs ∧ Below w.heap.size w u) := hide (fun u hu => ⟨by rw [← hg]; exact (hu.block _ (by omega)).trans BX.row, hv.mono ((BX.below.mono hBs).trans (hu.mono (by omega))), (hz.later BX.below).later hu, BX.below.trans (hu.mono (by omega))⟩)
  have CR := hide (right_ref v _ B w1 (unhide HRW w1 (Below.refl _ _)).2.1 (by omega))
  obtain ⟨c0, c1, c2, c3, c4⟩ := row_cell (unhide HRW w1 (Below.refl _ _)).1
  clear BX hv hz z1 hm hln
  cases hR : rightB v with
  | false =>
    rw [hR] at CR
    have HC : Hid (codeR v = 40) := hide (by simp [codeR, hR])
    clear hR
    go_enter Tryz.func54, Tryz.ntmps54
    go_wp2_with fail
    refine (unhide CR).mono ?_
    rintro e w2 ⟨rfl, b2⟩
    have H2 := hide b2
    clear b2 CR
    go_wp2_with fail
    go_ret2
    refine ⟨none, 0, 0, by rw [unhide HC]; rfl, by simpa using nilRow _, ?_, (fun a h => by cases h), by unfold maxLen; omega⟩
    have h := (unhide HRW _ (unhide H2)).2.2.2
    first | exact h | (rw [← hg]; exact h)
  | true =>
    rw [hR] at CR
    have hw2 := right_wt hR
    have hlen := wenc_len v
    have hlb : (wenc v).length ≤ 43008 := by omega
    have hpos := wenc_pos v 8 hw2.1
    have hsm := wenc_small v 8 hw2.1 hfit
    have HS := hide (And.intro hsm hw2.1)
    have HC : Hid (codeR v = 0) := hide (by simp [codeR, hR])
    obtain ⟨Z, hZ⟩ : ∃ Z, wenc v = Z := ⟨_, rfl⟩
    have CL : Hid (∀ u sv, Below w1.heap.size w1 u → u.ownsRow w1.heap.size 5 1 sv (0 + lb) (([] ++ zs).map (Value.int .u8)) → Calls Tryz.prog 85 #[sv, .agg #[.int .i64 k, .int .i64 n, .string s, .slice al ln cl, .slice ak m ck]] u fun e w' => Laid w1.heap.size sv lb zs Z u e w') := hide (fun u sv hu ho => by
      rw [Nat.zero_add, List.nil_append] at ho
      have h := put_f_any 8 v _ B w1.heap.size u sv lb zs hw2.1 (unhide HRW u hu).2.1 (by omega) hu.size ho (unhide HRW u hu).2.2.1.small (by omega)
      rw [hZ] at h
      exact h)
    rw [hZ] at hlb hpos HS
    rw [if_pos rfl, hZ]
    clear hR hw2 hlen hsm hZ hfit
    go_enter Tryz.func54, Tryz.ntmps54
    go_wp2_with fail
    refine (unhide CR).mono ?_
    rintro e w2 ⟨rfl, b2⟩
    have H2 := hide b2
    clear b2 CR c0 c1 c2 c3 c4
    obtain ⟨c0, c1, c2, c3, c4⟩ := row_cell (unhide HRW w2 (unhide H2)).1
    go_upto_region 5 with fail
    refine till_begin (S := fun w' => w'.cell? ⟨g, 0, none⟩ = some (.int .i64 k) ∧ w'.cell? ⟨g, 1, none⟩ = some (.int .i64 n) ∧ w'.cell? ⟨g, 2, none⟩ = some (.string s) ∧ w'.cell? ⟨g, 3, none⟩ = some (.slice al ln cl) ∧ w'.cell? ⟨g, 4, none⟩ = some (.slice ak m ck)) 6 (by kernel_rfl) ?_
    obtain ⟨wd, hwd⟩ : ∃ wd, w2.drew = wd := ⟨_, rfl⟩
    have HD : Hid (Below w1.heap.size w1 wd) := hide (by rw [← hwd]; exact (unhide H2).drew)
    have B2d : Below w2.heap.size w2 wd := by rw [← hwd]; exact (Below.refl _ _).drew
    have HS1 := And.intro (cell_later B2d c0) (And.intro (cell_later B2d c1) (And.intro (cell_later B2d c2) (And.intro (cell_later B2d c3) (cell_later B2d c4))))
    rw [hwd]
    clear hwd B2d c0 c1 c2 c3 c4
    refine till_take 0 (v := .slice none 0 0) (some 12) rfl rfl rfl (by kernel_rfl) (by kernel_rfl) (by kernel_rfl) (by kernel_rfl) (fun _ _ _ h => h) (Or.inl ⟨by rfl, fun u hu => by obtain ⟨t0, t1, t2, t3, t4⟩ := hu; go_simp⟩) HS1 ?_
    try simp only [Act.put, List.setIfInBounds_toArray, List.set_cons_zero, List.set_cons_succ]
    refine till_take 1 (v := .slice ab lb cb) (some 13) rfl rfl rfl (by kernel_rfl) (by kernel_rfl) (by kernel_rfl) (by kernel_rfl) (fun _ _ _ h => h) (Or.inl ⟨by rfl, fun u hu => by obtain ⟨t0, t1, t2, t3, t4⟩ := hu; go_simp⟩) HS1 ?_
    try simp only [Act.put, List.setIfInBounds_toArray, List.set_cons_zero, List.set_cons_succ]
    refine till_take 3 (v := .agg #[.int .i64 k, .int .i64 n, .string s, .slice al ln cl, .slice ak m ck]) (some 15) rfl rfl rfl (by kernel_rfl) (by kernel_rfl) (by kernel_rfl) (by kernel_rfl) (fun _ _ _ h => h) (Or.inl ⟨by rfl, fun u hu => by obtain ⟨t0, t1, t2, t3, t4⟩ := hu; go_simp⟩) HS1 ?_
    try simp only [Act.put, List.setIfInBounds_toArray, List.set_cons_zero, List.set_cons_succ]
    refine till_one 2 (by kernel_rfl) rfl (fun K hK => ?_)
    refine step_app (by rfl) _ _ (by rfl) w1.heap.size 0 (.slice none 0 0) [] (by rfl) (World.ownsRow_nil _ _ _ _) ab lb cb zs (by rfl) (unhide HRW wd (unhide HD)).2.2.1 (by omega) (unhide HD).size ?_
    intro v2 wa HA
    change K (Act.put _ (some 14) _) wa
    have Xa : Below wd.heap.size wd wa := ⟨(unhide HA).2.grown.os, (unhide HA).2.grown.tape, (unhide HA).2.grown.output, (unhide HA).2.grown.size, fun q hq => (unhide HA).2.grown.block q hq (by simp [Value.ownBlock])⟩
    have XA := hide ((unhide HD).trans (Xa.mono (unhide HD).size))
    have HSa := And.intro (cell_later Xa HS1.1) (And.intro (cell_later Xa HS1.2.1) (And.intro (cell_later Xa HS1.2.2.1) (And.intro (cell_later Xa HS1.2.2.2.1) (cell_later Xa HS1.2.2.2.2))))
    have CC := hide (unhide CL wa v2 (unhide XA) (unhide HA).1)
    have hov : ∀ q, v2.ownBlock = some q → w1.heap.size ≤ q := fun q e => ((unhide HA).1.lt q e).1
    have HOV := hide hov
    refine hK.out _ _ (Or.inr HSa) ?_
    clear hK K Xa hov
    try simp only [Act.put, List.setIfInBounds_toArray, List.set_cons_zero, List.set_cons_succ]
    refine till_one 4 (by kernel_rfl) rfl (fun K hK => ?_)
    go_simp
    refine (unhide CC).mono ?_
    rintro e we ⟨v6, rfl, own6, gr6⟩
    have Xe : Below w1.heap.size w1 we := (unhide XA).trans (gr6.below (unhide HA).1 (unhide XA).size)
    have hne : some g ≠ v2.ownBlock := fun e => by have := unhide HOV g e.symm; omega
    have kp : ∀ q x, wa.cell? ⟨g, q, none⟩ = some x → we.cell? ⟨g, q, none⟩ = some x := fun q x hx => (World.cell?_of_block (gr6.far (b := g) (by have := (unhide XA).size; omega) hne)).trans hx
    have HSe := And.intro (kp _ _ HSa.1) (And.intro (kp _ _ HSa.2.1) (And.intro (kp _ _ HSa.2.2.1) (And.intro (kp _ _ HSa.2.2.2.1) (kp _ _ HSa.2.2.2.2))))
    have hsz : ∀ c ∈ zs ++ Z, 0 ≤ c ∧ c ≤ 255 := fun c hc => by
      rcases List.mem_append.1 hc with h | h
      · exact (unhide HRW w1 (Below.refl _ _)).2.2.1.small c h
      · exact (unhide HS).1 c h
    obtain ⟨g5, cp5, rfl, hg5, r5, m5⟩ := row_of own6 hsz (by omega)
    have HE := hide (And.intro Xe (And.intro r5 (And.intro hg5 m5)))
    clear own6 gr6 kp hne CC Xe r5 m5 hsz
    go_wp2_with fail
    refine hK.out _ _ (Or.inr HSe) ?_
    clear hK K
    try simp only [Act.put, List.setIfInBounds_toArray, List.set_cons_zero, List.set_cons_succ]
    have FIN : ∀ e', e' = .returned (.tuple #[.slice (some ⟨g5, 0, none⟩) (lb + Z.length) cp5, .int .i64 0]) → ∃ (ao : Option Addr) (len cap : Nat), e' = Ending.returned (.tuple #[.slice ao len cap, .int .i64 (codeR v)]) ∧ Row8 we ao len cap (zs ++ Z) ∧ Below w.heap.size w we ∧ (∀ a, ao = some a → w.heap.size ≤ a.block) ∧ cap ≤ maxLen := fun e' he' => by
      obtain ⟨Xe, r5, hg5, m5⟩ := unhide HE
      refine ⟨_, _, _, by rw [unhide HC]; exact he', r5, ?_, (fun a h => by cases h; show _ ≤ g5; omega), m5⟩
      exact (unhide HRW _ Xe).2.2.2
    have HFIN := hide FIN
    clear FIN
    refine till_one 5 (by kernel_rfl) rfl (fun K hK => ?_)
    go_simp
    refine hK.out _ _ (Or.inr HSe) ?_
    clear hK K
    try simp only [Act.put, List.setIfInBounds_toArray, List.set_cons_zero, List.set_cons_succ]
    refine till_one 6 (by kernel_rfl) rfl (fun K hK => ?_)
    go_simp
    refine hK.out _ _ (Or.inl rfl) ?_
    clear hK K
    try simp only [Act.put, List.setIfInBounds_toArray, List.set_cons_zero, List.set_cons_succ]
    refine till_done (by kernel_rfl) ?_ _
    go_wp2_with fail
    go_ret2
    have h := unhide HFIN _ rfl
    first | exact h | (rw [hg] at h; exact h)

end Go.Proofs.YtdlgehnplkeoiaaGreatDoor

namespace Go.Proofs.YtdlgehnplkeoiaaGreatDoor
open Go

theorem weightsAll_mem {H : Type} {P : Program} {e : TypeId} : ∀ {ds : List (DataW H)} {d : DataW H}, d ∈ ds → ∀ n ∈ d.weights P e, n ∈ DataW.weightsAll P e ds
  | d0 :: ds, d, hd, n, hn => by
    simp only [DataW.weightsAll, List.mem_append]
    rcases List.mem_cons.1 hd with rfl | hd
    · exact Or.inl hn
    · exact Or.inr (weightsAll_mem hd n hn)

/-- within reach -/
def Reach {H : Type} (P : Program) (t : TypeId) (d : DataW H) : Prop := ∀ n ∈ d.weights P t, n ≤ reachBytes

theorem reach_arg {H : Type} {P : Program} {ts : List TypeId} {ds : List (DataW H)} (h : (DataW.weightsEach P ts ds).all (· ≤ reachBytes) = true) {j : Nat} {t : TypeId} {d : DataW H} (ht : ts[j]? = some t) (hd : ds[j]? = some d) : Reach P t d := fun n hn => by
  have := List.all_eq_true.1 h _ (DataW.weights_mem_each ht hd n hn)
  simpa using this

theorem Reach.slice {H : Type} {P : Program} {t e : TypeId} {elems spare : List (DataW H)} (h : Reach P t (.slice elems spare)) (hu : P.underlying t = some (.slice e)) : (elems.length + spare.length) * P.bytesOf e ≤ reachBytes :=
  h _ (by simp [DataW.weights, hu])

theorem Reach.elem {H : Type} {P : Program} {t e : TypeId} {elems spare : List (DataW H)} (h : Reach P t (.slice elems spare)) (hu : P.underlying t = some (.slice e)) {d : DataW H} (hd : d ∈ elems) : Reach P e d := fun n hn =>
  h n (by
    simp only [DataW.weights, hu, List.mem_cons, List.mem_append]
    exact Or.inr (Or.inl (weightsAll_mem hd n hn)))

theorem Reach.string {H : Type} {P : Program} {t : TypeId} {bytes : List UInt8} (h : Reach (H := H) P t (.lit (.string bytes))) : bytes.length ≤ reachBytes :=
  h _ (by simp [DataW.weights])

theorem Reach.field {H : Type} {P : Program} {t : TypeId} {fs : Array Field} {parts : List (DataW H)} (h : Reach P t (.agg parts)) (hu : P.underlying t = some (.struct fs)) {j : Nat} {u : TypeId} {d : DataW H} (ht : (fs.toList.map (·.type))[j]? = some u) (hd : parts[j]? = some d) : Reach P u d := fun n hn =>
  h n (by
    simp only [DataW.weights, hu]
    exact DataW.weights_mem_each ht hd n hn)

theorem reach_size {H : Type} {P : Program} {t : TypeId} {s : ByteArray} (h : Reach (H := H) P t (.lit (.string s.data.toList))) : s.size ≤ 140737488351232 := by
  have := h.string
  unfold reachBytes at this
  simpa using this
end Go.Proofs.YtdlgehnplkeoiaaGreatDoor

namespace Go.Proofs.YtdlgehnplkeoiaaGreatDoor
open Go.ChangeShapes Go.WideShapes Go.ChangeAt Go.RowKit

theorem cells1i : Tryz.prog.cellsOf 3 = 1 := by kernel_rfl
theorem cells1j : Tryz.prog.cellsOf 2 = 1 := by kernel_rfl
theorem cells1s : Tryz.prog.cellsOf 9 = 1 := by kernel_rfl
theorem cells1l : Tryz.prog.cellsOf 23 = 1 := by kernel_rfl
theorem cells1k : Tryz.prog.cellsOf 43 = 1 := by kernel_rfl
theorem cells5v : Tryz.prog.cellsOf 45 = 5 := by kernel_rfl

section
variable {H : Type} {enc : TypeId × Value → H} {W : World}

set_option maxRecDepth 100000 in
theorem open_fields {fuel : Nat} {cs : List Value} {x : DataW H × List MemPlace} (h : DataW.trod enc Tryz.prog W 0 (fun _ => true) true fuel 45 cs = some x) :
    ∃ (n : Nat) (c0 c1 c2 c3 c4 : Value) (y0 y1 y2 y3 y4 : DataW H × List MemPlace), fuel = n + 1 ∧ cs = [c0, c1, c2, c3, c4] ∧ x.1 = .agg [y0.1, y1.1, y2.1, y3.1, y4.1] ∧
      DataW.trod enc Tryz.prog W 0 (fun _ => true) true n 3 [c0] = some y0 ∧ DataW.trod enc Tryz.prog W 0 (fun _ => true) true n 2 [c1] = some y1 ∧ DataW.trod enc Tryz.prog W 0 (fun _ => true) true n 9 [c2] = some y2 ∧
      DataW.trod enc Tryz.prog W 0 (fun _ => true) true n 23 [c3] = some y3 ∧ DataW.trod enc Tryz.prog W 0 (fun _ => true) true n 43 [c4] = some y4 := by
  obtain ⟨xs, n, rfl, rfl, hl, hlen, hf⟩ := DataW.trod_struct Tryz.underlying45 h
  rw [cells5v] at hl
  have hlen' : xs.length = 5 := hlen
  match cs, hl, xs, hlen' with
  | [c0, c1, c2, c3, c4], _, [y0, y1, y2, y3, y4], _ =>
    have h0 : DataW.trod enc Tryz.prog W 0 (fun _ => true) true n 3 (([c0, c1, c2, c3, c4].drop 0).take (Tryz.prog.cellsOf 3)) = some y0 := hf 0 _ rfl
    rw [cells1i] at h0
    have h1 : DataW.trod enc Tryz.prog W 0 (fun _ => true) true n 2 (([c0, c1, c2, c3, c4].drop 1).take (Tryz.prog.cellsOf 2)) = some y1 := hf 1 _ rfl
    rw [cells1j] at h1
    have h2 : DataW.trod enc Tryz.prog W 0 (fun _ => true) true n 9 (([c0, c1, c2, c3, c4].drop 2).take (Tryz.prog.cellsOf 9)) = some y2 := hf 2 _ rfl
    rw [cells1s] at h2
    have h3 : DataW.trod enc Tryz.prog W 0 (fun _ => true) true n 23 (([c0, c1, c2, c3, c4].drop 3).take (Tryz.prog.cellsOf 23)) = some y3 := hf 3 _ rfl
    rw [cells1l] at h3
    have h4 : DataW.trod enc Tryz.prog W 0 (fun _ => true) true n 43 (([c0, c1, c2, c3, c4].drop 4).take (Tryz.prog.cellsOf 43)) = some y4 := hf 4 _ rfl
    rw [cells1k] at h4
    exact ⟨n, c0, c1, c2, c3, c4, y0, y1, y2, y3, y4, rfl, rfl, rfl, h0, h1, h2, h3, h4⟩

set_option maxRecDepth 100000 in
theorem open_value : ∀ (fuel : Nat) (cs : List Value) (x : DataW H × List MemPlace), DataW.trod enc Tryz.prog W 0 (fun _ => true) true fuel 45 cs = some x → Go.Proofs.YtdlgehnplkeoiaaGreatDoor.Reach Tryz.prog 45 x.1 → ∃ v, IsV W W.heap.size v (.agg cs.toArray) := by
  intro fuel
  induction fuel using Nat.strongRecOn with
  | ind fuel ih =>
    intro cs x h hre
    obtain ⟨n, c0, c1, c2, c3, c4, y0, y1, y2, y3, y4, rfl, rfl, hx, h0, h1, h2, h3, h4⟩ := open_fields h
    rw [hx] at hre
    obtain ⟨k, e0, _, w0⟩ := DataW.trod_int Tryz.underlying3 h0
    obtain ⟨m, e1, _, w1⟩ := DataW.trod_int Tryz.underlying2 h1
    obtain ⟨s, e2, hy2, _⟩ := DataW.trod_string Tryz.underlying9 h2
    simp only [List.cons.injEq, and_true] at e0 e1 e2
    subst e0
    subst e1
    subst e2
    have r2 : s.size ≤ 140737488351232 := by
      have := hre.field (j := 2) (u := 9) (d := y2.1) Tryz.underlying45 rfl rfl
      rw [hy2] at this
      exact reach_size this
    have r3 := hre.field (j := 3) (u := 23) (d := y3.1) Tryz.underlying45 rfl rfl
    have r4 := hre.field (j := 4) (u := 43) (d := y4.1) Tryz.underlying45 rfl rfl
    obtain ⟨ks, ak, ck, hc4, nk, lk, ⟨bc, bq⟩, hk, bt⟩ : ∃ (ks : List ByteArray) (ak : Option Addr) (ck : Nat), c4 = .slice ak ks.length ck ∧ (ak = none → ks.length = 0 ∧ ck = 0) ∧ ks.length ≤ ck ∧ (ck ≤ 140737488351232 ∧ 16 * ks.length ≤ 140737488351232) ∧ (∀ a, ak = some a → ∀ i t, ks[i]? = some t → a.block < W.heap.size ∧ W.cell? (a.add i) = some (.string t)) ∧ ∀ t ∈ ks, t.size ≤ 140737488351232 := by
      rcases Go.Deep.open_strs Tryz.underlying43 Tryz.underlying9 cells1s h4 with ⟨hcs, _⟩ | ⟨a, l, c, m', Sx, hcs, _, hl, hm, hmm, hx4, hcell⟩
      · simp only [List.cons.injEq, and_true] at hcs
        exact ⟨[], none, 0, hcs, fun _ => ⟨rfl, rfl⟩, Nat.le_refl _, ⟨by omega, by simp⟩, (fun a h => by cases h), fun t h => by cases h⟩
      · simp only [List.cons.injEq, and_true] at hcs
        simp only [if_true] at hmm
        subst hmm
        rw [hx4] at r4
        refine ⟨(List.range l).map Sx, some a, m', by simpa using hcs, (fun e => by cases e), by simpa using hl, ?_, ?_, ?_⟩
        · have h := r4.slice Tryz.underlying43
          rw [show Tryz.prog.bytesOf 9 = 16 by kernel_rfl] at h
          unfold reachBytes at h
          simp at h
          refine ⟨by omega, ?_⟩
          rw [List.length_map, List.length_range]
          omega
        · intro b hb i t ht
          cases hb
          have hi : i < l := by
            have := (List.getElem?_eq_some_iff.1 ht).1
            simpa using this
          rw [List.getElem?_map, List.getElem?_range hi] at ht
          simp only [Option.map_some, Option.some.injEq] at ht
          subst ht
          have hc := (hcell i (by omega)).1
          refine ⟨?_, hc⟩
          have := World.block_lt_of_cell? _ _ (by rw [hc])
          rw [block_add] at this
          exact this
        · intro t ht
          obtain ⟨i, hi, rfl⟩ := List.mem_map.1 ht
          exact reach_size (r4.elem Tryz.underlying43 (List.mem_map.2 ⟨i, hi, rfl⟩))
    obtain ⟨l, al, cl, V, hc3, nl, ll, bl, hl, hv, el⟩ : ∃ (l : List Vl) (al : Option Addr) (cl : Nat) (V : Nat → List Value), c3 = .slice al l.length cl ∧ (al = none → l.length = 0 ∧ cl = 0) ∧ l.length ≤ cl ∧ cl ≤ 140737488351232 ∧
        (∀ a, al = some a → ∀ i, i < l.length → a.block < W.heap.size ∧ ∀ j v, (V i)[j]? = some v → W.cell? ((a.add (i * 5)).add j) = some v) ∧ (∀ i, i < l.length → (V i).length = 5) ∧ ∀ i x, l[i]? = some x → IsV W W.heap.size x (.agg (V i).toArray) := by
      rcases DataW.trod_slice Tryz.underlying23 h3 with ⟨hcs, _⟩ | ⟨a, len, cap, elems, rest, n', hn', hcs, hx3, _, hlc, hcm, hlen, hel, hsp, _⟩
      · simp only [List.cons.injEq, and_true] at hcs
        exact ⟨[], none, 0, fun _ => [], hcs, fun _ => ⟨rfl, rfl⟩, Nat.le_refl _, by omega, (fun a h => by cases h), (fun i h => absurd h (by simp)), fun i x h => by simp at h⟩
      · simp only [List.cons.injEq, and_true] at hcs
        rw [hx3] at r3
        rw [cells5v] at hel
        have hall : ∀ i, i < len → ∃ p : List Value × Vl, p.1.length = 5 ∧ (a.block < W.heap.size ∧ ∀ j v, p.1[j]? = some v → W.cell? ((a.add (i * 5)).add j) = some v) ∧ IsV W W.heap.size p.2 (.agg p.1.toArray) := by
          intro i hi
          have he := hel i hi
          rw [List.getElem?_eq_getElem (by omega)] at he
          obtain ⟨cs', hc1, hc2⟩ := Option.bind_eq_some_iff.1 he
          obtain ⟨_, hl5, hcell⟩ := World.cells?_some hc1
          obtain ⟨v, hv⟩ := ih n' (by omega) cs' _ hc2 (r3.elem Tryz.underlying23 (List.mem_map.2 ⟨_, List.getElem_mem _, rfl⟩))
          refine ⟨(cs', v), hl5, ⟨?_, fun j u hu => ?_⟩, hv⟩
          · have h0 := hcell 0 (by omega)
            have := World.block_lt_of_cell? W ((a.add (i * 5)).add 0) (by rw [h0, List.getElem?_eq_getElem (by omega)])
            rw [block_add, block_add] at this
            exact this
          · have hj : j < 5 := by
              have h5 : j < cs'.length := (List.getElem?_eq_some_iff.1 hu).1
              omega
            rw [hcell j hj]
            exact hu
        haveI : Inhabited (List Value × Vl) := ⟨([], .mk 0 0 ⟨#[]⟩ [] [])⟩
        obtain ⟨f, hf⟩ := Go.Deep.choose_lt hall
        refine ⟨(List.range len).map (fun i => (f i).2), some a, cap, fun i => (f i).1, by simpa using hcs, (fun e => by cases e), by simpa using hlc, ?_, ?_, ?_, ?_⟩
        · have h := r3.slice Tryz.underlying23
          rw [show Tryz.prog.bytesOf 45 = 80 by kernel_rfl] at h
          have hs := (hsp rfl).1
          unfold reachBytes at h
          simp at h
          omega
        · intro b hb i hi
          cases hb
          exact (hf i (by simpa using hi)).2.1
        · intro i hi
          exact (hf i (by simpa using hi)).1
        · intro i x hx
          have hi : i < len := by
            have := (List.getElem?_eq_some_iff.1 hx).1
            simpa using this
          rw [List.getElem?_map, List.getElem?_range hi] at hx
          simp only [Option.map_some, Option.some.injEq] at hx
          subst hx
          exact (hf i hi).2.2
    subst hc3
    subst hc4
    exact ⟨.mk k m s l ks, IsP.of ⟨bounds_i64 w0, bounds_i64 w1, r2, nl, nk, ll, lk, Nat.le_trans ll bl, Nat.le_trans lk bc, bq, hl, hv, hk, bt⟩ el⟩
end
end Go.Proofs.YtdlgehnplkeoiaaGreatDoor
