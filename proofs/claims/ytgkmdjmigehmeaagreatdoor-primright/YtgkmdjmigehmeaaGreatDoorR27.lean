/-
  The walk of a Hash's Write; conditions: the package's table of words, the bytes lie apart from the Hash, no more than 2 to the 64 in all.
-/
import Derived.Test.YtgkmdjmigehmeaaGreatDoorR26
namespace Go.Proofs.YtgkmdjmigehmeaaGreatDoor
set_option linter.unusedVariables false
set_option linter.unusedSimpArgs false
set_option maxRecDepth 100000
set_option maxHeartbeats 16000000
open Go.RowKit
def slLen : Value → Nat
 | .slice _ l _ => l
 | _ => 0
theorem range_kept {w w' : World} {b o : Nat} {cs : List Value} (h : Below w.heap.size w w') (hb : b < w.heap.size) (hr : w.rangeAt b o cs) : w'.rangeAt b o cs := fun j v hv => (h.cell (p := ⟨b, o + j, none⟩) hb).trans (hr j v hv)
theorem below_drew_of {w w' : World} (h : Below w.drew.heap.size w.drew w') : Below w.heap.size w w' := ⟨h.os, h.tape, h.output, h.size, h.block⟩
theorem there_of {w : World} {g n m : Nat} {st bf : List Int} (h : Hsh w g st bf n) (hm : m ≤ (hc st bf n).length) : w.there g 0 m := fun j hj => by
 rw [Nat.zero_add]
 refine ⟨?_, h.free j⟩
 rw [cell_of_row w g j _ _ (0, 0) h, List.getElem?_toArray, List.getElem?_eq_getElem (by omega)]
 rfl
theorem src_cells {w : World} {p o m : Nat} {rest : List Int} (hc : ∀ j, j < rest.length → w.cell? ⟨p, o + j, none⟩ = some (.int .u8 (rest.getD j 0))) :
  ∀ j v, ((rest.take m).map (Value.int .u8))[j]? = some v → w.cell? ((⟨p, o, none⟩ : Addr).add j) = some v := by
 intro j v hv
 have hj : j < rest.length := by
  have := (List.getElem?_eq_some_iff.1 hv).1
  simp at this
  omega
 rw [Addr.add_mid, hc j hj, ← hv, List.getElem?_map]
 have hjm : j < m := by
  have := (List.getElem?_eq_some_iff.1 hv).1
  simp at this
  omega
 rw [List.getElem?_take_of_lt hjm, List.getElem?_eq_getElem hj]
 simp [List.getD, hj]
theorem write_any {tK : TypeId} (g p : Nat) (ao : Option Addr) (cap : Nat) (st bf zs ks : List Int) (n : Nat) (w : World)
  (hh : Hsh w g st bf n) (h1 : st.length = 8) (h2 : bf.length = 64) (hsb : ∀ y ∈ st, 0 ≤ y ∧ y ≤ 4294967295) (hbb : ∀ y ∈ bf, 0 ≤ y ∧ y ≤ 255) (hzb : ∀ y ∈ zs, 0 ≤ y ∧ y ≤ 255)
  (hk : ks.length = 64) (hK : Words w 2 tK ks) (hg1 : 2 < g) (hcz : zs.length ≤ cap)
  (hp : 0 < zs.length → ∃ o, ao = some ⟨p, o, none⟩ ∧ p ≠ g ∧ p < w.heap.size ∧ ∀ j, j < zs.length → w.cell? ⟨p, o + j, none⟩ = some (.int .u8 (zs.getD j 0)))
  (hn : n + zs.length < 18446744073709551616) :
  Calls Tryz.prog 141 #[.pointer (some ⟨g, 0, none⟩), .slice ao zs.length cap] w fun e w' => e = .returned (.int .i64 (wrap64 ((n + zs.length : Nat) : Int))) ∧
   ∃ st' bf', feed ks (st, bf, n) zs = (st', bf', n + zs.length) ∧ Hsh w' g st' bf' (n + zs.length) ∧ Keeps w w' g ∧ st'.length = 8 ∧ bf'.length = 64 ∧ (∀ y ∈ st', 0 ≤ y ∧ y ≤ 4294967295) ∧ ∀ y ∈ bf', 0 ≤ y ∧ y ≤ 255 := by
 have hK1 : 2 < w.heap.size := (Array.getElem?_eq_some_iff.1 hK).1
 have hgw : g < w.heap.size := (Array.getElem?_eq_some_iff.1 hh).1
 obtain ⟨N, hN⟩ : ∃ N, n + zs.length = N := ⟨_, rfl⟩
 rw [hN]
 have HK := hide hK
 have HKL := hide hk
 have HI : Hid (∃ r : List Int, feed ks (st, bf, n) zs = feed ks (st, bf, n) zs ∧ Hsh w g st bf n ∧ st.length = 8 ∧ bf.length = 64 ∧ (∀ y ∈ st, 0 ≤ y ∧ y ≤ 4294967295) ∧ (∀ y ∈ bf, 0 ≤ y ∧ y ≤ 255)) := hide ⟨[], rfl, hh, h1, h2, hsb, hbb⟩
 have HP := hide hp
 have HZ := hide hzb
 have HN := hide hN
 rw [hN] at hn
 clear hK hk hh h1 h2 hsb hbb hp hzb hN
 go_enter Tryz.func141, Tryz.ntmps141
 go_wp2_with fail
 go_loopw [1] (fun v wr => ∃ (rest : List Int) (ao' : Option Addr) (cap' : Nat) (s b : List Int) (m : Nat), v = .slice ao' rest.length cap' ∧ rest.length ≤ cap' ∧ m + rest.length = N ∧ Hid (feed ks (st, bf, n) zs = feed ks (s, b, m) rest) ∧ Hid (Hsh wr g s b m) ∧ Hid (s.length = 8 ∧ b.length = 64 ∧ (∀ y ∈ s, 0 ≤ y ∧ y ≤ 4294967295) ∧ (∀ y ∈ b, 0 ≤ y ∧ y ≤ 255)) ∧ Hid (Keeps w wr g) ∧ Hid (∀ y ∈ rest, 0 ≤ y ∧ y ≤ 255) ∧ Hid (0 < rest.length → ∃ o, ao' = some ⟨p, o, none⟩ ∧ p ≠ g ∧ p < w.heap.size ∧ ∀ j, j < rest.length → wr.cell? ⟨p, o + j, none⟩ = some (.int .u8 (rest.getD j 0)))) (fun v _ => slLen v)
 case atStart =>
  obtain ⟨_, _, q1, q2, q3, q4, q5⟩ := uh HI
  exact ⟨zs, ao, cap, st, bf, n, rfl, hcz, uh HN, hide rfl, hide q1, hide ⟨q2, q3, q4, q5⟩, hide (Keeps.refl _ _), HZ, HP⟩
 case round =>
  clear HI HP HZ hcz
  obtain ⟨rest, ao', cap', s, b, m, rfl, hrc, hmN, HF, HH, HB, HKp, HRB, HP⟩ := hrel
  by_cases hr0 : rest.length = 0
  ·have hcell := (uh HH).taken (uh HB).1 (uh HB).2.1
   have hrest : rest = [] := List.eq_nil_of_length_eq_zero hr0
   have hmN' : m = N := by omega
   subst hrest
   subst hmN'
   go_wp2_with fail
   go_ret
   refine ⟨rfl, s, b, ?_, uh HH, uh HKp, (uh HB).1, (uh HB).2.1, (uh HB).2.2.1, (uh HB).2.2.2⟩
   rw [uh HF]
   rfl
  ·have hpos : 0 < rest.length := by omega
   have hpos' : (0 : Int) < (rest.length : Int) := by omega
   obtain ⟨o, rfl, hpg, hpw, hsrc⟩ := uh HP hpos
   have hcell := (uh HH).taken (uh HB).1 (uh HB).2.1
   obtain ⟨r, hr⟩ : ∃ r, m % 64 = r := ⟨_, rfl⟩
   have r1 : (m : Int) % 64 = (r : Int) := by omega
   have r1' : (m : Int).tmod 64 = (r : Int) := by rw [Int.tmod_eq_emod_of_nonneg (by omega)]; exact r1
   have r2 : (r : Int) ≤ 64 := by omega
   have r3 : (0 : Int) ≤ (r : Int) := by omega
   have r4 : ¬ r = 64 := by omega
   have r5 : ¬ 64 = r := by omega
   obtain ⟨k, hk⟩ : ∃ k, Nat.min rest.length (64 - r) = k := ⟨_, rfl⟩
   have hk1 : k ≤ rest.length := by rw [← hk]; exact Nat.min_le_left _ _
   have hk2 : k ≤ 64 - r := by rw [← hk]; exact Nat.min_le_right _ _
   have hk0 : 0 < k := by rw [← hk]; exact Nat.lt_min.2 ⟨hpos, by omega⟩
   have hcl : ((rest.take k).map (Value.int .u8)).length = k := by simp; omega
   have HS := hide (src_cells (m := k) hsrc)
   have Hk := hide hk
   have HCL := hide hcl
   have HHH := hide hsrc
   have hlen := (uh HB).1
   have hblen := (uh HB).2.1
   have Hr := hide hr
   clear hsrc hk hcl hr
   have hone : Hid (∀ v ∈ (rest.take k).map (Value.int .u8), v.oneCell' = true) := hide (by intro v hv; obtain ⟨x, _, rfl⟩ := List.mem_map.1 hv; rfl)
   have hfit : Hid (8 + r + ((rest.take k).map (Value.int .u8)).length ≤ (hc s b m).length) := hide (by rw [uh HCL, hc_len hlen hblen]; omega)
   have hsp : Hid (splice (hc s b m) (8 + r) ((rest.take k).map (Value.int .u8)) = hc s (splice b r (rest.take k)) m) := hide (hc_splice hlen r (rest.take k) (by simp; omega))
   clear hlen hblen
   go_wp2_with fail
   go_region_held3 (fun w' => w'.cell? ⟨g, 72, none⟩ = some (.int .u64 m))
    (first | exact hcell | exact (uh HT).taken (uh HB).1 (uh HTL))
    ((refine step_copy_put (by rfl) (.tmp 19) (.tmp 20) 40 40 (by rfl) 5 Tryz.underlying40 s1b g (8 + r) (64 - r) (64 - r) ⟨p, o, none⟩ rest.length cap' (by rfl) (by rfl) (hc s b m) 151 (uh HH) ((rest.take k).map (Value.int .u8)) (by rw [uh HCL, uh Hk]) (uh HS) (uh hfit) (uh hone) ?_; intro w1 H1; have HTL : Hid ((splice b r (rest.take k)).length = 64) := (hide (by rw [length_splice _ _ _ (by simp; have := (uh HB).2.1; omega)]; exact (uh HB).2.1)); have HT : Hid (Hsh w1 g s (splice b r (rest.take k)) m) := (hide (by have h := (uh H1).at'; rw [uh hsp] at h; exact h)); rw [uh HCL]))
   obtain ⟨b1, hb1⟩ : ∃ b1, splice b r (rest.take k) = b1 := ⟨_, rfl⟩
   rw [hb1] at HT HTL
   have hb1b : ∀ y ∈ b1, 0 ≤ y ∧ y ≤ 255 := by
    intro y hy
    rw [← hb1] at hy
    unfold splice at hy
    rcases List.mem_append.1 hy with h | h
    ·exact (uh HB).2.2.2 y (List.mem_of_mem_take h)
    ·rcases List.mem_append.1 h with h | h
     ·exact uh HRB y (List.mem_of_mem_take h)
     ·exact (uh HB).2.2.2 y (List.mem_of_mem_drop h)
   have htk : (rest.take k).length = k := by simp; omega
   have hfeed : feed ks (s, b, m) (rest.take k) = (if (m + k) % 64 = 0 then comp ks s b1 else s, b1, m + k) := by
    have h := feed_chunk ks (rest.take k) s b m (by intro e; rw [e] at htk; simp at htk; omega) (by rw [htk, uh Hr]; omega) (uh HB).2.1
    rw [htk, uh Hr, hb1] at h
    exact h
   have hfeed2 : feed ks (st, bf, n) zs = feed ks (if (m + k) % 64 = 0 then comp ks s b1 else s, b1, m + k) (rest.drop k) := by
    rw [uh HF, ← hfeed, ← feed_app, List.take_append_drop]
   have HF2 := hide hfeed2
   have HB1 := hide hb1b
   have hK1' : Keeps wr w1 g := ⟨(uh H1).below 0 wr ((Below.refl 0 wr).drew) (Nat.zero_le _), fun j _ hne => (uh H1).other j hne⟩
   have KP1 := hide ((uh HKp).trans hK1')
   have hsrc1 : ∀ j, j < rest.length → w1.cell? ⟨p, o + j, none⟩ = some (.int .u8 (rest.getD j 0)) := fun j hj => by
    have h := (uh H1).cell (p := ⟨p, o + j, none⟩) hpg
    rw [h]
    exact uh HHH j hj
   have HS1 := hide hsrc1
   clear hb1 hb1b htk hfeed hfeed2 hK1' hsrc1 H1 HS HHH hone hfit hsp HP hcell HCL Hk HKp HH
   obtain ⟨M, hM⟩ : ∃ M, m + k = M := ⟨_, rfl⟩
   rw [hM] at HF2
   have m1 : (m : Int) + (k : Int) = (M : Int) := by omega
   have m2 : IntKind.u64.wrap ((m : Int) + (k : Int)) = (M : Int) := by rw [IntKind.wrap_u64]; omega
   have m3 : ((m : Int) + (k : Int)) % 18446744073709551616 = (M : Int) := by omega
   have m4 : (M : Int) % 18446744073709551616 = (M : Int) := by omega
   have m5 : (k : Int) % 18446744073709551616 = (k : Int) := by omega
   have m6 : IntKind.u64.wrap (k : Int) = (k : Int) := by rw [IntKind.wrap_u64]; omega
   have k1 : (k : Int) ≤ (rest.length : Int) := by omega
   have k2 : (k : Int) ≤ (cap' : Int) := by omega
   have k3 : (0 : Int) ≤ (k : Int) := by omega
   have c1 := (uh HT).taken (uh HB).1 (uh HTL)
   have f1 := (uh HT).free 72
   have HT2 := hide ((uh HT).setTaken (uh HB).1 (uh HTL) M)
   have KP2 := hide ((uh KP1).trans (Keeps.of_set (g := g) (j := 72) (.int .u64 (M : Int))))
   have HS2 : Hid (∀ j, j < rest.length → (w1.setCell ⟨g, 72, none⟩ (.int .u64 (M : Int))).cell? ⟨p, o + j, none⟩ = some (.int .u8 (rest.getD j 0))) := hide (fun j hj => (World.cell?_of_block (heap_setCell_other w1 _ p _ hpg)).trans (uh HS1 j hj))
   have hd : Hid (∀ j, j < (rest.drop k).length → (rest.drop k).getD j 0 = rest.getD (k + j) 0) := hide (fun j hj => by simp [List.getD])
   have HRB2 : Hid (∀ y ∈ rest.drop k, 0 ≤ y ∧ y ≤ 255) := hide (fun y hy => uh HRB y (List.mem_of_mem_drop hy))
   have hap : ∀ j, o + k + j = o + (k + j) := fun j => by omega
   clear KP1 HS1 HT
   have hgo : goInt (k : Int) = .int .i64 (k : Int) := rfl
   rw [hgo]
   by_cases hM0 : M % 64 = 0
   ·rw [if_pos hM0] at HF2
    have q1 : (M : Int) % 64 = 0 := by omega
    have q1' : (M : Int).tmod 64 = 0 := by rw [Int.tmod_eq_emod_of_nonneg (by omega)]; exact q1
    have q2 : ((M : Int) % 64 == 0) = true := by simpa using q1
    have HRG : Hid ((w1.setCell ⟨g, 72, none⟩ (.int .u64 (M : Int))).drew.rangeAt g 8 (b1.map (Value.int .u8))) := hide ((uh HT2).block (uh HB).1)
    have hs64 : Hid ((Tryz.prog.info? 149).map (·.size) = some (b1.map (Value.int .u8)).length) := hide (by rw [List.length_map, uh HTL]; exact sb64)
    have hg2 : g < (w1.setCell ⟨g, 72, none⟩ (.int .u64 (M : Int))).drew.heap.size := by have := (uh KP2).size; have e : (w1.setCell ⟨g, 72, none⟩ (.int .u64 (M : Int))).drew.heap.size = (w1.setCell ⟨g, 72, none⟩ (.int .u64 (M : Int))).heap.size := rfl; omega
    have hp2 : p < (w1.setCell ⟨g, 72, none⟩ (.int .u64 (M : Int))).drew.heap.size := by have := (uh KP2).size; have e : (w1.setCell ⟨g, 72, none⟩ (.int .u64 (M : Int))).drew.heap.size = (w1.setCell ⟨g, 72, none⟩ (.int .u64 (M : Int))).heap.size := rfl; omega
    have HRS : Hid ((w1.setCell ⟨g, 72, none⟩ (.int .u64 (M : Int))).drew.rangeAt g 0 (s.map (Value.int .u32))) := hide ((uh HT2).state)
    have hs8 : Hid ((Tryz.prog.info? 113).map (·.size) = some (s.map (Value.int .u32)).length) := hide (by rw [List.length_map, (uh HB).1]; exact sw8)
    have HK2 : Hid (Words (w1.setCell ⟨g, 72, none⟩ (.int .u64 (M : Int))).drew 2 tK ks) := hide (((uh KP2).other 2 hK1 (by omega)).trans (uh HK))
    have CT := fun w h => hide (takeIn_any (tK := tK) s b1 ks w (uh HB).1 (uh HTL) (uh HB1) (uh HKL) h)
    by_cases hck : cap' = k
    ·have hrk : rest.length = k := by omega
     have HF3 := HF2
     rw [List.drop_eq_nil_of_le (by omega)] at HF3
     go_wp2_with fail
     refine wp_region_held_drew (S := fun w' => w'.rangeAt g 8 (b1.map (Value.int .u8))) (by kernel_rfl) (uh HRG) (fun hHeld => ?_)
     refine take_at 0 (v := .pointer (some ⟨g, 0, none⟩)) (some 40) rfl rfl (by kernel_rfl) (by kernel_rfl) (by kernel_rfl) (fun _ _ _ h => h) (yields_move (.tmp 0) (Or.inl rfl) rfl rfl) hHeld ?_
     simp only [Act.put, setX]
     refine take_at 1 (v := .pointer (some ⟨g, 0, none⟩)) (some 41) rfl rfl (by kernel_rfl) (by kernel_rfl) (by kernel_rfl) (fun _ _ _ h => h) (yields_move (.tmp 0) (Or.inl rfl) rfl rfl) hHeld ?_
     simp only [Act.put, setX]
     refine take_at 2 (v := .pointer (some ⟨g, 0, none⟩)) (some 42) rfl rfl (by kernel_rfl) (by kernel_rfl) (by kernel_rfl) (fun _ _ _ h => h) (Or.inl ⟨by rfl, fun u hu => by go_simp⟩) hHeld ?_
     simp only [Act.put, setX]
     refine take_at 3 (v := .pointer (some ⟨g, 0, none⟩)) (some 43) rfl rfl (by kernel_rfl) (by kernel_rfl) (by kernel_rfl) (fun _ _ _ h => h) (Or.inl ⟨by rfl, fun u hu => by go_simp⟩) hHeld ?_
     simp only [Act.put, setX]
     refine take_at 5 (v := .pointer (some ⟨g, 0, none⟩)) (some 45) rfl rfl (by kernel_rfl) (by kernel_rfl) (by kernel_rfl) (fun _ _ _ h => h) (yields_move (.tmp 0) (Or.inl rfl) rfl rfl) hHeld ?_
     simp only [Act.put, setX]
     refine take_at 6 (v := .pointer (some ⟨g, 0, none⟩)) (some 46) rfl rfl (by kernel_rfl) (by kernel_rfl) (by kernel_rfl) (fun _ _ _ h => h) (Or.inl ⟨by rfl, fun u hu => by go_simp⟩) hHeld ?_
     simp only [Act.put, setX]
     refine take_at 7 (v := .pointer (some ⟨g, 8, none⟩)) (some 47) rfl rfl (by kernel_rfl) (by kernel_rfl) (by kernel_rfl) (fun _ _ _ h => h) (Or.inl ⟨by rfl, fun u hu => by go_simp⟩) hHeld ?_
     simp only [Act.put, setX]
     refine take_at 8 (some 48) rfl rfl (by kernel_rfl) (by kernel_rfl) (by kernel_rfl) (fun _ _ _ h => h) (yieldsIf_load_mid (by rfl) _ _ rfl g 8 rfl (b1.map (Value.int .u8)) _ (fun w h => h) Tryz.underlying149 rfl (uh hs64)) hHeld ?_
     simp only [Act.put, setX]
     refine ready_load 4 (some 44) (by kernel_rfl) rfl rfl rfl 113 (.tmp 43) rfl g 0 rfl (s.map (Value.int .u32)) _ (uh HRS) Tryz.underlying113 rfl (uh hs8) hHeld ?_
     simp only [Act.put, setX]
     refine wpAnyH_ready (rs := [9]) (by kernel_rfl) (by simp) ?_
     refine AllReadyH.cons rfl (fun K hK => ?_) AllReadyH.nil
     go_simp
     refine (uh (CT _ (uh HK2))).mono ?_
     rintro e w3 ⟨rfl, B3⟩
     have H3 := hide B3
     clear B3
     go_wp2_with fail
     have hR3 : w3.rangeAt g 8 (b1.map (Value.int .u8)) := range_kept (uh H3) hg2 hHeld
     refine hK.out _ _ hR3 (fun hHeld3 => ?_)
     clear hK K hR3
     try simp only [Act.put, setX]
     refine take_at 10 (v := .pointer (some ⟨g, 0, none⟩)) (some 50) rfl rfl (by kernel_rfl) (by kernel_rfl) (by kernel_rfl) (fun _ _ _ h => h) (Or.inl ⟨by rfl, fun u hu => by go_simp⟩) hHeld3 ?_
     simp only [Act.put, setX]
     refine take_at 11 (v := .pointer (some ⟨g, 0, none⟩)) (some 51) rfl rfl (by kernel_rfl) (by kernel_rfl) (by kernel_rfl) (fun _ _ _ h => h) (Or.inl ⟨by rfl, fun u hu => by go_simp⟩) hHeld3 ?_
     simp only [Act.put, setX]
     have HT3 : Hid (Hsh w3 g s b1 M) := hide (((uh H3).block g hg2).trans (uh HT2))
     have HPut : Hid (Put w3 (w3.setCells g 0 ((comp ks s b1).map (Value.int .u32))) g (hc (comp ks s b1) b1 M).toArray 151) := hide (by
      have h := setCells_put g 151 ((comp ks s b1).map (Value.int .u32)) (hc s b1 M) 0 w3 (uh HT3) (by rw [List.length_map, comp_len, hc_len (uh HB).1 (uh HTL), (uh HB).1]; omega)
      rw [hc_state (uh HB).1 (by rw [comp_len]; exact (uh HB).1)] at h
      exact h)
     have KP4 := hide (((uh KP2).trans (Keeps.trans (Keeps.of_below (below_drew_of (uh H3))) (Keeps.of_put (uh HPut)))))
     have HT4 : Hid (Hsh (w3.setCells g 0 ((comp ks s b1).map (Value.int .u32))) g (comp ks s b1) b1 M) := hide (uh HPut).at'
     have hc8 : (comp ks s b1).length = 8 := by rw [comp_len]; exact (uh HB).1
     have hcb : ∀ y ∈ comp ks s b1, 0 ≤ y ∧ y ≤ 4294967295 := comp_bounds ks s b1 (uh HB).2.2.1
     have HS4 : Hid (∀ j, j < rest.length → (w3.setCells g 0 ((comp ks s b1).map (Value.int .u32))).cell? ⟨p, o + j, none⟩ = some (.int .u8 (rest.getD j 0))) := hide (fun j hj => ((uh HPut).cell (p := ⟨p, o + j, none⟩) hpg).trans ((World.cell?_of_block ((uh H3).block p hp2)).trans (uh HS2 j hj)))
     refine ready_store 12 none (by kernel_rfl) rfl rfl rfl 113 (.tmp 51) (.tmp 49) rfl g 0 ((comp ks s b1).map (Value.int .u32)).toArray rfl rfl (there_of (uh HT3) (by simp [hc8, hc_len (uh HB).1 (uh HTL)])) (sizeW sw8 hc8) (words_one _) ((uh HT4).block hc8) ?_
     refine wpAnyH_done (by kernel_rfl) ?_ _
     simp only [Act.put]
     go_wp2_with fail
     go_roundw
     case rel => exact ⟨[], _, 0, (comp ks s b1), b1, M, rfl, by simp, by simp; omega, HF3, HT4, hide ⟨hc8, uh HTL, hcb, uh HB1⟩, KP4, hide (fun y h => by cases h), hide (fun h => absurd h (by simp))⟩
     case measure => simp [slLen]; omega
    ·have hck' : ¬ k = cap' := fun e => hck e.symm
     go_wp2_with fail
     refine wp_region_held_drew (S := fun w' => w'.rangeAt g 8 (b1.map (Value.int .u8))) (by kernel_rfl) (uh HRG) (fun hHeld => ?_)
     refine take_at 0 (v := .pointer (some ⟨g, 0, none⟩)) (some 40) rfl rfl (by kernel_rfl) (by kernel_rfl) (by kernel_rfl) (fun _ _ _ h => h) (yields_move (.tmp 0) (Or.inl rfl) rfl rfl) hHeld ?_
     simp only [Act.put, setX]
     refine take_at 1 (v := .pointer (some ⟨g, 0, none⟩)) (some 41) rfl rfl (by kernel_rfl) (by kernel_rfl) (by kernel_rfl) (fun _ _ _ h => h) (yields_move (.tmp 0) (Or.inl rfl) rfl rfl) hHeld ?_
     simp only [Act.put, setX]
     refine take_at 2 (v := .pointer (some ⟨g, 0, none⟩)) (some 42) rfl rfl (by kernel_rfl) (by kernel_rfl) (by kernel_rfl) (fun _ _ _ h => h) (Or.inl ⟨by rfl, fun u hu => by go_simp⟩) hHeld ?_
     simp only [Act.put, setX]
     refine take_at 3 (v := .pointer (some ⟨g, 0, none⟩)) (some 43) rfl rfl (by kernel_rfl) (by kernel_rfl) (by kernel_rfl) (fun _ _ _ h => h) (Or.inl ⟨by rfl, fun u hu => by go_simp⟩) hHeld ?_
     simp only [Act.put, setX]
     refine take_at 5 (v := .pointer (some ⟨g, 0, none⟩)) (some 45) rfl rfl (by kernel_rfl) (by kernel_rfl) (by kernel_rfl) (fun _ _ _ h => h) (yields_move (.tmp 0) (Or.inl rfl) rfl rfl) hHeld ?_
     simp only [Act.put, setX]
     refine take_at 6 (v := .pointer (some ⟨g, 0, none⟩)) (some 46) rfl rfl (by kernel_rfl) (by kernel_rfl) (by kernel_rfl) (fun _ _ _ h => h) (Or.inl ⟨by rfl, fun u hu => by go_simp⟩) hHeld ?_
     simp only [Act.put, setX]
     refine take_at 7 (v := .pointer (some ⟨g, 8, none⟩)) (some 47) rfl rfl (by kernel_rfl) (by kernel_rfl) (by kernel_rfl) (fun _ _ _ h => h) (Or.inl ⟨by rfl, fun u hu => by go_simp⟩) hHeld ?_
     simp only [Act.put, setX]
     refine take_at 8 (some 48) rfl rfl (by kernel_rfl) (by kernel_rfl) (by kernel_rfl) (fun _ _ _ h => h) (yieldsIf_load_mid (by rfl) _ _ rfl g 8 rfl (b1.map (Value.int .u8)) _ (fun w h => h) Tryz.underlying149 rfl (uh hs64)) hHeld ?_
     simp only [Act.put, setX]
     refine ready_load 4 (some 44) (by kernel_rfl) rfl rfl rfl 113 (.tmp 43) rfl g 0 rfl (s.map (Value.int .u32)) _ (uh HRS) Tryz.underlying113 rfl (uh hs8) hHeld ?_
     simp only [Act.put, setX]
     refine wpAnyH_ready (rs := [9]) (by kernel_rfl) (by simp) ?_
     refine AllReadyH.cons rfl (fun K hK => ?_) AllReadyH.nil
     go_simp
     refine (uh (CT _ (uh HK2))).mono ?_
     rintro e w3 ⟨rfl, B3⟩
     have H3 := hide B3
     clear B3
     go_wp2_with fail
     have hR3 : w3.rangeAt g 8 (b1.map (Value.int .u8)) := range_kept (uh H3) hg2 hHeld
     refine hK.out _ _ hR3 (fun hHeld3 => ?_)
     clear hK K hR3
     try simp only [Act.put, setX]
     refine take_at 10 (v := .pointer (some ⟨g, 0, none⟩)) (some 50) rfl rfl (by kernel_rfl) (by kernel_rfl) (by kernel_rfl) (fun _ _ _ h => h) (Or.inl ⟨by rfl, fun u hu => by go_simp⟩) hHeld3 ?_
     simp only [Act.put, setX]
     refine take_at 11 (v := .pointer (some ⟨g, 0, none⟩)) (some 51) rfl rfl (by kernel_rfl) (by kernel_rfl) (by kernel_rfl) (fun _ _ _ h => h) (Or.inl ⟨by rfl, fun u hu => by go_simp⟩) hHeld3 ?_
     simp only [Act.put, setX]
     have HT3 : Hid (Hsh w3 g s b1 M) := hide (((uh H3).block g hg2).trans (uh HT2))
     have HPut : Hid (Put w3 (w3.setCells g 0 ((comp ks s b1).map (Value.int .u32))) g (hc (comp ks s b1) b1 M).toArray 151) := hide (by
      have h := setCells_put g 151 ((comp ks s b1).map (Value.int .u32)) (hc s b1 M) 0 w3 (uh HT3) (by rw [List.length_map, comp_len, hc_len (uh HB).1 (uh HTL), (uh HB).1]; omega)
      rw [hc_state (uh HB).1 (by rw [comp_len]; exact (uh HB).1)] at h
      exact h)
     have KP4 := hide (((uh KP2).trans (Keeps.trans (Keeps.of_below (below_drew_of (uh H3))) (Keeps.of_put (uh HPut)))))
     have HT4 : Hid (Hsh (w3.setCells g 0 ((comp ks s b1).map (Value.int .u32))) g (comp ks s b1) b1 M) := hide (uh HPut).at'
     have hc8 : (comp ks s b1).length = 8 := by rw [comp_len]; exact (uh HB).1
     have hcb : ∀ y ∈ comp ks s b1, 0 ≤ y ∧ y ≤ 4294967295 := comp_bounds ks s b1 (uh HB).2.2.1
     have HS4 : Hid (∀ j, j < rest.length → (w3.setCells g 0 ((comp ks s b1).map (Value.int .u32))).cell? ⟨p, o + j, none⟩ = some (.int .u8 (rest.getD j 0))) := hide (fun j hj => ((uh HPut).cell (p := ⟨p, o + j, none⟩) hpg).trans ((World.cell?_of_block ((uh H3).block p hp2)).trans (uh HS2 j hj)))
     refine ready_store 12 none (by kernel_rfl) rfl rfl rfl 113 (.tmp 51) (.tmp 49) rfl g 0 ((comp ks s b1).map (Value.int .u32)).toArray rfl rfl (there_of (uh HT3) (by simp [hc8, hc_len (uh HB).1 (uh HTL)])) (sizeW sw8 hc8) (words_one _) ((uh HT4).block hc8) ?_
     refine wpAnyH_done (by kernel_rfl) ?_ _
     simp only [Act.put]
     go_wp2_with fail
     go_roundw
     case rel => exact ⟨rest.drop k, _, cap' - k, (comp ks s b1), b1, M, by rw [List.length_drop], by rw [List.length_drop]; omega, by rw [List.length_drop]; omega, HF2, HT4, hide ⟨hc8, uh HTL, hcb, uh HB1⟩, KP4, HRB2, hide (fun _ => ⟨o + k, rfl, hpg, hpw, fun j hj => by rw [uh hd j hj, hap]; exact uh HS4 (k + j) (by rw [List.length_drop] at hj; omega)⟩)⟩
     case measure => simp [slLen]; omega
   ·rw [if_neg hM0] at HF2
    have q1 : ¬ (M : Int) % 64 = 0 := by omega
    have q1' : ¬ (M : Int).tmod 64 = 0 := by rw [Int.tmod_eq_emod_of_nonneg (by omega)]; exact q1
    have q2 : ((M : Int) % 64 == 0) = false := by simpa using q1
    by_cases hck : cap' = k
    ·have hrk : rest.length = k := by omega
     have HF3 := HF2
     rw [List.drop_eq_nil_of_le (by omega)] at HF3
     go_wp2_with fail
     go_roundw
     case rel => exact ⟨[], _, 0, s, b1, M, rfl, by simp, by simp; omega, HF3, HT2, hide ⟨(uh HB).1, uh HTL, (uh HB).2.2.1, uh HB1⟩, KP2, hide (fun y h => by cases h), hide (fun h => absurd h (by simp))⟩
     case measure => simp [slLen]; omega
    ·have hck' : ¬ k = cap' := fun e => hck e.symm
     go_wp2_with fail
     go_roundw
     case rel => exact ⟨rest.drop k, _, cap' - k, s, b1, M, by rw [List.length_drop], by rw [List.length_drop]; omega, by rw [List.length_drop]; omega, HF2, HT2, hide ⟨(uh HB).1, uh HTL, (uh HB).2.2.1, uh HB1⟩, KP2, HRB2, hide (fun _ => ⟨o + k, rfl, hpg, hpw, fun j hj => by rw [uh hd j hj, hap]; exact uh HS2 (k + j) (by rw [List.length_drop] at hj; omega)⟩)⟩
     case measure => simp [slLen]; omega
end Go.Proofs.YtgkmdjmigehmeaaGreatDoor
