/-
  The walk of value.Record; conditions: the form's own reach.
-/
import Derived.Test.YtgkmdjmigehmeaaGreatDoorR21
import Derived.Test.YtgkmdjmigehmeaaGreatDoorR22
import Derived.Test.YtgkmdjmigehmeaaGreatDoorR02
namespace Go.Proofs.YtgkmdjmigehmeaaGreatDoor
set_option linter.unusedVariables false
set_option linter.unusedSimpArgs false
set_option maxRecDepth 100000
set_option maxHeartbeats 16000000
open Go.RowKit
def recC (ks : List ByteArray) (vs : List Vl) : Int :=
 if risingFrom none ks = true then (if vs.all rightB = true then (if rightB (.mk 5 0 ⟨#[]⟩ vs ks) = true then 0 else 33) else 30) else 32
theorem rec_any (al : Option Addr) (cl B : Nat) (d : Array Ent) (Y : Ent → Vl) (w : World) (hs : Shows w al d.size cl 6 (Go.Sort.flatK encE 6 d).toList) (hY : ∀ x ∈ d.toList, IsV w B (Y x) (.agg (valE x).toArray)) (hK : ∀ x ∈ d.toList, x.1.size ≤ 140737488351232) (hBs : B ≤ w.heap.size) (hn : d.size ≤ 2048) :
  Calls Tryz.prog 104 #[.slice al d.size cl] w fun e w' => ∃ (d' : Array Ent) (x' : Value), (d'.size = d.size ∧ d'.toList.Perm d.toList ∧ ∀ i j, i < j → j < d.size → bl d'[j]!.1 d'[i]!.1 = false) ∧ e = .returned (.tuple #[x', .int .i64 (recC (d'.toList.map (fun x => x.1)) (d'.toList.map Y))]) ∧ Below w.heap.size w w' ∧ (recC (d'.toList.map (fun x => x.1)) (d'.toList.map Y) = 0 → IsQ w' (fun b => w.heap.size ≤ b ∧ b < w'.heap.size) (.mk 5 0 ⟨#[]⟩ (d'.toList.map Y) (d'.toList.map (fun x => x.1))) x') ∧ (recC (d'.toList.map (fun x => x.1)) (d'.toList.map Y) ≠ 0 → x' = .agg #[.int .i64 0, .int .i64 0, .string ⟨#[]⟩, .slice none 0 0, .slice none 0 0]) := by
 obtain ⟨n, hnn⟩ : ∃ n, d.size = n := ⟨_, rfl⟩
 obtain ⟨g, hg⟩ : ∃ g, w.heap.size = g := ⟨_, rfl⟩
 have HB := hide (And.intro hY (And.intro hBs (And.intro hn hnn)))
 have HKK := hide hK
 have hnl : ¬ (2048 : Int) < (n : Int) := by omega
 have hn0 : n ≤ 2048 := by omega
 obtain ⟨w1, hw1⟩ : ∃ w1, w.alloc (.cells #[.int .i64 0, .int .i64 0, .string ⟨#[]⟩, .slice none 0 0, .slice none 0 0] 25) = w1 := ⟨_, rfl⟩
 have CC := hide (cloneE al d.size cl _ w1 ⟨hs.length, hs.none, fun a ha j u hu => by
  have h1 := hs.cells a ha j u hu
  rw [← hw1]
  rw [((Below.refl w.heap.size w).alloc (Nat.le_refl _) _).cell (World.block_lt_of_cell? _ _ (by rw [h1]))]
  exact h1, hs.one⟩ (by omega))
 have HW1 : Hid (w1.heap[g]? = some (.cells #[.int .i64 0, .int .i64 0, .string ⟨#[]⟩, .slice none 0 0, .slice none 0 0] 25 (0, 0)) ∧ w1.heap.size = g + 1 ∧ Below g w w1) := hide (by
  rw [← hw1, ← hg]
  exact ⟨heap_alloc_new _ _, by simp, (Below.refl _ _).alloc (Nat.le_refl _) _⟩)
 rw [hnn]
 rw [hnn] at CC
 clear hs hY hn hnn hK
 go_enter Tryz.func104, Tryz.ntmps104
 go_wp2_with fail
 refine (uh CC).mono ?_
 rintro e u2 ⟨v, rfl, ov, b2⟩
 obtain ⟨sa, sc, rfl, hsl⟩ := slice_form ov
 clear hsl
 have HO := hide (And.intro ov b2)
 have CS := hide (sort_any w1.heap.size sc sa d u2 (by rw [(uh HB).2.2.2]; exact ov) (uh HB).2.2.1)
 rw [(uh HB).2.2.2] at CS
 clear CC ov b2 hw1
 go_wp2_with fail
 refine (uh CS).mono ?_
 rintro e u3 ⟨rfl, b3, d', hds, hperm, hsort, hsh⟩
 have HD := hide (And.intro hds (And.intro hperm (And.intro hsort (And.intro b3 hsh))))
 clear CS b3 hds hperm hsort hsh
 go_upto_region 6 with fail
 obtain ⟨gb, hgb⟩ : ∃ gb, u3.heap.size = gb := ⟨_, rfl⟩
 obtain ⟨u4, hu4⟩ : ∃ u4, u3.alloc (.cells #[.int .i64 5, .int .i64 0, .string ⟨#[]⟩, .slice none 0 0, .slice none 0 0] 25) = u4 := ⟨_, rfl⟩
 have HR : Hid (Rq w u4 g gb d' sa n sc 0 0 (.slice none 0 0) (.slice none 0 0)) := hide (by
  obtain ⟨h1, h2, h3⟩ := uh HW1
  obtain ⟨ov, b2⟩ := uh HO
  obtain ⟨hds, hperm, hsort, b3, hsh⟩ := uh HD
  have s2 := b2.size
  have s3 := b3.size
  have b4 := (Below.refl u3.heap.size u3).alloc (Nat.le_refl _) (.cells #[.int .i64 5, .int .i64 0, .string ⟨#[]⟩, .slice none 0 0, .slice none 0 0] 25)
  have bb : Below w1.heap.size w1 u3 := b2.trans b3
  have hsb : ∀ a, sa = some a → a.block < u3.heap.size := fun a ha => by
   obtain ⟨_, _, e, _, _, _, hf⟩ := slice_form ov
   cases e
   have := (ov.lt a.block (hf a ha).1).2
   omega
  rw [← hu4, ← hgb]
  exact ⟨(b4.block g (by omega)).trans ((bb.block g (by omega)).trans h1), heap_alloc_new _ _, by omega, by simp, h3.trans ((bb.mono (by omega)).trans (b4.mono (by omega))), shows_to hsh hsb (fun q hq => b4.block q hq), hsb, World.ownsRow_nil _ _ _ _, World.ownsRow_nil _ _ _ _⟩)
 rw [hgb, hu4]
 clear hgb hu4
 have HS := hide (uh HD).1
 go_wp2_with fail
 go_loopw [21] (fun x wr => ∃ (i : Nat) (Lv Kv : Value), i ≤ n ∧ x = .int .i64 i ∧ Hid (Rq w wr g gb d' sa n sc i i Lv Kv)) (fun x _ => n - (intOf x).toNat)
 case atStart => exact ⟨0, _, _, Nat.zero_le _, rfl, HR⟩
 case round =>
  clear HR
  obtain ⟨i, Lv, Kv, hi, rfl, HRr⟩ := hrel
  by_cases hlt : i < n
  ·have i1 : (i : Int) < (n : Int) := by omega
   have i0 : (0 : Int) ≤ (i : Int) := by omega
   obtain ⟨a, rfl⟩ : ∃ a, sa = some a := by
    cases sa with
    | none => have h1 := (uh HRr).shows.none rfl; omega
    | some a => exact ⟨a, rfl⟩
   obtain ⟨⟨ky, x0, x1, x2, ⟨pl, ll, ql⟩, pk, mk, qk⟩, hx⟩ : ∃ x : Ent, d'[i]! = x := ⟨_, rfl⟩
   have hce := rq_cells (uh HRr).shows (i := i) (by have h1 := uh HS; have h2 := (uh HB).2.2.2; omega)
   rw [hx] at hce
   have e0 : wr.cell? (a.add (i * 6)) = some (.string ky) := hce 0 _ rfl
   have e1 : wr.cell? ⟨(a.add (i * 6)).block, (a.add (i * 6)).off + 1, none⟩ = some (.int .i64 x0) := hce 1 _ rfl
   have e2 : wr.cell? ⟨(a.add (i * 6)).block, (a.add (i * 6)).off + 2, none⟩ = some (.int .i64 x1) := hce 2 _ rfl
   have e3 : wr.cell? ⟨(a.add (i * 6)).block, (a.add (i * 6)).off + 3, none⟩ = some (.string x2) := hce 3 _ rfl
   have e4 : wr.cell? ⟨(a.add (i * 6)).block, (a.add (i * 6)).off + 4, none⟩ = some (.slice pl ll ql) := hce 4 _ rfl
   have e5 : wr.cell? ⟨(a.add (i * 6)).block, (a.add (i * 6)).off + 5, none⟩ = some (.slice pk mk qk) := hce 5 _ rfl
   have HX := hide hx
   clear hce hx
   obtain ⟨iS, hS1, hS2, hS3, hS4⟩ := info_parts infoSc
   have HI := hide (And.intro hS1 (And.intro hS2 (And.intro hS3 hS4)))
   obtain ⟨iV, hV1, hV2, hV3, hV4⟩ := info_parts infoVc
   have HJ := hide (And.intro hV1 (And.intro hV2 (And.intro hV3 hV4)))
   clear hS1 hS2 hS3 hS4 hV1 hV2 hV3 hV4
   go_upto_region 9 with fail
   obtain ⟨ge, hge⟩ : ∃ ge, wr.heap.size = ge := ⟨_, rfl⟩
   obtain ⟨u5, hu5⟩ : ∃ u5, wr.alloc (.cells #[.string ky, .int .i64 x0, .int .i64 x1, .string x2, .slice pl ll ql, .slice pk mk qk] 65) = u5 := ⟨_, rfl⟩
   have HE : Hid (u5.heap[ge]? = some (.cells #[.string ky, .int .i64 x0, .int .i64 x1, .string x2, .slice pl ll ql, .slice pk mk qk] 65 (0, 0)) ∧ Rq w u5 g gb d' (some a) n sc i i Lv Kv ∧ ge < u5.heap.size ∧ (∀ b, Lv.ownBlock = some b → b < ge) ∧ (∀ b, Kv.ownBlock = some b → b < ge) ∧ gb < ge) := hide (by
    rw [← hu5, ← hge]
    exact ⟨heap_alloc_new _ _, rq_later (uh HRr) ((Below.refl _ _).alloc (Nat.le_refl _) _), by simp, fun b e => ((uh HRr).els.lt b e).2, fun b e => ((uh HRr).keys.lt b e).2, by have := (uh HRr).size; omega⟩)
   rw [hge, hu5]
   clear hge hu5 e0 e1 e2 e3 e4 e5 HRr
   have s0 : u5.cell? ⟨ge, 0, none⟩ = some (.string ky) := by rw [cell_of_row u5 ge 0 _ _ (0, 0) (uh HE).1]; rfl
   have s1 : u5.cell? ⟨ge, 1, none⟩ = some (.int .i64 x0) := by rw [cell_of_row u5 ge 1 _ _ (0, 0) (uh HE).1]; rfl
   have s2 : u5.cell? ⟨ge, 2, none⟩ = some (.int .i64 x1) := by rw [cell_of_row u5 ge 2 _ _ (0, 0) (uh HE).1]; rfl
   have s3 : u5.cell? ⟨ge, 3, none⟩ = some (.string x2) := by rw [cell_of_row u5 ge 3 _ _ (0, 0) (uh HE).1]; rfl
   have s4 : u5.cell? ⟨ge, 4, none⟩ = some (.slice pl ll ql) := by rw [cell_of_row u5 ge 4 _ _ (0, 0) (uh HE).1]; rfl
   have s5 : u5.cell? ⟨ge, 5, none⟩ = some (.slice pk mk qk) := by rw [cell_of_row u5 ge 5 _ _ (0, 0) (uh HE).1]; rfl
   obtain ⟨c0, c1, c2, c3, c4⟩ := row_cell (uh HE).2.1.box
   go_upto_region 10 with (first | (at_builtin; refine wpl_oneG rfl (.tmp 26) (.tmp 29) 23 9 iS (.string ⟨#[]⟩) 1 16 Tryz.underlying23 (uh HI).1 (uh HI).2.1 (uh HI).2.2.1 (uh HI).2.2.2 rfl (by omega) rfl (gb + 1) i Kv (keyR d' i) [.string ky] rfl (by simp [Value.oneCell']) rfl (uh HE).2.1.keys rfl (by unfold maxLen; omega) (by omega) (uh HE).2.1.size ?_; intro v6 w6 H6; obtain ⟨q6, p6, rfl, hsl⟩ := slice_form (uh H6).1; clear hsl; have b6 := ((uh H6).2.1.block gb (by have := (uh HE).2.1.size; omega) (fun e => by have := ((uh HE).2.1.keys.lt gb e.symm).1; omega)).trans (uh HE).2.1.box; have k4 := (row_cell b6).2.2.2.2; have f4 : w6.frozen? ⟨gb, 4, none⟩ = false := frozen_of_row w6 gb 4 _ _ b6; clear b6 s0 s1 s2 s3 s4 s5 c0 c1 c2 c3 c4))
   obtain ⟨u7, hu7⟩ : ∃ u7, w6.setCell ⟨gb, 4, none⟩ (.slice q6 (i + 1) p6) = u7 := ⟨_, rfl⟩
   have HG : Hid (u7.heap[ge]? = some (.cells #[.string ky, .int .i64 x0, .int .i64 x1, .string x2, .slice pl ll ql, .slice pk mk qk] 65 (0, 0)) ∧ Rq w u7 g gb d' (some a) n sc (i + 1) i Lv (.slice q6 (i + 1) p6) ∧ ge < u7.heap.size ∧ (∀ b, Lv.ownBlock = some b → b < ge) ∧ gb < ge) := hide (by
    have hx := uh HX
    have hR := uh HE
    have hk : keyR d' (i + 1) = keyR d' i ++ [.string ky] := by rw [keyR_succ d' i (by have h1 := uh HS; have h2 := (uh HB).2.2.2; omega), hx]
    have h6 := (uh H6).1
    rw [← hk] at h6
    have hr := rq_key hR.2.1 h6 (uh H6).2.1
    rw [hu7] at hr
    refine ⟨?_, hr, ?_, hR.2.2.2.1, hR.2.2.2.2.2⟩
    ·rw [← hu7, heap_setCell_other _ _ _ _ (show ge ≠ gb by have := hR.2.2.2.2.2; omega), (uh H6).2.1.block ge hR.2.2.1 (fun e => by have := hR.2.2.2.2.1 ge e.symm; omega)]
     exact hR.1
    ·rw [← hu7]
     have h1 := (uh H6).2.1.size
     have h2 := hR.2.2.1
     simp
     omega)
   rw [hu7]
   clear hu7 k4 f4 HE H6
   have s0 : u7.cell? ⟨ge, 0, none⟩ = some (.string ky) := by rw [cell_of_row u7 ge 0 _ _ (0, 0) (uh HG).1]; rfl
   have s1 : u7.cell? ⟨ge, 1, none⟩ = some (.int .i64 x0) := by rw [cell_of_row u7 ge 1 _ _ (0, 0) (uh HG).1]; rfl
   have s2 : u7.cell? ⟨ge, 2, none⟩ = some (.int .i64 x1) := by rw [cell_of_row u7 ge 2 _ _ (0, 0) (uh HG).1]; rfl
   have s3 : u7.cell? ⟨ge, 3, none⟩ = some (.string x2) := by rw [cell_of_row u7 ge 3 _ _ (0, 0) (uh HG).1]; rfl
   have s4 : u7.cell? ⟨ge, 4, none⟩ = some (.slice pl ll ql) := by rw [cell_of_row u7 ge 4 _ _ (0, 0) (uh HG).1]; rfl
   have s5 : u7.cell? ⟨ge, 5, none⟩ = some (.slice pk mk qk) := by rw [cell_of_row u7 ge 5 _ _ (0, 0) (uh HG).1]; rfl
   obtain ⟨c0, c1, c2, c3, c4⟩ := row_cell (uh HG).2.1.box
   go_upto_region 11 with (first | (at_builtin; refine wpl_oneG rfl (.tmp 33) (.tmp 36) 22 25 iV (.agg #[.int .i64 0, .int .i64 0, .string ⟨#[]⟩, .slice none 0 0, .slice none 0 0]) 5 80 Tryz.underlying22 (uh HJ).1 (uh HJ).2.1 (uh HJ).2.2.1 (uh HJ).2.2.2 rfl (by omega) rfl (gb + 1) i Lv (flat (elR d') i) [.int .i64 x0, .int .i64 x1, .string x2, .slice pl ll ql, .slice pk mk qk] rfl (by simp [Value.oneCell']) rfl (uh HG).2.1.els rfl (by unfold maxLen; omega) (by omega) (uh HG).2.1.size ?_; intro v8 w8 H8; obtain ⟨q8, p8, rfl, hsl⟩ := slice_form (uh H8).1; clear hsl; have b8 := ((uh H8).2.1.block gb (by have := (uh HG).2.1.size; omega) (fun e => by have := ((uh HG).2.1.els.lt gb e.symm).1; omega)).trans (uh HG).2.1.box; have k3 := (row_cell b8).2.2.2.1; have f3 : w8.frozen? ⟨gb, 3, none⟩ = false := frozen_of_row w8 gb 3 _ _ b8; clear b8 s0 s1 s2 s3 s4 s5 c0 c1 c2 c3 c4))
   obtain ⟨u9, hu9⟩ : ∃ u9, w8.setCell ⟨gb, 3, none⟩ (.slice q8 (i + 1) p8) = u9 := ⟨_, rfl⟩
   have HR1 : Hid (Rq w u9 g gb d' (some a) n sc (i + 1) (i + 1) (.slice q8 (i + 1) p8) (.slice q6 (i + 1) p6)) := hide (by
    have hx := uh HX
    have hk : flat (elR d') (i + 1) = flat (elR d') i ++ [.int .i64 x0, .int .i64 x1, .string x2, .slice pl ll ql, .slice pk mk qk] := by rw [elR_succ d' i, hx]; rfl
    have h8 := (uh H8).1
    rw [← hk] at h8
    rw [← hu9]
    exact rq_el (uh HG).2.1 h8 (uh H8).2.1)
   rw [hu9]
   clear hu9 k3 f3 HG H8
   have HI1 := hide (show i + 1 ≤ n by omega)
   go_wp2_with fail
   go_roundw
   case rel => exact ⟨i + 1, _, _, uh HI1, by go_num, HR1⟩
   case measure => have := uh HI1; simp [intOf]; omega
  ·have i1 : ¬ (i : Int) < (n : Int) := by omega
   have hin : i = n := by omega
   have HR := HRr
   rw [hin] at HR
   obtain ⟨ka, kc, rfl, hsl⟩ := slice_form (uh HR).keys
   clear hsl
   obtain ⟨la, lc, rfl, hsl⟩ := slice_form (uh HR).els
   clear hsl HRr hin hlt hi
   have hdl : d'.toList.length = n := by have h1 := uh HS; have h2 := (uh HB).2.2.2; rw [Array.length_toList]; omega
   have hkk : keyR d' n = (d'.toList.map (fun x => x.1)).map Value.string := by
    unfold keyR
    rw [List.take_of_length_le (by omega), List.map_map]
    rfl
   obtain ⟨ks, hks⟩ : ∃ ks, d'.toList.map (fun x => x.1) = ks := ⟨_, rfl⟩
   obtain ⟨vs, hvs⟩ : ∃ vs, d'.toList.map Y = vs := ⟨_, rfl⟩
   have hik := own_isK (ks := ks) (by have h := (uh HR).keys; rw [hkk, hks] at h; exact h) (by omega) (fun t ht => by
    rw [← hks] at ht
    obtain ⟨x, hx, rfl⟩ := List.mem_map.1 ht
    exact uh HKK x ((uh HD).2.1.mem_iff.1 hx))
   have CRI := hide (rising_any ks ka kc wr hik.1)
   rw [hik.2] at CRI
   have HQ := hide (And.intro hdl (And.intro hkk (And.intro hks (And.intro hvs hik.1))))
   obtain ⟨c0, c1, c2, c3, c4⟩ := row_cell (uh HR).box
   clear hdl hkk hks hvs hik
   go_wp2_with fail
   refine (uh CRI).mono ?_
   rintro e u5 ⟨rfl, rfl⟩
   cases hri : risingFrom none ks with
   | false =>
    have hC : recC (d'.toList.map (fun x => x.1)) (d'.toList.map Y) = 32 := by rw [(uh HQ).2.2.1]; unfold recC; rw [if_neg (by rw [hri]; simp)]
    have HC := hide hC
    clear CRI hri hC
    have ATX : u5.heap[g]? = some (.cells #[.int .i64 0, .int .i64 0, .string ⟨#[]⟩, .slice none 0 0, .slice none 0 0] 25 (0, 0)) := (uh HR).at0
    obtain ⟨z0, z1, z2, z3, z4⟩ := row_cell ATX
    have fz : ∀ q, u5.frozen? ⟨g, q, none⟩ = false := fun q => frozen_of_row u5 g q _ _ ATX
    have fz0 := fz 0
    have fz1 := fz 1
    have fz2 := fz 2
    have fz3 := fz 3
    have fz4 := fz 4
    have HAT := hide ATX
    clear fz ATX
    go_wp2_with fail
    have ATX := uh HAT
    have BW : Below g w u5 := (uh HR).below
    have R9 := five_set u5 g 25 _ _ _ _ _ (.int .i64 0) (.int .i64 0) (.string ⟨#[]⟩) (.slice none 0 0) (.slice none 0 0) ATX
    have B9 := five_below (g := g) BW (Nat.le_refl _) (.int .i64 0) (.int .i64 0) (.string ⟨#[]⟩) (.slice none 0 0) (.slice none 0 0)
    obtain ⟨w9, hw9⟩ : ∃ w9, (((((u5.setCell ⟨g, 0, none⟩ (.int .i64 0)).setCell ⟨g, 1, none⟩ (.int .i64 0)).setCell ⟨g, 2, none⟩ (.string ⟨#[]⟩)).setCell ⟨g, 3, none⟩ (.slice none 0 0)).setCell ⟨g, 4, none⟩ (.slice none 0 0)) = w9 := ⟨_, rfl⟩
    rw [hw9] at R9 B9 ⊢
    obtain ⟨r0, r1, r2, r3, r4⟩ := row_cell R9
    refine bodyPost_ret (v := .tuple #[.agg #[.int .i64 0, .int .i64 0, .string ⟨#[]⟩, .slice none 0 0, .slice none 0 0], .int .i64 32]) (by simp [results, Tryz.results104, go_sem, r0, r1, r2, r3, r4]) rfl ?_
    rw [hg]
    have hC := uh HC
    refine ⟨d', _, ⟨(uh HD).1, (uh HD).2.1, (uh HD).2.2.1⟩, ?_, B9, fun h => ?_, fun _ => rfl⟩
    ·rw [hC]
    ·rw [hC] at h
     cases h
   | true =>
    have HRI := hide hri
    clear CRI hri
    have HZ0 : Hid (∀ q, q < 0 → rightB (Y d'[q]!) = true) := hide (fun q h => by omega)
    clear i1
    go_wp2_with fail
    go_loopw [48] (fun x wr => ∃ (c : Nat), c ≤ n ∧ x = .int .i64 c ∧ Hid (Rq w wr g gb d' sa n sc n n (.slice la n lc) (.slice ka n kc)) ∧ Hid (∀ q, q < c → rightB (Y d'[q]!) = true)) (fun x _ => n - (intOf x).toNat)
    case atStart => exact ⟨0, Nat.zero_le _, rfl, HR, HZ0⟩
    case round =>
     clear HR HZ0 c0 c1 c2 c3 c4
     obtain ⟨c, hc, rfl, HRt, HGt⟩ := hrel
     by_cases hlc : c < n
     ·have j1 : (c : Int) < (n : Int) := by omega
      have j0 : (0 : Int) ≤ (c : Int) := by omega
      obtain ⟨bL, rfl⟩ : ∃ bL, la = some ⟨bL, 0, none⟩ := by
       rcases (uh HRt).els.2 with ⟨h, e⟩ | ⟨b, c, cur, h, _⟩
       ·omega
       ·cases h
        exact ⟨b, rfl⟩
      have hmem : d'[c]! ∈ d'.toList := by
       have h1 : c < d'.size := by have h1 := uh HS; have h2 := (uh HB).2.2.2; omega
       rw [getElem!_pos d' c h1]
       exact Array.getElem_mem_toList h1
      have hval := (uh HB).1 _ ((uh HD).2.1.mem_iff.1 hmem)
      have hce : ∀ j v, j < 5 → (elR d' c)[j]? = some v → wr.cell? ⟨bL, c * 5 + j, none⟩ = some v := fun j v hj hv => by
       rw [(uh HRt).els.cellAt (c * 5 + j) (by omega), flat_get (fun _ _ => rfl) c j hlc hj]
       exact hv
      obtain ⟨yv, hyv⟩ : ∃ yv, Y d'[c]! = yv := ⟨_, rfl⟩
      have HYv := hide hyv
      obtain ⟨⟨ky, x0, x1, x2, ⟨pl, ll, ql⟩, pk, mk, qk⟩, hx⟩ : ∃ x : Ent, d'[c]! = x := ⟨_, rfl⟩
      unfold elR at hce
      rw [hyv] at hval
      rw [hx] at hce hval
      have e0 : wr.cell? ⟨bL, c * 5, none⟩ = some (.int .i64 x0) := hce 0 _ (by omega) rfl
      have e1 : wr.cell? ⟨bL, c * 5 + 1, none⟩ = some (.int .i64 x1) := hce 1 _ (by omega) rfl
      have e2 : wr.cell? ⟨bL, c * 5 + 2, none⟩ = some (.string x2) := hce 2 _ (by omega) rfl
      have e3 : wr.cell? ⟨bL, c * 5 + 3, none⟩ = some (.slice pl ll ql) := hce 3 _ (by omega) rfl
      have e4 : wr.cell? ⟨bL, c * 5 + 4, none⟩ = some (.slice pk mk qk) := hce 4 _ (by omega) rfl
      have HVL : Hid (IsV w B yv (.agg #[.int .i64 x0, .int .i64 x1, .string x2, .slice pl ll ql, .slice pk mk qk])) := hide hval
      clear hce hval hyv hx hmem
      go_upto_region 17 with fail
      obtain ⟨gx, hgx⟩ : ∃ gx, wr.heap.size = gx := ⟨_, rfl⟩
      obtain ⟨u6, hu6⟩ : ∃ u6, wr.alloc (.cells #[.int .i64 x0, .int .i64 x1, .string x2, .slice pl ll ql, .slice pk mk qk] 25) = u6 := ⟨_, rfl⟩
      have HE : Hid (u6.heap[gx]? = some (.cells #[.int .i64 x0, .int .i64 x1, .string x2, .slice pl ll ql, .slice pk mk qk] 25 (0, 0)) ∧ Rq w u6 g gb d' sa n sc n n (.slice (some ⟨bL, 0, none⟩) n lc) (.slice ka n kc)) := hide (by
       rw [← hu6, ← hgx]
       exact ⟨heap_alloc_new _ _, rq_later (uh HRt) ((Below.refl _ _).alloc (Nat.le_refl _) _)⟩)
      rw [hgx, hu6]
      clear hgx hu6 e0 e1 e2 e3 e4 HRt
      have CR := hide (right_code yv _ B u6 ((uh HVL).mono ((uh HE).2.below.mono (by omega))) (by have := (uh HE).2.below.size; omega))
      obtain ⟨c0, c1, c2, c3, c4⟩ := row_cell (uh HE).1
      cases hry : rightB yv with
      | false =>
       have HC : Hid (recC (d'.toList.map (fun x => x.1)) (d'.toList.map Y) = 30) := hide (by
        unfold recC
        rw [(uh HQ).2.2.1, if_pos (uh HRI), if_neg]
        intro h
        have hall := List.all_eq_true.1 h
        have hc1 : c < d'.size := by have h1 := uh HS; have h2 := (uh HB).2.2.2; omega
        have h2 := hall (Y d'[c]!) (List.mem_map_of_mem (by rw [getElem!_pos d' c hc1]; exact Array.getElem_mem_toList hc1))
        rw [uh HYv, hry] at h2
        cases h2)
       rw [hry] at CR
       clear hry
       go_wp2_with fail
       refine (uh CR).mono ?_
       rintro e u7 ⟨rfl, b7⟩
       have HR7 := hide (rq_later (uh HE).2 b7)
       clear b7 CR c0 c1 c2 c3 c4
       have ATX : u7.heap[g]? = some (.cells #[.int .i64 0, .int .i64 0, .string ⟨#[]⟩, .slice none 0 0, .slice none 0 0] 25 (0, 0)) := (uh HR7).at0
       obtain ⟨z0, z1, z2, z3, z4⟩ := row_cell ATX
       have fz : ∀ q, u7.frozen? ⟨g, q, none⟩ = false := fun q => frozen_of_row u7 g q _ _ ATX
       have fz0 := fz 0
       have fz1 := fz 1
       have fz2 := fz 2
       have fz3 := fz 3
       have fz4 := fz 4
       have HAT := hide ATX
       clear fz ATX
       go_wp2_with fail
       have ATX := uh HAT
       have BW : Below g w u7 := (uh HR7).below
       have R9 := five_set u7 g 25 _ _ _ _ _ (.int .i64 0) (.int .i64 0) (.string ⟨#[]⟩) (.slice none 0 0) (.slice none 0 0) ATX
       have B9 := five_below (g := g) BW (Nat.le_refl _) (.int .i64 0) (.int .i64 0) (.string ⟨#[]⟩) (.slice none 0 0) (.slice none 0 0)
       obtain ⟨w9, hw9⟩ : ∃ w9, (((((u7.setCell ⟨g, 0, none⟩ (.int .i64 0)).setCell ⟨g, 1, none⟩ (.int .i64 0)).setCell ⟨g, 2, none⟩ (.string ⟨#[]⟩)).setCell ⟨g, 3, none⟩ (.slice none 0 0)).setCell ⟨g, 4, none⟩ (.slice none 0 0)) = w9 := ⟨_, rfl⟩
       rw [hw9] at R9 B9 ⊢
       obtain ⟨r0, r1, r2, r3, r4⟩ := row_cell R9
       refine bodyPost_ret (v := .tuple #[.agg #[.int .i64 0, .int .i64 0, .string ⟨#[]⟩, .slice none 0 0, .slice none 0 0], .int .i64 30]) (by simp [results, Tryz.results104, go_sem, r0, r1, r2, r3, r4]) rfl ?_
       rw [hg]
       have hC := uh HC
       refine ⟨d', _, ⟨(uh HD).1, (uh HD).2.1, (uh HD).2.2.1⟩, ?_, B9, fun h => ?_, fun _ => rfl⟩
       ·rw [hC]
       ·rw [hC] at h
        cases h
      | true =>
       have HG1 : Hid (∀ q, q < c + 1 → rightB (Y d'[q]!) = true) := hide (fun q hq => by
        by_cases h : q < c
        ·exact uh HGt q h
        ·obtain rfl : q = c := by omega
         rw [uh HYv]
         exact hry)
       rw [hry] at CR
       clear hry
       go_wp2_with fail
       refine (uh CR).mono ?_
       rintro e u7 ⟨rfl, b7⟩
       have HR7 := hide (rq_later (uh HE).2 b7)
       clear b7 CR c0 c1 c2 c3 c4
       have HI1 := hide (show c + 1 ≤ n by omega)
       go_wp2_with fail
       go_roundw
       case rel => exact ⟨c + 1, uh HI1, by go_num, HR7, HG1⟩
       case measure => have := uh HI1; simp [intOf]; omega
     ·have j1 : ¬ (c : Int) < (n : Int) := by omega
      have hcn : c = n := by omega
      have HAL : Hid (vs.all rightB = true) := hide (by
       rw [List.all_eq_true, ← (uh HQ).2.2.2.1]
       intro y hy
       obtain ⟨x, hx, rfl⟩ := List.mem_map.1 hy
       obtain ⟨q, hq⟩ := List.getElem?_of_mem hx
       have h1 := (List.getElem?_eq_some_iff.1 hq).1
       have h2 := (uh HQ).1
       have h3 := uh HGt q (by omega)
       rw [Array.getElem?_toList] at hq
       have h4 : d'[q]! = x := by rw [getElem!_def, hq]
       rw [h4] at h3
       exact h3)
      have HI : Hid (IsV wr wr.heap.size (.mk 5 0 ⟨#[]⟩ vs ks) (.agg #[.int .i64 5, .int .i64 0, .string ⟨#[]⟩, .slice la n lc, .slice ka n kc])) := hide (by
       have hR := uh HRt
       obtain ⟨hdl, hkk, hks, hvs, hik⟩ := uh HQ
       have hk := hR.keys
       rw [hkk, hks] at hk
       refine isP_rows hk hR.els (by rw [← hvs, List.length_map]; exact hdl) (fun _ _ => rfl) (fun q y hy => ?_) (fun b h1 h2 => h2) (by omega) (by omega) hik.small
       rw [← hvs, List.getElem?_map] at hy
       obtain ⟨x, hx, rfl⟩ := Option.map_eq_some_iff.1 hy
       have hx' := hx
       rw [Array.getElem?_toList] at hx
       have h4 : d'[q]! = x := by rw [getElem!_def, hx]
       unfold elR
       rw [h4]
       have h5 : IsV w B (Y x) (.agg (valE x).toArray) := (uh HB).1 x ((uh HD).2.1.mem_iff.1 (List.mem_of_getElem? hx'))
       have h6 := hR.below.size
       exact IsP.to (fun b hb => hR.below.block b (by omega)) (fun b hb => by omega) h5)
      have CS := hide (sized_any (.mk 5 0 ⟨#[]⟩ vs ks) _ wr.heap.size wr (uh HI) (Nat.le_refl _))
      have HC : Hid ((if rightB (.mk 5 0 ⟨#[]⟩ vs ks) = true then (0 : Int) else 33) = recC (d'.toList.map (fun x => x.1)) (d'.toList.map Y)) := hide (by
       unfold recC
       rw [(uh HQ).2.2.1, (uh HQ).2.2.2.1, if_pos (uh HRI), if_pos (uh HAL)])
      rw [uh HC] at CS
      obtain ⟨E, hE⟩ : ∃ E, recC (d'.toList.map (fun x => x.1)) (d'.toList.map Y) = E := ⟨_, rfl⟩
      rw [hE] at CS
      have HEE := hide hE
      clear hE hcn
      obtain ⟨c0, c1, c2, c3, c4⟩ := row_cell (uh HRt).box
      go_wp2_with fail
      refine (uh CS).mono ?_
      rintro e u9 ⟨x', rfl, b9, q1, q2⟩
      obtain ⟨y0, y1, y2, a3, n3, p3, a4, n4, p4, rfl⟩ : ∃ y0 y1 y2 a3 n3 p3 a4 n4 p4, x' = .agg #[.int .i64 y0, .int .i64 y1, .string y2, .slice a3 n3 p3, .slice a4 n4 p4] := by
       cases hR : rightB (.mk 5 0 ⟨#[]⟩ vs ks) with
       | true =>
        obtain ⟨k4, n4, s4, l4, ks4, al4, ak4, cl4, ck4, _, h⟩ := (q1 hR).shape
        exact ⟨_, _, _, _, _, _, _, _, _, h⟩
       | false => exact ⟨_, _, _, _, _, _, _, _, _, q2 hR⟩
      have HF := hide (And.intro (rq_later (uh HRt) b9) (And.intro b9.size (And.intro (uh HRt).size (And.intro (uh HRt).low (And.intro q1 q2)))))
      clear b9 q1 q2 c0 c1 c2 c3 c4 CS
      have ATX : u9.heap[g]? = some (.cells #[.int .i64 0, .int .i64 0, .string ⟨#[]⟩, .slice none 0 0, .slice none 0 0] 25 (0, 0)) := (uh HF).1.at0
      obtain ⟨z0, z1, z2, z3, z4⟩ := row_cell ATX
      have fz : ∀ q, u9.frozen? ⟨g, q, none⟩ = false := fun q => frozen_of_row u9 g q _ _ ATX
      have fz0 := fz 0
      have fz1 := fz 1
      have fz2 := fz 2
      have fz3 := fz 3
      have fz4 := fz 4
      have HAT := hide ATX
      clear fz ATX
      go_wp2_with fail
      have ATX := uh HAT
      have BW : Below g w u9 := (uh HF).1.below
      have R9 := five_set u9 g 25 _ _ _ _ _ (.int .i64 y0) (.int .i64 y1) (.string y2) (.slice a3 n3 p3) (.slice a4 n4 p4) ATX
      have O9 := five_other u9 g (x0 := .int .i64 y0) (x1 := .int .i64 y1) (x2 := .string y2) (x3 := .slice a3 n3 p3) (x4 := .slice a4 n4 p4)
      have S9 : (((((u9.setCell ⟨g, 0, none⟩ (.int .i64 y0)).setCell ⟨g, 1, none⟩ (.int .i64 y1)).setCell ⟨g, 2, none⟩ (.string y2)).setCell ⟨g, 3, none⟩ (.slice a3 n3 p3)).setCell ⟨g, 4, none⟩ (.slice a4 n4 p4)).heap.size = u9.heap.size := by simp
      obtain ⟨w9, hw9⟩ : ∃ w9, (((((u9.setCell ⟨g, 0, none⟩ (.int .i64 y0)).setCell ⟨g, 1, none⟩ (.int .i64 y1)).setCell ⟨g, 2, none⟩ (.string y2)).setCell ⟨g, 3, none⟩ (.slice a3 n3 p3)).setCell ⟨g, 4, none⟩ (.slice a4 n4 p4)) = w9 := ⟨_, rfl⟩
      rw [hw9] at R9 S9 ⊢
      have B9 : Below g w w9 := by rw [← hw9]; exact five_below BW (Nat.le_refl _) _ _ _ _ _
      obtain ⟨r0, r1, r2, r3, r4⟩ := row_cell R9
      refine bodyPost_ret (v := .tuple #[.agg #[.int .i64 y0, .int .i64 y1, .string y2, .slice a3 n3 p3, .slice a4 n4 p4], .int .i64 E]) (by simp [results, Tryz.results104, go_sem, r0, r1, r2, r3, r4]) rfl ?_
      obtain ⟨_, hsz, hsz2, hlow, q1, q2⟩ := uh HF
      have hE := uh HEE
      have hC := uh HC
      rw [hE] at hC
      rw [hg]
      refine ⟨d', _, ⟨(uh HD).1, (uh HD).2.1, (uh HD).2.2.1⟩, by rw [hE], B9, fun h => ?_, fun h => ?_⟩
      ·rw [hE] at h
       rw [h] at hC
       have hR : rightB (.mk 5 0 ⟨#[]⟩ vs ks) = true := by
        cases hR : rightB (.mk 5 0 ⟨#[]⟩ vs ks) with
        | true => rfl
        | false => rw [hR] at hC; simp at hC
       rw [(uh HQ).2.2.1, (uh HQ).2.2.2.1]
       exact ((q1 hR).move (fun q hq => by rw [← hw9]; exact O9 q (by have h1 := hq.1; omega))).weak (fun q hq => ⟨by have h1 := hq.1; omega, by have := hq.2; omega⟩)
      ·rw [hE] at h
       cases hR : rightB (.mk 5 0 ⟨#[]⟩ vs ks) with
       | true => rw [hR] at hC; simp at hC; exact absurd hC.symm h
       | false => exact q2 hR
end Go.Proofs.YtgkmdjmigehmeaaGreatDoor
