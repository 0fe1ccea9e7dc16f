/-
  The walk of the document's Hex (layer 2): sixty-four digits of a digest; no conditions.
-/
import Derived.Test.YtbdieoknbpcbnaaR2Digit
import Derived.Test.YtbdieoknbpcbnaaArr
import Derived.Deep.RegionHeld3
import Derived.Deep.AppendLies
import Derived.Deep.DrawnRows
import Derived.WalkSmall
import Derived.Laws.BitsAllLaws
import Derived.Laws.BytesArg
namespace Go.Proofs.Ytbdieoknbpcbnaa
open Go.RowKit
attribute [local go_sem ↓] Go.wp_at_zero Go.wp_at_succ

/-- the digits of bytes -/
def hexL : List Int → List Int
  | [] => []
  | c :: l => hexC (c / 16) :: hexC (c % 16) :: hexL l

theorem hexL_app (a : List Int) (c : Int) : hexL (a ++ [c]) = hexL a ++ [hexC (c / 16), hexC (c % 16)] := by
  induction a with
  | nil => rfl
  | cons x a ih => simp [hexL, ih]

theorem hexL_len (a : List Int) : (hexL a).length = 2 * a.length := by
  induction a with
  | nil => rfl
  | cons x a ih => simp [hexL, ih]; omega

theorem infoU8 : (Try.prog.info? 5).map (fun i => (i.zero, i.size, i.bytes)) = some (some (.int .u8 0), 1, 1) := by kernel_rfl

theorem own_shape {w : World} {base : Nat} {v : Value} {n : Nat} {xs : List Value} (h : w.ownsRow base 5 1 v n xs) (hn : 0 < n) : ∃ g cap, v = .slice (some ⟨g, 0, none⟩) n cap ∧ base ≤ g := by
  rcases h.2 with ⟨_, e⟩ | ⟨g, cap, cur, e, hb, _⟩
  · omega
  · exact ⟨g, cap, e, hb⟩

theorem own_text {w : World} {base g n cap : Nat} {zs : List Int} (h : w.ownsRow base 5 1 (.slice (some ⟨g, 0, none⟩) n cap) n (zs.map (Value.int .u8))) :
    Sem.run Try.prog (convert 33 9 (.slice (some ⟨g, 0, none⟩) n cap)) w = .ok (.string (strOfNums zs)) w := by
  have hl : zs.length = n := by simpa using h.1
  refine run_convert_bytes_arg (P := Try.prog) w 33 5 Try.underlying33 Try.underlying5 g 0 n cap zs hl ?_ 9 Try.underlying9
  intro j hj
  rw [Nat.zero_add, h.cellAt j (by omega)]
  simp [List.getD, (by omega : j < zs.length)]

set_option maxRecDepth 100000 in
set_option maxHeartbeats 1000000 in
theorem refHex_any (ds : List Int) (w : World) (hd : ds.length = 32) (hb : ∀ c ∈ ds, 0 ≤ c ∧ c ≤ 255) :
    Calls Try.prog 6 #[.agg (ds.map (Value.int .u8)).toArray] w fun e w' => (∃ s : ByteArray, e = .returned (.string s) ∧ s.data.toList = (hexL ds).map fun n => UInt8.ofNat n.toNat) ∧ Below w.heap.size w w' := by
  obtain ⟨i0, hi, hz0, hz1, hz2⟩ := info_parts infoU8
  have HD := hide hd
  clear hd
  go_enter Try.func6, Try.ntmps6
  go_wp2_with fail
  go_loopw [3, 4] (fun v x wr => ∃ i : Nat, i ≤ 32 ∧ x = .int .i64 i ∧ wr.ownsRow (w.heap.size + 1) 5 1 v (2 * i) ((hexL (ds.take i)).map (Value.int .u8)) ∧ Arr8 wr w.heap.size 24 ds ∧ w.heap.size + 1 ≤ wr.heap.size ∧ Below w.heap.size w wr) (fun _ x _ => 32 - (intOf x).toNat)
  case atStart => exact ⟨0, by omega, rfl, World.ownsRow_nil _ _ _ _, heap_alloc_new w _, by simp, (Below.refl _ _).alloc (Nat.le_refl _) _⟩
  case round =>
    obtain ⟨i, hi32, rfl, hown, hA, hsz, hbel⟩ := hrel
    by_cases hlt : i < 32
    · have hdl := unhide HD
      have ct := hA.cell i (by omega)
      have hc : 0 ≤ ds.getD i 0 ∧ ds.getD i 0 ≤ 255 := by
        have g : ds.getD i 0 = ds[i] := by simp [List.getD, (by omega : i < ds.length)]
        rw [g]; exact hb _ (List.getElem_mem _)
      generalize hcc : ds.getD i 0 = c at *
      obtain ⟨k1, hk1⟩ : ∃ k : Nat, (k : Int) = c / 16 := ⟨(c / 16).toNat, by omega⟩
      obtain ⟨k2, hk2⟩ : ∃ k : Nat, (k : Int) = c % 16 := ⟨(c % 16).toNat, by omega⟩
      have q1 : c / 16 = (k1 : Int) := hk1.symm
      have q2 : c % 16 = (k2 : Int) := hk2.symm
      have q3 : c.tdiv 16 = (k1 : Int) := by rw [Int.tdiv_eq_ediv_of_nonneg hc.1]; exact q1
      have q4 : c.tmod 16 = (k2 : Int) := by rw [Int.tmod_eq_emod_of_nonneg hc.1]; exact q2
      have l1 : k1 < 16 := by omega
      have l2 : k2 < 16 := by omega
      have m1 : (k1 : Int) < 16 := by omega
      have m2 : (k2 : Int) < 16 := by omega
      have q5 : IntKind.u8.wrap (k1 : Int) = (k1 : Int) := by rw [IntKind.wrap_u8']; omega
      have z1 : k1 < (⟨#[48, 49, 50, 51, 52, 53, 54, 55, 56, 57, 97, 98, 99, 100, 101, 102]⟩ : ByteArray).size := l1
      have z2 : k2 < (⟨#[48, 49, 50, 51, 52, 53, 54, 55, 56, 57, 97, 98, 99, 100, 101, 102]⟩ : ByteArray).size := l2
      have r1 := digs_at k1 z1
      have r2 := digs_at k2 z2
      have i1 : (0 : Int) ≤ (i : Int) := by omega
      have i2 : (i : Int) < 32 := by omega
      have HCC := hide hcc
      have HK := hide (And.intro hk1 hk2)
      clear hcc hk1 hk2 hdl
      go_wp2_with fail
      have ct2 : ∀ o : Obj, (wr.alloc o).cell? ⟨w.heap.size, i, none⟩ = some (.int .u8 c) := fun o => (World.cell?_alloc_past o w.heap.size i (by omega)).trans ct
      have hne : some w.heap.size ≠ u3.ownBlock := by
        intro e
        have := (hown.lt w.heap.size e.symm).1
        omega
      have HL : Hid (hexL (ds.take (i + 1)) = hexL (ds.take i) ++ [hexC k1, hexC k2]) := hide (by
        have hl := unhide HD
        have e : ds.take (i + 1) = ds.take i ++ [c] := by
          rw [List.take_succ_eq_append_getElem (by omega), ← unhide HCC]
          simp [List.getD, (by omega : i < ds.length)]
        rw [e, hexL_app, ← (unhide HK).1, ← (unhide HK).2])
      have HO := hide hown
      have HA := hide hA
      clear hown hA
      go_region_held3 (fun w' => w'.cell? ⟨w.heap.size, i, none⟩ = some (.int .u8 c))
        (first | exact ct | exact ct2 _ | exact hgrow.cell (ct2 _) hne)
        ((refine step_append_lies _ (by rfl) _ _ _ (by rfl) (w.heap.size + 1) 5 i0 (.int .u8 0) 1 1 Try.underlying33 hi hz0 hz1 hz2 rfl (by omega) u3 (2 * i) _ (by rfl) (((unhide HO).alloc _).drew) ⟨wr.heap.size, 0, none⟩ 2 2 [.int .u8 (hexC k1), .int .u8 (hexC k2)] (by rfl) (by rfl) (World.news_of_block (cs := #[.int .u8 (hexC k1), .int .u8 (hexC k2)]) (t := 5) (fr := (0, 0)) (heap_alloc_new wr _)) (by simp [Value.oneCell']) (by omega) (by unfold maxLen; omega) (by omega) (by simp; omega) (wr.heap.size + 1) (by simp) ?_; intro gg cap w1 hown1 hgrow hat hlt1))
      go_wp2_with fail
      all_goals
        go_roundw
        case rel =>
          refine ⟨i + 1, by omega, by go_num, ?_, ?_, ?_, ?_⟩
          · rw [unhide HL, List.map_append]
            exact hown1
          · exact (hgrow.block w.heap.size (by simp; omega) hne).trans ((Below.heap_alloc wr _ _ (by omega)).trans (unhide HA))
          · have := hgrow.size
            simp at this
            omega
          · exact ((hbel.alloc (by omega) _).drew).grown hgrow (by simp; omega) (fun k hk => by have := ((unhide HO).lt k hk).1; omega)
        case measure => simp [intOf]; omega
    · have hi' : i = 32 := by omega
      subst hi'
      obtain ⟨g, cp, hv, _⟩ := own_shape hown (by omega)
      subst hv
      have hl := unhide HD
      rw [List.take_of_length_le (by omega)] at hown
      have k := own_text hown
      have HB := hide hbel
      obtain ⟨S, hS⟩ : ∃ S, strOfNums (hexL ds) = S := ⟨_, rfl⟩
      rw [hS] at k
      have HS := hide hS
      clear hown hA hbel hl hS
      go_wp2_with fail
      go_ret
      exact ⟨⟨S, rfl, by rw [← unhide HS]; rfl⟩, unhide HB⟩
end Go.Proofs.Ytbdieoknbpcbnaa
