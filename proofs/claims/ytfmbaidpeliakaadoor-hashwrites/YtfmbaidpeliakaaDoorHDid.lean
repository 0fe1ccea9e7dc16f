/-
  The walk of did, kind by kind: New, Copy; conditions: the package's variables, at most two million books.
-/
import Derived.Test.YtfmbaidpeliakaaDoorHBook
namespace Go.Proofs.YtfmbaidpeliakaaDoor
open Go.RowKit
set_option linter.unusedVariables false
set_option linter.unusedSimpArgs false

def ResDid (w : World) (ls : List Bk) (s : ByteArray) (e : Ending) (w' : World) : Prop :=
  ∃ lv' ls', e = .returned (.tuple #[lv', .bool true]) ∧ Books w w' lv' ls' ∧ ls.length ≤ ls'.length ∧ ls'.length ≤ ls.length + 1 ∧ ∀ M, (∀ p ∈ ls, p.2.size ≤ M) → ∀ p ∈ ls', p.2.size ≤ M + s.size

/-- an operation that was put into a block of its own -/
structure Box3 (w w1 : World) (x0 x1 x2 : Value) : Prop where
  row : w1.heap[w.heap.size]? = some (.cells #[x0, x1, x2] 35 (0, 0))
  size : w1.heap.size = w.heap.size + 1
  below : Below w.heap.size w w1

theorem Box3.mk' (w : World) (x0 x1 x2 : Value) : Box3 w (w.alloc (.cells #[x0, x1, x2] 35)) x0 x1 x2 :=
  ⟨heap_alloc_new w _, by simp, (Below.refl _ _).alloc (Nat.le_refl _) _⟩

theorem row_cell3 {w : World} {g : Nat} {x0 x1 x2 : Value} (h : w.heap[g]? = some (.cells #[x0, x1, x2] 35 (0, 0))) : w.cell? ⟨g, 0, none⟩ = some x0 ∧ w.cell? ⟨g, 1, none⟩ = some x1 ∧ w.cell? ⟨g, 2, none⟩ = some x2 :=
  ⟨by rw [cell_of_row w g 0 _ _ (0, 0) h]; rfl, by rw [cell_of_row w g 1 _ _ (0, 0) h]; rfl, by rw [cell_of_row w g 2 _ _ (0, 0) h]; rfl⟩

theorem pick_range (c n : Int) (hn : 0 < n) : 0 ≤ pickI c n ∧ pickI c n < n := by
  unfold pickI
  exact ⟨Int.emod_nonneg _ (by omega), Int.emod_lt_of_pos _ hn⟩

theorem txt_nil : txt (⟨#[]⟩ : ByteArray) = [] := rfl

set_option maxRecDepth 100000 in
set_option maxHeartbeats 1000000 in
theorem did_new {t0 tK : TypeId} (w wr : World) (lv : Value) (ls : List Bk) (c h : Int) (s : ByteArray) (hp : Pkg w t0 tK KS) (hB : Books w wr lv ls) (h1 : 1 ≤ ls.length) (h2 : ls.length ≤ 2000000) (hc : -9223372036854775808 ≤ c ∧ c ≤ 9223372036854775807) (hh : -9223372036854775808 ≤ h ∧ h ≤ 9223372036854775807) (hk : pickI c 4 = 0) :
    Calls Tryd.prog 8 #[lv, .agg #[.int .i64 c, .int .i64 h, .string s]] wr fun e w' => ResDid w ls s e w' := by
  obtain ⟨b, cap, hlv, hb1, hb2, hcap, _, _, hcell⟩ := hB.at (by omega)
  obtain ⟨n, hn⟩ : ∃ n, ls.length = n := ⟨_, rfl⟩
  have BX := Box3.mk' wr (.int .i64 c) (.int .i64 h) (.string s)
  obtain ⟨w1, hw1⟩ : ∃ w1, wr.alloc (.cells #[.int .i64 c, .int .i64 h, .string s] 35) = w1 := ⟨_, rfl⟩
  rw [hw1] at BX
  obtain ⟨g, hg⟩ : ∃ g, wr.heap.size = g := ⟨_, rfl⟩
  obtain ⟨c0, c1, c2⟩ := row_cell3 (by have := BX.row; rw [hg] at this; exact this)
  have C1 := hide (pick_any h (n : Int) w1 hh.1 hh.2 (by omega) (by omega))
  have C2 := hide (pick_any c 4 w1 hc.1 hc.2 (by omega) (by omega))
  rw [hk] at C2
  obtain ⟨K, hK⟩ : ∃ K, pickI h (n : Int) = K := ⟨_, rfl⟩
  rw [hK] at C1
  have H1 := hide (hB.later BX.below)
  have CN := hide (new_has w1 (hp.later (unhide H1).below hp.lt))
  have HN := hide (And.intro hn (And.intro h1 h2))
  rw [hn] at hlv
  subst hlv
  clear hB hp hcell BX h1 h2 hn
  go_enter Tryd.func8, Tryd.ntmps8
  go_wp2_with fail
  refine (unhide C1).mono ?_
  rintro e u ⟨rfl, rfl⟩
  go_wp2_with fail
  refine (unhide C2).mono ?_
  rintro e u ⟨rfl, rfl⟩
  go_wp2_with fail
  refine (unhide CN).mono ?_
  rintro e w2 ⟨rfl, a2, z2, b2⟩
  have H2 := hide (And.intro a2 (And.intro z2 ((unhide H1).later b2)))
  clear a2 z2 b2 CN C1 C2 c0 c1 c2
  have H3 : Hid ((w2.alloc (.cells #[.pointer (some ⟨u.heap.size, 0, none⟩), .string ⟨#[]⟩] 30)).ownsRow w.heap.size 30 2 (.slice (some ⟨b, 0, none⟩) n cap) n (rowB ls)) := hide (by
    have := (unhide H2).2.2.row.alloc (.cells #[.pointer (some ⟨u.heap.size, 0, none⟩), .string ⟨#[]⟩] 30)
    rw [(unhide HN).1] at this
    exact this)
  have hbase : w.heap.size ≤ (w2.alloc (.cells #[.pointer (some ⟨u.heap.size, 0, none⟩), .string ⟨#[]⟩] 30)).heap.size := by
    have := (unhide H2).2.2.below.size
    simp
    omega
  go_wp2_with (first | (at_builtin; refine wpl_book rfl (.tmp 22) (.tmp 25) rfl w.heap.size n (.slice (some ⟨b, 0, none⟩) n cap) (rowB ls) rfl (unhide H3) w2.heap.size u.heap.size ⟨#[]⟩ rfl (heap_alloc_new w2 _) (by have := unhide HN; omega) hbase ?_; intro v6 w6 o6))
  go_ret2
  obtain ⟨o1, o2, o3⟩ := unhide o6
  obtain ⟨a2, z2, B2⟩ := unhide H2
  have hu := (unhide H1).below.size
  have B3 := B2.later ((Below.refl w2.heap.size w2).alloc (Nat.le_refl _) (.cells #[.pointer (some ⟨u.heap.size, 0, none⟩), .string ⟨#[]⟩] 30))
  refine ⟨v6, ls ++ [(u.heap.size, ⟨#[]⟩)], rfl, ?_, by simp, by simp, fun M hM p hp => ?_⟩
  · refine B3.push (a2.block (heap_alloc_old w2 _ a2.lt)) hu (fun e => ?_) (fun p hp e => ?_) (by rw [(unhide HN).1]; exact o1) o2 o3
    · have := ((unhide H1).row.lt u.heap.size e).2
      omega
    · obtain ⟨i, hi⟩ := List.getElem?_of_mem hp
      have := ((unhide H1).has i p hi).1.lt
      omega
  · rcases List.mem_append.1 hp with hp | hp
    · have := hM p hp; omega
    · simp at hp; subst hp; exact Nat.zero_le _

theorem Books.keeps {w u u' : World} {lv : Value} {ls : List Bk} {G : Nat} (h : Books w u lv ls) (hK : Keeps u u' G) (hG : w.heap.size ≤ G) (hd : ∀ (i : Nat) (p : Bk), ls[i]? = some p → p.1 ≠ G) (hne : lv.ownBlock ≠ some G) : Books w u' lv ls :=
  ⟨own_belowB h.row (fun b e => hK.other b (h.row.lt b e).2 (fun e' => hne (by rw [← e']; exact e))), fun i p hp => ⟨(h.has i p hp).1.block (hK.other p.1 (h.has i p hp).1.lt (hd i p hp)), (h.has i p hp).2⟩, h.apart, hK.below h.below hG h.below.size⟩

set_option maxRecDepth 100000 in
set_option maxHeartbeats 1000000 in
theorem did_copy {t0 tK : TypeId} (w wr : World) (lv : Value) (ls : List Bk) (c h : Int) (s : ByteArray) (hp : Pkg w t0 tK KS) (hB : Books w wr lv ls) (h1 : 1 ≤ ls.length) (h2 : ls.length ≤ 2000000) (hc : -9223372036854775808 ≤ c ∧ c ≤ 9223372036854775807) (hh : -9223372036854775808 ≤ h ∧ h ≤ 9223372036854775807) (hk : pickI c 4 = 3) :
    Calls Tryd.prog 8 #[lv, .agg #[.int .i64 c, .int .i64 h, .string s]] wr fun e w' => ResDid w ls s e w' := by
  obtain ⟨b, cap, hlv, hb1, hb2, hcap, _, _, _⟩ := hB.at (by omega)
  obtain ⟨n, hn⟩ : ∃ n, ls.length = n := ⟨_, rfl⟩
  have BX := Box3.mk' wr (.int .i64 c) (.int .i64 h) (.string s)
  obtain ⟨w1, hw1⟩ : ∃ w1, wr.alloc (.cells #[.int .i64 c, .int .i64 h, .string s] 35) = w1 := ⟨_, rfl⟩
  rw [hw1] at BX
  obtain ⟨g, hg⟩ : ∃ g, wr.heap.size = g := ⟨_, rfl⟩
  obtain ⟨c0, c1, c2⟩ := row_cell3 (by have := BX.row; rw [hg] at this; exact this)
  have C1 := hide (pick_any h (n : Int) w1 hh.1 hh.2 (by omega) (by omega))
  have C2 := hide (pick_any c 4 w1 hc.1 hc.2 (by omega) (by omega))
  rw [hk] at C2
  obtain ⟨k, hK, hkn⟩ : ∃ k : Nat, pickI h (n : Int) = (k : Int) ∧ k < n := by
    have := pick_range h (n : Int) (by omega)
    exact ⟨(pickI h (n : Int)).toNat, by omega, by omega⟩
  rw [hK] at C1
  have H1 := hide (hB.later BX.below)
  obtain ⟨⟨G, T⟩, hpk⟩ : ∃ p, ls[k]? = some p := ⟨_, List.getElem?_eq_getElem (by omega)⟩
  have CN := hide (copy_has w1 ((unhide H1).has k _ hpk).1)
  have HN := hide (And.intro hn (And.intro h1 (And.intro h2 hpk)))
  have i1 : (k : Int) < (n : Int) := by omega
  obtain ⟨_, _, e3, _, _, _, _, _, hcl⟩ := (unhide H1).at (by omega)
  rw [hlv] at e3
  cases e3
  rw [hn] at hlv hcap
  subst hlv
  obtain ⟨d0, d1⟩ := hcl k _ hpk
  dsimp only at d0 d1 CN
  clear hB hp BX h1 h2 hn hcl hpk
  go_enter Tryd.func8, Tryd.ntmps8
  go_wp2_with fail
  refine (unhide C1).mono ?_
  rintro e u ⟨rfl, rfl⟩
  go_wp2_with fail
  refine (unhide C2).mono ?_
  rintro e u ⟨rfl, rfl⟩
  go_wp2_with fail
  refine (unhide CN).mono ?_
  rintro e w2 ⟨rfl, a2, z2, b2⟩
  have H2 := hide (And.intro a2 (And.intro z2 ((unhide H1).later b2)))
  have d2 : w2.cell? ⟨b, k * 2 + 1, none⟩ = some (.string T) := (b2.cell (p := ⟨b, k * 2 + 1, none⟩) (World.block_lt_of_cell? _ _ (by rw [d1]))).trans d1
  clear a2 z2 b2 CN C1 C2 c0 c1 c2 d0 d1
  have H3 : Hid ((w2.alloc (.cells #[.pointer (some ⟨u.heap.size, 0, none⟩), .string T] 30)).ownsRow w.heap.size 30 2 (.slice (some ⟨b, 0, none⟩) n cap) n (rowB ls)) := hide (by
    have := (unhide H2).2.2.row.alloc (.cells #[.pointer (some ⟨u.heap.size, 0, none⟩), .string T] 30)
    rw [(unhide HN).1] at this
    exact this)
  have hbase : w.heap.size ≤ (w2.alloc (.cells #[.pointer (some ⟨u.heap.size, 0, none⟩), .string T] 30)).heap.size := by
    have := (unhide H2).2.2.below.size
    simp
    omega
  go_wp2_with (first | (at_builtin; refine wpl_book rfl (.tmp 98) (.tmp 106) rfl w.heap.size n (.slice (some ⟨b, 0, none⟩) n cap) (rowB ls) rfl (unhide H3) w2.heap.size u.heap.size T rfl (heap_alloc_new w2 _) (by have := unhide HN; omega) hbase ?_; intro v6 w6 o6))
  go_ret2
  obtain ⟨o1, o2, o3⟩ := unhide o6
  obtain ⟨a2, z2, B2⟩ := unhide H2
  have hu := (unhide H1).below.size
  have B3 := B2.later ((Below.refl w2.heap.size w2).alloc (Nat.le_refl _) (.cells #[.pointer (some ⟨u.heap.size, 0, none⟩), .string T] 30))
  refine ⟨v6, ls ++ [(u.heap.size, T)], rfl, ?_, by simp, by simp, fun M hM p hp => ?_⟩
  · refine B3.push (a2.block (heap_alloc_old w2 _ a2.lt)) hu (fun e => ?_) (fun p hp e => ?_) (by rw [(unhide HN).1]; exact o1) o2 o3
    · have := ((unhide H1).row.lt u.heap.size e).2
      omega
    · obtain ⟨i, hi⟩ := List.getElem?_of_mem hp
      have := ((unhide H1).has i p hi).1.lt
      omega
  · rcases List.mem_append.1 hp with hp | hp
    · have := hM p hp; omega
    · simp at hp; subst hp; have := hM _ (List.mem_of_getElem? (unhide HN).2.2.2); dsimp only at this ⊢; omega
end Go.Proofs.YtfmbaidpeliakaaDoor
