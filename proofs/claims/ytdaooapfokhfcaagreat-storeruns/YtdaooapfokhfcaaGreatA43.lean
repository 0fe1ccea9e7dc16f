/-
  The document's store: Put; conditions: the form's own reach.
-/
import Derived.Test.YtdaooapfokhfcaaGreatA42
namespace Go.Proofs.YtdaooapfokhfcaaGreat
open Go.RowKit
set_option linter.unusedVariables false
set_option linter.unusedSimpArgs false

section
variable {w w' : World} {V V' V1 : Nat → Prop} {t t' : Rx}

/-- the last of Put -/
theorem Rto.putFin (h : Rto w V t) {s4 s5 lo : Nat} {w7 w8 w9 : World} {v4 : Value} {t1 : Rx} {lx' : List (ByteArray × (ThV × Vl))} (b7 : Below w.heap.size w w7) (b78 : Below w7.heap.size w7 w8) (h9 : Rto w9 V t1) (adv : RAdv w8 w9 V V t t1) (o4 : w7.ownsRow lo 77 6 v4 lx'.length (cellsV (mapK Prod.fst lx'))) (hlo : w.heap.size ≤ lo) (hok : ∀ p ∈ lx', IsP w7 (fun j => V j ∨ (s4 ≤ j ∧ j < s5)) p.2.2 (.agg (thV p.2.1).toArray)) (hs4 : w.heap.size ≤ s4) (hs5 : s5 ≤ w7.heap.size) (hbl : ∀ b, v4.ownBlock = some b → b < s4 ∨ s5 ≤ b) :
    Rto (w9.setCell ⟨t1.r, 0, none⟩ v4) (fun j => V j ∨ (s4 ≤ j ∧ j < s5)) { t1 with lv := v4, lx := lx' } ∧ RAdv w (w9.setCell ⟨t1.r, 0, none⟩ v4) V (fun j => V j ∨ (s4 ≤ j ∧ j < s5)) t { t1 with lv := v4, lx := lx' } := by
  have s7 := b7.size
  have s8 := b78.size
  have s9 := adv.fr.size
  have b8 : Below w.heap.size w w8 := b7.trans (b78.mono s7)
  have keep : ∀ j, j < w8.heap.size → ¬ t.own j → w9.heap[j]? = w8.heap[j]? := fun j hj hn => adv.fr.block j hj hn
  have high : ∀ j, w.heap.size ≤ j → ¬ t.own j := fun j hj e => by have := h.lt e; omega
  have keep7 : ∀ j, j < w7.heap.size → ¬ t.own j → w9.heap[j]? = w7.heap[j]? := fun j hj hn => (keep j (by omega) hn).trans (b78.block j hj)
  have hV7 : ∀ j, (V j ∨ (s4 ≤ j ∧ j < s5)) → j < w7.heap.size ∧ ¬ t.own j := fun j hj => by
    rcases hj with e | e
    · exact ⟨by have := (h.vs j e).1; omega, (h.vs j e).2⟩
    · exact ⟨by omega, high j (by omega)⟩
  have o9 := row_to o4 (fun b hb => keep7 b (o4.lt b hb).2 (high b (by have := (o4.lt b hb).1; omega)))
  have ra := h9.setL (V1 := fun j => V j ∨ (s4 ≤ j ∧ j < s5)) o9 (fun b hb e => by
    have h1 := (o4.lt b hb).1
    rcases e with e | e
    · have := (h.vs b e).1
      omega
    · have := hbl b hb
      omega) (fun p hp => (hok p hp).move (fun b hb => keep7 b (hV7 b hb).1 (hV7 b hb).2)) (fun _ e => .inl e) (fun j hj => by
    rcases hj with e | e
    · exact h9.vs j e
    · refine ⟨by omega, fun e2 => ?_⟩
      rcases adv.own j e2 with e3 | e3
      · exact high j (by omega) e3
      · omega)
  refine ⟨ra, ⟨((Fr.of b8).trans adv.fr (fun j _ e => e)).trans (Fr.set t1.r 0 v4 w9) (fun j _ e => .inl (e.trans adv.r)), fun j hj => ?_, fun j hj => ?_, adv.r⟩⟩
  · have up : t1.own j → t.own j ∨ w.heap.size ≤ j := fun e => by
      rcases adv.own j e with e2 | e2
      · exact .inl e2
      · exact .inr (by omega)
    rcases hj with e | e | e | e
    · exact up (.inl e)
    · exact .inr (by have := (o4.lt j e).1; omega)
    · exact up (.inr (.inr (.inl e)))
    · exact up (.inr (.inr (.inr e)))
  · rcases hj with e | e
    · exact .inl e
    · exact .inr (by omega)

set_option maxRecDepth 100000 in
set_option maxHeartbeats 4000000 in
theorem rput_go (h : Rto w V t) (hl : t.lx.length ≤ 1000) (hr : Rk t.lx) (hks : ∀ p ∈ t.lx, keyB p.1 = true) (hu : t.us.length ≤ 1353245080318) (k : ByteArray) (v : Vl) (c : ThV) (hv : IsV w w.heap.size v (.agg (thV c).toArray)) (hk : keyB k = true) (hright : rightB v = true) :
    Calls Tryz.prog 29 #[.pointer (some ⟨t.r, 0, none⟩), .string k, .agg (thV c).toArray] w fun e w' => e = .returned (.int .i64 (putE t.X k v)) ∧ RPut w w' V t k v := by
  have hpE : putE t.X k v = if fitX t.X k v = true then 0 else 62 := by unfold putE; rw [if_pos hk, if_pos hright]
  have hpX : putX t.X k v = if fitX t.X k v = true then putK t.X k v else t.X := by
    unfold putX
    by_cases hf : fitX t.X k v = true
    · rw [if_pos ⟨hk, hright, hf⟩, if_pos hf]
    · rw [if_neg (fun e => hf e.2.2), if_neg hf]
  obtain ⟨c0, c1, c2, c3, c4, c5, c6, c7, c8⟩ := c
  obtain ⟨L, hL⟩ : ∃ L, lowK t.lx k = L := ⟨_, rfl⟩
  have hLe : L ≤ t.lx.length := by rw [← hL]; exact low_le _ _
  obtain ⟨ao, cap, hlv, hcap, hmax, hnone, hplain, hsome⟩ := h.shape
  obtain ⟨n, hn⟩ : ∃ n, t.lx.length = n := ⟨_, rfl⟩
  rw [hn] at hLe hcap hlv hl
  obtain ⟨wb, hwb⟩ : ∃ wb, w.alloc (.cells #[.int .i64 c0, .int .i64 c1, .string c2, .slice c3 c4 c5, .slice c6 c7 c8] 32) = wb := ⟨_, rfl⟩
  have bb : Below w.heap.size w wb := by rw [← hwb]; exact (Below.refl _ _).alloc (Nat.le_refl _) _
  obtain ⟨G, hG⟩ : ∃ G, w.heap.size = G := ⟨_, rfl⟩
  have nb : wb.heap[G]? = some (.cells #[.int .i64 c0, .int .i64 c1, .string c2, .slice c3 c4 c5, .slice c6 c7 c8] 32 (0, 0)) := by rw [← hwb, ← hG]; exact heap_alloc_new w _
  have sb : G < wb.heap.size := (Array.getElem?_eq_some_iff.1 nb).1
  obtain ⟨d0, d1, d2, d3, d4⟩ := row_cell nb
  have CK := rkey_any k wb
  rw [hk] at CK
  have CKH := hide CK
  have CC := right_ref v _ w.heap.size wb (hv.mono bb) bb.size
  rw [hright] at CC
  have CCH := hide CC
  obtain ⟨iz, hiz⟩ : ∃ iz : Bool, decide ((t.lx.map Prod.fst)[L]? = some k) = iz := ⟨_, rfl⟩
  have CPH : Hid (∀ u, Below w.heap.size w u → Calls Tryz.prog 68 #[.pointer (some ⟨t.r, 0, none⟩), .string k] u fun e w' => e = .returned (.tuple #[.int .i64 (L : Int), .bool iz]) ∧ ∃ q, w' = u.drewN q) := hide (fun u hu => by
    have := place_any (h.later hu) k
    rw [hL, hiz] at this
    exact this)
  obtain ⟨I, hI⟩ : ∃ I, I = if (t.lx.map Prod.fst)[lowK t.lx k]? = some k then lowK t.lx k + 1 else lowK t.lx k := ⟨_, rfl⟩
  have HPC : Hid (∀ c', mapK Prod.fst (putK t.lx k (c', v)) = (mapK Prod.fst t.lx).take L ++ [(k, c')] ++ (mapK Prod.fst t.lx).drop I ∧ (putK t.lx k (c', v)).length = L + 1 + (n - I)) := hide (fun c' => by
    have := put_cut t.lx k c' v hr I hI
    rw [hL, hn] at this
    exact this)
  rw [hL] at hI
  have hII : (iz = true → I = L + 1 ∧ I ≤ n) ∧ (iz = false → I = L) := by
    split at hI
    · rename_i hs
      have hlt : L < n := by
        have := (List.getElem?_eq_some_iff.1 hs).1
        rw [← hn]
        simpa using this
      rw [decide_eq_true hs] at hiz
      subst hiz
      exact ⟨fun _ => ⟨hI, by omega⟩, fun e => by cases e⟩
    · rename_i hs
      rw [decide_eq_false hs] at hiz
      subst hiz
      exact ⟨(fun e => by cases e), fun _ => hI⟩
  have hIn : I ≤ n := by
    cases iz with
    | true => exact (hII.1 rfl).2
    | false => rw [hII.2 rfl]; exact hLe
  obtain ⟨x2, hx2⟩ : ∃ x2, x2 = if cap = I then ao else ao.map (·.add (I * 6)) := ⟨_, rfl⟩
  have HCB : Hid (∀ u, Below w.heap.size w u → u.cell? ⟨t.r, 0, none⟩ = some (.slice ao n cap)) := hide (fun u hu => by
    have := (h.later hu).c0
    rw [hlv] at this
    exact this)
  have HF1 := hide (h.first hlv hn hl L hLe)
  have HF2 := hide (h.rest hlv hn hl L I hLe hIn x2 hx2)
  have HCP : Hid (∀ u, Below w.heap.size w u → Calls Tryz.prog 69 #[.agg #[.int .i64 c0, .int .i64 c1, .string c2, .slice c3 c4 c5, .slice c6 c7 c8]] u fun e w' => ∃ e0 e1 e2 e3 e4 e5 e6 e7 e8, e = .returned (.agg #[.int .i64 e0, .int .i64 e1, .string e2, .slice e3 e4 e5, .slice e6 e7 e8]) ∧ Below u.heap.size u w' ∧ IsQ w' (fun b => u.heap.size ≤ b ∧ b < w'.heap.size) v (.agg (thV (e0, e1, e2, e3, e4, e5, e6, e7, e8)).toArray)) := hide (fun u hu => (copyD_any v _ w.heap.size u (hv.mono hu) hu.size).mono (by
    rintro e w' ⟨x', rfl, b, hq, -⟩
    have hq := hq hright
    obtain ⟨⟨e0, e1, e2, e3, e4, e5, e6, e7, e8⟩, rfl⟩ := isP_th hq.1
    exact ⟨e0, e1, e2, e3, e4, e5, e6, e7, e8, rfl, b, hq⟩))
  have HNT : Hid (∀ u, Below w.heap.size w u → Calls Tryz.prog 70 #[.pointer (some ⟨t.r, 0, none⟩), .string k] u fun e w' => (∃ r, e = .returned r) ∧ ∃ t1, Rto w' V t1 ∧ RAdv u w' V V t t1 ∧ (t1.r = t.r ∧ t1.lv = t.lv ∧ t1.lx = t.lx ∧ t1.mv = t.mv ∧ t1.ms = t.ms) ∧ t1.U = rnU t k ∧ t1.us.length ≤ t.us.length + 1) := hide (fun u hb => rnote_any (h.later hb) hr hu k)
  have HBX : Hid (∀ u, Below wb.heap.size wb u → u.cell? ⟨G, 0, none⟩ = some (.int .i64 c0) ∧ u.cell? ⟨G, 1, none⟩ = some (.int .i64 c1) ∧ u.cell? ⟨G, 2, none⟩ = some (.string c2) ∧ u.cell? ⟨G, 3, none⟩ = some (.slice c3 c4 c5) ∧ u.cell? ⟨G, 4, none⟩ = some (.slice c6 c7 c8)) := hide (fun u hu => row_cell ((hu.block G sb).trans nb))
  have HB := hide bb
  have HH := hide h
  have HK := hide hks
  have HHK := hide hk
  have HHV := hide (And.intro hpE hpX)
  -- the weight of what was built
  have HWT : Hid (∀ (w4 w5 w7 : World) (lo : Nat) (v4 : Value) (c' : ThV), Below w.heap.size w w4 → Below w4.heap.size w4 w5 → Below w5.heap.size w5 w5 → Below w.heap.size w w7 → (∀ j, j < w5.heap.size → w4.heap.size ≤ j → w7.heap[j]? = w5.heap[j]?) → w5.heap.size ≤ w7.heap.size → IsQ w5 (fun b => w4.heap.size ≤ b ∧ b < w5.heap.size) v (.agg (thV c').toArray) → w7.ownsRow lo 77 6 v4 (L + 1 + (n - I)) (cellsV ((mapK Prod.fst t.lx).take L ++ [(k, c')] ++ (mapK Prod.fst t.lx).drop I)) → (∀ p ∈ putK t.lx k (c', v), IsP w7 (fun j => V j ∨ (w4.heap.size ≤ j ∧ j < w5.heap.size)) p.2.2 (.agg (thV p.2.1).toArray)) ∧ ∃ al cl, v4 = .slice al (L + 1 + (n - I)) cl ∧ Calls Tryz.prog 52 #[.slice al (L + 1 + (n - I)) cl] w7 fun e w' => ∃ W : Nat, e = .returned (.int .i64 (W : Int)) ∧ wgE W (putK t.X k v) ∧ Below w7.heap.size w7 w') := hide (fun w4 w5 w7 lo v4 c' b4 b45 _ b7 hkeep hs57 hq o4 => by
    have h7 := h.later b7
    have hok : ∀ p ∈ putK t.lx k (c', v), IsP w7 (fun j => V j ∨ (w4.heap.size ≤ j ∧ j < w5.heap.size)) p.2.2 (.agg (thV p.2.1).toArray) := fun p hp => by
      rcases put_mem hp with rfl | hp
      · exact (hq.1.move (w' := w7) (fun b hb => hkeep b hb.2 hb.1)).weak (fun b hb => .inr hb)
      · exact (h7.ok p hp).weak (fun b hb => .inl hb)
    obtain ⟨hpl, hpn⟩ := unhide HPC c'
    refine ⟨hok, ?_⟩
    rw [← hpl, ← hpn] at o4
    have hk32 : ∀ p ∈ putK t.lx k (c', v), p.1.size ≤ 32 := fun p hp => by
      have h1 : keyB p.1 = true := by
        rcases put_mem hp with rfl | hp
        · exact hk
        · exact hks p hp
      have h2 : (decide (1 ≤ p.1.size) && decide (p.1.size ≤ 32)) = true := h1
      simp at h2
      exact h2.2
    obtain ⟨al, cl, e1, e2⟩ := row_isE o4 hok (fun j hj => by
      rcases hj with e | e
      · exact (h7.vs j e).1
      · omega) (by rw [hpn]; omega) (fun p hp => by have := hk32 p hp; omega)
    rw [hpn] at e1
    have e3 : mapK Prod.snd (putK t.lx k (c', v)) = putK t.X k v := by rw [mapK_put]; rfl
    rw [e3] at e2
    refine ⟨al, cl, e1, ?_⟩
    exact rweight_any (putK t.X k v) al _ cl w7 (by rw [← e3, mapK_len]; exact hpn) e2 (fun q hq => by
      rw [← e3] at hq
      obtain ⟨p, hp, rfl⟩ := List.mem_map.1 hq
      exact hk32 p hp))
  have hfit : ∀ W : Nat, wgE W (putK t.X k v) → fitX t.X k v = (decide (L + 1 + (n - I) ≤ 128) && decide (W ≤ 32768)) := fun W hW => by
    unfold fitX
    have e3 : mapK Prod.snd (putK t.lx k ((c0, c1, c2, c3, c4, c5, c6, c7, c8), v)) = putK t.X k v := by rw [mapK_put]; rfl
    have e4 : (putK t.X k v).length = L + 1 + (n - I) := by rw [← e3, mapK_len]; exact (unhide HPC _).2
    rw [e4]
    have e5 : decide (tot (putK t.X k v) ≤ 32768) = decide (W ≤ 32768) := by
      apply decide_eq_decide.2
      have h1 := hW.1
      have h2 := hW.2.1
      constructor
      · intro a
        exact Nat.le_of_not_lt (fun b => by have := h2 b; omega)
      · intro a
        rw [← h1 a]
        exact a
    rw [e5]
  have HFT := hide hfit
  have HNO : Hid (fitX t.X k v = false → ∀ w', Below w.heap.size w w' → putE t.X k v = 62 ∧ RPut w w' V t k v) := hide (fun hf w' hb => by
    have e1 : putE t.X k v = 62 := by rw [hpE, hf]; rfl
    exact ⟨e1, RPut.stay h hb (by rw [hpX, hf]; rfl) (by rw [e1]; decide)⟩)
  have HYES : Hid (fitX t.X k v = true → ∀ (s4 s5 lo : Nat) (w7 w8 w9 : World) (v4 : Value) (t1 : Rx) (c' : ThV), Below w.heap.size w w7 → Below w7.heap.size w7 w8 → Rto w9 V t1 → RAdv w8 w9 V V t t1 → (t1.r = t.r ∧ t1.lv = t.lv ∧ t1.lx = t.lx ∧ t1.mv = t.mv ∧ t1.ms = t.ms) → t1.U = rnU t k → t1.us.length ≤ t.us.length + 1 → w7.ownsRow lo 77 6 v4 (L + 1 + (n - I)) (cellsV ((mapK Prod.fst t.lx).take L ++ [(k, c')] ++ (mapK Prod.fst t.lx).drop I)) → w.heap.size ≤ lo → (∀ p ∈ putK t.lx k (c', v), IsP w7 (fun j => V j ∨ (s4 ≤ j ∧ j < s5)) p.2.2 (.agg (thV p.2.1).toArray)) → w.heap.size ≤ s4 → s5 ≤ w7.heap.size → (∀ b, v4.ownBlock = some b → b < s4 ∨ s5 ≤ b) → putE t.X k v = 0 ∧ RPut w (w9.setCell ⟨t.r, 0, none⟩ v4) V t k v) := hide (fun hf s4 s5 lo w7 w8 w9 v4 t1 c' b7 b78 h9 adv heq hU hul o4 hlo hok hs4 hs5 hbl => by
    obtain ⟨hpl, hpn⟩ := unhide HPC c'
    rw [← hpl, ← hpn] at o4
    obtain ⟨ra, rb⟩ := h.putFin b7 b78 h9 adv o4 hlo hok hs4 hs5 hbl
    have e1 : putE t.X k v = 0 := by rw [hpE, if_pos hf]
    rw [heq.1] at ra rb
    refine ⟨e1, _, _, ra, rb, heq.2.2.2.2, hul, ?_, ?_⟩
    · rw [hpX, if_pos hf]
      show mapK Prod.snd (putK t.lx k (c', v)) = _
      rw [mapK_put]
      rfl
    · rw [if_pos e1]
      exact hU)
  have HFZ : Hid (∀ (w9 : World) (t1 : Rx), Rto w9 V t1 → t1.r = t.r → t1.lv = t.lv → w9.cell? ⟨t.r, 0, none⟩ = some (.slice ao n cap) ∧ w9.frozen? ⟨t.r, 0, none⟩ = false) := hide (fun w9 t1 h9 e1 e2 => by
    have a := h9.c0
    have b := frozen_of_row w9 t1.r 0 _ _ h9.box
    rw [e1] at a b
    rw [e2, hlv] at a
    exact ⟨a, b⟩)
  have i1 : (L : Int) ≤ (cap : Int) := by omega
  have i2 : (0 : Int) ≤ (L : Int) := by omega
  have i4 : (n : Int) ≤ (cap : Int) := by omega
  have i5 : (L : Int) ≤ (n : Int) := by omega
  have w1 : IntKind.i64.wrap ((L : Int) + 1) = ((L + 1 : Nat) : Int) := by rw [IntKind.wrap_i64]; omega
  have hshape : ao = none ∨ ∃ b, ao = some ⟨b, 0, none⟩ := by
    have hr := h.row
    rw [hlv] at hr
    rcases hr.2 with ⟨e, _⟩ | ⟨b, _, _, e, _⟩
    · cases e
      exact .inl rfl
    · cases e
      exact .inr ⟨b, rfl⟩
  have hn0 : ao = none → n = 0 ∧ cap = 0 := fun e => by
    have hr := h.row
    rw [hlv, e] at hr
    rcases hr.2 with ⟨e, _⟩ | ⟨b, _, _, e, _⟩
    · cases e
      exact ⟨rfl, rfl⟩
    · cases e
  have tokA : True := trivial
  have tokB : True := trivial
  have tokC : True := trivial
  obtain ⟨A, hA⟩ : ∃ A, putE t.X k v = A := ⟨_, rfl⟩
  rw [hA] at HNO HYES ⊢
  obtain ⟨P, hP⟩ : ∃ P : World → Prop, (fun w' => RPut w w' V t k v) = P := ⟨_, rfl⟩
  have HNO' : Hid (fitX t.X k v = false → ∀ w', Below w.heap.size w w' → A = 62 ∧ P w') := hide (by rw [← hP]; exact unhide HNO)
  have HYES' : Hid (fitX t.X k v = true → ∀ (s4 s5 lo : Nat) (w7 w8 w9 : World) (v4 : Value) (t1 : Rx) (c' : ThV), Below w.heap.size w w7 → Below w7.heap.size w7 w8 → Rto w9 V t1 → RAdv w8 w9 V V t t1 → (t1.r = t.r ∧ t1.lv = t.lv ∧ t1.lx = t.lx ∧ t1.mv = t.mv ∧ t1.ms = t.ms) → t1.U = rnU t k → t1.us.length ≤ t.us.length + 1 → w7.ownsRow lo 77 6 v4 (L + 1 + (n - I)) (cellsV ((mapK Prod.fst t.lx).take L ++ [(k, c')] ++ (mapK Prod.fst t.lx).drop I)) → w.heap.size ≤ lo → (∀ p ∈ putK t.lx k (c', v), IsP w7 (fun j => V j ∨ (s4 ≤ j ∧ j < s5)) p.2.2 (.agg (thV p.2.1).toArray)) → w.heap.size ≤ s4 → s5 ≤ w7.heap.size → (∀ b, v4.ownBlock = some b → b < s4 ∨ s5 ≤ b) → A = 0 ∧ P (w9.setCell ⟨t.r, 0, none⟩ v4)) := hide (by rw [← hP]; exact unhide HYES)
  suffices hs : Calls Tryz.prog 29 #[.pointer (some ⟨t.r, 0, none⟩), .string k, .agg (thV (c0, c1, c2, c3, c4, c5, c6, c7, c8)).toArray] w fun e w' => e = .returned (.int .i64 A) ∧ P w' by
    rw [← hP] at hs
    exact hs
  clear h hr hL hlv hsome hplain hnone hn hI hiz nb bb hmax sb hks hu hv hk hright hpE hpX CK CC hfit HNO HYES hP hA HHV HHK HK HPC
  obtain ⟨r, hrr⟩ : ∃ r, t.r = r := ⟨_, rfl⟩
  rw [hrr] at CPH HCB HNT HFZ HYES' ⊢
  simp only [thV]
  cases iz with
  | true =>
    obtain ⟨rfl, hi3⟩ := hII.1 rfl
    have i3 : ((L + 1 : Nat) : Int) ≤ (n : Int) := by omega
    rcases hshape with rfl | ⟨b, rfl⟩
    · have := (hn0 rfl).1
      omega
    clear hII hn0
    by_cases hci : cap = L + 1
    · rw [if_pos hci] at hx2
      have hx3 := hx2
      obtain rfl : n = L + 1 := by omega
      subst hci
      have e00 : L + 1 - (L + 1) = 0 := Nat.sub_self _
      rw [hx3, e00] at HF2
      rw [e00] at HWT HFT HYES'
      clear e00
      clear hx2 hx3
      go_enter Tryz.func29, Tryz.ntmps29
      go_wp2_with fail
      refine (unhide CKH).mono ?_
      rintro e u1 ⟨rfl, hu1⟩
      obtain rfl := hu1.symm
      clear hu1 CKH
      go_wp2_with fail
      refine (unhide CCH).mono ?_
      rintro e u2 ⟨rfl, b2⟩
      have H2 : Hid (Below wb.heap.size wb u2 ∧ Below w.heap.size w u2) := hide ⟨b2, (unhide HB).trans (b2.mono (unhide HB).size)⟩
      clear b2 CCH d0 d1 d2 d3 d4
      go_wp2_with fail
      refine (unhide CPH u2 (unhide H2).2).mono ?_
      rintro e u3 ⟨rfl, q, hq3⟩
      have B3 : Below u2.heap.size u2 u3 := by rw [hq3]; exact ⟨rfl, rfl, rfl, Nat.le_refl _, fun _ _ => rfl⟩
      have B3w : Below w.heap.size w u3 := (unhide H2).2.trans (B3.mono (unhide H2).2.size)
      have c3' := unhide HCB u3 B3w
      obtain ⟨v2, w4, r2, o2, b2⟩ := unhide HF1 u3 B3w
      have B4w : Below w.heap.size w w4 := B3w.trans (b2.mono B3w.size)
      obtain ⟨d0, d1, d2, d3, d4⟩ := unhide HBX w4 ((unhide H2).1.trans ((B3.mono (unhide H2).1.size).trans (b2.mono (Nat.le_trans (unhide H2).1.size B3.size))))
      have H4 : Hid (w.heap.size ≤ u3.heap.size ∧ u3.heap.size ≤ w4.heap.size ∧ Below w.heap.size w w4 ∧ w4.ownsRow u3.heap.size 77 6 v2 L (cellsV ((mapK Prod.fst t.lx).take L))) := hide ⟨B3w.size, b2.size, B4w, o2⟩
      clear hq3 B3 B3w o2 b2 B4w H2 HF1
      go_wp2_with (have _t := tokA; at_builtin; refine Go.Lib.wpList_append_run _ rfl (.tmp 27) (.tmp 33) 38 38 rfl _ _ rfl rfl v2 w4 r2 ?_; clear tokA r2 c3')
      refine (unhide HCP w4 (unhide H4).2.2.1).mono ?_
      rintro e w5 ⟨e0, e1, e2, e3, e4, e5, e6, e7, e8, rfl, b5, q5⟩
      have B5w : Below w.heap.size w w5 := (unhide H4).2.2.1.trans (b5.mono (unhide H4).2.2.1.size)
      have o5 := row_to (unhide H4).2.2.2 (fun b hb => b5.block b ((unhide H4).2.2.2.lt b hb).2)
      obtain ⟨v3, w6, v4, w7, r3, r4, b6, b7, -, hbl, hkp, o7⟩ := unhide HF2 w5 B5w v2 u3.heap.size (unhide H4).1 (Nat.le_trans (unhide H4).2.1 b5.size) o5 k e0 e1 e2 e3 e4 e5 e6 e7 e8
      have B6w : Below w.heap.size w w6 := B5w.trans (b6.mono (unhide H4).1)
      have B7w : Below w.heap.size w w7 := B5w.trans (b7.mono (unhide H4).1)
      have c6' := unhide HCB w6 B6w
      have kp7 : ∀ j, j < w5.heap.size → w4.heap.size ≤ j → w7.heap[j]? = w5.heap[j]? := fun j hj1 hj2 => hkp j hj1 (fun e => by have := ((unhide H4).2.2.2.lt j e).2; omega)
      obtain ⟨hok, al, cl, hv4, CW⟩ := unhide HWT w4 w5 w7 u3.heap.size v4 (e0, e1, e2, e3, e4, e5, e6, e7, e8) (unhide H4).2.2.1 b5 (Below.refl _ _) B7w kp7 b7.size q5 o7
      have bl7 : ∀ b, v4.ownBlock = some b → b < w4.heap.size ∨ w5.heap.size ≤ b := fun b hb => by
        rcases hbl b hb with e | e
        · exact .inl ((unhide H4).2.2.2.lt b e).2
        · exact .inr e
      have H7 : Hid (Below w.heap.size w w7 ∧ w7.ownsRow u3.heap.size 77 6 v4 (L + 1 + (0)) (cellsV ((mapK Prod.fst t.lx).take L ++ [(k, (e0, e1, e2, e3, e4, e5, e6, e7, e8))] ++ (mapK Prod.fst t.lx).drop (L + 1))) ∧ (∀ p ∈ putK t.lx k ((e0, e1, e2, e3, e4, e5, e6, e7, e8), v), IsP w7 (fun j => V j ∨ (w4.heap.size ≤ j ∧ j < w5.heap.size)) p.2.2 (.agg (thV p.2.1).toArray)) ∧ w5.heap.size ≤ w7.heap.size ∧ (∀ b, v4.ownBlock = some b → b < w4.heap.size ∨ w5.heap.size ≤ b)) := hide ⟨B7w, o7, hok, b7.size, bl7⟩
      have CWH := hide CW
      obtain ⟨N4, hN4⟩ : ∃ N4, L + 1 + (0) = N4 := ⟨_, rfl⟩
      have HN4 := hide hN4
      rw [hN4] at CWH hv4 H7
      subst hv4
      clear hN4 CW hok kp7 B7w B6w o7 hbl hkp b6 b7 o5 B5w q5 b5 bl7 HCP HF2 HWT
      go_wp2_with (first | (have _t := tokB; at_builtin; refine Go.Lib.wpList_append_run _ rfl (.tmp 35) (.tmp 40) 38 38 rfl _ _ rfl rfl v3 w6 r3 ?_; clear tokB r3) | (have _t := tokC; at_builtin; refine Go.Lib.wpList_append_run _ rfl (.tmp 45) (.tmp 51) 38 38 rfl _ _ rfl rfl (.slice al N4 cl) w7 r4 ?_; clear tokC r4 c6'))
      refine (unhide CWH).mono ?_
      rintro e w8 ⟨W, rfl, hW, b8⟩
      have H8 : Hid (Below w7.heap.size w7 w8 ∧ Below w.heap.size w w8) := hide ⟨b8, (unhide H7).1.trans (b8.mono (unhide H7).1.size)⟩
      have hft := unhide HFT W hW
      rw [unhide HN4] at hft
      have HFIT := hide hft
      have hWb := hW.2.2
      clear hW b8 CWH hft
      by_cases t1 : N4 ≤ 128
      · by_cases t2 : W ≤ 32768
        · have ft : fitX t.X k v = true := by rw [unhide HFIT, decide_eq_true t1, decide_eq_true t2]; rfl
          have HFTT := hide ft
          clear ft
          go_wp2_with fail
          refine (unhide HNT w8 (unhide H8).2).mono ?_
          rintro e w9 ⟨⟨rv, rfl⟩, t1, h9, adv, heq, hU, hul⟩
          obtain ⟨c9, f9⟩ := unhide HFZ w9 t1 h9 heq.1 heq.2.1
          have HY := unhide HYES' (unhide HFTT) w4.heap.size w5.heap.size u3.heap.size w7 w8 w9 (.slice al N4 cl) t1 (e0, e1, e2, e3, e4, e5, e6, e7, e8) (unhide H7).1 (unhide H8).1 h9 adv heq hU hul (by rw [unhide HN4]; exact (unhide H7).2.1) (unhide H4).1 (unhide H7).2.2.1 (unhide H4).2.2.1.size (unhide H7).2.2.2.1 (unhide H7).2.2.2.2
          have HYH := hide HY
          clear HY h9 adv heq hU hul HNT HYES' HNO' HFZ H7 H8 H4
          go_wp2_with fail
          go_ret
          exact ⟨by rw [(unhide HYH).1]; rfl, (unhide HYH).2⟩
        · have ft : fitX t.X k v = false := by rw [unhide HFIT, decide_eq_false t2, Bool.and_false]
          have HQ := hide (unhide HNO' ft w8 (unhide H8).2)
          clear ft HNT HYES' HNO' HFZ H7 H8 H4
          go_wp2_with fail
          go_ret
          exact ⟨by rw [(unhide HQ).1]; rfl, (unhide HQ).2⟩
      · have ft : fitX t.X k v = false := by rw [unhide HFIT, decide_eq_false t1, Bool.false_and]
        have HQ := hide (unhide HNO' ft w8 (unhide H8).2)
        clear ft HNT HYES' HNO' HFZ H7 H8 H4
        by_cases t2 : W ≤ 32768
        · go_wp2_with fail
          go_ret
          exact ⟨by rw [(unhide HQ).1]; rfl, (unhide HQ).2⟩
        · go_wp2_with fail
          go_ret
          exact ⟨by rw [(unhide HQ).1]; rfl, (unhide HQ).2⟩
    · rw [if_neg hci] at hx2
      have hx3 : x2 = some ⟨b, (L + 1) * 6, none⟩ := by
        rw [hx2]
        show some ((⟨b, 0, none⟩ : Addr).add ((L + 1) * 6)) = _
        rw [add_offR, Nat.zero_add]
      rw [hx3] at HF2
      clear hx2 hx3
      go_enter Tryz.func29, Tryz.ntmps29
      go_wp2_with fail
      refine (unhide CKH).mono ?_
      rintro e u1 ⟨rfl, hu1⟩
      obtain rfl := hu1.symm
      clear hu1 CKH
      go_wp2_with fail
      refine (unhide CCH).mono ?_
      rintro e u2 ⟨rfl, b2⟩
      have H2 : Hid (Below wb.heap.size wb u2 ∧ Below w.heap.size w u2) := hide ⟨b2, (unhide HB).trans (b2.mono (unhide HB).size)⟩
      clear b2 CCH d0 d1 d2 d3 d4
      go_wp2_with fail
      refine (unhide CPH u2 (unhide H2).2).mono ?_
      rintro e u3 ⟨rfl, q, hq3⟩
      have B3 : Below u2.heap.size u2 u3 := by rw [hq3]; exact ⟨rfl, rfl, rfl, Nat.le_refl _, fun _ _ => rfl⟩
      have B3w : Below w.heap.size w u3 := (unhide H2).2.trans (B3.mono (unhide H2).2.size)
      have c3' := unhide HCB u3 B3w
      obtain ⟨v2, w4, r2, o2, b2⟩ := unhide HF1 u3 B3w
      have B4w : Below w.heap.size w w4 := B3w.trans (b2.mono B3w.size)
      obtain ⟨d0, d1, d2, d3, d4⟩ := unhide HBX w4 ((unhide H2).1.trans ((B3.mono (unhide H2).1.size).trans (b2.mono (Nat.le_trans (unhide H2).1.size B3.size))))
      have H4 : Hid (w.heap.size ≤ u3.heap.size ∧ u3.heap.size ≤ w4.heap.size ∧ Below w.heap.size w w4 ∧ w4.ownsRow u3.heap.size 77 6 v2 L (cellsV ((mapK Prod.fst t.lx).take L))) := hide ⟨B3w.size, b2.size, B4w, o2⟩
      clear hq3 B3 B3w o2 b2 B4w H2 HF1
      go_wp2_with (have _t := tokA; at_builtin; refine Go.Lib.wpList_append_run _ rfl (.tmp 27) (.tmp 33) 38 38 rfl _ _ rfl rfl v2 w4 r2 ?_; clear tokA r2 c3')
      refine (unhide HCP w4 (unhide H4).2.2.1).mono ?_
      rintro e w5 ⟨e0, e1, e2, e3, e4, e5, e6, e7, e8, rfl, b5, q5⟩
      have B5w : Below w.heap.size w w5 := (unhide H4).2.2.1.trans (b5.mono (unhide H4).2.2.1.size)
      have o5 := row_to (unhide H4).2.2.2 (fun b hb => b5.block b ((unhide H4).2.2.2.lt b hb).2)
      obtain ⟨v3, w6, v4, w7, r3, r4, b6, b7, -, hbl, hkp, o7⟩ := unhide HF2 w5 B5w v2 u3.heap.size (unhide H4).1 (Nat.le_trans (unhide H4).2.1 b5.size) o5 k e0 e1 e2 e3 e4 e5 e6 e7 e8
      have B6w : Below w.heap.size w w6 := B5w.trans (b6.mono (unhide H4).1)
      have B7w : Below w.heap.size w w7 := B5w.trans (b7.mono (unhide H4).1)
      have c6' := unhide HCB w6 B6w
      have kp7 : ∀ j, j < w5.heap.size → w4.heap.size ≤ j → w7.heap[j]? = w5.heap[j]? := fun j hj1 hj2 => hkp j hj1 (fun e => by have := ((unhide H4).2.2.2.lt j e).2; omega)
      obtain ⟨hok, al, cl, hv4, CW⟩ := unhide HWT w4 w5 w7 u3.heap.size v4 (e0, e1, e2, e3, e4, e5, e6, e7, e8) (unhide H4).2.2.1 b5 (Below.refl _ _) B7w kp7 b7.size q5 o7
      have bl7 : ∀ b, v4.ownBlock = some b → b < w4.heap.size ∨ w5.heap.size ≤ b := fun b hb => by
        rcases hbl b hb with e | e
        · exact .inl ((unhide H4).2.2.2.lt b e).2
        · exact .inr e
      have H7 : Hid (Below w.heap.size w w7 ∧ w7.ownsRow u3.heap.size 77 6 v4 (L + 1 + (n - (L + 1))) (cellsV ((mapK Prod.fst t.lx).take L ++ [(k, (e0, e1, e2, e3, e4, e5, e6, e7, e8))] ++ (mapK Prod.fst t.lx).drop (L + 1))) ∧ (∀ p ∈ putK t.lx k ((e0, e1, e2, e3, e4, e5, e6, e7, e8), v), IsP w7 (fun j => V j ∨ (w4.heap.size ≤ j ∧ j < w5.heap.size)) p.2.2 (.agg (thV p.2.1).toArray)) ∧ w5.heap.size ≤ w7.heap.size ∧ (∀ b, v4.ownBlock = some b → b < w4.heap.size ∨ w5.heap.size ≤ b)) := hide ⟨B7w, o7, hok, b7.size, bl7⟩
      have CWH := hide CW
      obtain ⟨N4, hN4⟩ : ∃ N4, L + 1 + (n - (L + 1)) = N4 := ⟨_, rfl⟩
      have HN4 := hide hN4
      rw [hN4] at CWH hv4 H7
      subst hv4
      clear hN4 CW hok kp7 B7w B6w o7 hbl hkp b6 b7 o5 B5w q5 b5 bl7 HCP HF2 HWT
      go_wp2_with (first | (have _t := tokB; at_builtin; refine Go.Lib.wpList_append_run _ rfl (.tmp 35) (.tmp 40) 38 38 rfl _ _ rfl rfl v3 w6 r3 ?_; clear tokB r3) | (have _t := tokC; at_builtin; refine Go.Lib.wpList_append_run _ rfl (.tmp 45) (.tmp 51) 38 38 rfl _ _ rfl rfl (.slice al N4 cl) w7 r4 ?_; clear tokC r4 c6'))
      refine (unhide CWH).mono ?_
      rintro e w8 ⟨W, rfl, hW, b8⟩
      have H8 : Hid (Below w7.heap.size w7 w8 ∧ Below w.heap.size w w8) := hide ⟨b8, (unhide H7).1.trans (b8.mono (unhide H7).1.size)⟩
      have hft := unhide HFT W hW
      rw [unhide HN4] at hft
      have HFIT := hide hft
      have hWb := hW.2.2
      clear hW b8 CWH hft
      by_cases t1 : N4 ≤ 128
      · by_cases t2 : W ≤ 32768
        · have ft : fitX t.X k v = true := by rw [unhide HFIT, decide_eq_true t1, decide_eq_true t2]; rfl
          have HFTT := hide ft
          clear ft
          go_wp2_with fail
          refine (unhide HNT w8 (unhide H8).2).mono ?_
          rintro e w9 ⟨⟨rv, rfl⟩, t1, h9, adv, heq, hU, hul⟩
          obtain ⟨c9, f9⟩ := unhide HFZ w9 t1 h9 heq.1 heq.2.1
          have HY := unhide HYES' (unhide HFTT) w4.heap.size w5.heap.size u3.heap.size w7 w8 w9 (.slice al N4 cl) t1 (e0, e1, e2, e3, e4, e5, e6, e7, e8) (unhide H7).1 (unhide H8).1 h9 adv heq hU hul (by rw [unhide HN4]; exact (unhide H7).2.1) (unhide H4).1 (unhide H7).2.2.1 (unhide H4).2.2.1.size (unhide H7).2.2.2.1 (unhide H7).2.2.2.2
          have HYH := hide HY
          clear HY h9 adv heq hU hul HNT HYES' HNO' HFZ H7 H8 H4
          go_wp2_with fail
          go_ret
          exact ⟨by rw [(unhide HYH).1]; rfl, (unhide HYH).2⟩
        · have ft : fitX t.X k v = false := by rw [unhide HFIT, decide_eq_false t2, Bool.and_false]
          have HQ := hide (unhide HNO' ft w8 (unhide H8).2)
          clear ft HNT HYES' HNO' HFZ H7 H8 H4
          go_wp2_with fail
          go_ret
          exact ⟨by rw [(unhide HQ).1]; rfl, (unhide HQ).2⟩
      · have ft : fitX t.X k v = false := by rw [unhide HFIT, decide_eq_false t1, Bool.false_and]
        have HQ := hide (unhide HNO' ft w8 (unhide H8).2)
        clear ft HNT HYES' HNO' HFZ H7 H8 H4
        by_cases t2 : W ≤ 32768
        · go_wp2_with fail
          go_ret
          exact ⟨by rw [(unhide HQ).1]; rfl, (unhide HQ).2⟩
        · go_wp2_with fail
          go_ret
          exact ⟨by rw [(unhide HQ).1]; rfl, (unhide HQ).2⟩
  | false =>
    obtain rfl := hII.2 rfl
    rcases hshape with rfl | ⟨b, rfl⟩
    · obtain ⟨e1, e2⟩ := hn0 rfl
      clear hII hn0
      obtain rfl : n = I := by omega
      obtain rfl : cap = n := by omega
      rw [if_pos rfl] at hx2
      have hx3 := hx2
      have e00 : cap - cap = 0 := Nat.sub_self _
      clear e1 e2
      rw [hx3, e00] at HF2
      rw [e00] at HWT HFT HYES'
      clear e00
      clear hx2 hx3
      go_enter Tryz.func29, Tryz.ntmps29
      go_wp2_with fail
      refine (unhide CKH).mono ?_
      rintro e u1 ⟨rfl, hu1⟩
      obtain rfl := hu1.symm
      clear hu1 CKH
      go_wp2_with fail
      refine (unhide CCH).mono ?_
      rintro e u2 ⟨rfl, b2⟩
      have H2 : Hid (Below wb.heap.size wb u2 ∧ Below w.heap.size w u2) := hide ⟨b2, (unhide HB).trans (b2.mono (unhide HB).size)⟩
      clear b2 CCH d0 d1 d2 d3 d4
      go_wp2_with fail
      refine (unhide CPH u2 (unhide H2).2).mono ?_
      rintro e u3 ⟨rfl, q, hq3⟩
      have B3 : Below u2.heap.size u2 u3 := by rw [hq3]; exact ⟨rfl, rfl, rfl, Nat.le_refl _, fun _ _ => rfl⟩
      have B3w : Below w.heap.size w u3 := (unhide H2).2.trans (B3.mono (unhide H2).2.size)
      have c3' := unhide HCB u3 B3w
      obtain ⟨v2, w4, r2, o2, b2⟩ := unhide HF1 u3 B3w
      have B4w : Below w.heap.size w w4 := B3w.trans (b2.mono B3w.size)
      obtain ⟨d0, d1, d2, d3, d4⟩ := unhide HBX w4 ((unhide H2).1.trans ((B3.mono (unhide H2).1.size).trans (b2.mono (Nat.le_trans (unhide H2).1.size B3.size))))
      have H4 : Hid (w.heap.size ≤ u3.heap.size ∧ u3.heap.size ≤ w4.heap.size ∧ Below w.heap.size w w4 ∧ w4.ownsRow u3.heap.size 77 6 v2 cap (cellsV ((mapK Prod.fst t.lx).take cap))) := hide ⟨B3w.size, b2.size, B4w, o2⟩
      clear hq3 B3 B3w o2 b2 B4w H2 HF1
      go_wp2_with (have _t := tokA; at_builtin; refine Go.Lib.wpList_append_run _ rfl (.tmp 27) (.tmp 33) 38 38 rfl _ _ rfl rfl v2 w4 r2 ?_; clear tokA r2 c3')
      refine (unhide HCP w4 (unhide H4).2.2.1).mono ?_
      rintro e w5 ⟨e0, e1, e2, e3, e4, e5, e6, e7, e8, rfl, b5, q5⟩
      have B5w : Below w.heap.size w w5 := (unhide H4).2.2.1.trans (b5.mono (unhide H4).2.2.1.size)
      have o5 := row_to (unhide H4).2.2.2 (fun b hb => b5.block b ((unhide H4).2.2.2.lt b hb).2)
      obtain ⟨v3, w6, v4, w7, r3, r4, b6, b7, -, hbl, hkp, o7⟩ := unhide HF2 w5 B5w v2 u3.heap.size (unhide H4).1 (Nat.le_trans (unhide H4).2.1 b5.size) o5 k e0 e1 e2 e3 e4 e5 e6 e7 e8
      have B6w : Below w.heap.size w w6 := B5w.trans (b6.mono (unhide H4).1)
      have B7w : Below w.heap.size w w7 := B5w.trans (b7.mono (unhide H4).1)
      have c6' := unhide HCB w6 B6w
      have kp7 : ∀ j, j < w5.heap.size → w4.heap.size ≤ j → w7.heap[j]? = w5.heap[j]? := fun j hj1 hj2 => hkp j hj1 (fun e => by have := ((unhide H4).2.2.2.lt j e).2; omega)
      obtain ⟨hok, al, cl, hv4, CW⟩ := unhide HWT w4 w5 w7 u3.heap.size v4 (e0, e1, e2, e3, e4, e5, e6, e7, e8) (unhide H4).2.2.1 b5 (Below.refl _ _) B7w kp7 b7.size q5 o7
      have bl7 : ∀ b, v4.ownBlock = some b → b < w4.heap.size ∨ w5.heap.size ≤ b := fun b hb => by
        rcases hbl b hb with e | e
        · exact .inl ((unhide H4).2.2.2.lt b e).2
        · exact .inr e
      have H7 : Hid (Below w.heap.size w w7 ∧ w7.ownsRow u3.heap.size 77 6 v4 (cap + 1 + (0)) (cellsV ((mapK Prod.fst t.lx).take cap ++ [(k, (e0, e1, e2, e3, e4, e5, e6, e7, e8))] ++ (mapK Prod.fst t.lx).drop (cap))) ∧ (∀ p ∈ putK t.lx k ((e0, e1, e2, e3, e4, e5, e6, e7, e8), v), IsP w7 (fun j => V j ∨ (w4.heap.size ≤ j ∧ j < w5.heap.size)) p.2.2 (.agg (thV p.2.1).toArray)) ∧ w5.heap.size ≤ w7.heap.size ∧ (∀ b, v4.ownBlock = some b → b < w4.heap.size ∨ w5.heap.size ≤ b)) := hide ⟨B7w, o7, hok, b7.size, bl7⟩
      have CWH := hide CW
      obtain ⟨N4, hN4⟩ : ∃ N4, cap + 1 + (0) = N4 := ⟨_, rfl⟩
      have HN4 := hide hN4
      rw [hN4] at CWH hv4 H7
      subst hv4
      clear hN4 CW hok kp7 B7w B6w o7 hbl hkp b6 b7 o5 B5w q5 b5 bl7 HCP HF2 HWT
      go_wp2_with (first | (have _t := tokB; at_builtin; refine Go.Lib.wpList_append_run _ rfl (.tmp 35) (.tmp 40) 38 38 rfl _ _ rfl rfl v3 w6 r3 ?_; clear tokB r3) | (have _t := tokC; at_builtin; refine Go.Lib.wpList_append_run _ rfl (.tmp 45) (.tmp 51) 38 38 rfl _ _ rfl rfl (.slice al N4 cl) w7 r4 ?_; clear tokC r4 c6'))
      refine (unhide CWH).mono ?_
      rintro e w8 ⟨W, rfl, hW, b8⟩
      have H8 : Hid (Below w7.heap.size w7 w8 ∧ Below w.heap.size w w8) := hide ⟨b8, (unhide H7).1.trans (b8.mono (unhide H7).1.size)⟩
      have hft := unhide HFT W hW
      rw [unhide HN4] at hft
      have HFIT := hide hft
      have hWb := hW.2.2
      clear hW b8 CWH hft
      by_cases t1 : N4 ≤ 128
      · by_cases t2 : W ≤ 32768
        · have ft : fitX t.X k v = true := by rw [unhide HFIT, decide_eq_true t1, decide_eq_true t2]; rfl
          have HFTT := hide ft
          clear ft
          go_wp2_with fail
          refine (unhide HNT w8 (unhide H8).2).mono ?_
          rintro e w9 ⟨⟨rv, rfl⟩, t1, h9, adv, heq, hU, hul⟩
          obtain ⟨c9, f9⟩ := unhide HFZ w9 t1 h9 heq.1 heq.2.1
          have HY := unhide HYES' (unhide HFTT) w4.heap.size w5.heap.size u3.heap.size w7 w8 w9 (.slice al N4 cl) t1 (e0, e1, e2, e3, e4, e5, e6, e7, e8) (unhide H7).1 (unhide H8).1 h9 adv heq hU hul (by rw [unhide HN4]; exact (unhide H7).2.1) (unhide H4).1 (unhide H7).2.2.1 (unhide H4).2.2.1.size (unhide H7).2.2.2.1 (unhide H7).2.2.2.2
          have HYH := hide HY
          clear HY h9 adv heq hU hul HNT HYES' HNO' HFZ H7 H8 H4
          go_wp2_with fail
          go_ret
          exact ⟨by rw [(unhide HYH).1]; rfl, (unhide HYH).2⟩
        · have ft : fitX t.X k v = false := by rw [unhide HFIT, decide_eq_false t2, Bool.and_false]
          have HQ := hide (unhide HNO' ft w8 (unhide H8).2)
          clear ft HNT HYES' HNO' HFZ H7 H8 H4
          go_wp2_with fail
          go_ret
          exact ⟨by rw [(unhide HQ).1]; rfl, (unhide HQ).2⟩
      · have ft : fitX t.X k v = false := by rw [unhide HFIT, decide_eq_false t1, Bool.false_and]
        have HQ := hide (unhide HNO' ft w8 (unhide H8).2)
        clear ft HNT HYES' HNO' HFZ H7 H8 H4
        by_cases t2 : W ≤ 32768
        · go_wp2_with fail
          go_ret
          exact ⟨by rw [(unhide HQ).1]; rfl, (unhide HQ).2⟩
        · go_wp2_with fail
          go_ret
          exact ⟨by rw [(unhide HQ).1]; rfl, (unhide HQ).2⟩
    clear hII hn0
    by_cases hci : cap = I
    · rw [if_pos hci] at hx2
      have hx3 := hx2
      obtain rfl : n = I := by omega
      subst hci
      have e00 : cap - cap = 0 := Nat.sub_self _
      rw [hx3, e00] at HF2
      rw [e00] at HWT HFT HYES'
      clear e00
      clear hx2 hx3
      go_enter Tryz.func29, Tryz.ntmps29
      go_wp2_with fail
      refine (unhide CKH).mono ?_
      rintro e u1 ⟨rfl, hu1⟩
      obtain rfl := hu1.symm
      clear hu1 CKH
      go_wp2_with fail
      refine (unhide CCH).mono ?_
      rintro e u2 ⟨rfl, b2⟩
      have H2 : Hid (Below wb.heap.size wb u2 ∧ Below w.heap.size w u2) := hide ⟨b2, (unhide HB).trans (b2.mono (unhide HB).size)⟩
      clear b2 CCH d0 d1 d2 d3 d4
      go_wp2_with fail
      refine (unhide CPH u2 (unhide H2).2).mono ?_
      rintro e u3 ⟨rfl, q, hq3⟩
      have B3 : Below u2.heap.size u2 u3 := by rw [hq3]; exact ⟨rfl, rfl, rfl, Nat.le_refl _, fun _ _ => rfl⟩
      have B3w : Below w.heap.size w u3 := (unhide H2).2.trans (B3.mono (unhide H2).2.size)
      have c3' := unhide HCB u3 B3w
      obtain ⟨v2, w4, r2, o2, b2⟩ := unhide HF1 u3 B3w
      have B4w : Below w.heap.size w w4 := B3w.trans (b2.mono B3w.size)
      obtain ⟨d0, d1, d2, d3, d4⟩ := unhide HBX w4 ((unhide H2).1.trans ((B3.mono (unhide H2).1.size).trans (b2.mono (Nat.le_trans (unhide H2).1.size B3.size))))
      have H4 : Hid (w.heap.size ≤ u3.heap.size ∧ u3.heap.size ≤ w4.heap.size ∧ Below w.heap.size w w4 ∧ w4.ownsRow u3.heap.size 77 6 v2 cap (cellsV ((mapK Prod.fst t.lx).take cap))) := hide ⟨B3w.size, b2.size, B4w, o2⟩
      clear hq3 B3 B3w o2 b2 B4w H2 HF1
      go_wp2_with (have _t := tokA; at_builtin; refine Go.Lib.wpList_append_run _ rfl (.tmp 27) (.tmp 33) 38 38 rfl _ _ rfl rfl v2 w4 r2 ?_; clear tokA r2 c3')
      refine (unhide HCP w4 (unhide H4).2.2.1).mono ?_
      rintro e w5 ⟨e0, e1, e2, e3, e4, e5, e6, e7, e8, rfl, b5, q5⟩
      have B5w : Below w.heap.size w w5 := (unhide H4).2.2.1.trans (b5.mono (unhide H4).2.2.1.size)
      have o5 := row_to (unhide H4).2.2.2 (fun b hb => b5.block b ((unhide H4).2.2.2.lt b hb).2)
      obtain ⟨v3, w6, v4, w7, r3, r4, b6, b7, -, hbl, hkp, o7⟩ := unhide HF2 w5 B5w v2 u3.heap.size (unhide H4).1 (Nat.le_trans (unhide H4).2.1 b5.size) o5 k e0 e1 e2 e3 e4 e5 e6 e7 e8
      have B6w : Below w.heap.size w w6 := B5w.trans (b6.mono (unhide H4).1)
      have B7w : Below w.heap.size w w7 := B5w.trans (b7.mono (unhide H4).1)
      have c6' := unhide HCB w6 B6w
      have kp7 : ∀ j, j < w5.heap.size → w4.heap.size ≤ j → w7.heap[j]? = w5.heap[j]? := fun j hj1 hj2 => hkp j hj1 (fun e => by have := ((unhide H4).2.2.2.lt j e).2; omega)
      obtain ⟨hok, al, cl, hv4, CW⟩ := unhide HWT w4 w5 w7 u3.heap.size v4 (e0, e1, e2, e3, e4, e5, e6, e7, e8) (unhide H4).2.2.1 b5 (Below.refl _ _) B7w kp7 b7.size q5 o7
      have bl7 : ∀ b, v4.ownBlock = some b → b < w4.heap.size ∨ w5.heap.size ≤ b := fun b hb => by
        rcases hbl b hb with e | e
        · exact .inl ((unhide H4).2.2.2.lt b e).2
        · exact .inr e
      have H7 : Hid (Below w.heap.size w w7 ∧ w7.ownsRow u3.heap.size 77 6 v4 (cap + 1 + (0)) (cellsV ((mapK Prod.fst t.lx).take cap ++ [(k, (e0, e1, e2, e3, e4, e5, e6, e7, e8))] ++ (mapK Prod.fst t.lx).drop (cap))) ∧ (∀ p ∈ putK t.lx k ((e0, e1, e2, e3, e4, e5, e6, e7, e8), v), IsP w7 (fun j => V j ∨ (w4.heap.size ≤ j ∧ j < w5.heap.size)) p.2.2 (.agg (thV p.2.1).toArray)) ∧ w5.heap.size ≤ w7.heap.size ∧ (∀ b, v4.ownBlock = some b → b < w4.heap.size ∨ w5.heap.size ≤ b)) := hide ⟨B7w, o7, hok, b7.size, bl7⟩
      have CWH := hide CW
      obtain ⟨N4, hN4⟩ : ∃ N4, cap + 1 + (0) = N4 := ⟨_, rfl⟩
      have HN4 := hide hN4
      rw [hN4] at CWH hv4 H7
      subst hv4
      clear hN4 CW hok kp7 B7w B6w o7 hbl hkp b6 b7 o5 B5w q5 b5 bl7 HCP HF2 HWT
      go_wp2_with (first | (have _t := tokB; at_builtin; refine Go.Lib.wpList_append_run _ rfl (.tmp 35) (.tmp 40) 38 38 rfl _ _ rfl rfl v3 w6 r3 ?_; clear tokB r3) | (have _t := tokC; at_builtin; refine Go.Lib.wpList_append_run _ rfl (.tmp 45) (.tmp 51) 38 38 rfl _ _ rfl rfl (.slice al N4 cl) w7 r4 ?_; clear tokC r4 c6'))
      refine (unhide CWH).mono ?_
      rintro e w8 ⟨W, rfl, hW, b8⟩
      have H8 : Hid (Below w7.heap.size w7 w8 ∧ Below w.heap.size w w8) := hide ⟨b8, (unhide H7).1.trans (b8.mono (unhide H7).1.size)⟩
      have hft := unhide HFT W hW
      rw [unhide HN4] at hft
      have HFIT := hide hft
      have hWb := hW.2.2
      clear hW b8 CWH hft
      by_cases t1 : N4 ≤ 128
      · by_cases t2 : W ≤ 32768
        · have ft : fitX t.X k v = true := by rw [unhide HFIT, decide_eq_true t1, decide_eq_true t2]; rfl
          have HFTT := hide ft
          clear ft
          go_wp2_with fail
          refine (unhide HNT w8 (unhide H8).2).mono ?_
          rintro e w9 ⟨⟨rv, rfl⟩, t1, h9, adv, heq, hU, hul⟩
          obtain ⟨c9, f9⟩ := unhide HFZ w9 t1 h9 heq.1 heq.2.1
          have HY := unhide HYES' (unhide HFTT) w4.heap.size w5.heap.size u3.heap.size w7 w8 w9 (.slice al N4 cl) t1 (e0, e1, e2, e3, e4, e5, e6, e7, e8) (unhide H7).1 (unhide H8).1 h9 adv heq hU hul (by rw [unhide HN4]; exact (unhide H7).2.1) (unhide H4).1 (unhide H7).2.2.1 (unhide H4).2.2.1.size (unhide H7).2.2.2.1 (unhide H7).2.2.2.2
          have HYH := hide HY
          clear HY h9 adv heq hU hul HNT HYES' HNO' HFZ H7 H8 H4
          go_wp2_with fail
          go_ret
          exact ⟨by rw [(unhide HYH).1]; rfl, (unhide HYH).2⟩
        · have ft : fitX t.X k v = false := by rw [unhide HFIT, decide_eq_false t2, Bool.and_false]
          have HQ := hide (unhide HNO' ft w8 (unhide H8).2)
          clear ft HNT HYES' HNO' HFZ H7 H8 H4
          go_wp2_with fail
          go_ret
          exact ⟨by rw [(unhide HQ).1]; rfl, (unhide HQ).2⟩
      · have ft : fitX t.X k v = false := by rw [unhide HFIT, decide_eq_false t1, Bool.false_and]
        have HQ := hide (unhide HNO' ft w8 (unhide H8).2)
        clear ft HNT HYES' HNO' HFZ H7 H8 H4
        by_cases t2 : W ≤ 32768
        · go_wp2_with fail
          go_ret
          exact ⟨by rw [(unhide HQ).1]; rfl, (unhide HQ).2⟩
        · go_wp2_with fail
          go_ret
          exact ⟨by rw [(unhide HQ).1]; rfl, (unhide HQ).2⟩
    · rw [if_neg hci] at hx2
      have hx3 : x2 = some ⟨b, I * 6, none⟩ := by
        rw [hx2]
        show some ((⟨b, 0, none⟩ : Addr).add (I * 6)) = _
        rw [add_offR, Nat.zero_add]
      rw [hx3] at HF2
      clear hx2 hx3
      go_enter Tryz.func29, Tryz.ntmps29
      go_wp2_with fail
      refine (unhide CKH).mono ?_
      rintro e u1 ⟨rfl, hu1⟩
      obtain rfl := hu1.symm
      clear hu1 CKH
      go_wp2_with fail
      refine (unhide CCH).mono ?_
      rintro e u2 ⟨rfl, b2⟩
      have H2 : Hid (Below wb.heap.size wb u2 ∧ Below w.heap.size w u2) := hide ⟨b2, (unhide HB).trans (b2.mono (unhide HB).size)⟩
      clear b2 CCH d0 d1 d2 d3 d4
      go_wp2_with fail
      refine (unhide CPH u2 (unhide H2).2).mono ?_
      rintro e u3 ⟨rfl, q, hq3⟩
      have B3 : Below u2.heap.size u2 u3 := by rw [hq3]; exact ⟨rfl, rfl, rfl, Nat.le_refl _, fun _ _ => rfl⟩
      have B3w : Below w.heap.size w u3 := (unhide H2).2.trans (B3.mono (unhide H2).2.size)
      have c3' := unhide HCB u3 B3w
      obtain ⟨v2, w4, r2, o2, b2⟩ := unhide HF1 u3 B3w
      have B4w : Below w.heap.size w w4 := B3w.trans (b2.mono B3w.size)
      obtain ⟨d0, d1, d2, d3, d4⟩ := unhide HBX w4 ((unhide H2).1.trans ((B3.mono (unhide H2).1.size).trans (b2.mono (Nat.le_trans (unhide H2).1.size B3.size))))
      have H4 : Hid (w.heap.size ≤ u3.heap.size ∧ u3.heap.size ≤ w4.heap.size ∧ Below w.heap.size w w4 ∧ w4.ownsRow u3.heap.size 77 6 v2 I (cellsV ((mapK Prod.fst t.lx).take I))) := hide ⟨B3w.size, b2.size, B4w, o2⟩
      clear hq3 B3 B3w o2 b2 B4w H2 HF1
      go_wp2_with (have _t := tokA; at_builtin; refine Go.Lib.wpList_append_run _ rfl (.tmp 27) (.tmp 33) 38 38 rfl _ _ rfl rfl v2 w4 r2 ?_; clear tokA r2 c3')
      refine (unhide HCP w4 (unhide H4).2.2.1).mono ?_
      rintro e w5 ⟨e0, e1, e2, e3, e4, e5, e6, e7, e8, rfl, b5, q5⟩
      have B5w : Below w.heap.size w w5 := (unhide H4).2.2.1.trans (b5.mono (unhide H4).2.2.1.size)
      have o5 := row_to (unhide H4).2.2.2 (fun b hb => b5.block b ((unhide H4).2.2.2.lt b hb).2)
      obtain ⟨v3, w6, v4, w7, r3, r4, b6, b7, -, hbl, hkp, o7⟩ := unhide HF2 w5 B5w v2 u3.heap.size (unhide H4).1 (Nat.le_trans (unhide H4).2.1 b5.size) o5 k e0 e1 e2 e3 e4 e5 e6 e7 e8
      have B6w : Below w.heap.size w w6 := B5w.trans (b6.mono (unhide H4).1)
      have B7w : Below w.heap.size w w7 := B5w.trans (b7.mono (unhide H4).1)
      have c6' := unhide HCB w6 B6w
      have kp7 : ∀ j, j < w5.heap.size → w4.heap.size ≤ j → w7.heap[j]? = w5.heap[j]? := fun j hj1 hj2 => hkp j hj1 (fun e => by have := ((unhide H4).2.2.2.lt j e).2; omega)
      obtain ⟨hok, al, cl, hv4, CW⟩ := unhide HWT w4 w5 w7 u3.heap.size v4 (e0, e1, e2, e3, e4, e5, e6, e7, e8) (unhide H4).2.2.1 b5 (Below.refl _ _) B7w kp7 b7.size q5 o7
      have bl7 : ∀ b, v4.ownBlock = some b → b < w4.heap.size ∨ w5.heap.size ≤ b := fun b hb => by
        rcases hbl b hb with e | e
        · exact .inl ((unhide H4).2.2.2.lt b e).2
        · exact .inr e
      have H7 : Hid (Below w.heap.size w w7 ∧ w7.ownsRow u3.heap.size 77 6 v4 (I + 1 + (n - I)) (cellsV ((mapK Prod.fst t.lx).take I ++ [(k, (e0, e1, e2, e3, e4, e5, e6, e7, e8))] ++ (mapK Prod.fst t.lx).drop (I))) ∧ (∀ p ∈ putK t.lx k ((e0, e1, e2, e3, e4, e5, e6, e7, e8), v), IsP w7 (fun j => V j ∨ (w4.heap.size ≤ j ∧ j < w5.heap.size)) p.2.2 (.agg (thV p.2.1).toArray)) ∧ w5.heap.size ≤ w7.heap.size ∧ (∀ b, v4.ownBlock = some b → b < w4.heap.size ∨ w5.heap.size ≤ b)) := hide ⟨B7w, o7, hok, b7.size, bl7⟩
      have CWH := hide CW
      obtain ⟨N4, hN4⟩ : ∃ N4, I + 1 + (n - I) = N4 := ⟨_, rfl⟩
      have HN4 := hide hN4
      rw [hN4] at CWH hv4 H7
      subst hv4
      clear hN4 CW hok kp7 B7w B6w o7 hbl hkp b6 b7 o5 B5w q5 b5 bl7 HCP HF2 HWT
      go_wp2_with (first | (have _t := tokB; at_builtin; refine Go.Lib.wpList_append_run _ rfl (.tmp 35) (.tmp 40) 38 38 rfl _ _ rfl rfl v3 w6 r3 ?_; clear tokB r3) | (have _t := tokC; at_builtin; refine Go.Lib.wpList_append_run _ rfl (.tmp 45) (.tmp 51) 38 38 rfl _ _ rfl rfl (.slice al N4 cl) w7 r4 ?_; clear tokC r4 c6'))
      refine (unhide CWH).mono ?_
      rintro e w8 ⟨W, rfl, hW, b8⟩
      have H8 : Hid (Below w7.heap.size w7 w8 ∧ Below w.heap.size w w8) := hide ⟨b8, (unhide H7).1.trans (b8.mono (unhide H7).1.size)⟩
      have hft := unhide HFT W hW
      rw [unhide HN4] at hft
      have HFIT := hide hft
      have hWb := hW.2.2
      clear hW b8 CWH hft
      by_cases t1 : N4 ≤ 128
      · by_cases t2 : W ≤ 32768
        · have ft : fitX t.X k v = true := by rw [unhide HFIT, decide_eq_true t1, decide_eq_true t2]; rfl
          have HFTT := hide ft
          clear ft
          go_wp2_with fail
          refine (unhide HNT w8 (unhide H8).2).mono ?_
          rintro e w9 ⟨⟨rv, rfl⟩, t1, h9, adv, heq, hU, hul⟩
          obtain ⟨c9, f9⟩ := unhide HFZ w9 t1 h9 heq.1 heq.2.1
          have HY := unhide HYES' (unhide HFTT) w4.heap.size w5.heap.size u3.heap.size w7 w8 w9 (.slice al N4 cl) t1 (e0, e1, e2, e3, e4, e5, e6, e7, e8) (unhide H7).1 (unhide H8).1 h9 adv heq hU hul (by rw [unhide HN4]; exact (unhide H7).2.1) (unhide H4).1 (unhide H7).2.2.1 (unhide H4).2.2.1.size (unhide H7).2.2.2.1 (unhide H7).2.2.2.2
          have HYH := hide HY
          clear HY h9 adv heq hU hul HNT HYES' HNO' HFZ H7 H8 H4
          go_wp2_with fail
          go_ret
          exact ⟨by rw [(unhide HYH).1]; rfl, (unhide HYH).2⟩
        · have ft : fitX t.X k v = false := by rw [unhide HFIT, decide_eq_false t2, Bool.and_false]
          have HQ := hide (unhide HNO' ft w8 (unhide H8).2)
          clear ft HNT HYES' HNO' HFZ H7 H8 H4
          go_wp2_with fail
          go_ret
          exact ⟨by rw [(unhide HQ).1]; rfl, (unhide HQ).2⟩
      · have ft : fitX t.X k v = false := by rw [unhide HFIT, decide_eq_false t1, Bool.false_and]
        have HQ := hide (unhide HNO' ft w8 (unhide H8).2)
        clear ft HNT HYES' HNO' HFZ H7 H8 H4
        by_cases t2 : W ≤ 32768
        · go_wp2_with fail
          go_ret
          exact ⟨by rw [(unhide HQ).1]; rfl, (unhide HQ).2⟩
        · go_wp2_with fail
          go_ret
          exact ⟨by rw [(unhide HQ).1]; rfl, (unhide HQ).2⟩
end
end Go.Proofs.YtdaooapfokhfcaaGreat
