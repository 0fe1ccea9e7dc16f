/-
  The walk of ValueLaws where With answers; conditions: the form's own reach.
-/
import Derived.Test.YtcopkhmmpamboaaL50
namespace Go.Proofs.Ytcopkhmmpamboaa
open Go.RowKit
set_option linter.unusedVariables false
set_option linter.unusedSimpArgs false

/-- what ValueLaws keeps: its boxes, its values -/
structure Bs (w u : World) (g : Nat) (L : List (Nat × Array Value)) (VS : List (Vl × Value)) : Prop where
  below : Below g w u
  low : g ≤ u.heap.size
  box : ∀ p ∈ L, u.heap[p.1]? = some (.cells p.2 27 (0, 0))
  val : ∀ q ∈ VS, IsV u u.heap.size q.1 q.2

theorem Bs.later {w u u1 : World} {g : Nat} {L : List (Nat × Array Value)} {VS : List (Vl × Value)} (h : Bs w u g L VS) (hu : Below u.heap.size u u1) : Bs w u1 g L VS :=
  ⟨h.below.trans (hu.mono h.low), Nat.le_trans h.low hu.size, fun p hp => (hu.block p.1 (lt_of_row (h.box p hp))).trans (h.box p hp), fun q hq => IsP.to (fun b hb => hu.block b hb) (fun b hb => Nat.lt_of_lt_of_le hb hu.size) (h.val q hq)⟩
theorem Bs.push {w u : World} {g n : Nat} {cs : Array Value} {L : List (Nat × Array Value)} {VS : List (Vl × Value)} (h : Bs w u g L VS) (hb : u.heap[n]? = some (.cells cs 27 (0, 0))) : Bs w u g ((n, cs) :: L) VS :=
  ⟨h.below, h.low, fun p hp => by
    rcases List.mem_cons.1 hp with rfl | hp
    · exact hb
    · exact h.box p hp, h.val⟩
theorem Bs.value {w u : World} {g : Nat} {L : List (Nat × Array Value)} {VS : List (Vl × Value)} {v : Vl} {x : Value} (h : Bs w u g L VS) (hv : IsV u u.heap.size v x) : Bs w u g L ((v, x) :: VS) :=
  ⟨h.below, h.low, h.box, fun q hq => by
    rcases List.mem_cons.1 hq with rfl | hq
    · exact hv
    · exact h.val q hq⟩
/-- a new box -/
theorem Bs.make {w u : World} {g : Nat} {L : List (Nat × Array Value)} {VS : List (Vl × Value)} (h : Bs w u g L VS) (cs : Array Value) : Bs w (u.alloc (.cells cs 27)) g ((u.heap.size, cs) :: L) VS :=
  (h.later ((Below.refl _ _).alloc (Nat.le_refl _) _)).push (heap_alloc_new u _)

theorem getElem_mem' {α : Type} {l : List α} {i : Nat} {x : α} (h : l[i]? = some x) : x ∈ l := List.mem_of_getElem? h

set_option maxRecDepth 100000 in
set_option maxHeartbeats 4000000 in
theorem laws_yes (v x : Vl) (vv xx : Value) (B : Nat) (key other : ByteArray) (w : World) (hv : IsV w B v vv) (hx : IsV w B x xx) (hBs : B ≤ w.heap.size) (hne : withE v key x = 0) :
    Calls Try.prog 5 #[vv, .string key, xx, .string other] w fun e w' => e = .returned (.bool true) ∧ Below w.heap.size w w' := by
  obtain ⟨W, hW⟩ : ∃ W, withV v.l v.ks key x = W := ⟨_, rfl⟩
  obtain ⟨k, n, s, l, ks, al, ak, cl, ck, rfl, rfl⟩ := hv.shape
  obtain ⟨xk, xn, xs, xl, xks, xal, xak, xcl, xck, hv2, rfl⟩ := hx.shape
  clear hv2
  obtain ⟨m, hm⟩ : ∃ m, ks.length = m := ⟨_, rfl⟩
  obtain ⟨ln, hln⟩ : ∃ ln, l.length = ln := ⟨_, rfl⟩
  obtain ⟨xm, hxm⟩ : ∃ xm, xks.length = xm := ⟨_, rfl⟩
  obtain ⟨xln, hxln⟩ : ∃ xln, xl.length = xln := ⟨_, rfl⟩
  rw [hm, hln] at hv
  rw [hxm, hxln] at hx
  rw [hm, hln, hxm, hxln]
  obtain ⟨r, hr⟩ : ∃ r, Vl.mk k n s l ks = r := ⟨_, rfl⟩
  have hWr : withV r.l r.ks key x = W := by rw [← hr]; exact hW
  rw [hr] at hv hne
  have hE0 : withC r key x = 0 := by
    unfold withE at hne
    split at hne
    · next h => exact h
    · exact hne
  have hRW : rightB W = true := by
    unfold withE at hne
    rw [if_pos hE0, hWr] at hne
    cases hR : rightB W with
    | true => rfl
    | false => rw [hR] at hne; simp at hne
  obtain ⟨hR1, hR2, hR3, hR4⟩ := withC_zero hE0
  have HF := hide (And.intro hR1 (And.intro hRW (And.intro hR3 hWr)))
  obtain ⟨g, hg⟩ : ∃ g, w.heap.size = g := ⟨_, rfl⟩
  have TW := Two.mk' w 27 #[.int .i64 k, .int .i64 n, .string s, .slice al ln cl, .slice ak m ck] #[.int .i64 xk, .int .i64 xn, .string xs, .slice xal xln xcl, .slice xak xm xck]
  obtain ⟨w2, hw2⟩ : ∃ w2, (w.alloc (.cells #[.int .i64 k, .int .i64 n, .string s, .slice al ln cl, .slice ak m ck] 27)).alloc (.cells #[.int .i64 xk, .int .i64 xn, .string xs, .slice xal xln xcl, .slice xak xm xck] 27) = w2 := ⟨_, rfl⟩
  rw [hw2, hg] at TW
  have hz : Bs w w2 g [(g, #[.int .i64 k, .int .i64 n, .string s, .slice al ln cl, .slice ak m ck]), (g + 1, #[.int .i64 xk, .int .i64 xn, .string xs, .slice xal xln xcl, .slice xak xm xck])] [(r, .agg #[.int .i64 k, .int .i64 n, .string s, .slice al ln cl, .slice ak m ck]), (x, .agg #[.int .i64 xk, .int .i64 xn, .string xs, .slice xal xln xcl, .slice xak xm xck])] := by
    have h1 := TW.later (Below.refl _ _)
    have h2 := TW.size
    have h3 := TW.below
    rw [hg] at h3
    refine ⟨h3, by omega, fun p hp => ?_, fun q hq => ?_⟩
    · simp only [List.mem_cons, List.not_mem_nil, or_false] at hp
      rcases hp with rfl | rfl
      · exact h1.1
      · exact h1.2
    · simp only [List.mem_cons, List.not_mem_nil, or_false] at hq
      rcases hq with rfl | rfl
      · exact IsP.to (fun b hb => h3.block b (by omega)) (fun b hb => by omega) hv
      · exact IsP.to (fun b hb => h3.block b (by omega)) (fun b hb => by omega) hx
  have HZ := hide hz
  have HE := hide hne
  have HG := hide hg
  clear hz hv hx hm hln hxm hxln TW hne hE0 hRW hR1 hR2 hR3 hR4 hWr hW hr
  go_enter Try.func5, Try.ntmps5
  go_wp2_with fail
  refine (shown_any w2).mono ?_
  rintro e u3 ⟨rfl, b3⟩
  have HZ3 := hide ((unhide HZ).later b3)
  clear b3 hw2 HZ
  obtain ⟨c0, c1, c2, c3, c4⟩ := row_cell ((unhide HZ3).box _ (getElem_mem' (i := 0) rfl))
  obtain ⟨d0, d1, d2, d3, d4⟩ := row_cell ((unhide HZ3).box _ (getElem_mem' (i := 1) rfl))
  have CW := hide (with_any r x _ _ u3.heap.size key u3 ((unhide HZ3).val _ (getElem_mem' (i := 0) rfl)) ((unhide HZ3).val _ (getElem_mem' (i := 1) rfl)) (Nat.le_refl _))
  rw [unhide HE, (unhide HF).2.2.2] at CW
  go_wp2_with fail
  refine (unhide CW).mono ?_
  rintro e u4 ⟨x', rfl, b4, q1, q2⟩
  have hQW := q1 trivial
  clear q1 q2
  obtain ⟨wk, wn, ws, wl, wks, wal, wak, wcl, wck, hWe, rfl⟩ := hQW.shape
  obtain ⟨wm, hwm⟩ : ∃ wm, wks.length = wm := ⟨_, rfl⟩
  obtain ⟨wln, hwln⟩ : ∃ wln, wl.length = wln := ⟨_, rfl⟩
  rw [hwm, hwln] at hQW ⊢
  have HL := hide (And.intro hWe (And.intro hwm hwln))
  have hZ4 := ((unhide HZ3).later b4).value (hQW.isV (fun b hb => hb.2))
  clear hQW b4 HZ3 CW c0 c1 c2 c3 c4 d0 d1 d2 d3 d4 hWe hwm hwln
  obtain ⟨gw, hgw⟩ : ∃ gw, u4.heap.size = gw := ⟨_, rfl⟩
  have hZ4' := hZ4.make #[.int .i64 wk, .int .i64 wn, .string ws, .slice wal wln wcl, .slice wak wm wck]
  rw [hgw] at hZ4'
  have HZ4 := hide hZ4'
  clear hZ4 hZ4'
  go_upto_region 5 with fail
  try rw [hgw]
  obtain ⟨u5, hu5⟩ : ∃ u5, u4.alloc (.cells #[.int .i64 wk, .int .i64 wn, .string ws, .slice wal wln wcl, .slice wak wm wck] 27) = u5 := ⟨_, rfl⟩
  rw [hu5] at HZ4 ⊢
  clear hu5 hgw
  -- Get of With
  obtain ⟨c0, c1, c2, c3, c4⟩ := row_cell ((unhide HZ4).box _ (getElem_mem' (i := 0) rfl))
  have CG := hide (get_any W _ u5.heap.size key u5 ((unhide HZ4).val _ (getElem_mem' (i := 0) rfl)) (Nat.le_refl _))
  have hG1 : getR W key = some x := by
    obtain ⟨h1, h2, h3, h4⟩ := unhide HF
    rw [← h4]
    obtain ⟨rk, rn, rs, rl, rks⟩ := r
    have h3' : rk = 5 := h3
    subst h3'
    exact get_with rl rks key x (right_keys h1).2 (by rw [h4]; exact h2)
  rw [hG1] at CG
  clear hG1
  dsimp only [Option.isSome, Option.getD] at CG
  go_wp2_with fail
  refine (unhide CG).mono ?_
  rintro e u6 ⟨x6, rfl, b6, q6⟩
  obtain ⟨k6, n6, s6, l6, ks6, al6, ak6, cl6, ck6, hx6, rfl⟩ := q6.shape
  obtain ⟨m6, hm6⟩ : ∃ m, ks6.length = m := ⟨_, rfl⟩
  obtain ⟨ln6, hln6⟩ : ∃ m, l6.length = m := ⟨_, rfl⟩
  rw [hm6, hln6] at q6 ⊢
  have hZ6 := ((unhide HZ4).later b6).value q6
  obtain ⟨g6, hg6⟩ : ∃ m, u6.heap.size = m := ⟨_, rfl⟩
  have hZ6' := hZ6.make #[.int .i64 k6, .int .i64 n6, .string s6, .slice al6 ln6 cl6, .slice ak6 m6 ck6]
  rw [hg6] at hZ6'
  have HZ6 := hide hZ6'
  clear hZ6 hZ6' q6 b6 CG c0 c1 c2 c3 c4 hx6 hm6 hln6 HZ4
  go_upto_region 6 with fail
  try rw [hg6]
  obtain ⟨v6, hv6⟩ : ∃ v, u6.alloc (.cells #[.int .i64 k6, .int .i64 n6, .string s6, .slice al6 ln6 cl6, .slice ak6 m6 ck6] 27) = v := ⟨_, rfl⟩
  rw [hv6] at HZ6 ⊢
  clear hv6 hg6
  obtain ⟨c0, c1, c2, c3, c4⟩ := row_cell ((unhide HZ6).box _ (getElem_mem' (i := 2) rfl))
  have CG := hide (get_any r _ v6.heap.size other v6 ((unhide HZ6).val _ (getElem_mem' (i := 2) rfl)) (Nat.le_refl _))
  obtain ⟨oS, hoS⟩ : ∃ oS, (getR r other).isSome = oS := ⟨_, rfl⟩
  obtain ⟨oD, hoD⟩ : ∃ oD, (getR r other).getD (.mk 0 0 ⟨#[]⟩ [] []) = oD := ⟨_, rfl⟩
  rw [hoS, hoD] at CG
  have HO := hide (And.intro hoS hoD)
  clear hoS hoD
  go_wp2_with fail
  refine (unhide CG).mono ?_
  rintro e u7 ⟨x7, rfl, b7, q7⟩
  obtain ⟨k7, n7, s7, l7, ks7, al7, ak7, cl7, ck7, hx7, rfl⟩ := q7.shape
  obtain ⟨m7, hm7⟩ : ∃ m, ks7.length = m := ⟨_, rfl⟩
  obtain ⟨ln7, hln7⟩ : ∃ m, l7.length = m := ⟨_, rfl⟩
  rw [hm7, hln7] at q7 ⊢
  have hZ7 := ((unhide HZ6).later b7).value q7
  obtain ⟨g7, hg7⟩ : ∃ m, u7.heap.size = m := ⟨_, rfl⟩
  have hZ7' := hZ7.make #[.int .i64 k7, .int .i64 n7, .string s7, .slice al7 ln7 cl7, .slice ak7 m7 ck7]
  rw [hg7] at hZ7'
  have HZ7 := hide hZ7'
  clear hZ7 hZ7' q7 b7 CG c0 c1 c2 c3 c4 hx7 hm7 hln7 HZ6
  go_upto_region 7 with fail
  try rw [hg7]
  obtain ⟨v7, hv7⟩ : ∃ v, u7.alloc (.cells #[.int .i64 k7, .int .i64 n7, .string s7, .slice al7 ln7 cl7, .slice ak7 m7 ck7] 27) = v := ⟨_, rfl⟩
  rw [hv7] at HZ7 ⊢
  clear hv7 hg7
  obtain ⟨c0, c1, c2, c3, c4⟩ := row_cell ((unhide HZ7).box _ (getElem_mem' (i := 2) rfl))
  have CG := hide (get_any W _ v7.heap.size other v7 ((unhide HZ7).val _ (getElem_mem' (i := 2) rfl)) (Nat.le_refl _))
  obtain ⟨nS, hnS⟩ : ∃ oS, (getR W other).isSome = oS := ⟨_, rfl⟩
  obtain ⟨nD, hnD⟩ : ∃ oD, (getR W other).getD (.mk 0 0 ⟨#[]⟩ [] []) = oD := ⟨_, rfl⟩
  rw [hnS, hnD] at CG
  have HN := hide (And.intro hnS hnD)
  clear hnS hnD
  go_wp2_with fail
  refine (unhide CG).mono ?_
  rintro e u8 ⟨x8, rfl, b8, q8⟩
  obtain ⟨k8, n8, s8, l8, ks8, al8, ak8, cl8, ck8, hx8, rfl⟩ := q8.shape
  obtain ⟨m8, hm8⟩ : ∃ m, ks8.length = m := ⟨_, rfl⟩
  obtain ⟨ln8, hln8⟩ : ∃ m, l8.length = m := ⟨_, rfl⟩
  rw [hm8, hln8] at q8 ⊢
  have hZ8 := ((unhide HZ7).later b8).value q8
  obtain ⟨g8, hg8⟩ : ∃ m, u8.heap.size = m := ⟨_, rfl⟩
  have hZ8' := hZ8.make #[.int .i64 k8, .int .i64 n8, .string s8, .slice al8 ln8 cl8, .slice ak8 m8 ck8]
  rw [hg8] at hZ8'
  have HZ8 := hide hZ8'
  clear hZ8 hZ8' q8 b8 CG c0 c1 c2 c3 c4 hx8 hm8 hln8 HZ7
  go_upto_region 8 with fail
  try rw [hg8]
  obtain ⟨v8, hv8⟩ : ∃ v, u8.alloc (.cells #[.int .i64 k8, .int .i64 n8, .string s8, .slice al8 ln8 cl8, .slice ak8 m8 ck8] 27) = v := ⟨_, rfl⟩
  rw [hv8] at HZ8 ⊢
  clear hv8 hg8
  have HS := hide (show other ≠ key → nS = oS ∧ nD = oD from fun ho => by
    obtain ⟨h1, h2, h3, h4⟩ := unhide HF
    obtain ⟨e1, e2⟩ := unhide HO
    obtain ⟨e3, e4⟩ := unhide HN
    have hh : getR W other = getR r other := by
      rw [← h4]
      obtain ⟨rk, rn, rs, rl, rks⟩ := r
      have h3' : rk = 5 := h3
      subst h3'
      exact get_other rn rs rl rks key other x h1 (by rw [h4]; exact h2) ho
    rw [← e1, ← e2, ← e3, ← e4, hh]
    exact ⟨rfl, rfl⟩)
  go_cut [78] from 26 to 78 (fun y wx => y = .bool false ∧ Hid (Bs w wx g [(g8, #[.int .i64 k8, .int .i64 n8, .string s8, .slice al8 ln8 cl8, .slice ak8 m8 ck8]), (g7, #[.int .i64 k7, .int .i64 n7, .string s7, .slice al7 ln7 cl7, .slice ak7 m7 ck7]), (g6, #[.int .i64 k6, .int .i64 n6, .string s6, .slice al6 ln6 cl6, .slice ak6 m6 ck6]), (gw, #[.int .i64 wk, .int .i64 wn, .string ws, .slice wal wln wcl, .slice wak wm wck]), (g, #[.int .i64 k, .int .i64 n, .string s, .slice al ln cl, .slice ak m ck]), (g + 1, #[.int .i64 xk, .int .i64 xn, .string xs, .slice xal xln xcl, .slice xak xm xck])] [(nD, .agg #[.int .i64 k8, .int .i64 n8, .string s8, .slice al8 ln8 cl8, .slice ak8 m8 ck8]), (oD, .agg #[.int .i64 k7, .int .i64 n7, .string s7, .slice al7 ln7 cl7, .slice ak7 m7 ck7]), (x, .agg #[.int .i64 k6, .int .i64 n6, .string s6, .slice al6 ln6 cl6, .slice ak6 m6 ck6]), (W, .agg #[.int .i64 wk, .int .i64 wn, .string ws, .slice wal wln wcl, .slice wak wm wck]), (r, .agg #[.int .i64 k, .int .i64 n, .string s, .slice al ln cl, .slice ak m ck]), (x, .agg #[.int .i64 xk, .int .i64 xn, .string xs, .slice xal xln xcl, .slice xak xm xck])]))
  case first =>
    obtain ⟨c0, c1, c2, c3, c4⟩ := row_cell ((unhide HZ8).box _ (getElem_mem' (i := 2) rfl))
    obtain ⟨d0, d1, d2, d3, d4⟩ := row_cell ((unhide HZ8).box _ (getElem_mem' (i := 5) rfl))
    have CG := hide (same3_any (dep x) x x _ _ v8.heap.size v8 (Nat.le_refl _) ((unhide HZ8).val _ (getElem_mem' (i := 2) rfl)) ((unhide HZ8).val _ (getElem_mem' (i := 5) rfl)) (Nat.le_refl _))
    rw [(sameB_iff x x).2 rfl] at CG
    go_wp2_with fail
    refine (unhide CG).mono ?_
    rintro e y1 ⟨rfl, b⟩
    have HZ9 := hide ((unhide HZ8).later b)
    clear b CG c0 c1 c2 c3 c4 d0 d1 d2 d3 d4 HZ8
    cases hk : (other.toList == key.toList) with
    | true =>
      go_wp2_with fail
      go_meet
      exact ⟨rfl, HZ9⟩
    | false =>
      have hne : other ≠ key := fun e => by
        have h1 := (bytes_beq other key).2 e
        rw [hk] at h1
        cases h1
      obtain ⟨e1, e2⟩ := unhide HS hne
      subst e1
      subst e2
      have hs1 : (nS != nS) = false := by cases nS <;> rfl
      have hs2 : (!(other.toList == key.toList)) = true := by rw [hk]; rfl
      clear hne hk
      obtain ⟨c0, c1, c2, c3, c4⟩ := row_cell ((unhide HZ9).box _ (getElem_mem' (i := 1) rfl))
      obtain ⟨d0, d1, d2, d3, d4⟩ := row_cell ((unhide HZ9).box _ (getElem_mem' (i := 0) rfl))
      have CG := hide (same3_any (dep nD) nD nD _ _ y1.heap.size y1 (Nat.le_refl _) ((unhide HZ9).val _ (getElem_mem' (i := 1) rfl)) ((unhide HZ9).val _ (getElem_mem' (i := 0) rfl)) (Nat.le_refl _))
      rw [(sameB_iff nD nD).2 rfl] at CG
      go_wp2_with fail
      refine (unhide CG).mono ?_
      rintro e y2 ⟨rfl, b⟩
      have HZ10 := hide ((unhide HZ9).later b)
      clear b CG c0 c1 c2 c3 c4 d0 d1 d2 d3 d4 HZ9
      go_wp2_with fail
      go_meet
      exact ⟨rfl, HZ10⟩
  case rest =>
    obtain ⟨rfl, HZ9⟩ := hcut
    clear HZ8 HS HO HN
    go_upto_region 10 with fail
    obtain ⟨v9, hv9⟩ : ∃ v, wc = v := ⟨_, rfl⟩
    subst hv9
    obtain ⟨c0, c1, c2, c3, c4⟩ := row_cell ((unhide HZ9).box _ (getElem_mem' (i := 4) rfl))
    have CG := hide (get_any r _ wc.heap.size key wc ((unhide HZ9).val _ (getElem_mem' (i := 4) rfl)) (Nat.le_refl _))
    obtain ⟨hS, hhS⟩ : ∃ oS, (getR r key).isSome = oS := ⟨_, rfl⟩
    obtain ⟨hD, hhD⟩ : ∃ oD, (getR r key).getD (.mk 0 0 ⟨#[]⟩ [] []) = oD := ⟨_, rfl⟩
    rw [hhS, hhD] at CG
    have HH := hide hhS
    clear hhS hhD
    go_wp2_with fail
    refine (unhide CG).mono ?_
    rintro e u11 ⟨x11, rfl, b11, q11⟩
    obtain ⟨k11, n11, s11, l11, ks11, al11, ak11, cl11, ck11, hx11, rfl⟩ := q11.shape
    obtain ⟨m11, hm11⟩ : ∃ m, ks11.length = m := ⟨_, rfl⟩
    obtain ⟨ln11, hln11⟩ : ∃ m, l11.length = m := ⟨_, rfl⟩
    rw [hm11, hln11] at q11 ⊢
    have hZ11 := ((unhide HZ9).later b11).value q11
    obtain ⟨g11, hg11⟩ : ∃ m, u11.heap.size = m := ⟨_, rfl⟩
    have hZ11' := hZ11.make #[.int .i64 k11, .int .i64 n11, .string s11, .slice al11 ln11 cl11, .slice ak11 m11 ck11]
    rw [hg11] at hZ11'
    have HZ11 := hide hZ11'
    clear hZ11 hZ11' q11 b11 CG c0 c1 c2 c3 c4 hx11 hm11 hln11 HZ9
    go_upto_region 11 with fail
    try rw [hg11]
    obtain ⟨v11, hv11⟩ : ∃ v, u11.alloc (.cells #[.int .i64 k11, .int .i64 n11, .string s11, .slice al11 ln11 cl11, .slice ak11 m11 ck11] 27) = v := ⟨_, rfl⟩
    rw [hv11] at HZ11 ⊢
    clear hv11 hg11
    obtain ⟨c0, c1, c2, c3, c4⟩ := row_cell ((unhide HZ11).box _ (getElem_mem' (i := 4) rfl))
    have CG := hide (without_any W _ v11.heap.size key v11 ((unhide HZ11).val _ (getElem_mem' (i := 4) rfl)) (Nat.le_refl _))
    have hWO : ∃ I, withoutC W key = 0 ∧ placeK W.ks key = some I ∧ (hS = false → Vl.mk 5 W.n W.s (W.l.eraseIdx I) (W.ks.eraseIdx I) = r) := by
      obtain ⟨h1, h2, h3, h4⟩ := unhide HF
      rw [← unhide HH]
      exact back_of h1 h2 h3 h4
    obtain ⟨I, hW0, hWI, hWb⟩ := hWO
    rw [hW0] at CG
    go_wp2_with fail
    refine (unhide CG).mono ?_
    rintro e u12 ⟨x12, rfl, b12, q12', _⟩
    have q12 := (q12' I trivial hWI).isV (fun b hb => hb.2)
    obtain ⟨bk, hbk⟩ : ∃ bk, Vl.mk 5 W.n W.s (W.l.eraseIdx I) (W.ks.eraseIdx I) = bk := ⟨_, rfl⟩
    rw [hbk] at q12 hWb
    clear q12' hbk hW0 hWI
    have HWB := hide hWb
    clear hWb
    obtain ⟨k12, n12, s12, l12, ks12, al12, ak12, cl12, ck12, hx12, rfl⟩ := q12.shape
    obtain ⟨m12, hm12⟩ : ∃ m, ks12.length = m := ⟨_, rfl⟩
    obtain ⟨ln12, hln12⟩ : ∃ m, l12.length = m := ⟨_, rfl⟩
    rw [hm12, hln12] at q12 ⊢
    have hZ12 := ((unhide HZ11).later b12).value q12
    obtain ⟨g12, hg12⟩ : ∃ m, u12.heap.size = m := ⟨_, rfl⟩
    have hZ12' := hZ12.make #[.int .i64 k12, .int .i64 n12, .string s12, .slice al12 ln12 cl12, .slice ak12 m12 ck12]
    rw [hg12] at hZ12'
    have HZ12 := hide hZ12'
    clear hZ12 hZ12' q12 b12 CG c0 c1 c2 c3 c4 hx12 hm12 hln12 HZ11
    go_upto_region 12 with fail
    try rw [hg12]
    obtain ⟨v12, hv12⟩ : ∃ v, u12.alloc (.cells #[.int .i64 k12, .int .i64 n12, .string s12, .slice al12 ln12 cl12, .slice ak12 m12 ck12] 27) = v := ⟨_, rfl⟩
    rw [hv12] at HZ12 ⊢
    clear hv12 hg12
    go_cut [102] from 26 to 102 (fun y wx => y = .bool false ∧ Hid (Bs w wx g [(g12, #[.int .i64 k12, .int .i64 n12, .string s12, .slice al12 ln12 cl12, .slice ak12 m12 ck12]), (g11, #[.int .i64 k11, .int .i64 n11, .string s11, .slice al11 ln11 cl11, .slice ak11 m11 ck11]), (g8, #[.int .i64 k8, .int .i64 n8, .string s8, .slice al8 ln8 cl8, .slice ak8 m8 ck8]), (g7, #[.int .i64 k7, .int .i64 n7, .string s7, .slice al7 ln7 cl7, .slice ak7 m7 ck7]), (g6, #[.int .i64 k6, .int .i64 n6, .string s6, .slice al6 ln6 cl6, .slice ak6 m6 ck6]), (gw, #[.int .i64 wk, .int .i64 wn, .string ws, .slice wal wln wcl, .slice wak wm wck]), (g, #[.int .i64 k, .int .i64 n, .string s, .slice al ln cl, .slice ak m ck]), (g + 1, #[.int .i64 xk, .int .i64 xn, .string xs, .slice xal xln xcl, .slice xak xm xck])] [(bk, .agg #[.int .i64 k12, .int .i64 n12, .string s12, .slice al12 ln12 cl12, .slice ak12 m12 ck12]), (hD, .agg #[.int .i64 k11, .int .i64 n11, .string s11, .slice al11 ln11 cl11, .slice ak11 m11 ck11]), (nD, .agg #[.int .i64 k8, .int .i64 n8, .string s8, .slice al8 ln8 cl8, .slice ak8 m8 ck8]), (oD, .agg #[.int .i64 k7, .int .i64 n7, .string s7, .slice al7 ln7 cl7, .slice ak7 m7 ck7]), (x, .agg #[.int .i64 k6, .int .i64 n6, .string s6, .slice al6 ln6 cl6, .slice ak6 m6 ck6]), (W, .agg #[.int .i64 wk, .int .i64 wn, .string ws, .slice wal wln wcl, .slice wak wm wck]), (r, .agg #[.int .i64 k, .int .i64 n, .string s, .slice al ln cl, .slice ak m ck]), (x, .agg #[.int .i64 xk, .int .i64 xn, .string xs, .slice xal xln xcl, .slice xak xm xck])]))
    case first =>
      cases hS with
      | true =>
        go_wp2_with fail
        go_meet
        exact ⟨rfl, HZ12⟩
      | false =>
        obtain rfl := unhide HWB rfl
        obtain ⟨c0, c1, c2, c3, c4⟩ := row_cell ((unhide HZ12).box _ (getElem_mem' (i := 0) rfl))
        obtain ⟨d0, d1, d2, d3, d4⟩ := row_cell ((unhide HZ12).box _ (getElem_mem' (i := 6) rfl))
        have CG := hide (same3_any (dep bk) bk bk _ _ v12.heap.size v12 (Nat.le_refl _) ((unhide HZ12).val _ (getElem_mem' (i := 0) rfl)) ((unhide HZ12).val _ (getElem_mem' (i := 6) rfl)) (Nat.le_refl _))
        rw [(sameB_iff bk bk).2 rfl] at CG
        go_wp2_with fail
        refine (unhide CG).mono ?_
        rintro e y2 ⟨rfl, b⟩
        have HZ13 := hide ((unhide HZ12).later b)
        clear b CG c0 c1 c2 c3 c4 d0 d1 d2 d3 d4 HZ12
        go_wp2_with fail
        go_meet
        exact ⟨rfl, HZ13⟩
    case rest =>
      obtain ⟨rfl, HZ13⟩ := hcut
      clear HZ12 HWB
      have hWf : wk = 5 ∧ wln = wm ∧ W.kind = 5 := by
        obtain ⟨h1, h2, h3, h4⟩ := unhide HF
        obtain ⟨e1, e2, e3⟩ := unhide HL
        have a3 : W.kind = 5 := by rw [← h4]; unfold withV; split <;> rfl
        have a4 := a3
        rw [e1] at a3 h2
        have a3' : wk = 5 := a3
        subst a3'
        have := (right_keys h2).2
        exact ⟨rfl, by omega, a4⟩
      obtain ⟨rfl, rfl, hWk⟩ := hWf
      have hf := entries_of (u := wc) (n := wn) (s := ws) (l := wl) (ks := wks) (al := wal) (ak := wak) (cl := wcl) (ck := wck) (m := wln) (by rw [← (unhide HL).1]; exact ((unhide HZ13).val _ (getElem_mem' (i := 5) rfl))) (unhide HL).2.1 (unhide HL).2.2
      obtain ⟨f, hf⟩ := hf
      obtain ⟨wm, hwm⟩ : ∃ m, wln = m := ⟨_, rfl⟩
      subst hwm
      have HFE := hide hf
      obtain ⟨D, hD⟩ : ∃ D, ((List.range wln).map f).reverse = D := ⟨_, rfl⟩
      have hDl : D.length = wln := by rw [← hD]; simp
      have hDi : ∀ i, i < wln → D[i]? = some (f (wln - 1 - i)) := fun i hi => by
        rw [← hD, List.getElem?_reverse (by simpa using hi)]
        simp [show wln - 1 - i < wln by omega]
      have hb : wln ≤ 2048 := by
        obtain ⟨h1, h2, h3, h4⟩ := unhide HF
        obtain ⟨e1, e2, e3⟩ := unhide HL
        rw [e1] at h2
        have := (rec_parts h2).2.2.2
        omega
      have HD := hide (And.intro hD (And.intro hDl hDi))
      clear hf hD hDl hDi
      obtain ⟨c0, c1, c2, c3, c4⟩ := row_cell ((unhide HZ13).box _ (getElem_mem' (i := 5) rfl))
      obtain ⟨v13, hv13⟩ : ∃ v, wc = v := ⟨_, rfl⟩
      rw [hv13] at HZ13 HFE c0 c1 c2 c3 c4 ⊢
      clear hv13
      go_wp2_with fail
      go_loopw [22, 23] (fun lv x wr => ∃ (i : Nat), x = .int .i64 (i : Int) ∧ Hid (i ≤ wln) ∧ Hid (Below v13.heap.size v13 wr) ∧ Hid (wr.ownsRow v13.heap.size 29 6 lv i ((D.take i).flatMap encE))) (fun _ x _ => wln - (intOf x).toNat)
      case atStart => exact ⟨0, rfl, hide (Nat.zero_le _), hide (Below.refl _ _), hide (World.ownsRow_nil _ _ _ _)⟩
      case round =>
        clear c0 c1 c2 c3 c4
        obtain ⟨i, rfl, HI, HX, HO⟩ := hrel
        obtain ⟨c0, c1, c2, c3, c4⟩ := row_cell (((unhide HZ13).later (unhide HX)).box _ (getElem_mem' (i := 5) rfl))
        by_cases hlt : i < wln
        · have j1 : (i : Int) < (wln : Int) := by omega
          obtain ⟨J, hJ⟩ : ∃ J : Nat, i + J + 1 = wln := ⟨wln - 1 - i, by omega⟩
          obtain ⟨N1, hN1⟩ : ∃ N1, i + J = N1 := ⟨_, rfl⟩
          have hJ2 : IntKind.i64.wrap ((wln : Int) - 1) = (N1 : Int) := by rw [IntKind.wrap_i64]; omega
          have hJ3 : IntKind.i64.wrap ((N1 : Int) - (i : Int)) = (J : Int) := by rw [IntKind.wrap_i64]; omega
          have hJl : (J : Int) < (wln : Int) := by omega
          have hDi := (unhide HD).2.2 i hlt
          rw [show wln - 1 - i = J by omega] at hDi
          obtain ⟨a, a2, y, rfl, rfl, hy, hk, cK, cV, hve⟩ := unhide HFE J (by omega)
          obtain ⟨E, hE⟩ : ∃ E, f J = E := ⟨_, rfl⟩
          rw [hE] at hDi hk cK cV hve
          obtain ⟨kk, y0, y1, y2, ⟨bl, ll', cl1⟩, bk', mm, ck1⟩ := E
          have HDI := hide hDi
          have e0 : wr.cell? (a2.add J) = some (.string kk) := cell_later (unhide HX) cK
          have e1 : wr.cell? (a.add (J * 5)) = some (.int .i64 y0) := cell_later (unhide HX) (cV 0 _ rfl)
          have e2 : wr.cell? ⟨(a.add (J * 5)).block, (a.add (J * 5)).off + 1, none⟩ = some (.int .i64 y1) := cell_later (unhide HX) (cV 1 _ rfl)
          have e3 : wr.cell? ⟨(a.add (J * 5)).block, (a.add (J * 5)).off + 2, none⟩ = some (.string y2) := cell_later (unhide HX) (cV 2 _ rfl)
          have e4 : wr.cell? ⟨(a.add (J * 5)).block, (a.add (J * 5)).off + 3, none⟩ = some (.slice bl ll' cl1) := cell_later (unhide HX) (cV 3 _ rfl)
          have e5 : wr.cell? ⟨(a.add (J * 5)).block, (a.add (J * 5)).off + 4, none⟩ = some (.slice bk' mm ck1) := cell_later (unhide HX) (cV 4 _ rfl)
          have hS0 : v13.cell? ⟨gw, 3, none⟩ = some (.slice (some a) wln wcl) ∧ v13.cell? ⟨gw, 4, none⟩ = some (.slice (some a2) wln wck) ∧ v13.cell? (a2.add J) = some (.string kk) ∧ v13.cell? (a.add (J * 5)) = some (.int .i64 y0) ∧ v13.cell? ⟨(a.add (J * 5)).block, (a.add (J * 5)).off + 1, none⟩ = some (.int .i64 y1) ∧ v13.cell? ⟨(a.add (J * 5)).block, (a.add (J * 5)).off + 2, none⟩ = some (.string y2) ∧ v13.cell? ⟨(a.add (J * 5)).block, (a.add (J * 5)).off + 3, none⟩ = some (.slice bl ll' cl1) ∧ v13.cell? ⟨(a.add (J * 5)).block, (a.add (J * 5)).off + 4, none⟩ = some (.slice bk' mm ck1) := by
            obtain ⟨_, _, _, b3, b4⟩ := row_cell ((unhide HZ13).box _ (getElem_mem' (i := 5) rfl))
            exact ⟨b3, b4, cK, cV 0 _ rfl, cV 1 _ rfl, cV 2 _ rfl, cV 3 _ rfl, cV 4 _ rfl⟩
          obtain ⟨S, hSd⟩ : ∃ S : World → Prop, (fun w' => w'.cell? ⟨gw, 3, none⟩ = some (.slice (some a) wln wcl) ∧ w'.cell? ⟨gw, 4, none⟩ = some (.slice (some a2) wln wck) ∧ w'.cell? (a2.add J) = some (.string kk) ∧ w'.cell? (a.add (J * 5)) = some (.int .i64 y0) ∧ w'.cell? ⟨(a.add (J * 5)).block, (a.add (J * 5)).off + 1, none⟩ = some (.int .i64 y1) ∧ w'.cell? ⟨(a.add (J * 5)).block, (a.add (J * 5)).off + 2, none⟩ = some (.string y2) ∧ w'.cell? ⟨(a.add (J * 5)).block, (a.add (J * 5)).off + 3, none⟩ = some (.slice bl ll' cl1) ∧ w'.cell? ⟨(a.add (J * 5)).block, (a.add (J * 5)).off + 4, none⟩ = some (.slice bk' mm ck1)) = S := ⟨_, rfl⟩
          have hSl : ∀ u, Below v13.heap.size v13 u → S u := fun u hu => by
            obtain ⟨t0, t1, t2, t3, t4, t5, t6, t7⟩ := hS0
            rw [← hSd]
            exact ⟨cell_later hu t0, cell_later hu t1, cell_later hu t2, cell_later hu t3, cell_later hu t4, cell_later hu t5, cell_later hu t6, cell_later hu t7⟩
          have HSL := hide hSl
          have hSg : ∀ u, S u → u.cell? ⟨gw, 3, none⟩ = some (.slice (some a) wln wcl) ∧ u.cell? ⟨gw, 4, none⟩ = some (.slice (some a2) wln wck) ∧ u.cell? (a2.add J) = some (.string kk) ∧ u.cell? (a.add (J * 5)) = some (.int .i64 y0) ∧ u.cell? ⟨(a.add (J * 5)).block, (a.add (J * 5)).off + 1, none⟩ = some (.int .i64 y1) ∧ u.cell? ⟨(a.add (J * 5)).block, (a.add (J * 5)).off + 2, none⟩ = some (.string y2) ∧ u.cell? ⟨(a.add (J * 5)).block, (a.add (J * 5)).off + 3, none⟩ = some (.slice bl ll' cl1) ∧ u.cell? ⟨(a.add (J * 5)).block, (a.add (J * 5)).off + 4, none⟩ = some (.slice bk' mm ck1) := fun u hu => by rw [← hSd] at hu; exact hu
          have HSG := hide hSg
          have HJ := hide (And.intro hJ hlt)
          clear hDi hy hk cK cV hve hE hS0 hSd hSl hSg hN1 hJ
          go_upto_region 20 with fail
          clear c0 c1 c2 c3 c4 e0 e1 e2 e3 e4 e5
          have hs0 := unhide HSL wr.drew ((unhide HX).drew)
          refine till_begin (S := S) 24 (by kernel_rfl) ?_
          refine till_take 0 (v := u22) (some 117) rfl rfl rfl (by kernel_rfl) (by kernel_rfl) (by kernel_rfl) (by kernel_rfl) (fun _ _ _ h => h) (Or.inl ⟨by rfl, fun u s0 => by obtain ⟨t0, t1, t2, t3, t4, t5, t6, t7⟩ := unhide HSG u s0; go_simp⟩) hs0 ?_
          try simp only [Act.put, List.setIfInBounds_toArray, List.set_cons_zero, List.set_cons_succ]
          refine till_take 1 (v := .pointer (some ⟨gw, 4, none⟩)) (some 118) rfl rfl rfl (by kernel_rfl) (by kernel_rfl) (by kernel_rfl) (by kernel_rfl) (fun _ _ _ h => h) (Or.inl ⟨by rfl, fun u s0 => by obtain ⟨t0, t1, t2, t3, t4, t5, t6, t7⟩ := unhide HSG u s0; go_simp⟩) hs0 ?_
          try simp only [Act.put, List.setIfInBounds_toArray, List.set_cons_zero, List.set_cons_succ]
          refine till_take 2 (v := .slice (some a2) wln wck) (some 119) rfl rfl rfl (by kernel_rfl) (by kernel_rfl) (by kernel_rfl) (by kernel_rfl) (fun _ _ _ h => h) (Or.inl ⟨by rfl, fun u s0 => by obtain ⟨t0, t1, t2, t3, t4, t5, t6, t7⟩ := unhide HSG u s0; go_simp⟩) hs0 ?_
          try simp only [Act.put, List.setIfInBounds_toArray, List.set_cons_zero, List.set_cons_succ]
          refine till_take 3 (v := .pointer (some ⟨gw, 4, none⟩)) (some 120) rfl rfl rfl (by kernel_rfl) (by kernel_rfl) (by kernel_rfl) (by kernel_rfl) (fun _ _ _ h => h) (Or.inl ⟨by rfl, fun u s0 => by obtain ⟨t0, t1, t2, t3, t4, t5, t6, t7⟩ := unhide HSG u s0; go_simp⟩) hs0 ?_
          try simp only [Act.put, List.setIfInBounds_toArray, List.set_cons_zero, List.set_cons_succ]
          refine till_take 4 (v := .slice (some a2) wln wck) (some 121) rfl rfl rfl (by kernel_rfl) (by kernel_rfl) (by kernel_rfl) (by kernel_rfl) (fun _ _ _ h => h) (Or.inl ⟨by rfl, fun u s0 => by obtain ⟨t0, t1, t2, t3, t4, t5, t6, t7⟩ := unhide HSG u s0; go_simp⟩) hs0 ?_
          try simp only [Act.put, List.setIfInBounds_toArray, List.set_cons_zero, List.set_cons_succ]
          refine till_take 5 (v := .int .i64 (wln : Int)) (some 122) rfl rfl rfl (by kernel_rfl) (by kernel_rfl) (by kernel_rfl) (by kernel_rfl) (fun _ _ _ h => h) (Or.inl ⟨by rfl, fun u s0 => by obtain ⟨t0, t1, t2, t3, t4, t5, t6, t7⟩ := unhide HSG u s0; go_simp⟩) hs0 ?_
          try simp only [Act.put, List.setIfInBounds_toArray, List.set_cons_zero, List.set_cons_succ]
          refine till_take 6 (v := .int .i64 (N1 : Int)) (some 123) rfl rfl rfl (by kernel_rfl) (by kernel_rfl) (by kernel_rfl) (by kernel_rfl) (fun _ _ _ h => h) (Or.inl ⟨by rfl, fun u s0 => by obtain ⟨t0, t1, t2, t3, t4, t5, t6, t7⟩ := unhide HSG u s0; go_simp⟩) hs0 ?_
          try simp only [Act.put, List.setIfInBounds_toArray, List.set_cons_zero, List.set_cons_succ]
          refine till_take 7 (v := .int .i64 (i : Int)) (some 124) rfl rfl rfl (by kernel_rfl) (by kernel_rfl) (by kernel_rfl) (by kernel_rfl) (fun _ _ _ h => h) (Or.inl ⟨by rfl, fun u s0 => by obtain ⟨t0, t1, t2, t3, t4, t5, t6, t7⟩ := unhide HSG u s0; go_simp⟩) hs0 ?_
          try simp only [Act.put, List.setIfInBounds_toArray, List.set_cons_zero, List.set_cons_succ]
          refine till_take 8 (v := .int .i64 (J : Int)) (some 125) rfl rfl rfl (by kernel_rfl) (by kernel_rfl) (by kernel_rfl) (by kernel_rfl) (fun _ _ _ h => h) (Or.inl ⟨by rfl, fun u s0 => by obtain ⟨t0, t1, t2, t3, t4, t5, t6, t7⟩ := unhide HSG u s0; go_simp⟩) hs0 ?_
          try simp only [Act.put, List.setIfInBounds_toArray, List.set_cons_zero, List.set_cons_succ]
          refine till_take 9 (v := .pointer (some (a2.add J))) (some 126) rfl rfl rfl (by kernel_rfl) (by kernel_rfl) (by kernel_rfl) (by kernel_rfl) (fun _ _ _ h => h) (Or.inl ⟨by rfl, fun u s0 => by obtain ⟨t0, t1, t2, t3, t4, t5, t6, t7⟩ := unhide HSG u s0; go_simp⟩) hs0 ?_
          try simp only [Act.put, List.setIfInBounds_toArray, List.set_cons_zero, List.set_cons_succ]
          refine till_take 10 (v := .string kk) (some 127) rfl rfl rfl (by kernel_rfl) (by kernel_rfl) (by kernel_rfl) (by kernel_rfl) (fun _ _ _ h => h) (Or.inl ⟨by rfl, fun u s0 => by obtain ⟨t0, t1, t2, t3, t4, t5, t6, t7⟩ := unhide HSG u s0; go_simp⟩) hs0 ?_
          try simp only [Act.put, List.setIfInBounds_toArray, List.set_cons_zero, List.set_cons_succ]
          refine till_take 11 (v := .pointer (some ⟨gw, 3, none⟩)) (some 128) rfl rfl rfl (by kernel_rfl) (by kernel_rfl) (by kernel_rfl) (by kernel_rfl) (fun _ _ _ h => h) (Or.inl ⟨by rfl, fun u s0 => by obtain ⟨t0, t1, t2, t3, t4, t5, t6, t7⟩ := unhide HSG u s0; go_simp⟩) hs0 ?_
          try simp only [Act.put, List.setIfInBounds_toArray, List.set_cons_zero, List.set_cons_succ]
          refine till_take 12 (v := .slice (some a) wln wcl) (some 129) rfl rfl rfl (by kernel_rfl) (by kernel_rfl) (by kernel_rfl) (by kernel_rfl) (fun _ _ _ h => h) (Or.inl ⟨by rfl, fun u s0 => by obtain ⟨t0, t1, t2, t3, t4, t5, t6, t7⟩ := unhide HSG u s0; go_simp⟩) hs0 ?_
          try simp only [Act.put, List.setIfInBounds_toArray, List.set_cons_zero, List.set_cons_succ]
          refine till_take 13 (v := .pointer (some ⟨gw, 4, none⟩)) (some 130) rfl rfl rfl (by kernel_rfl) (by kernel_rfl) (by kernel_rfl) (by kernel_rfl) (fun _ _ _ h => h) (Or.inl ⟨by rfl, fun u s0 => by obtain ⟨t0, t1, t2, t3, t4, t5, t6, t7⟩ := unhide HSG u s0; go_simp⟩) hs0 ?_
          try simp only [Act.put, List.setIfInBounds_toArray, List.set_cons_zero, List.set_cons_succ]
          refine till_take 14 (v := .slice (some a2) wln wck) (some 131) rfl rfl rfl (by kernel_rfl) (by kernel_rfl) (by kernel_rfl) (by kernel_rfl) (fun _ _ _ h => h) (Or.inl ⟨by rfl, fun u s0 => by obtain ⟨t0, t1, t2, t3, t4, t5, t6, t7⟩ := unhide HSG u s0; go_simp⟩) hs0 ?_
          try simp only [Act.put, List.setIfInBounds_toArray, List.set_cons_zero, List.set_cons_succ]
          refine till_take 15 (v := .int .i64 (wln : Int)) (some 132) rfl rfl rfl (by kernel_rfl) (by kernel_rfl) (by kernel_rfl) (by kernel_rfl) (fun _ _ _ h => h) (Or.inl ⟨by rfl, fun u s0 => by obtain ⟨t0, t1, t2, t3, t4, t5, t6, t7⟩ := unhide HSG u s0; go_simp⟩) hs0 ?_
          try simp only [Act.put, List.setIfInBounds_toArray, List.set_cons_zero, List.set_cons_succ]
          refine till_take 16 (v := .int .i64 (N1 : Int)) (some 133) rfl rfl rfl (by kernel_rfl) (by kernel_rfl) (by kernel_rfl) (by kernel_rfl) (fun _ _ _ h => h) (Or.inl ⟨by rfl, fun u s0 => by obtain ⟨t0, t1, t2, t3, t4, t5, t6, t7⟩ := unhide HSG u s0; go_simp⟩) hs0 ?_
          try simp only [Act.put, List.setIfInBounds_toArray, List.set_cons_zero, List.set_cons_succ]
          refine till_take 17 (v := .int .i64 (i : Int)) (some 134) rfl rfl rfl (by kernel_rfl) (by kernel_rfl) (by kernel_rfl) (by kernel_rfl) (fun _ _ _ h => h) (Or.inl ⟨by rfl, fun u s0 => by obtain ⟨t0, t1, t2, t3, t4, t5, t6, t7⟩ := unhide HSG u s0; go_simp⟩) hs0 ?_
          try simp only [Act.put, List.setIfInBounds_toArray, List.set_cons_zero, List.set_cons_succ]
          refine till_take 18 (v := .int .i64 (J : Int)) (some 135) rfl rfl rfl (by kernel_rfl) (by kernel_rfl) (by kernel_rfl) (by kernel_rfl) (fun _ _ _ h => h) (Or.inl ⟨by rfl, fun u s0 => by obtain ⟨t0, t1, t2, t3, t4, t5, t6, t7⟩ := unhide HSG u s0; go_simp⟩) hs0 ?_
          try simp only [Act.put, List.setIfInBounds_toArray, List.set_cons_zero, List.set_cons_succ]
          refine till_take 19 (v := .pointer (some (a.add (J * 5)))) (some 136) rfl rfl rfl (by kernel_rfl) (by kernel_rfl) (by kernel_rfl) (by kernel_rfl) (fun _ _ _ h => h) (Or.inl ⟨by rfl, fun u s0 => by obtain ⟨t0, t1, t2, t3, t4, t5, t6, t7⟩ := unhide HSG u s0; go_simp⟩) hs0 ?_
          try simp only [Act.put, List.setIfInBounds_toArray, List.set_cons_zero, List.set_cons_succ]
          refine till_take 20 (v := .agg #[.int .i64 y0, .int .i64 y1, .string y2, .slice bl ll' cl1, .slice bk' mm ck1]) (some 137) rfl rfl rfl (by kernel_rfl) (by kernel_rfl) (by kernel_rfl) (by kernel_rfl) (fun _ _ _ h => h) (Or.inl ⟨by rfl, fun u s0 => by obtain ⟨t0, t1, t2, t3, t4, t5, t6, t7⟩ := unhide HSG u s0; go_simp⟩) hs0 ?_
          try simp only [Act.put, List.setIfInBounds_toArray, List.set_cons_zero, List.set_cons_succ]
          refine till_take 21 (v := .agg #[.string kk, .int .i64 y0, .int .i64 y1, .string y2, .slice bl ll' cl1, .slice bk' mm ck1]) (some 138) rfl rfl rfl (by kernel_rfl) (by kernel_rfl) (by kernel_rfl) (by kernel_rfl) (fun _ _ _ h => h) (Or.inl ⟨by rfl, fun u s0 => by obtain ⟨t0, t1, t2, t3, t4, t5, t6, t7⟩ := unhide HSG u s0; go_simp⟩) hs0 ?_
          try simp only [Act.put, List.setIfInBounds_toArray, List.set_cons_zero, List.set_cons_succ]
          refine till_one 22 (by kernel_rfl) rfl (fun K hK => ?_)
          go_simp
          obtain ⟨w6, hw6⟩ : ∃ w6, (wr.alloc (.cells #[.string kk, .int .i64 y0, .int .i64 y1, .string y2, .slice bl ll' cl1, .slice bk' mm ck1] 29)).drew = w6 := ⟨_, rfl⟩
          have X6 : Below wr.heap.size wr w6 := by rw [← hw6]; exact ((Below.refl _ _).alloc (Nat.le_refl _) _).drew
          have at6 : w6.heap[wr.heap.size]? = some (.cells #[.string kk, .int .i64 y0, .int .i64 y1, .string y2, .slice bl ll' cl1, .slice bk' mm ck1] 29 (0, 0)) := by rw [← hw6]; exact heap_alloc_new wr _
          have sz6 : w6.heap.size = wr.heap.size + 1 := by rw [← hw6]; show (wr.alloc _).heap.size = _; simp
          rw [hw6]
          have HX6 : Hid (Below v13.heap.size v13 w6) := hide ((unhide HX).trans (X6.mono (unhide HX).size))
          have HO6 : Hid (w6.ownsRow v13.heap.size 29 6 u22 i ((D.take i).flatMap encE)) := hide (own_below (unhide HO) X6)
          have hbs6 : v13.heap.size ≤ w6.heap.size := (unhide HX6).size
          obtain ⟨h5s, hh5s⟩ : ∃ h5s, wr.heap.size = h5s := ⟨_, rfl⟩
          rw [hh5s] at at6 sz6 ⊢
          refine hK.out _ _ (Or.inr (unhide HSL w6 (unhide HX6))) ?_
          clear hK K hw6 X6 hh5s hs0
          try simp only [Act.put, List.setIfInBounds_toArray, List.set_cons_zero, List.set_cons_succ]
          obtain ⟨i0, hi, hz0, hz1, hz2⟩ := info_parts infoEc
          refine till_one 23 (by kernel_rfl) rfl (fun K hK => ?_)
          refine step_append_lies _ (by rfl) _ _ 22 (by rfl) v13.heap.size 29 i0 _ 6 96 Try.underlying22 hi hz0 hz1 hz2 rfl (by omega) u22 i ((D.take i).flatMap encE) (by rfl) (unhide HO6) ⟨h5s, 0, none⟩ 1 1 [.string kk, .int .i64 y0, .int .i64 y1, .string y2, .slice bl ll' cl1, .slice bk' mm ck1] (by rfl) (by rfl) (World.news_of_block at6) (by simp [Value.oneCell']) (by omega) (by unfold maxLen; omega) (by omega) hbs6 _ rfl ?_
          intro g7 cap7 w7 hown7 hgrow7 hat7 hlt7
          change K (Act.put _ (some 140) _) w7
          have HX7 : Hid (Below v13.heap.size v13 w7) := hide ((unhide HX6).grown hgrow7 hbs6 (fun k e => ((unhide HO6).lt k e).1))
          have HO7 : Hid (w7.ownsRow v13.heap.size 29 6 (.slice (some ⟨g7, 0, none⟩) (i + 1) cap7) (i + 1) ((D.take (i + 1)).flatMap encE)) := hide (by
            rw [List.take_add_one, unhide HDI, List.flatMap_append]
            simpa [encE] using hown7)
          refine hK.out _ _ (Or.inr (unhide HSL w7 (unhide HX7))) ?_
          clear hK K hown7 hgrow7 hat7 hlt7 at6 sz6 hbs6
          try simp only [Act.put, List.setIfInBounds_toArray, List.set_cons_zero, List.set_cons_succ]
          refine till_one 24 (by kernel_rfl) rfl (fun K hK => ?_)
          go_simp
          refine hK.out _ _ (Or.inl rfl) ?_
          clear hK K
          try simp only [Act.put, List.setIfInBounds_toArray, List.set_cons_zero, List.set_cons_succ]
          refine till_done (by kernel_rfl) ?_ _
          have HI1 : Hid (i + 1 ≤ wln) := hide (by have := unhide HJ; omega)
          go_wp2_with fail
          go_roundw
          case rel => exact ⟨i + 1, by go_num, HI1, HX7, HO7⟩
          case measure => have := unhide HI1; simp [intOf]; omega
        · have j1 : ¬ (i : Int) < (wln : Int) := by omega
          have hiw : i = wln := by have := unhide HI; omega
          have hDt : D.take i = D := List.take_of_length_le (by have := (unhide HD).2.1; omega)
          have HO1 := unhide HO
          rw [hDt, hiw] at HO1
          obtain ⟨sa, sc, rfl, hsl⟩ := slice_form HO1
          clear hsl hDt hiw
          have hds : D.toArray.size = wln := by have := (unhide HD).2.1; simpa using this
          have hWR : rightB (.mk 5 wn ws wl wks) = true ∧ wks.length = wln ∧ wl.length = wln := ⟨by rw [← (unhide HL).1]; exact (unhide HF).2.1, (unhide HL).2.1, (unhide HL).2.2⟩
          have hFE : ∀ c, c < wln → wks[c]? = some (f c).1 ∧ ∃ y, wl[c]? = some y ∧ IsV v13 v13.heap.size y (.agg (valE (f c)).toArray) := fun c hc => by
            obtain ⟨a, a2, y, _, _, h3, h4, _, _, h7⟩ := unhide HFE c hc
            exact ⟨h4, y, h3, h7⟩
          have hYc : ∀ c, c < wln → ∀ y, wl[c]? = some y → (wl[(placeK wks (f c).1).getD 0]?).getD (.mk 0 0 ⟨#[]⟩ [] []) = y := fun c hc y hy => by
            rw [place_at (right_keys hWR.1).1 (hFE c hc).1]
            show (wl[c]?).getD _ = y
            rw [hy]
            rfl
          have hmem : ∀ e, e ∈ D → ∃ c, c < wln ∧ f c = e := fun e he => by
            rw [← (unhide HD).1, List.mem_reverse, List.mem_map] at he
            obtain ⟨c, hc, rfl⟩ := he
            exact ⟨c, List.mem_range.1 hc, rfl⟩
          have hbt : ∀ t ∈ wks, t.size ≤ 140737488351232 := by
            have hv : IsV v13 v13.heap.size W _ := (unhide HZ13).val _ (getElem_mem' (i := 5) rfl)
            rw [(unhide HL).1] at hv
            obtain ⟨_, _, _, _, _, V, hf, _⟩ := IsP.at hv
            exact hf.bt
          have CG := rec_any sa sc v13.heap.size D.toArray (fun e => (wl[(placeK wks e.1).getD 0]?).getD (.mk 0 0 ⟨#[]⟩ [] [])) wr (shows_own (base := v13.heap.size) (by rw [hds]; simpa using HO1)) ?hY ?hK (unhide HX).size (by omega)
          case hY =>
            intro e he
            obtain ⟨c, hc, rfl⟩ := hmem e (by simpa using he)
            obtain ⟨_, y, h1, h2⟩ := hFE c hc
            rw [hYc c hc y h1]
            exact h2.mono (unhide HX)
          case hK =>
            intro e he
            obtain ⟨c, hc, rfl⟩ := hmem e (by simpa using he)
            exact hbt _ (List.mem_of_getElem? (hFE c hc).1)
          have hE1 : ((List.range wln).map f).map (fun e : Ent => e.1) = wks := by
            refine List.ext_getElem? fun c => ?_
            by_cases hc : c < wln
            · rw [(hFE c hc).1]; simp [hc]
            · rw [List.getElem?_eq_none (by simp; omega), List.getElem?_eq_none (by have := hWR.2.1; omega)]
          have hE2 : ((List.range wln).map f).map (fun e : Ent => (wl[(placeK wks e.1).getD 0]?).getD (.mk 0 0 ⟨#[]⟩ [] [])) = wl := by
            refine List.ext_getElem? fun c => ?_
            by_cases hc : c < wln
            · obtain ⟨_, y, h1, _⟩ := hFE c hc
              rw [h1, List.getElem?_map, List.getElem?_map, List.getElem?_range hc]
              exact congrArg some (hYc c hc y h1)
            · rw [List.getElem?_eq_none (by simp; omega), List.getElem?_eq_none (by have := hWR.2.2; omega)]
          have HE12 := hide (And.intro hE1 (And.intro hE2 hWR))
          rw [hds] at CG
          have HC := hide CG
          clear CG hds HO1 hE1 hE2 hbt hmem hYc hFE hWR
          go_wp2_with fail
          refine (unhide HC).mono ?_
          rintro e u14 ⟨d', x14, ⟨hd1, hd2, hd3⟩, rfl, b14, q14', _⟩
          obtain ⟨hE1, hE2, hWR⟩ := unhide HE12
          have hdE : d'.toList = (List.range wln).map f := one_sorted _ D.toArray d' (by rw [hE1]; exact (right_keys hWR.1).1) (by show D = _; exact (unhide HD).1.symm) (by rw [hd1]; simpa using (unhide HD).2.1.symm) (by simpa using hd2) (fun i j h1 h2 => hd3 i j h1 (by have := (unhide HD).2.1; simp at h2; omega))
          rw [hdE, hE1, hE2, (rec_back hWR.1).1, ← (rec_back hWR.1).2, ← (unhide HL).1] at q14'
          rw [hdE, hE1, hE2, (rec_back hWR.1).1]
          have q14 := (q14' rfl).isV (fun b hb => hb.2)
          have HZr := hide ((unhide HZ13).later (unhide HX))
          clear hd1 hd2 hd3 hdE hE1 hE2 hWR q14' HC HE12 HZ13
          obtain ⟨k14, n14, s14, l14, ks14, al14, ak14, cl14, ck14, hx14, rfl⟩ := q14.shape
          obtain ⟨m14, hm14⟩ : ∃ m, ks14.length = m := ⟨_, rfl⟩
          obtain ⟨ln14, hln14⟩ : ∃ m, l14.length = m := ⟨_, rfl⟩
          rw [hm14, hln14] at q14 ⊢
          have hZ14 := ((unhide HZr).later b14).value q14
          obtain ⟨g14, hg14⟩ : ∃ m, u14.heap.size = m := ⟨_, rfl⟩
          have hZ14' := hZ14.make #[.int .i64 k14, .int .i64 n14, .string s14, .slice al14 ln14 cl14, .slice ak14 m14 ck14]
          rw [hg14] at hZ14'
          have HZ14 := hide hZ14'
          clear hZ14 hZ14' q14 b14 c0 c1 c2 c3 c4 hx14 hm14 hln14 HZr
          go_upto_region 22 with fail
          try rw [hg14]
          obtain ⟨v14, hv14⟩ : ∃ v, u14.alloc (.cells #[.int .i64 k14, .int .i64 n14, .string s14, .slice al14 ln14 cl14, .slice ak14 m14 ck14] 27) = v := ⟨_, rfl⟩
          rw [hv14] at HZ14 ⊢
          clear hv14 hg14
          obtain ⟨c0, c1, c2, c3, c4⟩ := row_cell ((unhide HZ14).box _ (getElem_mem' (i := 0) rfl))
          obtain ⟨d0, d1, d2, d3, d4⟩ := row_cell ((unhide HZ14).box _ (getElem_mem' (i := 6) rfl))
          have CG := hide (same3_any (dep W) W W _ _ v14.heap.size v14 (Nat.le_refl _) ((unhide HZ14).val _ (getElem_mem' (i := 0) rfl)) ((unhide HZ14).val _ (getElem_mem' (i := 6) rfl)) (Nat.le_refl _))
          rw [(sameB_iff W W).2 rfl] at CG
          have HBW := hide (unhide HZ14).below
          go_wp2_with fail
          refine (unhide CG).mono ?_
          rintro e y2 ⟨rfl, b⟩
          have HB2 := hide ((unhide HBW).trans (b.mono (unhide HZ14).low))
          clear b CG c0 c1 c2 c3 c4 d0 d1 d2 d3 d4 HZ14
          go_wp2_with fail
          go_ret
          exact ⟨rfl, by rw [unhide HG]; exact unhide HB2⟩
end Go.Proofs.Ytcopkhmmpamboaa
