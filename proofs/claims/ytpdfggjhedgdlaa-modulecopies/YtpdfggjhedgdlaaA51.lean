/-
  The walk of the document's Copy of a module (layer 9): the same module in new memory, none of one that is not right; no conditions but the form's own reach.
-/
import Derived.Test.YtpdfggjhedgdlaaA46
import Derived.Test.YtpdfggjhedgdlaaA50
import Derived.Test.YtpdfggjhedgdlaaA30
namespace Go.Proofs.Ytpdfggjhedgdlaa
open Go.RowKit
set_option linter.unusedVariables false
set_option linter.unusedSimpArgs false

theorem CpM.putF {w0 w w1 : World} {I : Nat → Obj → Prop} {gr : Nat} {C F F' X : Value} {m : Md} {V : Nat → List Value} {fs' : List Fn} (h : CpM w0 I w gr C F X m V) (hown : w1.ownsRow (gr + 1) 43 4 F' fs'.length (fs'.flatMap fnV)) (hg : Grew w w1 F F') :
    CpM w0 I (w1.setCell ⟨gr, 1, none⟩ F') gr C F' X ⟨m.cs, fs', m.xs⟩ V := by
  have hgF : ∀ b, F.ownBlock = some b → gr + 1 ≤ b ∧ b < w.heap.size := h.ownF.lt
  have hgr : some gr ≠ F.ownBlock := fun e => by have := (hgF gr e.symm).1; omega
  have hlt := h.lt
  have keep : ∀ b, b < w.heap.size → b ≠ gr → some b ≠ F.ownBlock → (w1.setCell ⟨gr, 1, none⟩ F').heap[b]? = w.heap[b]? := fun b hb hn hf => by rw [heap_setCell_other _ _ _ _ (by simpa using hn)]; exact hg.far hb hf
  have hsz : (w1.setCell ⟨gr, 1, none⟩ F').heap.size = w1.heap.size := by simp
  have hs1 := hg.grown.size
  have hFb : ∀ b, F'.ownBlock = some b → F.ownBlock = some b ∨ w.heap.size ≤ b := hg.row
  refine ⟨?_, ?_, ?_, ?_, ?_, h.row, ?_, ?_⟩
  · rw [heap_setCell_same w1 gr 1 _ _ _ ((hg.far hlt hgr).trans h.box)]; rfl
  · have hb : Below (gr + 1) w w1 := (Below.refl _ _).grown hg.grown (by omega) (fun k e => (hgF k e).1)
    have hb' : Below gr w w1 := hb.mono (Nat.le_succ _)
    exact h.old.trans (hb'.setCell (p := ⟨gr, 1, none⟩) (Nat.le_refl _) _)
  · exact own_later h.ownC (fun b hl hv => keep b hl (by have := (h.ownC.lt b hv).1; omega) (own_apartM h.ownC h.ownF (by decide) b hv))
  · exact own_later hown (fun b hl hv => by rw [heap_setCell_other _ _ _ _ (by have := (hown.lt b hv).1; simp; omega)])
  · exact own_later h.ownX (fun b hl hv => keep b hl (by have := (h.ownX.lt b hv).1; omega) (own_apartM h.ownX h.ownF (by decide) b hv))
  · intro c y hy
    refine (h.el c y hy).to (fun b hP => keep b hP.2.1 (by have := hP.1; omega) hP.2.2.2.1) (fun b hP => ⟨hP.1, by rw [hsz]; have := hP.2.1; omega, hP.2.2.1, fun e => ?_, hP.2.2.2.2⟩)
    rcases hFb b e.symm with e' | e'
    · exact hP.2.2.2.1 e'.symm
    · have := hP.2.1; omega
  · intro b c hI
    obtain ⟨i1, i2, i3, i4, i5⟩ := h.side b c hI
    have hbl := (Array.getElem?_eq_some_iff.1 i1).1
    refine ⟨(keep b hbl i2 i4).trans i1, i2, i3, fun e => ?_, i5⟩
    rcases hFb b e.symm with e' | e'
    · exact i4 e'.symm
    · omega

theorem CpM.putX {w0 w w1 : World} {I : Nat → Obj → Prop} {gr : Nat} {C F X X' : Value} {m : Md} {V : Nat → List Value} {xs' : List Ex} (h : CpM w0 I w gr C F X m V) (hown : w1.ownsRow (gr + 1) 45 2 X' xs'.length (xs'.flatMap exV)) (hg : Grew w w1 X X') :
    CpM w0 I (w1.setCell ⟨gr, 2, none⟩ X') gr C F X' ⟨m.cs, m.fs, xs'⟩ V := by
  have hgF : ∀ b, X.ownBlock = some b → gr + 1 ≤ b ∧ b < w.heap.size := h.ownX.lt
  have hgr : some gr ≠ X.ownBlock := fun e => by have := (hgF gr e.symm).1; omega
  have hlt := h.lt
  have keep : ∀ b, b < w.heap.size → b ≠ gr → some b ≠ X.ownBlock → (w1.setCell ⟨gr, 2, none⟩ X').heap[b]? = w.heap[b]? := fun b hb hn hf => by rw [heap_setCell_other _ _ _ _ (by simpa using hn)]; exact hg.far hb hf
  have hsz : (w1.setCell ⟨gr, 2, none⟩ X').heap.size = w1.heap.size := by simp
  have hs1 := hg.grown.size
  have hFb : ∀ b, X'.ownBlock = some b → X.ownBlock = some b ∨ w.heap.size ≤ b := hg.row
  refine ⟨?_, ?_, ?_, ?_, ?_, h.row, ?_, ?_⟩
  · rw [heap_setCell_same w1 gr 2 _ _ _ ((hg.far hlt hgr).trans h.box)]; rfl
  · have hb : Below (gr + 1) w w1 := (Below.refl _ _).grown hg.grown (by omega) (fun k e => (hgF k e).1)
    have hb' : Below gr w w1 := hb.mono (Nat.le_succ _)
    exact h.old.trans (hb'.setCell (p := ⟨gr, 2, none⟩) (Nat.le_refl _) _)
  · exact own_later h.ownC (fun b hl hv => keep b hl (by have := (h.ownC.lt b hv).1; omega) (own_apartM h.ownC h.ownX (by decide) b hv))
  · exact own_later h.ownF (fun b hl hv => keep b hl (by have := (h.ownF.lt b hv).1; omega) (own_apartM h.ownF h.ownX (by decide) b hv))
  · exact own_later hown (fun b hl hv => by rw [heap_setCell_other _ _ _ _ (by have := (hown.lt b hv).1; simp; omega)])
  · intro c y hy
    refine (h.el c y hy).to (fun b hP => keep b hP.2.1 (by have := hP.1; omega) hP.2.2.2.2) (fun b hP => ⟨hP.1, by rw [hsz]; have := hP.2.1; omega, hP.2.2.1, hP.2.2.2.1, fun e => ?_⟩)
    rcases hFb b e.symm with e' | e'
    · exact hP.2.2.2.2 e'.symm
    · have := hP.2.1; omega
  · intro b c hI
    obtain ⟨i1, i2, i3, i4, i5⟩ := h.side b c hI
    have hbl := (Array.getElem?_eq_some_iff.1 i1).1
    refine ⟨(keep b hbl i2 i5).trans i1, i2, i3, i4, fun e => ?_⟩
    rcases hFb b e.symm with e' | e'
    · exact i5 e'.symm
    · omega

theorem IsT.flat {w : World} {P : Nat → Prop} {k : Nat} {R : List (List Value)} {ad : Addr} {cap : Nat} (hT : IsT w P k R (some ad) cap) (hRk : ∀ r ∈ R, r.length = k) : ∀ j v, R.flatten[j]? = some v → w.cell? (ad.add j) = some v := by
  intro j v hv
  have hfl := flatkR_len k R hRk
  have hj : j < R.length * k := by rw [← hfl]; exact (List.getElem?_eq_some_iff.1 hv).1
  have hk : 0 < k := by
    rcases Nat.eq_zero_or_pos k with h | h
    · subst h; simp at hj
    · exact h
  have hq : j / k < R.length := Nat.div_lt_of_lt_mul (by rw [Nat.mul_comm]; exact hj)
  obtain ⟨r, hr⟩ : ∃ r, R[j / k]? = some r := ⟨_, List.getElem?_eq_getElem hq⟩
  have hrl := hRk r (List.mem_of_getElem? hr)
  obtain ⟨v', hv'⟩ : ∃ v', r[j % k]? = some v' := ⟨_, List.getElem?_eq_getElem (by rw [hrl]; exact Nat.mod_lt _ hk)⟩
  have h1 := flatkR_at k R hRk (j / k) r hr (j % k) v' hv'
  have e : j / k * k + j % k = j := by rw [Nat.mul_comm]; exact Nat.div_add_mod j k
  rw [e, hv] at h1
  cases h1
  have h2 := (hT.hl ad rfl (j / k) r hr).2 (j % k) v hv'
  rw [addK, e] at h2
  exact h2

theorem run_nilnilM {P : Program} (w : World) (t ty e : TypeId) (i : TypeInfo) (ht : P.underlying t = some (.slice e)) (hi : P.info? e = some i) : (Builtin.append_ #[t, t] ty #[.slice none 0 0, .slice none 0 0]).run P w = .ok (.slice none 0 0) w := by
  have h := run_append_owned_none (P := P) (w := w) 0 t ty e i i.size ht hi (.slice none 0 0) 0 [] (World.ownsRow_nil _ _ _ _)
  exact h

/-- rows of k cells, laid behind nothing -/
theorem wpl_nilK {w : World} {ops : Array Oper} {rest : List Oper} {o : Oper} {a : Act} {Q' : Exit → Act → World → Prop} (hgd : o.guard = none) (sl x : Operand) (t e : TypeId) (i : TypeInfo) (z : Value) (k bytes : Nat)
    (ho : o.op = .call { callee := .builtin .append, args := #[sl, x], argTypes := #[t, t] }) (ht : Try.prog.underlying t = some (.slice e)) (hi : Try.prog.info? e = some i) (hz : i.zero = some z) (hsize : i.size = k) (hby : i.bytes = bytes) (hzs : z.cells.size = k) (hsz : 0 < k)
    (R : List (List Value)) (ak : Option Addr) (m ck : Nat) (P : Nat → Prop) (hs : a.eval sl = .slice none 0 0) (hx : a.eval x = .slice ak m ck) (hm : R.length = m) (hT : IsT w P k R ak ck) (hR : ∀ r ∈ R, r.length = k ∧ ∀ v ∈ r, v.oneCell' = true) (hb : m * bytes ≤ 140737488355328) (hml : m ≤ 1000000)
    (h : ∀ v' w', Hid (w'.ownsRow w.heap.size e k v' m R.flatten ∧ Below w.heap.size w w') → wpList Try.prog ops Q' rest (a.put o.dst v') w') :
    wpList Try.prog ops Q' (o :: rest) a w := by
  refine wpList_plain hgd fun K hK' => ?_
  have key : ∃ v' w', (Builtin.append_ #[t, t] o.type #[.slice none 0 0, .slice ak m ck]).run Try.prog w = .ok v' w' ∧ w'.ownsRow w.heap.size e k v' m R.flatten ∧ Below w.heap.size w w' := by
    cases ak with
    | none =>
      have h0 := (hT.nl rfl).1
      have hck := (hT.nl rfl).2
      obtain rfl : m = 0 := by omega
      subst hck
      obtain rfl : R = [] := List.eq_nil_of_length_eq_zero h0
      exact ⟨_, _, run_nilnilM w _ _ e i ht hi, World.ownsRow_nil _ _ _ _, Below.refl _ _⟩
    | some ad =>
      obtain ⟨v', w', hr, own, gr, _⟩ := run_append_own (P := Try.prog) w w.heap.size t o.type e i z k bytes ht hi hz hsize hby hzs hsz (.slice none 0 0) 0 [] (World.ownsRow_nil _ _ _ _) ad m ck R.flatten (by rw [flatkR_len k R (fun r hr => (hR r hr).1), hm]) (hT.flat (fun r hr => (hR r hr).1)) (fun u hu => by
        obtain ⟨r, hr, hvr⟩ := List.mem_flatten.1 hu
        exact (hR r hr).2 u hvr) (by unfold maxLen; omega) (by rw [Nat.zero_add]; exact hb) (Nat.le_refl _)
      refine ⟨v', w', hr, by simpa using own, ⟨gr.os, gr.tape, gr.output, gr.size, fun q hk => gr.block q hk (by simp [Value.ownBlock])⟩⟩
  obtain ⟨v', w', hrun, hr⟩ := key
  unfold Oper.wp
  simp only [execOp, ho, resolve, invoke, builtin, Sem.run_bind, Sem.run_pure, Result.andThen_ok, List.map_toArray, List.map_cons, List.map_nil, hs, hx, hrun]
  exact hK' _ _ (h v' w' (hide hr))

set_option maxRecDepth 100000 in
set_option maxHeartbeats 8000000 in
theorem copyR_any (m : Md) (a1 a2 a3 : Option Addr) (n1 c1 n2 c2 n3 c3 B : Nat) (w : World) (hn1 : m.cs.length = n1) (hn2 : m.fs.length = n2) (hn3 : m.xs.length = n3) (h : IsM w (fun b => b < B) m a1 c1 a2 c2 a3 c3) (hB : B ≤ w.heap.size) :
    Calls Try.prog 10 #[.agg #[.slice a1 n1 c1, .slice a2 n2 c2, .slice a3 n3 c3]] w fun e w' => CpR w w' e (cpOf m) := by
  obtain ⟨g, hg⟩ : ∃ g, w.heap.size = g := ⟨_, rfl⟩
  have TW := Two.mk' w 26 #[.slice a1 n1 c1, .slice a2 n2 c2, .slice a3 n3 c3] #[.slice none 0 0, .slice none 0 0, .slice none 0 0]
  obtain ⟨w2, hw2⟩ : ∃ w2, (w.alloc (.cells #[.slice a1 n1 c1, .slice a2 n2 c2, .slice a3 n3 c3] 26)).alloc (.cells #[.slice none 0 0, .slice none 0 0, .slice none 0 0] 26) = w2 := ⟨_, rfl⟩
  rw [hw2, hg] at TW
  have z2 : Hid (w2.heap.size = g + 2) := hide TW.size
  have HTB : Hid (Below g w w2) := hide (by rw [← hg]; exact TW.below)
  have HS : Hid (∀ u, Below (g + 2) w2 u → SeeM u B g m (.slice a1 n1 c1) (.slice a2 n2 c2) (.slice a3 n3 c3) a1 c1 a2 c2 a3 c3 ∧ u.heap[g + 1]? = some (.cells #[.slice none 0 0, .slice none 0 0, .slice none 0 0] 26 (0, 0)) ∧ Below g w u) := hide (fun u hu => by
    have hb : Below g w u := (unhide HTB).trans (hu.mono (by omega))
    exact ⟨⟨(hu.block g (by omega)).trans TW.at0, h.later (hb.mono (by omega)), by have := hb.size; omega⟩, (hu.block (g + 1) (by omega)).trans TW.at1, hb⟩)
  have hrf : Below (g + 2) w2 w2 := Below.refl _ _
  have CR := hide (rightR_any m a1 a2 a3 n1 c1 n2 c2 n3 c3 B w2 hn1 hn2 hn3 (unhide HS w2 hrf).1.mod (unhide HS w2 hrf).1.low)
  obtain ⟨m0, m1, m2⟩ := row_cell3 (unhide HS w2 hrf).1.box
  have HN := hide (And.intro hn1 (And.intro hn2 hn3))
  have hBg : B ≤ g := by omega
  cases hR : rightM m with
  | false =>
    rw [hR] at CR
    have hE : cpOf m = md0 := by unfold cpOf; rw [hR]; rfl
    rw [hE]
    clear hR hE h hB TW hn1 hn2 hn3 hrf
    go_enter Try.func10, Try.ntmps10
    go_upto_region 1 with fail
    try rw [hw2]
    clear hw2
    go_wp2_with fail
    refine (unhide CR).mono ?_
    rintro e u ⟨rfl, b1⟩
    have B1 : Hid (Below (g + 2) w2 u) := hide (by have := unhide z2; rw [this] at b1; exact b1)
    clear b1 CR
    obtain ⟨_, hrr, hbg⟩ := unhide HS u (unhide B1)
    obtain ⟨p0, p1, p2⟩ := row_cell3 hrr
    have pf0 := frozen_of_row u (g + 1) 0 _ _ hrr
    have pf1 := frozen_of_row u (g + 1) 1 _ _ hrr
    have pf2 := frozen_of_row u (g + 1) 2 _ _ hrr
    have HRR := hide (And.intro hrr hbg)
    clear hrr hbg
    go_wp2_with fail
    have F9 := three_set u (g + 1) _ _ _ _ (.slice none 0 0) (.slice none 0 0) (.slice none 0 0) (unhide HRR).1
    have B9 : Below g w (((u.setCell ⟨g + 1, 0, none⟩ (.slice none 0 0)).setCell ⟨g + 1, 1, none⟩ (.slice none 0 0)).setCell ⟨g + 1, 2, none⟩ (.slice none 0 0)) := (((unhide HRR).2.setCell (p := ⟨g + 1, 0, none⟩) (by show g ≤ g + 1; omega) _).setCell (p := ⟨g + 1, 1, none⟩) (by show g ≤ g + 1; omega) _).setCell (p := ⟨g + 1, 2, none⟩) (by show g ≤ g + 1; omega) _
    generalize (((u.setCell ⟨g + 1, 0, none⟩ (.slice none 0 0)).setCell ⟨g + 1, 1, none⟩ (.slice none 0 0)).setCell ⟨g + 1, 2, none⟩ (.slice none 0 0)) = w9 at F9 B9 ⊢
    obtain ⟨t0, t1, t2⟩ := row_cell3 F9
    refine bodyPost_ret (v := .agg #[.slice none 0 0, .slice none 0 0, .slice none 0 0]) (by simp [results, Try.results10, go_sem, t0, t1, t2]) rfl ?_
    exact ⟨none, none, none, 0, 0, 0, rfl, md0_is _ _, own_md0 _ _, by first | exact B9 | (rw [hg]; exact B9)⟩
  | true =>
    rw [hR] at CR
    have hE : cpOf m = m := by unfold cpOf; rw [hR]; rfl
    rw [hE]
    have hF : formedB m = true := by unfold rightM at hR; rw [Bool.and_eq_true] at hR; exact hR.1
    obtain ⟨q1, q2, q3, pr, pf, px⟩ := formed_parts hF
    rw [hn1] at q1
    rw [hn2] at q2
    rw [hn3] at q3
    have HF := hide (And.intro hF (And.intro pr (And.intro pf px)))
    obtain ⟨iv, hiv, hz0, hz1, hz2⟩ := info_parts infoVc
    have HIV := hide (And.intro hiv (And.intro hz0 (And.intro hz1 hz2)))
    obtain ⟨if_, hif, hf0, hf1, hf2⟩ := info_parts infoMF
    have HIF := hide (And.intro hif (And.intro hf0 (And.intro hf1 hf2)))
    obtain ⟨ix, hix, hx0, hx1, hx2⟩ := info_parts infoMX
    have HIX := hide (And.intro hix (And.intro hx0 (And.intro hx1 hx2)))
    clear hR hE h hB TW hn1 hn2 hn3 hrf hF pr pf px hiv hz0 hz1 hz2 hif hf0 hf1 hf2 hix hx0 hx1 hx2
    go_enter Try.func10, Try.ntmps10
    go_upto_region 1 with fail
    try rw [hw2]
    clear hw2
    go_wp2_with fail
    refine (unhide CR).mono ?_
    rintro e u ⟨rfl, b1⟩
    have B1 : Hid (Below (g + 2) w2 u) := hide (by have := unhide z2; rw [this] at b1; exact b1)
    clear b1 CR m0 m1 m2
    obtain ⟨go, hgo⟩ : ∃ go, u.heap.size = go := ⟨_, rfl⟩
    have hgg : g + 2 ≤ go := by have := (unhide B1).size; have := unhide z2; omega
    go_upto_region 5 with fail
    have HK0 : Hid (CpM (u.alloc (.cells #[.slice none 0 0, .slice none 0 0, .slice none 0 0] 26)) noI (u.alloc (.cells #[.slice none 0 0, .slice none 0 0, .slice none 0 0] 26)) go (.slice none 0 0) (.slice none 0 0) (.slice none 0 0) ⟨m.cs.take 0, [], []⟩ (fun _ => [])) := hide (cpM_start u go hgo)
    have HO0 : Hid (Below go u (u.alloc (.cells #[.slice none 0 0, .slice none 0 0, .slice none 0 0] 26))) := hide (by rw [← hgo]; exact (Below.refl _ _).alloc (Nat.le_refl _) _)
    obtain ⟨w3, hw3⟩ : ∃ w3, u.alloc (.cells #[.slice none 0 0, .slice none 0 0, .slice none 0 0] 26) = w3 := ⟨_, rfl⟩
    rw [hw3] at HK0 HO0 ⊢
    clear hw3 hgo
    have HS3 : Hid (∀ u, Below go w3 u → SeeM u B g m (.slice a1 n1 c1) (.slice a2 n2 c2) (.slice a3 n3 c3) a1 c1 a2 c2 a3 c3 ∧ u.heap[g + 1]? = some (.cells #[.slice none 0 0, .slice none 0 0, .slice none 0 0] 26 (0, 0)) ∧ Below g w u) := hide (fun v hv => unhide HS v ((unhide B1).trans (((unhide HO0).trans hv).mono (by omega))))
    obtain ⟨m0, m1, m2⟩ := row_cell3 (unhide HS3 w3 (Below.refl _ _)).1.box
    clear HS HO0 B1
    go_wp2_with fail
    go_loopw [5] (fun x wr => ∃ (i : Nat) (C : Value) (V : Nat → List Value), x = .int .i64 (i : Int) ∧ Hid (i ≤ n1) ∧ Hid (CpM w3 noI wr go C (.slice none 0 0) (.slice none 0 0) ⟨m.cs.take i, [], []⟩ V)) (fun x _ => n1 - (intOf x).toNat)
    case atStart => exact ⟨0, _, _, rfl, hide (by omega), HK0⟩
    case round =>
      clear HK0 m0 m1 m2
      obtain ⟨i, C, V, rfl, HI, HK⟩ := hrel
      obtain ⟨m0, m1, m2⟩ := row_cell3 (unhide HS3 wr (unhide HK).old).1.box
      by_cases hlt : i < n1
      · have i1 : (i : Int) < (n1 : Int) := by omega
        have HI1 : Hid (i + 1 ≤ n1) := hide (by omega)
        obtain ⟨y, hy⟩ : ∃ y, m.cs[i]? = some y := ⟨_, List.getElem?_eq_getElem (by have := (unhide HN).1; omega)⟩
        have hRy := (unhide HF).2.1 y (List.mem_of_getElem? hy)
        obtain ⟨a, y0, y1, y2, al', ak', ll', m', cl', ck', rfl, hab, hce, hve⟩ := (unhide HS3 wr (unhide HK).old).1.mod.const i y hy
        have e0 : wr.cell? (a.add (i * 5)) = some (.int .i64 y0) := hce 0 _ rfl
        have e1 : wr.cell? ⟨(a.add (i * 5)).block, (a.add (i * 5)).off + 1, none⟩ = some (.int .i64 y1) := hce 1 _ rfl
        have e2 : wr.cell? ⟨(a.add (i * 5)).block, (a.add (i * 5)).off + 2, none⟩ = some (.string y2) := hce 2 _ rfl
        have e3 : wr.cell? ⟨(a.add (i * 5)).block, (a.add (i * 5)).off + 3, none⟩ = some (.slice al' ll' cl') := hce 3 _ rfl
        have e4 : wr.cell? ⟨(a.add (i * 5)).block, (a.add (i * 5)).off + 4, none⟩ = some (.slice ak' m' ck') := hce 4 _ rfl
        have HVE := hide hve
        have HY := hide (And.intro hy hRy)
        have hBr := (unhide HS3 wr (unhide HK).old).1.low
        have HBr := hide hBr
        clear hy hce hve hRy hBr
        go_upto_region 8 with fail
        have CRy := hide (copyD_any y _ B wr.drew ((unhide HVE).mono ((Below.refl _ _).drew)) (unhide HBr))
        have HS0 : Hid (wr.drew.cell? ⟨go, 0, none⟩ = some C ∧ wr.drew.cell? ⟨g, 0, none⟩ = some (.slice (some a) n1 c1) ∧ wr.drew.cell? (a.add (i * 5)) = some (.int .i64 y0) ∧ wr.drew.cell? ⟨(a.add (i * 5)).block, (a.add (i * 5)).off + 1, none⟩ = some (.int .i64 y1) ∧ wr.drew.cell? ⟨(a.add (i * 5)).block, (a.add (i * 5)).off + 2, none⟩ = some (.string y2) ∧ wr.drew.cell? ⟨(a.add (i * 5)).block, (a.add (i * 5)).off + 3, none⟩ = some (.slice al' ll' cl') ∧ wr.drew.cell? ⟨(a.add (i * 5)).block, (a.add (i * 5)).off + 4, none⟩ = some (.slice ak' m' ck')) := hide ⟨(row_cell3 (unhide HK).box).1, m0, e0, e1, e2, e3, e4⟩
        clear e0 e1 e2 e3 e4 m0 m1 m2
        refine till_begin (S := fun w' => w'.cell? ⟨go, 0, none⟩ = some C ∧ w'.cell? ⟨g, 0, none⟩ = some (.slice (some a) n1 c1) ∧ w'.cell? (a.add (i * 5)) = some (.int .i64 y0) ∧ w'.cell? ⟨(a.add (i * 5)).block, (a.add (i * 5)).off + 1, none⟩ = some (.int .i64 y1) ∧ w'.cell? ⟨(a.add (i * 5)).block, (a.add (i * 5)).off + 2, none⟩ = some (.string y2) ∧ w'.cell? ⟨(a.add (i * 5)).block, (a.add (i * 5)).off + 3, none⟩ = some (.slice al' ll' cl') ∧ w'.cell? ⟨(a.add (i * 5)).block, (a.add (i * 5)).off + 4, none⟩ = some (.slice ak' m' ck')) 11 (by kernel_rfl) ?_
        refine till_take 0 (v := .pointer (some ⟨go, 0, none⟩)) (some 18) rfl rfl rfl (by kernel_rfl) (by kernel_rfl) (by kernel_rfl) (by kernel_rfl) (fun _ _ _ h => h) (Or.inl ⟨by rfl, fun u hu => by obtain ⟨b0, b1, b2, b3, b4, b5, b6⟩ := hu; go_simp⟩) (unhide HS0) ?_
        try simp only [Act.put, List.setIfInBounds_toArray, List.set_cons_zero, List.set_cons_succ]
        refine till_take 1 (v := C) (some 19) rfl rfl rfl (by kernel_rfl) (by kernel_rfl) (by kernel_rfl) (by kernel_rfl) (fun _ _ _ h => h) (Or.inl ⟨by rfl, fun u hu => by obtain ⟨b0, b1, b2, b3, b4, b5, b6⟩ := hu; go_simp⟩) (unhide HS0) ?_
        try simp only [Act.put, List.setIfInBounds_toArray, List.set_cons_zero, List.set_cons_succ]
        refine till_take 2 (v := .pointer (some ⟨g, 0, none⟩)) (some 20) rfl rfl rfl (by kernel_rfl) (by kernel_rfl) (by kernel_rfl) (by kernel_rfl) (fun _ _ _ h => h) (Or.inl ⟨by rfl, fun u hu => by obtain ⟨b0, b1, b2, b3, b4, b5, b6⟩ := hu; go_simp⟩) (unhide HS0) ?_
        try simp only [Act.put, List.setIfInBounds_toArray, List.set_cons_zero, List.set_cons_succ]
        refine till_take 3 (v := .slice (some a) n1 c1) (some 21) rfl rfl rfl (by kernel_rfl) (by kernel_rfl) (by kernel_rfl) (by kernel_rfl) (fun _ _ _ h => h) (Or.inl ⟨by rfl, fun u hu => by obtain ⟨b0, b1, b2, b3, b4, b5, b6⟩ := hu; go_simp⟩) (unhide HS0) ?_
        try simp only [Act.put, List.setIfInBounds_toArray, List.set_cons_zero, List.set_cons_succ]
        refine till_take 4 (v := .int .i64 (i : Int)) (some 22) rfl rfl rfl (by kernel_rfl) (by kernel_rfl) (by kernel_rfl) (by kernel_rfl) (fun _ _ _ h => h) (Or.inl ⟨by rfl, fun u hu => by obtain ⟨b0, b1, b2, b3, b4, b5, b6⟩ := hu; go_simp⟩) (unhide HS0) ?_
        try simp only [Act.put, List.setIfInBounds_toArray, List.set_cons_zero, List.set_cons_succ]
        refine till_take 5 (v := .pointer (some (a.add (i * 5)))) (some 23) rfl rfl rfl (by kernel_rfl) (by kernel_rfl) (by kernel_rfl) (by kernel_rfl) (fun _ _ _ h => h) (Or.inl ⟨by rfl, fun u hu => by obtain ⟨b0, b1, b2, b3, b4, b5, b6⟩ := hu; go_simp⟩) (unhide HS0) ?_
        try simp only [Act.put, List.setIfInBounds_toArray, List.set_cons_zero, List.set_cons_succ]
        refine till_take 6 (v := .agg #[.int .i64 y0, .int .i64 y1, .string y2, .slice al' ll' cl', .slice ak' m' ck']) (some 24) rfl rfl rfl (by kernel_rfl) (by kernel_rfl) (by kernel_rfl) (by kernel_rfl) (fun _ _ _ h => h) (Or.inl ⟨by rfl, fun u hu => by obtain ⟨b0, b1, b2, b3, b4, b5, b6⟩ := hu; go_simp⟩) (unhide HS0) ?_
        try simp only [Act.put, List.setIfInBounds_toArray, List.set_cons_zero, List.set_cons_succ]
        refine till_one 7 (by kernel_rfl) rfl (fun K hK => ?_)
        go_simp
        refine (unhide CRy).mono ?_
        rintro e w5 ⟨x5, rfl, b5, h5', _⟩
        have h5 := h5' (unhide HY).2
        obtain ⟨k5, n5, s5, l5, ks5, al5, ak5, cl5, ck5, hy5, rfl⟩ := h5.1.shape
        obtain ⟨lc5, hlc5⟩ : ∃ lc5, l5.length = lc5 := ⟨_, rfl⟩
        obtain ⟨mc5, hmc5⟩ : ∃ mc5, ks5.length = mc5 := ⟨_, rfl⟩
        rw [hlc5, hmc5] at h5 ⊢
        have b6 := below_drew_of' b5
        have HS5 : Hid (w5.cell? ⟨go, 0, none⟩ = some C ∧ w5.cell? ⟨g, 0, none⟩ = some (.slice (some a) n1 c1) ∧ w5.cell? (a.add (i * 5)) = some (.int .i64 y0) ∧ w5.cell? ⟨(a.add (i * 5)).block, (a.add (i * 5)).off + 1, none⟩ = some (.int .i64 y1) ∧ w5.cell? ⟨(a.add (i * 5)).block, (a.add (i * 5)).off + 2, none⟩ = some (.string y2) ∧ w5.cell? ⟨(a.add (i * 5)).block, (a.add (i * 5)).off + 3, none⟩ = some (.slice al' ll' cl') ∧ w5.cell? ⟨(a.add (i * 5)).block, (a.add (i * 5)).off + 4, none⟩ = some (.slice ak' m' ck')) := hide (by obtain ⟨b0, b1, b2, b3, b4, b5', b7⟩ := unhide HS0; exact ⟨cell_later b6 b0, cell_later b6 b1, cell_later b6 b2, cell_later b6 b3, cell_later b6 b4, cell_later b6 b5', cell_later b6 b7⟩)
        have H5 := hide (And.intro h5 b6)
        clear b5 b6 h5 h5' hy5 hlc5 hmc5 CRy
        go_wp2_with fail
        refine hK.out _ _ (Or.inr (unhide HS5)) ?_
        clear hK K
        try simp only [Act.put, List.setIfInBounds_toArray, List.set_cons_zero, List.set_cons_succ]
        refine till_one 8 (by kernel_rfl) rfl (fun K hK => ?_)
        go_simp
        obtain ⟨w6, hw6⟩ : ∃ w6, w5.alloc (.cells #[.int .i64 k5, .int .i64 n5, .string s5, .slice al5 lc5 cl5, .slice ak5 mc5 ck5] 40) = w6 := ⟨_, rfl⟩
        have X6 : Below w5.heap.size w5 w6 := by rw [← hw6]; exact (Below.refl _ _).alloc (Nat.le_refl _) _
        have at6 : w6.heap[w5.heap.size]? = some (.cells #[.int .i64 k5, .int .i64 n5, .string s5, .slice al5 lc5 cl5, .slice ak5 mc5 ck5] 40 (0, 0)) := by rw [← hw6]; exact heap_alloc_new w5 _
        have sz6 : w6.heap.size = w5.heap.size + 1 := by rw [← hw6]; simp
        rw [hw6]
        have HS6 : Hid (w6.cell? ⟨go, 0, none⟩ = some C ∧ w6.cell? ⟨g, 0, none⟩ = some (.slice (some a) n1 c1) ∧ w6.cell? (a.add (i * 5)) = some (.int .i64 y0) ∧ w6.cell? ⟨(a.add (i * 5)).block, (a.add (i * 5)).off + 1, none⟩ = some (.int .i64 y1) ∧ w6.cell? ⟨(a.add (i * 5)).block, (a.add (i * 5)).off + 2, none⟩ = some (.string y2) ∧ w6.cell? ⟨(a.add (i * 5)).block, (a.add (i * 5)).off + 3, none⟩ = some (.slice al' ll' cl') ∧ w6.cell? ⟨(a.add (i * 5)).block, (a.add (i * 5)).off + 4, none⟩ = some (.slice ak' m' ck')) := hide (by obtain ⟨b0, b1, b2, b3, b4, b5', b7⟩ := unhide HS5; exact ⟨cell_later X6 b0, cell_later X6 b1, cell_later X6 b2, cell_later X6 b3, cell_later X6 b4, cell_later X6 b5', cell_later X6 b7⟩)
        have HK5 := hide ((unhide HK).later (unhide H5).2)
        have HK6 := hide ((unhide HK5).later X6)
        have H6 := hide (And.intro X6 (And.intro at6 sz6))
        have hlen : (m.cs.take i).length = i := by rw [List.length_take]; have := (unhide HN).1; omega
        have HLEN := hide hlen
        have hoC := (unhide HK6).ownC
        dsimp only at hoC
        rw [hlen] at hoC
        have HOC := hide hoC
        clear hoC hlen
        obtain ⟨h5s, hh5s⟩ : ∃ h5s, w5.heap.size = h5s := ⟨_, rfl⟩
        rw [hh5s] at at6 sz6 ⊢
        have HH5 := hide hh5s
        refine hK.out _ _ (Or.inr (unhide HS6)) ?_
        clear hK K hw6 X6 hh5s
        try simp only [Act.put, List.setIfInBounds_toArray, List.set_cons_zero, List.set_cons_succ]
        refine till_one 9 (by kernel_rfl) rfl (fun K hK => ?_)
        refine step_append_lies _ (by rfl) _ _ 22 (by rfl) (go + 1) 40 iv (.agg #[.int .i64 0, .int .i64 0, .string ⟨#[]⟩, .slice none 0 0, .slice none 0 0]) 5 80 Try.underlying22 (unhide HIV).1 (unhide HIV).2.1 (unhide HIV).2.2.1 (unhide HIV).2.2.2 rfl (by omega) C i (flat V i) (by rfl) (unhide HOC) ⟨h5s, 0, none⟩ 1 1 [.int .i64 k5, .int .i64 n5, .string s5, .slice al5 lc5 cl5, .slice ak5 mc5 ck5] (by rfl) (by rfl) (World.news_of_block at6) (by simp [Value.oneCell']) (by omega) (by unfold maxLen; omega) (by omega) (unhide HK6).lt _ rfl ?_
        intro g7 cap7 w7 hown7 hgrow7 hat7 hlt7
        change K (Act.put _ (some 27) _) w7
        have hLb : ∀ q, C.ownBlock = some q → go + 1 ≤ q ∧ q < wr.heap.size := (unhide HK).ownC.lt
        have HLb := hide hLb
        have fr : some go ≠ C.ownBlock := fun e => by have := (hLb go e.symm).1; omega
        have gbl : go < w6.heap.size := (unhide HK6).lt
        have farC : ∀ (p : Addr) (v : Value), p.block < go → w6.cell? p = some v → w7.cell? p = some v := fun p v hp hv => (hgrow7.cell_far p (by omega) (fun e => by have := (hLb _ e.symm).1; omega)).trans hv
        have HS7 : Hid (w7.cell? ⟨go, 0, none⟩ = some C ∧ w7.cell? ⟨g, 0, none⟩ = some (.slice (some a) n1 c1) ∧ w7.cell? (a.add (i * 5)) = some (.int .i64 y0) ∧ w7.cell? ⟨(a.add (i * 5)).block, (a.add (i * 5)).off + 1, none⟩ = some (.int .i64 y1) ∧ w7.cell? ⟨(a.add (i * 5)).block, (a.add (i * 5)).off + 2, none⟩ = some (.string y2) ∧ w7.cell? ⟨(a.add (i * 5)).block, (a.add (i * 5)).off + 3, none⟩ = some (.slice al' ll' cl') ∧ w7.cell? ⟨(a.add (i * 5)).block, (a.add (i * 5)).off + 4, none⟩ = some (.slice ak' m' ck')) := hide (by obtain ⟨b0, b1, b2, b3, b4, b5', b7⟩ := unhide HS6; exact ⟨(hgrow7.cell_far ⟨go, 0, none⟩ gbl fr).trans b0, farC _ _ (by show g < go; omega) b1, farC _ _ (by rw [block_add]; omega) b2, farC _ _ (by show (a.add (i * 5)).block < go; rw [block_add]; omega) b3, farC _ _ (by show (a.add (i * 5)).block < go; rw [block_add]; omega) b4, farC _ _ (by show (a.add (i * 5)).block < go; rw [block_add]; omega) b5', farC _ _ (by show (a.add (i * 5)).block < go; rw [block_add]; omega) b7⟩)
        have f7 : w7.frozen? ⟨go, 0, none⟩ = false := (hgrow7.frozen_far ⟨go, 0, none⟩ gbl fr).trans (frozen_of_row w6 go 0 _ _ (unhide HK6).box)
        have H7 := hide (And.intro hown7 (And.intro hgrow7 (And.intro hat7 fr)))
        refine hK.out _ _ (Or.inr (unhide HS7)) ?_
        clear hK K hown7 hgrow7 hat7 hlt7 hLb fr gbl farC
        try simp only [Act.put, List.setIfInBounds_toArray, List.set_cons_zero, List.set_cons_succ]
        refine till_take 10 (v := .pointer (some ⟨go, 0, none⟩)) (some 28) rfl rfl rfl (by kernel_rfl) (by kernel_rfl) (by kernel_rfl) (by kernel_rfl) (fun _ _ _ h => h) (Or.inl ⟨by rfl, fun u hu => by obtain ⟨b0, b1, b2, b3, b4, b5, b6⟩ := hu; go_simp⟩) (unhide HS7) ?_
        try simp only [Act.put, List.setIfInBounds_toArray, List.set_cons_zero, List.set_cons_succ]
        refine till_one 11 (by kernel_rfl) rfl (fun K hK => ?_)
        have c7 := (unhide HS7).1
        go_simp
        refine hK.out _ _ (Or.inl rfl) ?_
        clear hK K
        try simp only [Act.put, List.setIfInBounds_toArray, List.set_cons_zero, List.set_cons_succ]
        refine till_done (by kernel_rfl) ?_ _
        obtain ⟨w8, hw8⟩ : ∃ w8, w7.setCell ⟨go, 0, none⟩ (.slice (some ⟨g7, 0, none⟩) (i + 1) cap7) = w8 := ⟨_, rfl⟩
        have HK8 : Hid (CpM w3 noI w8 go (.slice (some ⟨g7, 0, none⟩) (i + 1) cap7) (.slice none 0 0) (.slice none 0 0) ⟨m.cs.take (i + 1), [], []⟩ (setV V i [.int .i64 k5, .int .i64 n5, .string s5, .slice al5 lc5 cl5, .slice ak5 mc5 ck5])) := hide (by
          obtain ⟨h5, b5⟩ := unhide H5
          obtain ⟨X6, at6, sz6⟩ := unhide H6
          obtain ⟨hown7, hgrow7, hat7, fr⟩ := unhide H7
          have hg7 : go + 1 ≤ g7 := (hown7.lt g7 rfl).1
          have hbox7 : w7.heap[go]? = some (.cells #[C, .slice none 0 0, .slice none 0 0] 26 (0, 0)) := (hgrow7.block go (unhide HK6).lt fr).trans (unhide HK6).box
          have hP := (unhide HK5).pushC (y := y) (cs := [.int .i64 k5, .int .i64 n5, .string s5, .slice al5 lc5 cl5, .slice ak5 mc5 ck5]) (w7 := w7) (w9 := w8) (g7 := g7) (cap7 := cap7) (lo := wr.heap.size) (n := i) (unhide HLEN)
            (fun b hb hne => (hgrow7.block b (by have := X6.size; omega) hne).trans (X6.block b hb)) (by have := X6.size; have := hgrow7.size; omega)
            ((X6.mono (by have := (unhide HK5).lt; omega)).trans ((Below.refl go w6).grown hgrow7 (by have := (unhide HK6).lt; omega) (fun q e => by have := (unhide HLb q e).1; omega)))
            (by rcases hat7 with e | e
                · exact Or.inl e
                · exact Or.inr (by omega))
            (by rw [← hw8]; exact own_later hown7 (fun b _ hv => by have := (hown7.lt b hv).1; rw [heap_setCell_other _ _ _ _ (show b ≠ go by omega)]))
            (by rw [← hw8, heap_setCell_same w7 go 0 _ _ _ hbox7]; rfl)
            (fun b hb _ => by rw [← hw8, heap_setCell_other _ _ _ _ hb]) (by rw [← hw8]; simp) (by rw [← hw8]; exact (Below.refl _ _).setCell (p := ⟨go, 0, none⟩) (Nat.le_refl _) _) rfl
            (h5.to (fun _ _ => rfl) (fun b hb => ⟨hb.1, hb.2⟩)) (fun b e => by have := (unhide HLb b e).2; omega) (fun b e => by simp [Value.ownBlock] at e) (fun b e => by simp [Value.ownBlock] at e) (unhide HK).lt
          dsimp only at hP
          rw [take_add_one _ _ _ (unhide HY).1] at hP
          exact hP)
        rw [hw8]
        clear hw8 f7 c7
        go_wp2_with fail
        go_roundw
        case rel => exact ⟨i + 1, _, _, by go_num, HI1, HK8⟩
        case measure => have := unhide HI1; simp [intOf]; omega
      · have i1 : ¬ (i : Int) < (n1 : Int) := by omega
        have HKC : Hid (CpM w3 noI wr go C (.slice none 0 0) (.slice none 0 0) ⟨m.cs, [], []⟩ V) := hide (by
          have h1 := unhide HK
          rw [List.take_of_length_le (by have := (unhide HN).1; omega)] at h1
          exact h1)
        clear HK HI
        obtain ⟨p0, p1, p2⟩ := row_cell3 (unhide HKC).box
        have pf1 := frozen_of_row wr go 1 _ _ (unhide HKC).box
        have hslo := (unhide HKC).lt
        have tokB : True := trivial
        go_upto_region 10 with (first | (have _t := tokB; at_builtin; refine wpl_nilK rfl (.tmp 30) (.tmp 32) 23 43 if_ (.agg #[.int .i64 0, .int .i64 0, .int .i64 0, .string ⟨#[]⟩]) 4 40 rfl Try.underlying23 (unhide HIF).1 (unhide HIF).2.1 (unhide HIF).2.2.1 (unhide HIF).2.2.2 rfl (by omega) (m.fs.map fnV) a2 n2 c2 _ rfl rfl (by have := (unhide HN).2.1; simpa using this) (unhide HS3 wr (unhide HKC).old).1.mod.hf (fnV_rows m.fs) (by omega) (by omega) ?_; intro v8 w8 H8; clear tokB; obtain ⟨q8, p8, rfl, hsl⟩ := slice_form (unhide H8).1; clear hsl; have b8 := ((unhide H8).2.block go hslo).trans (unhide HKC).box; have k3 := (row_cell3 b8).2.1; have f3 : w8.frozen? ⟨go, 1, none⟩ = false := frozen_of_row w8 go 1 _ _ b8; clear b8 p0 p1 p2 pf1 m0 m1 m2))
        obtain ⟨w9, hw9⟩ : ∃ w9, w8.setCell ⟨go, 1, none⟩ (.slice q8 n2 p8) = w9 := ⟨_, rfl⟩
        have HK9 : Hid (CpM w3 noI w9 go C (.slice q8 n2 p8) (.slice none 0 0) ⟨m.cs, m.fs, []⟩ V) := hide (by
          obtain ⟨hown8, hb8⟩ := unhide H8
          have hP := (unhide HKC).putF (fs' := m.fs) (w1 := w8) (F' := .slice q8 n2 p8) (by
            have h1 := own_low hown8 (show go + 1 ≤ wr.heap.size by omega)
            rw [← List.flatMap_def] at h1
            rw [(unhide HN).2.1]
            exact h1) ⟨⟨hb8.os, hb8.tape, hb8.output, hb8.size, fun k hk _ => hb8.block k hk⟩, fun b hb => Or.inr (hown8.lt b hb).1⟩
          rw [hw9] at hP
          exact hP)
        rw [hw9]
        clear hw9 k3 f3 H8 hslo HKC
        obtain ⟨m0, m1, m2⟩ := row_cell3 (unhide HS3 w9 (unhide HK9).old).1.box
        obtain ⟨p0, p1, p2⟩ := row_cell3 (unhide HK9).box
        have pf2 := frozen_of_row w9 go 2 _ _ (unhide HK9).box
        have hslo := (unhide HK9).lt
        have tokC : True := trivial
        go_upto_region 11 with (first | (have _t := tokC; at_builtin; refine wpl_nilK rfl (.tmp 36) (.tmp 38) 24 45 ix (.agg #[.string ⟨#[]⟩, .int .i64 0]) 2 24 rfl Try.underlying24 (unhide HIX).1 (unhide HIX).2.1 (unhide HIX).2.2.1 (unhide HIX).2.2.2 rfl (by omega) (m.xs.map exV) a3 n3 c3 _ rfl rfl (by have := (unhide HN).2.2; simpa using this) (unhide HS3 w9 (unhide HK9).old).1.mod.hx (exV_rows m.xs) (by omega) (by omega) ?_; intro v8 w8' H8; clear tokC; obtain ⟨q9, p9, rfl, hsl⟩ := slice_form (unhide H8).1; clear hsl; have b8 := ((unhide H8).2.block go hslo).trans (unhide HK9).box; have k3 := (row_cell3 b8).2.2; have f3 : w8'.frozen? ⟨go, 2, none⟩ = false := frozen_of_row w8' go 2 _ _ b8; clear b8 p0 p1 p2 pf2 m0 m1 m2))
        obtain ⟨wr2, hwr2⟩ : ∃ w9, w8'.setCell ⟨go, 2, none⟩ (.slice q9 n3 p9) = w9 := ⟨_, rfl⟩
        have HKX : Hid (CpM w3 noI wr2 go C (.slice q8 n2 p8) (.slice q9 n3 p9) m V) := hide (by
          obtain ⟨hown8, hb8⟩ := unhide H8
          have hP := (unhide HK9).putX (xs' := m.xs) (w1 := w8') (X' := .slice q9 n3 p9) (by
            have h1 := own_low hown8 (show go + 1 ≤ w9.heap.size by omega)
            rw [← List.flatMap_def] at h1
            rw [(unhide HN).2.2]
            exact h1) ⟨⟨hb8.os, hb8.tape, hb8.output, hb8.size, fun k hk _ => hb8.block k hk⟩, fun b hb => Or.inr (hown8.lt b hb).1⟩
          rw [hwr2] at hP
          exact hP)
        rw [hwr2]
        clear hwr2 k3 f3 H8 hslo HK9
        obtain ⟨b1, f1, b2, f2, b3, f3, rfl, hq8, hq9, hIM, hOM⟩ := (unhide HKX).made (unhide HF).1
        simp only [Value.slice.injEq] at hq8 hq9
        obtain ⟨hqa, hqn, hqc⟩ := hq8
        obtain ⟨hqa', hqn', hqc'⟩ := hq9
        clear hqn hqn'
        subst hqa hqc hqa' hqc'
        have HIM := hide (And.intro hIM hOM)
        obtain ⟨hn1, hn2, hn3⟩ := unhide HN
        rw [hn1] at HKX
        obtain ⟨p0, p1, p2⟩ := row_cell3 (unhide HKX).box
        obtain ⟨_, hrr, hbg⟩ := unhide HS3 wr2 (unhide HKX).old
        obtain ⟨s0, s1, s2⟩ := row_cell3 hrr
        have sf0 := frozen_of_row wr2 (g + 1) 0 _ _ hrr
        have sf1 := frozen_of_row wr2 (g + 1) 1 _ _ hrr
        have sf2 := frozen_of_row wr2 (g + 1) 2 _ _ hrr
        have HRR := hide (And.intro hrr hbg)
        try rw [hn1]
        try rw [hn2]
        try rw [hn3]
        clear hIM hOM hrr hbg hn1 hn2 hn3
        go_wp2_with fail
        have F9 := three_set wr2 (g + 1) _ _ _ _ (.slice b1 n1 f1) (.slice q8 n2 p8) (.slice q9 n3 p9) (unhide HRR).1
        have B9 : Below g w (((wr2.setCell ⟨g + 1, 0, none⟩ (.slice b1 n1 f1)).setCell ⟨g + 1, 1, none⟩ (.slice q8 n2 p8)).setCell ⟨g + 1, 2, none⟩ (.slice q9 n3 p9)) := (((unhide HRR).2.setCell (p := ⟨g + 1, 0, none⟩) (by show g ≤ g + 1; omega) _).setCell (p := ⟨g + 1, 1, none⟩) (by show g ≤ g + 1; omega) _).setCell (p := ⟨g + 1, 2, none⟩) (by show g ≤ g + 1; omega) _
        have O9 : ∀ q, q ≠ g + 1 → (((wr2.setCell ⟨g + 1, 0, none⟩ (.slice b1 n1 f1)).setCell ⟨g + 1, 1, none⟩ (.slice q8 n2 p8)).setCell ⟨g + 1, 2, none⟩ (.slice q9 n3 p9)).heap[q]? = wr2.heap[q]? := fun q hq => by rw [heap_setCell_other _ _ _ _ hq, heap_setCell_other _ _ _ _ hq, heap_setCell_other _ _ _ _ hq]
        have S9 : (((wr2.setCell ⟨g + 1, 0, none⟩ (.slice b1 n1 f1)).setCell ⟨g + 1, 1, none⟩ (.slice q8 n2 p8)).setCell ⟨g + 1, 2, none⟩ (.slice q9 n3 p9)).heap.size = wr2.heap.size := by simp
        generalize (((wr2.setCell ⟨g + 1, 0, none⟩ (.slice b1 n1 f1)).setCell ⟨g + 1, 1, none⟩ (.slice q8 n2 p8)).setCell ⟨g + 1, 2, none⟩ (.slice q9 n3 p9)) = w9 at F9 B9 O9 S9 ⊢
        obtain ⟨t0, t1, t2⟩ := row_cell3 F9
        refine bodyPost_ret (v := .agg #[.slice b1 n1 f1, .slice q8 n2 p8, .slice q9 n3 p9]) (by simp [results, Try.results10, go_sem, t0, t1, t2]) rfl ?_
        obtain ⟨hIM, hOM⟩ := unhide HIM
        obtain ⟨hn1, hn2, hn3⟩ := unhide HN
        refine ⟨b1, q8, q9, f1, p8, p9, by rw [hn1, hn2, hn3], ?_, ?_, by first | exact B9 | (rw [hg]; exact B9)⟩
        · exact hIM.to (fun b hb => O9 b (by omega)) (fun b hb => ⟨by omega, by rw [S9]; exact hb.2⟩)
        · exact hOM.to (fun b hb => O9 b (by omega)) (fun b hb => ⟨by omega, by rw [S9]; exact hb.2⟩)
end Go.Proofs.Ytpdfggjhedgdlaa
