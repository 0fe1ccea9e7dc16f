/-
  The walks of readFunc and readExport of a module's reader (layer 9); no conditions but the form's own reach.
-/
import Derived.Test.YtfdnhpmldnmncaaR32
import Derived.Deep.AppendLies
namespace Go.Proofs.Ytfdnhpmldnmncaa
open Go.RowKit

/-- what a reader of one part answers -/
def ResRd (w0 : World) (I : Nat → Obj → Prop) (gr : Nat) (vb vy : Value) (r : Except (Int × Int) (Md × Nat)) (e : Ending) (w' : World) : Prop :=
  match r with
  | .error p => e = .returned (.int .i64 p.1) ∧ ∃ C F X m V, RdM w0 I w' gr vb vy p.2 C F X m V
  | .ok (m, n) => e = .returned (.int .i64 0) ∧ ∃ C F X V, RdM w0 I w' gr vb vy (n : Int) C F X m V

theorem own_apartM {w : World} {b1 b2 : Nat} {e1 e2 : TypeId} {s1 s2 n1 n2 : Nat} {v1 v2 : Value} {x1 x2 : List Value} (h1 : w.ownsRow b1 e1 s1 v1 n1 x1) (h2 : w.ownsRow b2 e2 s2 v2 n2 x2) (hne : e1 ≠ e2) (b : Nat) (hb : v1.ownBlock = some b) : some b ≠ v2.ownBlock := by
  rcases h1.2 with ⟨rfl, _⟩ | ⟨g1, c1, cur1, rfl, _, hg1, _⟩
  · cases hb
  · rcases h2.2 with ⟨rfl, _⟩ | ⟨g2, c2, cur2, rfl, _, hg2, _⟩
    · simp [Value.ownBlock]
    · intro e
      have e' : g1 = b := by simpa [Value.ownBlock] using hb
      have e'' : b = g2 := by simpa [Value.ownBlock] using e
      subst e'
      subst e''
      rw [hg1] at hg2
      simp at hg2
      exact hne hg2.2

/-- append of one element that was just laid -/
theorem wpl_oneM {P : Program} {w : World} {ops : Array Oper} {rest : List Oper} {o : Oper} {a : Act} {Q : Exit → Act → World → Prop} (hgd : o.guard = none) (sl x : Operand) (T e : TypeId) (i0 : TypeInfo) (z : Value) (size bytes : Nat)
    (hu : P.underlying T = some (.slice e)) (hi : P.info? e = some i0) (hz : i0.zero = some z) (hs1 : i0.size = size) (hby : i0.bytes = bytes) (hzs : z.cells.size = size) (hsz : 0 < size)
    (ho : o.op = .call { callee := .builtin .append, args := #[sl, x], argTypes := #[T, T] })
    (base n : Nat) (v : Value) (xs : List Value) (A : List Value) (hA : A.length = size) (h1 : ∀ u ∈ A, u.oneCell' = true) (hs : a.eval sl = v) (hown : w.ownsRow base e size v n xs)
    (hx : a.eval x = .slice (some ⟨w.heap.size, 0, none⟩) 1 1) (hn : n + 1 ≤ maxLen) (hbytes : (n + 1) * bytes ≤ 140737488355328) (hbase : base ≤ w.heap.size)
    (h : ∀ v' w', Hid (w'.ownsRow base e size v' (n + 1) (xs ++ A) ∧ Grew w w' v v') → wpList P ops Q rest (a.put o.dst v') w') :
    wpList P ops Q (o :: rest) a (w.alloc (.cells A.toArray e)) := by
  refine wpList_plain hgd fun K hK => ?_
  have hb : Below w.heap.size w (w.alloc (.cells A.toArray e)) := (Below.refl _ _).alloc (Nat.le_refl _) _
  have hnew := heap_alloc_new w (.cells A.toArray e)
  have hz1 : (w.alloc (.cells A.toArray e)).heap.size = w.heap.size + 1 := by simp
  obtain ⟨v', w', hrun, r1, r2, _, r4⟩ := run_append_own_at (P := P) (w.alloc (.cells A.toArray e)) base T o.type e i0 z size bytes hu hi hz hs1 hby hzs hsz v n xs (hown.alloc _) ⟨w.heap.size, 0, none⟩ 1 1 A (by omega) (fun j u hj => World.news_of_block hnew j u (by simpa using hj)) h1 hn hbytes (by omega)
  unfold Oper.wp
  simp only [execOp, ho, resolve, invoke, builtin, Sem.run_bind, Sem.run_pure, Result.andThen_ok, List.map_toArray, List.map_cons, List.map_nil, hs, hx, hrun]
  refine hK _ _ (h v' w' ⟨r1, ⟨r2.os, r2.tape, r2.output, by have := r2.size; omega, fun k hk hne => (r2.block k (by omega) hne).trans (heap_alloc_old w _ hk)⟩, fun b hb' => ?_⟩)
  rcases r4 with e' | e'
  · exact Or.inl (by rw [← e']; exact hb')
  · rw [hb'] at e'
    exact Or.inr (by rw [Option.some.inj e', hz1]; omega)

theorem infoFn : (Try.prog.info? 53).map (fun i => (i.zero, i.size, i.bytes)) = some (some (.agg #[.int .i64 0, .int .i64 0, .int .i64 0, .string ⟨#[]⟩]), 4, 40) := by kernel_rfl
theorem infoEx : (Try.prog.info? 55).map (fun i => (i.zero, i.size, i.bytes)) = some (some (.agg #[.string ⟨#[]⟩, .int .i64 0]), 2, 24) := by kernel_rfl

theorem flatMap_snoc {α β : Type} (f : α → List β) (l : List α) (x : α) : (l ++ [x]).flatMap f = l.flatMap f ++ f x := by simp [List.flatMap_append]

/-- one function more in the module -/
theorem RdM.pushF {w0 w w1 : World} {I : Nat → Obj → Prop} {gr : Nat} {vb vy : Value} {a : Int} {C F F' X : Value} {m : Md} {V : Nat → List Value} {f : Fn} (h : RdM w0 I w gr vb vy a C F X m V) (hown : w1.ownsRow (gr + 1) 53 4 F' (m.fs.length + 1) (m.fs.flatMap fnV ++ fnV f)) (hg : Grew w w1 F F') :
    RdM w0 I (w1.setCell ⟨gr, 4, none⟩ F') gr vb vy a C F' X ⟨m.cs, m.fs ++ [f], m.xs⟩ V := by
  have hgF : ∀ b, F.ownBlock = some b → gr + 1 ≤ b ∧ b < w.heap.size := h.ownF.lt
  have hgr : some gr ≠ F.ownBlock := fun e => by have := (hgF gr e.symm).1; omega
  have hlt := h.lt
  have keep : ∀ b, b < w.heap.size → b ≠ gr → some b ≠ F.ownBlock → (w1.setCell ⟨gr, 4, none⟩ F').heap[b]? = w.heap[b]? := fun b hb hn hf => by rw [heap_setCell_other _ _ _ _ (by simpa using hn)]; exact hg.far hb hf
  have hsz : (w1.setCell ⟨gr, 4, none⟩ F').heap.size = w1.heap.size := by simp
  have hs1 := hg.grown.size
  have hFb : ∀ b, F'.ownBlock = some b → F.ownBlock = some b ∨ w.heap.size ≤ b := hg.row
  refine ⟨?_, ?_, ?_, ?_, ?_, h.row, ?_, ?_⟩
  · rw [heap_setCell_same w1 gr 4 _ _ _ ((hg.far hlt hgr).trans h.box)]; rfl
  · have hb : Below (gr + 1) w w1 := (Below.refl _ _).grown hg.grown (by omega) (fun k e => (hgF k e).1)
    have hb' : Below gr w w1 := hb.mono (Nat.le_succ _)
    exact h.old.trans (hb'.setCell (p := ⟨gr, 4, none⟩) (Nat.le_refl _) _)
  · exact own_later h.ownC (fun b hl hv => keep b hl (by have := (h.ownC.lt b hv).1; omega) (own_apartM h.ownC h.ownF (by decide) b hv))
  · rw [List.length_append, List.length_singleton, flatMap_snoc]
    exact own_later hown (fun b hl hv => by rw [heap_setCell_other _ _ _ _ (by have := (hown.lt b hv).1; simp; omega)])
  · exact own_later h.ownX (fun b hl hv => keep b hl (by have := (h.ownX.lt b hv).1; omega) (own_apartM h.ownX h.ownF (by decide) b hv))
  · intro c y hy
    refine (h.el c y hy).to (fun b hP => keep b hP.2.1 (by have := hP.1; omega) hP.2.2.2.1) (fun b hP => ⟨hP.1, by rw [hsz]; have := hP.2.1; omega, hP.2.2.1, fun e => ?_, hP.2.2.2.2⟩)
    rcases hFb b e.symm with e' | e'
    · exact hP.2.2.2.1 e'.symm
    · have := hP.2.1; omega
  · intro b c hI
    obtain ⟨i1, i2, i3, i4, i5⟩ := h.side b c hI
    have hbl := (Array.getElem?_eq_some_iff.1 i1).1
    refine ⟨(keep b hbl i2 i4).trans i1, i2, i3, fun e => ?_, i5⟩
    rcases hFb b e.symm with e' | e'
    · exact i4 e'.symm
    · omega

/-- one export more in the module -/
theorem RdM.pushX {w0 w w1 : World} {I : Nat → Obj → Prop} {gr : Nat} {vb vy : Value} {a : Int} {C F X X' : Value} {m : Md} {V : Nat → List Value} {x : Ex} (h : RdM w0 I w gr vb vy a C F X m V) (hown : w1.ownsRow (gr + 1) 55 2 X' (m.xs.length + 1) (m.xs.flatMap exV ++ exV x)) (hg : Grew w w1 X X') :
    RdM w0 I (w1.setCell ⟨gr, 5, none⟩ X') gr vb vy a C F X' ⟨m.cs, m.fs, m.xs ++ [x]⟩ V := by
  have hgF : ∀ b, X.ownBlock = some b → gr + 1 ≤ b ∧ b < w.heap.size := h.ownX.lt
  have hgr : some gr ≠ X.ownBlock := fun e => by have := (hgF gr e.symm).1; omega
  have hlt := h.lt
  have keep : ∀ b, b < w.heap.size → b ≠ gr → some b ≠ X.ownBlock → (w1.setCell ⟨gr, 5, none⟩ X').heap[b]? = w.heap[b]? := fun b hb hn hf => by rw [heap_setCell_other _ _ _ _ (by simpa using hn)]; exact hg.far hb hf
  have hsz : (w1.setCell ⟨gr, 5, none⟩ X').heap.size = w1.heap.size := by simp
  have hs1 := hg.grown.size
  have hFb : ∀ b, X'.ownBlock = some b → X.ownBlock = some b ∨ w.heap.size ≤ b := hg.row
  refine ⟨?_, ?_, ?_, ?_, ?_, h.row, ?_, ?_⟩
  · rw [heap_setCell_same w1 gr 5 _ _ _ ((hg.far hlt hgr).trans h.box)]; rfl
  · have hb : Below (gr + 1) w w1 := (Below.refl _ _).grown hg.grown (by omega) (fun k e => (hgF k e).1)
    have hb' : Below gr w w1 := hb.mono (Nat.le_succ _)
    exact h.old.trans (hb'.setCell (p := ⟨gr, 5, none⟩) (Nat.le_refl _) _)
  · exact own_later h.ownC (fun b hl hv => keep b hl (by have := (h.ownC.lt b hv).1; omega) (own_apartM h.ownC h.ownX (by decide) b hv))
  · exact own_later h.ownF (fun b hl hv => keep b hl (by have := (h.ownF.lt b hv).1; omega) (own_apartM h.ownF h.ownX (by decide) b hv))
  · rw [List.length_append, List.length_singleton, flatMap_snoc]
    exact own_later hown (fun b hl hv => by rw [heap_setCell_other _ _ _ _ (by have := (hown.lt b hv).1; simp; omega)])
  · intro c y hy
    refine (h.el c y hy).to (fun b hP => keep b hP.2.1 (by have := hP.1; omega) hP.2.2.2.2) (fun b hP => ⟨hP.1, by rw [hsz]; have := hP.2.1; omega, hP.2.2.1, hP.2.2.2.1, fun e => ?_⟩)
    rcases hFb b e.symm with e' | e'
    · exact hP.2.2.2.2 e'.symm
    · have := hP.2.1; omega
  · intro b c hI
    obtain ⟨i1, i2, i3, i4, i5⟩ := h.side b c hI
    have hbl := (Array.getElem?_eq_some_iff.1 i1).1
    refine ⟨(keep b hbl i2 i5).trans i1, i2, i3, i4, fun e => ?_⟩
    rcases hFb b e.symm with e' | e'
    · exact i5 e'.symm
    · omega

theorem no_code {bs : List Int} {a : Nat} {most above c : Int} (h : rdNo bs a most above = .error c) : c = 91 ∨ c = above := by
  unfold rdNo at h
  split at h
  · cases h; exact Or.inl rfl
  · split at h
    · cases h; exact Or.inr rfl
    · cases h
theorem tx_code {bs : List Int} {a : Nat} {most c : Int} (h : rdTx bs a most = .error c) : c = 91 ∨ c = 92 := by
  unfold rdTx at h
  split at h
  · cases h; exact Or.inr rfl
  · split at h
    · cases h; exact Or.inl rfl
    · cases h

set_option maxRecDepth 100000 in
set_option maxHeartbeats 2000000 in
theorem readF_any (w0 : World) (I : Nat → Obj → Prop) (gr : Nat) (vb : Value) (bo : Option Addr) (e bc : Nat) (a : Nat) (C F X : Value) (m : Md) (V : Nat → List Value) (bs : List Int) (w : World) (h : RdM w0 I w gr vb (.slice bo e bc) a C F X m V) (hy : Row8 w0 bo e bc bs) (hg : w0.heap.size ≤ gr) (hm : bc ≤ maxLen) (hl : m.fs.length ≤ 100) :
    Calls Try.prog 38 #[.pointer (some ⟨gr, 0, none⟩)] w fun e' w' => ResRd w0 I gr vb (.slice bo e bc) (rdF bs m a) e' w' := by
  have HY := hide hy
  have C1 := hide (number_any w0 I gr vb bo e bc a C F X m V bs 8 92 w h hy hg hm (by omega))
  clear h hy
  unfold rdF
  cases h1 : rdNo bs a 8 92 with
  | error c =>
    rw [h1] at C1
    have k1 : ¬ c = 0 := by have := no_code h1; omega
    clear h1
    go_enter Try.func38, Try.ntmps38
    go_wp2_with fail
    refine (unhide C1).mono ?_
    rintro e1 u1 ⟨rfl, R1⟩
    have H1 := hide R1
    clear R1 C1
    go_wp2_with fail
    go_ret
    exact ⟨rfl, _, _, _, _, _, unhide H1⟩
  | ok r1 =>
    obtain ⟨p, a1⟩ := r1
    rw [h1] at C1
    dsimp only
    clear h1
    cases h2 : rdNo bs a1 32 92 with
    | error c =>
      have k1 : ¬ c = 0 := by have := no_code h2; omega
      dsimp only
      go_enter Try.func38, Try.ntmps38
      go_wp2_with fail
      refine (unhide C1).mono ?_
      rintro e1 u1 ⟨rfl, R1⟩
      have C2 := hide (number_any w0 I gr vb bo e bc a1 C F X m V bs 32 92 u1 R1 (unhide HY) hg hm (by omega))
      rw [h2] at C2
      obtain ⟨c0, c1, c2, c3, c4, c5⟩ := row_cells6 R1.box
      clear R1 C1
      go_wp2_with fail
      refine (unhide C2).mono ?_
      rintro e2 u2 ⟨rfl, R2⟩
      have H2 := hide R2
      clear R2 C2 c0 c1 c2 c3 c4 c5
      go_wp2_with fail
      go_ret
      exact ⟨rfl, _, _, _, _, _, unhide H2⟩
    | ok r2 =>
      obtain ⟨l, a2⟩ := r2
      dsimp only
      by_cases hlp : l < p
      · rw [if_pos hlp]
        go_enter Try.func38, Try.ntmps38
        go_wp2_with fail
        refine (unhide C1).mono ?_
        rintro e1 u1 ⟨rfl, R1⟩
        have C2 := hide (number_any w0 I gr vb bo e bc a1 C F X m V bs 32 92 u1 R1 (unhide HY) hg hm (by omega))
        rw [h2] at C2
        obtain ⟨c0, c1, c2, c3, c4, c5⟩ := row_cells6 R1.box
        clear R1 C1
        go_wp2_with fail
        refine (unhide C2).mono ?_
        rintro e2 u2 ⟨rfl, R2⟩
        have H2 := hide R2
        have fz := frozen_of_row u2 gr 2 _ _ R2.box
        obtain ⟨d0, d1, d2, d3, d4, d5⟩ := row_cells6 R2.box
        clear R2 C2 c0 c1 c2 c3 c4 c5
        go_wp2_with fail
        go_ret
        exact ⟨rfl, _, _, _, _, _, (unhide H2).setAt _⟩
      · rw [if_neg hlp]
        cases h3 : rdNo bs a2 40 92 with
        | error c =>
          have k1 : ¬ c = 0 := by have := no_code h3; omega
          dsimp only
          go_enter Try.func38, Try.ntmps38
          go_wp2_with fail
          refine (unhide C1).mono ?_
          rintro e1 u1 ⟨rfl, R1⟩
          have C2 := hide (number_any w0 I gr vb bo e bc a1 C F X m V bs 32 92 u1 R1 (unhide HY) hg hm (by omega))
          rw [h2] at C2
          obtain ⟨c0, c1, c2, c3, c4, c5⟩ := row_cells6 R1.box
          clear R1 C1
          go_wp2_with fail
          refine (unhide C2).mono ?_
          rintro e2 u2 ⟨rfl, R2⟩
          have C3 := hide (number_any w0 I gr vb bo e bc a2 C F X m V bs 40 92 u2 R2 (unhide HY) hg hm (by omega))
          rw [h3] at C3
          clear R2 C2 c0 c1 c2 c3 c4 c5
          go_wp2_with fail
          refine (unhide C3).mono ?_
          rintro e3 u3 ⟨rfl, R3⟩
          have H3 := hide R3
          clear R3 C3
          go_wp2_with fail
          go_ret
          exact ⟨rfl, _, _, _, _, _, unhide H3⟩
        | ok r3 =>
          obtain ⟨s, a3⟩ := r3
          dsimp only
          cases h4 : rdTx bs a3 4000 with
          | error c =>
            have k1 : ¬ c = 0 := by have := tx_code h4; omega
            dsimp only
            go_enter Try.func38, Try.ntmps38
            go_wp2_with fail
            refine (unhide C1).mono ?_
            rintro e1 u1 ⟨rfl, R1⟩
            have C2 := hide (number_any w0 I gr vb bo e bc a1 C F X m V bs 32 92 u1 R1 (unhide HY) hg hm (by omega))
            rw [h2] at C2
            obtain ⟨c0, c1, c2, c3, c4, c5⟩ := row_cells6 R1.box
            clear R1 C1
            go_wp2_with fail
            refine (unhide C2).mono ?_
            rintro e2 u2 ⟨rfl, R2⟩
            have C3 := hide (number_any w0 I gr vb bo e bc a2 C F X m V bs 40 92 u2 R2 (unhide HY) hg hm (by omega))
            rw [h3] at C3
            clear R2 C2 c0 c1 c2 c3 c4 c5
            go_wp2_with fail
            refine (unhide C3).mono ?_
            rintro e3 u3 ⟨rfl, R3⟩
            have C4 := hide (textM_any w0 I gr vb bo e bc a3 C F X m V bs 4000 u3 R3 (unhide HY) hg hm (by omega))
            rw [h4] at C4
            clear R3 C3
            go_wp2_with fail
            refine (unhide C4).mono ?_
            rintro e4 u4 ⟨rfl, R4⟩
            have H4 := hide R4
            clear R4 C4
            go_wp2_with fail
            go_ret
            exact ⟨rfl, _, _, _, _, _, unhide H4⟩
          | ok r4 =>
            obtain ⟨t, a4⟩ := r4
            dsimp only
            go_enter Try.func38, Try.ntmps38
            go_wp2_with fail
            refine (unhide C1).mono ?_
            rintro e1 u1 ⟨rfl, R1⟩
            have C2 := hide (number_any w0 I gr vb bo e bc a1 C F X m V bs 32 92 u1 R1 (unhide HY) hg hm (by omega))
            rw [h2] at C2
            obtain ⟨c0, c1, c2, c3, c4, c5⟩ := row_cells6 R1.box
            clear R1 C1
            go_wp2_with fail
            refine (unhide C2).mono ?_
            rintro e2 u2 ⟨rfl, R2⟩
            have C3 := hide (number_any w0 I gr vb bo e bc a2 C F X m V bs 40 92 u2 R2 (unhide HY) hg hm (by omega))
            rw [h3] at C3
            clear R2 C2 c0 c1 c2 c3 c4 c5
            go_wp2_with fail
            refine (unhide C3).mono ?_
            rintro e3 u3 ⟨rfl, R3⟩
            have C4 := hide (textM_any w0 I gr vb bo e bc a3 C F X m V bs 4000 u3 R3 (unhide HY) hg hm (by omega))
            rw [h4] at C4
            clear R3 C3
            go_wp2_with fail
            refine (unhide C4).mono ?_
            rintro e4 u4 ⟨rfl, R4⟩
            have H4 := hide R4
            obtain ⟨c0, c1, c2, c3, c4, c5⟩ := row_cells6 R4.box
            obtain ⟨i0, hi, hz0, hz1, hz2⟩ := info_parts infoFn
            obtain ⟨nF, hnF⟩ : ∃ nF, m.fs.length = nF := ⟨_, rfl⟩
            have hOw : u4.ownsRow (gr + 1) 53 4 F nF (m.fs.flatMap fnV) := by rw [← hnF]; exact R4.ownF
            have HOw := hide hOw
            have hbs : gr + 1 ≤ u4.heap.size := R4.lt
            have hn100 : nF ≤ 100 := by omega
            have HNF := hide hnF
            have fz : ∀ F' w5, Hid (w5.ownsRow (gr + 1) 53 4 F' (nF + 1) (m.fs.flatMap fnV ++ fnV (p, l, s, t)) ∧ Grew u4 w5 F F') → w5.frozen? ⟨gr, 4, none⟩ = false ∧ w5.cell? ⟨gr, 4, none⟩ = some F := fun F' w5 H5 => by
              have hb := ((unhide H5).2.far (unhide H4).lt (fun e => by have := ((unhide HOw).lt gr e.symm).1; omega)).trans (unhide H4).box
              exact ⟨frozen_of_row w5 gr 4 _ _ hb, (row_cells6 hb).2.2.2.2.1⟩
            have HFZ := hide fz
            clear R4 C4 hOw hnF fz
            go_wp2_with (first | (at_builtin; refine wpl_oneM rfl (.tmp 57) (.tmp 63) 25 53 i0 _ 4 40 Try.underlying25 hi hz0 hz1 hz2 rfl (by omega) rfl (gr + 1) nF F (m.fs.flatMap fnV) (fnV (p, l, s, t)) rfl (by simp [fnV, Value.oneCell']) rfl (unhide HOw) rfl (by unfold maxLen; omega) (by omega) hbs ?_; intro F5 w5 o5; obtain ⟨z1, z2⟩ := unhide HFZ F5 w5 o5; obtain ⟨a5, p5, h5, _⟩ := slice_form (unhide o5).1; subst h5))
            go_ret
            have H9 := (unhide H4).pushF (f := (p, l, s, t)) (by rw [unhide HNF]; exact (unhide o5).1) (unhide o5).2
            exact ⟨rfl, _, _, _, _, H9⟩

set_option maxRecDepth 100000 in
set_option maxHeartbeats 2000000 in
theorem readX_any (w0 : World) (I : Nat → Obj → Prop) (gr : Nat) (vb : Value) (bo : Option Addr) (e bc : Nat) (a : Nat) (C F X : Value) (m : Md) (V : Nat → List Value) (bs : List Int) (w : World) (h : RdM w0 I w gr vb (.slice bo e bc) a C F X m V) (hy : Row8 w0 bo e bc bs) (hg : w0.heap.size ≤ gr) (hm : bc ≤ maxLen) (hl : m.xs.length ≤ 100) (hlf : m.fs.length ≤ 100) :
    Calls Try.prog 41 #[.pointer (some ⟨gr, 0, none⟩)] w fun e' w' => ResRd w0 I gr vb (.slice bo e bc) (rdX bs m a) e' w' := by
  have HY := hide hy
  have C1 := hide (textM_any w0 I gr vb bo e bc a C F X m V bs 20 w h hy hg hm (by omega))
  obtain ⟨c0, c1, c2, c3, c4, c5⟩ := row_cells6 h.box
  have hsz20 : ∀ t a1, rdTx bs a 20 = .ok (t, a1) → t.size ≤ 140737488351232 := fun t a1 ht => by
    unfold rdTx at ht
    split at ht
    · cases ht
    · split at ht
      · cases ht
      · rename_i h0
        simp only [Except.ok.injEq, Prod.mk.injEq] at ht
        obtain ⟨_, _, _, _, hb, _⟩ := text_form bs 20 a hy.small (by simpa using h0)
        have e1 : (textOfU bs 20 (uintAt bs ↑a)).1 = t := ht.1
        rw [e1] at hb
        omega
  clear h hy
  unfold rdX
  cases h1 : rdTx bs a 20 with
  | error c =>
    rw [h1] at C1
    have k1 : ¬ c = 0 := by have := tx_code h1; omega
    clear h1
    go_enter Try.func41, Try.ntmps41
    go_wp2_with fail
    refine (unhide C1).mono ?_
    rintro e1 u1 ⟨rfl, R1⟩
    have H1 := hide R1
    clear R1 C1 c0 c1 c2 c3 c4 c5
    go_wp2_with fail
    go_ret
    exact ⟨rfl, _, _, _, _, _, unhide H1⟩
  | ok r1 =>
    obtain ⟨t, a1⟩ := r1
    rw [h1] at C1
    have ht := hsz20 t a1 h1
    dsimp only
    clear h1 hsz20
    have b2 := bl_not (lastN m).toList t.toList
    cases hN : nameB t with
    | false =>
      rw [if_pos (by simp)]
      go_enter Try.func41, Try.ntmps41
      go_wp2_with fail
      refine (unhide C1).mono ?_
      rintro e1 u1 ⟨rfl, R1⟩
      have H1 := hide R1
      have fz := frozen_of_row u1 gr 2 _ _ R1.box
      obtain ⟨d0, d1, d2, d3, d4, d5⟩ := row_cells6 R1.box
      have CN := hide (isName_any t u1 ht)
      rw [hN] at CN
      clear R1 C1 c0 c1 c2 c3 c4 c5 b2 hN
      go_wp2_with fail
      refine (unhide CN).mono ?_
      rintro e2 u2 ⟨rfl, rfl⟩
      go_wp2_with fail
      go_ret
      exact ⟨rfl, _, _, _, _, _, (unhide H1).setAt _⟩
    | true =>
      cases hL : Op.bytesLess (lastN m).toList t.toList with
      | false =>
        rw [hL] at b2
        have b3 : (Op.bytesLess t.toList (lastN m).toList || t.toList == (lastN m).toList) = true := by cases h : (Op.bytesLess t.toList (lastN m).toList || t.toList == (lastN m).toList) with | true => rfl | false => rw [h] at b2; cases b2
        rw [if_pos (by simp)]
        obtain ⟨lN, hlN⟩ : ∃ lN, lastN m = lN := ⟨_, rfl⟩
        rw [hlN] at b3
        have HlN := hide hlN
        have HN' := hide hN
        clear b2 hlN hN hL
        go_enter Try.func41, Try.ntmps41
        go_wp2_with fail
        refine (unhide C1).mono ?_
        rintro e1 u1 ⟨rfl, R1⟩
        have H1 := hide R1
        have CN := hide (isName_any t u1 ht)
        rw [unhide HN'] at CN
        have CL := hide (last_any w0 I gr vb _ _ C F X m V u1 R1 hl)
        rw [unhide HlN] at CL
        clear R1 C1 c0 c1 c2 c3 c4 c5
        go_wp2_with fail
        refine (unhide CN).mono ?_
        rintro e2 u2 ⟨rfl, rfl⟩
        go_wp2_with fail
        refine (unhide CL).mono ?_
        rintro e3 u3 ⟨rfl, q3, hq3⟩
        have R3 : RdM w0 I u3 gr vb (.slice bo e bc) a1 C F X m V := by rw [hq3]; exact (unhide H1).drew q3
        have H3 := hide R3
        have fz := frozen_of_row u3 gr 2 _ _ R3.box
        obtain ⟨d0, d1, d2, d3, d4, d5⟩ := row_cells6 R3.box
        clear hq3 R3 CL CN H1
        go_wp2_with fail
        go_ret
        exact ⟨rfl, _, _, _, _, _, (unhide H3).setAt _⟩
      | true =>
        rw [hL] at b2
        have b3 : (Op.bytesLess t.toList (lastN m).toList || t.toList == (lastN m).toList) = false := by cases h : (Op.bytesLess t.toList (lastN m).toList || t.toList == (lastN m).toList) with | false => rfl | true => rw [h] at b2; cases b2
        rw [if_neg (by simp)]
        obtain ⟨lN, hlN⟩ : ∃ lN, lastN m = lN := ⟨_, rfl⟩
        rw [hlN] at b3
        have HlN := hide hlN
        have HN' := hide hN
        clear b2 hlN hN hL
        obtain ⟨nF, hnF⟩ : ∃ nF, m.fs.length = nF := ⟨_, rfl⟩
        rw [hnF] at hlf ⊢
        have HNF := hide hnF
        have ww : IntKind.i64.wrap ((nF : Int) - 1) = (nF : Int) - 1 := by rw [IntKind.wrap_i64]; omega
        clear hnF
        cases h2 : rdNo bs a1 ((nF : Int) - 1) 90 with
        | error c =>
          have k1 : ¬ c = 0 := by have := no_code h2; omega
          dsimp only
          go_enter Try.func41, Try.ntmps41
          go_wp2_with fail
          refine (unhide C1).mono ?_
          rintro e1 u1 ⟨rfl, R1⟩
          have H1 := hide R1
          have CN := hide (isName_any t u1 ht)
          rw [unhide HN'] at CN
          have CL := hide (last_any w0 I gr vb _ _ C F X m V u1 R1 hl)
          rw [unhide HlN] at CL
          clear R1 C1 c0 c1 c2 c3 c4 c5
          go_wp2_with fail
          refine (unhide CN).mono ?_
          rintro e2 u2 ⟨rfl, rfl⟩
          go_wp2_with fail
          refine (unhide CL).mono ?_
          rintro e3 u3 ⟨rfl, q3, hq3⟩
          have R3 : RdM w0 I u3 gr vb (.slice bo e bc) a1 C F X m V := by rw [hq3]; exact (unhide H1).drew q3
          have C2 := hide (number_any w0 I gr vb bo e bc a1 C F X m V bs ((nF : Int) - 1) 90 u3 R3 (unhide HY) hg hm (by omega))
          rw [h2] at C2
          obtain ⟨aF, cF, hF, _⟩ := slice_form R3.ownF
          rw [unhide HNF] at hF
          obtain ⟨d0, d1, d2, d3, d4, d5⟩ := row_cells6 R3.box
          rw [hF] at d4
          clear hq3 R3 CL CN H1 hF
          go_wp2_with fail
          refine (unhide C2).mono ?_
          rintro e4 u4 ⟨rfl, R4⟩
          have H4 := hide R4
          clear R4 C2 d0 d1 d2 d3 d4 d5
          go_wp2_with fail
          go_ret
          exact ⟨rfl, _, _, _, _, _, unhide H4⟩
        | ok r2 =>
          obtain ⟨f, a2⟩ := r2
          dsimp only
          go_enter Try.func41, Try.ntmps41
          go_wp2_with fail
          refine (unhide C1).mono ?_
          rintro e1 u1 ⟨rfl, R1⟩
          have H1 := hide R1
          have CN := hide (isName_any t u1 ht)
          rw [unhide HN'] at CN
          have CL := hide (last_any w0 I gr vb _ _ C F X m V u1 R1 hl)
          rw [unhide HlN] at CL
          clear R1 C1 c0 c1 c2 c3 c4 c5
          go_wp2_with fail
          refine (unhide CN).mono ?_
          rintro e2 u2 ⟨rfl, rfl⟩
          go_wp2_with fail
          refine (unhide CL).mono ?_
          rintro e3 u3 ⟨rfl, q3, hq3⟩
          have R3 : RdM w0 I u3 gr vb (.slice bo e bc) a1 C F X m V := by rw [hq3]; exact (unhide H1).drew q3
          have C2 := hide (number_any w0 I gr vb bo e bc a1 C F X m V bs ((nF : Int) - 1) 90 u3 R3 (unhide HY) hg hm (by omega))
          rw [h2] at C2
          obtain ⟨aF, cF, hF, _⟩ := slice_form R3.ownF
          rw [unhide HNF] at hF
          obtain ⟨d0, d1, d2, d3, d4, d5⟩ := row_cells6 R3.box
          rw [hF] at d4
          clear hq3 R3 CL CN H1 hF
          go_wp2_with fail
          refine (unhide C2).mono ?_
          rintro e4 u4 ⟨rfl, R4⟩
          have H4 := hide R4
          clear C2 d0 d1 d2 d3 d4 d5
          obtain ⟨c0, c1, c2, c3, c4, c5⟩ := row_cells6 R4.box
          obtain ⟨i0, hi, hz0, hz1, hz2⟩ := info_parts infoEx
          obtain ⟨nX, hnX⟩ : ∃ nX, m.xs.length = nX := ⟨_, rfl⟩
          have hOw : u4.ownsRow (gr + 1) 55 2 X nX (m.xs.flatMap exV) := by rw [← hnX]; exact R4.ownX
          have HOw := hide hOw
          have hbs : gr + 1 ≤ u4.heap.size := R4.lt
          have hn100 : nX ≤ 100 := by omega
          have HNX := hide hnX
          have fz : ∀ F' w5, Hid (w5.ownsRow (gr + 1) 55 2 F' (nX + 1) (m.xs.flatMap exV ++ exV (t, f)) ∧ Grew u4 w5 X F') → w5.frozen? ⟨gr, 5, none⟩ = false ∧ w5.cell? ⟨gr, 5, none⟩ = some X := fun F' w5 H5 => by
            have hb := ((unhide H5).2.far (unhide H4).lt (fun e => by have := ((unhide HOw).lt gr e.symm).1; omega)).trans (unhide H4).box
            exact ⟨frozen_of_row w5 gr 5 _ _ hb, (row_cells6 hb).2.2.2.2.2⟩
          have HFZ := hide fz
          clear R4 hOw hnX fz
          go_wp2_with (first | (at_builtin; refine wpl_oneM rfl (.tmp 52) (.tmp 56) 26 55 i0 _ 2 24 Try.underlying26 hi hz0 hz1 hz2 rfl (by omega) rfl (gr + 1) nX X (m.xs.flatMap exV) (exV (t, f)) rfl (by simp [exV, Value.oneCell']) rfl (unhide HOw) rfl (by unfold maxLen; omega) (by omega) hbs ?_; intro F5 w5 o5; obtain ⟨z1, z2⟩ := unhide HFZ F5 w5 o5; obtain ⟨a5, p5, h5, _⟩ := slice_form (unhide o5).1; subst h5))
          go_ret
          have H9 := (unhide H4).pushX (x := (t, f)) (by rw [unhide HNX]; exact (unhide o5).1) (unhide o5).2
          exact ⟨rfl, _, _, _, _, H9⟩
end Go.Proofs.Ytfdnhpmldnmncaa
