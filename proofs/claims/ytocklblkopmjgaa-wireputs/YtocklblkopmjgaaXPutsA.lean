/-
  What WirePuts asks beside Put: Length, the document's own, wiped, over of a copy or of what was handed in; conditions: the lengths together are below 2^47 and a million.
-/
import Derived.Test.YtocklblkopmjgaaXRfE
import Derived.Test.YtocklblkopmjgaaXWipeW
namespace Go.Proofs.Ytocklblkopmjgaa
open Go.RowKit
set_option linter.unusedVariables false
set_option linter.unusedSimpArgs false

set_option maxRecDepth 100000 in
set_option maxHeartbeats 400000 in
theorem length_any (v : Vl) (x : Value) (B : Nat) (w : World) (hv : IsV w B v x) (hBs : B ≤ w.heap.size) :
    Calls Try.prog 28 #[x] w fun e w' => e = .returned (.int .i64 ((wenc0R v).length : Int)) ∧ Below w.heap.size w w' := by
  obtain ⟨k, n, s, l, ks, al, ak, cl, ck, hvv, hx⟩ := hv.shape
  clear hvv
  obtain ⟨m, hm⟩ : ∃ m, ks.length = m := ⟨_, rfl⟩
  obtain ⟨ln, hln⟩ : ∃ ln, l.length = ln := ⟨_, rfl⟩
  rw [hm, hln] at hx
  subst hx
  obtain ⟨w1, hw1⟩ : ∃ w1, w.alloc (.cells #[.int .i64 k, .int .i64 n, .string s, .slice al ln cl, .slice ak m ck] 27) = w1 := ⟨_, rfl⟩
  have BX := Box.mk' w (.int .i64 k) (.int .i64 n) (.string s) (.slice al ln cl) (.slice ak m ck)
  rw [hw1] at BX
  obtain ⟨c0, c1, c2, c3, c4⟩ := row_cell BX.row
  have z1 := BX.size
  have CE := hide (encode_any v _ B w1 (hv.mono (BX.below.mono hBs)) (by omega))
  obtain ⟨Z, hZ⟩ : ∃ Z, wenc0R v = Z := ⟨_, rfl⟩
  rw [hZ] at CE ⊢
  obtain ⟨C, hC⟩ : ∃ C, codeR v = C := ⟨_, rfl⟩
  rw [hC] at CE
  have HB := hide BX.below
  clear BX hv hm hln hZ hC
  go_enter Try.func28, Try.ntmps28
  go_wp2_with fail
  refine (unhide CE).mono ?_
  rintro e w2 ⟨ao, len, cap, rfl, r2, b2, n2⟩
  have hl := r2.length
  have hm2 : len ≤ maxLen := Nat.le_trans r2.le n2.2
  have H2 := hide b2
  subst hl
  clear r2 b2 n2 CE
  go_wp2_with fail
  go_ret
  exact ⟨rfl, (unhide HB).trans ((unhide H2).mono (by omega))⟩
set_option maxRecDepth 100000 in
set_option maxHeartbeats 400000 in
theorem length_f (v : Vl) (x : Value) (B : Nat) (w : World) (hv : IsV w B v x) (hBs : B ≤ w.heap.size) :
    Calls Try.prog 29 #[x] w fun e w' => e = .returned (.int .i64 ((wenc0R v).length : Int)) ∧ Below w.heap.size w w' := by
  obtain ⟨k, n, s, l, ks, al, ak, cl, ck, hvv, hx⟩ := hv.shape
  clear hvv
  obtain ⟨m, hm⟩ : ∃ m, ks.length = m := ⟨_, rfl⟩
  obtain ⟨ln, hln⟩ : ∃ ln, l.length = ln := ⟨_, rfl⟩
  rw [hm, hln] at hx
  subst hx
  obtain ⟨w1, hw1⟩ : ∃ w1, w.alloc (.cells #[.int .i64 k, .int .i64 n, .string s, .slice al ln cl, .slice ak m ck] 27) = w1 := ⟨_, rfl⟩
  have BX := Box.mk' w (.int .i64 k) (.int .i64 n) (.string s) (.slice al ln cl) (.slice ak m ck)
  rw [hw1] at BX
  obtain ⟨c0, c1, c2, c3, c4⟩ := row_cell BX.row
  have z1 := BX.size
  have CE := hide (encode_f v _ B w1 (hv.mono (BX.below.mono hBs)) (by omega))
  obtain ⟨Z, hZ⟩ : ∃ Z, wenc0R v = Z := ⟨_, rfl⟩
  rw [hZ] at CE ⊢
  obtain ⟨C, hC⟩ : ∃ C, codeR v = C := ⟨_, rfl⟩
  rw [hC] at CE
  have HB := hide BX.below
  clear BX hv hm hln hZ hC
  go_enter Try.func29, Try.ntmps29
  go_wp2_with fail
  refine (unhide CE).mono ?_
  rintro e w2 ⟨ao, len, cap, rfl, r2, b2, n2⟩
  have hl := r2.length
  have hm2 : len ≤ maxLen := Nat.le_trans r2.le n2.2
  have H2 := hide b2
  subst hl
  clear r2 b2 n2 CE
  go_wp2_with fail
  go_ret
  exact ⟨rfl, (unhide HB).trans ((unhide H2).mono (by omega))⟩

/-- all but some blocks as before -/
structure Kq (Q : Nat → Prop) (w w' : World) : Prop where
  os : w'.os = w.os
  tape : w'.tape = w.tape
  output : w'.output = w.output
  size : w.heap.size ≤ w'.heap.size
  block : ∀ b, b < w.heap.size → ¬ Q b → w'.heap[b]? = w.heap[b]?

theorem Kq.refl (Q : Nat → Prop) (w : World) : Kq Q w w := ⟨rfl, rfl, rfl, Nat.le_refl _, fun _ _ _ => rfl⟩
theorem Kq.below {Q : Nat → Prop} {w w' : World} {B : Nat} (h : Kq Q w w') (hB : B ≤ w.heap.size) (hq : ∀ b, Q b → B ≤ b) : Below B w w' :=
  ⟨h.os, h.tape, h.output, h.size, fun k hk => h.block k (by omega) (fun q => by have := hq k q; omega)⟩
theorem Kq.on {Q : Nat → Prop} {W w w' : World} (h : Kq Q W w) (hb : Below w.heap.size w w') : Kq Q W w' :=
  ⟨hb.os.trans h.os, hb.tape.trans h.tape, hb.output.trans h.output, Nat.le_trans h.size hb.size, fun b hl hq => (hb.block b (Nat.lt_of_lt_of_le hl h.size)).trans (h.block b hl hq)⟩
theorem Kq.at_ {Q : Nat → Prop} {W w w' : World} {b : Nat} (h : Kq Q W w) (hb : Q b ∨ W.heap.size ≤ b) (ho : ∀ q, q ≠ b → w'.heap[q]? = w.heap[q]?) (hs : w'.heap.size = w.heap.size) (e1 : w'.os = w.os) (e2 : w'.tape = w.tape) (e3 : w'.output = w.output) : Kq Q W w' :=
  ⟨e1.trans h.os, e2.trans h.tape, e3.trans h.output, by have := h.size; omega, fun q hl hq => (ho q (fun e => hb.elim (fun hb => hq (e ▸ hb)) (fun hb => by omega))).trans (h.block q hl hq)⟩

theorem info5x : (Try.prog.info? 5).map (fun i => (i.zero, i.size, i.bytes)) = some (some (.int .u8 0), 1, 1) := by kernel_rfl

theorem run_row8 (w : World) (ty : TypeId) (Q : Nat → Prop) (lo n : Nat) (v : Value) (hrow : Row w Q lo 5 1 v n) (ad : Addr) (c : Int) (hnews : ∀ j u, [Value.int .u8 c][j]? = some u → w.cell? (ad.add j) = some u) (hn : n + 1 ≤ 140737489403904) (hlo : lo ≤ w.heap.size) :
    ∃ v' w', (Builtin.append_ #[44, 44] ty #[v, .slice (some ad) 1 1]).run Try.prog w = .ok v' w' ∧ Row w' Q lo 5 1 v' (n + 1) ∧ ((∃ b cs, w.heap[b]? = some (.cells cs 5 (0, 0)) ∧ (Q b ∨ lo ≤ b) ∧ n * 1 + 1 ≤ cs.size ∧ w' = w.setRow b (cs.toList.take (n * 1) ++ [Value.int .u8 c] ++ cs.toList.drop (n * 1 + 1)).toArray) ∨ Below w.heap.size w w') := by
  obtain ⟨iv, hiv, hz0, hz1, hz2⟩ := info_parts info5x
  have hone : ∀ u ∈ [Value.int .u8 c], u.oneCell' = true := by intro u hu; simp at hu; subst hu; rfl
  by_cases hs : n + 1 ≤ 140737488355328
  · exact run_row w 44 ty 5 iv _ 1 1 Try.underlying44 hiv hz0 hz1 hz2 rfl (by omega) (by omega) Q lo n v hrow ad [.int .u8 c] rfl hnews hone (by omega) hlo
  · rcases hrow with ⟨_, h0⟩ | ⟨b, cap, cs, rfl, hq, hg, hsz, hnc, hcm⟩
    · omega
    by_cases hlt : n + 1 ≤ cap
    · have hr := run_append_room (P := Try.prog) w 44 ty 5 iv Try.underlying44 hiv b n cap cs hg ad 1 1 [.int .u8 c] (by rw [hz1]; rfl) hnews hone hlt (by rw [hz1]; show n * 1 + 1 ≤ cs.size; omega)
      rw [hz1] at hr
      refine ⟨_, _, hr, Or.inr ⟨b, cap, _, rfl, hq, setRow_heap w b cs _ 5 _ hg, ?_, hlt, hcm⟩, Or.inl ⟨b, cs, hg, hq, by omega, rfl⟩⟩
      have hcl : cs.toList.length = cs.size := Array.length_toList
      simp only [List.size_toArray, List.length_append, List.length_take, List.length_drop, List.length_cons, List.length_nil]
      omega
    · obtain rfl : n = cap := by omega
      have hr := run_append_grow (P := Try.prog) w 44 ty 5 iv (.int .u8 0) Try.underlying44 hiv hz0 ⟨b, 0, none⟩ n n cs.toList (by rw [Array.length_toList, hsz, hz1]) (fun j u hu => by
        have hp : (⟨b, 0, none⟩ : Addr).add j = ⟨b, j, none⟩ := by unfold Addr.add; split <;> simp_all
        rw [hp, cell_of_row w b j cs 5 (0, 0) hg]
        simpa using hu) ad 1 1 [.int .u8 c] (by rw [hz1]; rfl) hnews (by omega) (by omega) (by have := next_far (need := n + 1) (old := n) (by omega); rw [hz2]; omega)
      have hm := made8 w w.heap.size (n + 1) (grownCap w (n + 1) n 5) (cs.toList.toArray ++ [Value.int .u8 c].toArray) (cs.toList ++ [Value.int .u8 c]) (by simp) (by rw [List.length_append, Array.length_toList, hsz]; simp) (grownCap_ge w (n + 1) n 5) (grownCap_le_maxLen w (n + 1) n 5 (by unfold maxLen; omega)) (Nat.le_refl _)
      have gr := made_grown w (cs.toList.toArray ++ [Value.int .u8 c].toArray ++ Builtin.zeroCells (Value.int .u8 0).cells (grownCap w (n + 1) n 5 - (n + 1))) 5 none
      refine ⟨_, _, hr, ?_, Or.inr ⟨gr.os, gr.tape, gr.output, gr.size, fun k hk => gr.block k hk (by simp)⟩⟩
      rcases hm.2 with ⟨_, e0⟩ | ⟨g, cap, cur, e1, hbg, hg', hnc', hcm', hsz', _⟩
      · omega
      · exact Or.inr ⟨g, cap, cur, e1, Or.inr (by omega), hg', hsz', hnc', hcm'⟩

/-- one byte behind a row -/
theorem wpl_byte {w : World} {ops : Array Oper} {rest : List Oper} {o : Oper} {a : Act} {Q' : Exit → Act → World → Prop} (hgd : o.guard = none) (sl x : Operand)
    (ho : o.op = .call { callee := .builtin .append, args := #[sl, x], argTypes := #[44, 44] })
    (Q : Nat → Prop) (lo n : Nat) (v : Value) (hs : a.eval sl = v) (hrow : Row w Q lo 5 1 v n) (ad : Addr) (c : Int) (hx : a.eval x = .slice (some ad) 1 1) (hnews : ∀ j u, [Value.int .u8 c][j]? = some u → w.cell? (ad.add j) = some u) (hn : n + 1 ≤ 140737489403904) (hlo : lo ≤ w.heap.size)
    (h : ∀ v' w', Hid (Row w' Q lo 5 1 v' (n + 1) ∧ (∀ W : World, W.heap.size = lo → Kq Q W w → Kq Q W w') ∧ lo ≤ w'.heap.size) → wpList Try.prog ops Q' rest (a.put o.dst v') w') :
    wpList Try.prog ops Q' (o :: rest) a w := by
  refine wpList_plain hgd fun K hK => ?_
  obtain ⟨v', w', hrun, hr, hw⟩ := run_row8 w o.type Q lo n v hrow ad c hnews hn hlo
  unfold Oper.wp
  simp only [execOp, ho, resolve, invoke, builtin, Sem.run_bind, Sem.run_pure, Result.andThen_ok, List.map_toArray, List.map_cons, List.map_nil, hs, hx, hrun]
  refine hK _ _ (h v' w' (hide ⟨hr, ?_⟩))
  rcases hw with ⟨b, cs, hg, hq, hfit, rfl⟩ | hb
  · have hss : (w.setRow b (cs.toList.take (n * 1) ++ [Value.int .u8 c] ++ cs.toList.drop (n * 1 + 1)).toArray).heap.size = w.heap.size := by simp [World.setRow]
    refine ⟨fun W hW hwp => ?_, by omega⟩
    exact hwp.at_ (b := b) (by rw [hW]; exact hq) (fun q hqb => setRow_other w b q _ hqb) hss rfl rfl rfl
  · exact ⟨fun W hW hwp => hwp.on hb, Nat.le_trans hlo hb.size⟩

theorem by_at (w : World) (c : Int) : ∀ j u, [Value.int .u8 c][j]? = some u → (w.alloc (.cells #[.int .u8 c] 5)).cell? ((⟨w.heap.size, 0, none⟩ : Addr).add j) = some u := fun j u hu =>
  World.news_of_block (heap_alloc_new w (.cells #[.int .u8 c] 5)) j u (by simpa using hu)

set_option maxRecDepth 100000 in
set_option maxHeartbeats 400000 in
theorem wiped_any (ao : Option Addr) (n cap : Nat) (Q : Nat → Prop) (w : World) (hrow : Row w Q w.heap.size 5 1 (.slice ao n cap) n) (hn : n + 41 ≤ 140737489403904) :
    Calls Try.prog 30 #[.slice ao n cap] w fun e w' => e = .returned (.tuple #[]) ∧ Kq Q w w' := by
  obtain ⟨lo, hlo⟩ : ∃ lo, w.heap.size = lo := ⟨_, rfl⟩
  rw [hlo] at hrow
  have HR0 : Hid (Row w Q lo 5 1 (.slice ao n cap) n ∧ Kq Q w w ∧ lo ≤ w.heap.size) := hide ⟨hrow, Kq.refl _ _, by omega⟩
  have HLO := hide hlo
  clear hrow hlo
  go_enter Try.func30, Try.ntmps30
  go_wp2_with fail
  go_loopw [2] (fun x wr => ∃ i : Nat, i ≤ n ∧ x = .int .i64 i ∧ Hid (Row wr Q lo 5 1 (.slice ao n cap) n ∧ Kq Q w wr ∧ lo ≤ wr.heap.size)) (fun x _ => n - (intOf x).toNat)
  case atStart => exact ⟨0, by omega, rfl, HR0⟩
  case round =>
    clear HR0
    obtain ⟨i, hi, rfl, HR⟩ := hrel
    by_cases hlt : i < n
    · obtain ⟨hr, hk, hl⟩ := unhide HR
      rcases hr with ⟨_, h0⟩ | ⟨b, cap', cs, e, hq, hbb, hsz, hnc, hcm⟩
      · omega
      simp only [Value.slice.injEq, true_and] at e
      obtain ⟨rfl, rfl⟩ := e
      obtain ⟨y, hy⟩ : ∃ y, cs[i]? = some y := ⟨_, Array.getElem?_eq_getElem (by omega)⟩
      have e0 : wr.cell? ⟨b, i, none⟩ = some y := by rw [cell_of_row wr b i cs _ (0, 0) hbb]; exact hy
      have f0 := frozen_of_row wr b i _ _ hbb
      have HR5 : Hid (Row (wr.setCell ⟨b, i, none⟩ (.int .u8 255)) Q lo 5 1 (.slice (some ⟨b, 0, none⟩) n cap) n ∧ Kq Q w (wr.setCell ⟨b, i, none⟩ (.int .u8 255)) ∧ lo ≤ (wr.setCell ⟨b, i, none⟩ (.int .u8 255)).heap.size) := hide (by
        have B := (Below.refl 0 wr).setCell (p := ⟨b, i, none⟩) (Nat.zero_le _) (.int .u8 255)
        refine ⟨Or.inr ⟨b, cap, _, rfl, hq, heap_setCell_same wr b i _ 5 _ hbb, by simpa using hsz, hnc, hcm⟩, ?_, by simpa using hl⟩
        exact hk.at_ (b := b) (by rw [unhide HLO]; exact hq) (fun q hqb => heap_setCell_other _ _ _ _ hqb) (by simp) B.os B.tape B.output)
      have i1 : (i : Int) < (n : Int) := by omega
      have i0 : (0 : Int) ≤ (i : Int) := by omega
      have hcl : cap ≤ 9223372036854775807 := by unfold maxLen at hcm; omega
      clear hk hl hbb hy hq
      go_wp2_with fail
      go_roundw
      case rel => exact ⟨i + 1, by omega, by go_num, HR5⟩
      case measure => simp [intOf]; omega
    · have i1 : ¬ (i : Int) < (n : Int) := by omega
      go_wp2_with fail
      go_loopw [0, 3] (fun v x wr => ∃ j nn : Nat, j ≤ 40 ∧ x = .int .i64 j ∧ nn ≤ n + j ∧ Hid (Row wr Q lo 5 1 v nn ∧ Kq Q w wr ∧ lo ≤ wr.heap.size)) (fun _ x _ => 40 - (intOf x).toNat)
      case atStart => exact ⟨0, n, by omega, rfl, by omega, HR⟩
      case round =>
        clear HR
        obtain ⟨j, nn, hj, rfl, hnn, HR⟩ := hrel
        obtain ⟨lv, hlv⟩ : ∃ lv, lv = u0 := ⟨_, rfl⟩
        subst hlv
        by_cases hlt2 : j < 40
        · have j1 : (j : Int) < 40 := by omega
          have HB1 : Hid (Below wr.heap.size wr (wr.alloc (.cells #[.int .u8 255] 5))) := hide ((Below.refl _ _).alloc (Nat.le_refl _) _)
          have L1 := hide (by_at wr 255)
          have tokA : True := trivial
          go_wp2_with (first | (at_builtin; have _t := tokA; refine wpl_byte rfl (.tmp 17) (.tmp 18) rfl Q lo nn lv rfl ((unhide HR).1.later (unhide HB1)) ⟨wr.heap.size, 0, none⟩ 255 rfl (unhide L1) (by omega) (by have := (unhide HB1).size; have := (unhide HR).2.2; omega) ?_; intro v2 w2 H2; clear tokA))
          have HR2 : Hid (Row w2 Q lo 5 1 v2 (nn + 1) ∧ Kq Q w w2 ∧ lo ≤ w2.heap.size) := hide ⟨(unhide H2).1, (unhide H2).2.1 w (unhide HLO) ((unhide HR).2.1.on (unhide HB1)), (unhide H2).2.2⟩
          go_roundw
          case rel => exact ⟨j + 1, nn + 1, by omega, by go_num, by omega, HR2⟩
          case measure => simp [intOf]; omega
        · have j1 : ¬ (j : Int) < 40 := by omega
          go_wp2_with fail
          go_end0
          exact ⟨rfl, (unhide HR).2.1⟩

set_option maxRecDepth 100000 in
set_option maxHeartbeats 400000 in
theorem over_no (v : Vl) (x : Value) (s : ByteArray) (w : World) (hv : IsV w w.heap.size v x) (hF : fewB v = false) :
    Calls Try.prog 31 #[x, .string s] w fun e w' => e = .returned (.tuple #[]) ∧ Below w.heap.size w w' := by
  obtain ⟨k, n, t, l, ks, al, ak, cl, ck, hvv, hx⟩ := hv.shape
  clear hvv
  obtain ⟨m, hm⟩ : ∃ m, ks.length = m := ⟨_, rfl⟩
  obtain ⟨ln, hln⟩ : ∃ ln, l.length = ln := ⟨_, rfl⟩
  rw [hm, hln] at hx
  subst hx
  obtain ⟨w1, hw1⟩ : ∃ w1, w.alloc (.cells #[.int .i64 k, .int .i64 n, .string t, .slice al ln cl, .slice ak m ck] 27) = w1 := ⟨_, rfl⟩
  have BX := Box.mk' w (.int .i64 k) (.int .i64 n) (.string t) (.slice al ln cl) (.slice ak m ck)
  rw [hw1] at BX
  have zb := BX.size
  obtain ⟨c0, c1, c2, c3, c4⟩ := row_cell BX.row
  have CF := hide (few_any v _ w.heap.size w1 (hv.mono BX.below) (by omega))
  rw [hF] at CF
  have HB := hide BX.below
  clear BX hv hm hln
  go_enter Try.func31, Try.ntmps31
  go_wp2_with fail
  refine (unhide CF).mono ?_
  rintro e u ⟨rfl, b⟩
  have HB2 := hide ((unhide HB).trans (b.mono (by omega)))
  clear b CF
  go_wp2_with fail
  go_end0
  exact ⟨rfl, unhide HB2⟩

theorem over_cond (v : Vl) (x : Value) (s : ByteArray) (Q : Nat → Prop) (w : World) (hv : IsV w w.heap.size v x) (hq : fewB v = true → IsQ w Q v x) (hQ : ∀ b, Q b → b < w.heap.size) :
    Calls Try.prog 31 #[x, .string s] w fun e w' => e = .returned (.tuple #[]) ∧ Wiped Q w w' := by
  cases hF : fewB v with
  | true => exact over_any v x s Q w (hq hF) hQ
  | false => exact (over_no v x s w hv hF).mono fun e w' ⟨he, hb⟩ => ⟨he, Wiped.of_below hb⟩
end Go.Proofs.Ytocklblkopmjgaa
