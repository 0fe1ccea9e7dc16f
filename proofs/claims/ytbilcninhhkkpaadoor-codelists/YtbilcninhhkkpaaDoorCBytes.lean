/-
  The walk of code.Bytes (layer 8), and lists of instructions and of places of the call's own; conditions: the package's variables, at most 2^45 instructions.
-/
import Derived.Test.YtbilcninhhkkpaaDoorCPut
import Derived.Test.YtbilcninhhkkpaaDoorCRows
namespace Go.Proofs.YtbilcninhhkkpaaDoor
open Go.RowKit

/-- append of one element that was just laid -/
theorem wpl_oneG {P : Program} {w : World} {ops : Array Oper} {rest : List Oper} {o : Oper} {a : Act} {Q : Exit → Act → World → Prop} (hgd : o.guard = none) (sl x : Operand) (T e : TypeId) (i0 : TypeInfo) (z : Value) (size bytes : Nat)
    (hu : P.underlying T = some (.slice e)) (hi : P.info? e = some i0) (hz : i0.zero = some z) (hs1 : i0.size = size) (hby : i0.bytes = bytes) (hzs : z.cells.size = size) (hsz : 0 < size)
    (ho : o.op = .call { callee := .builtin .append, args := #[sl, x], argTypes := #[T, T] })
    (base n : Nat) (v : Value) (xs : List Value) (A : List Value) (hA : A.length = size) (h1 : ∀ u ∈ A, u.oneCell' = true) (hs : a.eval sl = v) (hown : w.ownsRow base e size v n xs)
    (hx : a.eval x = .slice (some ⟨w.heap.size, 0, none⟩) 1 1) (hn : n + 1 ≤ maxLen) (hbytes : (n + 1) * bytes ≤ 140737488355328) (hbase : base ≤ w.heap.size)
    (h : ∀ v' w', Hid (w'.ownsRow base e size v' (n + 1) (xs ++ A) ∧ w.grownBy w' v.ownBlock ∧ ∀ b, v'.ownBlock = some b → v.ownBlock = some b ∨ w.heap.size ≤ b) → wpList P ops Q rest (a.put o.dst v') w') :
    wpList P ops Q (o :: rest) a (w.alloc (.cells A.toArray e)) := by
  refine wpList_plain hgd fun K hK => ?_
  have hb : Below w.heap.size w (w.alloc (.cells A.toArray e)) := (Below.refl _ _).alloc (Nat.le_refl _) _
  have hnew := heap_alloc_new w (.cells A.toArray e)
  have hz1 : (w.alloc (.cells A.toArray e)).heap.size = w.heap.size + 1 := by simp
  obtain ⟨v', w', hrun, r1, r2, _, r4⟩ := run_append_own_at (P := P) (w.alloc (.cells A.toArray e)) base T o.type e i0 z size bytes hu hi hz hs1 hby hzs hsz v n xs (hown.alloc _) ⟨w.heap.size, 0, none⟩ 1 1 A (by omega) (fun j u hj => World.news_of_block hnew j u (by simpa using hj)) h1 hn hbytes (by omega)
  unfold Oper.wp
  simp only [execOp, ho, resolve, invoke, builtin, Sem.run_bind, Sem.run_pure, Result.andThen_ok, List.map_toArray, List.map_cons, List.map_nil, hs, hx, hrun]
  refine hK _ _ (h v' w' ⟨r1, ⟨r2.os, r2.tape, r2.output, by have := r2.size; omega, fun k hk hne => (r2.block k (by omega) hne).trans (heap_alloc_old w _ hk)⟩, fun b hb' => ?_⟩)
  rcases r4 with e' | e'
  · exact Or.inl (by rw [← e']; exact hb')
  · rw [hb'] at e'
    exact Or.inr (by rw [Option.some.inj e', hz1]; omega)

/-- rows of unlike types lie apart -/
theorem own_apart {w : World} {b1 b2 : Nat} {e1 e2 : TypeId} {s1 s2 n1 n2 : Nat} {v1 v2 : Value} {x1 x2 : List Value} (h1 : w.ownsRow b1 e1 s1 v1 n1 x1) (h2 : w.ownsRow b2 e2 s2 v2 n2 x2) (hne : e1 ≠ e2) : v1.ownBlock = none ∨ v1.ownBlock ≠ v2.ownBlock := by
  rcases h1.2 with ⟨rfl, _⟩ | ⟨g1, c1, cur1, rfl, _, hg1, _⟩
  · exact Or.inl rfl
  · right
    rcases h2.2 with ⟨rfl, _⟩ | ⟨g2, c2, cur2, rfl, _, hg2, _⟩
    · simp [Value.ownBlock]
    · intro e
      have e' : g1 = g2 := by simpa [Value.ownBlock] using e
      subst e'
      rw [hg1] at hg2
      simp at hg2
      exact hne hg2.2

def insV (ls : List Ins) : List Value := ls.flatMap fun p => [.int .i64 p.1, .int .i64 p.2]

theorem insV_app (a b : List Ins) : insV (a ++ b) = insV a ++ insV b := by simp [insV]
theorem insV_len : ∀ ls : List Ins, (insV ls).length = ls.length * 2
  | [] => rfl
  | p :: r => by
    have := insV_len r
    simp only [insV, List.flatMap_cons, List.length_append, List.length_cons, List.length_nil] at this ⊢
    omega

theorem insV_at : ∀ (ls : List Ins) (i : Nat) (p : Ins), ls[i]? = some p → (insV ls)[i * 2]? = some (.int .i64 p.1) ∧ (insV ls)[i * 2 + 1]? = some (.int .i64 p.2)
  | [], i, p, h => by simp at h
  | q :: r, 0, p, h => by simp at h; subst h; simp [insV]
  | q :: r, i + 1, p, h => by
    have ih := insV_at r i p (by simpa using h)
    have e : insV (q :: r) = .int .i64 q.1 :: .int .i64 q.2 :: insV r := by simp [insV]
    rw [e, show (i + 1) * 2 = i * 2 + 1 + 1 by omega]
    simpa using ih

/-- a list of the call's own as a slice of instructions -/
theorem own_rowN {w : World} {base n : Nat} {ao : Option Addr} {len cap : Nat} {ls : List Ins} (h : w.ownsRow base 42 2 (.slice ao len cap) n (insV ls)) (hb : ∀ p ∈ ls, i64B p.1 ∧ i64B p.2) : RowN w ao len ls ∧ len = n := by
  have h1 := h.1
  rw [insV_len] at h1
  rcases h.2 with ⟨e, e2⟩ | ⟨g, c, cur, e, _⟩
  · cases e
    subst e2
    have : ls = [] := List.eq_nil_of_length_eq_zero (by omega)
    subst this
    exact ⟨⟨rfl, (fun p h => by cases h), fun j p h => by simp at h⟩, rfl⟩
  · cases e
    refine ⟨⟨by omega, hb, fun j p hp => ?_⟩, rfl⟩
    have hc := insV_at ls j p hp
    have hg := h.cells (g := g) rfl
    have ha : ∀ k, (⟨g, 0, none⟩ : Addr).add k = ⟨g, k, none⟩ := fun k => by unfold Addr.add; split <;> simp_all
    refine ⟨⟨g, 0, none⟩, g, j * 2, rfl, ha _, ?_, ?_⟩
    · have := hg _ _ hc.1
      rw [ha] at this
      exact this
    · have := hg _ _ hc.2
      rw [ha] at this
      exact this

/-- the first thing that is wrong with instructions -/
def bytesF : List Ins → Int
  | [] => 0
  | p :: r => if faultI p.1 p.2 = 0 then bytesF r else faultI p.1 p.2

def bytesL (ls : List Ins) : List Int := ls.flatMap fun p => insB p.1 p.2

theorem bytesL_app (a b : List Ins) : bytesL (a ++ b) = bytesL a ++ bytesL b := by simp [bytesL]
theorem bytesL_one (p : Ins) : bytesL [p] = insB p.1 p.2 := by simp [bytesL]

theorem bytesF_app : ∀ (a b : List Ins), bytesF a = 0 → bytesF (a ++ b) = bytesF b
  | [], _, _ => rfl
  | p :: r, b, h => by
    simp only [bytesF] at h
    simp only [List.cons_append, bytesF]
    by_cases hp : faultI p.1 p.2 = 0
    · rw [if_pos hp] at h ⊢
      exact bytesF_app r b h
    · rw [if_neg hp] at h
      exact absurd h hp

theorem bytesF_zero : ∀ (ls : List Ins), bytesF ls = 0 ↔ ∀ p ∈ ls, faultI p.1 p.2 = 0
  | [] => by simp [bytesF]
  | p :: r => by
    simp only [bytesF, List.mem_cons]
    by_cases hp : faultI p.1 p.2 = 0
    · rw [if_pos hp, bytesF_zero r]
      constructor
      · intro h q hq
        rcases hq with rfl | hq
        · exact hp
        · exact h q hq
      · intro h q hq
        exact h q (Or.inr hq)
    · rw [if_neg hp]
      exact ⟨fun h => absurd h hp, fun h => h p (Or.inl rfl)⟩

theorem insB_len3 (op a : Int) : 1 ≤ (insB op a).length ∧ (insB op a).length ≤ 3 := by
  unfold insB
  generalize siz (srt op) = k
  match k with
  | 0 => simp [tailB]
  | 1 => simp [tailB]
  | 2 => simp [tailB]
  | k + 3 => simp [tailB]

theorem bytesL_len : ∀ ls : List Ins, ls.length ≤ (bytesL ls).length ∧ (bytesL ls).length ≤ ls.length * 3
  | [] => by simp [bytesL]
  | p :: r => by
    have ih := bytesL_len r
    have h := insB_len3 p.1 p.2
    have e : bytesL (p :: r) = insB p.1 p.2 ++ bytesL r := by simp [bytesL]
    rw [e, List.length_append, List.length_cons]
    omega

theorem bytesL_small : ∀ (ls : List Ins), bytesF ls = 0 → ∀ c ∈ bytesL ls, 0 ≤ c ∧ c ≤ 255 := by
  intro ls h c hc
  unfold bytesL at hc
  obtain ⟨p, hp, hc'⟩ := List.mem_flatMap.1 hc
  exact insB_small p.1 p.2 ((bytesF_zero ls).1 h p hp) c hc'

set_option maxRecDepth 100000 in
set_option maxHeartbeats 1000000 in
theorem bytes_any (al : Option Addr) (ll cl : Nat) (ls : List Ins) (w : World) (h : Tab2 w) (hl : RowN w al ll ls) (hm : ll * 3 + 3 ≤ 140737489403904) :
    Calls Tryd.prog 21 #[.slice al ll cl] w fun e w' => ∃ (ao : Option Addr) (len cap : Nat), e = .returned (.tuple #[.slice ao len cap, .int .i64 (bytesF ls)]) ∧ Below w.heap.size w w' ∧ w'.ownsRow w.heap.size 5 1 (.slice ao len cap) len ((if bytesF ls = 0 then bytesL ls else []).map (Value.int .u8)) := by
  have HALL : Hid (∀ u, Below w.heap.size w u → Tab2 u ∧ RowN u al ll ls) := hide (fun u hu => ⟨h.below hu, hl.later hu⟩)
  have hbig := h.big
  have HLL := hide hl.1
  obtain ⟨R, hR⟩ : ∃ R, (if bytesF ls = 0 then bytesL ls else []).map (Value.int .u8) = R := ⟨_, rfl⟩
  obtain ⟨E, hE⟩ : ∃ E, bytesF ls = E := ⟨_, rfl⟩
  rw [hR, hE]
  rw [hE] at hR
  have HR := hide (And.intro hR hE)
  clear h hl hR hE
  go_enter Tryd.func21, Tryd.ntmps21
  go_wp2_with fail
  go_loopw [4, 10] (fun v x wr => ∃ (i n : Nat), x = .int .i64 (i : Int) ∧ Hid (i ≤ ll ∧ n ≤ i * 3) ∧ Hid (wr.ownsRow w.heap.size 5 1 v n ((bytesL (ls.take i)).map (Value.int .u8)) ∧ bytesF (ls.take i) = 0 ∧ Below w.heap.size w wr)) (fun _ x _ => ll - (intOf x).toNat)
  case atStart => exact ⟨0, 0, rfl, hide ⟨by omega, by omega⟩, hide ⟨World.ownsRow_nil _ _ _ _, rfl, Below.refl _ _⟩⟩
  case round =>
    obtain ⟨i, n, rfl, HX, HY⟩ := hrel
    obtain ⟨wq, hwq⟩ : ∃ wq, wq = wr := ⟨_, rfl⟩
    subst hwq
    have szq : w.heap.size ≤ wq.heap.size := (unhide HY).2.2.size
    by_cases hlt : i < ll
    · have i1 : (i : Int) < (ll : Int) := by omega
      obtain ⟨⟨op, a⟩, hp⟩ : ∃ p, ls[i]? = some p := ⟨_, List.getElem?_eq_getElem (by rw [unhide HLL]; exact hlt)⟩
      obtain ⟨tq, nq⟩ := unhide HALL wq (unhide HY).2.2
      obtain ⟨ad, b, o, rfl, hadd, cA, cB⟩ := nq.2.2 i _ hp
      simp only [] at cA cB
      have htk : ls.take (i + 1) = ls.take i ++ [(op, a)] := by
        rw [List.take_succ_eq_append_getElem (by rw [unhide HLL]; exact hlt)]
        rw [List.getElem?_eq_getElem (by rw [unhide HLL]; exact hlt)] at hp
        rw [Option.some.inj hp]
      have hdr : ls = ls.take i ++ (op, a) :: ls.drop (i + 1) := by
        conv => lhs; rw [← List.take_append_drop (i + 1) ls, htk]
        simp
      obtain ⟨F, hF⟩ : ∃ F, faultI op a = F := ⟨_, rfl⟩
      have HF := hide hF
      have HTK := hide (And.intro htk hdr)
      have HL := hide hlt
      clear hp tq nq htk hdr hlt hF
      go_upto_region 5 with fail
      obtain ⟨w1, hw1⟩ : ∃ w1, w1 = wq.alloc (.cells #[.int .i64 op, .int .i64 a] 42) := ⟨_, rfl⟩
      rw [← hw1]
      have B1 : Hid (Below wq.heap.size wq w1) := hide (by rw [hw1]; exact (Below.refl _ _).alloc (Nat.le_refl _) _)
      have A1 : Hid (w1.heap[wq.heap.size]? = some (.cells #[.int .i64 op, .int .i64 a] 42 (0, 0))) := hide (by rw [hw1]; exact heap_alloc_new _ _)
      have Z1 : w1.heap.size = wq.heap.size + 1 := by rw [hw1]; simp
      have X1 : Hid (Below w.heap.size w w1) := hide ((unhide HY).2.2.trans ((unhide B1).mono szq))
      clear hw1 cA cB
      obtain ⟨c0, c1⟩ := ins_cells (unhide A1)
      have CF := hide (fault_any op a w1 (unhide HALL w1 (unhide X1)).1)
      rw [unhide HF] at CF
      go_wp2_with fail
      refine (unhide CF).mono ?_
      rintro e w2 ⟨rfl, B2⟩
      have H2 := hide B2
      have z2 := B2.size
      have X2 : Hid (Below w.heap.size w w2) := hide ((unhide X1).trans (B2.mono (unhide X1).size))
      have A2 := (B2.block wq.heap.size (by omega)).trans (unhide A1)
      clear B2 CF c0 c1
      obtain ⟨c0, c1⟩ := ins_cells A2
      clear A2
      by_cases hf0 : F = 0
      · subst hf0
        have own2 := own_below (own_below (unhide HY).1 (unhide B1)) (unhide H2)
        have CL := hide (lay_any w.heap.size n u4 (bytesL (ls.take i)) op a w2 (unhide HALL w2 (unhide X2)).1 (unhide HF) own2 (by omega) (by omega) (by have := (unhide HX).2; omega))
        have O2 := hide own2
        clear own2
        go_wp2_with fail
        refine (unhide CL).mono ?_
        rintro e w3 ⟨sv, rfl, own3, gr3⟩
        have hl3 := (insB_len3 op a).2
        have H3 : Hid (w3.ownsRow w.heap.size 5 1 sv (n + (insB op a).length) ((bytesL (ls.take (i + 1))).map (Value.int .u8)) ∧ bytesF (ls.take (i + 1)) = 0 ∧ Below w.heap.size w w3) := hide (by
          refine ⟨?_, ?_, (unhide X2).trans (gr3.below (unhide O2) (by omega))⟩
          · rw [(unhide HTK).1, bytesL_app, bytesL_one]
            exact own3
          · rw [(unhide HTK).1, bytesF_app _ _ (unhide HY).2.1]
            simp [bytesF, unhide HF])
        have HI1 : Hid (i + 1 ≤ ll ∧ n + (insB op a).length ≤ (i + 1) * 3) := hide (by have := unhide HL; have := (unhide HX).2; omega)
        clear own3 gr3 CL
        go_wp2_with fail
        go_roundw
        case rel => exact ⟨i + 1, _, by go_num, HI1, H3⟩
        case measure => have := unhide HL; simp [intOf]; omega
      · have hf1 : (F == 0) = false := by simpa using hf0
        have hEF : E = F := by
          rw [← (unhide HR).2, (unhide HTK).2, bytesF_app _ _ (unhide HY).2.1]
          simp only [bytesF]
          rw [unhide HF, if_neg hf0]
        subst hEF
        go_wp2_with fail
        go_ret2
        exact ⟨none, 0, 0, rfl, unhide X2, by rw [← (unhide HR).1, if_neg hf0]; exact World.ownsRow_nil _ _ _ _⟩
    · have hi : i = ll := by have := (unhide HX).1; omega
      subst hi
      have htk : ls.take i = ls := List.take_of_length_le (by rw [unhide HLL]; exact Nat.le_refl _)
      have hY := unhide HY
      rw [htk] at hY
      have hE0 : E = 0 := by rw [← (unhide HR).2]; exact hY.2.1
      subst hE0
      have HZ := hide hY
      clear hY HY htk
      obtain ⟨ao, cap, rfl⟩ := own_slice (unhide HZ).1
      go_wp2_with fail
      go_ret2
      exact ⟨ao, n, cap, rfl, (unhide HZ).2.2, by rw [← (unhide HR).1, if_pos (by trivial)]; exact (unhide HZ).1⟩
end Go.Proofs.YtbilcninhhkkpaaDoor
