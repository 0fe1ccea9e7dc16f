/-
  The walk of code.Bytes (layer 8), and lists of instructions and of places of the call's own; conditions: the package's variables, at most 2^45 instructions.
  The walk of code.List (layer 8): the instructions whose bytes these are; conditions: the package's variables, at most 2^43 instructions.
-/
import Derived.Test.YtmnbfcpkaglniaaGreatDoorS02
import Derived.Test.YtmnbfcpkaglniaaGreatDoorS16
import Derived.Deep.AppendLies
import Derived.Test.YtmnbfcpkaglniaaGreatDoorS05
import Derived.Test.YtmnbfcpkaglniaaGreatDoorS03
set_option linter.unusedVariables false
set_option linter.unusedSimpArgs false
namespace Go.Proofs.YtmnbfcpkaglniaaGreatDoor
open Go.RowKit
/-- append of one element that was just laid -/
theorem wpl_oneG {P : Program} {w : World} {ops : Array Oper} {rest : List Oper} {o : Oper} {a : Act} {Q : Exit → Act → World → Prop} (hgd : o.guard = none) (sl x : Operand) (T e : TypeId) (i0 : TypeInfo) (z : Value) (size bytes : Nat)
    (hu : P.underlying T = some (.slice e)) (hi : P.info? e = some i0) (hz : i0.zero = some z) (hs1 : i0.size = size) (hby : i0.bytes = bytes) (hzs : z.cells.size = size) (hsz : 0 < size)
    (ho : o.op = .call { callee := .builtin .append, args := #[sl, x], argTypes := #[T, T] })
    (base n : Nat) (v : Value) (xs : List Value) (A : List Value) (hA : A.length = size) (h1 : ∀ u ∈ A, u.oneCell' = true) (hs : a.eval sl = v) (hown : w.ownsRow base e size v n xs)
    (hx : a.eval x = .slice (some ⟨w.heap.size, 0, none⟩) 1 1) (hn : n + 1 ≤ maxLen) (hbytes : (n + 1) * bytes ≤ 140737488355328) (hbase : base ≤ w.heap.size)
    (h : ∀ v' w', Hid (w'.ownsRow base e size v' (n + 1) (xs ++ A) ∧ w.grownBy w' v.ownBlock ∧ ∀ b, v'.ownBlock = some b → v.ownBlock = some b ∨ w.heap.size ≤ b) → wpList P ops Q rest (a.put o.dst v') w') :
    wpList P ops Q (o :: rest) a (w.alloc (.cells A.toArray e)) := by
  refine wpList_plain hgd fun K hK => ?_
  have hb : Below w.heap.size w (w.alloc (.cells A.toArray e)) := (Below.refl _ _).alloc (Nat.le_refl _) _
  have hnew := heap_alloc_new w (.cells A.toArray e)
  have hz1 : (w.alloc (.cells A.toArray e)).heap.size = w.heap.size + 1 := by simp
  obtain ⟨v', w', hrun, r1, r2, _, r4⟩ := run_append_own_at (P := P) (w.alloc (.cells A.toArray e)) base T o.type e i0 z size bytes hu hi hz hs1 hby hzs hsz v n xs (hown.alloc _) ⟨w.heap.size, 0, none⟩ 1 1 A (by omega) (fun j u hj => World.news_of_block hnew j u (by simpa using hj)) h1 hn hbytes (by omega)
  unfold Oper.wp
  simp only [execOp, ho, resolve, invoke, builtin, Sem.run_bind, Sem.run_pure, Result.andThen_ok, List.map_toArray, List.map_cons, List.map_nil, hs, hx, hrun]
  refine hK _ _ (h v' w' ⟨r1, ⟨r2.os, r2.tape, r2.output, by have := r2.size; omega, fun k hk hne => (r2.block k (by omega) hne).trans (heap_alloc_old w _ hk)⟩, fun b hb' => ?_⟩)
  rcases r4 with e' | e'
  · exact Or.inl (by rw [← e']; exact hb')
  · rw [hb'] at e'
    exact Or.inr (by rw [Option.some.inj e', hz1]; omega)
/-- rows of unlike types lie apart -/
theorem own_apart {w : World} {b1 b2 : Nat} {e1 e2 : TypeId} {s1 s2 n1 n2 : Nat} {v1 v2 : Value} {x1 x2 : List Value} (h1 : w.ownsRow b1 e1 s1 v1 n1 x1) (h2 : w.ownsRow b2 e2 s2 v2 n2 x2) (hne : e1 ≠ e2) : v1.ownBlock = none ∨ v1.ownBlock ≠ v2.ownBlock := by
  rcases h1.2 with ⟨rfl, _⟩ | ⟨g1, c1, cur1, rfl, _, hg1, _⟩
  · exact Or.inl rfl
  · right
    rcases h2.2 with ⟨rfl, _⟩ | ⟨g2, c2, cur2, rfl, _, hg2, _⟩
    · simp [Value.ownBlock]
    · intro e
      have e' : g1 = g2 := by simpa [Value.ownBlock] using e
      subst e'
      rw [hg1] at hg2
      simp at hg2
      exact hne hg2.2
def insV (ls : List Ins) : List Value := ls.flatMap fun p => [.int .i64 p.1, .int .i64 p.2]
theorem insV_app (a b : List Ins) : insV (a ++ b) = insV a ++ insV b := by simp [insV]
theorem insV_len : ∀ ls : List Ins, (insV ls).length = ls.length * 2
  | [] => rfl
  | p :: r => by
    have := insV_len r
    simp only [insV, List.flatMap_cons, List.length_append, List.length_cons, List.length_nil] at this ⊢
    omega
theorem insV_at : ∀ (ls : List Ins) (i : Nat) (p : Ins), ls[i]? = some p → (insV ls)[i * 2]? = some (.int .i64 p.1) ∧ (insV ls)[i * 2 + 1]? = some (.int .i64 p.2)
  | [], i, p, h => by simp at h
  | q :: r, 0, p, h => by simp at h; subst h; simp [insV]
  | q :: r, i + 1, p, h => by
    have ih := insV_at r i p (by simpa using h)
    have e : insV (q :: r) = .int .i64 q.1 :: .int .i64 q.2 :: insV r := by simp [insV]
    rw [e, show (i + 1) * 2 = i * 2 + 1 + 1 by omega]
    simpa using ih
/-- a list of the call's own as a slice of instructions -/
theorem own_rowN {w : World} {base n : Nat} {ao : Option Addr} {len cap : Nat} {ls : List Ins} (h : w.ownsRow base 36 2 (.slice ao len cap) n (insV ls)) (hb : ∀ p ∈ ls, i64B p.1 ∧ i64B p.2) : RowN w ao len ls ∧ len = n := by
  have h1 := h.1
  rw [insV_len] at h1
  rcases h.2 with ⟨e, e2⟩ | ⟨g, c, cur, e, _⟩
  · cases e
    subst e2
    have : ls = [] := List.eq_nil_of_length_eq_zero (by omega)
    subst this
    exact ⟨⟨rfl, (fun p h => by cases h), fun j p h => by simp at h⟩, rfl⟩
  · cases e
    refine ⟨⟨by omega, hb, fun j p hp => ?_⟩, rfl⟩
    have hc := insV_at ls j p hp
    have hg := h.cells (g := g) rfl
    have ha : ∀ k, (⟨g, 0, none⟩ : Addr).add k = ⟨g, k, none⟩ := fun k => by unfold Addr.add; split <;> simp_all
    refine ⟨⟨g, 0, none⟩, g, j * 2, rfl, ha _, ?_, ?_⟩
    · have := hg _ _ hc.1
      rw [ha] at this
      exact this
    · have := hg _ _ hc.2
      rw [ha] at this
      exact this
/-- what List answers: instructions, places, place, error -/
abbrev Lst := List Ins × List Int × Int × Int
def glue (la : List Ins) (pa : List Int) (r : Lst) : Lst := if r.2.2.2 = 0 then (la ++ r.1, pa ++ r.2.1, 0, 0) else ([], [], r.2.2.1, r.2.2.2)
/-- reading from a place on -/
def lst (zs : List Int) : Nat → Nat → Lst
  | 0, _ => ([], [], 0, 0)
  | f + 1, p =>
    if zs.length ≤ p then ([], [], 0, 0)
    else if (takeI zs (p : Int)).2.2.2 = 0 then glue [((takeI zs (p : Int)).1, (takeI zs (p : Int)).2.1)] [(p : Int)] (lst zs f (takeI zs (p : Int)).2.2.1.toNat)
    else ([], [], (p : Int), (takeI zs (p : Int)).2.2.2)
/-- how many instructions are read from a place on -/
def cntI (zs : List Int) : Nat → Nat → Nat
  | 0, _ => 0
  | f + 1, p =>
    if zs.length ≤ p then 0
    else if (takeI zs (p : Int)).2.2.2 = 0 then 1 + cntI zs f (takeI zs (p : Int)).2.2.1.toNat
    else 0
theorem cntI_le (zs : List Int) : ∀ f p, cntI zs f p ≤ f
  | 0, _ => Nat.le_refl _
  | f + 1, p => by
    unfold cntI
    split
    · omega
    · split
      · have := cntI_le zs f (takeI zs (p : Int)).2.2.1.toNat; omega
      · omega
theorem glue_glue (la lb : List Ins) (pa pb : List Int) (r : Lst) : glue la pa (glue lb pb r) = glue (la ++ lb) (pa ++ pb) r := by
  unfold glue
  by_cases h : r.2.2.2 = 0
  · simp [h]
  · simp [h]
theorem glue_end (la : List Ins) (pa : List Int) : glue la pa ([], [], 0, 0) = (la, pa, 0, 0) := by simp [glue]
theorem lst_norm (zs : List Int) (f p : Nat) : glue [] [] (lst zs f p) = lst zs f p := by
  cases f with
  | zero => rfl
  | succ f =>
    unfold lst
    split
    · rfl
    · split
      · rw [glue_glue]; rfl
      · rename_i h
        unfold glue
        rw [if_neg h]
/-- what holds of an instruction that is read -/
theorem take_good (zs : List Int) (p : Nat) (h : (takeI zs (p : Int)).2.2.2 = 0) :
    p < zs.length ∧ (takeI zs (p : Int)).1 = byt zs p ∧ (takeI zs (p : Int)).2.1 = valB zs p (siz (srt (byt zs p))) ∧ faultI (byt zs p) (valB zs p (siz (srt (byt zs p)))) = 0 ∧ (takeI zs (p : Int)).2.2.1 = (p : Int) + 1 + (siz (srt (byt zs p)) : Int) ∧ p + 1 + siz (srt (byt zs p)) ≤ zs.length := by
  unfold takeI at h ⊢
  rw [Int.toNat_natCast] at h ⊢
  by_cases h0 : (p : Int) < 0 ∨ (zs.length : Int) ≤ (p : Int)
  · rw [if_pos h0] at h; simp at h
  · rw [if_neg h0] at h ⊢
    by_cases h1 : 1 ≤ byt zs p ∧ byt zs p ≤ 41
    · rw [if_pos h1] at h ⊢
      by_cases h2 : zs.length < p + 1 + siz (srt (byt zs p))
      · rw [if_pos h2] at h; simp at h
      · rw [if_neg h2] at h ⊢
        by_cases h3 : faultI (byt zs p) (valB zs p (siz (srt (byt zs p)))) = 0
        · rw [if_pos h3] at h ⊢
          exact ⟨by omega, rfl, rfl, h3, rfl, by omega⟩
        · rw [if_neg h3] at h; simp at h
    · rw [if_neg h1] at h; simp at h
theorem take_bad (zs : List Int) (p : Int) (h : ¬ (takeI zs p).2.2.2 = 0) : (takeI zs p).1 = 0 ∧ (takeI zs p).2.1 = 0 ∧ (takeI zs p).2.2.1 = p := by
  unfold takeI at h ⊢
  repeat' split
  all_goals first | exact ⟨rfl, rfl, rfl⟩ | skip
  all_goals simp_all
/-- four results -/
theorem ret_tttt {P : Program} {fn : Func} {a b c d : Tmp} (h : fn.results = #[.tmp a, .tmp b, .tmp c, .tmp d]) (tmps : Array Value) (w : World) :
    (results fn tmps).run P w = .ok (.tuple #[tmps.getD a undef, tmps.getD b undef, tmps.getD c undef, tmps.getD d undef]) w := by
  simp [results, h]
theorem int_info : (Tryz.prog.info? 3).map (fun i => (i.zero, i.size, i.bytes)) = some (some (.int .i64 0), 1, 8) := by kernel_rfl
theorem own_sliceG {w : World} {base e size n : Nat} {v : Value} {xs : List Value} (h : w.ownsRow base e size v n xs) : ∃ ao cap, v = .slice ao n cap := by
  rcases h.2 with ⟨rfl, rfl⟩ | ⟨g, cap, cur, rfl, _⟩
  · exact ⟨none, 0, rfl⟩
  · exact ⟨_, cap, rfl⟩
/-- what List has answered lies in new memory -/
structure Listed (w w' : World) (r : Lst) (al : Option Addr) (cl : Nat) (ap : Option Addr) (cp : Nat) : Prop where
  below : Below w.heap.size w w'
  ins : w'.ownsRow w.heap.size 36 2 (.slice al r.1.length cl) r.1.length (insV r.1)
  pls : w'.ownsRow w.heap.size 3 1 (.slice ap r.2.1.length cp) r.2.1.length (r.2.1.map (Value.int .i64))
set_option maxRecDepth 100000 in
set_option maxHeartbeats 1000000 in
theorem list_any (ao : Option Addr) (len cap : Nat) (zs : List Int) (w : World) (h : Tab2 w) (hz : Row8 w ao len cap zs) (hcap : cap ≤ 9223372036854775807) (hN : (cntI zs len 0 + 1) * 16 ≤ 140737488355328) :
    Calls Tryz.prog 121 #[.slice ao len cap] w fun e w' => ∃ al cl ap cp, e = .returned (.tuple #[.slice al (lst zs len 0).1.length cl, .slice ap (lst zs len 0).2.1.length cp, .int .i64 (lst zs len 0).2.2.1, .int .i64 (lst zs len 0).2.2.2]) ∧ Listed w w' (lst zs len 0) al cl ap cp := by
  obtain ⟨i3, hi3, hz30, hz31, hz32⟩ := info_parts int_info
  obtain ⟨iN, hiN, hzN0, hzN1, hzN2⟩ := info_parts ins_info
  have HI := hide (And.intro hi3 (And.intro hz30 (And.intro hz31 hz32)))
  have HJ := hide (And.intro hiN (And.intro hzN0 (And.intro hzN1 hzN2)))
  have HALL : Hid (∀ u, Below w.heap.size w u → Tab2 u ∧ Row8 u ao len cap zs) := hide (fun u hu => ⟨h.below hu, hz.later hu⟩)
  have hzl := hz.length
  have hle := hz.le
  obtain ⟨R, hR⟩ : ∃ R, lst zs len 0 = R := ⟨_, rfl⟩
  obtain ⟨N, hNN⟩ : ∃ N, cntI zs len 0 = N := ⟨_, rfl⟩
  rw [hNN] at hN
  rw [hR]
  have HR := hide (And.intro hR hNN)
  obtain ⟨B0, hB0⟩ : ∃ B0, w.heap.size = B0 := ⟨_, rfl⟩
  clear h hz hi3 hz30 hz31 hz32 hiN hzN0 hzN1 hzN2 hR hNN
  go_enter Tryz.func121, Tryz.ntmps121
  go_wp2_with fail
  go_loopw [6, 7, 8] (fun v u x wr => ∃ (p f : Nat) (la : List Ins) (pa : List Int), x = .int .i64 (p : Int) ∧ Hid (p ≤ len ∧ len ≤ p + f ∧ la.length = pa.length ∧ la.length + cntI zs f p = N) ∧ Hid (wr.ownsRow w.heap.size 36 2 v la.length (insV la) ∧ wr.ownsRow w.heap.size 3 1 u pa.length (pa.map (Value.int .i64)) ∧ Below w.heap.size w wr ∧ R = glue la pa (lst zs f p))) (fun _ _ x _ => len - (intOf x).toNat)
  case atStart => exact ⟨0, len, [], [], rfl, hide ⟨by omega, by omega, rfl, by simp [(unhide HR).2]⟩, hide ⟨World.ownsRow_nil _ _ _ _, World.ownsRow_nil _ _ _ _, Below.refl _ _, by rw [← (unhide HR).1, lst_norm]⟩⟩
  case round =>
    obtain ⟨p, f, la, pa, rfl, HX, HY⟩ := hrel
    obtain ⟨wq, hwq⟩ : ∃ wq, wq = wr := ⟨_, rfl⟩
    subst hwq
    have szq : w.heap.size ≤ wq.heap.size := (unhide HY).2.2.1.size
    by_cases hlt : p < len
    · have p1 : (p : Int) < (len : Int) := by omega
      obtain ⟨f, rfl⟩ : ∃ f', f = f' + 1 := ⟨f - 1, by have := (unhide HX).2.1; omega⟩
      have CT := hide (take_any ao len cap zs (p : Int) wq (unhide HALL wq (unhide HY).2.2.1).1 (unhide HALL wq (unhide HY).2.2.1).2 hcap)
      have hst : lst zs (f + 1) p = if (takeI zs (p : Int)).2.2.2 = 0 then glue [((takeI zs (p : Int)).1, (takeI zs (p : Int)).2.1)] [(p : Int)] (lst zs f (takeI zs (p : Int)).2.2.1.toNat) else ([], [], (p : Int), (takeI zs (p : Int)).2.2.2) := by
        conv => lhs; unfold lst
        rw [if_neg (by omega)]
      have hct : cntI zs (f + 1) p = if (takeI zs (p : Int)).2.2.2 = 0 then 1 + cntI zs f (takeI zs (p : Int)).2.2.1.toNat else 0 := by
        conv => lhs; unfold cntI
        rw [if_neg (by omega)]
      have hgd := take_good zs p
      have hbd := take_bad zs (p : Int)
      obtain ⟨t0, t1, t2, t3, hT⟩ : ∃ t0 t1 t2 t3, takeI zs (p : Int) = (t0, t1, t2, t3) := ⟨_, _, _, _, rfl⟩
      rw [hT] at CT hst hct hgd hbd
      simp only [takeV] at CT hst hct hgd hbd
      have HL := hide hlt
      have HG := hide (And.intro hst (And.intro hct (And.intro hgd hbd)))
      clear hst hct hgd hbd hT hlt
      go_wp2_with fail
      refine (unhide CT).mono ?_
      rintro e w2 ⟨rfl, B2⟩
      have H2 := hide B2
      have z2 := B2.size
      have X2 : Hid (Below w.heap.size w w2) := hide ((unhide HY).2.2.1.trans (B2.mono szq))
      clear B2 CT
      by_cases he : t3 = 0
      · subst he
        have hg := (unhide HG).2.2.1 rfl
        have hst := (unhide HG).1
        have hct := (unhide HG).2.1
        rw [if_pos rfl] at hst hct
        obtain ⟨q, hq⟩ : ∃ q : Nat, t2 = (q : Int) := ⟨t2.toNat, by omega⟩
        subst hq
        rw [Int.toNat_natCast] at hst hct
        have hqp : p < q ∧ q ≤ len := by have := hg.2.2.2.2.1; have := hg.2.2.2.2.2; omega
        have HS := hide (And.intro hst hct)
        clear hg hst hct
        go_upto_region 8 with fail
        obtain ⟨w3, hw3⟩ : ∃ w3, w3 = w2.alloc (.cells #[.int .i64 t0, .int .i64 t1] 36) := ⟨_, rfl⟩
        rw [← hw3]
        have B3 : Hid (Below wq.heap.size wq w3) := hide (by rw [hw3]; exact (unhide H2).alloc (unhide H2).size _)
        have z3 := (unhide B3).size
        have X3 : Hid (Below w.heap.size w w3) := hide ((unhide HY).2.2.1.trans ((unhide B3).mono szq))
        obtain ⟨c0, c1⟩ := ins_cells (show w3.heap[w2.heap.size]? = some (.cells #[.int .i64 t0, .int .i64 t1] 36 (0, 0)) by rw [hw3]; exact heap_alloc_new _ _)
        have O3 : Hid (w3.ownsRow w.heap.size 36 2 u6 la.length (insV la) ∧ w3.ownsRow w.heap.size 3 1 u7 pa.length (pa.map (Value.int .i64))) := hide ⟨own_below (unhide HY).1 (unhide B3), own_below (unhide HY).2.1 (unhide B3)⟩
        have hla : (la.length + 1) * 16 ≤ 140737488355328 := by have := (unhide HX).2.2.2; omega
        have hpa : pa.length = la.length := (unhide HX).2.2.1.symm
        clear hw3
        have tokA : True := trivial
        have tokB : True := trivial
        go_wp2_with (first
          | (at_builtin; have _t := tokA; refine wpl_oneG rfl (.tmp 27) (.tmp 29) 171 36 iN _ 2 16 Tryz.underlying171 (unhide HJ).1 (unhide HJ).2.1 (unhide HJ).2.2.1 (unhide HJ).2.2.2 rfl (by omega) rfl w.heap.size la.length u6 (insV la) [.int .i64 t0, .int .i64 t1] rfl (by simp [Value.oneCell']) rfl (unhide O3).1 rfl (by unfold maxLen; omega) hla (by omega) ?_; clear tokA; intro v4 w4 H4; have z4 : w3.heap.size ≤ w4.heap.size := (unhide H4).2.1.size)
          | (at_builtin; have _t := tokB; refine wpl_oneG rfl (.tmp 31) (.tmp 33) 172 3 i3 _ 1 8 Tryz.underlying172 (unhide HI).1 (unhide HI).2.1 (unhide HI).2.2.1 (unhide HI).2.2.2 rfl (by omega) rfl w.heap.size pa.length u7 (pa.map (Value.int .i64)) [.int .i64 (p : Int)] rfl (by simp [Value.oneCell']) rfl ((unhide O3).2.kept (unhide H4).2.1 (own_apart (unhide O3).2 (unhide O3).1 (by decide))) rfl (by unfold maxLen; omega) (by omega) (by omega) ?_; clear tokB; intro v5 w5 H5))
        have H6 : Hid (w5.ownsRow w.heap.size 36 2 v4 (la ++ [(t0, t1)]).length (insV (la ++ [(t0, t1)])) ∧ w5.ownsRow w.heap.size 3 1 v5 (pa ++ [(p : Int)]).length ((pa ++ [(p : Int)]).map (Value.int .i64)) ∧ Below w.heap.size w w5 ∧ R = glue (la ++ [(t0, t1)]) (pa ++ [(p : Int)]) (lst zs f q)) := hide (by
          have o4 := (unhide O3).2.kept (unhide H4).2.1 (own_apart (unhide O3).2 (unhide O3).1 (by decide))
          refine ⟨?_, ?_, ?_, ?_⟩
          · have h1 := (unhide H4).1.kept (unhide H5).2.1 (own_apart (unhide H4).1 o4 (by decide))
            rw [insV_app, List.length_append]
            exact h1
          · rw [List.map_append, List.length_append]
            exact (unhide H5).1
          · have b4 : Below w.heap.size w3 w4 := (Below.refl _ _).grown (unhide H4).2.1 (by omega) (fun k e => ((unhide O3).1.lt k e).1)
            have b5 : Below w.heap.size w4 w5 := (Below.refl _ _).grown (unhide H5).2.1 (by omega) (fun k e => (o4.lt k e).1)
            exact ((unhide X3).trans b4).trans b5
          · rw [(unhide HY).2.2.2, (unhide HS).1, glue_glue])
        have HX1 : Hid (q ≤ len ∧ len ≤ q + f ∧ (la ++ [(t0, t1)]).length = (pa ++ [(p : Int)]).length ∧ (la ++ [(t0, t1)]).length + cntI zs f q = N) := hide (by
          have h1 := unhide HX
          rw [(unhide HS).2] at h1
          simp only [List.length_append, List.length_cons, List.length_nil]
          omega)
        clear H4 H5 O3 HS
        go_wp2_with fail
        go_roundw
        case rel => exact ⟨q, f, _, _, by first | rfl | go_num, HX1, H6⟩
        case measure => simp [intOf]; omega
      · have hb := (unhide HG).2.2.2 he
        obtain ⟨rfl, rfl, rfl⟩ := hb
        have hst := (unhide HG).1
        rw [if_neg he] at hst
        have he1 : (t3 == 0) = false := by simpa using he
        have hRR : R = ([], [], (p : Int), t3) := by rw [(unhide HY).2.2.2, hst]; unfold glue; rw [if_neg he]
        subst hRR
        have X3 : Hid (Below w.heap.size w w2) := X2
        clear hst
        go_wp2_with fail
        refine bodyPost_ret (ret_tttt (a := 2) (b := 3) (c := 4) (d := 5) rfl _ _) rfl ⟨none, 0, none, 0, rfl, ?_, World.ownsRow_nil _ _ _ _, World.ownsRow_nil _ _ _ _⟩
        exact (unhide X3).alloc (unhide X3).size _
    · have hp : p = len := by have := (unhide HX).1; omega
      subst hp
      have hst : lst zs f p = ([], [], 0, 0) := by
        cases f with
        | zero => rfl
        | succ f => unfold lst; rw [if_pos (by omega)]
      have hRR : R = (la, pa, 0, 0) := by rw [(unhide HY).2.2.2, hst, glue_end]
      subst hRR
      obtain ⟨al, cl, rfl⟩ := own_sliceG (unhide HY).1
      obtain ⟨ap, cp, rfl⟩ := own_sliceG (unhide HY).2.1
      clear hst
      go_wp2_with fail
      exact bodyPost_ret (ret_tttt (a := 2) (b := 3) (c := 4) (d := 5) rfl _ _) rfl ⟨al, cl, ap, cp, rfl, (unhide HY).2.2.1, (unhide HY).1, (unhide HY).2.1⟩
end Go.Proofs.YtmnbfcpkaglniaaGreatDoor
