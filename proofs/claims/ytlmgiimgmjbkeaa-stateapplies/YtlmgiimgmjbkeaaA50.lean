/-
  A state's entries and their bytes; the walk of a state's Encode; no conditions but the form's own reach.
  What every program tells of states; no conditions.
-/
import Derived.Test.YtlmgiimgmjbkeaaA29
import Derived.Test.YtlmgiimgmjbkeaaA15
import Derived.Test.YtlmgiimgmjbkeaaA04
import Derived.Lib.SlBytesConst
set_option linter.unusedVariables false
set_option linter.unusedSimpArgs false
namespace Go.Proofs.Ytlmgiimgmjbkeaa
open Go.RowKit
set_option linter.unusedVariables false
set_option linter.unusedSimpArgs false

def encE (e : En) : List Int := tx e.1 ++ wenc e.2
def encEs (l : List En) : List Int := l.flatMap encE
def headE : List Int := [83, 83, 84, 49]
def encS (l : List En) : List Int := headE ++ encF 9 (l.length : Int) ++ encEs l

theorem encEs_app (a b : List En) : encEs (a ++ b) = encEs a ++ encEs b := by simp [encEs]
theorem encEs_one (e : En) : encEs [e] = encE e := by simp [encEs]
theorem encEs_cons (e : En) (r : List En) : encEs (e :: r) = encE e ++ encEs r := by simp [encEs]

/-- the bytes of the first entries, how many there are ahead -/
def outE (es : List En) (n i : Nat) : List Int := headE ++ encF 9 (n : Int) ++ encEs (es.take i)

theorem outE_next (es : List En) (n i : Nat) (s : ByteArray) (v : Vl) (h : es[i]? = some (s, v)) : outE es n (i + 1) = outE es n i ++ (encF 9 (s.size : Int) ++ nums s) ++ wenc v := by
  obtain ⟨hi, he⟩ := List.getElem?_eq_some_iff.1 h
  unfold outE
  rw [List.take_succ_eq_append_getElem hi, encEs_app, he, encEs_one]
  simp [encE, tx, List.append_assoc]

theorem right_parts {es : List En} (h : rightE es = true) : es.length ≤ 128 ∧ stepsE (keysE es) = true ∧ (∀ e ∈ es, entB e = true) ∧ entsW es ≤ 32768 := by
  unfold rightE at h
  simp only [Bool.and_eq_true, decide_eq_true_eq, List.all_eq_true] at h
  exact ⟨h.1.1.1, h.1.1.2, h.1.2, h.2⟩

theorem ent_parts {e : En} (h : entB e = true) : 1 ≤ e.1.size ∧ e.1.size ≤ 32 ∧ rightB e.2 = true := by
  unfold entB at h
  simp only [Bool.and_eq_true, decide_eq_true_eq] at h
  exact ⟨h.1.1, h.1.2, h.2⟩

theorem encE_len {e : En} (h : entB e = true) : (encE e).length ≤ 43100 := by
  obtain ⟨h1, h2, h3⟩ := ent_parts h
  have := tx_len e.1
  have := wenc_len e.2
  have := (right_wt h3).2
  unfold encE
  rw [List.length_append]
  omega

theorem encEs_len : ∀ (es : List En), (∀ e ∈ es, entB e = true) → (encEs es).length ≤ es.length * 43100
  | [], _ => by simp [encEs]
  | e :: r, h => by
    have h1 := encE_len (h e List.mem_cons_self)
    have h2 := encEs_len r (fun x hx => h x (List.mem_cons_of_mem _ hx))
    rw [encEs_cons, List.length_append, List.length_cons]
    omega

theorem outE_len {es : List En} (h : ∀ e ∈ es, entB e = true) (n i : Nat) : (outE es n i).length ≤ 14 + i * 43100 := by
  have h1 := encEs_len (es.take i) (fun e he => h e (List.mem_of_mem_take he))
  have h2 := encF_len 9 (n : Int)
  have h3 : (es.take i).length ≤ i := by rw [List.length_take]; omega
  unfold outE headE
  rw [List.length_append, List.length_append]
  simp only [List.length_cons, List.length_nil]
  have := Nat.mul_le_mul_right 43100 h3
  omega
end Go.Proofs.Ytlmgiimgmjbkeaa

namespace Go.Proofs.Ytlmgiimgmjbkeaa
open Go.RowKit

def codeS (es : List En) : Int := if rightE es = true then 0 else 70
def bytesS (es : List En) : List Int := if rightE es = true then encS es else []

theorem rowKeep {w w' : World} {ao : Option Addr} {len cap : Nat} {zs : List Int} (h : Row8 w ao len cap zs) (hb : ∀ ad, ao = some ad → w'.heap[ad.block]? = w.heap[ad.block]?) : Row8 w' ao len cap zs := by
  refine ⟨h.length, h.none, fun ad ha j u hj => ?_, h.small, h.le⟩
  have e : w'.cell? (ad.add j) = w.cell? (ad.add j) := World.cell?_of_block (by rw [block_add]; exact hb ad ha)
  rw [e]
  exact h.cells ad ha j u hj

/-- append onto a full row that is not the call's alone -/
theorem wpl_grow {w : World} {ops : Array Oper} {rest : List Oper} {o : Oper} {a : Act} {Q : Exit → Act → World → Prop} (hgd : o.guard = none) (sl x : Operand)
    (ho : o.op = .call { callee := .builtin .append, args := #[sl, x], argTypes := #[44, 44] })
    (g n : Nat) (xs : List Int) (hs : a.eval sl = .slice (some ⟨g, 0, none⟩) n n) (hc : Row8 w (some ⟨g, 0, none⟩) n n xs)
    (ad : Addr) (m c : Nat) (rs : List Int) (hx : a.eval x = .slice (some ad) m c) (hr : Row8 w (some ad) m c rs) (hm : 0 < m)
    (hbytes : n + m ≤ 140737488355328)
    (h : ∀ v' w', Hid (w'.ownsRow w.heap.size 5 1 v' (n + m) ((xs ++ rs).map (Value.int .u8)) ∧ Below w.heap.size w w') → wpList Try.prog ops Q rest (a.put o.dst v') w') :
    wpList Try.prog ops Q (o :: rest) a w := by
  obtain ⟨i0, hi, hz0, hz1, hz2⟩ := info_parts info5
  have hxl : (xs.map (Value.int .u8)).length = n := by rw [List.length_map]; exact hc.length
  have hrl : (rs.map (Value.int .u8)).length = m := by rw [List.length_map]; exact hr.length
  refine wpList_plain hgd fun K hK => ?_
  have hrun := run_append_grow (P := Try.prog) w 44 o.type 5 i0 (.int .u8 0) Try.underlying44 hi hz0 ⟨g, 0, none⟩ n n (xs.map (Value.int .u8)) (by rw [hz1, hxl, Nat.mul_one]) (hc.cells _ rfl) ad m c (rs.map (Value.int .u8)) (by rw [hz1, hrl, Nat.mul_one]) (hr.cells _ rfl) (by omega) (by omega) (by have := next_far (need := n + m) (old := n) (by omega); rw [hz2]; omega)
  unfold Oper.wp
  simp only [execOp, ho, resolve, invoke, builtin, Sem.run_bind, Sem.run_pure, Result.andThen_ok, List.map_toArray, List.map_cons, List.map_nil, hs, hx, hrun]
  refine hK _ _ (h _ _ ⟨?_, (Below.refl _ _).grown (made_grown w _ _ none) (Nat.le_refl _) (by simp)⟩)
  exact made8 w w.heap.size (n + m) _ _ _ (by simp) (by rw [List.length_map, List.length_append, hc.length, hr.length]) (grownCap_ge w (n + m) n 5) (grownCap_le_maxLen w (n + m) n 5 (by unfold maxLen; omega)) (Nat.le_refl _)

theorem head_row (u : World) (f : Nat × Nat) : Row8 (u.alloc (.cells #[.int .u8 83, .int .u8 83, .int .u8 84, .int .u8 49] 5 f)) (some ⟨u.heap.size, 0, none⟩) 4 4 headE ∧ Below u.heap.size u (u.alloc (.cells #[.int .u8 83, .int .u8 83, .int .u8 84, .int .u8 49] 5 f)) := by
  refine ⟨⟨rfl, (fun e => by cases e), fun ad ha j v hj => ?_, (by intro n hn; simp [headE] at hn; omega), Nat.le_refl _⟩, (Below.refl _ _).alloc (Nat.le_refl _) _⟩
  cases ha
  have hadd : (⟨u.heap.size, 0, none⟩ : Addr).add j = ⟨u.heap.size, j, none⟩ := by unfold Addr.add; split <;> simp_all
  rw [hadd, cell_of_row _ u.heap.size j _ 5 f (heap_alloc_new u _)]
  rw [← hj]
  simp [headE]

theorem row8_ownS {w : World} {base : Nat} {v : Value} {zs : List Int} (h : w.ownsRow base 5 1 v zs.length (zs.map (Value.int .u8))) (hs : ∀ c ∈ zs, 0 ≤ c ∧ c ≤ 255) : ∃ ao cap, v = .slice ao zs.length cap ∧ Row8 w ao zs.length cap zs ∧ cap ≤ maxLen := by
  rcases h.2 with ⟨rfl, h0⟩ | ⟨g, cap, cur, rfl, _, _, hnc, hcm, _⟩
  · have : zs = [] := List.eq_nil_of_length_eq_zero h0
    subst this
    exact ⟨none, 0, rfl, nilRow w, by unfold maxLen; omega⟩
  · exact ⟨_, cap, rfl, Row8.own h hs, hcm⟩

theorem encS_small {es : List En} (h : ∀ e ∈ es, entB e = true) (hf : ∀ e ∈ es, fitB e.2 = true) (hn : es.length ≤ 128) : ∀ c ∈ encS es, 0 ≤ c ∧ c ≤ 255 := by
  intro c hc
  unfold encS at hc
  rcases List.mem_append.1 hc with hc | hc
  · rcases List.mem_append.1 hc with hc | hc
    · simp [headE] at hc
      omega
    · exact encF_bytes 9 _ (by omega) (by omega) c hc
  · unfold encEs at hc
    obtain ⟨e, he, hc⟩ := List.mem_flatMap.1 hc
    obtain ⟨q1, q2, q3⟩ := ent_parts (h e he)
    unfold encE at hc
    rcases List.mem_append.1 hc with hc | hc
    · exact tx_small e.1 (by omega) c hc
    · exact wenc_small e.2 8 (right_wt q3).1 (hf e he) c hc

set_option maxRecDepth 100000 in
set_option maxHeartbeats 1000000 in
theorem encodeS_any (es : List En) (al : Option Addr) (n cl B : Nat) (w : World) (hn : es.length = n) (h : IsE w (fun b => b < B) es al cl) (hB : B ≤ w.heap.size) :
    Calls Try.prog 19 #[.slice al n cl] w fun e w' => ∃ (ao : Option Addr) (len cap : Nat), e = .returned (.tuple #[.slice ao len cap, .int .i64 (codeS es)]) ∧ Row8 w' ao len cap (bytesS es) ∧ Below w.heap.size w w' ∧ (∀ a, ao = some a → w.heap.size ≤ a.block) ∧ cap ≤ maxLen := by
  have hl := h.len
  rw [hn] at hl
  have CR := hide (rightE_any es al n cl B w hn h hB)
  have HV : Hid (∀ u, Below w.heap.size w u → IsE u (fun b => b < B) es al cl) := hide (fun u hu => h.later (hu.mono hB))
  have HN := hide hn
  cases hR : rightE es with
  | false =>
    rw [hR] at CR
    have h1 : codeS es = 70 := by unfold codeS; rw [hR]; rfl
    have h2 : bytesS es = [] := by unfold bytesS; rw [hR]; rfl
    rw [h1, h2]
    clear hR h1 h2 hn h
    go_enter Try.func19, Try.ntmps19
    go_wp2_with fail
    refine (unhide CR).mono ?_
    rintro e u ⟨rfl, b1⟩
    have B1 := hide b1
    clear b1 CR
    go_wp2_with fail
    go_ret2
    exact ⟨none, 0, 0, rfl, nilRow _, unhide B1, (fun a e => by cases e), by unfold maxLen; omega⟩
  | true =>
    rw [hR] at CR
    have h1 : codeS es = 0 := by unfold codeS; rw [hR]; rfl
    have h2 : bytesS es = encS es := by unfold bytesS; rw [hR]; rfl
    rw [h1, h2]
    obtain ⟨r1, r2, r3, r4⟩ := right_parts hR
    rw [hn] at r1
    have H3 := hide r3
    have hF := h.fit
    have H4 := hide hF
    have hlen := fun i => outE_len r3 n i
    clear hR h1 h2 hn h r2 r3 r4 hF
    have HLE := hide hlen
    clear hlen
    go_enter Try.func19, Try.ntmps19
    go_wp2_with fail
    refine (unhide CR).mono ?_
    rintro e u ⟨rfl, b1⟩
    have B1 := hide b1
    clear b1 CR
    have i1 : IntKind.u64.wrap (n : Int) = (n : Int) := by rw [IntKind.wrap_u64]; omega
    have kc := fun (w : World) (C : Array Value) (n c : Nat) => Lib.run_convert_bytes_const (P := Try.prog) w 44 5 C n c Try.underlying44 Try.underlying5
    go_wp2_with fail
    clear kc
    obtain ⟨R1, b2⟩ := head_row u (4, 5)
    obtain ⟨w1, hw1⟩ : ∃ w1, u.alloc (.cells #[.int .u8 83, .int .u8 83, .int .u8 84, .int .u8 49] 5 (4, 5)) = w1 := ⟨_, rfl⟩
    rw [hw1] at R1 b2 ⊢
    obtain ⟨g, hg⟩ : ∃ g, u.heap.size = g := ⟨_, rfl⟩
    rw [hg] at R1 ⊢
    have X1 := hide ((unhide B1).trans (b2.mono (unhide B1).size))
    have HR1 := hide R1
    have hw0 : w.heap.size ≤ w1.heap.size := (unhide X1).size
    clear hw1 hg R1 b2 B1
    refine (putUint_any none 0 0 (n : Int) [] w1 (nilRow _) (by omega) (by omega) (by omega)).mono ?_
    rintro e w2 ⟨rfl, o2, b3⟩
    simp only [Nat.zero_add, List.nil_append] at o2 ⊢
    have hel := encF_len 9 (n : Int)
    have R2 := hide (Row8.own o2 (encF_bytes 9 (n : Int) (by omega) (by omega)))
    obtain ⟨eL, heL⟩ : ∃ eL, (encF 9 (n : Int)).length = eL := ⟨_, rfl⟩
    rw [heL] at hel R2 ⊢
    have HR2 := hide ((unhide HR1).later b3)
    have X2 := hide ((unhide X1).trans (b3.mono (unhide X1).size))
    have hg1 : w.heap.size ≤ w2.heap.size := (unhide X2).size
    have HEL := hide heL
    clear o2 b3 heL HR1 X1
    go_wp2_with (first | (at_builtin; refine wpl_grow rfl (.tmp 13) (.tmp 17) rfl g 4 headE rfl (unhide HR2) ⟨w1.heap.size, 0, none⟩ eL 10 (encF 9 (n : Int)) rfl (unhide R2) (by omega) (by omega) ?_; intro v3 w3 o3))
    have H3' : Hid (w3.ownsRow w.heap.size 5 1 v3 (outE es n 0).length ((outE es n 0).map (Value.int .u8)) ∧ Below w.heap.size w w3) := hide (by
      obtain ⟨q1, q2⟩ := unhide o3
      refine ⟨?_, (unhide X2).trans (q2.mono hg1)⟩
      have e : outE es n 0 = headE ++ encF 9 (n : Int) := by simp [outE, encEs]
      rw [e, List.length_append, unhide HEL]
      exact own_low q1 hg1)
    clear o3 HR2 R2 X2 HEL hel hg1 hw0
    go_loopw [4, 21] (fun x y wr => ∃ (i : Nat), y = .int .i64 (i : Int) ∧ Hid (i ≤ n) ∧ Hid (wr.ownsRow w.heap.size 5 1 x (outE es n i).length ((outE es n i).map (Value.int .u8)) ∧ Below w.heap.size w wr)) (fun _ y _ => n - (intOf y).toNat)
    case atStart => exact ⟨0, rfl, hide (by omega), H3'⟩
    case round =>
      clear H3'
      obtain ⟨i, rfl, HI, HX⟩ := hrel
      by_cases hlt : i < n
      · have j1 : (i : Int) < (n : Int) := by omega
        have HI1 : Hid (i + 1 ≤ n) := hide (by omega)
        obtain ⟨e, he⟩ : ∃ e, es[i]? = some e := ⟨_, List.getElem?_eq_getElem (by have := unhide HN; omega)⟩
        have hv := unhide HV wr (unhide HX).2
        obtain ⟨a, x0, x1, x2, al', ak', ll', m', cl', ck', rfl, _, hsz, hc, hp⟩ := hv.elem i e he
        obtain ⟨s, hs⟩ : ∃ s, e.1 = s := ⟨_, rfl⟩
        obtain ⟨v, hvv⟩ : ∃ v, e.2 = v := ⟨_, rfl⟩
        obtain rfl : e = (s, v) := by rw [← hs, ← hvv]
        clear hs hvv hv
        dsimp only at hsz hc hp
        have c0 : wr.cell? (a.add (i * 6)) = some (.string s) := hc 0 _ rfl
        have c1 : wr.cell? ⟨(a.add (i * 6)).block, (a.add (i * 6)).off + 1, none⟩ = some (.int .i64 x0) := hc 1 _ rfl
        have c2 : wr.cell? ⟨(a.add (i * 6)).block, (a.add (i * 6)).off + 2, none⟩ = some (.int .i64 x1) := hc 2 _ rfl
        have c3 : wr.cell? ⟨(a.add (i * 6)).block, (a.add (i * 6)).off + 3, none⟩ = some (.string x2) := hc 3 _ rfl
        have c4 : wr.cell? ⟨(a.add (i * 6)).block, (a.add (i * 6)).off + 4, none⟩ = some (.slice al' ll' cl') := hc 4 _ rfl
        have c5 : wr.cell? ⟨(a.add (i * 6)).block, (a.add (i * 6)).off + 5, none⟩ = some (.slice ak' m' ck') := hc 5 _ rfl
        obtain ⟨g6, hg6⟩ : ∃ g6, wr.heap.size = g6 := ⟨_, rfl⟩
        have BX := Box6.mk' wr (.string s) (.int .i64 x0) (.int .i64 x1) (.string x2) (.slice al' ll' cl') (.slice ak' m' ck')
        obtain ⟨w5, hw5⟩ : ∃ w5, wr.alloc (.cells #[.string s, .int .i64 x0, .int .i64 x1, .string x2, .slice al' ll' cl', .slice ak' m' ck'] 48) = w5 := ⟨_, rfl⟩
        rw [hw5] at BX
        obtain ⟨d0, d1, d2, d3, d4, d5⟩ := row_cell6 (by have := BX.row; rw [hg6] at this; exact this)
        have hBr : B ≤ wr.heap.size := Nat.le_trans hB (unhide HX).2.size
        have HP : Hid (∀ u, Below w5.heap.size w5 u → IsV u B v (.agg #[.int .i64 x0, .int .i64 x1, .string x2, .slice al' ll' cl', .slice ak' m' ck']) ∧ u.heap[g6]? = some (.cells #[.string s, .int .i64 x0, .int .i64 x1, .string x2, .slice al' ll' cl', .slice ak' m' ck'] 48 (0, 0)) ∧ B ≤ u.heap.size ∧ Below wr.heap.size wr u) := hide (fun u hu => by
          have hz := BX.size
          have b5 : Below wr.heap.size wr u := BX.below.trans (hu.mono (by omega))
          refine ⟨IsV.mono (b5.mono hBr) hp, (hu.block g6 (by omega)).trans (by rw [← hg6]; exact BX.row), Nat.le_trans hBr b5.size, b5⟩)
        have HZ5 : Hid (wr.heap.size < w5.heap.size) := hide (by have := BX.size; omega)
        have HE := hide he
        obtain ⟨q1, q2, q3⟩ := ent_parts (unhide H3 _ (List.mem_of_getElem? he))
        dsimp only at q1 q2 q3
        have CE := hide (encode_any v _ B w5 (unhide HP w5 (Below.refl _ _)).1 (unhide HP w5 (Below.refl _ _)).2.2.1)
        have k1 : codeR v = 0 := by simp [codeR, q3]
        have k2 : wenc0R v = wenc v := by simp [wenc0R, q3]
        rw [k1, k2] at CE
        have hwl : (wenc v).length ≤ 43008 := by have := wenc_len v; have := (right_wt q3).2; omega
        have hlo := unhide HLE i
        obtain ⟨L, hL⟩ : ∃ L, (outE es n i).length = L := ⟨_, rfl⟩
        rw [hL] at hlo HX
        have HL := hide hL
        clear hc hp BX hBr he k1 k2 hL
        go_wp2_with fail
        refine (unhide CE).mono ?_
        rintro e u6 ⟨ao6, l6, p6, rfl, r6, b6, n6, m6⟩
        have hl6 := r6.length
        obtain ⟨f0, f1, f2, f3, f4, f5⟩ := row_cell6 (unhide HP u6 b6).2.1
        have H6 := hide (And.intro r6 (And.intro b6 n6))
        clear r6 b6 n6 m6 CE d0 d1 d2 d3 d4 d5 c0 c1 c2 c3 c4 c5
        go_wp2_with fail
        refine (putText_any none 0 0 s [] u6 (nilRow _) (by omega)).mono ?_
        rintro e u7 ⟨g7, c7, hg7, rfl, o7, b7⟩
        simp only [Nat.zero_add, List.nil_append] at o7 ⊢
        have R7 := hide (Row8.own o7 (tx_small s (by omega)))
        have htl : (encF 9 (s.size : Int)).length + s.size ≤ 42 := by have := tx_len s; unfold tx at this; rw [List.length_append, nums_len] at this; omega
        obtain ⟨t7, ht7⟩ : ∃ t7, (encF 9 (s.size : Int)).length + s.size = t7 := ⟨_, rfl⟩
        rw [ht7] at R7 htl ⊢
        have X7 : Hid (Below wr.heap.size wr u7) := hide (by
          have z := unhide HP u6 (unhide H6).2.1
          exact z.2.2.2.trans (b7.mono z.2.2.2.size))
        have O7 := hide (own_below (unhide HX).1 (unhide X7))
        have hw7 : w.heap.size ≤ u7.heap.size := Nat.le_trans (unhide HX).2.size (unhide X7).size
        have HR8 : Hid (∀ (v8 : Value) (w8 : World), Grew u7 w8 u4 v8 → Row8 w8 ao6 l6 p6 (wenc v) ∧ w.heap.size ≤ w8.heap.size) := hide (fun v8 w8 hgr => by
          refine ⟨rowKeep ((unhide H6).1.later b7) (fun ad ha => ?_), Nat.le_trans hw7 hgr.grown.size⟩
          have hn := (unhide H6).2.2 ad ha
          have hz5 := unhide HZ5
          have hb := (unhide H6).1.block ad ha (by have := wenc_pos v 8 (right_wt q3).1; omega)
          refine hgr.far (Nat.lt_of_lt_of_le hb b7.size) (fun e => ?_)
          have := ((unhide HX).1.lt ad.block e.symm).2
          omega)
        clear o7 b7 hg7 f0 f1 f2 f3 f4 f5
        go_wp2_with (first | (at_builtin; refine wpl_app rfl (.tmp 31) (.tmp 34) rfl w.heap.size L u4 (outE es n i) rfl (unhide O7) (some ⟨g7, 0, none⟩) t7 c7 (encF 9 (s.size : Int) ++ nums s) rfl (unhide R7) (by omega) hw7 ?_; intro v8 w8 o8) | (at_builtin; refine wpl_app rfl (.tmp 35) (.tmp 36) rfl w.heap.size (L + t7) v8 _ rfl (unhide o8).1 ao6 l6 p6 (wenc v) rfl (unhide HR8 v8 w8 (unhide o8).2).1 (by omega) (unhide HR8 v8 w8 (unhide o8).2).2 ?_; intro v9 w9 o9))
        have HR' : Hid (w9.ownsRow w.heap.size 5 1 v9 (outE es n (i + 1)).length ((outE es n (i + 1)).map (Value.int .u8)) ∧ Below w.heap.size w w9) := hide (by
          obtain ⟨y1, y2⟩ := unhide o9
          rw [outE_next es n i s v (unhide HE)]
          have e : (outE es n i ++ (encF 9 (s.size : Int) ++ nums s) ++ wenc v).length = L + t7 + l6 := by
            rw [List.length_append, List.length_append, List.length_append, nums_len, unhide HL, hl6]
            omega
          rw [e]
          refine ⟨y1, ?_⟩
          have g8 := (unhide o8).2.below (unhide O7) hw7
          have g9 := y2.below (unhide o8).1 (unhide HR8 v8 w8 (unhide o8).2).2
          exact (unhide HX).2.trans (((unhide X7).mono (unhide HX).2.size).trans (g8.trans g9)))
        go_roundw
        case rel => exact ⟨i + 1, by go_num, HI1, HR'⟩
        case measure => have := unhide HI1; simp [intOf]; omega
      · have j1 : ¬ (i : Int) < (n : Int) := by omega
        have hin : i = n := by have := unhide HI; omega
        have hfin : outE es n i = encS es := by unfold outE encS; rw [hin, List.take_of_length_le (by have := unhide HN; omega), unhide HN]
        have HS : Hid (∀ c ∈ encS es, 0 ≤ c ∧ c ≤ 255) := hide (encS_small (unhide H3) (unhide H4) (by have := unhide HN; omega))
        rw [hfin] at HX
        obtain ⟨ao, cap, rfl, q1, q2⟩ := row8_ownS (unhide HX).1 (unhide HS)
        have HQ := hide (And.intro q1 (And.intro q2 (fun a (ha : ao = some a) => ((unhide HX).1.lt a.block (by rw [ha]; rfl)).1)))
        clear q1 q2 hfin hin
        obtain ⟨L, hL⟩ : ∃ L, (encS es).length = L := ⟨_, rfl⟩
        rw [hL] at HX HQ ⊢
        go_wp2_with fail
        go_ret2
        exact ⟨ao, L, cap, rfl, (unhide HQ).1, (unhide HX).2, (unhide HQ).2.2, (unhide HQ).2.1⟩
end Go.Proofs.Ytlmgiimgmjbkeaa

namespace Go.Proofs.Ytlmgiimgmjbkeaa
open Go.RowKit
set_option linter.unusedVariables false

theorem e0sE : (⟨#[]⟩ : ByteArray).size = 0 := rfl

theorem six_cells {w : World} {gv : Nat} {x0 x1 x2 x3 x4 x5 : Value} {E : TypeId} (h : w.heap[gv]? = some (.cells #[x0, x1, x2, x3, x4, x5] E (0, 0))) : ∀ j u, [x0, x1, x2, x3, x4, x5][j]? = some u → w.cell? ((⟨gv, 0, none⟩ : Addr).add j) = some u := by
  intro j u hj
  have hadd : (⟨gv, 0, none⟩ : Addr).add j = ⟨gv, j, none⟩ := by unfold Addr.add; split <;> simp_all
  rw [hadd, cell_of_row w gv j _ _ (0, 0) h, ← hj]
  simp

def es0 : List En := [(⟨#[98]⟩, .mk 1 1 ⟨#[]⟩ [] [])]

theorem size98 : (⟨#[98]⟩ : ByteArray).size = 1 := rfl
theorem es0_right : rightE es0 = true := by
  simp [rightE, es0, keysE, stepsE, entB, rightB, okB, okL, formB, formM, wt, wtL, keysW, entsW, entW, wt0, size98, e0sE]
theorem es0_bytes : encS es0 = [83, 83, 84, 49, 1, 1, 98, 2] := by
  simp [encS, es0, encEs, encE, headE, tx, wenc1, size98, nums]
  decide

/-- a value without lists lies in any memory -/
theorem plain_valS (w : World) (P : Nat → Prop) (k n : Int) (s : ByteArray) (bk : 0 ≤ k ∧ k ≤ 5) (bn : -9223372036854775808 ≤ n ∧ n ≤ 9223372036854775807) (bs : s.size ≤ 2048) :
    IsP w P (.mk k n s [] []) (.agg #[.int .i64 k, .int .i64 n, .string s, .slice none 0 0, .slice none 0 0]) := by
  have h := heap_alloc_new w (.cells #[.int .i64 k, .int .i64 n, .string s, .slice none 0 0, .slice none 0 0] 34)
  have hs : (w.alloc (.cells #[.int .i64 k, .int .i64 n, .string s, .slice none 0 0, .slice none 0 0] 34)).heap.size = w.heap.size + 1 := by simp
  generalize w.alloc (.cells #[.int .i64 k, .int .i64 n, .string s, .slice none 0 0, .slice none 0 0] 34) = u at h hs
  have M : Mid u (w.heap.size + 1) w.heap.size k n s [] [] (.slice none 0 0) (.slice none 0 0) 0 0 (fun _ => []) := ⟨h, by omega, by omega, World.ownsRow_nil _ _ _ _, World.ownsRow_nil _ _ _ _, Or.inl rfl, fun c h => by omega, fun c y h => by omega⟩
  exact (M.made rfl rfl (by omega) bn (by omega) (by simp) (by simp) (by simp)).1.to (fun b hb => by omega) (fun b hb => by omega)


theorem es0_is (w : World) (g : Nat) (h : w.heap[g]? = some (.cells #[.string ⟨#[98]⟩, .int .i64 1, .int .i64 1, .string ⟨#[]⟩, .slice none 0 0, .slice none 0 0] 48 (0, 0))) : IsE w (fun b => b < w.heap.size) es0 (some ⟨g, 0, none⟩) 1 := by
  refine ⟨fun _ => [.int .i64 1, .int .i64 1, .string ⟨#[]⟩, .slice none 0 0, .slice none 0 0], (fun e => by cases e), Nat.le_refl _, by simp [es0], ?_, ?_, ?_⟩
  · intro a ha i e he
    cases ha
    have hi : i = 0 := by have := (List.getElem?_eq_some_iff.1 he).1; simp [es0] at this; exact this
    subst hi
    simp [es0] at he
    subst he
    exact ⟨lt_of_row h, fun j v hv => six_cells h j v hv⟩
  · intro e he
    simp [es0] at he
    subst he
    rw [size98]
    omega
  · intro i e he
    have hi : i = 0 := by have := (List.getElem?_eq_some_iff.1 he).1; simp [es0] at this; exact this
    subst hi
    simp [es0] at he
    subst he
    exact ⟨rfl, plain_valS w _ 1 1 ⟨#[]⟩ (by omega) (by omega) (by rw [e0sE]; omega)⟩

set_option maxRecDepth 100000 in
set_option maxHeartbeats 400000 in
theorem shown_any (w : World) : Calls Try.prog 6 #[] w fun e w' => e = .returned (.bool true) ∧ Below w.heap.size w w' := by
  have BX := Box6.mk' w (.string ⟨#[98]⟩) (.int .i64 1) (.int .i64 1) (.string ⟨#[]⟩) (.slice none 0 0) (.slice none 0 0)
  obtain ⟨g, hg⟩ : ∃ g, w.heap.size = g := ⟨_, rfl⟩
  obtain ⟨w1, hw1⟩ : ∃ w1, w.alloc (.cells #[.string ⟨#[98]⟩, .int .i64 1, .int .i64 1, .string ⟨#[]⟩, .slice none 0 0, .slice none 0 0] 48) = w1 := ⟨_, rfl⟩
  rw [hw1] at BX
  have CE := hide (encodeS_any es0 (some ⟨g, 0, none⟩) 1 1 w1.heap.size w1 rfl (es0_is w1 g (by rw [← hg]; exact BX.row)) (Nat.le_refl _))
  have hc : codeS es0 = 0 := by unfold codeS; rw [es0_right]; rfl
  have hb : bytesS es0 = [83, 83, 84, 49, 1, 1, 98, 2] := by unfold bytesS; rw [es0_right, es0_bytes]; rfl
  rw [hc, hb] at CE
  have HB := hide BX
  clear hc hb BX
  go_enter Try.func6, Try.ntmps6
  go_wp2_with fail
  refine (unhide CE).mono ?_
  rintro e u ⟨ao, len, cap, rfl, r1, b1, _, _⟩
  have h8 : len = 8 := r1.length.symm
  subst h8
  obtain ⟨b, off, rfl, hcc⟩ := r1.at (by omega)
  have CV : Sem.run Try.prog (convert 44 9 (.slice (some ⟨b, off, none⟩) 8 cap)) u = .ok (.string ⟨#[83, 83, 84, 49, 1, 1, 98, 2]⟩) u := by
    have := conv_row (w := u) (len := 8) (zs := [83, 83, 84, 49, 1, 1, 98, 2]) rfl hcc 0 8 cap (by omega) 0
    rw [Nat.add_zero, List.drop_zero] at this
    exact this
  have B1 := hide ((unhide HB).below.trans (b1.mono (by have := (unhide HB).size; omega)))
  clear r1 b1 hcc CE HB
  go_wp2_with fail
  go_ret
  exact ⟨rfl, unhide B1⟩
end Go.Proofs.Ytlmgiimgmjbkeaa
