/-
  Entries in memory; no conditions.
  A store that was made behind a world w0: what its calls answer, and what it has then; conditions: the form's own reach.
-/
import Derived.Test.YtdaooapfokhfcaaA04
import Derived.Test.YtdaooapfokhfcaaA36
namespace Go.Proofs.Ytdaooapfokhfcaa
open Go.RowKit
set_option linter.unusedVariables false

/-- an entry: a key and its value -/
abbrev En := ByteArray × Vl

/-- how entries lie in memory, their values' lists in blocks of P -/
structure EsF (w : World) (P : Nat → Prop) (es : List En) (al : Option Addr) (cl : Nat) (V : Nat → List Value) : Prop where
  nl : al = none → es.length = 0 ∧ cl = 0
  ll : es.length ≤ cl
  bl : 96 * es.length ≤ 140737488351232
  hl : ∀ a, al = some a → ∀ i e, es[i]? = some e → P a.block ∧ ∀ j v, (Value.string e.1 :: V i)[j]? = some v → w.cell? ((a.add (i * 6)).add j) = some v
  bt : ∀ e ∈ es, e.1.size ≤ 140737488351232
  hv : ∀ i e, es[i]? = some e → (V i).length = 5 ∧ IsP w P e.2 (.agg (V i).toArray)

def IsE (w : World) (P : Nat → Prop) (es : List En) (al : Option Addr) (cl : Nat) : Prop := ∃ V, EsF w P es al cl V

theorem IsE.to {w w' : World} {P Q : Nat → Prop} (hw : ∀ b, P b → w'.heap[b]? = w.heap[b]?) (hP : ∀ b, P b → Q b) {es : List En} {al : Option Addr} {cl : Nat} (h : IsE w P es al cl) : IsE w' Q es al cl := by
  obtain ⟨V, h⟩ := h
  refine ⟨V, h.nl, h.ll, h.bl, fun a ha i e he => ⟨hP _ (h.hl a ha i e he).1, fun j v hv => ?_⟩, h.bt, fun i e he => ⟨(h.hv i e he).1, (h.hv i e he).2.to hw hP⟩⟩
  have e : w'.cell? ((a.add (i * 6)).add j) = w.cell? ((a.add (i * 6)).add j) := World.cell?_of_block (by rw [block_add, block_add]; exact hw _ (h.hl a ha i e he).1)
  rw [e]
  exact (h.hl a ha i _ he).2 j v hv

theorem IsE.weak {w : World} {P Q : Nat → Prop} (hP : ∀ b, P b → Q b) {es : List En} {al : Option Addr} {cl : Nat} (h : IsE w P es al cl) : IsE w Q es al cl := h.to (fun _ _ => rfl) hP
theorem IsE.move {w w' : World} {P : Nat → Prop} (hw : ∀ b, P b → w'.heap[b]? = w.heap[b]?) {es : List En} {al : Option Addr} {cl : Nat} (h : IsE w P es al cl) : IsE w' P es al cl := h.to hw (fun _ h => h)
theorem IsE.later {w w' : World} {B : Nat} {es : List En} {al : Option Addr} {cl : Nat} (h : IsE w (fun b => b < B) es al cl) (hb : Below B w w') : IsE w' (fun b => b < B) es al cl := h.move (fun b hl => hb.block b hl)

theorem IsE.len {w : World} {P : Nat → Prop} {es : List En} {al : Option Addr} {cl : Nat} (h : IsE w P es al cl) : es.length ≤ cl ∧ es.length ≤ 140737488351232 ∧ (al = none → es.length = 0) := by
  obtain ⟨V, h⟩ := h
  exact ⟨h.ll, by have := h.bl; omega, fun e => (h.nl e).1⟩

/-- the cells of an entry -/
theorem IsE.elem {w : World} {P : Nat → Prop} {es : List En} {al : Option Addr} {cl : Nat} (h : IsE w P es al cl) (i : Nat) (e : En) (he : es[i]? = some e) :
    ∃ (a : Addr) (x0 x1 : Int) (x2 : ByteArray) (al' ak' : Option Addr) (ll' m' cl' ck' : Nat), al = some a ∧ P a.block ∧ e.1.size ≤ 140737488351232 ∧ (∀ j v, [Value.string e.1, .int .i64 x0, .int .i64 x1, .string x2, .slice al' ll' cl', .slice ak' m' ck'][j]? = some v → w.cell? ((a.add (i * 6)).add j) = some v) ∧ IsP w P e.2 (.agg #[.int .i64 x0, .int .i64 x1, .string x2, .slice al' ll' cl', .slice ak' m' ck']) := by
  obtain ⟨V, h⟩ := h
  cases al with
  | none => have := (h.nl rfl).1; have := (List.getElem?_eq_some_iff.1 he).1; omega
  | some a =>
    obtain ⟨_, hp⟩ := h.hv i e he
    obtain ⟨k', n', s', l', ks', al', ak', cl', ck', hy', hx⟩ := hp.shape
    have hVi : V i = [.int .i64 k', .int .i64 n', .string s', .slice al' l'.length cl', .slice ak' ks'.length ck'] := by
      have h1 := Value.agg.inj hx
      have h2 := congrArg Array.toList h1
      simpa using h2
    have hc := h.hl a rfl i e he
    rw [hVi] at hc hp
    exact ⟨a, k', n', s', al', ak', l'.length, ks'.length, cl', ck', rfl, hc.1, h.bt e (List.mem_of_getElem? he), hc.2, hp⟩
end Go.Proofs.Ytdaooapfokhfcaa

namespace Go.Proofs.Ytdaooapfokhfcaa
open Go.RowKit
set_option linter.unusedVariables false
set_option linter.unusedSimpArgs false

/-- entries that came out, as they lie -/
theorem EnO.isE {w : World} {lo : Nat} {sv : Value} {es : List (ByteArray × (ThV × Vl))} (h : EnO w lo sv es) (hl : 96 * es.length ≤ 140737488351232) (hk : ∀ p ∈ es, p.1.size ≤ 140737488351232) : ∃ al cl, sv = .slice al es.length cl ∧ IsE w (fun b => lo ≤ b ∧ b < w.heap.size) (mapK Prod.snd es) al cl := by
  have hlen : (mapK Prod.snd es).length = es.length := mapK_len _ _
  have hget : ∀ (i : Nat) (e : En), (mapK Prod.snd es)[i]? = some e → ∃ p, es[i]? = some p ∧ e = (p.1, p.2.2) := fun i e he => by
    unfold mapK at he
    rw [List.getElem?_map] at he
    obtain ⟨p, hp, rfl⟩ := Option.map_eq_some_iff.1 he
    exact ⟨p, hp, rfl⟩
  rcases h.row.2 with ⟨e, e2⟩ | ⟨b, cap, cur, e, hb, hg, hc, hm, hs, ht⟩
  · refine ⟨none, 0, by rw [e, e2], fun i => match es[i]? with | some p => thV p.2.1 | none => [], fun _ => ⟨by rw [hlen]; exact e2, rfl⟩, by rw [hlen, e2]; exact Nat.le_refl _, by rw [hlen]; exact hl, (fun a ha => by cases ha), ?_, fun i q hq => ?_⟩
    · intro q hq
      obtain ⟨p, hp, rfl⟩ := List.mem_map.1 hq
      exact hk p hp
    · obtain ⟨p, hp, rfl⟩ := hget i q hq
      have := (List.getElem?_eq_some_iff.1 hp).1
      omega
  · refine ⟨some ⟨b, 0, none⟩, cap, e, fun i => match es[i]? with | some p => thV p.2.1 | none => [], (fun e => by cases e), by rw [hlen]; exact hc, by rw [hlen]; exact hl, ?_, ?_, ?_⟩
    · intro a ha i q hq
      cases ha
      obtain ⟨p, hp, rfl⟩ := hget i q hq
      refine ⟨⟨hb, (Array.getElem?_eq_some_iff.1 hg).1⟩, fun j v hv => ?_⟩
      rw [hp] at hv
      have h1 : (mapK Prod.fst es)[i]? = some (p.1, p.2.1) := by unfold mapK; rw [List.getElem?_map, hp]; rfl
      have h2 := cellsV_at (mapK Prod.fst es) i _ h1 j v hv
      have h3 := h.row.cells (show sv.ownBlock = some b by rw [e]; rfl) _ _ h2
      have e4 : ((⟨b, 0, none⟩ : Addr).add (i * 6)).add j = (⟨b, 0, none⟩ : Addr).add (i * 6 + j) := by
        rw [add_offR, add_offR, add_offR]
        simp only [Nat.zero_add]
      rw [e4]
      exact h3
    · intro q hq
      obtain ⟨p, hp, rfl⟩ := List.mem_map.1 hq
      exact hk p hp
    · intro i q hq
      obtain ⟨p, hp, rfl⟩ := hget i q hq
      rw [hp]
      exact ⟨rfl, (h.el p (List.mem_of_getElem? hp)).1.weak (fun b hb => ⟨hb.1.1, hb.1.2.1⟩)⟩

/-- a store that was made behind w0 -/
def Live (w0 w : World) (s : Nat) (X : Xs) (Bs : List Xs) : Prop := ∃ V t, t.s = s ∧ Stt w V t X Bs ∧ (∀ j, t.own j ∨ V j → w0.heap.size ≤ j) ∧ Below w0.heap.size w0 w

section
variable {w0 w w' : World} {s : Nat} {X B : Xs} {Bs : List Xs}

theorem Live.later (h : Live w0 w s X Bs) (hb : Below w.heap.size w w') : Live w0 w' s X Bs := by
  obtain ⟨V, t, h1, h2, h3, h4⟩ := h
  exact ⟨V, t, h1, h2.later hb, h3, h4.trans (hb.mono h4.size)⟩

theorem Live.below (h : Live w0 w s X Bs) : Below w0.heap.size w0 w := by
  obtain ⟨V, t, h1, h2, h3, h4⟩ := h
  exact h4

theorem live_adv {V V' : Nat → Prop} {t t' : Sx} {X' : Xs} {Bs' : List Xs} (h3 : ∀ j, t.own j ∨ V j → w0.heap.size ≤ j) (h4 : Below w0.heap.size w0 w) (hs : Stt w' V' t' X' Bs') (ha : Adv w w' V V' t t') : Live w0 w' t.s X' Bs' := by
  refine ⟨V', t', ha.s, hs, fun j hj => ?_, h4.trans (ha.fr.below h4.size (fun j hj => h3 j (.inl hj)))⟩
  have := h4.size
  rcases hj with hj | hj
  · rcases ha.own j hj with e | e
    · exact h3 j (.inl e)
    · omega
  · rcases ha.vs j hj with e | e
    · exact h3 j (.inr e)
    · omega

/-- what is said of its entries -/
theorem Live.facts (h : Live w0 w s X Bs) : Rk X ∧ (∀ p ∈ X, KeyOk p.1 ∧ rightB p.2 = true) ∧ X.length ≤ 128 := by
  obtain ⟨V, t, h1, h2, h3, h4⟩ := h
  exact ⟨h2.rk, h2.key, h2.len⟩

theorem live_new (hb : Below w0.heap.size w0 w) : Calls Try.prog 7 #[] w fun e w' => ∃ s, e = .returned (.pointer (some ⟨s, 0, none⟩)) ∧ Live w0 w' s [] [] ∧ Below w.heap.size w w' := by
  refine (store_new w).mono ?_
  rintro e w' ⟨t, rfl, hs, h1, h2, h3, h4, h5⟩
  refine ⟨t.s, rfl, ⟨_, t, rfl, ⟨hs, by unfold Sx.X; rw [h1]; rfl, by rw [h2]; rfl, by simp, by simp [tot], by rw [h3]; trivial⟩, fun j hj => ?_, hb.trans (h5.mono hb.size)⟩, h5⟩
  rcases hj with hj | hj
  · have := h4 j hj
    have := hb.size
    omega
  · exact hj.elim

theorem live_put {P : Nat → Prop} (h : Live w0 w s X Bs) (k : ByteArray) (v : Vl) (x : Value) (hv : IsP w P v x) (hP : ∀ j, P j → j < w0.heap.size) :
    Calls Try.prog 8 #[.pointer (some ⟨s, 0, none⟩), .string k, x] w fun e w' => e = .returned (.int .i64 (putE X k v)) ∧ Live w0 w' s (putX X k v) Bs := by
  obtain ⟨V, t, rfl, h2, h3, h4⟩ := h
  refine (put_store h2 k v x hv (fun j hj => ⟨Nat.lt_of_lt_of_le (hP j hj) h4.size, fun e => ?_⟩)).mono ?_
  · have h5 := h3 j (.inl e)
    have h6 := hP j hj
    omega
  · rintro e w' ⟨rfl, V', t', a, b⟩
    exact ⟨rfl, live_adv h3 h4 a b⟩

theorem live_done (h : Live w0 w s X Bs) (o : Opx) (x0 x1 : Int) (x2 : ByteArray) (x3 : Option Addr) (x4 x5 : Nat) (x6 : Option Addr) (x7 x8 : Nat) (bk : -9223372036854775808 ≤ o.kd ∧ o.kd ≤ 9223372036854775807) (hv : IsV w w0.heap.size o.v (.agg #[.int .i64 x0, .int .i64 x1, .string x2, .slice x3 x4 x5, .slice x6 x7 x8])) :
    Calls Try.prog 9 #[.pointer (some ⟨s, 0, none⟩), .agg #[.int .i64 o.kd, .string o.key, .int .i64 x0, .int .i64 x1, .string x2, .slice x3 x4 x5, .slice x6 x7 x8]] w fun e w' => (∃ r, e = .returned r) ∧ Live w0 w' s (doX X o) Bs := by
  obtain ⟨V, t, rfl, h2, h3, h4⟩ := h
  refine (done_any h2 o x0 x1 x2 x3 x4 x5 x6 x7 x8 bk hv (fun j hj => ⟨Nat.lt_of_lt_of_le hj h4.size, fun e => ?_⟩)).mono ?_
  · have h5 := h3 j (.inl e)
    have h6 : j < w0.heap.size := hj
    omega
  · rintro e w' ⟨hr, V', t', a, b⟩
    exact ⟨hr, live_adv h3 h4 a b⟩

theorem live_get (h : Live w0 w s X Bs) (k : ByteArray) : Calls Try.prog 20 #[.pointer (some ⟨s, 0, none⟩), .string k] w fun e w' => ∃ x, e = .returned (.tuple #[x, .bool (lookK X k).isSome]) ∧ Below w.heap.size w w' ∧ IsQ w' (fun b => w.heap.size ≤ b ∧ b < w'.heap.size) ((lookK X k).getD vz) x := by
  obtain ⟨V, t, rfl, h2, h3, h4⟩ := h
  exact get_store h2 k

theorem live_after (h : Live w0 w s X Bs) (k : ByteArray) : Calls Try.prog 19 #[.pointer (some ⟨s, 0, none⟩), .string k] w fun e w' => e = .returned (.tuple #[.string ((aft X k).getD ⟨#[]⟩), .bool (aft X k).isSome]) ∧ Below w.heap.size w w' := by
  obtain ⟨V, t, rfl, h2, h3, h4⟩ := h
  exact after_store h2 k

theorem live_len (h : Live w0 w s X Bs) : Calls Try.prog 22 #[.pointer (some ⟨s, 0, none⟩)] w fun e w' => e = .returned (.int .i64 (X.length : Int)) ∧ w' = w := by
  obtain ⟨V, t, rfl, h2, h3, h4⟩ := h
  exact len_store h2

theorem live_weight (h : Live w0 w s X Bs) : Calls Try.prog 18 #[.pointer (some ⟨s, 0, none⟩)] w fun e w' => e = .returned (.int .i64 (tot X : Int)) ∧ w' = w := by
  obtain ⟨V, t, rfl, h2, h3, h4⟩ := h
  exact weight_store h2

theorem live_open (h : Live w0 w s X Bs) : Calls Try.prog 15 #[.pointer (some ⟨s, 0, none⟩)] w fun e w' => e = .returned (.int .i64 (Bs.length : Int)) ∧ w' = w := by
  obtain ⟨V, t, rfl, h2, h3, h4⟩ := h
  exact open_store h2

theorem live_checkpoint (h : Live w0 w s X Bs) (hb : Bs.length ≤ 2000000000000) : Calls Try.prog 11 #[.pointer (some ⟨s, 0, none⟩)] w fun e w' => e = .returned (.int .i64 ((Bs.length + 1 : Nat) : Int)) ∧ Live w0 w' s X (X :: Bs) := by
  obtain ⟨V, t, rfl, h2, h3, h4⟩ := h
  refine (checkpoint_store h2 hb).mono ?_
  rintro e w' ⟨rfl, t', a, b⟩
  exact ⟨rfl, live_adv h3 h4 a b⟩

theorem live_rollback (h : Live w0 w s X (B :: Bs)) : Calls Try.prog 13 #[.pointer (some ⟨s, 0, none⟩)] w fun e w' => e = .returned (.int .i64 0) ∧ Live w0 w' s B Bs := by
  obtain ⟨V, t, rfl, h2, h3, h4⟩ := h
  refine (rollback_some h2).mono ?_
  rintro e w' ⟨rfl, t', a, b⟩
  exact ⟨rfl, live_adv h3 h4 a b⟩

theorem live_commit (h : Live w0 w s X (B :: Bs)) : Calls Try.prog 14 #[.pointer (some ⟨s, 0, none⟩)] w fun e w' => e = .returned (.int .i64 0) ∧ Live w0 w' s X Bs := by
  obtain ⟨V, t, rfl, h2, h3, h4⟩ := h
  refine (commit_some h2).mono ?_
  rintro e w' ⟨rfl, t', a, b⟩
  exact ⟨rfl, live_adv h3 h4 a b⟩

theorem live_rollback0 (h : Live w0 w s X []) : Calls Try.prog 13 #[.pointer (some ⟨s, 0, none⟩)] w fun e w' => e = .returned (.int .i64 63) ∧ Below w.heap.size w w' := by
  obtain ⟨V, t, rfl, h2, h3, h4⟩ := h
  exact rollback_none h2

theorem live_commit0 (h : Live w0 w s X []) : Calls Try.prog 14 #[.pointer (some ⟨s, 0, none⟩)] w fun e w' => e = .returned (.int .i64 63) ∧ Below w.heap.size w w' := by
  obtain ⟨V, t, rfl, h2, h3, h4⟩ := h
  exact commit_none h2

theorem stt_entries {V : Nat → Prop} {t : Sx} (h2 : Stt w V t X Bs) : Calls Try.prog 10 #[.pointer (some ⟨t.s, 0, none⟩)] w fun e w' => ∃ al cl, e = .returned (.slice al X.length cl) ∧ IsE w' (fun b => w.heap.size ≤ b ∧ b < w'.heap.size) X al cl ∧ Below w.heap.size w w' := by
  refine (entries_store h2).mono ?_
  rintro e w' ⟨sv, es, rfl, e1, e2, b⟩
  have hl : es.length = X.length := by rw [← e1]; exact (mapK_len _ _).symm
  obtain ⟨al, cl, rfl, hE⟩ := e2.isE (by have := h2.len; omega) (fun p hp => by
    have := (h2.key (p.1, p.2.2) (by rw [← e1]; exact List.mem_map.2 ⟨p, hp, rfl⟩)).1.2
    dsimp only at this
    omega)
  rw [e1] at hE
  rw [hl]
  exact ⟨al, cl, rfl, hE, b⟩

theorem live_entries (h : Live w0 w s X Bs) : Calls Try.prog 10 #[.pointer (some ⟨s, 0, none⟩)] w fun e w' => ∃ al cl, e = .returned (.slice al X.length cl) ∧ IsE w' (fun b => b < w'.heap.size) X al cl ∧ Below w.heap.size w w' := by
  obtain ⟨V, t, rfl, h2, h3, h4⟩ := h
  refine (stt_entries h2).mono ?_
  rintro e w' ⟨al, cl, rfl, hE, b⟩
  exact ⟨al, cl, rfl, hE.weak (fun b hb => hb.2), b⟩
end

/-- the first one -/
theorem put_first {k : ByteArray} {v : Vl} (hk : keyB k = true) (hr : rightB v = true) : putE [] k v = 0 ∧ putX [] k v = [(k, v)] := by
  have h1 := ew_le k v ((keyB_iff k).1 hk).2
  have hf : fitX [] k v = true := by
    unfold fitX
    rw [Bool.and_eq_true, decide_eq_true_eq, decide_eq_true_eq]
    constructor
    · simp [putK]
    · simp [putK, tot]
      omega
  constructor
  · unfold putE
    rw [if_pos hk, if_pos hr, if_pos hf]
  · unfold putX
    rw [if_pos ⟨hk, hr, hf⟩]
    rfl
end Go.Proofs.Ytdaooapfokhfcaa
