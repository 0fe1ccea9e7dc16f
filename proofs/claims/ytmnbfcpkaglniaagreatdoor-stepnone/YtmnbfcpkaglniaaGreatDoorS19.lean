/-
  Layer 12 (verify): which heights and which faults a module has, as functions of it; plain lists, no conditions.
  Layer 12 (verify): what stays so while a function's places are looked at; plain lists, no conditions.
-/
import Derived.Test.YtmnbfcpkaglniaaGreatDoorS17
import Derived.Test.YtmnbfcpkaglniaaGreatDoorS18
set_option linter.unusedVariables false
set_option linter.unusedSimpArgs false
namespace Go.Proofs.YtmnbfcpkaglniaaGreatDoor
open Go.RowKit
/-- heights by places (the newest first), the places that wait (rising) -/
abbrev Sv := List (Int × Int) × List Int
def vl0 : Vl := .mk 0 0 ⟨#[]⟩ [] []
def fn0 : Fn := (0, 0, 0, ⟨#[]⟩)
/-- is a constant of the kind that an operation asks for? -/
def servesB (op : Int) (v : Vl) : Bool := if op = 24 then decide (v.kind = 4) && v.l.all (fun y => decide (y.kind = 3)) else if op = 26 then decide (v.kind = 3) else true
/-- what is wrong with an instruction's operand -/
def opE (m : Md) (lo : Int) (ps : List Int) (i : Ins) : Int :=
  if srt i.1 = 1 then (if i.2 < (m.cs.length : Int) ∧ servesB i.1 (m.cs.getD i.2.toNat vl0) = true then 0 else 122)
  else if srt i.1 = 2 then (if i.2 < lo then 0 else 122)
  else if srt i.1 = 4 then (if i.2 < (m.fs.length : Int) then 0 else 122)
  else if srt i.1 = 3 then (if i.2 ∈ ps then 0 else 123)
  else 0
/-- the first of them -/
def opsE (m : Md) (lo : Int) (ps : List Int) : List Ins → List Int → Int × Int
  | i :: r, p :: q => if opE m lo ps i = 0 then opsE m lo ps r q else (p, opE m lo ps i)
  | _, _ => (0, 0)
def tksI (op : Int) : Int := (infoA op).1.2.2.1
def gvsI (op : Int) : Int := (infoA op).1.2.2.2.1
/-- what an instruction takes -/
def tkI (m : Md) (i : Ins) : Int :=
  if i.1 = 8 then (m.fs.getD i.2.toNat fn0).1 else if i.1 = 23 then i.2 else if i.1 = 24 then ((m.cs.getD i.2.toNat vl0).l.length : Int) else tksI i.1
/-- how many values there are behind it; or what is wrong -/
def pasI (m : Md) (sk : Int) (i : Ins) (h : Int) : Int × Int :=
  if h < tkI m i then (0, 124) else if sk < h - tkI m i + gvsI i.1 then (0, 125) else (h - tkI m i + gvsI i.1, 0)
/-- the place behind -/
def bhd (ps : List Int) (L : Int) (k : Nat) : Int := if k + 1 < ps.length then ps.getD (k + 1) 0 else L
/-- where an instruction leads -/
def lds (ps : List Int) (L : Int) (k : Nat) (i : Ins) : List Int :=
  if i.1 = 9 then [] else if i.1 = 5 then [i.2] else if i.1 = 6 then [bhd ps L k, i.2] else [bhd ps L k]
/-- a place among those that wait -/
def insW (a : Int) : List Int → List Int
  | [] => [a]
  | p :: r => if a ≤ p then a :: p :: r else p :: insW a r
/-- a way leads to a place -/
def rch (L a h : Int) (s : Sv) : Sv × Int :=
  if a = L then (s, 127)
  else match s.1.lookup a with
    | some x => if x = h then (s, 0) else (s, 126)
    | none => (((a, h) :: s.1, insW a s.2), 0)
def rchs (L t : Int) : List Int → Sv → Sv × Int
  | [], s => (s, 0)
  | n :: r, s => if (rch L n t s).2 = 0 then rchs L t r (rch L n t s).1 else rch L n t s
/-- a function's code, as instructions -/
structure Bo where
  m : Md
  sk : Int
  ls : List Ins
  ps : List Int
  L : Int
def Bo.pas (b : Bo) (s : Sv) (a : Int) : Int × Int := pasI b.m b.sk (b.ls.getD (b.ps.idxOf a) (0, 0)) ((s.1.lookup a).getD 0)
def Bo.lds (b : Bo) (a : Int) : List Int := Go.Proofs.YtmnbfcpkaglniaaGreatDoor.lds b.ps b.L (b.ps.idxOf a) (b.ls.getD (b.ps.idxOf a) (0, 0))
/-- all that waits is looked at, the least first: heights, place, fault -/
def wlk (b : Bo) : Nat → Int → Sv → List (Int × Int) × Int × Int
  | 0, at', s => (s.1, at', 0)
  | _ + 1, at', (H, []) => (H, at', 0)
  | f + 1, _, (H, a :: W) =>
    if (b.pas (H, W) a).2 = 0 then
      (if (rchs b.L (b.pas (H, W) a).1 (b.lds a) (H, W)).2 = 0 then wlk b f a (rchs b.L (b.pas (H, W) a).1 (b.lds a) (H, W)).1
       else ((rchs b.L (b.pas (H, W) a).1 (b.lds a) (H, W)).1.1, a, (rchs b.L (b.pas (H, W) a).1 (b.lds a) (H, W)).2))
    else (H, a, (b.pas (H, W) a).2)
/-- the bytes of a text -/
def zsT (t : ByteArray) : List Int := t.data.toList.map fun c => (c.toNat : Int)
def lsF (t : ByteArray) : Lst := lst (zsT t) (zsT t).length 0
def boF (m : Md) (fn : Fn) : Bo := ⟨m, fn.2.2.1, (lsF fn.2.2.2).1, (lsF fn.2.2.2).2.1, (fn.2.2.2.size : Int)⟩
/-- look: heights, place, fault -/
def lookF (m : Md) (fn : Fn) : List (Int × Int) × Int × Int :=
  if (lsF fn.2.2.2).2.2.2 = 0 then
    (if (lsF fn.2.2.2).1 = [] then ([], 0, 127)
     else if (opsE m fn.2.1 (lsF fn.2.2.2).2.1 (lsF fn.2.2.2).1 (lsF fn.2.2.2).2.1).2 = 0 then wlk (boF m fn) (lsF fn.2.2.2).2.1.length 0 ([(0, 0)], [0])
     else ([], (opsE m fn.2.1 (lsF fn.2.2.2).2.1 (lsF fn.2.2.2).1 (lsF fn.2.2.2).2.1).1, (opsE m fn.2.1 (lsF fn.2.2.2).2.1 (lsF fn.2.2.2).1 (lsF fn.2.2.2).2.1).2))
  else ([], (lsF fn.2.2.2).2.2.1, 121)
/-- a fault: code, function, place -/
abbrev Flt := Int × Int × Int
def fltF (m : Md) (f : Nat) : Flt := if (lookF m (m.fs.getD f fn0)).2.2 = 0 then (0, 0, 0) else ((lookF m (m.fs.getD f fn0)).2.2, (f : Int), (lookF m (m.fs.getD f fn0)).2.1)
/-- the first fault of the functions from one on -/
def modN (m : Md) : Nat → Nat → Flt
  | 0, _ => (0, 0, 0)
  | n + 1, f => if (fltF m f).1 = 0 then modN m n (f + 1) else fltF m f
def htsF (m : Md) (f : Nat) : List Int :=
  if (lookF m (m.fs.getD f fn0)).2.2 = 0 then (lsF (m.fs.getD f fn0).2.2.2).2.1.map fun p => ((lookF m (m.fs.getD f fn0)).1.lookup p).getD (-1) else []
/-- where a place stands, or would stand -/
def LowAt (l : List Int) (a : Int) (L : Nat) : Prop := L ≤ l.length ∧ ∀ i p, l[i]? = some p → (i < L ↔ p < a)
theorem insW_is (a : Int) : ∀ (l : List Int) (L : Nat), LowAt l a L → l.take L ++ a :: l.drop L = insW a l
  | [], L, h => by simp [insW]
  | p :: r, 0, h => by
    have := (h.2 0 p rfl)
    simp only [insW]
    rw [if_pos (by omega)]
    rfl
  | p :: r, L + 1, h => by
    have h0 := h.2 0 p rfl
    have ih := insW_is a r L ⟨by have := h.1; simp at this; omega, fun i q hq => by
      have := h.2 (i + 1) q (by simpa using hq)
      omega⟩
    simp only [insW]
    rw [if_neg (by omega), ← ih]
    rfl
theorem insW_len (a : Int) : ∀ l : List Int, (insW a l).length = l.length + 1
  | [] => rfl
  | p :: r => by
    simp only [insW]
    split
    · simp
    · simp [insW_len a r]
theorem insW_mem (a x : Int) : ∀ l : List Int, x ∈ insW a l ↔ x = a ∨ x ∈ l
  | [] => by simp [insW]
  | p :: r => by
    simp only [insW]
    split
    · simp
    · simp only [List.mem_cons, insW_mem a x r]
      constructor
      · rintro (h | h | h)
        · exact .inr (.inl h)
        · exact .inl h
        · exact .inr (.inr h)
      · rintro (h | h | h)
        · exact .inr (.inl h)
        · exact .inl h
        · exact .inr (.inr h)
theorem insW_rise (a : Int) : ∀ l : List Int, l.Pairwise (· < ·) → a ∉ l → (insW a l).Pairwise (· < ·)
  | [], _, _ => by simp [insW]
  | p :: r, h, hn => by
    rw [List.pairwise_cons] at h
    simp only [List.mem_cons, not_or] at hn
    simp only [insW]
    split
    · rename_i hap
      rw [List.pairwise_cons]
      refine ⟨fun x hx => ?_, List.pairwise_cons.2 h⟩
      rcases List.mem_cons.1 hx with rfl | hx
      · omega
      · have := h.1 x hx
        omega
    · rw [List.pairwise_cons]
      refine ⟨fun x hx => ?_, insW_rise a r h.2 hn.2⟩
      rcases (insW_mem a x r).1 hx with rfl | hx
      · omega
      · exact h.1 x hx
theorem rise_at {l : List Int} (h : l.Pairwise (· < ·)) {i j : Nat} {p q : Int} (hij : i < j) (hp : l[i]? = some p) (hq : l[j]? = some q) : p < q := by
  obtain ⟨hi, rfl⟩ := List.getElem?_eq_some_iff.1 hp
  obtain ⟨hj, rfl⟩ := List.getElem?_eq_some_iff.1 hq
  exact List.pairwise_iff_getElem.1 h i j hi hj hij
theorem idx_at {l : List Int} {a : Int} (h : a ∈ l) : l[l.idxOf a]? = some a := by
  rw [List.getElem?_eq_getElem (List.idxOf_lt_length_iff.2 h)]
  simp
theorem low_found {l : List Int} (h : l.Pairwise (· < ·)) {a : Int} {L : Nat} (hL : LowAt l a L) : (a ∈ l ↔ l[L]? = some a) ∧ (a ∈ l → L = l.idxOf a) := by
  have h2 : a ∈ l → L = l.idxOf a := fun ha => by
    have e := idx_at ha
    have h1 := hL.2 _ a e
    rcases Nat.lt_trichotomy L (l.idxOf a) with hc | hc | hc
    · obtain ⟨q, hq⟩ : ∃ q, l[L]? = some q := ⟨_, List.getElem?_eq_getElem (by have := List.idxOf_lt_length_iff.2 ha; omega)⟩
      have h3 := rise_at h hc hq e
      have h4 := (hL.2 L q hq).2 h3
      omega
    · exact hc
    · have := h1.1 hc
      omega
  exact ⟨⟨fun ha => by rw [h2 ha]; exact idx_at ha, fun e => List.mem_of_getElem? e⟩, h2⟩
/-- how many places no way has led to -/
def free (ps : List Int) (H : List (Int × Int)) : Nat := (ps.filter fun p => (H.lookup p).isNone).length
theorem filter_less {α : Type} (f g : α → Bool) (a : α) : ∀ l : List α, (∀ x, g x = true → f x = true) → a ∈ l → f a = true → g a = false → (l.filter g).length + 1 ≤ (l.filter f).length
  | [], _, ha, _, _ => by cases ha
  | x :: r, hfg, ha, h1, h2 => by
    have hle : (r.filter g).length ≤ (r.filter f).length := by
      clear ha h1 h2
      induction r with
      | nil => simp
      | cons y r ih =>
        simp only [List.filter_cons]
        cases hg : g y with
        | true => rw [hfg y hg]; simp; exact ih
        | false => cases f y <;> simp <;> omega
    by_cases hx : x = a
    · subst hx
      simp only [List.filter_cons, h1, h2]
      simp
      exact hle
    · have ha' : a ∈ r := by
        rcases List.mem_cons.1 ha with e | e
        · exact absurd e.symm hx
        · exact e
      have ih := filter_less f g a r hfg ha' h1 h2
      simp only [List.filter_cons]
      cases hg : g x with
      | true => rw [hfg x hg]; simp; exact ih
      | false => cases f x <;> simp <;> omega
theorem lookup_cons' (a h x : Int) (H : List (Int × Int)) : ((a, h) :: H).lookup x = if x = a then some h else H.lookup x := by
  rw [List.lookup_cons]
  by_cases e : x = a
  · subst e; simp
  · rw [if_neg e]
    have : (x == a) = false := by simpa using e
    rw [this]
/-- what is so of the places that are known -/
structure Inv (ps : List Int) (sk : Int) (s : Sv) : Prop where
  rise : s.2.Pairwise (· < ·)
  wait : ∀ a ∈ s.2, a ∈ ps ∧ (s.1.lookup a).isSome = true
  high : ∀ a h, s.1.lookup a = some h → a ∈ ps ∧ 0 ≤ h ∧ h ≤ sk
  cnt : s.1.length + free ps s.1 ≤ ps.length
def mu (ps : List Int) (s : Sv) : Nat := s.2.length + free ps s.1
theorem Inv.rch {ps : List Int} {sk : Int} {s : Sv} (v : Inv ps sk s) {L a h : Int} (ha : a = L ∨ a ∈ ps) (h0 : 0 ≤ h) (h1 : h ≤ sk) : Inv ps sk (rch L a h s).1 ∧ mu ps (rch L a h s).1 ≤ mu ps s := by
  unfold Go.Proofs.YtmnbfcpkaglniaaGreatDoor.rch
  split
  · exact ⟨v, Nat.le_refl _⟩
  · rename_i hne
    have ha' : a ∈ ps := by rcases ha with e | e; exact absurd e hne; exact e
    split
    · split
      · exact ⟨v, Nat.le_refl _⟩
      · exact ⟨v, Nat.le_refl _⟩
    · rename_i hn
      have hnw : a ∉ s.2 := fun hm => by have := (v.wait a hm).2; rw [hn] at this; cases this
      have hfl := filter_less (fun p => (s.1.lookup p).isNone) (fun p => (((a, h) :: s.1).lookup p).isNone) a ps (fun x hx => by
          rw [lookup_cons'] at hx
          split at hx
          · cases hx
          · exact hx) ha' (by simp [hn]) (by rw [lookup_cons']; simp)
      have hc := v.cnt
      refine ⟨⟨insW_rise a s.2 v.rise hnw, fun x hx => ?_, fun x y hx => ?_, by unfold free at hc ⊢; simp only [List.length_cons]; omega⟩, ?_⟩
      · rw [lookup_cons']
        rcases (insW_mem a x s.2).1 hx with rfl | hx
        · exact ⟨ha', by simp⟩
        · have := v.wait x hx
          refine ⟨this.1, ?_⟩
          split
          · rfl
          · exact this.2
      · rw [lookup_cons'] at hx
        split at hx
        · rename_i e
          subst e
          cases hx
          exact ⟨ha', h0, h1⟩
        · exact v.high x y hx
      · unfold mu free
        simp only [insW_len]
        omega
theorem Inv.rchs {ps : List Int} {sk : Int} {L t : Int} (h0 : 0 ≤ t) (h1 : t ≤ sk) : ∀ (l : List Int) {s : Sv}, Inv ps sk s → (∀ a ∈ l, a = L ∨ a ∈ ps) → Inv ps sk (rchs L t l s).1 ∧ mu ps (rchs L t l s).1 ≤ mu ps s
  | [], s, v, _ => ⟨v, Nat.le_refl _⟩
  | n :: r, s, v, hl => by
    have h := v.rch (L := L) (hl n (by simp)) h0 h1
    unfold Go.Proofs.YtmnbfcpkaglniaaGreatDoor.rchs
    split
    · have h2 := Inv.rchs h0 h1 r h.1 (fun a ha => hl a (by simp [ha]))
      exact ⟨h2.1, Nat.le_trans h2.2 h.2⟩
    · exact h
theorem Inv.pop {ps : List Int} {sk : Int} {H : List (Int × Int)} {a : Int} {W : List Int} (v : Inv ps sk (H, a :: W)) : Inv ps sk (H, W) ∧ mu ps (H, W) + 1 = mu ps (H, a :: W) ∧ a ∈ ps ∧ ∃ h, H.lookup a = some h ∧ 0 ≤ h ∧ h ≤ sk := by
  have hw := v.wait a (by simp)
  obtain ⟨h, hh⟩ : ∃ h, H.lookup a = some h := by
    have := hw.2
    simp only [] at this
    cases e : H.lookup a with
    | none => rw [e] at this; cases this
    | some h => exact ⟨h, rfl⟩
  refine ⟨⟨(List.pairwise_cons.1 v.rise).2, fun x hx => v.wait x (by simp [hx]), v.high, v.cnt⟩, ?_, hw.1, h, hh, (v.high a h hh).2⟩
  unfold mu
  simp only [List.length_cons]
  omega
theorem free_nil (ps : List Int) : free ps [] = ps.length := by
  unfold free
  simp
/-- the beginning -/
theorem Inv.start {ps : List Int} {sk : Int} (h0 : (0 : Int) ∈ ps) (hs : 0 ≤ sk) : Inv ps sk ([(0, 0)], [0]) ∧ mu ps ([(0, 0)], [0]) ≤ ps.length := by
  have h1 := filter_less (fun p : Int => (([] : List (Int × Int)).lookup p).isNone) (fun p => ([((0 : Int), (0 : Int))].lookup p).isNone) 0 ps (fun x hx => by rfl) h0 rfl (by simp)
  have h2 := free_nil ps
  unfold free at h2
  rw [h2] at h1
  refine ⟨⟨by simp, fun a ha => ?_, fun a h hh => ?_, ?_⟩, ?_⟩
  · simp at ha
    subst ha
    exact ⟨h0, by simp⟩
  · rw [lookup_cons'] at hh
    split at hh
    · rename_i e
      cases hh
      exact ⟨by rw [e]; exact h0, by omega, hs⟩
    · cases hh
  · unfold free
    simp only [List.length_cons, List.length_nil]
    omega
  · unfold mu free
    simp only [List.length_cons, List.length_nil]
    omega
end Go.Proofs.YtmnbfcpkaglniaaGreatDoor
